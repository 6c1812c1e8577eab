import Derived.Test.YtfgpceejoefkkaaDoorTextsReg
import Derived.Deep.QuietTactic
import Derived.BigQuiet
namespace Go.Proofs.YtfgpceejoefkkaaDoor
open Go.RowKit Go.Lull
set_option linter.unusedVariables false

theorem range_cell {w : World} {base g cap n : Nat} (h : w.ownsRow base 3 1 (.slice (some ⟨g, 0, none⟩) n cap) n (rangeV n)) (k : Nat) (hk : k < n) : w.cell? ⟨g, k, none⟩ = some (.int .i64 (k : Int)) := by
  rw [h.cellAt k (by omega)]
  simp [rangeV, hk]

set_option maxHeartbeats 1000000 in
theorem sameInts_any (w : World) (a c : Option Addr) (n ca cc : Nat) (hn : n ≤ 10) (h1 : ∃ base, w.ownsRow base 3 1 (.slice a n ca) n (rangeV n)) (h2 : ∃ base, w.ownsRow base 3 1 (.slice c n cc) n (rangeV n)) :
    Calls Tryd.prog 13 #[.slice a n ca, .slice c n cc] w fun e w' => e = .returned (.bool true) ∧ ∃ q, w' = w.drewN q := by
  have H1 := Hid.mk' h1
  have H2 := Hid.mk' h2
  clear h1 h2
  go_enter Tryd.func13, Tryd.ntmps13
  go_wp2
  go_loopw [5] (fun i wr => ∃ k q : Nat, k ≤ n ∧ i = .int .i64 k ∧ wr = w.drewN q) (fun i _ => n - (intOf i).toNat)
  case atStart => exact ⟨0, 0, Nat.zero_le _, rfl, rfl⟩
  case round =>
    obtain ⟨k, q, hk, rfl, hw⟩ := hrel
    subst hw
    by_cases hlt : k < n
    · obtain ⟨g1, e1⟩ : ∃ g, a = some ⟨g, 0, none⟩ := by
        obtain ⟨_, h⟩ := H1.out
        rcases h.2 with ⟨_, h0⟩ | ⟨g, cp', cur, h1, _⟩
        · omega
        · exact ⟨g, (Value.slice.inj h1).1⟩
      obtain ⟨g2, e2⟩ : ∃ g, c = some ⟨g, 0, none⟩ := by
        obtain ⟨_, h⟩ := H2.out
        rcases h.2 with ⟨_, h0⟩ | ⟨g, cp', cur, h1, _⟩
        · omega
        · exact ⟨g, (Value.slice.inj h1).1⟩
      subst e1
      subst e2
      obtain ⟨b1, o1⟩ := H1.out
      obtain ⟨b2, o2⟩ := H2.out
      have x1 := range_cell o1 k hlt
      have x2 := range_cell o2 k hlt
      clear o1 o2
      go_wp2
      go_quiet (fail)
      go_wp2
      go_roundw
      case rel => exact ⟨k + 1, q + nq, by omega, by go_num, rfl⟩
      case measure => simp [intOf]; omega
    · go_wp2
      go_ret
      exact ⟨rfl, q, rfl⟩
end Go.Proofs.YtfgpceejoefkkaaDoor
