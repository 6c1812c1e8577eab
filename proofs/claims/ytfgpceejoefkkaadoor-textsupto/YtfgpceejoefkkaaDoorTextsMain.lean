import Derived.Test.YtfgpceejoefkkaaDoorTextsBegun
import Derived.Test.YtfgpceejoefkkaaDoorTextsRreg
namespace Go.Proofs.YtfgpceejoefkkaaDoor
open Go.RowKit Go.Lull
set_option linter.unusedVariables false

theorem regB_le (ls : List (List UInt8)) : (regB ls).2.2 ≤ 10 := by
  unfold regB
  cases badB ls with
  | some p => simp
  | none => by_cases h : 10 < ls.length <;> simp [h]; omega

/-- A row of numbers stays when another block alone is written. -/
theorem ints_stay {w w' : World} {rb n c : Nat} {a : Option Addr} {cs : Array Value} (h : ∃ base, w.ownsRow base 3 1 (.slice a n c) n (rangeV n)) (hBB : BB w.heap.size rb w w') (hr : w.heap[rb]? = some (.cells cs 63 (0, 0))) : ∃ base, w'.ownsRow base 3 1 (.slice a n c) n (rangeV n) := by
  obtain ⟨base, h⟩ := h
  refine ⟨base, h.1, ?_⟩
  rcases h.2 with h2 | ⟨g, cap, cur, h1, h2, h3, h4⟩
  · exact Or.inl h2
  · refine Or.inr ⟨g, cap, cur, h1, h2, ?_, h4⟩
    have hg := lt_of_block h3
    have hne : g ≠ rb := fun e => by rw [e, hr] at h3; cases h3
    by_cases hl : g < rb
    · rw [hBB.low.block g hl]; exact h3
    · rw [hBB.mid g (by omega) hg]; exact h3

set_option maxHeartbeats 1000000 in
theorem registered_any (w : World) (N bb eb rb : Nat) (s1 s0 r1 r4 r5 : Value) (ad : Option Addr) (b off cap : Nat) (ss : List ByteArray) (m : Int) (hm : w.cell? ⟨0, 0, none⟩ = some (.int .i64 m)) (h : TX w ad b off ss) (hbN : ss ≠ [] → b < N) (hlen : ss.length ≤ 1048576) (hcap : ss.length ≤ cap)
    (hE : w.heap[eb]? = some (.cells #[.pointer (some ⟨eb, 0, none⟩), s1, .slice none 0 0, .int .i64 0] 34 (0, 0)))
    (hR : w.heap[rb]? = some (.cells #[s0, r1, .slice none 0 0, .int .i64 0, r4, r5] 63 (0, 0)))
    (hb0 : w.cell? ⟨bb, 0, none⟩ = some (.pointer (some ⟨eb, 0, none⟩))) (hb1 : w.cell? ⟨bb, 1, none⟩ = some (.pointer (some ⟨rb, 0, none⟩)))
    (hNe : N ≤ eb) (hNr : N ≤ rb) (her : eb < rb) (hbe : eb < bb) :
    Calls Tryd.prog 6 #[.pointer (some ⟨bb, 0, none⟩), .slice ad ss.length cap] w fun e w' => ∃ v, e = .returned (.tuple #[v, .bool true]) ∧ Below N w w' := by
  have hez := lt_of_block hE
  have hrz := lt_of_block hR
  have hbz := block_lt_of_cell hb0
  have hreg := register_any w eb w.heap.size s1 ad b off cap ss m hm h hlen hcap ⟨hE, World.ownsRow_nil _ _ _ _, hez, Nat.le_refl _⟩
  have hreg2 : ∀ w1, BB w.heap.size eb w w1 → Calls Tryd.prog 12 #[.pointer (some ⟨rb, 0, none⟩), .slice ad ss.length cap] w1 fun e w2 => RegPost w1 rb (regB (ss.map (·.data.toList))) e w2 ∧ w1.heap[rb]? = some (.cells #[s0, r1, .slice none 0 0, .int .i64 0, r4, r5] 63 (0, 0)) := by
    intro w1 hBB
    have hR1 : w1.heap[rb]? = some (.cells #[s0, r1, .slice none 0 0, .int .i64 0, r4, r5] 63 (0, 0)) := by rw [hBB.mid rb her hrz]; exact hR
    have hX : TX w1 ad b off ss := by
      refine ⟨h.at_, fun hne => Nat.lt_of_lt_of_le (h.lt hne) hBB.low.size, fun k hk => ?_⟩
      have hne : ss ≠ [] := fun e => by rw [e] at hk; cases hk
      have := hbN hne
      rw [hBB.low.cell (p := ⟨b, off + k, none⟩) (by simp; omega)]
      exact h.cell k hk
    refine (rregister_any w1 rb s0 r1 r4 r5 ad b off cap ss hX hlen hcap hR1).mono ?_
    intro e w2 hP
    exact ⟨hP, hR1⟩
  have hle := regB_le (ss.map (·.data.toList))
  generalize regB (ss.map (·.data.toList)) = r at hreg hreg2 hle
  obtain ⟨r1', r2', n⟩ := r
  have HR2 := Hid.mk' hreg2
  clear hm h hbN hE hR hreg2
  have hcall : Calls Tryd.prog 11 #[.pointer (some ⟨eb, 0, none⟩), .slice ad ss.length cap] w fun e w1 => ∃ a c, e = .returned (.tuple #[.slice a n c, .int .i64 r1', .int .i64 r2']) ∧ Hid (∃ base, w1.ownsRow base 3 1 (.slice a n c) n (rangeV n)) ∧ BB w.heap.size eb w w1 := hreg
  clear hreg
  go_enter Tryd.func6, Tryd.ntmps6
  go_wp2_with (first | (go_at_call 11; refine hcall.mono ?_; rintro e w1 ⟨a, c, rfl, ho, hBB⟩; have hb1' := (hBB.cell (p := ⟨bb, 1, none⟩) hbe hbz).trans hb1) | (go_at_call 12; refine (HR2.out w1 hBB).mono ?_; rintro e w2 ⟨⟨a2, c2, rfl, ho2, hBB2⟩, hR1⟩; have ho1 := ints_stay ho.out hBB2 hR1; have HO1 := Hid.mk' ho1; have HO2 := Hid.mk' ho2; clear ho1 ho2 hR1) | (go_at_call 13; refine (sameInts_any _ _ _ _ _ _ hle HO1.out HO2.out).mono ?_; rintro e w3 ⟨rfl, q, rfl⟩) | go_in)
  go_ret2
  exact ⟨_, rfl, below_drewN ((hBB.low.mono hNe).trans (hBB2.low.mono hNr)) q⟩

set_option maxHeartbeats 1000000 in
theorem texts_any (w : World) (ad : Option Addr) (b off cap : Nat) (ss : List ByteArray) (m : Int) (hm : w.cell? ⟨0, 0, none⟩ = some (.int .i64 m)) (h : TX w ad b off ss) (hlen : ss.length ≤ 1048576) (hcap : ss.length ≤ cap) :
    Calls Tryd.prog 3 #[.slice ad ss.length cap] w fun e w' => e = .returned (.bool true) ∧ Below w.heap.size w w' := by
  have hz := block_lt_of_cell hm
  have hcall : Calls Tryd.prog 5 #[.int .i64 1] w fun e w1 => e = .returned (.tuple #[.pointer (some ⟨w.heap.size + 3, 0, none⟩), .bool true]) ∧ Below w.heap.size w w1 ∧
      Calls Tryd.prog 6 #[.pointer (some ⟨w.heap.size + 3, 0, none⟩), .slice ad ss.length cap] w1 fun e w' => ∃ v, e = .returned (.tuple #[v, .bool true]) ∧ Below w.heap.size w1 w' := by
    refine (begun_n 1 w (by omega) (by omega)).mono ?_
    rintro e w1 ⟨rfl, hB, hE, hR, hBo⟩
    refine ⟨rfl, hB, ?_⟩
    have hm1 : w1.cell? ⟨0, 0, none⟩ = some (.int .i64 m) := (hB.cell (p := ⟨0, 0, none⟩) hz).trans hm
    have hX : TX w1 ad b off ss := ⟨h.at_, fun hne => Nat.lt_of_lt_of_le (h.lt hne) hB.size, fun k hk => by
      have hne : ss ≠ [] := fun e => by rw [e] at hk; cases hk
      rw [hB.cell (p := ⟨b, off + k, none⟩) (h.lt hne)]
      exact h.cell k hk⟩
    exact registered_any w1 w.heap.size (w.heap.size + 3) w.heap.size (w.heap.size + 2) _ _ _ _ _ ad b off cap ss m hm1 hX h.lt hlen hcap hE hR (by rw [cell_of_row w1 _ 0 _ _ _ hBo]; rfl) (by rw [cell_of_row w1 _ 1 _ _ _ hBo]; rfl) (Nat.le_refl _) (by omega) (by omega) (by omega)
  clear hm h
  go_enter Tryd.func3, Tryd.ntmps3
  go_wp2_with (first | (go_at_call 5; refine hcall.mono ?_; rintro e w1 ⟨rfl, hb, hc⟩; have HC := Hid.mk' hc; clear hc) | (go_at_call 6; refine HC.out.mono ?_; rintro e w2 ⟨v, rfl, hb2⟩))
  go_ret
  exact ⟨rfl, hb.trans hb2⟩
end Go.Proofs.YtfgpceejoefkkaaDoor
