import Derived.Test.YtfgpceejoefkkaaDoorRows
import Derived.Test.YtfgpceejoefkkaaDoorPlain
import Derived.WalkKit
import Derived.WalkSpells
import Derived.WalkLawsBesides
namespace Go.Proofs.YtfgpceejoefkkaaDoor
open Go.RowKit Go.Lull
set_option linter.unusedVariables false

theorem ret_i {k : IntKind} {a b : Int} (h : a = b) : Ending.returned (.int k a) = .returned (.int k b) := by rw [h]


theorem numB_empty (most : Nat) (s : ByteArray) (h : s.size = 0) : numB most s.data.toList = none := by
  have e : s.data.toList = [] := List.length_eq_zero_iff.1 (by simpa using h)
  unfold numB; rw [if_pos e]
theorem numB_zero (most : Nat) (s : ByteArray) (h : 1 < s.size) (h2 : s[0].toNat = 48) : numB most s.data.toList = none := by
  have e := drop_cons s 0 (by omega)
  have e2 : s[0] = 48 := UInt8.toNat_inj.1 h2
  rw [List.drop_zero, e2] at e
  unfold numB; rw [if_neg (by rw [e]; simp), if_pos ⟨by simpa using h, by rw [e]; rfl⟩]
theorem numB_loop (most : Nat) (s : ByteArray) (h : 0 < s.size) (h2 : s.size = 1 ∨ s[0].toNat ≠ 48) : numB most s.data.toList = numL most 0 s.data.toList := by
  have e := drop_cons s 0 (by omega)
  rw [List.drop_zero] at e
  unfold numB
  rw [if_neg (by rw [e]; simp), if_neg]
  rintro ⟨h3, h4⟩
  rw [e] at h4
  simp only [List.head?_cons, Option.some.injEq] at h4
  rcases h2 with h2 | h2
  · have : s.data.toList.length = s.size := by simp
    omega
  · exact h2 (by rw [h4]; rfl)

theorem toNat_lt (c : UInt8) : c.toNat < 256 := UInt8.toNat_lt c

set_option maxHeartbeats 1000000 in
theorem digits_any (s : ByteArray) (w : World) (hs : s.size ≤ 1000000) :
    Calls Tryd.prog 30 #[.string s, .int .i64 1000] w fun e w' => e = .returned (.int .i64 (numI (numB 1000 s.data.toList))) ∧ w' = w := by
  by_cases h0 : s.size = 0
  · rw [numB_empty 1000 s h0]
    go_enter Tryd.func30, Tryd.ntmps30
    go_wp2
    go_ret
    exact ⟨rfl, rfl⟩
  have hp : 0 < s.size := by omega
  by_cases hz : 1 < s.size ∧ s[0].toNat = 48
  · obtain ⟨hz1, hz2⟩ := hz
    rw [numB_zero 1000 s hz1 hz2]
    have hb : ((s[0].toNat : Int) == 48) = true := by rw [hz2]; rfl
    clear hz2
    go_enter Tryd.func30, Tryd.ntmps30
    go_wp2
    go_ret
    exact ⟨rfl, rfl⟩
  rw [numB_loop 1000 s hp (by by_cases e : s.size = 1; exact Or.inl e; exact Or.inr fun h => hz ⟨by omega, h⟩)]
  have key : (¬ 1 < s.size) ∨ (1 < s.size ∧ ((s[0].toNat : Int) == 48) = false) := by
    by_cases e : 1 < s.size
    · refine Or.inr ⟨e, ?_⟩
      have : s[0].toNat ≠ 48 := fun h => hz ⟨e, h⟩
      simp; omega
    · exact Or.inl e
  clear hz
  rcases key with hz | ⟨hz, hb⟩
  all_goals
    go_enter Tryd.func30, Tryd.ntmps30
    go_wp2
    go_loop [5, 6] (fun n i => ∃ k m : Nat, k ≤ s.size ∧ m ≤ 1000 ∧ i = .int .i64 k ∧ n = .int .i64 m ∧ Hid (numL 1000 0 s.data.toList = numL 1000 m (s.data.toList.drop k))) (fun _ i => s.size - (intOf i).toNat)
    case atStart => exact ⟨0, 0, Nat.zero_le _, by omega, rfl, rfl, rfl⟩
    case round =>
      obtain ⟨k, m, hk, hm, rfl, rfl, H⟩ := hrel
      by_cases hlt : k < s.size
      · have hd := drop_cons s k hlt
        have H2 : Hid (numL 1000 0 s.data.toList = numL 1000 m (s[k] :: s.data.toList.drop (k + 1))) := by rw [← hd]; exact H
        clear hd H
        have hc := toNat_lt s[k]
        rcases (show s[k].toNat < 48 ∨ 57 < s[k].toNat ∨ (48 ≤ s[k].toNat ∧ s[k].toNat ≤ 57 ∧ 1000 < 10 * m + (s[k].toNat - 48)) ∨ (48 ≤ s[k].toNat ∧ s[k].toNat ≤ 57 ∧ ¬ 1000 < 10 * m + (s[k].toNat - 48)) from by omega) with h | h | ⟨h1, h2, h3⟩ | ⟨h1, h2, h3⟩
        · go_wp2
          go_ret
          exact ⟨ret_i (by rw [H2.out, numL_no (by omega)]; rfl), rfl⟩
        · go_wp2
          go_ret
          exact ⟨ret_i (by rw [H2.out, numL_no (by omega)]; rfl), rfl⟩
        · go_wp2
          go_ret
          exact ⟨ret_i (by rw [H2.out, numL_big ⟨h1, h2⟩ h3]; rfl), rfl⟩
        · go_wp2
          go_round
          case rel =>
            have R : Hid (numL 1000 0 s.data.toList = numL 1000 (10 * m + (s[k].toNat - 48)) (s.data.toList.drop (k + 1))) := by rw [← numL_step ⟨h1, h2⟩ h3]; exact H2
            first | exact ⟨k + 1, 10 * m + (s[k].toNat - 48), by omega, by omega, by go_num, by go_num, R⟩ | exact ⟨_, .int .i64 (10 * ↑m + ↑s[k].toNat - 48), .int .i64 (↑k + 1), ⟨k + 1, by omega, 10 * m + (s[k].toNat - 48), by omega, by go_num, by go_num, R⟩, rfl, rfl, rfl⟩
          case measure => simp [intOf]; omega
      · go_wp2
        go_ret
        exact ⟨ret_i (by rw [H.out, List.drop_of_length_le (by simp; omega)]; rfl), rfl⟩
end Go.Proofs.YtfgpceejoefkkaaDoor
