import Derived.Test.YtfgpceejoefkkaaDoorTextsNums
import Derived.Lib.Strings
namespace Go.Proofs.YtfgpceejoefkkaaDoor
open Go.RowKit Go.Lull
set_option linter.unusedVariables false

theorem toList_data (s : ByteArray) : s.toList = s.data.toList := by
  exact ByteArray.toList_eq s

theorem ret_2 {a b : Int} {c d : Bool} (h : a = b) (g : c = d) : Ending.returned (.tuple #[.int .i64 a, .bool c]) = .returned (.tuple #[.int .i64 b, .bool d]) := by rw [h, g]

set_option maxHeartbeats 1000000 in
theorem readNumber_any (s : ByteArray) (w : World) (hs : s.size ≤ 1000000) :
    Calls Tryd.prog 44 #[.string s, .int .i64 1000] w fun e w' => e = .returned (.tuple #[.int .i64 (num0 (numB 1000 s.data.toList)), .bool (numB 1000 s.data.toList).isSome]) ∧ w' = w := by
  have hl : s.data.toList.length = s.size := by simp
  have ht := toList_data s
  by_cases h0 : s.size = 0
  · have e : s.toList = [] := by rw [ht]; exact List.length_eq_zero_iff.1 (by omega)
    rw [numB_empty 1000 s h0]
    clear ht hl
    go_enter Tryd.func44, Tryd.ntmps44
    go_wp2
    go_ret2
    exact ⟨rfl, rfl⟩
  have hp : 0 < s.size := by omega
  have e0 : s.data.toList = s[0] :: s.data.toList.drop 1 := by simpa using drop_cons s 0 hp
  have hne : ¬ s.toList = [] := by rw [ht, e0]; simp
  have hne2 : s.toList.isEmpty = false := by rw [ht, e0]; rfl
  have key : (((s[0].toNat : Int) == 48) = true ∧ (s.toList == [48]) = false ∧ 1 < s.size ∧ s[0].toNat = 48) ∨ (((s[0].toNat : Int) == 48) = true ∧ (s.toList == [48]) = true ∧ s.size = 1) ∨ (((s[0].toNat : Int) == 48) = false ∧ s[0].toNat ≠ 48) := by
    by_cases hz : s[0].toNat = 48
    · have hb : ((s[0].toNat : Int) == 48) = true := by rw [hz]; rfl
      have h48 : s[0] = 48 := UInt8.toNat_inj.1 hz
      by_cases h1 : 1 < s.size
      · refine Or.inl ⟨hb, ?_, h1, hz⟩
        rw [ht]
        apply beq_false_of_ne
        intro h
        rw [h] at hl
        simp at hl; omega
      · refine Or.inr (Or.inl ⟨hb, ?_, by omega⟩)
        rw [ht, e0, h48, List.drop_of_length_le (by omega)]
        rfl
    · exact Or.inr (Or.inr ⟨by simp; omega, hz⟩)
  clear ht hl e0
  rcases key with ⟨hb, hq, h1, hz⟩ | ⟨hb, hq, h1⟩ | ⟨hb, hz⟩
  · rw [numB_zero 1000 s h1 hz]
    clear hz
    go_enter Tryd.func44, Tryd.ntmps44
    go_wp2
    go_ret2
    exact ⟨rfl, rfl⟩
  all_goals
    first | rw [numB_loop 1000 s hp (Or.inl h1)] | rw [numB_loop 1000 s hp (Or.inr hz)]
    first | clear h1 | clear hz
    go_enter Tryd.func44, Tryd.ntmps44
    go_wp2
    go_loop [6, 21] (fun n i => ∃ k m : Nat, k ≤ s.size ∧ m ≤ 1000 ∧ i = .int .i64 k ∧ n = .int .i64 m ∧ Hid (numL 1000 0 s.data.toList = numL 1000 m (s.data.toList.drop k))) (fun _ i => s.size - (intOf i).toNat)
    case atStart => exact ⟨0, 0, Nat.zero_le _, by omega, rfl, rfl, rfl⟩
    case round =>
      obtain ⟨k, m, hk, hm, rfl, rfl, H⟩ := hrel
      by_cases hlt : k < s.size
      · have hd := drop_cons s k hlt
        have H2 : Hid (numL 1000 0 s.data.toList = numL 1000 m (s[k] :: s.data.toList.drop (k + 1))) := by rw [← hd]; exact H
        clear hd H
        have hc := toNat_lt s[k]
        rcases (show s[k].toNat < 48 ∨ 57 < s[k].toNat ∨ (48 ≤ s[k].toNat ∧ s[k].toNat ≤ 57 ∧ 1000 < 10 * m + (s[k].toNat - 48)) ∨ (48 ≤ s[k].toNat ∧ s[k].toNat ≤ 57 ∧ ¬ 1000 < 10 * m + (s[k].toNat - 48)) from by omega) with h | h | ⟨h1, h2, h3⟩ | ⟨h1, h2, h3⟩
        · go_wp2
          go_ret2
          exact ⟨ret_2 (by rw [H2.out, numL_no (by omega)]; rfl) (by rw [H2.out, numL_no (by omega)]; rfl), rfl⟩
        · go_wp2
          go_ret2
          exact ⟨ret_2 (by rw [H2.out, numL_no (by omega)]; rfl) (by rw [H2.out, numL_no (by omega)]; rfl), rfl⟩
        · go_wp2
          go_ret2
          exact ⟨ret_2 (by rw [H2.out, numL_big ⟨h1, h2⟩ h3]; rfl) (by rw [H2.out, numL_big ⟨h1, h2⟩ h3]; rfl), rfl⟩
        · go_wp2
          go_round
          case rel =>
            have R : Hid (numL 1000 0 s.data.toList = numL 1000 (10 * m + (s[k].toNat - 48)) (s.data.toList.drop (k + 1))) := by rw [← numL_step ⟨h1, h2⟩ h3]; exact H2
            exact ⟨k + 1, 10 * m + (s[k].toNat - 48), by omega, by omega, by go_num, by go_num, R⟩
          case measure => simp [intOf]; omega
      · go_wp2
        go_ret2
        exact ⟨ret_2 (by rw [H.out, List.drop_of_length_le (by simp; omega)]; rfl) (by rw [H.out, List.drop_of_length_le (by simp; omega)]; rfl), rfl⟩
end Go.Proofs.YtfgpceejoefkkaaDoor
