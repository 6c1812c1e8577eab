import Derived.Test.YtfgpceejoefkkaaDoorTextsParse
namespace Go.Proofs.YtfgpceejoefkkaaDoor
open Go.RowKit Go.Lull
set_option linter.unusedVariables false

theorem wordOf_blank {l : List UInt8} : wordOf (32 :: l) = [] := by simp [wordOf]
theorem wordOf_other {c : UInt8} {l : List UInt8} (h : c.toNat ≠ 32) : wordOf (c :: l) = c :: wordOf l := by
  have h2 : (c != 32) = true := by
    simp; intro e; apply h; rw [e]; rfl
  simp [wordOf, h2]
theorem restOf_eq (l : List UInt8) : restOf l = if (wordOf l).length = l.length then none else some (l.drop ((wordOf l).length + 1)) := by
  rcases index32 l with ⟨e1, e2, e3⟩ | ⟨i, e1, e4, e2, e3⟩
  · rw [e2, e3, if_pos rfl]
  · have hl : (wordOf l).length = i := by rw [e2]; simp; omega
    rw [hl, if_neg (by omega), e3]

set_option maxHeartbeats 400000 in
theorem word_any (s : ByteArray) (at_ : Nat) (w : World) (hs : s.size ≤ 100) (ha : at_ ≤ s.size) :
    Calls Tryd.prog 28 #[.string s, .int .i64 at_] w fun e w' => ∃ t : ByteArray, e = .returned (.string t) ∧ t.data.toList = wordOf (s.data.toList.drop at_) ∧ w' = w := by
  go_enter Tryd.func28, Tryd.ntmps28
  go_wp2
  go_loop [5] (fun i => ∃ k : Nat, at_ ≤ k ∧ k ≤ s.size ∧ i = .int .i64 k ∧ Hid (wordOf (s.data.toList.drop at_) = (s.data.toList.drop at_).take (k - at_) ++ wordOf (s.data.toList.drop k))) (fun i => s.size - (intOf i).toNat)
  case atStart => exact ⟨at_, Nat.le_refl _, ha, rfl, by simp [Hid]⟩
  case round =>
    obtain ⟨k, hk1, hk2, rfl, H⟩ := hrel
    by_cases hlt : k < s.size
    · have hd := drop_cons s k hlt
      by_cases hb : s[k].toNat = 32
      · have e32 : s[k] = 32 := UInt8.toNat_inj.1 hb
        have H2 : Hid ((s.extract at_ k).data.toList = wordOf (s.data.toList.drop at_)) := by
          have := H.out
          rw [hd, e32, wordOf_blank, List.append_nil] at this
          unfold Hid; rw [this, ex_mid]
        have hq : ((s[k].toNat : Int) == 32) = true := by rw [hb]; rfl
        clear hd H hb e32
        go_wp2
        go_ret
        exact ⟨_, rfl, H2.out, rfl⟩
      · have H2 : Hid (wordOf (s.data.toList.drop at_) = (s.data.toList.drop at_).take (k + 1 - at_) ++ wordOf (s.data.toList.drop (k + 1))) := by
          have := H.out
          rw [hd, wordOf_other hb] at this
          unfold Hid
          have hg : (s.data.toList.drop at_)[k - at_]? = some s[k] := by
            rw [List.getElem?_drop, show at_ + (k - at_) = k by omega]
            simp [hlt]; rfl
          rw [this, show k + 1 - at_ = (k - at_) + 1 by omega, List.take_add_one, hg]
          simp
        have hq : ((s[k].toNat : Int) == 32) = false := by simp; omega
        clear hd H hb
        go_wp2
        go_round
        case rel => exact ⟨k + 1, by omega, by omega, by go_num, H2⟩
        case measure => simp [intOf]; omega
    · have H2 : Hid ((s.extract at_ k).data.toList = wordOf (s.data.toList.drop at_)) := by
        have := H.out
        rw [List.drop_of_length_le (i := k) (by simp; omega)] at this
        unfold Hid; rw [this, ex_mid]; simp [wordOf]
      clear H
      go_wp2
      go_ret
      exact ⟨_, rfl, H2.out, rfl⟩
end Go.Proofs.YtfgpceejoefkkaaDoor
