import Derived.Test.YtfgpceejoefkkaaDoorTextsRefStep0
import Derived.Test.YtfgpceejoefkkaaDoorTextsRefStep1
namespace Go.Proofs.YtfgpceejoefkkaaDoor
open Go.RowKit Go.Lull
set_option linter.unusedVariables false


set_option maxHeartbeats 400000 in
theorem stepOf_empty (s : ByteArray) (w : World) (h0 : s.size ≤ 0) (hE : s = ByteArray.empty) :
    Calls Tryd.prog 29 #[.string s] w (RefStep none w) := by
  go_enter Tryd.func29, Tryd.ntmps29
  go_wp2
  refine bodyPost_ret (v := .tuple #[.agg #[.bool false, .int .u8 0, .int .u8 0, .int .i64 0], .bool false]) (by simp [results, Tryd.results29, go_sem]) rfl ⟨false, 0, 0, 0, false, rfl, rfl, (by intro x h; cases h), ?_⟩
  exact ((Below.refl _ _).alloc (Nat.le_refl _) _).alloc (by simp) _

theorem stepOf_0 (s : ByteArray) (w : World) (hs : s.size ≤ 100) (hx0 : 0 < s.size) (hE : ¬ s = ByteArray.empty) (hx : ((s[0].toNat : Int) == 33) = false) :
    Calls Tryd.prog 29 #[.string s] w (RefStep (markB false (condB (s.data.toList.drop 0))) w) := by
  have hd : 0 < s.size := by omega
  have e0 := drop_get s 0 hd
  by_cases hlo : s[0].toNat < 97
  · rw [e0, condB_noletter (by simp [letterB]; omega)]
    exact st_low_0 s w hs hx0 hE hx hd hlo
  by_cases hhi : 122 < s[0].toNat
  · rw [e0, condB_noletter (by simp [letterB]; omega)]
    exact st_high_0 s w hs hx0 hE hx hd hlo hhi
  have hL : letterB s[0] = true := by simp [letterB]; omega
  by_cases h1 : s.size ≤ 1
  · rw [e0, drop_nil s 1 h1, condB_one hL]
    exact st_one_0 s w hs hx0 hE hx hd hlo hhi (by simp; omega) (by simp; omega)
  have hd1 : 1 < s.size := by omega
  have e1 := drop_get s 1 hd1
  by_cases hg : s[1].toNat = 60 ∨ s[1].toNat = 61 ∨ s[1].toNat = 62
  · have hS : signB s[1] = true := by simp [signB]; omega
    by_cases hm : 2 < s.size ∧ ∃ h : 2 < s.size, s[2].toNat = 45
    · obtain ⟨hm1, _, hm2⟩ := hm
      have e2 := drop_get s 2 hm1
      have e45 : s[2] = 45 := UInt8.toNat_inj.1 hm2
      have hx45 : ((s[2].toNat : Int) == 45) = true := by rw [hm2]; rfl
      have hdig := fun w => digits_any (s.extract 3 s.size) w (by rw [ByteArray.size_extract]; omega)
      rw [ex_end] at hdig
      rw [e0, e1, condB_sign hL hS, e2, e45, valB_neg]
      have hi1 := numI_lo (numB 1000 (s.data.toList.drop 3))
      have hi2 := numI_hi (l := s.data.toList.drop 3)
      generalize numB 1000 (s.data.toList.drop 3) = o at hdig hi1 hi2 ⊢
      have hfin1 : Hid (∀ b : Bool, b = decide (0 < numI o) → b = (markB false (withO (fun n => (s[0], s[1], n)) (negO o))).isSome) := by
        intro b hb; rw [markB, withO_isSome, withO_isSome, neg_some, hb]
      have hfin2 : ∀ x, markB false (withO (fun n => (s[0], s[1], n)) (negO o)) = some x → false = x.1 ∧ (s[0].toNat : Int) = x.2.1.toNat ∧ (s[1].toNat : Int) = x.2.2.1.toNat ∧ -numI o = x.2.2.2 := by
        intro x hx
        cases hn : negO o with
        | none => rw [hn] at hx; cases hx
        | some v => rw [hn] at hx; cases hx; exact ⟨rfl, rfl, rfl, (neg_val hn).symm⟩
      rcases hg with hg | hg | hg
      · exact st_neg60_0 s w hs hx0 hE hx hd hd1 hlo hhi (by omega) o _ hi1 hi2 hm1 hx45 hdig hfin1 (fun x h => by have := hfin2 x h; rw [hg] at this; exact this)
      · exact st_neg61_0 s w hs hx0 hE hx hd hd1 hlo hhi (by omega) o _ hi1 hi2 hm1 hx45 hdig hfin1 (fun x h => by have := hfin2 x h; rw [hg] at this; exact this)
      · exact st_neg62_0 s w hs hx0 hE hx hd hd1 hlo hhi (by omega) o _ hi1 hi2 hm1 hx45 hdig hfin1 (fun x h => by have := hfin2 x h; rw [hg] at this; exact this)
    · have hnm : ∀ r, s.data.toList.drop 2 ≠ 45 :: r := by
        intro r e
        by_cases h2 : 2 < s.size
        · rw [drop_get s 2 h2] at e
          exact hm ⟨h2, h2, by rw [(List.cons.inj e).1]; rfl⟩
        · rw [drop_nil s 2 (by omega)] at e; cases e
      have hdig := fun w => digits_any (s.extract 2 s.size) w (by rw [ByteArray.size_extract]; omega)
      rw [ex_end] at hdig
      rw [e0, e1, condB_sign hL hS, valB_pos hnm]
      have hi1 := numI_lo (numB 1000 (s.data.toList.drop 2))
      have hi2 := numI_hi (l := s.data.toList.drop 2)
      have key : s.size ≤ 2 ∨ (∃ h : 2 < s.size, ((s[2].toNat : Int) == 45) = false) := by
        by_cases h2 : 2 < s.size
        · refine Or.inr ⟨h2, ?_⟩
          have : s[2].toNat ≠ 45 := fun e => hm ⟨h2, h2, e⟩
          simp; omega
        · exact Or.inl (by omega)
      generalize numB 1000 (s.data.toList.drop 2) = o at hdig hi1 hi2 ⊢
      have hfin1 : Hid (∀ b : Bool, b = decide (0 ≤ numI o) → b = (markB false (withO (fun n => (s[0], s[1], n)) (posO o))).isSome) := by
        intro b hb; rw [markB, withO_isSome, withO_isSome, pos_some, hb]
      have hfin2 : ∀ x, markB false (withO (fun n => (s[0], s[1], n)) (posO o)) = some x → false = x.1 ∧ (s[0].toNat : Int) = x.2.1.toNat ∧ (s[1].toNat : Int) = x.2.2.1.toNat ∧ numI o = x.2.2.2 := by
        intro x hx
        cases hn : posO o with
        | none => rw [hn] at hx; cases hx
        | some v => rw [hn] at hx; cases hx; exact ⟨rfl, rfl, rfl, (pos_val hn).symm⟩
      rcases key with key | ⟨h2, key⟩
      · rcases hg with hg | hg | hg
        · exact st_pos60a_0 s w hs hx0 hE hx hd hd1 hlo hhi (by omega) o _ hi1 hi2 key hdig hfin1 (fun x h => by have := hfin2 x h; rw [hg] at this; exact this)
        · exact st_pos61a_0 s w hs hx0 hE hx hd hd1 hlo hhi (by omega) o _ hi1 hi2 key hdig hfin1 (fun x h => by have := hfin2 x h; rw [hg] at this; exact this)
        · exact st_pos62a_0 s w hs hx0 hE hx hd hd1 hlo hhi (by omega) o _ hi1 hi2 key hdig hfin1 (fun x h => by have := hfin2 x h; rw [hg] at this; exact this)
      · rcases hg with hg | hg | hg
        · exact st_pos60b_0 s w hs hx0 hE hx hd hd1 hlo hhi (by omega) o _ hi1 hi2 h2 key hdig hfin1 (fun x h => by have := hfin2 x h; rw [hg] at this; exact this)
        · exact st_pos61b_0 s w hs hx0 hE hx hd hd1 hlo hhi (by omega) o _ hi1 hi2 h2 key hdig hfin1 (fun x h => by have := hfin2 x h; rw [hg] at this; exact this)
        · exact st_pos62b_0 s w hs hx0 hE hx hd hd1 hlo hhi (by omega) o _ hi1 hi2 h2 key hdig hfin1 (fun x h => by have := hfin2 x h; rw [hg] at this; exact this)
  · rw [e0, e1, condB_nosign (by simp [signB]; omega)]
    exact st_nosign_0 s w hs hx0 hE hx hd hd1 hlo hhi (by simp; omega) (by omega) (by simp; omega) (by omega) (by simp; omega) (by omega)

theorem stepOf_1 (s : ByteArray) (w : World) (hs : s.size ≤ 100) (hx0 : 0 < s.size) (hE : ¬ s = ByteArray.empty) (hx : ((s[0].toNat : Int) == 33) = true) :
    Calls Tryd.prog 29 #[.string s] w (RefStep (markB true (condB (s.data.toList.drop 1))) w) := by
  by_cases h0 : s.size ≤ 1
  · rw [drop_nil s 1 h0]
    exact st_end_1 s w hs hx0 hE hx h0
  have hd : 1 < s.size := by omega
  have e0 := drop_get s 1 hd
  by_cases hlo : s[1].toNat < 97
  · rw [e0, condB_noletter (by simp [letterB]; omega)]
    exact st_low_1 s w hs hx0 hE hx hd hlo
  by_cases hhi : 122 < s[1].toNat
  · rw [e0, condB_noletter (by simp [letterB]; omega)]
    exact st_high_1 s w hs hx0 hE hx hd hlo hhi
  have hL : letterB s[1] = true := by simp [letterB]; omega
  by_cases h1 : s.size ≤ 2
  · rw [e0, drop_nil s 2 h1, condB_one hL]
    exact st_one_1 s w hs hx0 hE hx hd hlo hhi (by simp; omega) (by simp; omega)
  have hd1 : 2 < s.size := by omega
  have e1 := drop_get s 2 hd1
  by_cases hg : s[2].toNat = 60 ∨ s[2].toNat = 61 ∨ s[2].toNat = 62
  · have hS : signB s[2] = true := by simp [signB]; omega
    by_cases hm : 3 < s.size ∧ ∃ h : 3 < s.size, s[3].toNat = 45
    · obtain ⟨hm1, _, hm2⟩ := hm
      have e2 := drop_get s 3 hm1
      have e45 : s[3] = 45 := UInt8.toNat_inj.1 hm2
      have hx45 : ((s[3].toNat : Int) == 45) = true := by rw [hm2]; rfl
      have hdig := fun w => digits_any (s.extract 4 s.size) w (by rw [ByteArray.size_extract]; omega)
      rw [ex_end] at hdig
      rw [e0, e1, condB_sign hL hS, e2, e45, valB_neg]
      have hi1 := numI_lo (numB 1000 (s.data.toList.drop 4))
      have hi2 := numI_hi (l := s.data.toList.drop 4)
      generalize numB 1000 (s.data.toList.drop 4) = o at hdig hi1 hi2 ⊢
      have hfin1 : Hid (∀ b : Bool, b = decide (0 < numI o) → b = (markB true (withO (fun n => (s[1], s[2], n)) (negO o))).isSome) := by
        intro b hb; rw [markB, withO_isSome, withO_isSome, neg_some, hb]
      have hfin2 : ∀ x, markB true (withO (fun n => (s[1], s[2], n)) (negO o)) = some x → true = x.1 ∧ (s[1].toNat : Int) = x.2.1.toNat ∧ (s[2].toNat : Int) = x.2.2.1.toNat ∧ -numI o = x.2.2.2 := by
        intro x hx
        cases hn : negO o with
        | none => rw [hn] at hx; cases hx
        | some v => rw [hn] at hx; cases hx; exact ⟨rfl, rfl, rfl, (neg_val hn).symm⟩
      rcases hg with hg | hg | hg
      · exact st_neg60_1 s w hs hx0 hE hx hd hd1 hlo hhi (by omega) o _ hi1 hi2 hm1 hx45 hdig hfin1 (fun x h => by have := hfin2 x h; rw [hg] at this; exact this)
      · exact st_neg61_1 s w hs hx0 hE hx hd hd1 hlo hhi (by omega) o _ hi1 hi2 hm1 hx45 hdig hfin1 (fun x h => by have := hfin2 x h; rw [hg] at this; exact this)
      · exact st_neg62_1 s w hs hx0 hE hx hd hd1 hlo hhi (by omega) o _ hi1 hi2 hm1 hx45 hdig hfin1 (fun x h => by have := hfin2 x h; rw [hg] at this; exact this)
    · have hnm : ∀ r, s.data.toList.drop 3 ≠ 45 :: r := by
        intro r e
        by_cases h2 : 3 < s.size
        · rw [drop_get s 3 h2] at e
          exact hm ⟨h2, h2, by rw [(List.cons.inj e).1]; rfl⟩
        · rw [drop_nil s 3 (by omega)] at e; cases e
      have hdig := fun w => digits_any (s.extract 3 s.size) w (by rw [ByteArray.size_extract]; omega)
      rw [ex_end] at hdig
      rw [e0, e1, condB_sign hL hS, valB_pos hnm]
      have hi1 := numI_lo (numB 1000 (s.data.toList.drop 3))
      have hi2 := numI_hi (l := s.data.toList.drop 3)
      have key : s.size ≤ 3 ∨ (∃ h : 3 < s.size, ((s[3].toNat : Int) == 45) = false) := by
        by_cases h2 : 3 < s.size
        · refine Or.inr ⟨h2, ?_⟩
          have : s[3].toNat ≠ 45 := fun e => hm ⟨h2, h2, e⟩
          simp; omega
        · exact Or.inl (by omega)
      generalize numB 1000 (s.data.toList.drop 3) = o at hdig hi1 hi2 ⊢
      have hfin1 : Hid (∀ b : Bool, b = decide (0 ≤ numI o) → b = (markB true (withO (fun n => (s[1], s[2], n)) (posO o))).isSome) := by
        intro b hb; rw [markB, withO_isSome, withO_isSome, pos_some, hb]
      have hfin2 : ∀ x, markB true (withO (fun n => (s[1], s[2], n)) (posO o)) = some x → true = x.1 ∧ (s[1].toNat : Int) = x.2.1.toNat ∧ (s[2].toNat : Int) = x.2.2.1.toNat ∧ numI o = x.2.2.2 := by
        intro x hx
        cases hn : posO o with
        | none => rw [hn] at hx; cases hx
        | some v => rw [hn] at hx; cases hx; exact ⟨rfl, rfl, rfl, (pos_val hn).symm⟩
      rcases key with key | ⟨h2, key⟩
      · rcases hg with hg | hg | hg
        · exact st_pos60a_1 s w hs hx0 hE hx hd hd1 hlo hhi (by omega) o _ hi1 hi2 key hdig hfin1 (fun x h => by have := hfin2 x h; rw [hg] at this; exact this)
        · exact st_pos61a_1 s w hs hx0 hE hx hd hd1 hlo hhi (by omega) o _ hi1 hi2 key hdig hfin1 (fun x h => by have := hfin2 x h; rw [hg] at this; exact this)
        · exact st_pos62a_1 s w hs hx0 hE hx hd hd1 hlo hhi (by omega) o _ hi1 hi2 key hdig hfin1 (fun x h => by have := hfin2 x h; rw [hg] at this; exact this)
      · rcases hg with hg | hg | hg
        · exact st_pos60b_1 s w hs hx0 hE hx hd hd1 hlo hhi (by omega) o _ hi1 hi2 h2 key hdig hfin1 (fun x h => by have := hfin2 x h; rw [hg] at this; exact this)
        · exact st_pos61b_1 s w hs hx0 hE hx hd hd1 hlo hhi (by omega) o _ hi1 hi2 h2 key hdig hfin1 (fun x h => by have := hfin2 x h; rw [hg] at this; exact this)
        · exact st_pos62b_1 s w hs hx0 hE hx hd hd1 hlo hhi (by omega) o _ hi1 hi2 h2 key hdig hfin1 (fun x h => by have := hfin2 x h; rw [hg] at this; exact this)
  · rw [e0, e1, condB_nosign (by simp [signB]; omega)]
    exact st_nosign_1 s w hs hx0 hE hx hd hd1 hlo hhi (by simp; omega) (by omega) (by simp; omega) (by omega) (by simp; omega) (by omega)

theorem stepOf_any (s : ByteArray) (w : World) (hs : s.size ≤ 100) :
    Calls Tryd.prog 29 #[.string s] w (RefStep (stepB s.data.toList) w) := by
  by_cases h0 : s.size = 0
  · have e : s.data.toList = [] := List.length_eq_zero_iff.1 (by simpa using h0)
    have hE : s = ByteArray.empty := by simpa using h0
    rw [e]
    exact stepOf_empty s w (by omega) hE
  · have hp : 0 < s.size := by omega
    have hE : ¬ s = ByteArray.empty := fun e => h0 (by rw [e]; rfl)
    have e0 := head_of hp
    by_cases h33 : s[0].toNat = 33
    · have hx := stepOf_1 s w hs hp hE (by rw [h33]; rfl)
      have e33 : s[0] = 33 := UInt8.toNat_inj.1 h33
      rw [e0, e33, stepB_not]
      exact hx
    · have hx := stepOf_0 s w hs hp hE (by simp; omega)
      rw [stepB_must (fun r e => h33 (by rw [e0] at e; rw [(List.cons.inj e).1]; rfl))]
      exact hx
end Go.Proofs.YtfgpceejoefkkaaDoor
