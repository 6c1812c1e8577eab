import Derived.Test.YtbgfannlfagoiaaGreatDoorZ37
namespace Go.Proofs.YtbgfannlfagoiaaGreatDoor
open Go.RowKit Go.Lull
set_option linter.unusedVariables false


set_option maxHeartbeats 400000 in
theorem stepOf_empty (s : ByteArray) (w : World) (h0 : s.size ≤ 0) (hE : s = ByteArray.empty) :
  Calls Tryz.prog 110 #[.string s] w (RefStep none w) := by
 go_enter Tryz.func110, Tryz.ntmps110
 go_wp2
 refine bodyPost_ret (v := .tuple #[.agg #[.bool false, .int .u8 0, .int .u8 0, .int .i64 0], .bool false]) (by simp [results, Tryz.results110, go_sem]) rfl ⟨false, 0, 0, 0, false, rfl, rfl, (by intro x h; cases h), ?_⟩
 exact ((Below.refl _ _).alloc (Nat.le_refl _) _).alloc (by simp) _

theorem stepOf_0 (s : ByteArray) (w : World) (hs : s.size ≤ 100) (hx0 : 0 < s.size) (hE : ¬ s = ByteArray.empty) (hx : ((s[0].toNat : Int) == 33) = false) :
  Calls Tryz.prog 110 #[.string s] w (RefStep (markB false (condB (s.data.toList.drop 0))) w) := by
 have hd : 0 < s.size := by omega
 have e0 := drop_get s 0 hd
 by_cases hlo : s[0].toNat < 97
 ·rw [e0, condB_noletter (by simp [letterB]; omega)]
  exact st_low_0 s w hs hx0 hE hx hd hlo
 by_cases hhi : 122 < s[0].toNat
 ·rw [e0, condB_noletter (by simp [letterB]; omega)]
  exact st_high_0 s w hs hx0 hE hx hd hlo hhi
 have hL : letterB s[0] = true := by simp [letterB]; omega
 by_cases h1 : s.size ≤ 1
 ·rw [e0, drop_nil s 1 h1, condB_one hL]
  exact st_one_0 s w hs hx0 hE hx hd hlo hhi (by simp; omega) (by simp; omega)
 have hd1 : 1 < s.size := by omega
 have e1 := drop_get s 1 hd1
 by_cases hg : s[1].toNat = 60 ∨ s[1].toNat = 61 ∨ s[1].toNat = 62
 ·have hS : signB s[1] = true := by simp [signB]; omega
  by_cases hm : 2 < s.size ∧ ∃ h : 2 < s.size, s[2].toNat = 45
  ·obtain ⟨hm1, _, hm2⟩ := hm
   have e2 := drop_get s 2 hm1
   have e45 : s[2] = 45 := UInt8.toNat_inj.1 hm2
   have hx45 : ((s[2].toNat : Int) == 45) = true := by rw [hm2]; rfl
   have hdig := fun w => digits_any (s.extract 3 s.size) w (by rw [ByteArray.size_extract]; omega)
   rw [ex_end] at hdig
   rw [e0, e1, condB_sign hL hS, e2, e45, valB_neg]
   have hi1 := numI_lo (numB 1000 (s.data.toList.drop 3))
   have hi2 := numI_hi (l := s.data.toList.drop 3)
   generalize numB 1000 (s.data.toList.drop 3) = o at hdig hi1 hi2 ⊢
   have hfin1 : Hid (∀ b : Bool, b = decide (0 < numI o) → b = (markB false (withO (fun n => (s[0], s[1], n)) (negO o))).isSome) := by
    intro b hb; rw [markB, withO_isSome, withO_isSome, neg_some, hb]
   have hfin2 : ∀ x, markB false (withO (fun n => (s[0], s[1], n)) (negO o)) = some x → false = x.1 ∧ (s[0].toNat : Int) = x.2.1.toNat ∧ (s[1].toNat : Int) = x.2.2.1.toNat ∧ -numI o = x.2.2.2 := by
    intro x hx
    cases hn : negO o with
    | none => rw [hn] at hx; cases hx
    | some v => rw [hn] at hx; cases hx; exact ⟨rfl, rfl, rfl, (neg_val hn).symm⟩
   rcases hg with hg | hg | hg
   ·exact st_neg60_0 s w hs hx0 hE hx hd hd1 hlo hhi (by omega) o _ hi1 hi2 hm1 hx45 hdig hfin1 (fun x h => by have := hfin2 x h; rw [hg] at this; exact this)
   ·exact st_neg61_0 s w hs hx0 hE hx hd hd1 hlo hhi (by omega) o _ hi1 hi2 hm1 hx45 hdig hfin1 (fun x h => by have := hfin2 x h; rw [hg] at this; exact this)
   ·exact st_neg62_0 s w hs hx0 hE hx hd hd1 hlo hhi (by omega) o _ hi1 hi2 hm1 hx45 hdig hfin1 (fun x h => by have := hfin2 x h; rw [hg] at this; exact this)
  ·have hnm : ∀ r, s.data.toList.drop 2 ≠ 45 :: r := by
    intro r e
    by_cases h2 : 2 < s.size
    ·rw [drop_get s 2 h2] at e
     exact hm ⟨h2, h2, by rw [(List.cons.inj e).1]; rfl⟩
    ·rw [drop_nil s 2 (by omega)] at e; cases e
   have hdig := fun w => digits_any (s.extract 2 s.size) w (by rw [ByteArray.size_extract]; omega)
   rw [ex_end] at hdig
   rw [e0, e1, condB_sign hL hS, valB_pos hnm]
   have hi1 := numI_lo (numB 1000 (s.data.toList.drop 2))
   have hi2 := numI_hi (l := s.data.toList.drop 2)
   have key : s.size ≤ 2 ∨ (∃ h : 2 < s.size, ((s[2].toNat : Int) == 45) = false) := by
    by_cases h2 : 2 < s.size
    ·refine Or.inr ⟨h2, ?_⟩
     have : s[2].toNat ≠ 45 := fun e => hm ⟨h2, h2, e⟩
     simp; omega
    ·exact Or.inl (by omega)
   generalize numB 1000 (s.data.toList.drop 2) = o at hdig hi1 hi2 ⊢
   have hfin1 : Hid (∀ b : Bool, b = decide (0 ≤ numI o) → b = (markB false (withO (fun n => (s[0], s[1], n)) (posO o))).isSome) := by
    intro b hb; rw [markB, withO_isSome, withO_isSome, pos_some, hb]
   have hfin2 : ∀ x, markB false (withO (fun n => (s[0], s[1], n)) (posO o)) = some x → false = x.1 ∧ (s[0].toNat : Int) = x.2.1.toNat ∧ (s[1].toNat : Int) = x.2.2.1.toNat ∧ numI o = x.2.2.2 := by
    intro x hx
    cases hn : posO o with
    | none => rw [hn] at hx; cases hx
    | some v => rw [hn] at hx; cases hx; exact ⟨rfl, rfl, rfl, (pos_val hn).symm⟩
   rcases key with key | ⟨h2, key⟩
   ·rcases hg with hg | hg | hg
    ·exact st_pos60a_0 s w hs hx0 hE hx hd hd1 hlo hhi (by omega) o _ hi1 hi2 key hdig hfin1 (fun x h => by have := hfin2 x h; rw [hg] at this; exact this)
    ·exact st_pos61a_0 s w hs hx0 hE hx hd hd1 hlo hhi (by omega) o _ hi1 hi2 key hdig hfin1 (fun x h => by have := hfin2 x h; rw [hg] at this; exact this)
    ·exact st_pos62a_0 s w hs hx0 hE hx hd hd1 hlo hhi (by omega) o _ hi1 hi2 key hdig hfin1 (fun x h => by have := hfin2 x h; rw [hg] at this; exact this)
   ·rcases hg with hg | hg | hg
    ·exact st_pos60b_0 s w hs hx0 hE hx hd hd1 hlo hhi (by omega) o _ hi1 hi2 h2 key hdig hfin1 (fun x h => by have := hfin2 x h; rw [hg] at this; exact this)
    ·exact st_pos61b_0 s w hs hx0 hE hx hd hd1 hlo hhi (by omega) o _ hi1 hi2 h2 key hdig hfin1 (fun x h => by have := hfin2 x h; rw [hg] at this; exact this)
    ·exact st_pos62b_0 s w hs hx0 hE hx hd hd1 hlo hhi (by omega) o _ hi1 hi2 h2 key hdig hfin1 (fun x h => by have := hfin2 x h; rw [hg] at this; exact this)
 ·rw [e0, e1, condB_nosign (by simp [signB]; omega)]
  exact st_nosign_0 s w hs hx0 hE hx hd hd1 hlo hhi (by simp; omega) (by omega) (by simp; omega) (by omega) (by simp; omega) (by omega)

theorem stepOf_1 (s : ByteArray) (w : World) (hs : s.size ≤ 100) (hx0 : 0 < s.size) (hE : ¬ s = ByteArray.empty) (hx : ((s[0].toNat : Int) == 33) = true) :
  Calls Tryz.prog 110 #[.string s] w (RefStep (markB true (condB (s.data.toList.drop 1))) w) := by
 by_cases h0 : s.size ≤ 1
 ·rw [drop_nil s 1 h0]
  exact st_end_1 s w hs hx0 hE hx h0
 have hd : 1 < s.size := by omega
 have e0 := drop_get s 1 hd
 by_cases hlo : s[1].toNat < 97
 ·rw [e0, condB_noletter (by simp [letterB]; omega)]
  exact st_low_1 s w hs hx0 hE hx hd hlo
 by_cases hhi : 122 < s[1].toNat
 ·rw [e0, condB_noletter (by simp [letterB]; omega)]
  exact st_high_1 s w hs hx0 hE hx hd hlo hhi
 have hL : letterB s[1] = true := by simp [letterB]; omega
 by_cases h1 : s.size ≤ 2
 ·rw [e0, drop_nil s 2 h1, condB_one hL]
  exact st_one_1 s w hs hx0 hE hx hd hlo hhi (by simp; omega) (by simp; omega)
 have hd1 : 2 < s.size := by omega
 have e1 := drop_get s 2 hd1
 by_cases hg : s[2].toNat = 60 ∨ s[2].toNat = 61 ∨ s[2].toNat = 62
 ·have hS : signB s[2] = true := by simp [signB]; omega
  by_cases hm : 3 < s.size ∧ ∃ h : 3 < s.size, s[3].toNat = 45
  ·obtain ⟨hm1, _, hm2⟩ := hm
   have e2 := drop_get s 3 hm1
   have e45 : s[3] = 45 := UInt8.toNat_inj.1 hm2
   have hx45 : ((s[3].toNat : Int) == 45) = true := by rw [hm2]; rfl
   have hdig := fun w => digits_any (s.extract 4 s.size) w (by rw [ByteArray.size_extract]; omega)
   rw [ex_end] at hdig
   rw [e0, e1, condB_sign hL hS, e2, e45, valB_neg]
   have hi1 := numI_lo (numB 1000 (s.data.toList.drop 4))
   have hi2 := numI_hi (l := s.data.toList.drop 4)
   generalize numB 1000 (s.data.toList.drop 4) = o at hdig hi1 hi2 ⊢
   have hfin1 : Hid (∀ b : Bool, b = decide (0 < numI o) → b = (markB true (withO (fun n => (s[1], s[2], n)) (negO o))).isSome) := by
    intro b hb; rw [markB, withO_isSome, withO_isSome, neg_some, hb]
   have hfin2 : ∀ x, markB true (withO (fun n => (s[1], s[2], n)) (negO o)) = some x → true = x.1 ∧ (s[1].toNat : Int) = x.2.1.toNat ∧ (s[2].toNat : Int) = x.2.2.1.toNat ∧ -numI o = x.2.2.2 := by
    intro x hx
    cases hn : negO o with
    | none => rw [hn] at hx; cases hx
    | some v => rw [hn] at hx; cases hx; exact ⟨rfl, rfl, rfl, (neg_val hn).symm⟩
   rcases hg with hg | hg | hg
   ·exact st_neg60_1 s w hs hx0 hE hx hd hd1 hlo hhi (by omega) o _ hi1 hi2 hm1 hx45 hdig hfin1 (fun x h => by have := hfin2 x h; rw [hg] at this; exact this)
   ·exact st_neg61_1 s w hs hx0 hE hx hd hd1 hlo hhi (by omega) o _ hi1 hi2 hm1 hx45 hdig hfin1 (fun x h => by have := hfin2 x h; rw [hg] at this; exact this)
   ·exact st_neg62_1 s w hs hx0 hE hx hd hd1 hlo hhi (by omega) o _ hi1 hi2 hm1 hx45 hdig hfin1 (fun x h => by have := hfin2 x h; rw [hg] at this; exact this)
  ·have hnm : ∀ r, s.data.toList.drop 3 ≠ 45 :: r := by
    intro r e
    by_cases h2 : 3 < s.size
    ·rw [drop_get s 3 h2] at e
     exact hm ⟨h2, h2, by rw [(List.cons.inj e).1]; rfl⟩
    ·rw [drop_nil s 3 (by omega)] at e; cases e
   have hdig := fun w => digits_any (s.extract 3 s.size) w (by rw [ByteArray.size_extract]; omega)
   rw [ex_end] at hdig
   rw [e0, e1, condB_sign hL hS, valB_pos hnm]
   have hi1 := numI_lo (numB 1000 (s.data.toList.drop 3))
   have hi2 := numI_hi (l := s.data.toList.drop 3)
   have key : s.size ≤ 3 ∨ (∃ h : 3 < s.size, ((s[3].toNat : Int) == 45) = false) := by
    by_cases h2 : 3 < s.size
    ·refine Or.inr ⟨h2, ?_⟩
     have : s[3].toNat ≠ 45 := fun e => hm ⟨h2, h2, e⟩
     simp; omega
    ·exact Or.inl (by omega)
   generalize numB 1000 (s.data.toList.drop 3) = o at hdig hi1 hi2 ⊢
   have hfin1 : Hid (∀ b : Bool, b = decide (0 ≤ numI o) → b = (markB true (withO (fun n => (s[1], s[2], n)) (posO o))).isSome) := by
    intro b hb; rw [markB, withO_isSome, withO_isSome, pos_some, hb]
   have hfin2 : ∀ x, markB true (withO (fun n => (s[1], s[2], n)) (posO o)) = some x → true = x.1 ∧ (s[1].toNat : Int) = x.2.1.toNat ∧ (s[2].toNat : Int) = x.2.2.1.toNat ∧ numI o = x.2.2.2 := by
    intro x hx
    cases hn : posO o with
    | none => rw [hn] at hx; cases hx
    | some v => rw [hn] at hx; cases hx; exact ⟨rfl, rfl, rfl, (pos_val hn).symm⟩
   rcases key with key | ⟨h2, key⟩
   ·rcases hg with hg | hg | hg
    ·exact st_pos60a_1 s w hs hx0 hE hx hd hd1 hlo hhi (by omega) o _ hi1 hi2 key hdig hfin1 (fun x h => by have := hfin2 x h; rw [hg] at this; exact this)
    ·exact st_pos61a_1 s w hs hx0 hE hx hd hd1 hlo hhi (by omega) o _ hi1 hi2 key hdig hfin1 (fun x h => by have := hfin2 x h; rw [hg] at this; exact this)
    ·exact st_pos62a_1 s w hs hx0 hE hx hd hd1 hlo hhi (by omega) o _ hi1 hi2 key hdig hfin1 (fun x h => by have := hfin2 x h; rw [hg] at this; exact this)
   ·rcases hg with hg | hg | hg
    ·exact st_pos60b_1 s w hs hx0 hE hx hd hd1 hlo hhi (by omega) o _ hi1 hi2 h2 key hdig hfin1 (fun x h => by have := hfin2 x h; rw [hg] at this; exact this)
    ·exact st_pos61b_1 s w hs hx0 hE hx hd hd1 hlo hhi (by omega) o _ hi1 hi2 h2 key hdig hfin1 (fun x h => by have := hfin2 x h; rw [hg] at this; exact this)
    ·exact st_pos62b_1 s w hs hx0 hE hx hd hd1 hlo hhi (by omega) o _ hi1 hi2 h2 key hdig hfin1 (fun x h => by have := hfin2 x h; rw [hg] at this; exact this)
 ·rw [e0, e1, condB_nosign (by simp [signB]; omega)]
  exact st_nosign_1 s w hs hx0 hE hx hd hd1 hlo hhi (by simp; omega) (by omega) (by simp; omega) (by omega) (by simp; omega) (by omega)

theorem stepOf_any (s : ByteArray) (w : World) (hs : s.size ≤ 100) :
  Calls Tryz.prog 110 #[.string s] w (RefStep (stepB s.data.toList) w) := by
 by_cases h0 : s.size = 0
 ·have e : s.data.toList = [] := List.length_eq_zero_iff.1 (by simpa using h0)
  have hE : s = ByteArray.empty := by simpa using h0
  rw [e]
  exact stepOf_empty s w (by omega) hE
 ·have hp : 0 < s.size := by omega
  have hE : ¬ s = ByteArray.empty := fun e => h0 (by rw [e]; rfl)
  have e0 := head_of hp
  by_cases h33 : s[0].toNat = 33
  ·have hx := stepOf_1 s w hs hp hE (by rw [h33]; rfl)
   have e33 : s[0] = 33 := UInt8.toNat_inj.1 h33
   rw [e0, e33, stepB_not]
   exact hx
  ·have hx := stepOf_0 s w hs hp hE (by simp; omega)
   rw [stepB_must (fun r e => h33 (by rw [e0] at e; rw [(List.cons.inj e).1]; rfl))]
   exact hx
end Go.Proofs.YtbgfannlfagoiaaGreatDoor

namespace Go.Proofs.YtbgfannlfagoiaaGreatDoor
open Go.RowKit Go.Lull
set_option linter.unusedVariables false

/-- A step's cells, as the reference holds it. -/
def stepC (x : Stp) : List Value := [.bool x.1, .int .u8 x.2.1.toNat, .int .u8 x.2.2.1.toNat, .int .i64 x.2.2.2]
theorem stepC_len (l : List Stp) : (l.flatMap stepC).length = l.length * 4 := by
 induction l with
 | nil => rfl
 | cons x l ih => simp [List.flatMap_cons, stepC, ih]; omega
theorem stepC_last (l : List Stp) (y : Stp) : ((l ++ [y]).flatMap stepC)[l.length * 4]? = some (.bool y.1) := by
 rw [List.flatMap_append, List.getElem?_append_right (by rw [stepC_len]; exact Nat.le_refl _), stepC_len]
 simp [stepC]

/-- A pattern of the reference, at block b. -/
structure RP (w : World) (b base : Nat) (steps : List Stp) (wn : Int) (v : Value) : Prop where
 blk : w.heap[b]? = some (.cells #[v, .int .i64 wn] 138 (0, 0))
 own : w.ownsRow base 174 4 v steps.length (steps.flatMap stepC)
 lt : b < base
 le : base ≤ w.heap.size

section
variable {w w' w1 w2 : World} {b base : Nat} {steps : List Stp} {wn : Int} {v : Value}
theorem RP.c0 (h : RP w b base steps wn v) : w.cell? ⟨b, 0, none⟩ = some v := by rw [cell_of_row w b 0 _ _ _ h.blk]; rfl
theorem RP.c1 (h : RP w b base steps wn v) : w.cell? ⟨b, 1, none⟩ = some (.int .i64 wn) := by rw [cell_of_row w b 1 _ _ _ h.blk]; rfl
theorem RP.fr (h : RP w b base steps wn v) (i : Nat) : w.frozen? ⟨b, i, none⟩ = false := frozen_of_row w b i _ _ h.blk
theorem RP.form (h : RP w b base steps wn v) : ∃ a cap, v = .slice a steps.length cap := by
 rcases h.own.2 with ⟨h, h0⟩ | ⟨g, cap, cur, h, _⟩
 ·exact ⟨_, _, h0 ▸ h⟩
 ·exact ⟨_, _, h⟩
theorem RP.below (h : RP w b base steps wn v) (hb : Below w.heap.size w w') : RP w' b base steps wn v := by
 refine ⟨by rw [hb.block b (Nat.lt_of_lt_of_le h.lt h.le)]; exact h.blk, ⟨h.own.1, ?_⟩, h.lt, Nat.le_trans h.le hb.size⟩
 rcases h.own.2 with h2 | ⟨g, cap, cur, h1, h2, h3, h4⟩
 ·exact Or.inl h2
 ·exact Or.inr ⟨g, cap, cur, h1, h2, by rw [hb.block g (lt_of_block h3)]; exact h3, h4⟩
theorem RP.set1 (h : RP w b base steps wn v) (x : Int) : RP (w.setCell ⟨b, 1, none⟩ (.int .i64 x)) b base steps x v :=
 ⟨by rw [heap_setCell_same w b 1 _ _ _ h.blk]; rfl, ownsRow_setCell_below h.own h.lt _, h.lt, by simpa using h.le⟩
theorem RP.last {l : List Stp} {y : Stp} {g cap : Nat} (h : RP w b base (l ++ [y]) wn (.slice (some ⟨g, 0, none⟩) (l ++ [y]).length cap)) : w.cell? ⟨g, l.length * 4, none⟩ = some (.bool y.1) := by
 rw [h.own.cellAt (l.length * 4) (by simp), stepC_last]
theorem RP.appended {g cap : Nat} {x : Stp} {o : Obj} (h : RP w b base steps wn v) (hb : Below w.heap.size w w1)
  (hown : w2.ownsRow base 174 4 (.slice (some ⟨g, 0, none⟩) (steps.length + 1) cap) (steps.length + 1) (steps.flatMap stepC ++ stepC x)) (hg : (w1.alloc o).grownBy w2 v.ownBlock) :
  RP (w2.setCell ⟨b, 0, none⟩ (.slice (some ⟨g, 0, none⟩) (steps.length + 1) cap)) b base (steps ++ [x]) wn (.slice (some ⟨g, 0, none⟩) (steps.length + 1) cap) ∧ Below b w (w2.setCell ⟨b, 0, none⟩ (.slice (some ⟨g, 0, none⟩) (steps.length + 1) cap)) ∧
   w2.cell? ⟨b, 0, none⟩ = some v ∧ w2.frozen? ⟨b, 0, none⟩ = false := by
 have h1 := h.below hb
 have hrow : ∀ k, v.ownBlock = some k → base ≤ k := by
  intro k hk
  rcases h.own.2 with ⟨e, _⟩ | ⟨g, cap, cur, e, hg, _⟩
  ·rw [e] at hk; cases hk
  ·rw [e] at hk; cases hk; exact hg
 have hB : Below base w w2 := ((hb.mono h.le).alloc h1.le o).grown hg (by have := h1.le; simp; omega) hrow
 have hblk : w2.heap[b]? = some (.cells #[v, .int .i64 wn] 138 (0, 0)) := by rw [hB.block b h.lt]; exact h.blk
 refine ⟨⟨?_, ?_, h.lt, ?_⟩, ?_, ?_, ?_⟩
 ·rw [heap_setCell_same w2 b 0 _ _ _ hblk]; rfl
 ·have := ownsRow_setCell_below hown (a := ⟨b, 0, none⟩) h.lt (.slice (some ⟨g, 0, none⟩) (steps.length + 1) cap)
  simpa using this
 ·have := hB.size; have := h.le; simp; omega
 ·exact (hB.mono (Nat.le_of_lt h.lt)).setCell (p := ⟨b, 0, none⟩) (Nat.le_refl _) _
 ·rw [cell_of_row w2 b 0 _ _ _ hblk]; rfl
 ·exact frozen_of_row w2 b 0 _ _ hblk
end

/-- What the reference's Parse hands back. -/
def RefParse (w : World) (o : Nat ⊕ St) (e : Ending) (w' : World) : Prop :=
 ∃ (a : Option Addr) (n cap : Nat) (wn place : Int), e = .returned (.tuple #[.agg #[.slice a n cap, .int .i64 wn], .int .i64 place]) ∧ Below w.heap.size w w' ∧
  (match o with
   | .inl p => place = p
   | .inr st => place = -1 ∧ n = st.1.length ∧ wn = st.2.1 ∧ w'.ownsRow w.heap.size 174 4 (.slice a n cap) st.1.length (st.1.flatMap stepC))

theorem Tryz.infoRStep : (Tryz.prog.info? 174).map (fun i => (i.zero, i.size, i.bytes)) = some (some (.agg #[.bool false, .int .u8 0, .int .u8 0, .int .i64 0]), 4, 16) := by kernel_rfl

set_option maxHeartbeats 400000 in
theorem rparse_long (s : ByteArray) (w : World) (hs : 100 < s.size) :
  Calls Tryz.prog 93 #[.string s] w (RefParse w (resB s.data.toList)) := by
 have e : resB s.data.toList = .inl 0 := by unfold resB; rw [if_pos (by simpa using hs)]
 rw [e]
 clear e
 go_enter Tryz.func93, Tryz.ntmps93
 go_wp2
 refine bodyPost_ret (v := .tuple #[.agg #[.slice none 0 0, .int .i64 0], .int .i64 0]) (by simp [results, Tryz.results93, go_sem]) rfl ⟨none, 0, 0, 0, 0, rfl, ?_, rfl⟩
 exact ((Below.refl _ _).alloc (Nat.le_refl _) _).alloc (by simp) _
end Go.Proofs.YtbgfannlfagoiaaGreatDoor

namespace Go.Proofs.YtbgfannlfagoiaaGreatDoor
open Go.RowKit Go.Lull
set_option linter.unusedVariables false

/-- The words from a place on; none behind the end. -/
def remW (l : List UInt8) (a : Nat) : List (List UInt8) := if a ≤ l.length then words (l.drop a) else []
theorem remW_end {l : List UInt8} {a : Nat} (h : l.length < a) : remW l a = [] := if_neg (by omega)
theorem remW_zero (l : List UInt8) : remW l 0 = words l := by unfold remW; rw [if_pos (Nat.zero_le _)]; rfl
theorem remW_step {l : List UInt8} {a : Nat} (h : a ≤ l.length) : remW l a = wordOf (l.drop a) :: remW l (a + (wordOf (l.drop a)).length + 1) ∧ a + (wordOf (l.drop a)).length ≤ l.length := by
 have hw := wordOf_le (l.drop a)
 have hr := restOf_eq (l.drop a)
 rw [List.length_drop] at hw hr
 refine ⟨?_, by omega⟩
 rw [remW, if_pos h]
 by_cases e : (wordOf (l.drop a)).length = l.length - a
 ·rw [if_pos e] at hr
  rw [words_none hr, remW_end (by omega)]
 ·rw [if_neg e] at hr
  rw [words_some hr, remW, if_pos (by omega), List.drop_drop]
  rfl
theorem remW_cons {l : List UInt8} {a : Nat} (h : a ≤ l.length) : ∃ x r, remW l a = x :: r := ⟨_, _, (remW_step h).1⟩

theorem resB_inl {l : List UInt8} {p : Nat} (hs : l.length ≤ 100) (h : runW ([], 0, 0) 0 (words l) = .inl p) : resB l = .inl p := by
 unfold resB; rw [if_neg (by omega), h]
theorem resB_inr {l : List UInt8} {st : St} (hs : l.length ≤ 100) (h : runW ([], 0, 0) 0 (words l) = .inr st) : resB l = if st.2.2 = 2 then .inr st else .inl l.length := by
 unfold resB; rw [if_neg (by omega), h]
theorem run_no {st : St} {p : Nat} {t : List UInt8} {r : List (List UInt8)} (h : takeB st t = none) : runW st p (t :: r) = .inl p := by simp [runW, h]
theorem run_yes {st st' : St} {p : Nat} {t : List UInt8} {r : List (List UInt8)} (h : takeB st t = some st') : runW st p (t :: r) = runW st' (p + t.length + 1) r := by simp [runW, h]

theorem take_word {steps : List Stp} {wn : Int} (h : steps ≠ []) : takeB (steps, wn, 0) [119, 105, 116, 104, 105, 110] = some (steps, wn, 1) := by simp [takeB, h]
theorem take_word0 {wn : Int} : takeB ([], wn, 0) [119, 105, 116, 104, 105, 110] = none := by simp [takeB]
theorem stepB_within : stepB [119, 105, 116, 104, 105, 110] = none := by decide
theorem rtake_none {steps : List Stp} {wn : Int} {t : List UInt8} (h : stepB t = none) (hw : t ≠ [119, 105, 116, 104, 105, 110] ∨ steps = []) : takeB (steps, wn, 0) t = none := by
 by_cases e : t = [119, 105, 116, 104, 105, 110]
 ·rcases hw with hw | hw
  ·exact absurd e hw
  ·subst hw; subst e; exact take_word0
 ·simp [takeB, e, h]
theorem take_not {steps : List Stp} {wn : Int} {t : List UInt8} {x : Stp} (h : stepB t = some x) (hm : mayB steps x = false) : takeB (steps, wn, 0) t = none := by
 have e : t ≠ [119, 105, 116, 104, 105, 110] := fun e => by rw [e, stepB_within] at h; cases h
 simp [takeB, e, h, hm]
theorem take_yes {steps : List Stp} {wn : Int} {t : List UInt8} {x : Stp} (h : stepB t = some x) (hm : mayB steps x = true) : takeB (steps, wn, 0) t = some (steps ++ [x], wn, 0) := by
 have e : t ≠ [119, 105, 116, 104, 105, 110] := fun e => by rw [e, stepB_within] at h; cases h
 simp [takeB, e, h, hm]
theorem take_num {steps : List Stp} {wn : Int} {t : List UInt8} {n : Nat} (h : numB 1000 t = some n) : takeB (steps, wn, 1) t = some (steps, (n : Int), 2) := by simp [takeB, h]
theorem take_nonum {steps : List Stp} {wn : Int} {t : List UInt8} (h : numB 1000 t = none) : takeB (steps, wn, 1) t = none := by simp [takeB, h]
theorem take_end {steps : List Stp} {wn : Int} {t : List UInt8} : takeB (steps, wn, 2) t = none := by simp [takeB]

theorem stepOf_no (s : ByteArray) (w : World) (hs : s.size ≤ 100) (ho : stepB s.data.toList = none) :
  Calls Tryz.prog 110 #[.string s] w fun e w' => ∃ n k g v, e = .returned (.tuple #[.agg #[.bool n, .int .u8 k, .int .u8 g, .int .i64 v], .bool false]) ∧ Below w.heap.size w w' := by
 have h := stepOf_any s w hs
 rw [ho] at h
 refine h.mono ?_
 rintro e w' ⟨n, k, g, v, b, rfl, hb, _, hB⟩
 rw [hb]
 exact ⟨n, k, g, v, rfl, hB⟩
theorem stepOf_yes (s : ByteArray) (x : Stp) (w : World) (hs : s.size ≤ 100) (ho : stepB s.data.toList = some x) :
  Calls Tryz.prog 110 #[.string s] w fun e w' => e = .returned (.tuple #[.agg #[.bool x.1, .int .u8 x.2.1.toNat, .int .u8 x.2.2.1.toNat, .int .i64 x.2.2.2], .bool true]) ∧ Below w.heap.size w w' := by
 have h := stepOf_any s w hs
 rw [ho] at h
 refine h.mono ?_
 rintro e w' ⟨n, k, g, v, b, rfl, hb, hx, hB⟩
 obtain ⟨rfl, rfl, rfl, rfl⟩ := hx x rfl
 rw [hb]
 exact ⟨rfl, hB⟩

theorem stepC_one (x : Stp) : ∀ u ∈ stepC x, u.oneCell' = true := by
 intro u hu
 simp [stepC] at hu
 rcases hu with rfl | rfl | rfl | rfl <;> rfl
theorem stepC_at (w : World) (x : Stp) (T n : Nat) (hn : n = w.heap.size) : ∀ j u, (stepC x)[j]? = some u → (w.alloc (.cells #[.bool x.1, .int .u8 x.2.1.toNat, .int .u8 x.2.2.1.toNat, .int .i64 x.2.2.2] T)).cell? ((⟨n, 0, none⟩ : Addr).add j) = some u := by
 intro j u h
 subst hn
 match j, h with
 | 0, h => simp [stepC] at h; subst h; simp [Addr.add]
 | 1, h => simp [stepC] at h; subst h; simp [Addr.add]
 | 2, h => simp [stepC] at h; subst h; simp [Addr.add]
 | 3, h => simp [stepC] at h; subst h; simp [Addr.add]
 | j + 4, h => simp [stepC] at h

/-- append of one step, in the reference. -/
theorem append_rstep (w : World) {ops : Array Oper} {rest : List Oper} {o : Oper} {a : Act} {Q : Exit → Act → World → Prop} (hgd : o.guard = none) (s x : Operand)
  (ho : o.op = .call { callee := .builtin .append, args := #[s, x], argTypes := #[136, 136] })
  (base : Nat) (v : Value) (n : Nat) (xs : List Value) (hs : a.eval s = v) (hown : w.ownsRow base 174 4 v n xs)
  (ad : Addr) (news : List Value) (hx : a.eval x = .slice (some ad) 1 1) (hl : news.length = 1 * 4) (hnews : ∀ j u, news[j]? = some u → w.cell? (ad.add j) = some u) (h1 : ∀ u ∈ news, u.oneCell' = true)
  (hn : n ≤ 8) (hbase : base ≤ w.heap.size)
  (h : ∀ g cap w', w'.ownsRow base 174 4 (.slice (some ⟨g, 0, none⟩) (n + 1) cap) (n + 1) (xs ++ news) → w.grownBy w' v.ownBlock → wpList Tryz.prog ops Q rest (a.put o.dst (.slice (some ⟨g, 0, none⟩) (n + 1) cap)) w') :
  wpList Tryz.prog ops Q (o :: rest) a w := by
 obtain ⟨i0, hi, hz0, hz1, hz2⟩ := info_parts Tryz.infoRStep
 exact wpList_append_lies w hgd s x 136 ho base 174 i0 _ 4 16 Tryz.underlying136 hi hz0 hz1 hz2 rfl (by decide) v n xs hs hown ad 1 1 news hx hl hnews h1 (by decide) (by unfold maxLen; omega) (by omega) hbase _ rfl
  (fun g cap w' h2 h3 _ _ => h g cap w' h2 h3)
end Go.Proofs.YtbgfannlfagoiaaGreatDoor
