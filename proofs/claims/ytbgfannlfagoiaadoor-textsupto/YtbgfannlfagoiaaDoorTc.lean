import Derived.Test.YtbgfannlfagoiaaDoorTb
namespace Go.Proofs.YtbgfannlfagoiaaDoor
open Go.RowKit Go.Lull
set_option linter.unusedVariables false

theorem wordOf_blank {l : List UInt8} : wordOf (32 :: l) = [] := by simp [wordOf]
theorem wordOf_other {c : UInt8} {l : List UInt8} (h : c.toNat ≠ 32) : wordOf (c :: l) = c :: wordOf l := by
  have h2 : (c != 32) = true := by
    simp; intro e; apply h; rw [e]; rfl
  simp [wordOf, h2]
theorem restOf_eq (l : List UInt8) : restOf l = if (wordOf l).length = l.length then none else some (l.drop ((wordOf l).length + 1)) := by
  rcases index32 l with ⟨e1, e2, e3⟩ | ⟨i, e1, e4, e2, e3⟩
  · rw [e2, e3, if_pos rfl]
  · have hl : (wordOf l).length = i := by rw [e2]; simp; omega
    rw [hl, if_neg (by omega), e3]

set_option maxHeartbeats 400000 in
theorem word_any (s : ByteArray) (at_ : Nat) (w : World) (hs : s.size ≤ 100) (ha : at_ ≤ s.size) :
    Calls Tryd.prog 73 #[.string s, .int .i64 at_] w fun e w' => ∃ t : ByteArray, e = .returned (.string t) ∧ t.data.toList = wordOf (s.data.toList.drop at_) ∧ w' = w := by
  go_enter Tryd.func73, Tryd.ntmps73
  go_wp2
  go_loop [5] (fun i => ∃ k : Nat, at_ ≤ k ∧ k ≤ s.size ∧ i = .int .i64 k ∧ Hid (wordOf (s.data.toList.drop at_) = (s.data.toList.drop at_).take (k - at_) ++ wordOf (s.data.toList.drop k))) (fun i => s.size - (intOf i).toNat)
  case atStart => exact ⟨at_, Nat.le_refl _, ha, rfl, by simp [Hid]⟩
  case round =>
    obtain ⟨k, hk1, hk2, rfl, H⟩ := hrel
    by_cases hlt : k < s.size
    · have hd := drop_cons s k hlt
      by_cases hb : s[k].toNat = 32
      · have e32 : s[k] = 32 := UInt8.toNat_inj.1 hb
        have H2 : Hid ((s.extract at_ k).data.toList = wordOf (s.data.toList.drop at_)) := by
          have := H.out
          rw [hd, e32, wordOf_blank, List.append_nil] at this
          unfold Hid; rw [this, ex_mid]
        have hq : ((s[k].toNat : Int) == 32) = true := by rw [hb]; rfl
        clear hd H hb e32
        go_wp2
        go_ret
        exact ⟨_, rfl, H2.out, rfl⟩
      · have H2 : Hid (wordOf (s.data.toList.drop at_) = (s.data.toList.drop at_).take (k + 1 - at_) ++ wordOf (s.data.toList.drop (k + 1))) := by
          have := H.out
          rw [hd, wordOf_other hb] at this
          unfold Hid
          have hg : (s.data.toList.drop at_)[k - at_]? = some s[k] := by
            rw [List.getElem?_drop, show at_ + (k - at_) = k by omega]
            simp [hlt]; rfl
          rw [this, show k + 1 - at_ = (k - at_) + 1 by omega, List.take_add_one, hg]
          simp
        have hq : ((s[k].toNat : Int) == 32) = false := by simp; omega
        clear hd H hb
        go_wp2
        go_round
        case rel => exact ⟨k + 1, by omega, by omega, by go_num, H2⟩
        case measure => simp [intOf]; omega
    · have H2 : Hid ((s.extract at_ k).data.toList = wordOf (s.data.toList.drop at_)) := by
        have := H.out
        rw [List.drop_of_length_le (i := k) (by simp; omega)] at this
        unfold Hid; rw [this, ex_mid]; simp [wordOf]
      clear H
      go_wp2
      go_ret
      exact ⟨_, rfl, H2.out, rfl⟩
end Go.Proofs.YtbgfannlfagoiaaDoor

namespace Go.Proofs.YtbgfannlfagoiaaDoor
open Go.RowKit Go.Lull
set_option linter.unusedVariables false

/-- What stepOf hands back. -/
def RefStep (o : Option Stp) (w : World) (e : Ending) (w' : World) : Prop :=
  ∃ (n : Bool) (k g v : Int) (b : Bool), e = .returned (.tuple #[.agg #[.bool n, .int .u8 k, .int .u8 g, .int .i64 v], .bool b]) ∧ b = o.isSome ∧ (∀ x, o = some x → n = x.1 ∧ k = x.2.1.toNat ∧ g = x.2.2.1.toNat ∧ v = x.2.2.2) ∧ Below w.heap.size w w'

theorem numI_lo (o : Option Nat) : -1 ≤ numI o := by cases o <;> simp [numI] <;> omega
theorem numI_hi {l : List UInt8} : numI (numB 1000 l) ≤ 1000 := by
  cases h : numB 1000 l with
  | none => simp [numI]
  | some n => have := numB_le h; simp [numI]; omega
theorem drop_get (s : ByteArray) (k : Nat) (h : k < s.size) : s.data.toList.drop k = s[k] :: s.data.toList.drop (k + 1) := drop_cons s k h
theorem drop_nil (s : ByteArray) (k : Nat) (h : s.size ≤ k) : s.data.toList.drop k = [] := List.drop_of_length_le (by simpa using h)

/-- A step whose mark is at the front, or not. -/
def markB (n : Bool) (o : Option (UInt8 × UInt8 × Int)) : Option Stp := withO (fun x => (n, x)) o

theorem neg_some {o : Option Nat} : (negO o).isSome = decide (0 < numI o) := by
  cases o with
  | none => rfl
  | some n => by_cases h : n = 0 <;> simp [negO, numI, h]; omega
theorem pos_some {o : Option Nat} : (posO o).isSome = decide (0 ≤ numI o) := by
  cases o with
  | none => rfl
  | some n => simp [posO, numI]
theorem neg_val {o : Option Nat} {v : Int} (h : negO o = some v) : v = -numI o := by
  cases o with
  | none => cases h
  | some n =>
    by_cases h0 : n = 0 <;> simp [negO, h0] at h
    simp [numI, h]
theorem pos_val {o : Option Nat} {v : Int} (h : posO o = some v) : v = numI o := by
  cases o with
  | none => cases h
  | some n => simp [posO] at h; simp [numI, h]

end Go.Proofs.YtbgfannlfagoiaaDoor

namespace Go.Proofs.YtbgfannlfagoiaaDoor
open Go.RowKit Go.Lull
set_option linter.unusedVariables false

set_option maxHeartbeats 400000 in
theorem st_low_0 (s : ByteArray) (w : World) (hs : s.size ≤ 100) (hx0 : 0 < s.size) (hE : ¬ s = ByteArray.empty) (hx : ((s[0].toNat : Int) == 33) = false) (hd : 0 < s.size) (hlo : s[0].toNat < 97) :
    Calls Tryd.prog 74 #[.string s] w (RefStep none w) := by
  go_enter Tryd.func74, Tryd.ntmps74
  go_wp2
  refine bodyPost_ret (v := .tuple #[.agg #[.bool false, .int .u8 0, .int .u8 0, .int .i64 0], .bool false]) (by simp [results, Tryd.results74, go_sem]) rfl ⟨false, 0, 0, 0, false, rfl, rfl, (by intro x h; cases h), ?_⟩
  exact ((Below.refl _ _).alloc (Nat.le_refl _) _).alloc (by simp) _

set_option maxHeartbeats 400000 in
theorem st_high_0 (s : ByteArray) (w : World) (hs : s.size ≤ 100) (hx0 : 0 < s.size) (hE : ¬ s = ByteArray.empty) (hx : ((s[0].toNat : Int) == 33) = false) (hd : 0 < s.size) (hlo : ¬ s[0].toNat < 97) (hhi : 122 < s[0].toNat) :
    Calls Tryd.prog 74 #[.string s] w (RefStep none w) := by
  go_enter Tryd.func74, Tryd.ntmps74
  go_wp2
  refine bodyPost_ret (v := .tuple #[.agg #[.bool false, .int .u8 0, .int .u8 0, .int .i64 0], .bool false]) (by simp [results, Tryd.results74, go_sem]) rfl ⟨false, 0, 0, 0, false, rfl, rfl, (by intro x h; cases h), ?_⟩
  exact ((Below.refl _ _).alloc (Nat.le_refl _) _).alloc (by simp) _

set_option maxHeartbeats 400000 in
theorem st_one_0 (s : ByteArray) (w : World) (hs : s.size ≤ 100) (hx0 : 0 < s.size) (hE : ¬ s = ByteArray.empty) (hx : ((s[0].toNat : Int) == 33) = false) (hd : 0 < s.size) (hlo : ¬ s[0].toNat < 97) (hhi : ¬ 122 < s[0].toNat) (hsz : ((s.size : Int) == 1) = true) (hsz2 : ((1 : Int) == s.size) = true) :
    Calls Tryd.prog 74 #[.string s] w (RefStep (some (false, s[0], 0, 0)) w) := by
  have hc := toNat_lt s[0]
  go_enter Tryd.func74, Tryd.ntmps74
  go_wp2
  refine bodyPost_ret (v := .tuple #[.agg #[.bool false, .int .u8 s[0].toNat, .int .u8 0, .int .i64 0], .bool true]) (by simp [results, Tryd.results74, go_sem]) rfl ⟨false, s[0].toNat, 0, 0, true, rfl, rfl, (by intro x h; cases h; exact ⟨rfl, rfl, rfl, rfl⟩), ?_⟩
  exact ((Below.refl _ _).alloc (Nat.le_refl _) _).alloc (by simp) _

set_option maxHeartbeats 400000 in
theorem st_nosign_0 (s : ByteArray) (w : World) (hs : s.size ≤ 100) (hx0 : 0 < s.size) (hE : ¬ s = ByteArray.empty) (hx : ((s[0].toNat : Int) == 33) = false) (hd : 0 < s.size) (hd1 : 1 < s.size) (hlo : ¬ s[0].toNat < 97) (hhi : ¬ 122 < s[0].toNat) (g60 : ((s[1].toNat : Int) != 60) = true) (p60 : ¬ (s[1].toNat : Int) = 60) (g61 : ((s[1].toNat : Int) != 61) = true) (p61 : ¬ (s[1].toNat : Int) = 61) (g62 : ((s[1].toNat : Int) != 62) = true) (p62 : ¬ (s[1].toNat : Int) = 62) :
    Calls Tryd.prog 74 #[.string s] w (RefStep none w) := by
  have hc := toNat_lt s[0]
  go_enter Tryd.func74, Tryd.ntmps74
  go_wp2
  refine bodyPost_ret (v := .tuple #[.agg #[.bool false, .int .u8 s[0].toNat, .int .u8 s[1].toNat, .int .i64 0], .bool false]) (by simp [results, Tryd.results74, go_sem]) rfl ⟨false, s[0].toNat, s[1].toNat, 0, false, rfl, rfl, (by intro x h; cases h), ?_⟩
  exact ((Below.refl _ _).alloc (Nat.le_refl _) _).alloc (by simp) _

set_option maxHeartbeats 400000 in
theorem st_neg60_0 (s : ByteArray) (w : World) (hs : s.size ≤ 100) (hx0 : 0 < s.size) (hE : ¬ s = ByteArray.empty) (hx : ((s[0].toNat : Int) == 33) = false) (hd : 0 < s.size) (hd1 : 1 < s.size) (hlo : ¬ s[0].toNat < 97) (hhi : ¬ 122 < s[0].toNat) (q : (s[1].toNat : Int) = 60) (o : Option Nat) (res : Option Stp) (hi1 : -1 ≤ numI o) (hi2 : numI o ≤ 1000) (hm1 : 2 < s.size) (hx45 : ((s[2].toNat : Int) == 45) = true) (hdig : ∀ w, Calls Tryd.prog 75 #[.string (s.extract 3 s.size), .int .i64 1000] w fun e w' => e = .returned (.int .i64 (numI o)) ∧ w' = w) (hfin1 : Hid (∀ b : Bool, b = decide (0 < numI o) → b = res.isSome)) (hfin2 : Hid (∀ x, res = some x → false = x.1 ∧ (s[0].toNat : Int) = x.2.1.toNat ∧ (60 : Int) = x.2.2.1.toNat ∧ -numI o = x.2.2.2)) :
    Calls Tryd.prog 74 #[.string s] w (RefStep res w) := by
  have hc := toNat_lt s[0]
  go_enter Tryd.func74, Tryd.ntmps74
  go_wp2_with (go_at_call 75; refine (hdig _).mono ?_; rintro e w' ⟨rfl, rfl⟩)
  refine bodyPost_ret (v := .tuple #[.agg #[.bool false, .int .u8 s[0].toNat, .int .u8 60, .int .i64 (-numI o)], .bool (decide (0 < numI o))]) (by simp [results, Tryd.results74, go_sem]) rfl ⟨false, s[0].toNat, 60, (-numI o), (decide (0 < numI o)), rfl, hfin1.out _ rfl, hfin2.out, ?_⟩
  exact ((Below.refl _ _).alloc (Nat.le_refl _) _).alloc (by simp) _

set_option maxHeartbeats 400000 in
theorem st_pos60a_0 (s : ByteArray) (w : World) (hs : s.size ≤ 100) (hx0 : 0 < s.size) (hE : ¬ s = ByteArray.empty) (hx : ((s[0].toNat : Int) == 33) = false) (hd : 0 < s.size) (hd1 : 1 < s.size) (hlo : ¬ s[0].toNat < 97) (hhi : ¬ 122 < s[0].toNat) (q : (s[1].toNat : Int) = 60) (o : Option Nat) (res : Option Stp) (hi1 : -1 ≤ numI o) (hi2 : numI o ≤ 1000) (key : s.size ≤ 2) (hdig : ∀ w, Calls Tryd.prog 75 #[.string (s.extract 2 s.size), .int .i64 1000] w fun e w' => e = .returned (.int .i64 (numI o)) ∧ w' = w) (hfin1 : Hid (∀ b : Bool, b = decide (0 ≤ numI o) → b = res.isSome)) (hfin2 : Hid (∀ x, res = some x → false = x.1 ∧ (s[0].toNat : Int) = x.2.1.toNat ∧ (60 : Int) = x.2.2.1.toNat ∧ numI o = x.2.2.2)) :
    Calls Tryd.prog 74 #[.string s] w (RefStep res w) := by
  have hc := toNat_lt s[0]
  go_enter Tryd.func74, Tryd.ntmps74
  go_wp2_with (go_at_call 75; refine (hdig _).mono ?_; rintro e w' ⟨rfl, rfl⟩)
  refine bodyPost_ret (v := .tuple #[.agg #[.bool false, .int .u8 s[0].toNat, .int .u8 60, .int .i64 (numI o)], .bool (decide (0 ≤ numI o))]) (by simp [results, Tryd.results74, go_sem]) rfl ⟨false, s[0].toNat, 60, (numI o), (decide (0 ≤ numI o)), rfl, hfin1.out _ rfl, hfin2.out, ?_⟩
  exact ((Below.refl _ _).alloc (Nat.le_refl _) _).alloc (by simp) _

set_option maxHeartbeats 400000 in
theorem st_pos60b_0 (s : ByteArray) (w : World) (hs : s.size ≤ 100) (hx0 : 0 < s.size) (hE : ¬ s = ByteArray.empty) (hx : ((s[0].toNat : Int) == 33) = false) (hd : 0 < s.size) (hd1 : 1 < s.size) (hlo : ¬ s[0].toNat < 97) (hhi : ¬ 122 < s[0].toNat) (q : (s[1].toNat : Int) = 60) (o : Option Nat) (res : Option Stp) (hi1 : -1 ≤ numI o) (hi2 : numI o ≤ 1000) (h2 : 2 < s.size) (key : ((s[2].toNat : Int) == 45) = false) (hdig : ∀ w, Calls Tryd.prog 75 #[.string (s.extract 2 s.size), .int .i64 1000] w fun e w' => e = .returned (.int .i64 (numI o)) ∧ w' = w) (hfin1 : Hid (∀ b : Bool, b = decide (0 ≤ numI o) → b = res.isSome)) (hfin2 : Hid (∀ x, res = some x → false = x.1 ∧ (s[0].toNat : Int) = x.2.1.toNat ∧ (60 : Int) = x.2.2.1.toNat ∧ numI o = x.2.2.2)) :
    Calls Tryd.prog 74 #[.string s] w (RefStep res w) := by
  have hc := toNat_lt s[0]
  go_enter Tryd.func74, Tryd.ntmps74
  go_wp2_with (go_at_call 75; refine (hdig _).mono ?_; rintro e w' ⟨rfl, rfl⟩)
  refine bodyPost_ret (v := .tuple #[.agg #[.bool false, .int .u8 s[0].toNat, .int .u8 60, .int .i64 (numI o)], .bool (decide (0 ≤ numI o))]) (by simp [results, Tryd.results74, go_sem]) rfl ⟨false, s[0].toNat, 60, (numI o), (decide (0 ≤ numI o)), rfl, hfin1.out _ rfl, hfin2.out, ?_⟩
  exact ((Below.refl _ _).alloc (Nat.le_refl _) _).alloc (by simp) _

set_option maxHeartbeats 400000 in
theorem st_neg61_0 (s : ByteArray) (w : World) (hs : s.size ≤ 100) (hx0 : 0 < s.size) (hE : ¬ s = ByteArray.empty) (hx : ((s[0].toNat : Int) == 33) = false) (hd : 0 < s.size) (hd1 : 1 < s.size) (hlo : ¬ s[0].toNat < 97) (hhi : ¬ 122 < s[0].toNat) (q : (s[1].toNat : Int) = 61) (o : Option Nat) (res : Option Stp) (hi1 : -1 ≤ numI o) (hi2 : numI o ≤ 1000) (hm1 : 2 < s.size) (hx45 : ((s[2].toNat : Int) == 45) = true) (hdig : ∀ w, Calls Tryd.prog 75 #[.string (s.extract 3 s.size), .int .i64 1000] w fun e w' => e = .returned (.int .i64 (numI o)) ∧ w' = w) (hfin1 : Hid (∀ b : Bool, b = decide (0 < numI o) → b = res.isSome)) (hfin2 : Hid (∀ x, res = some x → false = x.1 ∧ (s[0].toNat : Int) = x.2.1.toNat ∧ (61 : Int) = x.2.2.1.toNat ∧ -numI o = x.2.2.2)) :
    Calls Tryd.prog 74 #[.string s] w (RefStep res w) := by
  have hc := toNat_lt s[0]
  go_enter Tryd.func74, Tryd.ntmps74
  go_wp2_with (go_at_call 75; refine (hdig _).mono ?_; rintro e w' ⟨rfl, rfl⟩)
  refine bodyPost_ret (v := .tuple #[.agg #[.bool false, .int .u8 s[0].toNat, .int .u8 61, .int .i64 (-numI o)], .bool (decide (0 < numI o))]) (by simp [results, Tryd.results74, go_sem]) rfl ⟨false, s[0].toNat, 61, (-numI o), (decide (0 < numI o)), rfl, hfin1.out _ rfl, hfin2.out, ?_⟩
  exact ((Below.refl _ _).alloc (Nat.le_refl _) _).alloc (by simp) _

set_option maxHeartbeats 400000 in
theorem st_pos61a_0 (s : ByteArray) (w : World) (hs : s.size ≤ 100) (hx0 : 0 < s.size) (hE : ¬ s = ByteArray.empty) (hx : ((s[0].toNat : Int) == 33) = false) (hd : 0 < s.size) (hd1 : 1 < s.size) (hlo : ¬ s[0].toNat < 97) (hhi : ¬ 122 < s[0].toNat) (q : (s[1].toNat : Int) = 61) (o : Option Nat) (res : Option Stp) (hi1 : -1 ≤ numI o) (hi2 : numI o ≤ 1000) (key : s.size ≤ 2) (hdig : ∀ w, Calls Tryd.prog 75 #[.string (s.extract 2 s.size), .int .i64 1000] w fun e w' => e = .returned (.int .i64 (numI o)) ∧ w' = w) (hfin1 : Hid (∀ b : Bool, b = decide (0 ≤ numI o) → b = res.isSome)) (hfin2 : Hid (∀ x, res = some x → false = x.1 ∧ (s[0].toNat : Int) = x.2.1.toNat ∧ (61 : Int) = x.2.2.1.toNat ∧ numI o = x.2.2.2)) :
    Calls Tryd.prog 74 #[.string s] w (RefStep res w) := by
  have hc := toNat_lt s[0]
  go_enter Tryd.func74, Tryd.ntmps74
  go_wp2_with (go_at_call 75; refine (hdig _).mono ?_; rintro e w' ⟨rfl, rfl⟩)
  refine bodyPost_ret (v := .tuple #[.agg #[.bool false, .int .u8 s[0].toNat, .int .u8 61, .int .i64 (numI o)], .bool (decide (0 ≤ numI o))]) (by simp [results, Tryd.results74, go_sem]) rfl ⟨false, s[0].toNat, 61, (numI o), (decide (0 ≤ numI o)), rfl, hfin1.out _ rfl, hfin2.out, ?_⟩
  exact ((Below.refl _ _).alloc (Nat.le_refl _) _).alloc (by simp) _

set_option maxHeartbeats 400000 in
theorem st_pos61b_0 (s : ByteArray) (w : World) (hs : s.size ≤ 100) (hx0 : 0 < s.size) (hE : ¬ s = ByteArray.empty) (hx : ((s[0].toNat : Int) == 33) = false) (hd : 0 < s.size) (hd1 : 1 < s.size) (hlo : ¬ s[0].toNat < 97) (hhi : ¬ 122 < s[0].toNat) (q : (s[1].toNat : Int) = 61) (o : Option Nat) (res : Option Stp) (hi1 : -1 ≤ numI o) (hi2 : numI o ≤ 1000) (h2 : 2 < s.size) (key : ((s[2].toNat : Int) == 45) = false) (hdig : ∀ w, Calls Tryd.prog 75 #[.string (s.extract 2 s.size), .int .i64 1000] w fun e w' => e = .returned (.int .i64 (numI o)) ∧ w' = w) (hfin1 : Hid (∀ b : Bool, b = decide (0 ≤ numI o) → b = res.isSome)) (hfin2 : Hid (∀ x, res = some x → false = x.1 ∧ (s[0].toNat : Int) = x.2.1.toNat ∧ (61 : Int) = x.2.2.1.toNat ∧ numI o = x.2.2.2)) :
    Calls Tryd.prog 74 #[.string s] w (RefStep res w) := by
  have hc := toNat_lt s[0]
  go_enter Tryd.func74, Tryd.ntmps74
  go_wp2_with (go_at_call 75; refine (hdig _).mono ?_; rintro e w' ⟨rfl, rfl⟩)
  refine bodyPost_ret (v := .tuple #[.agg #[.bool false, .int .u8 s[0].toNat, .int .u8 61, .int .i64 (numI o)], .bool (decide (0 ≤ numI o))]) (by simp [results, Tryd.results74, go_sem]) rfl ⟨false, s[0].toNat, 61, (numI o), (decide (0 ≤ numI o)), rfl, hfin1.out _ rfl, hfin2.out, ?_⟩
  exact ((Below.refl _ _).alloc (Nat.le_refl _) _).alloc (by simp) _

set_option maxHeartbeats 400000 in
theorem st_neg62_0 (s : ByteArray) (w : World) (hs : s.size ≤ 100) (hx0 : 0 < s.size) (hE : ¬ s = ByteArray.empty) (hx : ((s[0].toNat : Int) == 33) = false) (hd : 0 < s.size) (hd1 : 1 < s.size) (hlo : ¬ s[0].toNat < 97) (hhi : ¬ 122 < s[0].toNat) (q : (s[1].toNat : Int) = 62) (o : Option Nat) (res : Option Stp) (hi1 : -1 ≤ numI o) (hi2 : numI o ≤ 1000) (hm1 : 2 < s.size) (hx45 : ((s[2].toNat : Int) == 45) = true) (hdig : ∀ w, Calls Tryd.prog 75 #[.string (s.extract 3 s.size), .int .i64 1000] w fun e w' => e = .returned (.int .i64 (numI o)) ∧ w' = w) (hfin1 : Hid (∀ b : Bool, b = decide (0 < numI o) → b = res.isSome)) (hfin2 : Hid (∀ x, res = some x → false = x.1 ∧ (s[0].toNat : Int) = x.2.1.toNat ∧ (62 : Int) = x.2.2.1.toNat ∧ -numI o = x.2.2.2)) :
    Calls Tryd.prog 74 #[.string s] w (RefStep res w) := by
  have hc := toNat_lt s[0]
  go_enter Tryd.func74, Tryd.ntmps74
  go_wp2_with (go_at_call 75; refine (hdig _).mono ?_; rintro e w' ⟨rfl, rfl⟩)
  refine bodyPost_ret (v := .tuple #[.agg #[.bool false, .int .u8 s[0].toNat, .int .u8 62, .int .i64 (-numI o)], .bool (decide (0 < numI o))]) (by simp [results, Tryd.results74, go_sem]) rfl ⟨false, s[0].toNat, 62, (-numI o), (decide (0 < numI o)), rfl, hfin1.out _ rfl, hfin2.out, ?_⟩
  exact ((Below.refl _ _).alloc (Nat.le_refl _) _).alloc (by simp) _

set_option maxHeartbeats 400000 in
theorem st_pos62a_0 (s : ByteArray) (w : World) (hs : s.size ≤ 100) (hx0 : 0 < s.size) (hE : ¬ s = ByteArray.empty) (hx : ((s[0].toNat : Int) == 33) = false) (hd : 0 < s.size) (hd1 : 1 < s.size) (hlo : ¬ s[0].toNat < 97) (hhi : ¬ 122 < s[0].toNat) (q : (s[1].toNat : Int) = 62) (o : Option Nat) (res : Option Stp) (hi1 : -1 ≤ numI o) (hi2 : numI o ≤ 1000) (key : s.size ≤ 2) (hdig : ∀ w, Calls Tryd.prog 75 #[.string (s.extract 2 s.size), .int .i64 1000] w fun e w' => e = .returned (.int .i64 (numI o)) ∧ w' = w) (hfin1 : Hid (∀ b : Bool, b = decide (0 ≤ numI o) → b = res.isSome)) (hfin2 : Hid (∀ x, res = some x → false = x.1 ∧ (s[0].toNat : Int) = x.2.1.toNat ∧ (62 : Int) = x.2.2.1.toNat ∧ numI o = x.2.2.2)) :
    Calls Tryd.prog 74 #[.string s] w (RefStep res w) := by
  have hc := toNat_lt s[0]
  go_enter Tryd.func74, Tryd.ntmps74
  go_wp2_with (go_at_call 75; refine (hdig _).mono ?_; rintro e w' ⟨rfl, rfl⟩)
  refine bodyPost_ret (v := .tuple #[.agg #[.bool false, .int .u8 s[0].toNat, .int .u8 62, .int .i64 (numI o)], .bool (decide (0 ≤ numI o))]) (by simp [results, Tryd.results74, go_sem]) rfl ⟨false, s[0].toNat, 62, (numI o), (decide (0 ≤ numI o)), rfl, hfin1.out _ rfl, hfin2.out, ?_⟩
  exact ((Below.refl _ _).alloc (Nat.le_refl _) _).alloc (by simp) _

set_option maxHeartbeats 400000 in
theorem st_pos62b_0 (s : ByteArray) (w : World) (hs : s.size ≤ 100) (hx0 : 0 < s.size) (hE : ¬ s = ByteArray.empty) (hx : ((s[0].toNat : Int) == 33) = false) (hd : 0 < s.size) (hd1 : 1 < s.size) (hlo : ¬ s[0].toNat < 97) (hhi : ¬ 122 < s[0].toNat) (q : (s[1].toNat : Int) = 62) (o : Option Nat) (res : Option Stp) (hi1 : -1 ≤ numI o) (hi2 : numI o ≤ 1000) (h2 : 2 < s.size) (key : ((s[2].toNat : Int) == 45) = false) (hdig : ∀ w, Calls Tryd.prog 75 #[.string (s.extract 2 s.size), .int .i64 1000] w fun e w' => e = .returned (.int .i64 (numI o)) ∧ w' = w) (hfin1 : Hid (∀ b : Bool, b = decide (0 ≤ numI o) → b = res.isSome)) (hfin2 : Hid (∀ x, res = some x → false = x.1 ∧ (s[0].toNat : Int) = x.2.1.toNat ∧ (62 : Int) = x.2.2.1.toNat ∧ numI o = x.2.2.2)) :
    Calls Tryd.prog 74 #[.string s] w (RefStep res w) := by
  have hc := toNat_lt s[0]
  go_enter Tryd.func74, Tryd.ntmps74
  go_wp2_with (go_at_call 75; refine (hdig _).mono ?_; rintro e w' ⟨rfl, rfl⟩)
  refine bodyPost_ret (v := .tuple #[.agg #[.bool false, .int .u8 s[0].toNat, .int .u8 62, .int .i64 (numI o)], .bool (decide (0 ≤ numI o))]) (by simp [results, Tryd.results74, go_sem]) rfl ⟨false, s[0].toNat, 62, (numI o), (decide (0 ≤ numI o)), rfl, hfin1.out _ rfl, hfin2.out, ?_⟩
  exact ((Below.refl _ _).alloc (Nat.le_refl _) _).alloc (by simp) _

end Go.Proofs.YtbgfannlfagoiaaDoor

namespace Go.Proofs.YtbgfannlfagoiaaDoor
open Go.RowKit Go.Lull
set_option linter.unusedVariables false

set_option maxHeartbeats 400000 in
theorem st_end_1 (s : ByteArray) (w : World) (hs : s.size ≤ 100) (hx0 : 0 < s.size) (hE : ¬ s = ByteArray.empty) (hx : ((s[0].toNat : Int) == 33) = true) (h0 : s.size ≤ 1) :
    Calls Tryd.prog 74 #[.string s] w (RefStep none w) := by
  go_enter Tryd.func74, Tryd.ntmps74
  go_wp2
  refine bodyPost_ret (v := .tuple #[.agg #[.bool true, .int .u8 0, .int .u8 0, .int .i64 0], .bool false]) (by simp [results, Tryd.results74, go_sem]) rfl ⟨true, 0, 0, 0, false, rfl, rfl, (by intro x h; cases h), ?_⟩
  exact ((Below.refl _ _).alloc (Nat.le_refl _) _).alloc (by simp) _

set_option maxHeartbeats 400000 in
theorem st_low_1 (s : ByteArray) (w : World) (hs : s.size ≤ 100) (hx0 : 0 < s.size) (hE : ¬ s = ByteArray.empty) (hx : ((s[0].toNat : Int) == 33) = true) (hd : 1 < s.size) (hlo : s[1].toNat < 97) :
    Calls Tryd.prog 74 #[.string s] w (RefStep none w) := by
  go_enter Tryd.func74, Tryd.ntmps74
  go_wp2
  refine bodyPost_ret (v := .tuple #[.agg #[.bool true, .int .u8 0, .int .u8 0, .int .i64 0], .bool false]) (by simp [results, Tryd.results74, go_sem]) rfl ⟨true, 0, 0, 0, false, rfl, rfl, (by intro x h; cases h), ?_⟩
  exact ((Below.refl _ _).alloc (Nat.le_refl _) _).alloc (by simp) _

set_option maxHeartbeats 400000 in
theorem st_high_1 (s : ByteArray) (w : World) (hs : s.size ≤ 100) (hx0 : 0 < s.size) (hE : ¬ s = ByteArray.empty) (hx : ((s[0].toNat : Int) == 33) = true) (hd : 1 < s.size) (hlo : ¬ s[1].toNat < 97) (hhi : 122 < s[1].toNat) :
    Calls Tryd.prog 74 #[.string s] w (RefStep none w) := by
  go_enter Tryd.func74, Tryd.ntmps74
  go_wp2
  refine bodyPost_ret (v := .tuple #[.agg #[.bool true, .int .u8 0, .int .u8 0, .int .i64 0], .bool false]) (by simp [results, Tryd.results74, go_sem]) rfl ⟨true, 0, 0, 0, false, rfl, rfl, (by intro x h; cases h), ?_⟩
  exact ((Below.refl _ _).alloc (Nat.le_refl _) _).alloc (by simp) _

set_option maxHeartbeats 400000 in
theorem st_one_1 (s : ByteArray) (w : World) (hs : s.size ≤ 100) (hx0 : 0 < s.size) (hE : ¬ s = ByteArray.empty) (hx : ((s[0].toNat : Int) == 33) = true) (hd : 1 < s.size) (hlo : ¬ s[1].toNat < 97) (hhi : ¬ 122 < s[1].toNat) (hsz : ((s.size : Int) == 2) = true) (hsz2 : ((2 : Int) == s.size) = true) :
    Calls Tryd.prog 74 #[.string s] w (RefStep (some (true, s[1], 0, 0)) w) := by
  have hc := toNat_lt s[1]
  go_enter Tryd.func74, Tryd.ntmps74
  go_wp2
  refine bodyPost_ret (v := .tuple #[.agg #[.bool true, .int .u8 s[1].toNat, .int .u8 0, .int .i64 0], .bool true]) (by simp [results, Tryd.results74, go_sem]) rfl ⟨true, s[1].toNat, 0, 0, true, rfl, rfl, (by intro x h; cases h; exact ⟨rfl, rfl, rfl, rfl⟩), ?_⟩
  exact ((Below.refl _ _).alloc (Nat.le_refl _) _).alloc (by simp) _

set_option maxHeartbeats 400000 in
theorem st_nosign_1 (s : ByteArray) (w : World) (hs : s.size ≤ 100) (hx0 : 0 < s.size) (hE : ¬ s = ByteArray.empty) (hx : ((s[0].toNat : Int) == 33) = true) (hd : 1 < s.size) (hd1 : 2 < s.size) (hlo : ¬ s[1].toNat < 97) (hhi : ¬ 122 < s[1].toNat) (g60 : ((s[2].toNat : Int) != 60) = true) (p60 : ¬ (s[2].toNat : Int) = 60) (g61 : ((s[2].toNat : Int) != 61) = true) (p61 : ¬ (s[2].toNat : Int) = 61) (g62 : ((s[2].toNat : Int) != 62) = true) (p62 : ¬ (s[2].toNat : Int) = 62) :
    Calls Tryd.prog 74 #[.string s] w (RefStep none w) := by
  have hc := toNat_lt s[1]
  go_enter Tryd.func74, Tryd.ntmps74
  go_wp2
  refine bodyPost_ret (v := .tuple #[.agg #[.bool true, .int .u8 s[1].toNat, .int .u8 s[2].toNat, .int .i64 0], .bool false]) (by simp [results, Tryd.results74, go_sem]) rfl ⟨true, s[1].toNat, s[2].toNat, 0, false, rfl, rfl, (by intro x h; cases h), ?_⟩
  exact ((Below.refl _ _).alloc (Nat.le_refl _) _).alloc (by simp) _

set_option maxHeartbeats 400000 in
theorem st_neg60_1 (s : ByteArray) (w : World) (hs : s.size ≤ 100) (hx0 : 0 < s.size) (hE : ¬ s = ByteArray.empty) (hx : ((s[0].toNat : Int) == 33) = true) (hd : 1 < s.size) (hd1 : 2 < s.size) (hlo : ¬ s[1].toNat < 97) (hhi : ¬ 122 < s[1].toNat) (q : (s[2].toNat : Int) = 60) (o : Option Nat) (res : Option Stp) (hi1 : -1 ≤ numI o) (hi2 : numI o ≤ 1000) (hm1 : 3 < s.size) (hx45 : ((s[3].toNat : Int) == 45) = true) (hdig : ∀ w, Calls Tryd.prog 75 #[.string (s.extract 4 s.size), .int .i64 1000] w fun e w' => e = .returned (.int .i64 (numI o)) ∧ w' = w) (hfin1 : Hid (∀ b : Bool, b = decide (0 < numI o) → b = res.isSome)) (hfin2 : Hid (∀ x, res = some x → true = x.1 ∧ (s[1].toNat : Int) = x.2.1.toNat ∧ (60 : Int) = x.2.2.1.toNat ∧ -numI o = x.2.2.2)) :
    Calls Tryd.prog 74 #[.string s] w (RefStep res w) := by
  have hc := toNat_lt s[1]
  go_enter Tryd.func74, Tryd.ntmps74
  go_wp2_with (go_at_call 75; refine (hdig _).mono ?_; rintro e w' ⟨rfl, rfl⟩)
  refine bodyPost_ret (v := .tuple #[.agg #[.bool true, .int .u8 s[1].toNat, .int .u8 60, .int .i64 (-numI o)], .bool (decide (0 < numI o))]) (by simp [results, Tryd.results74, go_sem]) rfl ⟨true, s[1].toNat, 60, (-numI o), (decide (0 < numI o)), rfl, hfin1.out _ rfl, hfin2.out, ?_⟩
  exact ((Below.refl _ _).alloc (Nat.le_refl _) _).alloc (by simp) _

set_option maxHeartbeats 400000 in
theorem st_pos60a_1 (s : ByteArray) (w : World) (hs : s.size ≤ 100) (hx0 : 0 < s.size) (hE : ¬ s = ByteArray.empty) (hx : ((s[0].toNat : Int) == 33) = true) (hd : 1 < s.size) (hd1 : 2 < s.size) (hlo : ¬ s[1].toNat < 97) (hhi : ¬ 122 < s[1].toNat) (q : (s[2].toNat : Int) = 60) (o : Option Nat) (res : Option Stp) (hi1 : -1 ≤ numI o) (hi2 : numI o ≤ 1000) (key : s.size ≤ 3) (hdig : ∀ w, Calls Tryd.prog 75 #[.string (s.extract 3 s.size), .int .i64 1000] w fun e w' => e = .returned (.int .i64 (numI o)) ∧ w' = w) (hfin1 : Hid (∀ b : Bool, b = decide (0 ≤ numI o) → b = res.isSome)) (hfin2 : Hid (∀ x, res = some x → true = x.1 ∧ (s[1].toNat : Int) = x.2.1.toNat ∧ (60 : Int) = x.2.2.1.toNat ∧ numI o = x.2.2.2)) :
    Calls Tryd.prog 74 #[.string s] w (RefStep res w) := by
  have hc := toNat_lt s[1]
  go_enter Tryd.func74, Tryd.ntmps74
  go_wp2_with (go_at_call 75; refine (hdig _).mono ?_; rintro e w' ⟨rfl, rfl⟩)
  refine bodyPost_ret (v := .tuple #[.agg #[.bool true, .int .u8 s[1].toNat, .int .u8 60, .int .i64 (numI o)], .bool (decide (0 ≤ numI o))]) (by simp [results, Tryd.results74, go_sem]) rfl ⟨true, s[1].toNat, 60, (numI o), (decide (0 ≤ numI o)), rfl, hfin1.out _ rfl, hfin2.out, ?_⟩
  exact ((Below.refl _ _).alloc (Nat.le_refl _) _).alloc (by simp) _

set_option maxHeartbeats 400000 in
theorem st_pos60b_1 (s : ByteArray) (w : World) (hs : s.size ≤ 100) (hx0 : 0 < s.size) (hE : ¬ s = ByteArray.empty) (hx : ((s[0].toNat : Int) == 33) = true) (hd : 1 < s.size) (hd1 : 2 < s.size) (hlo : ¬ s[1].toNat < 97) (hhi : ¬ 122 < s[1].toNat) (q : (s[2].toNat : Int) = 60) (o : Option Nat) (res : Option Stp) (hi1 : -1 ≤ numI o) (hi2 : numI o ≤ 1000) (h2 : 3 < s.size) (key : ((s[3].toNat : Int) == 45) = false) (hdig : ∀ w, Calls Tryd.prog 75 #[.string (s.extract 3 s.size), .int .i64 1000] w fun e w' => e = .returned (.int .i64 (numI o)) ∧ w' = w) (hfin1 : Hid (∀ b : Bool, b = decide (0 ≤ numI o) → b = res.isSome)) (hfin2 : Hid (∀ x, res = some x → true = x.1 ∧ (s[1].toNat : Int) = x.2.1.toNat ∧ (60 : Int) = x.2.2.1.toNat ∧ numI o = x.2.2.2)) :
    Calls Tryd.prog 74 #[.string s] w (RefStep res w) := by
  have hc := toNat_lt s[1]
  go_enter Tryd.func74, Tryd.ntmps74
  go_wp2_with (go_at_call 75; refine (hdig _).mono ?_; rintro e w' ⟨rfl, rfl⟩)
  refine bodyPost_ret (v := .tuple #[.agg #[.bool true, .int .u8 s[1].toNat, .int .u8 60, .int .i64 (numI o)], .bool (decide (0 ≤ numI o))]) (by simp [results, Tryd.results74, go_sem]) rfl ⟨true, s[1].toNat, 60, (numI o), (decide (0 ≤ numI o)), rfl, hfin1.out _ rfl, hfin2.out, ?_⟩
  exact ((Below.refl _ _).alloc (Nat.le_refl _) _).alloc (by simp) _

set_option maxHeartbeats 400000 in
theorem st_neg61_1 (s : ByteArray) (w : World) (hs : s.size ≤ 100) (hx0 : 0 < s.size) (hE : ¬ s = ByteArray.empty) (hx : ((s[0].toNat : Int) == 33) = true) (hd : 1 < s.size) (hd1 : 2 < s.size) (hlo : ¬ s[1].toNat < 97) (hhi : ¬ 122 < s[1].toNat) (q : (s[2].toNat : Int) = 61) (o : Option Nat) (res : Option Stp) (hi1 : -1 ≤ numI o) (hi2 : numI o ≤ 1000) (hm1 : 3 < s.size) (hx45 : ((s[3].toNat : Int) == 45) = true) (hdig : ∀ w, Calls Tryd.prog 75 #[.string (s.extract 4 s.size), .int .i64 1000] w fun e w' => e = .returned (.int .i64 (numI o)) ∧ w' = w) (hfin1 : Hid (∀ b : Bool, b = decide (0 < numI o) → b = res.isSome)) (hfin2 : Hid (∀ x, res = some x → true = x.1 ∧ (s[1].toNat : Int) = x.2.1.toNat ∧ (61 : Int) = x.2.2.1.toNat ∧ -numI o = x.2.2.2)) :
    Calls Tryd.prog 74 #[.string s] w (RefStep res w) := by
  have hc := toNat_lt s[1]
  go_enter Tryd.func74, Tryd.ntmps74
  go_wp2_with (go_at_call 75; refine (hdig _).mono ?_; rintro e w' ⟨rfl, rfl⟩)
  refine bodyPost_ret (v := .tuple #[.agg #[.bool true, .int .u8 s[1].toNat, .int .u8 61, .int .i64 (-numI o)], .bool (decide (0 < numI o))]) (by simp [results, Tryd.results74, go_sem]) rfl ⟨true, s[1].toNat, 61, (-numI o), (decide (0 < numI o)), rfl, hfin1.out _ rfl, hfin2.out, ?_⟩
  exact ((Below.refl _ _).alloc (Nat.le_refl _) _).alloc (by simp) _

set_option maxHeartbeats 400000 in
theorem st_pos61a_1 (s : ByteArray) (w : World) (hs : s.size ≤ 100) (hx0 : 0 < s.size) (hE : ¬ s = ByteArray.empty) (hx : ((s[0].toNat : Int) == 33) = true) (hd : 1 < s.size) (hd1 : 2 < s.size) (hlo : ¬ s[1].toNat < 97) (hhi : ¬ 122 < s[1].toNat) (q : (s[2].toNat : Int) = 61) (o : Option Nat) (res : Option Stp) (hi1 : -1 ≤ numI o) (hi2 : numI o ≤ 1000) (key : s.size ≤ 3) (hdig : ∀ w, Calls Tryd.prog 75 #[.string (s.extract 3 s.size), .int .i64 1000] w fun e w' => e = .returned (.int .i64 (numI o)) ∧ w' = w) (hfin1 : Hid (∀ b : Bool, b = decide (0 ≤ numI o) → b = res.isSome)) (hfin2 : Hid (∀ x, res = some x → true = x.1 ∧ (s[1].toNat : Int) = x.2.1.toNat ∧ (61 : Int) = x.2.2.1.toNat ∧ numI o = x.2.2.2)) :
    Calls Tryd.prog 74 #[.string s] w (RefStep res w) := by
  have hc := toNat_lt s[1]
  go_enter Tryd.func74, Tryd.ntmps74
  go_wp2_with (go_at_call 75; refine (hdig _).mono ?_; rintro e w' ⟨rfl, rfl⟩)
  refine bodyPost_ret (v := .tuple #[.agg #[.bool true, .int .u8 s[1].toNat, .int .u8 61, .int .i64 (numI o)], .bool (decide (0 ≤ numI o))]) (by simp [results, Tryd.results74, go_sem]) rfl ⟨true, s[1].toNat, 61, (numI o), (decide (0 ≤ numI o)), rfl, hfin1.out _ rfl, hfin2.out, ?_⟩
  exact ((Below.refl _ _).alloc (Nat.le_refl _) _).alloc (by simp) _

set_option maxHeartbeats 400000 in
theorem st_pos61b_1 (s : ByteArray) (w : World) (hs : s.size ≤ 100) (hx0 : 0 < s.size) (hE : ¬ s = ByteArray.empty) (hx : ((s[0].toNat : Int) == 33) = true) (hd : 1 < s.size) (hd1 : 2 < s.size) (hlo : ¬ s[1].toNat < 97) (hhi : ¬ 122 < s[1].toNat) (q : (s[2].toNat : Int) = 61) (o : Option Nat) (res : Option Stp) (hi1 : -1 ≤ numI o) (hi2 : numI o ≤ 1000) (h2 : 3 < s.size) (key : ((s[3].toNat : Int) == 45) = false) (hdig : ∀ w, Calls Tryd.prog 75 #[.string (s.extract 3 s.size), .int .i64 1000] w fun e w' => e = .returned (.int .i64 (numI o)) ∧ w' = w) (hfin1 : Hid (∀ b : Bool, b = decide (0 ≤ numI o) → b = res.isSome)) (hfin2 : Hid (∀ x, res = some x → true = x.1 ∧ (s[1].toNat : Int) = x.2.1.toNat ∧ (61 : Int) = x.2.2.1.toNat ∧ numI o = x.2.2.2)) :
    Calls Tryd.prog 74 #[.string s] w (RefStep res w) := by
  have hc := toNat_lt s[1]
  go_enter Tryd.func74, Tryd.ntmps74
  go_wp2_with (go_at_call 75; refine (hdig _).mono ?_; rintro e w' ⟨rfl, rfl⟩)
  refine bodyPost_ret (v := .tuple #[.agg #[.bool true, .int .u8 s[1].toNat, .int .u8 61, .int .i64 (numI o)], .bool (decide (0 ≤ numI o))]) (by simp [results, Tryd.results74, go_sem]) rfl ⟨true, s[1].toNat, 61, (numI o), (decide (0 ≤ numI o)), rfl, hfin1.out _ rfl, hfin2.out, ?_⟩
  exact ((Below.refl _ _).alloc (Nat.le_refl _) _).alloc (by simp) _

set_option maxHeartbeats 400000 in
theorem st_neg62_1 (s : ByteArray) (w : World) (hs : s.size ≤ 100) (hx0 : 0 < s.size) (hE : ¬ s = ByteArray.empty) (hx : ((s[0].toNat : Int) == 33) = true) (hd : 1 < s.size) (hd1 : 2 < s.size) (hlo : ¬ s[1].toNat < 97) (hhi : ¬ 122 < s[1].toNat) (q : (s[2].toNat : Int) = 62) (o : Option Nat) (res : Option Stp) (hi1 : -1 ≤ numI o) (hi2 : numI o ≤ 1000) (hm1 : 3 < s.size) (hx45 : ((s[3].toNat : Int) == 45) = true) (hdig : ∀ w, Calls Tryd.prog 75 #[.string (s.extract 4 s.size), .int .i64 1000] w fun e w' => e = .returned (.int .i64 (numI o)) ∧ w' = w) (hfin1 : Hid (∀ b : Bool, b = decide (0 < numI o) → b = res.isSome)) (hfin2 : Hid (∀ x, res = some x → true = x.1 ∧ (s[1].toNat : Int) = x.2.1.toNat ∧ (62 : Int) = x.2.2.1.toNat ∧ -numI o = x.2.2.2)) :
    Calls Tryd.prog 74 #[.string s] w (RefStep res w) := by
  have hc := toNat_lt s[1]
  go_enter Tryd.func74, Tryd.ntmps74
  go_wp2_with (go_at_call 75; refine (hdig _).mono ?_; rintro e w' ⟨rfl, rfl⟩)
  refine bodyPost_ret (v := .tuple #[.agg #[.bool true, .int .u8 s[1].toNat, .int .u8 62, .int .i64 (-numI o)], .bool (decide (0 < numI o))]) (by simp [results, Tryd.results74, go_sem]) rfl ⟨true, s[1].toNat, 62, (-numI o), (decide (0 < numI o)), rfl, hfin1.out _ rfl, hfin2.out, ?_⟩
  exact ((Below.refl _ _).alloc (Nat.le_refl _) _).alloc (by simp) _

set_option maxHeartbeats 400000 in
theorem st_pos62a_1 (s : ByteArray) (w : World) (hs : s.size ≤ 100) (hx0 : 0 < s.size) (hE : ¬ s = ByteArray.empty) (hx : ((s[0].toNat : Int) == 33) = true) (hd : 1 < s.size) (hd1 : 2 < s.size) (hlo : ¬ s[1].toNat < 97) (hhi : ¬ 122 < s[1].toNat) (q : (s[2].toNat : Int) = 62) (o : Option Nat) (res : Option Stp) (hi1 : -1 ≤ numI o) (hi2 : numI o ≤ 1000) (key : s.size ≤ 3) (hdig : ∀ w, Calls Tryd.prog 75 #[.string (s.extract 3 s.size), .int .i64 1000] w fun e w' => e = .returned (.int .i64 (numI o)) ∧ w' = w) (hfin1 : Hid (∀ b : Bool, b = decide (0 ≤ numI o) → b = res.isSome)) (hfin2 : Hid (∀ x, res = some x → true = x.1 ∧ (s[1].toNat : Int) = x.2.1.toNat ∧ (62 : Int) = x.2.2.1.toNat ∧ numI o = x.2.2.2)) :
    Calls Tryd.prog 74 #[.string s] w (RefStep res w) := by
  have hc := toNat_lt s[1]
  go_enter Tryd.func74, Tryd.ntmps74
  go_wp2_with (go_at_call 75; refine (hdig _).mono ?_; rintro e w' ⟨rfl, rfl⟩)
  refine bodyPost_ret (v := .tuple #[.agg #[.bool true, .int .u8 s[1].toNat, .int .u8 62, .int .i64 (numI o)], .bool (decide (0 ≤ numI o))]) (by simp [results, Tryd.results74, go_sem]) rfl ⟨true, s[1].toNat, 62, (numI o), (decide (0 ≤ numI o)), rfl, hfin1.out _ rfl, hfin2.out, ?_⟩
  exact ((Below.refl _ _).alloc (Nat.le_refl _) _).alloc (by simp) _

set_option maxHeartbeats 400000 in
theorem st_pos62b_1 (s : ByteArray) (w : World) (hs : s.size ≤ 100) (hx0 : 0 < s.size) (hE : ¬ s = ByteArray.empty) (hx : ((s[0].toNat : Int) == 33) = true) (hd : 1 < s.size) (hd1 : 2 < s.size) (hlo : ¬ s[1].toNat < 97) (hhi : ¬ 122 < s[1].toNat) (q : (s[2].toNat : Int) = 62) (o : Option Nat) (res : Option Stp) (hi1 : -1 ≤ numI o) (hi2 : numI o ≤ 1000) (h2 : 3 < s.size) (key : ((s[3].toNat : Int) == 45) = false) (hdig : ∀ w, Calls Tryd.prog 75 #[.string (s.extract 3 s.size), .int .i64 1000] w fun e w' => e = .returned (.int .i64 (numI o)) ∧ w' = w) (hfin1 : Hid (∀ b : Bool, b = decide (0 ≤ numI o) → b = res.isSome)) (hfin2 : Hid (∀ x, res = some x → true = x.1 ∧ (s[1].toNat : Int) = x.2.1.toNat ∧ (62 : Int) = x.2.2.1.toNat ∧ numI o = x.2.2.2)) :
    Calls Tryd.prog 74 #[.string s] w (RefStep res w) := by
  have hc := toNat_lt s[1]
  go_enter Tryd.func74, Tryd.ntmps74
  go_wp2_with (go_at_call 75; refine (hdig _).mono ?_; rintro e w' ⟨rfl, rfl⟩)
  refine bodyPost_ret (v := .tuple #[.agg #[.bool true, .int .u8 s[1].toNat, .int .u8 62, .int .i64 (numI o)], .bool (decide (0 ≤ numI o))]) (by simp [results, Tryd.results74, go_sem]) rfl ⟨true, s[1].toNat, 62, (numI o), (decide (0 ≤ numI o)), rfl, hfin1.out _ rfl, hfin2.out, ?_⟩
  exact ((Below.refl _ _).alloc (Nat.le_refl _) _).alloc (by simp) _

end Go.Proofs.YtbgfannlfagoiaaDoor

namespace Go.Proofs.YtbgfannlfagoiaaDoor
open Go.RowKit Go.Lull
set_option linter.unusedVariables false


set_option maxHeartbeats 400000 in
theorem stepOf_empty (s : ByteArray) (w : World) (h0 : s.size ≤ 0) (hE : s = ByteArray.empty) :
    Calls Tryd.prog 74 #[.string s] w (RefStep none w) := by
  go_enter Tryd.func74, Tryd.ntmps74
  go_wp2
  refine bodyPost_ret (v := .tuple #[.agg #[.bool false, .int .u8 0, .int .u8 0, .int .i64 0], .bool false]) (by simp [results, Tryd.results74, go_sem]) rfl ⟨false, 0, 0, 0, false, rfl, rfl, (by intro x h; cases h), ?_⟩
  exact ((Below.refl _ _).alloc (Nat.le_refl _) _).alloc (by simp) _

theorem stepOf_0 (s : ByteArray) (w : World) (hs : s.size ≤ 100) (hx0 : 0 < s.size) (hE : ¬ s = ByteArray.empty) (hx : ((s[0].toNat : Int) == 33) = false) :
    Calls Tryd.prog 74 #[.string s] w (RefStep (markB false (condB (s.data.toList.drop 0))) w) := by
  have hd : 0 < s.size := by omega
  have e0 := drop_get s 0 hd
  by_cases hlo : s[0].toNat < 97
  · rw [e0, condB_noletter (by simp [letterB]; omega)]
    exact st_low_0 s w hs hx0 hE hx hd hlo
  by_cases hhi : 122 < s[0].toNat
  · rw [e0, condB_noletter (by simp [letterB]; omega)]
    exact st_high_0 s w hs hx0 hE hx hd hlo hhi
  have hL : letterB s[0] = true := by simp [letterB]; omega
  by_cases h1 : s.size ≤ 1
  · rw [e0, drop_nil s 1 h1, condB_one hL]
    exact st_one_0 s w hs hx0 hE hx hd hlo hhi (by simp; omega) (by simp; omega)
  have hd1 : 1 < s.size := by omega
  have e1 := drop_get s 1 hd1
  by_cases hg : s[1].toNat = 60 ∨ s[1].toNat = 61 ∨ s[1].toNat = 62
  · have hS : signB s[1] = true := by simp [signB]; omega
    by_cases hm : 2 < s.size ∧ ∃ h : 2 < s.size, s[2].toNat = 45
    · obtain ⟨hm1, _, hm2⟩ := hm
      have e2 := drop_get s 2 hm1
      have e45 : s[2] = 45 := UInt8.toNat_inj.1 hm2
      have hx45 : ((s[2].toNat : Int) == 45) = true := by rw [hm2]; rfl
      have hdig := fun w => digits_any (s.extract 3 s.size) w (by rw [ByteArray.size_extract]; omega)
      rw [ex_end] at hdig
      rw [e0, e1, condB_sign hL hS, e2, e45, valB_neg]
      have hi1 := numI_lo (numB 1000 (s.data.toList.drop 3))
      have hi2 := numI_hi (l := s.data.toList.drop 3)
      generalize numB 1000 (s.data.toList.drop 3) = o at hdig hi1 hi2 ⊢
      have hfin1 : Hid (∀ b : Bool, b = decide (0 < numI o) → b = (markB false (withO (fun n => (s[0], s[1], n)) (negO o))).isSome) := by
        intro b hb; rw [markB, withO_isSome, withO_isSome, neg_some, hb]
      have hfin2 : ∀ x, markB false (withO (fun n => (s[0], s[1], n)) (negO o)) = some x → false = x.1 ∧ (s[0].toNat : Int) = x.2.1.toNat ∧ (s[1].toNat : Int) = x.2.2.1.toNat ∧ -numI o = x.2.2.2 := by
        intro x hx
        cases hn : negO o with
        | none => rw [hn] at hx; cases hx
        | some v => rw [hn] at hx; cases hx; exact ⟨rfl, rfl, rfl, (neg_val hn).symm⟩
      rcases hg with hg | hg | hg
      · exact st_neg60_0 s w hs hx0 hE hx hd hd1 hlo hhi (by omega) o _ hi1 hi2 hm1 hx45 hdig hfin1 (fun x h => by have := hfin2 x h; rw [hg] at this; exact this)
      · exact st_neg61_0 s w hs hx0 hE hx hd hd1 hlo hhi (by omega) o _ hi1 hi2 hm1 hx45 hdig hfin1 (fun x h => by have := hfin2 x h; rw [hg] at this; exact this)
      · exact st_neg62_0 s w hs hx0 hE hx hd hd1 hlo hhi (by omega) o _ hi1 hi2 hm1 hx45 hdig hfin1 (fun x h => by have := hfin2 x h; rw [hg] at this; exact this)
    · have hnm : ∀ r, s.data.toList.drop 2 ≠ 45 :: r := by
        intro r e
        by_cases h2 : 2 < s.size
        · rw [drop_get s 2 h2] at e
          exact hm ⟨h2, h2, by rw [(List.cons.inj e).1]; rfl⟩
        · rw [drop_nil s 2 (by omega)] at e; cases e
      have hdig := fun w => digits_any (s.extract 2 s.size) w (by rw [ByteArray.size_extract]; omega)
      rw [ex_end] at hdig
      rw [e0, e1, condB_sign hL hS, valB_pos hnm]
      have hi1 := numI_lo (numB 1000 (s.data.toList.drop 2))
      have hi2 := numI_hi (l := s.data.toList.drop 2)
      have key : s.size ≤ 2 ∨ (∃ h : 2 < s.size, ((s[2].toNat : Int) == 45) = false) := by
        by_cases h2 : 2 < s.size
        · refine Or.inr ⟨h2, ?_⟩
          have : s[2].toNat ≠ 45 := fun e => hm ⟨h2, h2, e⟩
          simp; omega
        · exact Or.inl (by omega)
      generalize numB 1000 (s.data.toList.drop 2) = o at hdig hi1 hi2 ⊢
      have hfin1 : Hid (∀ b : Bool, b = decide (0 ≤ numI o) → b = (markB false (withO (fun n => (s[0], s[1], n)) (posO o))).isSome) := by
        intro b hb; rw [markB, withO_isSome, withO_isSome, pos_some, hb]
      have hfin2 : ∀ x, markB false (withO (fun n => (s[0], s[1], n)) (posO o)) = some x → false = x.1 ∧ (s[0].toNat : Int) = x.2.1.toNat ∧ (s[1].toNat : Int) = x.2.2.1.toNat ∧ numI o = x.2.2.2 := by
        intro x hx
        cases hn : posO o with
        | none => rw [hn] at hx; cases hx
        | some v => rw [hn] at hx; cases hx; exact ⟨rfl, rfl, rfl, (pos_val hn).symm⟩
      rcases key with key | ⟨h2, key⟩
      · rcases hg with hg | hg | hg
        · exact st_pos60a_0 s w hs hx0 hE hx hd hd1 hlo hhi (by omega) o _ hi1 hi2 key hdig hfin1 (fun x h => by have := hfin2 x h; rw [hg] at this; exact this)
        · exact st_pos61a_0 s w hs hx0 hE hx hd hd1 hlo hhi (by omega) o _ hi1 hi2 key hdig hfin1 (fun x h => by have := hfin2 x h; rw [hg] at this; exact this)
        · exact st_pos62a_0 s w hs hx0 hE hx hd hd1 hlo hhi (by omega) o _ hi1 hi2 key hdig hfin1 (fun x h => by have := hfin2 x h; rw [hg] at this; exact this)
      · rcases hg with hg | hg | hg
        · exact st_pos60b_0 s w hs hx0 hE hx hd hd1 hlo hhi (by omega) o _ hi1 hi2 h2 key hdig hfin1 (fun x h => by have := hfin2 x h; rw [hg] at this; exact this)
        · exact st_pos61b_0 s w hs hx0 hE hx hd hd1 hlo hhi (by omega) o _ hi1 hi2 h2 key hdig hfin1 (fun x h => by have := hfin2 x h; rw [hg] at this; exact this)
        · exact st_pos62b_0 s w hs hx0 hE hx hd hd1 hlo hhi (by omega) o _ hi1 hi2 h2 key hdig hfin1 (fun x h => by have := hfin2 x h; rw [hg] at this; exact this)
  · rw [e0, e1, condB_nosign (by simp [signB]; omega)]
    exact st_nosign_0 s w hs hx0 hE hx hd hd1 hlo hhi (by simp; omega) (by omega) (by simp; omega) (by omega) (by simp; omega) (by omega)

theorem stepOf_1 (s : ByteArray) (w : World) (hs : s.size ≤ 100) (hx0 : 0 < s.size) (hE : ¬ s = ByteArray.empty) (hx : ((s[0].toNat : Int) == 33) = true) :
    Calls Tryd.prog 74 #[.string s] w (RefStep (markB true (condB (s.data.toList.drop 1))) w) := by
  by_cases h0 : s.size ≤ 1
  · rw [drop_nil s 1 h0]
    exact st_end_1 s w hs hx0 hE hx h0
  have hd : 1 < s.size := by omega
  have e0 := drop_get s 1 hd
  by_cases hlo : s[1].toNat < 97
  · rw [e0, condB_noletter (by simp [letterB]; omega)]
    exact st_low_1 s w hs hx0 hE hx hd hlo
  by_cases hhi : 122 < s[1].toNat
  · rw [e0, condB_noletter (by simp [letterB]; omega)]
    exact st_high_1 s w hs hx0 hE hx hd hlo hhi
  have hL : letterB s[1] = true := by simp [letterB]; omega
  by_cases h1 : s.size ≤ 2
  · rw [e0, drop_nil s 2 h1, condB_one hL]
    exact st_one_1 s w hs hx0 hE hx hd hlo hhi (by simp; omega) (by simp; omega)
  have hd1 : 2 < s.size := by omega
  have e1 := drop_get s 2 hd1
  by_cases hg : s[2].toNat = 60 ∨ s[2].toNat = 61 ∨ s[2].toNat = 62
  · have hS : signB s[2] = true := by simp [signB]; omega
    by_cases hm : 3 < s.size ∧ ∃ h : 3 < s.size, s[3].toNat = 45
    · obtain ⟨hm1, _, hm2⟩ := hm
      have e2 := drop_get s 3 hm1
      have e45 : s[3] = 45 := UInt8.toNat_inj.1 hm2
      have hx45 : ((s[3].toNat : Int) == 45) = true := by rw [hm2]; rfl
      have hdig := fun w => digits_any (s.extract 4 s.size) w (by rw [ByteArray.size_extract]; omega)
      rw [ex_end] at hdig
      rw [e0, e1, condB_sign hL hS, e2, e45, valB_neg]
      have hi1 := numI_lo (numB 1000 (s.data.toList.drop 4))
      have hi2 := numI_hi (l := s.data.toList.drop 4)
      generalize numB 1000 (s.data.toList.drop 4) = o at hdig hi1 hi2 ⊢
      have hfin1 : Hid (∀ b : Bool, b = decide (0 < numI o) → b = (markB true (withO (fun n => (s[1], s[2], n)) (negO o))).isSome) := by
        intro b hb; rw [markB, withO_isSome, withO_isSome, neg_some, hb]
      have hfin2 : ∀ x, markB true (withO (fun n => (s[1], s[2], n)) (negO o)) = some x → true = x.1 ∧ (s[1].toNat : Int) = x.2.1.toNat ∧ (s[2].toNat : Int) = x.2.2.1.toNat ∧ -numI o = x.2.2.2 := by
        intro x hx
        cases hn : negO o with
        | none => rw [hn] at hx; cases hx
        | some v => rw [hn] at hx; cases hx; exact ⟨rfl, rfl, rfl, (neg_val hn).symm⟩
      rcases hg with hg | hg | hg
      · exact st_neg60_1 s w hs hx0 hE hx hd hd1 hlo hhi (by omega) o _ hi1 hi2 hm1 hx45 hdig hfin1 (fun x h => by have := hfin2 x h; rw [hg] at this; exact this)
      · exact st_neg61_1 s w hs hx0 hE hx hd hd1 hlo hhi (by omega) o _ hi1 hi2 hm1 hx45 hdig hfin1 (fun x h => by have := hfin2 x h; rw [hg] at this; exact this)
      · exact st_neg62_1 s w hs hx0 hE hx hd hd1 hlo hhi (by omega) o _ hi1 hi2 hm1 hx45 hdig hfin1 (fun x h => by have := hfin2 x h; rw [hg] at this; exact this)
    · have hnm : ∀ r, s.data.toList.drop 3 ≠ 45 :: r := by
        intro r e
        by_cases h2 : 3 < s.size
        · rw [drop_get s 3 h2] at e
          exact hm ⟨h2, h2, by rw [(List.cons.inj e).1]; rfl⟩
        · rw [drop_nil s 3 (by omega)] at e; cases e
      have hdig := fun w => digits_any (s.extract 3 s.size) w (by rw [ByteArray.size_extract]; omega)
      rw [ex_end] at hdig
      rw [e0, e1, condB_sign hL hS, valB_pos hnm]
      have hi1 := numI_lo (numB 1000 (s.data.toList.drop 3))
      have hi2 := numI_hi (l := s.data.toList.drop 3)
      have key : s.size ≤ 3 ∨ (∃ h : 3 < s.size, ((s[3].toNat : Int) == 45) = false) := by
        by_cases h2 : 3 < s.size
        · refine Or.inr ⟨h2, ?_⟩
          have : s[3].toNat ≠ 45 := fun e => hm ⟨h2, h2, e⟩
          simp; omega
        · exact Or.inl (by omega)
      generalize numB 1000 (s.data.toList.drop 3) = o at hdig hi1 hi2 ⊢
      have hfin1 : Hid (∀ b : Bool, b = decide (0 ≤ numI o) → b = (markB true (withO (fun n => (s[1], s[2], n)) (posO o))).isSome) := by
        intro b hb; rw [markB, withO_isSome, withO_isSome, pos_some, hb]
      have hfin2 : ∀ x, markB true (withO (fun n => (s[1], s[2], n)) (posO o)) = some x → true = x.1 ∧ (s[1].toNat : Int) = x.2.1.toNat ∧ (s[2].toNat : Int) = x.2.2.1.toNat ∧ numI o = x.2.2.2 := by
        intro x hx
        cases hn : posO o with
        | none => rw [hn] at hx; cases hx
        | some v => rw [hn] at hx; cases hx; exact ⟨rfl, rfl, rfl, (pos_val hn).symm⟩
      rcases key with key | ⟨h2, key⟩
      · rcases hg with hg | hg | hg
        · exact st_pos60a_1 s w hs hx0 hE hx hd hd1 hlo hhi (by omega) o _ hi1 hi2 key hdig hfin1 (fun x h => by have := hfin2 x h; rw [hg] at this; exact this)
        · exact st_pos61a_1 s w hs hx0 hE hx hd hd1 hlo hhi (by omega) o _ hi1 hi2 key hdig hfin1 (fun x h => by have := hfin2 x h; rw [hg] at this; exact this)
        · exact st_pos62a_1 s w hs hx0 hE hx hd hd1 hlo hhi (by omega) o _ hi1 hi2 key hdig hfin1 (fun x h => by have := hfin2 x h; rw [hg] at this; exact this)
      · rcases hg with hg | hg | hg
        · exact st_pos60b_1 s w hs hx0 hE hx hd hd1 hlo hhi (by omega) o _ hi1 hi2 h2 key hdig hfin1 (fun x h => by have := hfin2 x h; rw [hg] at this; exact this)
        · exact st_pos61b_1 s w hs hx0 hE hx hd hd1 hlo hhi (by omega) o _ hi1 hi2 h2 key hdig hfin1 (fun x h => by have := hfin2 x h; rw [hg] at this; exact this)
        · exact st_pos62b_1 s w hs hx0 hE hx hd hd1 hlo hhi (by omega) o _ hi1 hi2 h2 key hdig hfin1 (fun x h => by have := hfin2 x h; rw [hg] at this; exact this)
  · rw [e0, e1, condB_nosign (by simp [signB]; omega)]
    exact st_nosign_1 s w hs hx0 hE hx hd hd1 hlo hhi (by simp; omega) (by omega) (by simp; omega) (by omega) (by simp; omega) (by omega)

theorem stepOf_any (s : ByteArray) (w : World) (hs : s.size ≤ 100) :
    Calls Tryd.prog 74 #[.string s] w (RefStep (stepB s.data.toList) w) := by
  by_cases h0 : s.size = 0
  · have e : s.data.toList = [] := List.length_eq_zero_iff.1 (by simpa using h0)
    have hE : s = ByteArray.empty := by simpa using h0
    rw [e]
    exact stepOf_empty s w (by omega) hE
  · have hp : 0 < s.size := by omega
    have hE : ¬ s = ByteArray.empty := fun e => h0 (by rw [e]; rfl)
    have e0 := head_of hp
    by_cases h33 : s[0].toNat = 33
    · have hx := stepOf_1 s w hs hp hE (by rw [h33]; rfl)
      have e33 : s[0] = 33 := UInt8.toNat_inj.1 h33
      rw [e0, e33, stepB_not]
      exact hx
    · have hx := stepOf_0 s w hs hp hE (by simp; omega)
      rw [stepB_must (fun r e => h33 (by rw [e0] at e; rw [(List.cons.inj e).1]; rfl))]
      exact hx
end Go.Proofs.YtbgfannlfagoiaaDoor
