import Derived.Test.YtbgfannlfagoiaaGreatDoorZ27
import Derived.Lib.Strings
import Derived.Test.YtbgfannlfagoiaaGreatDoorShelf
import Derived.Test.YtbgfannlfagoiaaGreatDoorZ01
import Derived.Test.YtbgfannlfagoiaaGreatDoorZ06
import Derived.Deep.AppendLies
namespace Go.Proofs.YtbgfannlfagoiaaGreatDoor
open Go.RowKit Go.Lull
set_option linter.unusedVariables false

theorem toList_data (s : ByteArray) : s.toList = s.data.toList := by
 exact ByteArray.toList_eq s

theorem ret_2 {a b : Int} {c d : Bool} (h : a = b) (g : c = d) : Ending.returned (.tuple #[.int .i64 a, .bool c]) = .returned (.tuple #[.int .i64 b, .bool d]) := by rw [h, g]

set_option maxHeartbeats 1000000 in
theorem readNumber_any (s : ByteArray) (w : World) (hs : s.size ≤ 1000000) :
  Calls Tryz.prog 125 #[.string s, .int .i64 1000] w fun e w' => e = .returned (.tuple #[.int .i64 (num0 (numB 1000 s.data.toList)), .bool (numB 1000 s.data.toList).isSome]) ∧ w' = w := by
 have hl : s.data.toList.length = s.size := by simp
 have ht := toList_data s
 by_cases h0 : s.size = 0
 ·have e : s.toList = [] := by rw [ht]; exact List.length_eq_zero_iff.1 (by omega)
  rw [numB_empty 1000 s h0]
  clear ht hl
  go_enter Tryz.func125, Tryz.ntmps125
  go_wp2
  go_ret2
  exact ⟨rfl, rfl⟩
 have hp : 0 < s.size := by omega
 have e0 : s.data.toList = s[0] :: s.data.toList.drop 1 := by simpa using drop_cons s 0 hp
 have hne : ¬ s.toList = [] := by rw [ht, e0]; simp
 have hne2 : s.toList.isEmpty = false := by rw [ht, e0]; rfl
 have key : (((s[0].toNat : Int) == 48) = true ∧ (s.toList == [48]) = false ∧ 1 < s.size ∧ s[0].toNat = 48) ∨ (((s[0].toNat : Int) == 48) = true ∧ (s.toList == [48]) = true ∧ s.size = 1) ∨ (((s[0].toNat : Int) == 48) = false ∧ s[0].toNat ≠ 48) := by
  by_cases hz : s[0].toNat = 48
  ·have hb : ((s[0].toNat : Int) == 48) = true := by rw [hz]; rfl
   have h48 : s[0] = 48 := UInt8.toNat_inj.1 hz
   by_cases h1 : 1 < s.size
   ·refine Or.inl ⟨hb, ?_, h1, hz⟩
    rw [ht]
    apply beq_false_of_ne
    intro h
    rw [h] at hl
    simp at hl; omega
   ·refine Or.inr (Or.inl ⟨hb, ?_, by omega⟩)
    rw [ht, e0, h48, List.drop_of_length_le (by omega)]
    rfl
  ·exact Or.inr (Or.inr ⟨by simp; omega, hz⟩)
 clear ht hl e0
 rcases key with ⟨hb, hq, h1, hz⟩ | ⟨hb, hq, h1⟩ | ⟨hb, hz⟩
 ·rw [numB_zero 1000 s h1 hz]
  clear hz
  go_enter Tryz.func125, Tryz.ntmps125
  go_wp2
  go_ret2
  exact ⟨rfl, rfl⟩
 all_goals
  first | rw [numB_loop 1000 s hp (Or.inl h1)] | rw [numB_loop 1000 s hp (Or.inr hz)]
  first | clear h1 | clear hz
  go_enter Tryz.func125, Tryz.ntmps125
  go_wp2
  go_loop [6, 21] (fun n i => ∃ k m : Nat, k ≤ s.size ∧ m ≤ 1000 ∧ i = .int .i64 k ∧ n = .int .i64 m ∧ Hid (numL 1000 0 s.data.toList = numL 1000 m (s.data.toList.drop k))) (fun _ i => s.size - (intOf i).toNat)
  case atStart => exact ⟨0, 0, Nat.zero_le _, by omega, rfl, rfl, rfl⟩
  case round =>
   obtain ⟨k, m, hk, hm, rfl, rfl, H⟩ := hrel
   by_cases hlt : k < s.size
   ·have hd := drop_cons s k hlt
    have H2 : Hid (numL 1000 0 s.data.toList = numL 1000 m (s[k] :: s.data.toList.drop (k + 1))) := by rw [← hd]; exact H
    clear hd H
    have hc := toNat_lt s[k]
    rcases (show s[k].toNat < 48 ∨ 57 < s[k].toNat ∨ (48 ≤ s[k].toNat ∧ s[k].toNat ≤ 57 ∧ 1000 < 10 * m + (s[k].toNat - 48)) ∨ (48 ≤ s[k].toNat ∧ s[k].toNat ≤ 57 ∧ ¬ 1000 < 10 * m + (s[k].toNat - 48)) from by omega) with h | h | ⟨h1, h2, h3⟩ | ⟨h1, h2, h3⟩
    ·go_wp2
     go_ret2
     exact ⟨ret_2 (by rw [H2.out, numL_no (by omega)]; rfl) (by rw [H2.out, numL_no (by omega)]; rfl), rfl⟩
    ·go_wp2
     go_ret2
     exact ⟨ret_2 (by rw [H2.out, numL_no (by omega)]; rfl) (by rw [H2.out, numL_no (by omega)]; rfl), rfl⟩
    ·go_wp2
     go_ret2
     exact ⟨ret_2 (by rw [H2.out, numL_big ⟨h1, h2⟩ h3]; rfl) (by rw [H2.out, numL_big ⟨h1, h2⟩ h3]; rfl), rfl⟩
    ·go_wp2
     go_round
     case rel =>
      have R : Hid (numL 1000 0 s.data.toList = numL 1000 (10 * m + (s[k].toNat - 48)) (s.data.toList.drop (k + 1))) := by rw [← numL_step ⟨h1, h2⟩ h3]; exact H2
      exact ⟨k + 1, 10 * m + (s[k].toNat - 48), by omega, by omega, by go_num, by go_num, R⟩
     case measure => simp [intOf]; omega
   ·go_wp2
    go_ret2
    exact ⟨ret_2 (by rw [H.out, List.drop_of_length_le (by simp; omega)]; rfl) (by rw [H.out, List.drop_of_length_le (by simp; omega)]; rfl), rfl⟩
end Go.Proofs.YtbgfannlfagoiaaGreatDoor

namespace Go.Proofs.YtbgfannlfagoiaaGreatDoor
open Go.RowKit Go.Lull
set_option linter.unusedVariables false

theorem cut_yes (s t : ByteArray) (c : UInt8) (w : World) (h : s.data.toList = c :: t.data.toList) :
  Calls Tryz.prog 132 #[.string s, .string ⟨#[c]⟩] w fun e w' => e = .returned (.tuple #[.string t, .bool true]) ∧ w' = w := by
 refine (Go.Proofs.Tryz.strings_CutPrefix s ⟨#[c]⟩ w).mono ?_
 rintro e w' ⟨rfl, rfl⟩
 have h1 : Lib.hasPrefix s.data.toList [c] = true := by rw [h]; simp [Lib.hasPrefix]
 have h2 : Lib.trimPrefix s.data.toList [c] = t.data.toList := by unfold Lib.trimPrefix; rw [if_pos h1, h]; rfl
 refine ⟨?_, rfl⟩
 show Ending.returned (.tuple #[.string ⟨(Lib.trimPrefix s.data.toList [c]).toArray⟩, .bool (Lib.hasPrefix s.data.toList [c])]) = _
 rw [h1, h2]

theorem cut_no (s : ByteArray) (c : UInt8) (w : World) (h : ∀ r, s.data.toList ≠ c :: r) :
  Calls Tryz.prog 132 #[.string s, .string ⟨#[c]⟩] w fun e w' => e = .returned (.tuple #[.string s, .bool false]) ∧ w' = w := by
 refine (Go.Proofs.Tryz.strings_CutPrefix s ⟨#[c]⟩ w).mono ?_
 rintro e w' ⟨rfl, rfl⟩
 have h1 : Lib.hasPrefix s.data.toList [c] = false := by
  cases hl : s.data.toList with
  | nil => rfl
  | cons x r =>
   have : x ≠ c := fun e => h r (by rw [hl, e])
   have h3 : (c == x) = false := beq_false_of_ne (fun e => this e.symm)
   simp [Lib.hasPrefix, List.isPrefixOf, h3]
 have h2 : Lib.trimPrefix s.data.toList [c] = s.data.toList := by unfold Lib.trimPrefix; rw [if_neg (by rw [h1]; decide)]
 refine ⟨?_, rfl⟩
 show Ending.returned (.tuple #[.string ⟨(Lib.trimPrefix s.data.toList [c]).toArray⟩, .bool (Lib.hasPrefix s.data.toList [c])]) = _
 rw [h1, h2]


set_option maxHeartbeats 1000000 in
theorem readValue_neg (s t : ByteArray) (w : World) (hs : s.size ≤ 1000000) (h : s.data.toList = 45 :: t.data.toList) :
  Calls Tryz.prog 143 #[.string s] w fun e w' => ∃ (v : Int) (b : Bool), e = .returned (.tuple #[.int .i64 v, .bool b]) ∧ b = (valB s.data.toList).isSome ∧ (∀ n, valB s.data.toList = some n → v = n) ∧ w' = w := by
 have ht : t.size ≤ 1000000 := by
  have : s.data.toList.length = s.size := by simp
  have h2 : t.data.toList.length = t.size := by simp
  rw [h] at this; simp at this; omega
 obtain ⟨o, ho⟩ : ∃ o, numB 1000 t.data.toList = o := ⟨_, rfl⟩
 have hle : ∀ n, o = some n → n ≤ 1000 := fun n e => numB_le (ho.trans e)
 have hv : valB s.data.toList = negO o := by rw [h, valB_neg, ho]
 have hN : Hid (valB s.data.toList = negO o) := hv
 clear hv
 have hread := fun w => readNumber_any t w ht
 rw [ho] at hread
 have H : Hid (s.data.toList = 45 :: t.data.toList) := h
 clear h ho hs
 cases o with
 | none =>
  clear hle
  go_enter Tryz.func143, Tryz.ntmps143
  go_wp2_with (first | (go_at_call 132; refine (cut_yes s t 45 _ H.out).mono ?_; rintro e w' ⟨rfl, rfl⟩) | (go_at_call 125; refine (hread _).mono ?_; rintro e w' ⟨rfl, rfl⟩))
  go_ret2
  exact ⟨_, _, rfl, by rw [hN.out]; rfl, (by rw [hN.out]; intro n h; cases h), rfl⟩
 | some n =>
  have hl := hle n rfl
  clear hle
  have hread2 : ∀ w, Calls Tryz.prog 125 #[.string t, .int .i64 1000] w fun e w' => e = .returned (.tuple #[.int .i64 (n : Int), .bool true]) ∧ w' = w := hread
  clear hread
  have hread := hread2
  clear hread2
  by_cases hn : n = 0
  ·subst hn
   go_enter Tryz.func143, Tryz.ntmps143
   go_wp2_with (first | (go_at_call 132; refine (cut_yes s t 45 _ H.out).mono ?_; rintro e w' ⟨rfl, rfl⟩) | (go_at_call 125; refine (hread _).mono ?_; rintro e w' ⟨rfl, rfl⟩))
   go_ret2
   exact ⟨_, _, rfl, by rw [hN.out]; rfl, (by rw [hN.out]; intro n h; cases h <;> rfl), rfl⟩
  ·have hb : ((n : Int) == 0) = false := by simp; omega
   go_enter Tryz.func143, Tryz.ntmps143
   go_wp2_with (first | (go_at_call 132; refine (cut_yes s t 45 _ H.out).mono ?_; rintro e w' ⟨rfl, rfl⟩) | (go_at_call 125; refine (hread _).mono ?_; rintro e w' ⟨rfl, rfl⟩))
   go_ret2
   exact ⟨_, _, rfl, by rw [hN.out]; simp [negO, hn], (by rw [hN.out]; intro m h; simp [negO, hn] at h; rw [← h]), rfl⟩

set_option maxHeartbeats 1000000 in
theorem readValue_pos (s : ByteArray) (w : World) (hs : s.size ≤ 1000000) (h : ∀ r, s.data.toList ≠ 45 :: r) :
  Calls Tryz.prog 143 #[.string s] w fun e w' => ∃ (v : Int) (b : Bool), e = .returned (.tuple #[.int .i64 v, .bool b]) ∧ b = (valB s.data.toList).isSome ∧ (∀ n, valB s.data.toList = some n → v = n) ∧ w' = w := by
 obtain ⟨o, ho⟩ : ∃ o, numB 1000 s.data.toList = o := ⟨_, rfl⟩
 have hle : ∀ n, o = some n → n ≤ 1000 := fun n e => numB_le (ho.trans e)
 have hv : valB s.data.toList = posO o := by rw [valB_pos h, ho]
 have hN : Hid (valB s.data.toList = posO o) := hv
 clear hv
 have hread := fun w => readNumber_any s w hs
 rw [ho] at hread
 have H : Hid (∀ r, s.data.toList ≠ 45 :: r) := h
 clear h ho hs
 cases o with
 | none =>
  clear hle
  go_enter Tryz.func143, Tryz.ntmps143
  go_wp2_with (first | (go_at_call 132; refine (cut_no s 45 _ H.out).mono ?_; rintro e w' ⟨rfl, rfl⟩) | (go_at_call 125; refine (hread _).mono ?_; rintro e w' ⟨rfl, rfl⟩))
  go_ret2
  exact ⟨_, _, rfl, by rw [hN.out]; rfl, (by rw [hN.out]; intro n h; cases h), rfl⟩
 | some n =>
  have hl := hle n rfl
  clear hle
  have hread2 : ∀ w, Calls Tryz.prog 125 #[.string s, .int .i64 1000] w fun e w' => e = .returned (.tuple #[.int .i64 (n : Int), .bool true]) ∧ w' = w := hread
  clear hread
  have hread := hread2
  clear hread2
  by_cases hn : n = 0
  ·subst hn
   go_enter Tryz.func143, Tryz.ntmps143
   go_wp2_with (first | (go_at_call 132; refine (cut_no s 45 _ H.out).mono ?_; rintro e w' ⟨rfl, rfl⟩) | (go_at_call 125; refine (hread _).mono ?_; rintro e w' ⟨rfl, rfl⟩))
   go_ret2
   exact ⟨_, _, rfl, by rw [hN.out]; rfl, (by rw [hN.out]; intro n h; cases h <;> rfl), rfl⟩
  ·have hb : ((n : Int) == 0) = false := by simp; omega
   go_enter Tryz.func143, Tryz.ntmps143
   go_wp2_with (first | (go_at_call 132; refine (cut_no s 45 _ H.out).mono ?_; rintro e w' ⟨rfl, rfl⟩) | (go_at_call 125; refine (hread _).mono ?_; rintro e w' ⟨rfl, rfl⟩))
   go_ret2
   exact ⟨_, _, rfl, by rw [hN.out]; simp [posO], (by rw [hN.out]; intro m h; simp [posO] at h; rw [← h]), rfl⟩

theorem readValue_any (s : ByteArray) (w : World) (hs : s.size ≤ 1000000) :
  Calls Tryz.prog 143 #[.string s] w fun e w' => ∃ (v : Int) (b : Bool), e = .returned (.tuple #[.int .i64 v, .bool b]) ∧ b = (valB s.data.toList).isSome ∧ (∀ n, valB s.data.toList = some n → v = n) ∧ w' = w := by
 by_cases h : ∃ r, s.data.toList = 45 :: r
 ·obtain ⟨r, h⟩ := h
  exact readValue_neg s ⟨r.toArray⟩ w hs (by simpa using h)
 ·exact readValue_pos s w hs (fun r e => h ⟨r, e⟩)
end Go.Proofs.YtbgfannlfagoiaaGreatDoor

namespace Go.Proofs.YtbgfannlfagoiaaGreatDoor
open Go.RowKit Go.Lull
set_option linter.unusedVariables false

theorem isSign_any (c : UInt8) (w : World) :
  Calls Tryz.prog 142 #[.int .u8 c.toNat] w fun e w' => e = .returned (.bool (signB c)) ∧ w' = w := by
 have hc := toNat_lt c
 unfold signB
 by_cases h1 : c.toNat = 60
 ·rw [h1]
  go_enter Tryz.func142, Tryz.ntmps142
  go_wp2
  go_ret
  exact ⟨rfl, rfl⟩
 by_cases h2 : c.toNat = 61
 ·rw [h2]
  go_enter Tryz.func142, Tryz.ntmps142
  go_wp2
  go_ret
  exact ⟨rfl, rfl⟩
 by_cases h3 : c.toNat = 62
 ·rw [h3]
  go_enter Tryz.func142, Tryz.ntmps142
  go_wp2
  go_ret
  exact ⟨rfl, rfl⟩
 have e1 : ((c.toNat : Int) == 60) = false := by simp; omega
 have e2 : ((c.toNat : Int) == 61) = false := by simp; omega
 have e3 : ((c.toNat : Int) == 62) = false := by simp; omega
 have e : decide (c.toNat = 60 ∨ c.toNat = 61 ∨ c.toNat = 62) = false := by simp; omega
 rw [e]
 clear h1 h2 h3 e
 go_enter Tryz.func142, Tryz.ntmps142
 go_wp2
 go_ret
 exact ⟨rfl, rfl⟩

/-- What readCondition, and stepOf, hand back. -/
def CondPost (o : Option (UInt8 × UInt8 × Int)) (w : World) (e : Ending) (w' : World) : Prop :=
 ∃ (k g v : Int) (b : Bool), e = .returned (.tuple #[.agg #[.int .u8 k, .int .u8 g, .int .i64 v], .bool b]) ∧ b = o.isSome ∧ (∀ x, o = some x → k = x.1.toNat ∧ g = x.2.1.toNat ∧ v = x.2.2) ∧ Below w.heap.size w w'

theorem ex_mid (s : ByteArray) (a b : Nat) : (s.extract a b).data.toList = (s.data.toList.drop a).take (b - a) := by
 rw [Lib.extract_data]
theorem ex_end (s : ByteArray) (a : Nat) : (s.extract a s.size).data.toList = s.data.toList.drop a := by
 rw [ex_mid, List.take_of_length_le (by simp)]
theorem condB_nil_of {s : ByteArray} (h : s.size = 0) : condB s.data.toList = none := by
 have e : s.data.toList = [] := List.length_eq_zero_iff.1 (by simpa using h)
 rw [e]; rfl
theorem head_of {s : ByteArray} (hp : 0 < s.size) : s.data.toList = s[0] :: s.data.toList.drop 1 := by simpa using drop_cons s 0 hp
theorem two_of {s : ByteArray} (hp : 1 < s.size) : s.data.toList = s[0] :: s[1] :: s.data.toList.drop 2 := by
 have h1 := drop_cons s 1 hp
 have h0 := head_of (s := s) (by omega)
 rw [h1] at h0; exact h0
theorem condB_noletter {k : UInt8} {r : List UInt8} (h : letterB k = false) : condB (k :: r) = none := by
 cases r <;> simp [condB, h]
theorem condB_one {k : UInt8} (h : letterB k = true) : condB [k] = some (k, 0, 0) := by simp [condB, h]
theorem condB_nosign {k g : UInt8} {r : List UInt8} (h : signB g = false) : condB (k :: g :: r) = none := by simp [condB, h]
theorem condB_sign {k g : UInt8} {r : List UInt8} (h : letterB k = true) (h2 : signB g = true) : condB (k :: g :: r) = withO (fun n => (k, g, n)) (valB r) := by simp [condB, h, h2]

set_option maxHeartbeats 1000000 in
theorem readCondition_any (s : ByteArray) (w : World) (hs : s.size ≤ 1000000) :
  Calls Tryz.prog 133 #[.string s] w (CondPost (condB s.data.toList) w) := by
 have ht := toList_data s
 by_cases h0 : s.size = 0
 ·have e : s.toList = [] := by rw [ht]; exact List.length_eq_zero_iff.1 (by simpa using h0)
  rw [condB_nil_of h0]
  clear ht
  go_enter Tryz.func133, Tryz.ntmps133
  go_wp2
  refine bodyPost_ret (v := .tuple #[.agg #[.int .u8 0, .int .u8 0, .int .i64 0], .bool false]) (by simp [results, Tryz.results133, go_sem]) rfl ⟨0, 0, 0, false, rfl, rfl, (by intro x h; cases h), ?_⟩
  exact (Below.refl _ _).alloc (Nat.le_refl _) _
 have hp : 0 < s.size := by omega
 have e0 := head_of hp
 have hne : ¬ s.toList = [] := by rw [ht, e0]; simp
 have hne2 : s.toList.isEmpty = false := by rw [ht, e0]; rfl
 clear ht
 have hc := toNat_lt s[0]
 by_cases hlo : s[0].toNat < 97
 ·rw [e0, condB_noletter (by simp [letterB]; omega)]
  clear e0
  go_enter Tryz.func133, Tryz.ntmps133
  go_wp2
  refine bodyPost_ret (v := .tuple #[.agg #[.int .u8 0, .int .u8 0, .int .i64 0], .bool false]) (by simp [results, Tryz.results133, go_sem]) rfl ⟨0, 0, 0, false, rfl, rfl, (by intro x h; cases h), ?_⟩
  exact (Below.refl _ _).alloc (Nat.le_refl _) _
 by_cases hhi : 122 < s[0].toNat
 ·rw [e0, condB_noletter (by simp [letterB]; omega)]
  clear e0
  go_enter Tryz.func133, Tryz.ntmps133
  go_wp2
  refine bodyPost_ret (v := .tuple #[.agg #[.int .u8 0, .int .u8 0, .int .i64 0], .bool false]) (by simp [results, Tryz.results133, go_sem]) rfl ⟨0, 0, 0, false, rfl, rfl, (by intro x h; cases h), ?_⟩
  exact (Below.refl _ _).alloc (Nat.le_refl _) _
 have hL : letterB s[0] = true := by simp [letterB]; omega
 by_cases h1 : s.size ≤ 1
 ·have e1 : s.data.toList = [s[0]] := by rw [List.drop_of_length_le (by simp; omega)] at e0; exact e0
  rw [e1, condB_one hL]
  clear e0 e1 hL
  go_enter Tryz.func133, Tryz.ntmps133
  go_wp2
  refine bodyPost_ret (v := .tuple #[.agg #[.int .u8 s[0].toNat, .int .u8 0, .int .i64 0], .bool true]) (by simp [results, Tryz.results133, go_sem]) rfl ⟨s[0].toNat, 0, 0, true, rfl, rfl, (by intro x h; cases h; exact ⟨rfl, rfl, rfl⟩), ?_⟩
  exact (Below.refl _ _).alloc (Nat.le_refl _) _
 have h1' : 1 < s.size := by omega
 have e1 := two_of h1'
 clear e0
 by_cases hg : signB s[1] = true
 ·have hx : (s.extract 2 s.size).data.toList = s.data.toList.drop 2 := ex_end s 2
  have hval := fun w => readValue_any (s.extract 2 s.size) w (by rw [ByteArray.size_extract]; omega)
  rw [hx] at hval
  rw [e1, condB_sign hL hg]
  obtain ⟨o, ho⟩ : ∃ o, valB (s.data.toList.drop 2) = o := ⟨_, rfl⟩
  rw [ho] at hval
  rw [ho]
  have H : Hid (signB s[1] = true) := hg
  clear ho hx e1 hL hg
  go_enter Tryz.func133, Tryz.ntmps133
  go_wp2_with (first | (go_at_call 142; refine (isSign_any _ _).mono ?_; rw [H.out]; rintro e w' ⟨rfl, rfl⟩) | (go_at_call 143; refine (hval _).mono ?_; rintro e w' ⟨v, b, rfl, hb, hv, rfl⟩))
  go_region
  all_goals (try go_wp2)
  refine bodyPost_ret (v := .tuple #[.agg #[.int .u8 s[0].toNat, .int .u8 s[1].toNat, .int .i64 v], .bool o.isSome]) (by simp [results, Tryz.results133, go_sem]) rfl ⟨s[0].toNat, s[1].toNat, v, o.isSome, rfl, (withO_isSome _ o).symm, ?_, ?_⟩
  ·intro x h
   cases o with
   | none => cases h
   | some n => cases h; exact ⟨rfl, rfl, hv n rfl⟩
  ·exact ((Below.refl _ _).alloc (Nat.le_refl _) _).drew
 ·rw [e1, condB_nosign (by simpa using hg)]
  have hg' : signB s[1] = false := by simpa using hg
  have H : Hid (signB s[1] = false) := hg'
  clear hg'
  clear e1 hL hg
  go_enter Tryz.func133, Tryz.ntmps133
  go_wp2_with (go_at_call 142; refine (isSign_any _ _).mono ?_; rw [H.out]; rintro e w' ⟨rfl, rfl⟩)
  refine bodyPost_ret (v := .tuple #[.agg #[.int .u8 0, .int .u8 0, .int .i64 0], .bool false]) (by simp [results, Tryz.results133, go_sem]) rfl ⟨0, 0, 0, false, rfl, rfl, (by intro x h; cases h), ?_⟩
  exact (Below.refl _ _).alloc (Nat.le_refl _) _
end Go.Proofs.YtbgfannlfagoiaaGreatDoor

namespace Go.Proofs.YtbgfannlfagoiaaGreatDoor
open Go.RowKit Go.Lull
set_option linter.unusedVariables false

theorem readCondition_no (s : ByteArray) (w : World) (hs : s.size ≤ 1000000) (ho : condB s.data.toList = none) :
  Calls Tryz.prog 133 #[.string s] w fun e w' => ∃ k g v, e = .returned (.tuple #[.agg #[.int .u8 k, .int .u8 g, .int .i64 v], .bool false]) ∧ Below w.heap.size w w' := by
 have h := readCondition_any s w hs
 rw [ho] at h
 refine h.mono ?_
 rintro e w' ⟨k, g, v, b, rfl, hb, _, hB⟩
 rw [hb]
 exact ⟨k, g, v, rfl, hB⟩
theorem readCondition_yes (s : ByteArray) (x : UInt8 × UInt8 × Int) (w : World) (hs : s.size ≤ 1000000) (ho : condB s.data.toList = some x) :
  Calls Tryz.prog 133 #[.string s] w fun e w' => e = .returned (.tuple #[.agg #[.int .u8 x.1.toNat, .int .u8 x.2.1.toNat, .int .i64 x.2.2], .bool true]) ∧ Below w.heap.size w w' := by
 have h := readCondition_any s w hs
 rw [ho] at h
 refine h.mono ?_
 rintro e w' ⟨k, g, v, b, rfl, hb, hx, hB⟩
 obtain ⟨rfl, rfl, rfl⟩ := hx x rfl
 rw [hb]
 exact ⟨rfl, hB⟩

set_option maxHeartbeats 1000000 in
theorem readStep_not_none (s t : ByteArray) (w : World) (hs : t.size ≤ 1000000) (h : s.data.toList = 33 :: t.data.toList) (ho : condB t.data.toList = none) :
  Calls Tryz.prog 123 #[.string s] w fun e w' => e = .returned (.tuple #[.nilIface, .bool false]) ∧ Below w.heap.size w w' := by
 have hread := fun w => readCondition_no t w hs ho
 have H : Hid (s.data.toList = 33 :: t.data.toList) := h
 clear h ho hs
 go_enter Tryz.func123, Tryz.ntmps123
 go_wp2_with (first | (go_at_call 132; refine (cut_yes s t 33 _ H.out).mono ?_; rintro e w' ⟨rfl, rfl⟩) | (go_at_call 133; refine (hread _).mono ?_; rintro e w1 ⟨k, g, v, rfl, hb⟩))
 go_ret2
 exact ⟨rfl, hb.alloc (by have := hb.size; omega) _⟩

set_option maxHeartbeats 1000000 in
theorem readStep_not_some (s t : ByteArray) (x : UInt8 × UInt8 × Int) (w : World) (hs : t.size ≤ 1000000) (h : s.data.toList = 33 :: t.data.toList) (ho : condB t.data.toList = some x) :
  Calls Tryz.prog 123 #[.string s] w fun e w' => e = .returned (.tuple #[.iface 225 (.agg #[.int .u8 x.1.toNat, .int .u8 x.2.1.toNat, .int .i64 x.2.2]), .bool true]) ∧ Below w.heap.size w w' := by
 have hread := fun w => readCondition_yes t x w hs ho
 have H : Hid (s.data.toList = 33 :: t.data.toList) := h
 clear h ho hs
 go_enter Tryz.func123, Tryz.ntmps123
 go_wp2_with (first | (go_at_call 132; refine (cut_yes s t 33 _ H.out).mono ?_; rintro e w' ⟨rfl, rfl⟩) | (go_at_call 133; refine (hread _).mono ?_; rintro e w1 ⟨rfl, hb⟩))
 go_ret2
 exact ⟨rfl, hb.alloc (by have := hb.size; omega) _⟩

set_option maxHeartbeats 1000000 in
theorem readStep_must_none (s : ByteArray) (w : World) (hs : s.size ≤ 1000000) (h : ∀ r, s.data.toList ≠ 33 :: r) (ho : condB s.data.toList = none) :
  Calls Tryz.prog 123 #[.string s] w fun e w' => e = .returned (.tuple #[.nilIface, .bool false]) ∧ Below w.heap.size w w' := by
 have hread := fun w => readCondition_no s w hs ho
 have H : Hid (∀ r, s.data.toList ≠ 33 :: r) := h
 clear h ho hs
 go_enter Tryz.func123, Tryz.ntmps123
 go_wp2_with (first | (go_at_call 132; refine (cut_no s 33 _ H.out).mono ?_; rintro e w' ⟨rfl, rfl⟩) | (go_at_call 133; refine (hread _).mono ?_; rintro e w1 ⟨k, g, v, rfl, hb⟩))
 go_ret2
 exact ⟨rfl, hb.alloc (by have := hb.size; omega) _⟩

set_option maxHeartbeats 1000000 in
theorem readStep_must_some (s : ByteArray) (x : UInt8 × UInt8 × Int) (w : World) (hs : s.size ≤ 1000000) (h : ∀ r, s.data.toList ≠ 33 :: r) (ho : condB s.data.toList = some x) :
  Calls Tryz.prog 123 #[.string s] w fun e w' => e = .returned (.tuple #[.iface 226 (.agg #[.int .u8 x.1.toNat, .int .u8 x.2.1.toNat, .int .i64 x.2.2]), .bool true]) ∧ Below w.heap.size w w' := by
 have hread := fun w => readCondition_yes s x w hs ho
 have H : Hid (∀ r, s.data.toList ≠ 33 :: r) := h
 clear h ho hs
 go_enter Tryz.func123, Tryz.ntmps123
 go_wp2_with (first | (go_at_call 132; refine (cut_no s 33 _ H.out).mono ?_; rintro e w' ⟨rfl, rfl⟩) | (go_at_call 133; refine (hread _).mono ?_; rintro e w1 ⟨rfl, hb⟩))
 go_ret2
 exact ⟨rfl, hb.alloc (by have := hb.size; omega) _⟩


theorem readStep_no (s : ByteArray) (w : World) (hs : s.size ≤ 1000000) (ho : stepB s.data.toList = none) :
  Calls Tryz.prog 123 #[.string s] w fun e w' => e = .returned (.tuple #[.nilIface, .bool false]) ∧ Below w.heap.size w w' := by
 by_cases h : ∃ r, s.data.toList = 33 :: r
 ·obtain ⟨r, h⟩ := h
  rw [h, stepB_not] at ho
  have hl : s.data.toList.length = s.size := by simp
  have ht : (⟨r.toArray⟩ : ByteArray).size ≤ 1000000 := by
   have : (⟨r.toArray⟩ : ByteArray).size = r.length := by simp [ByteArray.size]
   rw [h] at hl; simp at hl; omega
  refine readStep_not_none s ⟨r.toArray⟩ w ht (by simpa using h) ?_
  cases hc : condB r with
  | none => rfl
  | some x => rw [hc] at ho; cases ho
 ·have h' : ∀ r, s.data.toList ≠ 33 :: r := fun r e => h ⟨r, e⟩
  rw [stepB_must h'] at ho
  refine readStep_must_none s w hs h' ?_
  cases hc : condB s.data.toList with
  | none => rfl
  | some x => rw [hc] at ho; cases ho

theorem readStep_yes (s : ByteArray) (x : Bool × UInt8 × UInt8 × Int) (w : World) (hs : s.size ≤ 1000000) (ho : stepB s.data.toList = some x) :
  Calls Tryz.prog 123 #[.string s] w fun e w' => e = .returned (.tuple #[stepV x, .bool true]) ∧ Below w.heap.size w w' := by
 by_cases h : ∃ r, s.data.toList = 33 :: r
 ·obtain ⟨r, h⟩ := h
  rw [h, stepB_not] at ho
  have hl : s.data.toList.length = s.size := by simp
  have ht : (⟨r.toArray⟩ : ByteArray).size ≤ 1000000 := by
   have : (⟨r.toArray⟩ : ByteArray).size = r.length := by simp [ByteArray.size]
   rw [h] at hl; simp at hl; omega
  cases hc : condB r with
  | none => rw [hc] at ho; cases ho
  | some y =>
   rw [hc] at ho
   cases ho
   exact readStep_not_some s ⟨r.toArray⟩ y w ht (by simpa using h) (by simpa using hc)
 ·have h' : ∀ r, s.data.toList ≠ 33 :: r := fun r e => h ⟨r, e⟩
  rw [stepB_must h'] at ho
  cases hc : condB s.data.toList with
  | none => rw [hc] at ho; cases ho
  | some y =>
   rw [hc] at ho
   cases ho
   exact readStep_must_some s y w hs h' hc
end Go.Proofs.YtbgfannlfagoiaaGreatDoor

namespace Go.Proofs.YtbgfannlfagoiaaGreatDoor
open Go.RowKit Go.Lull
set_option linter.unusedVariables false

theorem last_at (steps : List Stp) (h : steps ≠ []) : ∃ l y, steps = l ++ [y] :=
 ⟨steps.dropLast, steps.getLast h, (List.dropLast_concat_getLast h).symm⟩

set_option maxHeartbeats 400000 in
theorem endInMust_nil (v : Value) (w : World) (base : Nat) (hown : w.ownsRow base 208 1 v 0 []) :
  Calls Tryz.prog 134 #[v] w fun e w' => e = .returned (.bool false) ∧ w' = w := by
 rcases hown with ⟨_, ⟨rfl, _⟩ | ⟨g, cap, cur, rfl, _⟩⟩
 all_goals
  go_enter Tryz.func134, Tryz.ntmps134
  go_wp2
  go_ret
  exact ⟨rfl, rfl⟩

set_option maxHeartbeats 400000 in
theorem endInMust_at (g n cap : Nat) (y : Stp) (w : World) (hn : n ≤ 8) (hc : w.cell? ⟨g, n, none⟩ = some (stepV y)) (hcap : n + 1 ≤ cap) :
  Calls Tryz.prog 134 #[.slice (some ⟨g, 0, none⟩) (n + 1) cap] w fun e w' => e = .returned (.bool (!y.1)) ∧ w' = w := by
 obtain ⟨b, y⟩ := y
 have t1 := must_must
 have t2 := not_must
 cases b
 ·have hc' : w.cell? ⟨g, n, none⟩ = some (.iface 226 (.agg #[.int .u8 y.1.toNat, .int .u8 y.2.1.toNat, .int .i64 y.2.2])) := hc
  clear hc
  go_enter Tryz.func134, Tryz.ntmps134
  go_wp2
  go_ret
  exact ⟨rfl, rfl⟩
 ·have hc' : w.cell? ⟨g, n, none⟩ = some (.iface 225 (.agg #[.int .u8 y.1.toNat, .int .u8 y.2.1.toNat, .int .i64 y.2.2])) := hc
  clear hc
  go_enter Tryz.func134, Tryz.ntmps134
  go_wp2
  go_ret
  exact ⟨rfl, rfl⟩

theorem endInMust_any (v : Value) (steps : List Stp) (w : World) (base : Nat) (hn : steps.length ≤ 8) (hown : w.ownsRow base 208 1 v steps.length (steps.map stepV)) :
  Calls Tryz.prog 134 #[v] w fun e w' => e = .returned (.bool (endB steps)) ∧ w' = w := by
 by_cases h : steps = []
 ·subst h
  exact endInMust_nil v w base hown
 ·obtain ⟨l, y, rfl⟩ := last_at steps h
  rcases hown.2 with ⟨_, h0⟩ | ⟨g, cap, cur, rfl, _, _, hcap, _⟩
  ·simp at h0
  ·have hc := hown.cellAt l.length (by simp)
   rw [endB_snoc]
   simp only [List.length_append, List.length_cons, List.length_nil] at hn hcap ⊢
   refine endInMust_at g l.length cap y w (by omega) ?_ (by omega)
   rw [hc]; simp

set_option maxHeartbeats 400000 in
theorem mayFollow_any (v : Value) (steps : List Stp) (x : Stp) (w : World) (base : Nat) (hn : steps.length ≤ 8) (hown : w.ownsRow base 208 1 v steps.length (steps.map stepV)) :
  Calls Tryz.prog 124 #[v, stepV x] w fun e w' => e = .returned (.bool (mayB steps x)) ∧ w' = w := by
 have hend := fun w hown => endInMust_any v steps w base hn hown
 have hv : ∃ a cap, v = .slice a steps.length cap := by
  rcases hown.2 with ⟨h, h0⟩ | ⟨g, cap, cur, h, _⟩
  ·exact ⟨_, _, h0 ▸ h⟩
  ·exact ⟨_, _, h⟩
 obtain ⟨a, cap, rfl⟩ := hv
 have H : Hid (w.ownsRow base 208 1 (.slice a steps.length cap) steps.length (steps.map stepV)) := hown
 clear hown
 obtain ⟨b, y⟩ := x
 have t1 := not_not
 have t2 := must_not
 by_cases h8 : steps.length < 8
 ·cases b
  ·have e : mayB steps (false, y) = true := by simp [mayB, h8]
   rw [e]
   show Calls Tryz.prog 124 #[.slice a steps.length cap, .iface 226 (.agg #[.int .u8 y.1.toNat, .int .u8 y.2.1.toNat, .int .i64 y.2.2])] w _
   clear e hend
   go_enter Tryz.func124, Tryz.ntmps124
   go_wp2
   go_ret
   exact ⟨rfl, rfl⟩
  ·have e : mayB steps (true, y) = endB steps := by simp [mayB, h8]
   rw [e]
   show Calls Tryz.prog 124 #[.slice a steps.length cap, .iface 225 (.agg #[.int .u8 y.1.toNat, .int .u8 y.2.1.toNat, .int .i64 y.2.2])] w _
   clear e
   go_enter Tryz.func124, Tryz.ntmps124
   go_wp2_with (go_at_call 134; refine (hend _ H.out).mono ?_; rintro e w' ⟨rfl, rfl⟩)
   go_ret
   exact ⟨rfl, rfl⟩
 ·have e : mayB steps (b, y) = false := by simp [mayB, h8]
  rw [e]
  obtain ⟨x, hx⟩ : ∃ x, stepV (b, y) = x := ⟨_, rfl⟩
  rw [hx]
  clear e hx hend t1 t2
  go_enter Tryz.func124, Tryz.ntmps124
  go_wp2
  go_ret
  exact ⟨rfl, rfl⟩
end Go.Proofs.YtbgfannlfagoiaaGreatDoor

namespace Go.Proofs.YtbgfannlfagoiaaGreatDoor
open Go.RowKit Go.Lull
set_option linter.unusedVariables false

/-- Below B, all is as it was, but for block r. -/
structure BB (B r : Nat) (w w' : World) : Prop where
 low : Below r w w'
 mid : ∀ b, r < b → b < B → w'.heap[b]? = w.heap[b]?

theorem BB.refl (B r : Nat) (w : World) : BB B r w w := ⟨Below.refl _ _, fun _ _ _ => rfl⟩
theorem BB.trans {B r : Nat} {a b c : World} (h : BB B r a b) (k : BB B r b c) : BB B r a c :=
 ⟨h.low.trans k.low, fun x h1 h2 => (k.mid x h1 h2).trans (h.mid x h1 h2)⟩
theorem BB.of_below {B r : Nat} {w w' : World} (h : Below B w w') (hr : r ≤ B) : BB B r w w' :=
 ⟨h.mono hr, fun b _ h2 => h.block b h2⟩
theorem BB.setCell {B r : Nat} {w w' : World} (h : BB B r w w') (i : Nat) (v : Value) : BB B r w (w'.setCell ⟨r, i, none⟩ v) :=
 ⟨h.low.setCell (Nat.le_refl _) _, fun b h1 h2 => (heap_setCell_other _ _ _ _ (by simp; omega)).trans (h.mid b h1 h2)⟩
theorem BB.cell {B r : Nat} {w w' : World} (h : BB B r w w') {p : Addr} (h1 : r < p.block) (h2 : p.block < B) : w'.cell? p = w.cell? p :=
 World.cell?_of_block (w := w) (h.mid p.block h1 h2)

/-- A reader of a pattern, at block r: its steps, its number, what may stand next. -/
structure RD (w : World) (r base : Nat) (steps : List Stp) (wn aw : Int) (v : Value) : Prop where
 blk : w.heap[r]? = some (.cells #[v, .int .i64 wn, .int .i64 aw] 184 (0, 0))
 own : w.ownsRow base 208 1 v steps.length (steps.map stepV)
 lt : r < base
 le : base ≤ w.heap.size

theorem RD.c0 {w : World} {r base : Nat} {steps : List Stp} {wn aw : Int} {v : Value} (h : RD w r base steps wn aw v) : w.cell? ⟨r, 0, none⟩ = some v := by
 rw [cell_of_row w r 0 _ _ _ h.blk]; rfl
theorem RD.c1 {w : World} {r base : Nat} {steps : List Stp} {wn aw : Int} {v : Value} (h : RD w r base steps wn aw v) : w.cell? ⟨r, 1, none⟩ = some (.int .i64 wn) := by
 rw [cell_of_row w r 1 _ _ _ h.blk]; rfl
theorem RD.c2 {w : World} {r base : Nat} {steps : List Stp} {wn aw : Int} {v : Value} (h : RD w r base steps wn aw v) : w.cell? ⟨r, 2, none⟩ = some (.int .i64 aw) := by
 rw [cell_of_row w r 2 _ _ _ h.blk]; rfl
theorem RD.fr {w : World} {r base : Nat} {steps : List Stp} {wn aw : Int} {v : Value} (h : RD w r base steps wn aw v) (i : Nat) : w.frozen? ⟨r, i, none⟩ = false := frozen_of_row w r i _ _ h.blk
theorem RD.form {w : World} {r base : Nat} {steps : List Stp} {wn aw : Int} {v : Value} (h : RD w r base steps wn aw v) : ∃ a cap, v = .slice a steps.length cap := by
 rcases h.own.2 with ⟨h, h0⟩ | ⟨g, cap, cur, h, _⟩
 ·exact ⟨_, _, h0 ▸ h⟩
 ·exact ⟨_, _, h⟩
theorem RD.set1 {w : World} {r base : Nat} {steps : List Stp} {wn aw : Int} {v : Value} (h : RD w r base steps wn aw v) (x : Int) : RD (w.setCell ⟨r, 1, none⟩ (.int .i64 x)) r base steps x aw v :=
 ⟨by rw [heap_setCell_same w r 1 _ _ _ h.blk]; rfl, ownsRow_setCell_below h.own h.lt _, h.lt, by simpa using h.le⟩
theorem RD.set2 {w : World} {r base : Nat} {steps : List Stp} {wn aw : Int} {v : Value} (h : RD w r base steps wn aw v) (x : Int) : RD (w.setCell ⟨r, 2, none⟩ (.int .i64 x)) r base steps wn x v :=
 ⟨by rw [heap_setCell_same w r 2 _ _ _ h.blk]; rfl, ownsRow_setCell_below h.own h.lt _, h.lt, by simpa using h.le⟩
theorem RD.below {w w' : World} {r base : Nat} {steps : List Stp} {wn aw : Int} {v : Value} (h : RD w r base steps wn aw v) (hb : Below w.heap.size w w') : RD w' r base steps wn aw v := by
 refine ⟨by rw [hb.block r (Nat.lt_of_lt_of_le h.lt h.le)]; exact h.blk, ⟨h.own.1, ?_⟩, h.lt, Nat.le_trans h.le hb.size⟩
 rcases h.own.2 with h2 | ⟨g, cap, cur, h1, h2, h3, h4⟩
 ·exact Or.inl h2
 ·exact Or.inr ⟨g, cap, cur, h1, h2, by rw [hb.block g (lt_of_block h3)]; exact h3, h4⟩

set_option maxHeartbeats 400000 in
theorem takeWithin_any (w : World) (r base : Nat) (steps : List Stp) (wn aw : Int) (v : Value) (hn : steps.length ≤ 8) (h : RD w r base steps wn aw v) :
  Calls Tryz.prog 113 #[.pointer (some ⟨r, 0, none⟩)] w fun e w' => e = .returned (.bool (decide (0 < steps.length))) ∧ w' = w.setCell ⟨r, 2, none⟩ (.int .i64 1) := by
 obtain ⟨a, cap, rfl⟩ := h.form
 have c0 := h.c0
 have c2 := h.c2
 have f2 := h.fr 2
 clear h
 go_enter Tryz.func113, Tryz.ntmps113
 go_wp2
 go_ret
 exact ⟨rfl, rfl⟩

set_option maxHeartbeats 400000 in
theorem takeNumber_any (s : ByteArray) (w : World) (r base : Nat) (steps : List Stp) (wn aw : Int) (v : Value) (hs : s.size ≤ 1000000) (h : RD w r base steps wn aw v) :
  Calls Tryz.prog 115 #[.pointer (some ⟨r, 0, none⟩), .string s] w fun e w' => e = .returned (.bool (numB 1000 s.data.toList).isSome) ∧ w' = (w.setCell ⟨r, 1, none⟩ (.int .i64 (num0 (numB 1000 s.data.toList)))).setCell ⟨r, 2, none⟩ (.int .i64 2) := by
 have hread := fun w => readNumber_any s w hs
 have c1 := h.c1
 have c2 := h.c2
 have f1 := h.fr 1
 have f2 := h.fr 2
 clear h
 obtain ⟨o, ho⟩ : ∃ o, numB 1000 s.data.toList = o := ⟨_, rfl⟩
 rw [ho] at hread
 rw [ho]
 clear ho
 go_enter Tryz.func115, Tryz.ntmps115
 go_wp2_with (go_at_call 125; refine (hread _).mono ?_; rintro e w' ⟨rfl, rfl⟩)
 go_ret
 exact ⟨rfl, rfl⟩
end Go.Proofs.YtbgfannlfagoiaaGreatDoor
