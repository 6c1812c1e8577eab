import Derived.Test.YtbgfannlfagoiaaGreatDoorRows
import Derived.WalkKit
import Derived.WalkSpells
import Derived.WalkLawsBesides
import Derived.Deep.AppendLies
import Derived.Test.YtbgfannlfagoiaaGreatDoorZ01
import Derived.Deep.QuietTactic
import Derived.BigQuiet
import Derived.Sort.Grow
import Derived.Deep.RegionHeld3
import Derived.Deep.RegionLaw
namespace Go.Proofs.YtbgfannlfagoiaaGreatDoor
open Go.RowKit
set_option linter.unusedVariables false

theorem Hid.mk' {p : Prop} (h : p) : Hid p := h
theorem ret_i {k : IntKind} {a b : Int} (h : a = b) : Ending.returned (.int k a) = .returned (.int k b) := by rw [h]
theorem heap_alloc_at (w : World) (o : Obj) (n : Nat) (h : n = w.heap.size) : (w.alloc o).heap[n]? = some o := by
 subst h; exact heap_alloc_new w o
theorem alloc_keep {w : World} {a : Addr} {v : Value} (o : Obj) (h : w.cell? a = some v) : (w.alloc o).cell? a = some v := by
 by_cases e : a.block = w.heap.size
 ·exfalso
  simp [World.cell?, e] at h
 ·rw [World.cell?_alloc_old _ _ _ e, h]
theorem drew_keep {w : World} {a : Addr} {v : Value} (h : w.cell? a = some v) : w.drew.cell? a = some v := h
section
variable {w w' : World} {base base' : Nat} {e e' : TypeId} {size size' : Nat} {v v' : Value} {n n' : Nat} {xs xs' : List Value}
theorem own_mono (h : w.ownsRow base e size v n xs) (hb : base' ≤ base) : w.ownsRow base' e size v n xs :=
 ⟨h.1, h.2.imp id fun ⟨g, cap, cur, e1, e2, e3⟩ => ⟨g, cap, cur, e1, Nat.le_trans hb e2, e3⟩⟩
theorem own_row (h : w.ownsRow base e size v n xs) : ∀ k, v.ownBlock = some k → base ≤ k := by
 intro k hk
 rcases h.2 with ⟨e, _⟩ | ⟨g, cap, cur, e, hg, _⟩
 ·rw [e] at hk; cases hk
 ·rw [e] at hk; cases hk; exact hg
theorem own_below (h : w.ownsRow base e size v n xs) (hb : Below w.heap.size w w') : w'.ownsRow base e size v n xs := by
 refine ⟨h.1, ?_⟩
 rcases h.2 with h2 | ⟨g, cap, cur, h1, h2, h3, h4⟩
 ·exact Or.inl h2
 ·exact Or.inr ⟨g, cap, cur, h1, h2, by rw [hb.block g (lt_of_block h3)]; exact h3, h4⟩
theorem own_drewN {q : Nat} (h : w.ownsRow base e size v n xs) : (w.drewN q).ownsRow base e size v n xs := h
theorem own_grown {row : Option Nat} (h : w.ownsRow base e size v n xs) (hg : w.grownBy w' row) (hne : ∀ k, v.ownBlock = some k → some k ≠ row) : w'.ownsRow base e size v n xs := by
 refine ⟨h.1, ?_⟩
 rcases h.2 with h2 | ⟨g, cap, cur, h1, h2, h3, h4⟩
 ·exact Or.inl h2
 ·exact Or.inr ⟨g, cap, cur, h1, h2, by rw [hg.block g (lt_of_block h3) (hne g (by rw [h1]; rfl))]; exact h3, h4⟩
theorem own_apart (h : w.ownsRow base e size v n xs) (h' : w.ownsRow base' e' size' v' n' xs') (hne : e ≠ e') : ∀ k, v.ownBlock = some k → some k ≠ v'.ownBlock := by
 intro k hk hk'
 rcases h.2 with ⟨e1, _⟩ | ⟨g, cap, cur, e1, _, h3, _⟩
 ·rw [e1] at hk; cases hk
 ·rcases h'.2 with ⟨e2, _⟩ | ⟨g', cap', cur', e2, _, h3', _⟩
  ·rw [e2] at hk'; cases hk'
  ·rw [e1] at hk; rw [e2] at hk'
   cases hk
   cases hk'
   rw [h3] at h3'
   cases h3'
   exact hne rfl
end
end Go.Proofs.YtbgfannlfagoiaaGreatDoor

namespace Go.Proofs.YtbgfannlfagoiaaGreatDoor
open Go.RowKit Go.Lull
set_option linter.unusedVariables false

def stepObj (x : Stp) : Obj := .cells #[.bool x.1, .int .u8 x.2.1.toNat, .int .u8 x.2.2.1.toNat, .int .i64 x.2.2.2] 174
def evObj (e : Ev) : Obj := .cells #[.int .i64 e.1, .int .i64 e.2.1, .int .u8 e.2.2.1.toNat, .int .i64 e.2.2.2] 75

theorem ret_b {a b : Bool} (h : a = b) : Ending.returned (.bool a) = .returned (.bool b) := by rw [h]

set_option maxHeartbeats 400000 in
theorem fits_any (x : Stp) (ev : Ev) (w : World) :
  Calls Tryz.prog 98 #[.agg #[.bool x.1, .int .u8 x.2.1.toNat, .int .u8 x.2.2.1.toNat, .int .i64 x.2.2.2], .agg #[.int .i64 ev.1, .int .i64 ev.2.1, .int .u8 ev.2.2.1.toNat, .int .i64 ev.2.2.2]] w fun e w' => e = .returned (.bool (fitsB x ev)) ∧ w' = (w.alloc (stepObj x)).alloc (evObj ev) := by
 obtain ⟨xn, xk, xg, xv⟩ := x
 obtain ⟨es, et, ek, evv⟩ := ev
 by_cases hk : ek = xk
 ·have hn : ((ek.toNat : Int) != (xk.toNat : Int)) = false := by rw [hk]; simp
  have key : Hid (fitsB (xn, xk, xg, xv) (es, et, ek, evv) = signHolds xg evv xv) := by simp [Hid, fitsB, hk]
  subst hk
  by_cases g60 : xg.toNat = 60
  ·have g : (xg.toNat : Int) = 60 := by omega
   have key2 : Hid (signHolds xg evv xv = decide (evv < xv)) := by simp [Hid, signHolds, g60]
   clear g60 hn
   go_enter Tryz.func98, Tryz.ntmps98
   go_wp2
   go_ret
   rw [key.out, key2.out]
   exact ⟨rfl, by simp [stepObj, evObj, g]⟩
  by_cases g61 : xg.toNat = 61
  ·have g : (xg.toNat : Int) = 61 := by omega
   have key2 : Hid (signHolds xg evv xv = (evv == xv)) := by simp [Hid, signHolds, g61]
   clear g60 g61 hn
   go_enter Tryz.func98, Tryz.ntmps98
   go_wp2
   go_ret
   rw [key.out, key2.out]
   exact ⟨rfl, by simp [stepObj, evObj, g]⟩
  by_cases g62 : xg.toNat = 62
  ·have g : (xg.toNat : Int) = 62 := by omega
   have key2 : Hid (signHolds xg evv xv = decide (xv < evv)) := by simp [Hid, signHolds, g62]
   clear g60 g61 g62 hn
   go_enter Tryz.func98, Tryz.ntmps98
   go_wp2
   go_ret
   rw [key.out, key2.out]
   exact ⟨rfl, by simp [stepObj, evObj, g]⟩
  have key2 : Hid (signHolds xg evv xv = true) := by simp [Hid, signHolds, g60, g61, g62]
  have b60 : ((xg.toNat : Int) == 60) = false := by simp; omega
  have b61 : ((xg.toNat : Int) == 61) = false := by simp; omega
  have b62 : ((xg.toNat : Int) == 62) = false := by simp; omega
  clear g60 g61 g62 hn
  go_enter Tryz.func98, Tryz.ntmps98
  go_wp2
  go_ret
  rw [key.out, key2.out]
  exact ⟨rfl, rfl⟩
 ·have hne : ¬ ek.toNat = xk.toNat := fun h => hk (UInt8.toNat_inj.1 h)
  have hn : ((ek.toNat : Int) != (xk.toNat : Int)) = true := by simp; omega
  have hn2 : ¬ (ek.toNat : Int) = (xk.toNat : Int) := by omega
  have key : Hid (fitsB (xn, xk, xg, xv) (es, et, ek, evv) = false) := by simp [Hid, fitsB, hk]
  clear hk hne
  go_enter Tryz.func98, Tryz.ntmps98
  go_wp2
  go_ret
  rw [key.out]
  exact ⟨rfl, rfl⟩
end Go.Proofs.YtbgfannlfagoiaaGreatDoor

namespace Go.Proofs.YtbgfannlfagoiaaGreatDoor
open Go.RowKit Go.Lull
set_option linter.unusedVariables false


set_option maxHeartbeats 400000 in
theorem mark_any (b o mb c : Nat) (ms : List Int) (w : World) (hn : 0 < ms.length) (hn8 : ms.length ≤ 8) (h0 : w.cell? ⟨b, o, none⟩ = some (.slice (some ⟨mb, 0, none⟩) ms.length c)) (hm : ∀ i : Nat, (h : i < ms.length) → w.cell? ⟨mb, i, none⟩ = some (.int .i64 ms[i])) :
  Calls Tryz.prog 74 #[.pointer (some ⟨b, o, none⟩)] w fun e w' => e = .returned (.int .i64 (markB ms)) ∧ w' = w := by
 have hm0 := hm 0 hn
 have HM := (show Hid (∀ i : Nat, (h : i < ms.length) → w.cell? ⟨mb, i, none⟩ = some (.int .i64 ms[i])) from hm)
 clear hm
 have h1 : Hid (markB (ms.take 1) = ms[0]) := by
  unfold Hid
  cases ms with
  | nil => cases hn
  | cons m r => rfl
 go_enter Tryz.func74, Tryz.ntmps74
 go_wp2
 go_loop [3, 4] (fun m i => ∃ (k : Nat) (z : Int), 1 ≤ k ∧ k ≤ ms.length ∧ m = .int .i64 z ∧ Hid (z = markB (ms.take k)) ∧ i = .int .i64 k) (fun _ i => ms.length - (intOf i).toNat)
 case atStart => exact ⟨1, ms[0], Nat.le_refl _, hn, rfl, h1.out.symm, rfl⟩
 case round =>
  obtain ⟨k, z, hk1, hk, rfl, hz, rfl⟩ := hrel
  by_cases hlt : k < ms.length
  ·have hmk := HM.out k hlt
   have hs : Hid (markB (ms.take (k + 1)) = lessI z ms[k]) := by
    unfold Hid
    rw [List.take_succ_eq_append_getElem hlt, markB_snoc _ _ (by intro e; have := congrArg List.length e; rw [List.length_take] at this; simp only [List.length_nil] at this; omega), hz.out]
   by_cases hless : ms[k] < z
   ·have hs2 : Hid (ms[k] = markB (ms.take (k + 1))) := by unfold Hid; rw [hs.out, lessI, if_pos hless]
    clear hs hz
    go_wp2
    go_round
    case rel => exact ⟨k + 1, ms[k], by omega, by omega, rfl, hs2, by go_num⟩
    case measure => simp [intOf]; omega
   ·have hs2 : Hid (z = markB (ms.take (k + 1))) := by unfold Hid; rw [hs.out, lessI, if_neg hless]
    clear hs hz
    go_wp2
    go_round
    case rel => exact ⟨k + 1, z, by omega, by omega, rfl, hs2, by go_num⟩
    case measure => simp [intOf]; omega
  ·have hz2 : Hid (z = markB ms) := by unfold Hid; rw [hz.out, List.take_of_length_le (by omega)]
   clear hz
   go_wp2
   go_ret
   exact ⟨ret_i hz2.out, rfl⟩
end Go.Proofs.YtbgfannlfagoiaaGreatDoor

namespace Go.Proofs.YtbgfannlfagoiaaGreatDoor
open Go.RowKit Go.Lull

/-- A step, as the program holds it. -/
def stepV (x : Bool × UInt8 × UInt8 × Int) : Value := .iface (if x.1 = true then 225 else 226) (.agg #[.int .u8 x.2.1.toNat, .int .u8 x.2.2.1.toNat, .int .i64 x.2.2.2])
theorem must_must (W : World) (v : Value) : (Instr.typeAssert (.iface 226 v) 208 226 true).run Tryz.prog W = .ok (.tuple #[v, .bool true]) W := by kernel_rfl
theorem not_must (W : World) (v : Value) : (Instr.typeAssert (.iface 225 v) 208 226 true).run Tryz.prog W = .ok (.tuple #[.agg #[.int .u8 0, .int .u8 0, .int .i64 0], .bool false]) W := by kernel_rfl
theorem not_not (W : World) (v : Value) : (Instr.typeAssert (.iface 225 v) 208 225 true).run Tryz.prog W = .ok (.tuple #[v, .bool true]) W := by kernel_rfl
theorem must_not (W : World) (v : Value) : (Instr.typeAssert (.iface 226 v) 208 225 true).run Tryz.prog W = .ok (.tuple #[.agg #[.int .u8 0, .int .u8 0, .int .i64 0], .bool false]) W := by kernel_rfl
end Go.Proofs.YtbgfannlfagoiaaGreatDoor

namespace Go.Proofs.YtbgfannlfagoiaaGreatDoor
open Go.RowKit Go.Lull
set_option linter.unusedVariables false

def evC (e : Ev) : List Value := [.int .i64 e.1, .int .i64 e.2.1, .int .u8 e.2.2.1.toNat, .int .i64 e.2.2.2]

theorem alloc_is_grow (w : World) (o : Obj) : w.alloc o = Go.Sort.grow w #[o] := by
 unfold Go.Sort.grow World.alloc
 rw [Array.push_eq_append]
theorem grow_below (w : World) (os : Array Obj) : Below w.heap.size w (Go.Sort.grow w os) :=
 ⟨rfl, rfl, rfl, by simp [Go.Sort.grow], fun k hk => by simp [Go.Sort.grow, Array.getElem?_append, hk]⟩

set_option maxHeartbeats 400000 in
theorem matches_grown (x : UInt8 × UInt8 × Int) (n : Bool) (ev : Ev) (w : World) :
  Calls Tryz.prog 177 #[.agg #[.int .u8 x.1.toNat, .int .u8 x.2.1.toNat, .int .i64 x.2.2], .agg #[.int .i64 ev.1, .int .i64 ev.2.1, .int .u8 ev.2.2.1.toNat, .int .i64 ev.2.2.2]] w fun e w' => e = .returned (.bool (fitsB (n, x) ev)) ∧ ∃ os, w' = Go.Sort.grow w os := by
 obtain ⟨xk, xg, xv⟩ := x
 obtain ⟨es, et, ek, evv⟩ := ev
 by_cases hk : ek = xk
 ·have hn : ((ek.toNat : Int) == (xk.toNat : Int)) = true := by rw [hk]; simp
  have key : Hid (fitsB (n, xk, xg, xv) (es, et, ek, evv) = signHolds xg evv xv) := by simp [Hid, fitsB, hk]
  subst hk
  by_cases g60 : xg.toNat = 60
  ·have g : (xg.toNat : Int) = 60 := by omega
   have key2 : Hid (signHolds xg evv xv = decide (evv < xv)) := by simp [Hid, signHolds, g60]
   clear g60 hn
   go_enter Tryz.func177, Tryz.ntmps177
   go_wp2_with (go_in)
   go_ret
   rw [key.out, key2.out]
   exact ⟨rfl, by simp only [alloc_is_grow, Go.Sort.grow_grow]; exact ⟨_, rfl⟩⟩
  by_cases g61 : xg.toNat = 61
  ·have g : (xg.toNat : Int) = 61 := by omega
   have key2 : Hid (signHolds xg evv xv = (evv == xv)) := by simp [Hid, signHolds, g61]
   clear g60 g61 hn
   go_enter Tryz.func177, Tryz.ntmps177
   go_wp2_with (go_in)
   go_ret
   rw [key.out, key2.out]
   exact ⟨rfl, by simp only [alloc_is_grow, Go.Sort.grow_grow]; exact ⟨_, rfl⟩⟩
  by_cases g62 : xg.toNat = 62
  ·have g : (xg.toNat : Int) = 62 := by omega
   have key2 : Hid (signHolds xg evv xv = decide (xv < evv)) := by simp [Hid, signHolds, g62]
   clear g60 g61 g62 hn
   go_enter Tryz.func177, Tryz.ntmps177
   go_wp2_with (go_in)
   go_ret
   rw [key.out, key2.out]
   exact ⟨rfl, by simp only [alloc_is_grow, Go.Sort.grow_grow]; exact ⟨_, rfl⟩⟩
  have key2 : Hid (signHolds xg evv xv = true) := by simp [Hid, signHolds, g60, g61, g62]
  have b60 : ((xg.toNat : Int) == 60) = false := by simp; omega
  have b61 : ((xg.toNat : Int) == 61) = false := by simp; omega
  have b62 : ((xg.toNat : Int) == 62) = false := by simp; omega
  clear g60 g61 g62 hn
  go_enter Tryz.func177, Tryz.ntmps177
  go_wp2_with (go_in)
  go_ret
  rw [key.out, key2.out]
  exact ⟨rfl, by simp only [alloc_is_grow, Go.Sort.grow_grow]; exact ⟨_, rfl⟩⟩
 ·have hne : ¬ ek.toNat = xk.toNat := fun h => hk (UInt8.toNat_inj.1 h)
  have hn : ((ek.toNat : Int) == (xk.toNat : Int)) = false := by simp; omega
  have hn2 : ¬ (ek.toNat : Int) = (xk.toNat : Int) := by omega
  have key : Hid (fitsB (n, xk, xg, xv) (es, et, ek, evv) = false) := by simp [Hid, fitsB, hk]
  clear hk hne
  go_enter Tryz.func177, Tryz.ntmps177
  go_wp2_with (go_in)
  go_ret
  rw [key.out]
  exact ⟨rfl, by simp only [alloc_is_grow, Go.Sort.grow_grow]; exact ⟨_, rfl⟩⟩

theorem matches_any (x : UInt8 × UInt8 × Int) (n : Bool) (ev : Ev) (w : World) :
  Calls Tryz.prog 177 #[.agg #[.int .u8 x.1.toNat, .int .u8 x.2.1.toNat, .int .i64 x.2.2], .agg #[.int .i64 ev.1, .int .i64 ev.2.1, .int .u8 ev.2.2.1.toNat, .int .i64 ev.2.2.2]] w fun e w' => e = .returned (.bool (fitsB (n, x) ev)) ∧ Below w.heap.size w w' := by
 refine (matches_grown x n ev w).mono ?_
 rintro e w' ⟨rfl, os, rfl⟩
 exact ⟨rfl, grow_below w os⟩

/-- A step asked whether it matches. -/
theorem must_m (W : World) (a b c : Value) : (method 364 226 (.agg #[a, b, c]) "Matches").run Tryz.prog W = .ok (177, .agg #[a, b, c]) W := by kernel_rfl
theorem not_m (W : World) (a b c : Value) : (method 364 225 (.agg #[a, b, c]) "Matches").run Tryz.prog W = .ok (177, .agg #[a, b, c]) W := by kernel_rfl

theorem must_n (W : World) (a b c : Value) : (nilAhead 364 226 (.agg #[a, b, c]) "Matches").run Tryz.prog W = .ok (some false) W := by kernel_rfl
theorem not_n (W : World) (a b c : Value) : (nilAhead 364 225 (.agg #[a, b, c]) "Matches").run Tryz.prog W = .ok (some false) W := by kernel_rfl

set_option maxHeartbeats 400000 in
theorem atOnce_any (rb n c : Nat) (a : Option Addr) (w : World) (hc : w.cell? ⟨rb, 2, none⟩ = some (.slice a n c)) :
  Calls Tryz.prog 171 #[.pointer (some ⟨rb, 0, none⟩)] w fun e w' => e = .returned (.int .i64 (if n = 0 then 2 else 0)) ∧ w' = w := by
 by_cases h : n = 0
 ·rw [if_pos h]
  have h1 : ((n : Int) == 0) = true := by simp [h]
  clear h
  go_enter Tryz.func171, Tryz.ntmps171
  go_wp2
  go_ret
  exact ⟨rfl, rfl⟩
 ·rw [if_neg h]
  have h1 : ((n : Int) == 0) = false := by simp; omega
  go_enter Tryz.func171, Tryz.ntmps171
  go_wp2
  go_ret
  exact ⟨rfl, rfl⟩
end Go.Proofs.YtbgfannlfagoiaaGreatDoor

namespace Go.Proofs.YtbgfannlfagoiaaGreatDoor
open Go.RowKit
set_option linter.unusedVariables false

/-- All is as it was but the blocks of F. -/
structure Fr (F : List Nat) (w w' : World) : Prop where
 os : w'.os = w.os
 tape : w'.tape = w.tape
 output : w'.output = w.output
 size : w.heap.size ≤ w'.heap.size
 block : ∀ k, k < w.heap.size → k ∉ F → w'.heap[k]? = w.heap[k]?

section
variable {F G : List Nat} {a b c w w' : World}
theorem Fr.refl (F : List Nat) (w : World) : Fr F w w := ⟨rfl, rfl, rfl, Nat.le_refl _, fun _ _ _ => rfl⟩
theorem Fr.trans (h : Fr F a b) (k : Fr F b c) : Fr F a c :=
 ⟨k.os.trans h.os, k.tape.trans h.tape, k.output.trans h.output, Nat.le_trans h.size k.size, fun i hi hn => (k.block i (Nat.lt_of_lt_of_le hi h.size) hn).trans (h.block i hi hn)⟩
theorem Fr.mono (h : Fr F a b) (hs : ∀ k ∈ F, k ∈ G ∨ a.heap.size ≤ k) : Fr G a b :=
 ⟨h.os, h.tape, h.output, h.size, fun i hi hn => h.block i hi (fun hm => (hs i hm).elim hn (fun hl => absurd hi (Nat.not_lt.2 hl)))⟩
theorem Fr.trans' (h : Fr F a b) (k : Fr G b c) (hs : ∀ k ∈ G, k ∈ F ∨ a.heap.size ≤ k) : Fr F a c :=
 ⟨k.os.trans h.os, k.tape.trans h.tape, k.output.trans h.output, Nat.le_trans h.size k.size, fun i hi hn =>
  (k.block i (Nat.lt_of_lt_of_le hi h.size) (fun hm => (hs i hm).elim hn (fun hl => absurd hi (Nat.not_lt.2 hl)))).trans (h.block i hi hn)⟩
theorem Fr.of_below (F : List Nat) (h : Below w.heap.size w w') : Fr F w w' := ⟨h.os, h.tape, h.output, h.size, fun k hk _ => h.block k hk⟩
theorem Fr.below (h : Fr [] w w') : Below w.heap.size w w' := ⟨h.os, h.tape, h.output, h.size, fun k hk => h.block k hk (by simp)⟩
theorem Fr.alloc (h : Fr F a w) (o : Obj) : Fr F a (w.alloc o) :=
 h.trans ⟨rfl, rfl, rfl, by simp, fun k hk _ => Below.heap_alloc _ _ _ hk⟩
theorem Fr.drew (h : Fr F a w) : Fr F a w.drew := ⟨h.os, h.tape, h.output, h.size, h.block⟩
theorem Fr.drewN (h : Fr F a w) (q : Nat) : Fr F a (w.drewN q) := ⟨h.os, h.tape, h.output, h.size, h.block⟩
theorem Fr.setCell (h : Fr F a w) {p : Addr} (hp : p.block ∈ F ∨ a.heap.size ≤ p.block) (u : Value) : Fr F a (w.setCell p u) :=
 ⟨h.os, h.tape, h.output, Nat.le_trans h.size (by simp [World.setCell]), fun k hk hn => (Below.heap_setCell _ _ _ _ (fun e => by subst e; exact hp.elim hn (fun hl => absurd hk (Nat.not_lt.2 hl)))).trans (h.block k hk hn)⟩
theorem Fr.grown {row : Option Nat} (h : Fr F a w) (hg : w.grownBy w' row) (hr : ∀ k, row = some k → k ∈ F ∨ a.heap.size ≤ k) : Fr F a w' :=
 ⟨hg.os.trans h.os, hg.tape.trans h.tape, hg.output.trans h.output, Nat.le_trans h.size hg.size, fun k hk hn => (hg.block k (Nat.lt_of_lt_of_le hk h.size) (fun e => (hr k e.symm).elim hn (fun hl => absurd hk (Nat.not_lt.2 hl)))).trans (h.block k hk hn)⟩
theorem Fr.cell (h : Fr F w w') {p : Addr} {v : Value} (hc : w.cell? p = some v) (hn : p.block ∉ F) : w'.cell? p = some v :=
 (World.cell?_of_block (h.block p.block (block_lt_of_cell hc) hn)).trans hc
theorem Fr.own {base : Nat} {e : TypeId} {size : Nat} {v : Value} {n : Nat} {xs : List Value} (h : Fr F w w') (ho : w.ownsRow base e size v n xs) (hn : ∀ k, v.ownBlock = some k → k ∉ F) : w'.ownsRow base e size v n xs := by
 refine ⟨ho.1, ?_⟩
 rcases ho.2 with h2 | ⟨g, cap, cur, h1, h2, h3, h4⟩
 ·exact Or.inl h2
 ·exact Or.inr ⟨g, cap, cur, h1, h2, by rw [h.block g (lt_of_block h3) (hn g (by rw [h1]; rfl))]; exact h3, h4⟩
theorem own_form {base : Nat} {e : TypeId} {size : Nat} {v : Value} {n : Nat} {xs : List Value} (h : w.ownsRow base e size v n xs) : ∃ a cap, v = .slice a n cap := by
 rcases h.2 with ⟨h, h0⟩ | ⟨g, cp, cur, h, _⟩
 ·exact ⟨_, _, h0 ▸ h⟩
 ·exact ⟨_, _, h⟩
theorem own_ne {base : Nat} {e t : TypeId} {size : Nat} {v : Value} {n rb : Nat} {xs : List Value} {cs : Array Value} {fr : Nat × Nat} (h : w.ownsRow base e size v n xs) (hb : w.heap[rb]? = some (.cells cs t fr)) (hne : e ≠ t) : v.ownBlock ≠ some rb := by
 intro hk
 rcases h.2 with ⟨e, _⟩ | ⟨g, cap, cur, e, _, h3, _⟩
 ·rw [e] at hk; cases hk
 ·rw [e] at hk; cases hk; rw [h3] at hb; cases hb; exact hne rfl
theorem own_setCell {base : Nat} {e : TypeId} {size : Nat} {v : Value} {n rb i : Nat} {xs : List Value} (h : w.ownsRow base e size v n xs) (hne : v.ownBlock ≠ some rb) (u : Value) : (w.setCell ⟨rb, i, none⟩ u).ownsRow base e size v n xs := by
 refine ⟨h.1, ?_⟩
 rcases h.2 with h2 | ⟨g, cap, cur, h1, h2, h3, h4⟩
 ·exact Or.inl h2
 ·exact Or.inr ⟨g, cap, cur, h1, h2, by rw [Below.heap_setCell _ _ _ _ (fun e => hne (by rw [h1]; simp [Value.ownBlock, e]))]; exact h3, h4⟩
theorem own_lt {base : Nat} {e : TypeId} {size : Nat} {v : Value} {n : Nat} {xs : List Value} (h : w.ownsRow base e size v n xs) : ∀ k, v.ownBlock = some k → k < w.heap.size := by
 intro k hk
 rcases h.2 with ⟨e, _⟩ | ⟨g, cap, cur, e, _, h3, _⟩
 ·rw [e] at hk; cases hk
 ·rw [e] at hk; cases hk; exact lt_of_block h3
end
end Go.Proofs.YtbgfannlfagoiaaGreatDoor

namespace Go.Proofs.YtbgfannlfagoiaaGreatDoor
open Go.RowKit Go.Lull
set_option linter.unusedVariables false

/-- Steps of the program in memory, from a place on. -/
def ST (w : World) (pg k : Nat) (l : List Stp) : Prop := ∀ i, (h : i < l.length) → w.cell? ⟨pg, k + i, none⟩ = some (stepV l[i])

theorem all_take_succ (l : List Stp) (i : Nat) (h : i < l.length) (h0 : (l.take i).all (·.1) = true) (h1 : l[i].1 = true) : (l.take (i + 1)).all (·.1) = true := by
 rw [List.take_succ_eq_append_getElem h, List.all_append, h0]
 simp [h1]

set_option maxHeartbeats 400000 in
theorem atDeadline_any (rb pg k c : Nat) (l : List Stp) (w : World) (hl : l.length ≤ 8) (hcap : l.length ≤ c) (hc : w.cell? ⟨rb, 2, none⟩ = some (.slice (some ⟨pg, k, none⟩) l.length c)) (hs : ST w pg k l) :
  Calls Tryz.prog 175 #[.pointer (some ⟨rb, 0, none⟩)] w fun e w' => e = .returned (.int .i64 (if l.all (·.1) = true then 2 else 1)) ∧ w' = w := by
 have t1 := must_must
 have t2 := not_must
 have HS := Hid.mk' hs
 obtain ⟨R, hR⟩ : ∃ R : Int, (if l.all (·.1) = true then 2 else 1) = R := ⟨_, rfl⟩
 rw [hR]
 have HR := Hid.mk' hR
 clear hs hR
 go_enter Tryz.func175, Tryz.ntmps175
 go_wp2
 go_loop [10] (fun i => ∃ j : Nat, j ≤ l.length ∧ i = .int .i64 j ∧ Hid ((l.take j).all (·.1) = true)) (fun i => l.length - (intOf i).toNat)
 case atStart => exact ⟨0, Nat.zero_le _, rfl, by simp [Hid]⟩
 case round =>
  obtain ⟨j, hj, rfl, hA⟩ := hrel
  by_cases hlt : j < l.length
  ·have hcj := HS.out j hlt
   cases hx : l[j].1 with
   | true =>
    have hA2 : Hid ((l.take (j + 1)).all (·.1) = true) := all_take_succ l j hlt hA.out hx
    obtain ⟨v, hv⟩ : ∃ v, stepV l[j] = .iface 225 v := ⟨_, by simp [stepV, hx]; rfl⟩
    rw [hv] at hcj
    clear hA hx hv
    go_wp2
    go_round
    case rel => exact ⟨j + 1, by omega, by go_num, hA2⟩
    case measure => simp [intOf]; omega
   | false =>
    have hA2 : Hid (l.all (·.1) = false) := by
     unfold Hid
     rw [List.all_eq_false]
     exact ⟨l[j], List.getElem_mem hlt, by simp [hx]⟩
    obtain ⟨v, hv⟩ : ∃ v, stepV l[j] = .iface 226 v := ⟨_, by simp [stepV, hx]; rfl⟩
    rw [hv] at hcj
    clear hA hx hv
    go_wp2
    go_ret
    exact ⟨ret_i (by rw [← HR.out, hA2.out]; rfl), rfl⟩
  ·have hA2 : Hid (l.all (·.1) = true) := by
    have := hA.out
    rw [List.take_of_length_le (by omega)] at this
    exact this
   clear hA
   go_wp2
   go_ret
   exact ⟨ret_i (by rw [← HR.out, hA2.out]; rfl), rfl⟩
end Go.Proofs.YtbgfannlfagoiaaGreatDoor

namespace Go.Proofs.YtbgfannlfagoiaaGreatDoor
open Go.RowKit Go.Lull
set_option linter.unusedVariables false

theorem Tryz.infoEv : (Tryz.prog.info? 75).map (fun i => (i.zero, i.size, i.bytes)) = some (some (.agg #[.int .i64 0, .int .i64 0, .int .u8 0, .int .i64 0]), 4, 32) := by kernel_rfl
theorem evC_at' (w : World) (s t v : Int) (k : UInt8) (T n : Nat) (hn : n = w.heap.size) : ∀ j u, [Value.int .i64 s, .int .i64 t, .int .u8 k.toNat, .int .i64 v][j]? = some u → (w.alloc (.cells #[.int .i64 s, .int .i64 t, .int .u8 k.toNat, .int .i64 v] T)).cell? ((⟨n, 0, none⟩ : Addr).add j) = some u := by
  intro j u h
  subst hn
  match j, h with
  | 0, h => simp at h; subst h; simp [Addr.add]
  | 1, h => simp at h; subst h; simp [Addr.add]
  | 2, h => simp at h; subst h; simp [Addr.add]
  | 3, h => simp at h; subst h; simp [Addr.add]
  | j + 4, h => simp at h

/-- What see hands back. -/
def SeePost (w : World) (rb pg k c : Nat) (dl : Int) (l : List Stp) (tk : List Ev) (tv : Value) (ev : Ev) (s : SeeR) (e : Ending) (w' : World) : Prop :=
  match s with
  | .fails => e = .returned (.int .i64 1) ∧ Below w.heap.size w w'
  | .on => e = .returned (.int .i64 0) ∧ Below w.heap.size w w'
  | .took j => ∃ tv' lp ln lc, e = .returned (.int .i64 (if l.length ≤ j then 2 else 0)) ∧ w'.heap[rb]? = some (.cells #[.int .i64 dl, tv', .slice lp ln lc] 193 (0, 0)) ∧ (j < l.length → lp = some ⟨pg, k + j, none⟩ ∧ ln = l.length - j ∧ lc = c - j) ∧
      w'.ownsRow 0 75 4 tv' (tk.length + 1) (tk.flatMap evC ++ evC ev) ∧ Fr (rb :: tv.ownBlock.toList) w w' ∧ (∀ b, tv'.ownBlock = some b → tv.ownBlock = some b ∨ w.heap.size ≤ b)

set_option maxRecDepth 8000 in
set_option maxHeartbeats 1000000 in
theorem see_any (rb pg k c : Nat) (dl : Int) (l : List Stp) (tk : List Ev) (tv : Value) (ev : Ev) (w : World) (hl : l.length ≤ 8) (hcap : l.length ≤ c) (htk : tk.length ≤ 8)
    (hblk : w.heap[rb]? = some (.cells #[.int .i64 dl, tv, .slice (some ⟨pg, k, none⟩) l.length c] 193 (0, 0))) (hs : ST w pg k l) (hpg : pg < w.heap.size) (hpr : pg ≠ rb)
    (hown : w.ownsRow 0 75 4 tv tk.length (tk.flatMap evC)) (hne : tv.ownBlock ≠ some rb) :
    Calls Tryz.prog 167 #[.pointer (some ⟨rb, 0, none⟩), .agg #[.int .i64 ev.1, .int .i64 ev.2.1, .int .u8 ev.2.2.1.toNat, .int .i64 ev.2.2.2]] w (SeePost w rb pg k c dl l tk tv ev (seeL ev l 0)) := by
  have t1 := must_must
  have t2 := not_must
  have t3 := not_not
  have t4 := must_not
  have m1 := must_m
  have m2 := not_m
  have m3 := must_n
  have m4 := not_n
  have hrb := lt_of_block hblk
  obtain ⟨S, hS⟩ : ∃ S, seeL ev l 0 = S := ⟨_, rfl⟩
  rw [hS]
  have hst : Hid (S = seeL ev (l.drop 0) 0) := hS.symm
  obtain ⟨ta, tc, rfl⟩ := own_form hown
  have HB := Hid.mk' hblk
  have HS := Hid.mk' hs
  have HO := Hid.mk' hown
  have c2 := cell_of_row w rb 2 _ _ _ hblk
  simp at c2
  clear hblk hs hown hS
  obtain ⟨es, et, ek, evv⟩ := ev
  simp only
  go_enter Tryz.func167, Tryz.ntmps167
  go_wp2
  obtain ⟨w0, hw0⟩ : ∃ w0, w.alloc (.cells #[.int .i64 es, .int .i64 et, .int .u8 ek.toNat, .int .i64 evv] 75) = w0 := ⟨_, rfl⟩
  rw [hw0]
  have hB0 : Below w.heap.size w w0 := by rw [← hw0]; exact (Below.refl _ _).alloc (Nat.le_refl _) _
  have hev : w0.heap[w.heap.size]? = some (.cells #[.int .i64 es, .int .i64 et, .int .u8 ek.toNat, .int .i64 evv] 75 (0, 0)) := by rw [← hw0]; exact heap_alloc_new _ _
  have hz0 : w0.heap.size = w.heap.size + 1 := by rw [← hw0]; simp
  have HEV := Hid.mk' hev
  have HZ := Hid.mk' hz0
  clear hw0 hev hz0
  go_loopw [12] (fun i wr => ∃ j : Nat, j ≤ l.length ∧ i = .int .i64 j ∧ Hid (S = seeL (es, et, ek, evv) (l.drop j) j) ∧ Hid (Below w0.heap.size w0 wr)) (fun i _ => l.length - (intOf i).toNat)
  case atStart => exact ⟨0, Nat.zero_le _, rfl, hst, Below.refl _ _⟩
  case round =>
    obtain ⟨j, hj, rfl, hS, hB⟩ := hrel
    have HBw : Hid (Below w.heap.size w wr) := hB0.trans (hB.out.mono (by rw [HZ.out]; omega))
    have Hsz : Hid (w.heap.size ≤ wr.heap.size) := HBw.out.size
    by_cases hlt : j < l.length
    · have hcj : wr.cell? ⟨pg, k + j, none⟩ = some (stepV l[j]) := by
        rw [(hB.out.mono (B' := w.heap.size) (by rw [HZ.out]; omega)).cell (p := ⟨pg, k + j, none⟩) hpg, hB0.cell (p := ⟨pg, k + j, none⟩) hpg]
        exact HS.out j hlt
      have hdrop : l.drop j = l[j] :: l.drop (j + 1) := List.drop_eq_getElem_cons hlt
      have hevw : wr.heap[w.heap.size]? = some (.cells #[.int .i64 es, .int .i64 et, .int .u8 ek.toNat, .int .i64 evv] 75 (0, 0)) := by
        rw [hB.out.block _ (by rw [HZ.out]; omega)]; exact HEV.out
      have e0 := cell_of_row wr w.heap.size 0 _ _ _ hevw
      have e1 := cell_of_row wr w.heap.size 1 _ _ _ hevw
      have e2 := cell_of_row wr w.heap.size 2 _ _ _ hevw
      have e3 := cell_of_row wr w.heap.size 3 _ _ _ hevw
      simp at e0 e1 e2 e3
      rw [hdrop] at hS
      have hM := fun W => matches_any l[j].2 l[j].1 (es, et, ek, evv) W
      generalize hx : l[j] = x at *
      obtain ⟨xn, xk, xg, xv⟩ := x
      cases xn with
      | true =>
        have hcj' : wr.cell? ⟨pg, k + j, none⟩ = some (.iface 225 (.agg #[.int .u8 xk.toNat, .int .u8 xg.toNat, .int .i64 xv])) := hcj
        cases hf : fitsB (true, xk, xg, xv) (es, et, ek, evv) with
        | true =>
          have hS2 : Hid (S = .fails) := by unfold Hid; rw [hS.out, seeL_not rfl hf]
          have hM2 : ∀ W, Calls Tryz.prog 177 #[.agg #[.int .u8 xk.toNat, .int .u8 xg.toNat, .int .i64 xv], .agg #[.int .i64 es, .int .i64 et, .int .u8 ek.toNat, .int .i64 evv]] W fun e w' => e = .returned (.bool true) ∧ Below W.heap.size W w' := by
            intro W
            have := hM W
            simp only [hf] at this
            exact this
          clear hM hS hcj hdrop hf hevw hx
          go_wp2_with (go_at_call 177; refine (hM2 _).mono ?_; rintro e w1 ⟨rfl, hb⟩)
          go_ret
          rw [hS2.out]
          exact ⟨rfl, HBw.out.trans (hb.mono Hsz.out)⟩
        | false =>
          have hS2 : Hid (S = seeL (es, et, ek, evv) (l.drop (j + 1)) (j + 1)) := by unfold Hid; rw [hS.out, seeL_pass rfl hf]
          have hM2 : ∀ W, Calls Tryz.prog 177 #[.agg #[.int .u8 xk.toNat, .int .u8 xg.toNat, .int .i64 xv], .agg #[.int .i64 es, .int .i64 et, .int .u8 ek.toNat, .int .i64 evv]] W fun e w' => e = .returned (.bool false) ∧ Below W.heap.size W w' := by
            intro W
            have := hM W
            simp only [hf] at this
            exact this
          clear hM hS hcj hdrop hf hevw hx
          go_wp2_with (go_at_call 177; refine (hM2 _).mono ?_; rintro e w1 ⟨rfl, hb⟩)
          go_roundw
          case rel => exact ⟨j + 1, by omega, by go_num, hS2, hB.out.trans (hb.mono hB.out.size)⟩
          case measure => simp [intOf]; omega
      | false =>
        have hcj' : wr.cell? ⟨pg, k + j, none⟩ = some (.iface 226 (.agg #[.int .u8 xk.toNat, .int .u8 xg.toNat, .int .i64 xv])) := hcj
        cases hf : fitsB (false, xk, xg, xv) (es, et, ek, evv) with
        | true =>
          have hS2 : Hid (S = .took (j + 1)) := by unfold Hid; rw [hS.out, seeL_take rfl hf]
          have hM2 : ∀ W, Calls Tryz.prog 177 #[.agg #[.int .u8 xk.toNat, .int .u8 xg.toNat, .int .i64 xv], .agg #[.int .i64 es, .int .i64 et, .int .u8 ek.toNat, .int .i64 evv]] W fun e w' => e = .returned (.bool true) ∧ Below W.heap.size W w' := by
            intro W
            have := hM W
            simp only [hf] at this
            exact this
          clear hM hS hcj hdrop hf hx
          have HEW := Hid.mk' hevw
          clear hevw
          go_wp2_with (go_at_call 177; refine (hM2 _).mono ?_; rintro e w1 ⟨rfl, hb⟩)
          have hsz : w.heap.size + 1 ≤ wr.heap.size := by have := hB.out.size; rw [HZ.out] at this; exact this
          have HB1 : Hid (Below w.heap.size w w1) := HBw.out.trans (hb.mono Hsz.out)
          have hev1 : w1.heap[w.heap.size]? = some (.cells #[.int .i64 es, .int .i64 et, .int .u8 ek.toNat, .int .i64 evv] 75 (0, 0)) := by
            rw [hb.block _ (by omega)]; exact HEW.out
          have e0 := cell_of_row w1 w.heap.size 0 _ _ _ hev1
          have e1 := cell_of_row w1 w.heap.size 1 _ _ _ hev1
          have e2 := cell_of_row w1 w.heap.size 2 _ _ _ hev1
          have e3 := cell_of_row w1 w.heap.size 3 _ _ _ hev1
          simp at e0 e1 e2 e3
          have hblk1 : w1.heap[rb]? = some (.cells #[.int .i64 dl, .slice ta tk.length tc, .slice (some ⟨pg, k, none⟩) l.length c] 193 (0, 0)) := by
            rw [HB1.out.block rb hrb]; exact HB.out
          have r1 := cell_of_row w1 rb 1 _ _ _ hblk1
          have r2 := cell_of_row w1 rb 2 _ _ _ hblk1
          have f1 := frozen_of_row w1 rb 1 _ _ hblk1
          simp at r1 r2
          have HO1 : Hid (w1.ownsRow 0 75 4 (.slice ta tk.length tc) tk.length (tk.flatMap evC)) := by
            exact own_below HO.out ⟨HB1.out.os, HB1.out.tape, HB1.out.output, HB1.out.size, fun k hk => HB1.out.block k hk⟩
          have HK1 := Hid.mk' hblk1
          have hafter : Hid (∀ (w2 : World) (o : Obj), ((w1.alloc o).drew).grownBy w2 (Value.slice ta tk.length tc).ownBlock → w2.heap[rb]? = some (.cells #[.int .i64 dl, .slice ta tk.length tc, .slice (some ⟨pg, k, none⟩) l.length c] 193 (0, 0)) ∧ Fr (rb :: (Value.slice ta tk.length tc).ownBlock.toList) w w2) := by
            intro w2 o hg
            have hlt1 : rb < w1.heap.size := lt_of_block HK1.out
            refine ⟨?_, ?_⟩
            · rw [hg.block rb (by simp; omega) (fun e => hne e.symm)]
              show (w1.alloc o).heap[rb]? = _
              rw [Below.heap_alloc _ _ _ hlt1]
              exact HK1.out
            · exact (((Fr.of_below _ HB1.out).alloc o).drew).grown hg (fun k hk => Or.inl (by rw [hk]; simp))
          have hrow : Hid (∀ b, (Value.slice ta tk.length tc).ownBlock = some b → b < w.heap.size) := own_lt HO.out
          have r1a := alloc_keep (.cells #[.int .i64 es, .int .i64 et, .int .u8 ek.toNat, .int .i64 evv] 75) r1
          clear hev1 hblk1 hb HEW
          obtain ⟨i0, hi0, hz0, hz1, hz2⟩ := info_parts Tryz.infoEv
          go_region_law (refine step_append_lies _ (by rfl) _ _ _ (by rfl) 0 75 i0 _ 4 32 Tryz.underlying39 hi0 hz0 hz1 hz2 rfl (by omega) (.slice ta tk.length tc) tk.length (tk.flatMap evC) (by rfl) ((HO1.out.alloc _).drew) ⟨w1.heap.size, 0, none⟩ 1 1 [.int .i64 es, .int .i64 et, .int .u8 ek.toNat, .int .i64 evv] (by rfl) (by rfl) (evC_at' _ es et evv ek _ _ (by simp)) (by simp [Value.oneCell']) (by omega) (by unfold maxLen; omega) (by omega) (by simp) (w1.heap.size + 1) (by simp) ?_; intro g2 cap2 w2 hown2 hgrow hat hlt2; obtain ⟨hbk2, hfr2⟩ := hafter.out w2 _ hgrow; have r12 := cell_of_row w2 rb 1 _ _ _ hbk2; have f12 := frozen_of_row w2 rb 1 _ _ hbk2; simp at r12)
          all_goals
            clear r12 f12 hi0 hz0 hz1 hz2 r1 r1a f1 e0 e1 e2 e3 hgrow
            have HAT := Hid.mk' hat
            clear hat
            have m1 : (w2.setCell ⟨rb, 1, none⟩ (.slice (some ⟨g2, 0, none⟩) (tk.length + 1) cap2)).heap[rb]? = some (.cells #[.int .i64 dl, .slice (some ⟨g2, 0, none⟩) (tk.length + 1) cap2, .slice (some ⟨pg, k, none⟩) l.length c] 193 (0, 0)) := by
              rw [heap_setCell_same w2 rb 1 _ _ _ hbk2]; rfl
            obtain ⟨W, hW⟩ : ∃ W, w2.setCell ⟨rb, 1, none⟩ (.slice (some ⟨g2, 0, none⟩) (tk.length + 1) cap2) = W := ⟨_, rfl⟩
            rw [hW] at m1 ⊢
            have s2 := cell_of_row W rb 2 _ _ _ m1
            have f2 := frozen_of_row W rb 2 _ _ m1
            simp at s2
            have M1 := Hid.mk' m1
            have HW := Hid.mk' hW
            have HF2 := Hid.mk' hfr2
            have HO2 := Hid.mk' hown2
            have HL2 := Hid.mk' hlt2
            have HK2 := Hid.mk' hbk2
            clear m1 hW hfr2 hown2 hlt2 hbk2 r2
            have hfin : Hid (∀ (lp : Option Addr) (ln lc : Nat) (r : Int), r = (if l.length ≤ j + 1 then 2 else 0) → (j + 1 < l.length → lp = some ⟨pg, k + (j + 1), none⟩ ∧ ln = l.length - (j + 1) ∧ lc = c - (j + 1)) → SeePost w rb pg k c dl l tk (.slice ta tk.length tc) (es, et, ek, evv) S (.returned (.int .i64 r)) (W.setCell ⟨rb, 2, none⟩ (.slice lp ln lc))) := by
              intro lp ln lc r hr hlv
              rw [hS2.out]
              refine ⟨.slice (some ⟨g2, 0, none⟩) (tk.length + 1) cap2, lp, ln, lc, ret_i hr, by rw [heap_setCell_same W rb 2 _ _ _ M1.out]; rfl, hlv, ?_, ?_, ?_⟩
              · rw [← HW.out]
                have hx := own_ne HO2.out HK2.out (by decide)
                exact own_setCell (own_setCell HO2.out hx _) hx _
              · rw [← HW.out]
                exact (HF2.out.setCell (Or.inl (by simp)) _).setCell (Or.inl (by simp)) _
              · intro b hb
                obtain rfl : g2 = b := Option.some.inj hb
                exact HAT.out.imp id (fun h => by have := HB1.out.size; omega)
            by_cases hd : l.length ≤ j + 1
            · have hd0 : l.length - (j + 1) = 0 := by omega
              go_wp2
              all_goals
                go_ret
                first
                  | exact hfin.out _ _ _ _ (by rw [if_pos hd]) (fun h => by exfalso; omega)
                  | (have hcc : c = j + 1 := by omega
                     have hfin2 := hfin.out
                     rw [hcc] at hfin2
                     exact hfin2 _ _ _ _ (by rw [if_pos hd]) (fun h => by exfalso; omega))
            · have hd0 : (((l.length - (j + 1) : Nat) : Int) == 0) = false := by simp; omega
              have hd1 : ¬ ((l.length - (j + 1) : Nat) : Int) = 0 := by omega
              have hd2 : ¬ l.length - (j + 1) = 0 := by omega
              have hd3 : ¬ c = j + 1 := by omega
              go_wp2
              go_ret
              exact hfin.out _ _ _ _ (by rw [if_neg hd]) (fun h => ⟨rfl, rfl, rfl⟩)
        | false =>
          have hS2 : Hid (S = .on) := by unfold Hid; rw [hS.out, seeL_miss rfl hf]
          have hM2 : ∀ W, Calls Tryz.prog 177 #[.agg #[.int .u8 xk.toNat, .int .u8 xg.toNat, .int .i64 xv], .agg #[.int .i64 es, .int .i64 et, .int .u8 ek.toNat, .int .i64 evv]] W fun e w' => e = .returned (.bool false) ∧ Below W.heap.size W w' := by
            intro W
            have := hM W
            simp only [hf] at this
            exact this
          have hn0 : ¬ l.length = 0 := by omega
          have hAO : ∀ W : World, Below w.heap.size w W → Calls Tryz.prog 171 #[.pointer (some ⟨rb, 0, none⟩)] W fun e w' => e = .returned (.int .i64 0) ∧ w' = W := by
            intro W hW
            have := atOnce_any rb l.length c (some ⟨pg, k, none⟩) W (by rw [hW.cell (p := ⟨rb, 2, none⟩) hrb]; exact c2)
            simp only [hn0, if_false] at this
            exact this
          have HAO := Hid.mk' hAO
          clear hM hS hcj hdrop hf hevw hx hAO
          go_wp2_with (first | (go_at_call 177; refine (hM2 _).mono ?_; rintro e w1 ⟨rfl, hb⟩) | (go_at_call 171; refine (HAO.out _ (HBw.out.trans (hb.mono Hsz.out))).mono ?_; rintro e w2 ⟨rfl, rfl⟩))
          go_ret
          rw [hS2.out]
          exact ⟨rfl, HBw.out.trans (hb.mono Hsz.out)⟩
    · have hS2 : Hid (S = .on) := by
        unfold Hid
        rw [hS.out, List.drop_of_length_le (by omega)]
        rfl
      clear hS
      go_wp2
      go_ret
      rw [hS2.out]
      exact ⟨rfl, HBw.out⟩
end Go.Proofs.YtbgfannlfagoiaaGreatDoor
