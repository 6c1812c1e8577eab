import Derived.Test.YtbgfannlfagoiaaGreatDoorZ24
import Derived.Laws.IdiomCopy
import Derived.Lib.Overlaps
import Derived.Lib.AppendZerosOnto
import Derived.Laws.NewBlocks
import Derived.Test.YtbgfannlfagoiaaGreatDoorZ01
namespace Go.Proofs.YtbgfannlfagoiaaGreatDoor
open Go.RowKit Go.Lull
set_option linter.unusedVariables false

def cmpI (x y : Int) : Int := if x < y then -1 else if y < x then 1 else 0
def orI (a b : Int) : Int := if a = 0 then b else a

set_option maxHeartbeats 400000 in
theorem compare_any (x y : Int) (w : World) :
  Calls Tryz.prog 117 #[.int .i64 x, .int .i64 y] w fun e w' => e = .returned (.int .i64 (cmpI x y)) ∧ w' = w := by
 by_cases h1 : x < y
 ·have hc : cmpI x y = -1 := by simp [cmpI, h1]
  rw [hc]
  clear hc
  go_enter Tryz.func117, Tryz.ntmps117
  go_wp2
  go_ret
  exact ⟨rfl, rfl⟩
 ·by_cases h2 : y < x
  ·have hc : cmpI x y = 1 := by simp [cmpI, h1, h2]
   rw [hc]
   clear hc
   go_enter Tryz.func117, Tryz.ntmps117
   go_wp2
   go_ret
   exact ⟨rfl, rfl⟩
  ·have hc : cmpI x y = 0 := by simp [cmpI, h1, h2]
   rw [hc]
   clear hc
   go_enter Tryz.func117, Tryz.ntmps117
   go_wp2
   go_ret
   exact ⟨rfl, rfl⟩

set_option maxHeartbeats 400000 in
theorem or_any (a b : Int) (g : Nat) (w : World) (h0 : w.cell? ⟨g, 0, none⟩ = some (.int .i64 a)) (h1 : w.cell? ⟨g, 1, none⟩ = some (.int .i64 b)) :
  Calls Tryz.prog 116 #[.slice (some ⟨g, 0, none⟩) 2 2] w fun e w' => e = .returned (.int .i64 (orI a b)) ∧ w' = w := by
 by_cases ha : a = 0
 ·have hc : orI a b = b := by simp [orI, ha]
  rw [hc]
  subst ha
  by_cases hb : b = 0
  ·subst hb
   clear hc
   go_enter Tryz.func116, Tryz.ntmps116
   go_wp2
   refine wp_loop_rounds 3 ?_; rw [rounds_succ]
   go_wp2
   rw [rounds_succ]
   go_wp2
   rw [rounds_succ]
   go_wp2
   go_ret
   exact ⟨rfl, rfl⟩
  ·have hb2 : ((b : Int) != 0) = true := by simp [hb]
   clear hc
   go_enter Tryz.func116, Tryz.ntmps116
   go_wp2
   refine wp_loop_rounds 3 ?_; rw [rounds_succ]
   go_wp2
   rw [rounds_succ]
   go_wp2
   go_ret
   exact ⟨rfl, rfl⟩
 ·have hc : orI a b = a := by simp [orI, ha]
  rw [hc]
  have ha2 : ((a : Int) != 0) = true := by simp [ha]
  clear hc
  go_enter Tryz.func116, Tryz.ntmps116
  go_wp2
  refine wp_loop_rounds 3 ?_; rw [rounds_succ]
  go_wp2
  go_ret
  exact ⟨rfl, rfl⟩

set_option maxRecDepth 8000 in
set_option maxHeartbeats 1000000 in
theorem order_any (x y : Ev) (w : World) :
  Calls Tryz.prog 107 #[.agg #[.int .i64 x.1, .int .i64 x.2.1, .int .u8 x.2.2.1.toNat, .int .i64 x.2.2.2], .agg #[.int .i64 y.1, .int .i64 y.2.1, .int .u8 y.2.2.1.toNat, .int .i64 y.2.2.2]] w fun e w' => e = .returned (.int .i64 (orI (cmpI x.2.1 y.2.1) (cmpI x.1 y.1))) ∧ Below w.heap.size w w' := by
 obtain ⟨xs, xt, xk, xv⟩ := x
 obtain ⟨ys, yt, yk, yv⟩ := y
 simp only
 obtain ⟨a, ha⟩ : ∃ a, cmpI xt yt = a := ⟨_, rfl⟩
 obtain ⟨b, hb⟩ : ∃ b, cmpI xs ys = b := ⟨_, rfl⟩
 have c1 := Hid.mk' (fun W => compare_any xt yt W)
 have c2 := Hid.mk' (fun W => compare_any xs ys W)
 rw [ha] at c1
 rw [hb] at c2
 rw [ha, hb]
 obtain ⟨R, hR⟩ : ∃ R, orI a b = R := ⟨_, rfl⟩
 have c3 : Hid (∀ (W : World) (T : Nat), Calls Tryz.prog 116 #[.slice (some ⟨W.heap.size, 0, none⟩) 2 2] (W.alloc (.cells #[.int .i64 a, .int .i64 b] T)).drew fun e w' => e = .returned (.int .i64 (orI a b)) ∧ w' = (W.alloc (.cells #[.int .i64 a, .int .i64 b] T)).drew) := by
  intro W T
  exact or_any a b _ _ (by show (W.alloc _).cell? _ = _; rw [cell_of_row _ _ 0 _ _ _ (heap_alloc_new _ _)]; rfl) (by show (W.alloc _).cell? _ = _; rw [cell_of_row _ _ 1 _ _ _ (heap_alloc_new _ _)]; rfl)
 rw [hR] at c3 ⊢
 clear ha hb hR
 go_enter Tryz.func107, Tryz.ntmps107
 go_wp2
 have HB : Hid (Below w.heap.size w ((w.alloc (Obj.cells #[.int .i64 xs, .int .i64 xt, .int .u8 xk.toNat, .int .i64 xv] 75)).alloc (Obj.cells #[.int .i64 ys, .int .i64 yt, .int .u8 yk.toNat, .int .i64 yv] 75))) :=
  Hid.mk' (((Below.refl _ _).alloc (Nat.le_refl _) _).alloc (by simp) _)
 have e0 : ((w.alloc (Obj.cells #[.int .i64 xs, .int .i64 xt, .int .u8 xk.toNat, .int .i64 xv] 75)).alloc (Obj.cells #[.int .i64 ys, .int .i64 yt, .int .u8 yk.toNat, .int .i64 yv] 75)).cell? ⟨w.heap.size, 0, none⟩ = some (.int .i64 xs) := by simp [go_sem]
 have e1 : ((w.alloc (Obj.cells #[.int .i64 xs, .int .i64 xt, .int .u8 xk.toNat, .int .i64 xv] 75)).alloc (Obj.cells #[.int .i64 ys, .int .i64 yt, .int .u8 yk.toNat, .int .i64 yv] 75)).cell? ⟨w.heap.size, 1, none⟩ = some (.int .i64 xt) := by simp [go_sem]
 have e2 : ((w.alloc (Obj.cells #[.int .i64 xs, .int .i64 xt, .int .u8 xk.toNat, .int .i64 xv] 75)).alloc (Obj.cells #[.int .i64 ys, .int .i64 yt, .int .u8 yk.toNat, .int .i64 yv] 75)).cell? ⟨w.heap.size + 1, 0, none⟩ = some (.int .i64 ys) := by simp [go_sem]
 have e3 : ((w.alloc (Obj.cells #[.int .i64 xs, .int .i64 xt, .int .u8 xk.toNat, .int .i64 xv] 75)).alloc (Obj.cells #[.int .i64 ys, .int .i64 yt, .int .u8 yk.toNat, .int .i64 yv] 75)).cell? ⟨w.heap.size + 1, 1, none⟩ = some (.int .i64 yt) := by simp [go_sem]
 revert HB e0 e1 e2 e3
 generalize ((w.alloc (Obj.cells #[.int .i64 xs, .int .i64 xt, .int .u8 xk.toNat, .int .i64 xv] 75)).alloc (Obj.cells #[.int .i64 ys, .int .i64 yt, .int .u8 yk.toNat, .int .i64 yv] 75)) = W1
 intro HB e0 e1 e2 e3
 generalize hNN : w.heap.size = NN at e0 e1 e2 e3 ⊢
 go_region_held3 (fun w' => w'.cell? ⟨NN, 0, none⟩ = some (.int .i64 xs) ∧ w'.cell? ⟨NN, 1, none⟩ = some (.int .i64 xt) ∧ w'.cell? ⟨NN + 1, 0, none⟩ = some (.int .i64 ys) ∧ w'.cell? ⟨NN + 1, 1, none⟩ = some (.int .i64 yt))
  (go_keep)
  (first | (go_at_call 117; first | (with_reducible refine (c1.out _).mono ?_; rintro e w2 ⟨rfl, rfl⟩) | (with_reducible refine (c2.out _).mono ?_; rintro e w3 ⟨rfl, rfl⟩)) | (go_at_call 116; with_reducible refine (c3.out _ _).mono ?_; rintro e w4 ⟨rfl, rfl⟩))
 go_wp2
 go_ret
 exact ⟨rfl, (HB.out.alloc HB.out.size _).drew⟩
end Go.Proofs.YtbgfannlfagoiaaGreatDoor

namespace Go.Proofs.YtbgfannlfagoiaaGreatDoor
open Go.RowKit Go.Lull
set_option linter.unusedVariables false

set_option maxHeartbeats 1000000 in
theorem search_any (w : World) (n k0 : Nat) (p : Nat → Bool) (c1 c2 : Value) (hn : n ≤ 60) (hk : k0 ≤ n) (hlo : ∀ k, k < k0 → p k = false) (hhi : ∀ k, k0 ≤ k → k < n → p k = true)
  (hcall : ∀ (W : World) (k : Nat), k < n → Below w.heap.size w W → Calls Tryz.prog 106 #[.int .i64 k, c1, c2] W fun e w' => e = .returned (.bool (p k)) ∧ Below W.heap.size W w') :
  Calls Tryz.prog 105 #[.int .i64 n, .func (.func 106) #[] #[c1, c2]] w fun e w' => e = .returned (.int .i64 k0) ∧ Below w.heap.size w w' := by
 have HC := Hid.mk' hcall
 have HLO := Hid.mk' hlo
 have HHI := Hid.mk' hhi
 clear hcall hlo hhi
 go_enter Tryz.func105, Tryz.ntmps105
 go_wp2
 go_loopw [5, 6] (fun i j wr => ∃ (a b : Nat), i = .int .i64 a ∧ j = .int .i64 b ∧ a ≤ k0 ∧ k0 ≤ b ∧ b ≤ n ∧ Hid (Below w.heap.size w wr)) (fun i j _ => (intOf j).toNat - (intOf i).toNat)
 case atStart => exact ⟨0, n, rfl, rfl, Nat.zero_le _, hk, Nat.le_refl _, Below.refl _ _⟩
 case round =>
  obtain ⟨a, b, rfl, rfl, h1, h2, h3, HB⟩ := hrel
  by_cases hlt : a < b
  ·obtain ⟨h, hh⟩ : ∃ h, (a + b) / 2 = h := ⟨_, rfl⟩
   have hi : ((a : Int) + b) / 2 = (h : Int) := by omega
   have hc := Hid.mk' (HC.out wr h (by omega) HB.out)
   cases hp : p h with
   | true =>
    have hge : k0 ≤ h := by
     rcases Nat.lt_or_ge h k0 with hl | hl
     ·have := HLO.out h hl; rw [hp] at this; cases this
     ·exact hl
    rw [hp] at hc
    clear hp
    go_wp2_with (go_at_call 106; refine hc.out.mono ?_; rintro e w2 ⟨rfl, hb⟩)
    go_roundw
    case rel => exact ⟨a, h, rfl, rfl, h1, hge, by omega, Hid.mk' (Below.trans HB.out (hb.mono HB.out.size))⟩
    case measure => simp only [intOf]; omega
   | false =>
    have hge : h + 1 ≤ k0 := by
     rcases Nat.lt_or_ge h k0 with hl | hl
     ·exact hl
     ·have := HHI.out h hl (by omega); rw [hp] at this; cases this
    rw [hp] at hc
    clear hp
    go_wp2_with (go_at_call 106; refine hc.out.mono ?_; rintro e w2 ⟨rfl, hb⟩)
    go_roundw
    case rel => exact ⟨h + 1, b, by simp, rfl, hge, h2, h3, Hid.mk' (Below.trans HB.out (hb.mono HB.out.size))⟩
    case measure => simp only [intOf]; omega
  ·have hab : a = k0 := by omega
   subst hab
   go_wp2
   go_ret
   exact ⟨rfl, HB.out⟩
end Go.Proofs.YtbgfannlfagoiaaGreatDoor

namespace Go.Proofs.YtbgfannlfagoiaaGreatDoor
open Go.RowKit Go.Lull
set_option linter.unusedVariables false

set_option maxRecDepth 8000 in
set_option maxHeartbeats 1000000 in
/-- The test that Add hands to sort.Search: is the event at k to be released behind the new one? -/
theorem add1_any (w : World) (k c1 c2 eb o g off n cap : Nat) (x y : Ev) (hk : k < n) (hn : n ≤ 60)
  (h1 : w.cell? ⟨c1, 0, none⟩ = some (.pointer (some ⟨eb, o, none⟩))) (h2 : w.cell? ⟨eb, o, none⟩ = some (.slice (some ⟨g, off, none⟩) n cap))
  (x0 : w.cell? ⟨g, off + k * 4, none⟩ = some (.int .i64 x.1)) (x1 : w.cell? ⟨g, off + k * 4 + 1, none⟩ = some (.int .i64 x.2.1)) (x2 : w.cell? ⟨g, off + k * 4 + 2, none⟩ = some (.int .u8 x.2.2.1.toNat)) (x3 : w.cell? ⟨g, off + k * 4 + 3, none⟩ = some (.int .i64 x.2.2.2))
  (y0 : w.cell? ⟨c2, 0, none⟩ = some (.int .i64 y.1)) (y1 : w.cell? ⟨c2, 1, none⟩ = some (.int .i64 y.2.1)) (y2 : w.cell? ⟨c2, 2, none⟩ = some (.int .u8 y.2.2.1.toNat)) (y3 : w.cell? ⟨c2, 3, none⟩ = some (.int .i64 y.2.2.2)) :
  Calls Tryz.prog 106 #[.int .i64 k, .pointer (some ⟨c1, 0, none⟩), .pointer (some ⟨c2, 0, none⟩)] w fun e w' => e = .returned (.bool (decide (0 < orI (cmpI x.2.1 y.2.1) (cmpI x.1 y.1)))) ∧ Below w.heap.size w w' := by
 have HO := Hid.mk' (fun W => order_any x y W)
 obtain ⟨xs, xt, xk, xv⟩ := x
 obtain ⟨ys, yt, yk, yv⟩ := y
 simp only at *
 obtain ⟨R, hR⟩ : ∃ R, orI (cmpI xt yt) (cmpI xs ys) = R := ⟨_, rfl⟩
 rw [hR] at HO ⊢
 clear hR
 go_enter Tryz.func106, Tryz.ntmps106
 go_wp2
 go_region_held3 (fun w' => w'.cell? ⟨c1, 0, none⟩ = some (.pointer (some ⟨eb, o, none⟩)) ∧ w'.cell? ⟨eb, o, none⟩ = some (.slice (some ⟨g, off, none⟩) n cap) ∧ w'.cell? ⟨g, off + k * 4, none⟩ = some (.int .i64 xs) ∧ w'.cell? ⟨g, off + k * 4 + 1, none⟩ = some (.int .i64 xt) ∧ w'.cell? ⟨g, off + k * 4 + 2, none⟩ = some (.int .u8 xk.toNat) ∧ w'.cell? ⟨g, off + k * 4 + 3, none⟩ = some (.int .i64 xv) ∧ w'.cell? ⟨c2, 0, none⟩ = some (.int .i64 ys) ∧ w'.cell? ⟨c2, 1, none⟩ = some (.int .i64 yt) ∧ w'.cell? ⟨c2, 2, none⟩ = some (.int .u8 yk.toNat) ∧ w'.cell? ⟨c2, 3, none⟩ = some (.int .i64 yv))
  (first | (refine ⟨?_, ?_, ?_, ?_, ?_, ?_, ?_, ?_, ?_, ?_⟩ <;> (first | assumption | (apply drew_keep; assumption) | (refine cell_later hb.out ?_; first | assumption | (apply drew_keep; assumption)))) | go_keep)
  (first | (go_at_call 107; with_reducible refine (HO.out _).mono ?_; rintro e w2 ⟨rfl, hb0⟩; have hb := Hid.mk' hb0; clear hb0))
 go_wp2
 go_ret
 exact ⟨rfl, (Below.refl _ _).drew.trans hb.out⟩
end Go.Proofs.YtbgfannlfagoiaaGreatDoor

namespace Go.Proofs.YtbgfannlfagoiaaGreatDoor
open Go.RowKit Go.Lull
set_option linter.unusedVariables false

/-- What slices.Insert of one event leaves. -/
def InsPost (w : World) (bv : Value) (n : Nat) (xs : List Value) : Ending → World → Prop := fun e w' => ∃ bv', e = .returned bv' ∧ Row w' 75 4 bv' (n + 1) xs ∧ Fr bv.ownBlock.toList w w' ∧ (∀ b, bv'.ownBlock = some b → bv.ownBlock = some b ∨ w.heap.size ≤ b)

set_option maxRecDepth 8000 in
set_option maxHeartbeats 1000000 in
/-- At the end: append. -/
theorem ins_end (w : World) (n cap vb vc : Nat) (a : Option Addr) (xs news : List Value) (hn : n ≤ 60) (hrow : Row w 75 4 (.slice a n cap) n xs) (hsrc : Src Tryz.prog 4 39 (.slice (some ⟨vb, 0, none⟩) 1 vc) 1 news w) :
  Calls Tryz.prog 108 #[.slice a n cap, .int .i64 n, .slice (some ⟨vb, 0, none⟩) 1 vc] w (InsPost w (.slice a n cap) n (xs ++ news)) := by
 obtain ⟨i0, hi0, hz0, hz1, hz2⟩ := info_parts Tryz.infoEv
 have hnc : n ≤ cap := by
  obtain ⟨a', cap', h1, h2⟩ := hrow.form
  cases h1; exact h2
 have HR := Hid.mk' hrow
 have HS := Hid.mk' hsrc
 clear hrow hsrc
 by_cases hcn : cap = n
 ·subst hcn
  unfold InsPost
  go_enter Tryz.func108, Tryz.ntmps108
  go_wp2_with (at_builtin; refine wpList_append_row (by rfl) _ _ _ (by rfl) i0 _ 32 Tryz.underlying39 hi0 hz0 hz1 hz2 rfl (by rfl) HR.out 1 news (.slice (some ⟨vb, 0, none⟩) 1 vc) (by rfl) HS.out (by omega) (by unfold maxLen; omega) (by omega) ?_; intro g2 off2 cap2 w2 hrow2 hgrow hat)
  go_ret
  exact ⟨_, rfl, hrow2, (Fr.refl _ _).grown hgrow (fun k hk => Or.inl (show k ∈ (Value.slice a cap cap).ownBlock.toList by rw [hk]; simp)), fun b hb => by
   obtain rfl : g2 = b := Option.some.inj hb
   exact hat.imp id (fun h => by omega)⟩
 ·unfold InsPost
  go_enter Tryz.func108, Tryz.ntmps108
  go_wp2_with (at_builtin; refine wpList_append_row (by rfl) _ _ _ (by rfl) i0 _ 32 Tryz.underlying39 hi0 hz0 hz1 hz2 rfl (by rfl) HR.out 1 news (.slice (some ⟨vb, 0, none⟩) 1 vc) (by rfl) HS.out (by omega) (by unfold maxLen; omega) (by omega) ?_; intro g2 off2 cap2 w2 hrow2 hgrow hat)
  go_ret
  exact ⟨_, rfl, hrow2, (Fr.refl _ _).grown hgrow (fun k hk => Or.inl (show k ∈ (Value.slice a n cap).ownBlock.toList by rw [hk]; simp)), fun b hb => by
   obtain rfl : g2 = b := Option.some.inj hb
   exact hat.imp id (fun h => by omega)⟩
end Go.Proofs.YtbgfannlfagoiaaGreatDoor

namespace Go.Proofs.YtbgfannlfagoiaaGreatDoor
open Go.RowKit Go.Lull
set_option linter.unusedVariables false

/-- copy, of elements of any size: all is read before anything is written. -/
theorem run_copy_sized {P : Program} (w : World) (dT sT ty elem : TypeId) (size b o dLen dCap : Nat) (a : Addr) (sLen sCap : Nat) (cs : List Value) (m : Nat)
  (hu : P.underlying dT = some (.slice elem)) (hs : (P.info? elem).map (·.size) = some size) (hm : Nat.min sLen dLen = m) (hn : cs.length = m * size)
  (hsrc : ∀ j v, cs[j]? = some v → w.cell? (a.add j) = some v) (hc : ∀ j, j < cs.length → (w.cell? ⟨b, o + j, none⟩).isSome = true) (hf : ∀ j, j < cs.length → w.frozen? ⟨b, o + j, none⟩ = false) (h1 : ∀ v ∈ cs, v.oneCell' = true) :
  (Builtin.copy_ #[dT, sT] ty #[.slice (some ⟨b, o, none⟩) dLen dCap, .slice (some a) sLen sCap]).run P w = .ok (goInt m) (w.setCells b o cs) := by
 have hl := run_loadCells_list (P := P) w a cs hsrc
 have hst := run_storeCells_cells (P := P) b o cs 0 w (by simpa using hc) (by simpa using hf) h1
 cases hq : P.info? elem with
 | none => simp [hq] at hs
 | some i =>
  have hi : i.size = size := by simpa [hq] using hs
  simp [Builtin.copy_, run_underlying hu, Builtin.lenOf, Builtin.firstCells, sizeOf, typeInfo, hq, hi, hm, ← hn, hl, hst]

theorem wpList_copy_sized {P : Program} (w : World) {ops : Array Oper} {rest : List Oper} {o : Oper} {a : Act} {Q : Exit → Act → World → Prop} (hgd : o.guard = none) (d s : Operand) (t t' : TypeId)
  (ho : o.op = .call { callee := .builtin .copy, args := #[d, s], argTypes := #[t, t'] }) (v u : Value) (hd : a.eval d = v) (hs : a.eval s = u) {v' : Value} {w' : World}
  (hr : (Builtin.copy_ #[t, t'] o.type #[v, u]).run P w = .ok v' w') (h : wpList P ops Q rest (a.put o.dst v') w') : wpList P ops Q (o :: rest) a w :=
 wpList_plain hgd fun _ hK => by
  unfold Oper.wp execOp
  simp only [ho, resolve, invoke, builtin, Sem.run_bind, Sem.run_pure, Result.andThen_ok, List.map_toArray, List.map_cons, List.map_nil, hd, hs, hr]
  exact hK _ _ h

theorem step_copy_sized {P : Program} {ops : Array Oper} {o : Oper} {a : Act} {w : World} {K : Act → World → Prop} {Q : Exit → Act → World → Prop} {E : Prop}
  (hg : o.guard = none) (d x : Operand) (dT sT : TypeId) (hop : o.op = Op.call { callee := Callee.builtin Builtin.copy, args := #[d, x], argTypes := #[dT, sT] })
  (v u : Value) (hd : a.eval d = v) (hx : a.eval x = u) {v' : Value} {w' : World} (hr : (Builtin.copy_ #[dT, sT] o.type #[v, u]).run P w = .ok v' w') (hK : K (a.put o.dst v') w') :
  if Region.wanted o (yielded ops a.tmps) = true then Oper.wp P o a w K Q else E := by
 have hw : Region.wanted o (yielded ops a.tmps) = true := by simp [Region.wanted, hg]
 rw [if_pos hw]
 unfold Oper.wp
 simp [execOp, hop, resolve, invoke, builtin, hd, hx, hr, Result.andThen]
 exact hK
end Go.Proofs.YtbgfannlfagoiaaGreatDoor

namespace Go.Proofs.YtbgfannlfagoiaaGreatDoor
open Go.RowKit Go.Lull
set_option linter.unusedVariables false

set_option maxRecDepth 8000 in
set_option maxHeartbeats 1000000 in
/-- There is room, and it is not the end: two copies, in place. -/
theorem ins_room (w : World) (g off n cap i vb vc : Nat) (cur : Array Value) (news : List Value) (hn : n ≤ 60) (hi : i < n) (hroom : n < cap) (hcm : cap ≤ maxLen) (hvb : vb ≠ g)
  (hg : w.heap[g]? = some (.cells cur 75 (0, 0))) (hcs : off + cap * 4 ≤ cur.size)
  (hv : w.heap[vb]? = some (.cells news.toArray 75 (0, 0))) (hnl : news.length = 4) (hone : ∀ u ∈ news, u.oneCell' = true) (honc : ∀ u ∈ (cur.toList.drop (off + i * 4)).take ((n - i) * 4), u.oneCell' = true) :
  Calls Tryz.prog 108 #[.slice (some ⟨g, off, none⟩) n cap, .int .i64 i, .slice (some ⟨vb, 0, none⟩) 1 vc] w fun e w' =>
   e = .returned (.slice (some ⟨g, off, none⟩) (n + 1) cap) ∧ w' = (w.drew.setCells g (off + (i + 1) * 4) ((cur.toList.drop (off + i * 4)).take ((n - i) * 4))).setCells g (off + i * 4) news := by
 have hcm2 : cap ≤ 9223372036854775807 := hcm
 go_enter Tryz.func108, Tryz.ntmps108
 have hz2 : ¬ ((i : Int) = (n : Int)) := by omega
 have hw1 : IntKind.i64.wrap ((i : Int) + 1) = (i : Int) + 1 := by rw [IntKind.wrap_i64]; omega
 have htn : ((i : Int) + 1).toNat = i + 1 := by omega
 have hb2 : ¬ (cap = i + 1) := by omega
 have hb4 : ¬ (cap = i) := by omega
 have hb1 : (0 : Int) ≤ (i : Int) + 1 := by omega
 have hin : i ≤ n := by omega
 have hb3 : (i : Int) ≤ (n : Int) + 1 := by omega
 obtain ⟨i0, hi0, hz0, hz1, hzb⟩ := info_parts Tryz.infoEv
 have hsz : (Tryz.prog.info? 75).map (·.size) = some 4 := by rw [hi0]; simp [hz1]
 have hov : ∀ lb cb, (callFunc 118 #[.slice (some ⟨vb, 0, none⟩) 1 vc, .slice (some ⟨g, off + (i + 1) * 4, none⟩) lb cb]).run Tryz.prog w = .ok (.value (.bool false)) w := fun lb cb => by
  rw [run_callFunc_extern Tryz.func118 (by kernel_rfl) (by kernel_rfl) (by kernel_rfl) (e := Extern.SlicesOverlaps.overlaps #[39, 39] #[4]) (by kernel_rfl),
   Lib.run_overlaps_apart w 39 4 75 Tryz.underlying39 4 (fun w => by simp [sizeOf, typeInfo, hi0, hz1]) ⟨vb, 0, none⟩ ⟨g, off + (i + 1) * 4, none⟩ 1 vc lb cb hvb 75 75 4 cur.size (by simp [World.shape?, hv, hnl]) (by simp [World.shape?, hg]) (by omega) (frozen_of_row _ vb 0 _ _ hv) (frozen_of_row _ vb 4 _ _ hv)]
  rfl
 obtain ⟨xd, hxd⟩ : ∃ xd, (cur.toList.drop (off + i * 4)).take ((n - i) * 4) = xd := ⟨_, rfl⟩
 have hxl : xd.length = (n - i) * 4 := by rw [← hxd, List.length_take, List.length_drop]; simp; omega
 have hcp1 : ∀ ty dc sc, (Builtin.copy_ #[39, 39] ty #[.slice (some ⟨g, off + (i + 1) * 4, none⟩) (n - i) dc, .slice (some ⟨g, off + i * 4, none⟩) (n + 1 - i) sc]).run Tryz.prog w.drew = .ok (goInt ((n - i : Nat) : Int)) (w.drew.setCells g (off + (i + 1) * 4) xd) := fun ty dc sc =>
  run_copy_sized w.drew _ _ ty 75 4 g (off + (i + 1) * 4) (n - i) dc ⟨g, off + i * 4, none⟩ (n + 1 - i) sc xd (n - i) Tryz.underlying39 hsz (by simp only [Nat.min_def]; split <;> omega) hxl
   (fun j v hj => by
    rw [Addr.add_lit]
    show w.cell? _ = _
    rw [cell_of_row w g _ _ _ _ hg]
    have hjl : j < (n - i) * 4 := by
     rw [← hxl]; exact (List.getElem?_eq_some_iff.1 hj).1
    rw [← hxd, List.getElem?_take_of_lt hjl, List.getElem?_drop] at hj
    simpa using hj)
   (fun j hj => by show (w.cell? _).isSome = true; rw [cell_of_row w g _ _ _ _ hg]; simp; omega) (fun j hj => frozen_of_row w g _ _ _ hg)
   (fun v hv => honc v (by rw [hxd]; exact hv))
 obtain ⟨W1, hW1⟩ : ∃ W1, w.drew.setCells g (off + (i + 1) * 4) xd = W1 := ⟨_, rfl⟩
 have hg1 : W1.heap[g]? = some (.cells (cur.toList.take (off + (i + 1) * 4) ++ xd ++ cur.toList.drop (off + (i + 1) * 4 + xd.length)).toArray 75 (0, 0)) := by
  rw [← hW1]
  exact heap_setCells_same g _ xd _ w.drew cur.toList (by simpa using (show w.drew.heap[g]? = some (.cells cur 75 (0, 0)) from hg)) (by rw [hxl]; simp; omega)
 have hv1 : W1.heap[vb]? = some (.cells news.toArray 75 (0, 0)) := by
  rw [← hW1, setCells_other g hvb]; exact hv
 have hcp2 : ∀ ty dc, (Builtin.copy_ #[39, 39] ty #[.slice (some ⟨g, off + i * 4, none⟩) (n + 1 - i) dc, .slice (some ⟨vb, 0, none⟩) 1 vc]).run Tryz.prog W1 = .ok (goInt 1) (W1.setCells g (off + i * 4) news) := fun ty dc =>
  run_copy_sized W1 _ _ ty 75 4 g (off + i * 4) (n + 1 - i) dc ⟨vb, 0, none⟩ 1 vc news 1 Tryz.underlying39 hsz (by simp only [Nat.min_def]; split <;> omega) (by omega)
   (fun j v hj => by
    rw [Addr.add_lit, cell_of_row W1 vb _ _ _ _ hv1]
    simpa using hj)
   (fun j hj => by rw [cell_of_row W1 g _ _ _ _ hg1]; simp [hxl]; omega) (fun j hj => frozen_of_row W1 g _ _ _ hg1) hone
 rw [hW1] at hcp1
 have HW1 := Hid.mk' hW1
 clear hW1
 have HG1 := Hid.mk' hg1
 have HV1 := Hid.mk' hv1
 clear hg1 hv1
 go_wp2_with (simp only [hov])
 go_region_law (refine step_copy_sized rfl _ _ 39 39 rfl _ _ (by simp [Act.eval, Act.put]) (by simp [Act.eval, Act.put]) (hcp1 _ _ _) ?_)
 all_goals
  go_wp2_with (at_builtin; refine wpList_copy_sized _ rfl _ _ 39 39 rfl _ _ rfl rfl (hcp2 _ _) ?_)
  go_ret
  refine ⟨rfl, ?_⟩
  rw [← HW1.out, hxd]

end Go.Proofs.YtbgfannlfagoiaaGreatDoor

namespace Go.Proofs.YtbgfannlfagoiaaGreatDoor
open Go.RowKit Go.Lull
set_option linter.unusedVariables false

set_option maxRecDepth 8000 in
set_option maxHeartbeats 1000000 in
/-- There is no room, and it is not the end: a new row. -/
theorem ins_grow (w : World) (g off n i vb vc : Nat) (cur : Array Value) (news : List Value) (hn : n ≤ 60) (hi : i < n)
  (hg : w.heap[g]? = some (.cells cur 75 (0, 0))) (hcs : off + n * 4 ≤ cur.size)
  (hv : w.heap[vb]? = some (.cells news.toArray 75 (0, 0))) (hnl : news.length = 4) (hone : ∀ u ∈ news, u.oneCell' = true) (honc : ∀ u ∈ (cur.toList.drop (off + i * 4)).take ((n - i) * 4), u.oneCell' = true) :
  Calls Tryz.prog 108 #[.slice (some ⟨g, off, none⟩) n n, .int .i64 i, .slice (some ⟨vb, 0, none⟩) 1 vc] w fun e w' =>
   ∃ G ROW, n + 1 ≤ G ∧ G ≤ maxLen ∧ ROW.size = G * 4 ∧ ROW.toList.take (i * 4) = (cur.toList.drop off).take (i * 4) ∧
   e = .returned (.slice (some ⟨w.heap.size, 0, none⟩) (n + 1) G) ∧
   w' = ((w.drew.alloc (.cells ROW 75)).setCells w.heap.size (i * 4) news).drew.setCells w.heap.size ((i + 1) * 4) ((cur.toList.drop (off + i * 4)).take ((n - i) * 4)) := by
 obtain ⟨i0, hi0, hz0, hz1, hzb⟩ := info_parts Tryz.infoEv
 have hsz : (Tryz.prog.info? 75).map (·.size) = some 4 := by rw [hi0]; simp [hz1]
 have hgw : g < w.heap.size := lt_of_block hg
 have hvw : vb < w.heap.size := lt_of_block hv
 obtain ⟨xt, hxt⟩ : ∃ xt, (cur.toList.drop off).take (i * 4) = xt := ⟨_, rfl⟩
 obtain ⟨xd, hxd⟩ : ∃ xd, (cur.toList.drop (off + i * 4)).take ((n - i) * 4) = xd := ⟨_, rfl⟩
 have hxl : xd.length = (n - i) * 4 := by rw [← hxd, List.length_take, List.length_drop]; simp; omega
 have htl : xt.length = i * 4 := by rw [← hxt, List.length_take, List.length_drop]; simp; omega
 have hkk : (n : Int) + 1 - (i : Int) = ((n + 1 - i : Nat) : Int) := by omega
 have hik : i + (n + 1 - i) = n + 1 := by omega
 have hold : (Builtin.firstCells i0.size i (.slice (some ⟨g, off, none⟩) i n)).run Tryz.prog w.drew = .ok xt.toArray w.drew := by
  rw [hz1]
  exact run_firstCells_some w.drew 4 i ⟨g, off, none⟩ i n xt htl (fun j v hj => by
   rw [Addr.add_lit]
   show w.cell? _ = _
   rw [cell_of_row w g _ _ _ _ hg]
   have hjl : j < i * 4 := by rw [← htl]; exact (List.getElem?_eq_some_iff.1 hj).1
   rw [← hxt, List.getElem?_take_of_lt hjl, List.getElem?_drop] at hj
   simpa using hj)
 obtain ⟨z, hz⟩ : ∃ z : Value, z = .agg #[.int .i64 0, .int .i64 0, .int .u8 0, .int .i64 0] := ⟨_, rfl⟩
 have hzc : z.cells.size = 4 := by rw [hz]; rfl
 rw [← hz] at hz0
 have hrz : ∀ ty, (Builtin.append_ #[39, 3] ty #[.slice (some ⟨g, off, none⟩) i n, .int .i64 ((n : Int) + 1 - (i : Int))]).run Tryz.prog w =
   .ok (.slice (some ⟨w.heap.size, 0, none⟩) (n + 1) (grownCap w (n + 1) n 75)) (w.drew.alloc (.cells (xt.toArray ++ Builtin.zeroCells z.cells (n + 1 - i) ++ Builtin.zeroCells z.cells (grownCap w (n + 1) n 75 - (n + 1))) 75)) := fun ty => by
  have h := Lib.run_append_grow_zeros w 39 3 ty 75 i0 _ .i64 .i64 Tryz.underlying39 Tryz.underlying3 hi0 hz0 (some ⟨g, off, none⟩) i n xt hold (n + 1 - i) (by omega) (by omega) (by omega) (by omega) (by rw [hzb]; omega) (by rw [hzb, hik]; exact growslice_fits (by omega) (by omega))
  rw [hik] at h
  rw [hkk]
  exact h
 obtain ⟨G, hG⟩ : ∃ G, grownCap w (n + 1) n 75 = G := ⟨_, rfl⟩
 have hGn : n + 1 ≤ G := by rw [← hG]; exact grownCap_ge w _ _ _
 have hGm : G ≤ maxLen := by rw [← hG]; exact grownCap_le_maxLen w (n + 1) n _ (by unfold maxLen; omega)
 rw [hG] at hrz
 obtain ⟨ROW, hROW⟩ : ∃ ROW : Array Value, xt.toArray ++ Builtin.zeroCells z.cells (n + 1 - i) ++ Builtin.zeroCells z.cells (G - (n + 1)) = ROW := ⟨_, rfl⟩
 rw [hROW] at hrz
 have hRl : ROW.size = G * 4 := by
  rw [← hROW]
  simp [size_zeroCells, hzc, htl]
  omega
 have hRt : ROW.toList.take (i * 4) = xt := by
  rw [← hROW, Array.toList_append, Array.toList_append, List.append_assoc, List.take_left' (by simpa using htl)]
 obtain ⟨W1, hW1⟩ : ∃ W1, w.drew.alloc (.cells ROW 75) = W1 := ⟨_, rfl⟩
 rw [hW1] at hrz
 obtain ⟨N, hN⟩ : ∃ N, w.heap.size = N := ⟨_, rfl⟩
 have hb1 : W1.heap[N]? = some (.cells ROW.toList.toArray 75 (0, 0)) := by
  rw [← hW1, ← hN]; simpa using heap_alloc_new w.drew (.cells ROW 75)
 have hg1 : W1.heap[g]? = some (.cells cur 75 (0, 0)) := by rw [← hW1, Below.heap_alloc w.drew _ _ hgw]; exact hg
 have hv1 : W1.heap[vb]? = some (.cells news.toArray 75 (0, 0)) := by rw [← hW1, Below.heap_alloc w.drew _ _ hvw]; exact hv
 have hcpA : ∀ ty dc, (Builtin.copy_ #[39, 39] ty #[.slice (some ⟨N, i * 4, none⟩) (n + 1 - i) dc, .slice (some ⟨vb, 0, none⟩) 1 vc]).run Tryz.prog W1 = .ok (goInt ((1 : Nat) : Int)) (W1.setCells N (i * 4) news) := fun ty dc =>
  run_copy_sized W1 _ _ ty 75 4 N (i * 4) (n + 1 - i) dc ⟨vb, 0, none⟩ 1 vc news 1 Tryz.underlying39 hsz (by simp only [Nat.min_def]; split <;> omega) (by omega)
   (fun j v hj => by
    rw [Addr.add_lit, cell_of_row W1 vb _ _ _ _ hv1]
    simpa using hj)
   (fun j hj => by rw [cell_of_row W1 N _ _ _ _ hb1]; simp [hRl]; omega) (fun j hj => frozen_of_row W1 N _ _ _ hb1) hone
 obtain ⟨W2, hW2⟩ : ∃ W2, W1.setCells N (i * 4) news = W2 := ⟨_, rfl⟩
 rw [hW2] at hcpA
 have hb2 := heap_setCells_same N 75 news (i * 4) W1 ROW.toList hb1 (by simp [hRl, hnl]; omega)
 rw [hW2] at hb2
 have hg2 : W2.heap[g]? = some (.cells cur 75 (0, 0)) := by rw [← hW2, setCells_other N (by omega)]; exact hg1
 have hcpB : ∀ ty dc sc, (Builtin.copy_ #[39, 39] ty #[.slice (some ⟨N, (i + 1) * 4, none⟩) (n - i) dc, .slice (some ⟨g, off + i * 4, none⟩) (n - i) sc]).run Tryz.prog W2.drew = .ok (goInt ((n - i : Nat) : Int)) (W2.drew.setCells N ((i + 1) * 4) xd) := fun ty dc sc =>
  run_copy_sized W2.drew _ _ ty 75 4 N ((i + 1) * 4) (n - i) dc ⟨g, off + i * 4, none⟩ (n - i) sc xd (n - i) Tryz.underlying39 hsz (by simp only [Nat.min_def]; split <;> omega) hxl
   (fun j v hj => by
    rw [Addr.add_lit]
    show W2.cell? _ = _
    rw [cell_of_row W2 g _ _ _ _ hg2]
    have hjl : j < (n - i) * 4 := by
     rw [← hxl]; exact (List.getElem?_eq_some_iff.1 hj).1
    rw [← hxd, List.getElem?_take_of_lt hjl, List.getElem?_drop] at hj
    simpa using hj)
   (fun j hj => by show (W2.cell? _).isSome = true; rw [cell_of_row W2 N _ _ _ _ hb2]; simp [hRl, hnl]; omega) (fun j hj => frozen_of_row W2 N _ _ _ hb2)
   (fun v hv => honc v (by rw [hxd]; exact hv))
 have HE : Hid (((w.drew.alloc (.cells ROW 75)).setCells w.heap.size (i * 4) news).drew.setCells w.heap.size ((i + 1) * 4) xd = W2.drew.setCells N ((i + 1) * 4) xd) := Hid.mk' (by rw [hW1, hN, hW2])
 have HRt := Hid.mk' hRt
 have HRl := Hid.mk' hRl
 have HGm := Hid.mk' hGm
 rw [hN] at hrz
 have hG63 : G ≤ 9223372036854775807 := hGm
 have hz2 : ¬ ((i : Int) = (n : Int)) := by omega
 have hz3 : (n : Int) < (n : Int) + 1 := by omega
 have hw1 : IntKind.i64.wrap ((i : Int) + 1) = (i : Int) + 1 := by rw [IntKind.wrap_i64]; omega
 have htn : ((i : Int) + 1).toNat = i + 1 := by omega
 have hGi : ¬ (G = i) := by omega
 have hGim : ¬ (G = i + 1) := by omega
 have hci : ¬ (n = i) := by omega
 have hp1 : (0 : Int) ≤ (i : Int) + 1 := by omega
 have hin : i ≤ n := by omega
 have hb3 : (i : Int) ≤ (n : Int) := by omega
 clear hkk hik hold hROW hG hRl hRt hb1 hg1 hv1 hb2 hg2 hg hv hW1 hW2 hGm
 go_enter Tryz.func108, Tryz.ntmps108
 go_wp2_with (first
  | (at_builtin; refine Lib.wpList_append_run _ rfl _ _ _ _ rfl _ _ rfl rfl _ _ (hrz _) ?_)
  | (at_builtin; refine wpList_copy_sized _ rfl _ _ 39 39 rfl _ _ rfl rfl (hcpA _ _) ?_))
 go_region_law (refine step_copy_sized rfl _ _ 39 39 rfl _ _ (by simp [Act.eval, Act.put]) (by simp [Act.eval, Act.put]) (hcpB _ _ _) ?_)
 all_goals
  go_wp2
  go_ret
  refine ⟨G, ROW, hGn, HGm.out, HRl.out, ?_, ?_, ?_⟩
  ·rw [hxt]; exact HRt.out
  ·first | rfl | (rw [hN]; first | rfl | trace_state)
  ·rw [hxd]; exact HE.out.symm
end Go.Proofs.YtbgfannlfagoiaaGreatDoor

namespace Go.Proofs.YtbgfannlfagoiaaGreatDoor
open Go.RowKit Go.Lull
set_option linter.unusedVariables false

/-- What a row holds, once its end has been moved and the new cells laid in the gap. -/
theorem gap_list (c news : List Value) (off a b k : Nat) (hnl : news.length = k) (hfit : off + a + k + b ≤ c.length) (hab : True) :
  let xd := (c.drop (off + a)).take b
  let c1 := c.take (off + a + k) ++ xd ++ c.drop (off + a + k + xd.length)
  ((c1.take (off + a) ++ news ++ c1.drop (off + a + news.length)).drop off).take (a + k + b) = (c.drop off).take a ++ news ++ xd := by
 intro xd c1
 have hxl : xd.length = b := by simp only [xd, List.length_take, List.length_drop]; omega
 have e1 : c1.take (off + a) = c.take off ++ (c.drop off).take a := by
  simp only [c1]
  rw [List.append_assoc, List.take_append_of_le_length (by rw [List.length_take]; omega), List.take_take, Nat.min_eq_left (by omega), List.take_add]
 have e2 : c1.drop (off + a + news.length) = xd ++ c.drop (off + a + k + xd.length) := by
  simp only [c1]
  rw [List.append_assoc, hnl, List.drop_left' (by rw [List.length_take]; omega)]
 rw [e1, e2, List.append_assoc, List.append_assoc, List.drop_left' (by rw [List.length_take]; omega)]
 rw [show (c.drop off).take a ++ (news ++ (xd ++ c.drop (off + a + k + xd.length))) = ((c.drop off).take a ++ news ++ xd) ++ c.drop (off + a + k + xd.length) by simp]
 exact List.take_left' (by simp [hxl, hnl]; omega)

/-- slices.Insert of one event, at any place. -/
theorem insert_ev (w : World) (bv : Value) (n i vb vc : Nat) (xs news : List Value) (hn : n ≤ 60) (hi : i ≤ n) (hrow : Row w 75 4 bv n xs) (hxo : ∀ u ∈ xs, u.oneCell' = true)
  (hv : w.heap[vb]? = some (.cells news.toArray 75 (0, 0))) (hnl : news.length = 4) (hone : ∀ u ∈ news, u.oneCell' = true) (hne : bv.ownBlock ≠ some vb) :
  Calls Tryz.prog 108 #[bv, .int .i64 i, .slice (some ⟨vb, 0, none⟩) 1 vc] w (InsPost w bv n (xs.take (i * 4) ++ news ++ xs.drop (i * 4))) := by
 have hxl := hrow.1
 rcases Nat.eq_or_lt_of_le hi with he | hlt
 ·subst he
  obtain ⟨a, cap, rfl, hc⟩ := hrow.form
  have e1 : xs.take (i * 4) ++ news ++ xs.drop (i * 4) = xs ++ news := by
   rw [List.take_of_length_le (by omega), List.drop_of_length_le (by omega), List.append_nil]
  rw [e1]
  refine ins_end w i cap vb vc a xs news hn hrow ?_
  exact Src.ofSlice _ Tryz.underlying39 _ 1 vc _ (by omega) (fun j u hj => by
   rw [Addr.add_lit, cell_of_row w vb _ _ _ _ hv]
   simpa using hj) hone
 ·obtain ⟨_, h0 | ⟨g, off, cap, cur, rfl, hg, hnc, hcm, hcs, hxs⟩⟩ := hrow
  ·omega
  ·have hgv : vb ≠ g := fun e => hne (by subst e; rfl)
   have hxd : (cur.toList.drop (off + i * 4)).take ((n - i) * 4) = xs.drop (i * 4) := by
    rw [← hxs, List.drop_take, List.drop_drop]
    congr 1
    omega
   have hxt : (cur.toList.drop off).take (i * 4) = xs.take (i * 4) := by
    rw [← hxs, List.take_take, Nat.min_eq_left (by omega)]
   have honc : ∀ u ∈ (cur.toList.drop (off + i * 4)).take ((n - i) * 4), u.oneCell' = true := fun u hu => hxo u (by rw [hxd] at hu; exact List.mem_of_mem_drop hu)
   have hol : (xs.take (i * 4) ++ news ++ xs.drop (i * 4)).length = (n + 1) * 4 := by
    simp [hxl, hnl]; omega
   rcases Nat.lt_or_ge n cap with hroom | hfull
   ·refine (ins_room w g off n cap i vb vc cur news hn hlt hroom hcm hgv hg hcs hv hnl hone honc).mono ?_
    rintro e w' ⟨rfl, rfl⟩
    have h1 := heap_setCells_same g 75 ((cur.toList.drop (off + i * 4)).take ((n - i) * 4)) (off + (i + 1) * 4) w.drew cur.toList (by simpa using (show w.drew.heap[g]? = some (.cells cur 75 (0, 0)) from hg)) (by simp; omega)
    have h2 := heap_setCells_same g 75 news (off + i * 4) _ _ h1 (by simp [hnl]; omega)
    refine ⟨_, rfl, ⟨hol, Or.inr ⟨g, off, cap, _, rfl, h2, by omega, hcm, ?_, ?_⟩⟩, ?_, ?_⟩
    ·simp [hnl]; omega
    ·have hgl := gap_list cur.toList news off (i * 4) ((n - i) * 4) 4 hnl (by simp; omega) trivial
     simp only at hgl
     rw [hxt, hxd, show i * 4 + 4 + (n - i) * 4 = (n + 1) * 4 by omega] at hgl
     rw [← hgl, hxd, show off + (i + 1) * 4 = off + i * 4 + 4 by omega]
    ·exact (((Fr.refl _ _).drew).setCells (Or.inl (by simp [Value.ownBlock])) _ _).setCells (Or.inl (by simp [Value.ownBlock])) _ _
    ·intro b hb; exact Or.inl hb
   ·obtain rfl : cap = n := by omega
    refine (ins_grow w g off cap i vb vc cur news hn hlt hg hcs hv hnl hone honc).mono ?_
    rintro e w' ⟨G, ROW, hG1, hG2, hR1, hR2, rfl, rfl⟩
    have h0 : (w.drew.alloc (.cells ROW 75)).heap[w.heap.size]? = some (.cells ROW.toList.toArray 75 (0, 0)) := by
     simpa using heap_alloc_new w.drew (.cells ROW 75)
    have hRL : ROW.toList.length = G * 4 := by simpa using hR1
    have h1 := heap_setCells_same w.heap.size 75 news (i * 4) _ _ h0 (by rw [hRL, hnl]; omega)
    have hdl : (xs.drop (i * 4)).length = (cap - i) * 4 := by rw [List.length_drop, hxl]; omega
    rw [hxd]
    have h2 := heap_setCells_same w.heap.size 75 (xs.drop (i * 4)) ((i + 1) * 4) ((w.drew.alloc (.cells ROW 75)).setCells w.heap.size (i * 4) news).drew _ h1 (by simp only [List.length_append, List.length_take, List.length_drop, hRL, hnl, hdl]; omega)
    refine ⟨_, rfl, ⟨hol, Or.inr ⟨w.heap.size, 0, G, _, rfl, h2, hG1, hG2, ?_, ?_⟩⟩, ?_, ?_⟩
    ·simp only [List.size_toArray, List.length_append, List.length_take, List.length_drop, hRL, hnl, hdl]; omega
    ·rw [List.drop_zero]
     have e1 : (ROW.toList.take (i * 4) ++ news ++ ROW.toList.drop (i * 4 + news.length)).take ((i + 1) * 4) = xs.take (i * 4) ++ news := by
      rw [hR2, hxt]
      exact List.take_left' (by simp [hxl, hnl]; omega)
     show List.take ((cap + 1) * 4) (_ ++ _ ++ _) = _
     rw [e1]
     exact List.take_left' hol
    ·refine ((((Fr.refl _ _).drew).alloc _).setCells (Or.inr (Nat.le_refl _)) _ _).drew.setCells (Or.inr (Nat.le_refl _)) _ _
    ·intro b hb
     obtain rfl : w.heap.size = b := Option.some.inj hb
     exact Or.inr (Nat.le_refl _)
end Go.Proofs.YtbgfannlfagoiaaGreatDoor

namespace Go.Proofs.YtbgfannlfagoiaaGreatDoor
open Go.RowKit Go.Lull
set_option linter.unusedVariables false

theorem orI_after (x y : Ev) : decide (0 < orI (cmpI x.2.1 y.2.1) (cmpI x.1 y.1)) = after x y := by
 rw [Bool.eq_iff_iff, after_iff, decide_eq_true_iff]
 unfold orI cmpI
 by_cases h1 : x.2.1 < y.2.1
 ·simp [h1]; omega
 ·by_cases h2 : y.2.1 < x.2.1
  ·simp [h1, h2]
  ·have h3 : x.2.1 = y.2.1 := by omega
   by_cases h4 : x.1 < y.1
   ·simp [h3, h4]; omega
   ·by_cases h5 : y.1 < x.1
    ·simp [h3, h4, h5]
    ·simp [h3, h4, h5]
theorem flat_take : ∀ (l : List Ev) (k : Nat), (l.take k).flatMap evC = (l.flatMap evC).take (k * 4) ∧ (l.drop k).flatMap evC = (l.flatMap evC).drop (k * 4)
 | [], k => by simp
 | x :: l, 0 => by simp
 | x :: l, k + 1 => by
  obtain ⟨h1, h2⟩ := flat_take l k
  have hl : (evC x).length = 4 := rfl
  have e : (k + 1) * 4 = (evC x).length + k * 4 := by rw [hl]; omega
  rw [List.take_succ_cons, List.drop_succ_cons, List.flatMap_cons, List.flatMap_cons, e, List.take_length_add_append, List.drop_length_add_append, h1, h2]
  exact ⟨rfl, rfl⟩
theorem put_cells (buf : List Ev) (e : Ev) : (putB buf e).flatMap evC = (buf.flatMap evC).take (placeB buf e * 4) ++ evC e ++ (buf.flatMap evC).drop (placeB buf e * 4) := by
 obtain ⟨h1, h2⟩ := flat_take buf (placeB buf e)
 rw [putB_place, List.flatMap_append, List.flatMap_cons, h1, h2, List.append_assoc]
end Go.Proofs.YtbgfannlfagoiaaGreatDoor
