import Derived.Test.YtbgfannlfagoiaaDoorGn
import Derived.Test.YtbgfannlfagoiaaDoorKit
import Derived.Deep.OwnRows
namespace Go.Proofs.YtbgfannlfagoiaaDoor
open Go.RowKit Go.Lull
set_option linter.unusedVariables false

theorem Tryd.infoInt : (Tryd.prog.info? 3).map (fun i => (i.zero, i.size, i.bytes)) = some (some (.int .i64 0), 1, 8) := by kernel_rfl

/-- An Engine that New made. -/
def newE (n mg : Nat) : CE := ⟨List.replicate n 0, mg, n, .slice none 0 0, [], .slice none 0 0, [], 0, 0, 0⟩

set_option maxHeartbeats 400000 in
theorem new_eg (n : Nat) (w : World) (h0 : 0 < n) (h8 : n ≤ 8) :
    Calls Tryd.prog 33 #[.int .i64 n] w fun e w' => e = .returned (.tuple #[.pointer (some ⟨w.heap.size + 1, 0, none⟩), .int .i64 0]) ∧ Below w.heap.size w w' ∧ EG w' (w.heap.size + 1) (newE n w.heap.size) := by
  have hmk := run_make_row' (P := Tryd.prog) 26 3 (.int .i64 0) 8 Tryd.underlying26 Tryd.infoInt rfl .i64 .i64 n (by omega) (by omega)
  have hn1 : (1 : Int) ≤ (n : Int) := by omega
  have hn8 : (n : Int) ≤ 8 := by omega
  go_enter Tryd.func33, Tryd.ntmps33
  go_wp2
  go_ret2
  refine ⟨rfl, by repeat (first | exact Below.refl _ _ | refine Below.alloc ?_ (by simp; try omega) _ | refine Below.setCell ?_ (by simp; try omega) _ | apply Below.drew), ?_⟩
  refine ⟨?_, ?_, ?_, ?_, ⟨rfl, Or.inl ⟨rfl, rfl⟩⟩, ⟨rfl, Or.inl ⟨rfl, rfl⟩⟩, by simp [newE], ?_, by simp [newE], by simp [newE]⟩
  · have := heap_alloc_at (w.alloc (.cells (madeCells #[Value.int .i64 0] n) 3)) (.cells #[.pointer (some ⟨w.heap.size + 1, 0, none⟩), .slice (some ⟨w.heap.size, 0, none⟩) n n, .slice none 0 0, .slice none 0 0, .int .i64 0, .int .i64 0, .int .i64 0] 43) (w.heap.size + 1) (by simp)
    rw [this]
    simp [eCells, newE]
  · refine ⟨by simp [newE], Or.inr ⟨w.heap.size, n, madeCells #[.int .i64 0] n, by simp [newE], Nat.zero_le _, ?_, by simp [newE], by unfold maxLen; omega, by simp [madeCells], ?_⟩⟩
    · rw [Below.heap_alloc _ _ _ (by simp), heap_alloc_new]
    · apply List.ext_getElem
      · simp [newE, madeCells]
      · intro i h1 h2
        simp [newE, madeCells, Nat.mod_one]
  · simpa [newE] using h0
  · simpa [newE] using h8
  · simp [CE.blocks, CE.base, newE, qsb, Value.ownBlock]
end Go.Proofs.YtbgfannlfagoiaaDoor

namespace Go.Proofs.YtbgfannlfagoiaaDoor
open Go.RowKit Go.Lull
set_option linter.unusedVariables false

def cmpI (x y : Int) : Int := if x < y then -1 else if y < x then 1 else 0
def orI (a b : Int) : Int := if a = 0 then b else a

set_option maxHeartbeats 400000 in
theorem compare_any (x y : Int) (w : World) :
    Calls Tryd.prog 96 #[.int .i64 x, .int .i64 y] w fun e w' => e = .returned (.int .i64 (cmpI x y)) ∧ w' = w := by
  by_cases h1 : x < y
  · have hc : cmpI x y = -1 := by simp [cmpI, h1]
    rw [hc]
    clear hc
    go_enter Tryd.func96, Tryd.ntmps96
    go_wp2
    go_ret
    exact ⟨rfl, rfl⟩
  · by_cases h2 : y < x
    · have hc : cmpI x y = 1 := by simp [cmpI, h1, h2]
      rw [hc]
      clear hc
      go_enter Tryd.func96, Tryd.ntmps96
      go_wp2
      go_ret
      exact ⟨rfl, rfl⟩
    · have hc : cmpI x y = 0 := by simp [cmpI, h1, h2]
      rw [hc]
      clear hc
      go_enter Tryd.func96, Tryd.ntmps96
      go_wp2
      go_ret
      exact ⟨rfl, rfl⟩

set_option maxHeartbeats 400000 in
theorem or_any (a b : Int) (g : Nat) (w : World) (h0 : w.cell? ⟨g, 0, none⟩ = some (.int .i64 a)) (h1 : w.cell? ⟨g, 1, none⟩ = some (.int .i64 b)) :
    Calls Tryd.prog 95 #[.slice (some ⟨g, 0, none⟩) 2 2] w fun e w' => e = .returned (.int .i64 (orI a b)) ∧ w' = w := by
  by_cases ha : a = 0
  · have hc : orI a b = b := by simp [orI, ha]
    rw [hc]
    subst ha
    by_cases hb : b = 0
    · subst hb
      clear hc
      go_enter Tryd.func95, Tryd.ntmps95
      go_wp2
      refine wp_loop_rounds 3 ?_; rw [rounds_succ]
      go_wp2
      rw [rounds_succ]
      go_wp2
      rw [rounds_succ]
      go_wp2
      go_ret
      exact ⟨rfl, rfl⟩
    · have hb2 : ((b : Int) != 0) = true := by simp [hb]
      clear hc
      go_enter Tryd.func95, Tryd.ntmps95
      go_wp2
      refine wp_loop_rounds 3 ?_; rw [rounds_succ]
      go_wp2
      rw [rounds_succ]
      go_wp2
      go_ret
      exact ⟨rfl, rfl⟩
  · have hc : orI a b = a := by simp [orI, ha]
    rw [hc]
    have ha2 : ((a : Int) != 0) = true := by simp [ha]
    clear hc
    go_enter Tryd.func95, Tryd.ntmps95
    go_wp2
    refine wp_loop_rounds 3 ?_; rw [rounds_succ]
    go_wp2
    go_ret
    exact ⟨rfl, rfl⟩

set_option maxRecDepth 8000 in
set_option maxHeartbeats 1000000 in
theorem order_any (x y : Ev) (w : World) :
    Calls Tryd.prog 89 #[.agg #[.int .i64 x.1, .int .i64 x.2.1, .int .u8 x.2.2.1.toNat, .int .i64 x.2.2.2], .agg #[.int .i64 y.1, .int .i64 y.2.1, .int .u8 y.2.2.1.toNat, .int .i64 y.2.2.2]] w fun e w' => e = .returned (.int .i64 (orI (cmpI x.2.1 y.2.1) (cmpI x.1 y.1))) ∧ Below w.heap.size w w' := by
  obtain ⟨xs, xt, xk, xv⟩ := x
  obtain ⟨ys, yt, yk, yv⟩ := y
  simp only
  obtain ⟨a, ha⟩ : ∃ a, cmpI xt yt = a := ⟨_, rfl⟩
  obtain ⟨b, hb⟩ : ∃ b, cmpI xs ys = b := ⟨_, rfl⟩
  have c1 := Hid.mk' (fun W => compare_any xt yt W)
  have c2 := Hid.mk' (fun W => compare_any xs ys W)
  rw [ha] at c1
  rw [hb] at c2
  rw [ha, hb]
  obtain ⟨R, hR⟩ : ∃ R, orI a b = R := ⟨_, rfl⟩
  have c3 : Hid (∀ (W : World) (T : Nat), Calls Tryd.prog 95 #[.slice (some ⟨W.heap.size, 0, none⟩) 2 2] (W.alloc (.cells #[.int .i64 a, .int .i64 b] T)).drew fun e w' => e = .returned (.int .i64 (orI a b)) ∧ w' = (W.alloc (.cells #[.int .i64 a, .int .i64 b] T)).drew) := by
    intro W T
    exact or_any a b _ _ (by show (W.alloc _).cell? _ = _; rw [cell_of_row _ _ 0 _ _ _ (heap_alloc_new _ _)]; rfl) (by show (W.alloc _).cell? _ = _; rw [cell_of_row _ _ 1 _ _ _ (heap_alloc_new _ _)]; rfl)
  rw [hR] at c3 ⊢
  clear ha hb hR
  go_enter Tryd.func89, Tryd.ntmps89
  go_wp2
  have HB : Hid (Below w.heap.size w ((w.alloc (Obj.cells #[.int .i64 xs, .int .i64 xt, .int .u8 xk.toNat, .int .i64 xv] 56)).alloc (Obj.cells #[.int .i64 ys, .int .i64 yt, .int .u8 yk.toNat, .int .i64 yv] 56))) :=
    Hid.mk' (((Below.refl _ _).alloc (Nat.le_refl _) _).alloc (by simp) _)
  have e0 : ((w.alloc (Obj.cells #[.int .i64 xs, .int .i64 xt, .int .u8 xk.toNat, .int .i64 xv] 56)).alloc (Obj.cells #[.int .i64 ys, .int .i64 yt, .int .u8 yk.toNat, .int .i64 yv] 56)).cell? ⟨w.heap.size, 0, none⟩ = some (.int .i64 xs) := by simp [go_sem]
  have e1 : ((w.alloc (Obj.cells #[.int .i64 xs, .int .i64 xt, .int .u8 xk.toNat, .int .i64 xv] 56)).alloc (Obj.cells #[.int .i64 ys, .int .i64 yt, .int .u8 yk.toNat, .int .i64 yv] 56)).cell? ⟨w.heap.size, 1, none⟩ = some (.int .i64 xt) := by simp [go_sem]
  have e2 : ((w.alloc (Obj.cells #[.int .i64 xs, .int .i64 xt, .int .u8 xk.toNat, .int .i64 xv] 56)).alloc (Obj.cells #[.int .i64 ys, .int .i64 yt, .int .u8 yk.toNat, .int .i64 yv] 56)).cell? ⟨w.heap.size + 1, 0, none⟩ = some (.int .i64 ys) := by simp [go_sem]
  have e3 : ((w.alloc (Obj.cells #[.int .i64 xs, .int .i64 xt, .int .u8 xk.toNat, .int .i64 xv] 56)).alloc (Obj.cells #[.int .i64 ys, .int .i64 yt, .int .u8 yk.toNat, .int .i64 yv] 56)).cell? ⟨w.heap.size + 1, 1, none⟩ = some (.int .i64 yt) := by simp [go_sem]
  revert HB e0 e1 e2 e3
  generalize ((w.alloc (Obj.cells #[.int .i64 xs, .int .i64 xt, .int .u8 xk.toNat, .int .i64 xv] 56)).alloc (Obj.cells #[.int .i64 ys, .int .i64 yt, .int .u8 yk.toNat, .int .i64 yv] 56)) = W1
  intro HB e0 e1 e2 e3
  generalize hNN : w.heap.size = NN at e0 e1 e2 e3 ⊢
  go_region_held3 (fun w' => w'.cell? ⟨NN, 0, none⟩ = some (.int .i64 xs) ∧ w'.cell? ⟨NN, 1, none⟩ = some (.int .i64 xt) ∧ w'.cell? ⟨NN + 1, 0, none⟩ = some (.int .i64 ys) ∧ w'.cell? ⟨NN + 1, 1, none⟩ = some (.int .i64 yt))
    (go_keep)
    (first | (go_at_call 96; first | (with_reducible refine (c1.out _).mono ?_; rintro e w2 ⟨rfl, rfl⟩) | (with_reducible refine (c2.out _).mono ?_; rintro e w3 ⟨rfl, rfl⟩)) | (go_at_call 95; with_reducible refine (c3.out _ _).mono ?_; rintro e w4 ⟨rfl, rfl⟩))
  go_wp2
  go_ret
  exact ⟨rfl, (HB.out.alloc HB.out.size _).drew⟩
end Go.Proofs.YtbgfannlfagoiaaDoor

namespace Go.Proofs.YtbgfannlfagoiaaDoor
open Go.RowKit Go.Lull
set_option linter.unusedVariables false

set_option maxHeartbeats 1000000 in
theorem search_any (w : World) (n k0 : Nat) (p : Nat → Bool) (c1 c2 : Value) (hn : n ≤ 60) (hk : k0 ≤ n) (hlo : ∀ k, k < k0 → p k = false) (hhi : ∀ k, k0 ≤ k → k < n → p k = true)
    (hcall : ∀ (W : World) (k : Nat), k < n → Below w.heap.size w W → Calls Tryd.prog 88 #[.int .i64 k, c1, c2] W fun e w' => e = .returned (.bool (p k)) ∧ Below W.heap.size W w') :
    Calls Tryd.prog 87 #[.int .i64 n, .func (.func 88) #[] #[c1, c2]] w fun e w' => e = .returned (.int .i64 k0) ∧ Below w.heap.size w w' := by
  have HC := Hid.mk' hcall
  have HLO := Hid.mk' hlo
  have HHI := Hid.mk' hhi
  clear hcall hlo hhi
  go_enter Tryd.func87, Tryd.ntmps87
  go_wp2
  go_loopw [5, 6] (fun i j wr => ∃ (a b : Nat), i = .int .i64 a ∧ j = .int .i64 b ∧ a ≤ k0 ∧ k0 ≤ b ∧ b ≤ n ∧ Hid (Below w.heap.size w wr)) (fun i j _ => (intOf j).toNat - (intOf i).toNat)
  case atStart => exact ⟨0, n, rfl, rfl, Nat.zero_le _, hk, Nat.le_refl _, Below.refl _ _⟩
  case round =>
    obtain ⟨a, b, rfl, rfl, h1, h2, h3, HB⟩ := hrel
    by_cases hlt : a < b
    · obtain ⟨h, hh⟩ : ∃ h, (a + b) / 2 = h := ⟨_, rfl⟩
      have hi : ((a : Int) + b) / 2 = (h : Int) := by omega
      have hc := Hid.mk' (HC.out wr h (by omega) HB.out)
      cases hp : p h with
      | true =>
        have hge : k0 ≤ h := by
          rcases Nat.lt_or_ge h k0 with hl | hl
          · have := HLO.out h hl; rw [hp] at this; cases this
          · exact hl
        rw [hp] at hc
        clear hp
        go_wp2_with (go_at_call 88; refine hc.out.mono ?_; rintro e w2 ⟨rfl, hb⟩)
        go_roundw
        case rel => exact ⟨a, h, rfl, rfl, h1, hge, by omega, Hid.mk' (Below.trans HB.out (hb.mono HB.out.size))⟩
        case measure => simp only [intOf]; omega
      | false =>
        have hge : h + 1 ≤ k0 := by
          rcases Nat.lt_or_ge h k0 with hl | hl
          · exact hl
          · have := HHI.out h hl (by omega); rw [hp] at this; cases this
        rw [hp] at hc
        clear hp
        go_wp2_with (go_at_call 88; refine hc.out.mono ?_; rintro e w2 ⟨rfl, hb⟩)
        go_roundw
        case rel => exact ⟨h + 1, b, by simp, rfl, hge, h2, h3, Hid.mk' (Below.trans HB.out (hb.mono HB.out.size))⟩
        case measure => simp only [intOf]; omega
    · have hab : a = k0 := by omega
      subst hab
      go_wp2
      go_ret
      exact ⟨rfl, HB.out⟩
end Go.Proofs.YtbgfannlfagoiaaDoor

namespace Go.Proofs.YtbgfannlfagoiaaDoor
open Go.RowKit Go.Lull
set_option linter.unusedVariables false

set_option maxRecDepth 8000 in
set_option maxHeartbeats 1000000 in
/-- The test that Add hands to sort.Search: is the event at k to be released behind the new one? -/
theorem add1_any (w : World) (k c1 c2 eb o g off n cap : Nat) (x y : Ev) (hk : k < n) (hn : n ≤ 60)
    (h1 : w.cell? ⟨c1, 0, none⟩ = some (.pointer (some ⟨eb, o, none⟩))) (h2 : w.cell? ⟨eb, o, none⟩ = some (.slice (some ⟨g, off, none⟩) n cap))
    (x0 : w.cell? ⟨g, off + k * 4, none⟩ = some (.int .i64 x.1)) (x1 : w.cell? ⟨g, off + k * 4 + 1, none⟩ = some (.int .i64 x.2.1)) (x2 : w.cell? ⟨g, off + k * 4 + 2, none⟩ = some (.int .u8 x.2.2.1.toNat)) (x3 : w.cell? ⟨g, off + k * 4 + 3, none⟩ = some (.int .i64 x.2.2.2))
    (y0 : w.cell? ⟨c2, 0, none⟩ = some (.int .i64 y.1)) (y1 : w.cell? ⟨c2, 1, none⟩ = some (.int .i64 y.2.1)) (y2 : w.cell? ⟨c2, 2, none⟩ = some (.int .u8 y.2.2.1.toNat)) (y3 : w.cell? ⟨c2, 3, none⟩ = some (.int .i64 y.2.2.2)) :
    Calls Tryd.prog 88 #[.int .i64 k, .pointer (some ⟨c1, 0, none⟩), .pointer (some ⟨c2, 0, none⟩)] w fun e w' => e = .returned (.bool (decide (0 < orI (cmpI x.2.1 y.2.1) (cmpI x.1 y.1)))) ∧ Below w.heap.size w w' := by
  have HO := Hid.mk' (fun W => order_any x y W)
  obtain ⟨xs, xt, xk, xv⟩ := x
  obtain ⟨ys, yt, yk, yv⟩ := y
  simp only at *
  obtain ⟨R, hR⟩ : ∃ R, orI (cmpI xt yt) (cmpI xs ys) = R := ⟨_, rfl⟩
  rw [hR] at HO ⊢
  clear hR
  go_enter Tryd.func88, Tryd.ntmps88
  go_wp2
  go_region_held3 (fun w' => w'.cell? ⟨c1, 0, none⟩ = some (.pointer (some ⟨eb, o, none⟩)) ∧ w'.cell? ⟨eb, o, none⟩ = some (.slice (some ⟨g, off, none⟩) n cap) ∧ w'.cell? ⟨g, off + k * 4, none⟩ = some (.int .i64 xs) ∧ w'.cell? ⟨g, off + k * 4 + 1, none⟩ = some (.int .i64 xt) ∧ w'.cell? ⟨g, off + k * 4 + 2, none⟩ = some (.int .u8 xk.toNat) ∧ w'.cell? ⟨g, off + k * 4 + 3, none⟩ = some (.int .i64 xv) ∧ w'.cell? ⟨c2, 0, none⟩ = some (.int .i64 ys) ∧ w'.cell? ⟨c2, 1, none⟩ = some (.int .i64 yt) ∧ w'.cell? ⟨c2, 2, none⟩ = some (.int .u8 yk.toNat) ∧ w'.cell? ⟨c2, 3, none⟩ = some (.int .i64 yv))
    (first | (refine ⟨?_, ?_, ?_, ?_, ?_, ?_, ?_, ?_, ?_, ?_⟩ <;> (first | assumption | (apply drew_keep; assumption) | (refine cell_later hb.out ?_; first | assumption | (apply drew_keep; assumption)))) | go_keep)
    (first | (go_at_call 89; with_reducible refine (HO.out _).mono ?_; rintro e w2 ⟨rfl, hb0⟩; have hb := Hid.mk' hb0; clear hb0))
  go_wp2
  go_ret
  exact ⟨rfl, (Below.refl _ _).drew.trans hb.out⟩
end Go.Proofs.YtbgfannlfagoiaaDoor

namespace Go.Proofs.YtbgfannlfagoiaaDoor
open Go.RowKit Go.Lull
set_option linter.unusedVariables false

/-- What slices.Insert of one event leaves. -/
def InsPost (w : World) (bv : Value) (n : Nat) (xs : List Value) : Ending → World → Prop := fun e w' => ∃ bv', e = .returned bv' ∧ Row w' 56 4 bv' (n + 1) xs ∧ Fr bv.ownBlock.toList w w' ∧ (∀ b, bv'.ownBlock = some b → bv.ownBlock = some b ∨ w.heap.size ≤ b)

set_option maxRecDepth 8000 in
set_option maxHeartbeats 1000000 in
/-- At the end: append. -/
theorem ins_end (w : World) (n cap vb vc : Nat) (a : Option Addr) (xs news : List Value) (hn : n ≤ 60) (hrow : Row w 56 4 (.slice a n cap) n xs) (hsrc : Src Tryd.prog 4 30 (.slice (some ⟨vb, 0, none⟩) 1 vc) 1 news w) :
    Calls Tryd.prog 90 #[.slice a n cap, .int .i64 n, .slice (some ⟨vb, 0, none⟩) 1 vc] w (InsPost w (.slice a n cap) n (xs ++ news)) := by
  obtain ⟨i0, hi0, hz0, hz1, hz2⟩ := info_parts Tryd.infoEv
  have hnc : n ≤ cap := by
    obtain ⟨a', cap', h1, h2⟩ := hrow.form
    cases h1; exact h2
  have HR := Hid.mk' hrow
  have HS := Hid.mk' hsrc
  clear hrow hsrc
  by_cases hcn : cap = n
  · subst hcn
    unfold InsPost
    go_enter Tryd.func90, Tryd.ntmps90
    go_wp2_with (at_builtin; refine wpList_append_row (by rfl) _ _ _ (by rfl) i0 _ 32 Tryd.underlying30 hi0 hz0 hz1 hz2 rfl (by rfl) HR.out 1 news (.slice (some ⟨vb, 0, none⟩) 1 vc) (by rfl) HS.out (by omega) (by unfold maxLen; omega) (by omega) ?_; intro g2 off2 cap2 w2 hrow2 hgrow hat)
    go_ret
    exact ⟨_, rfl, hrow2, (Fr.refl _ _).grown hgrow (fun k hk => Or.inl (show k ∈ (Value.slice a cap cap).ownBlock.toList by rw [hk]; simp)), fun b hb => by
      obtain rfl : g2 = b := Option.some.inj hb
      exact hat.imp id (fun h => by omega)⟩
  · unfold InsPost
    go_enter Tryd.func90, Tryd.ntmps90
    go_wp2_with (at_builtin; refine wpList_append_row (by rfl) _ _ _ (by rfl) i0 _ 32 Tryd.underlying30 hi0 hz0 hz1 hz2 rfl (by rfl) HR.out 1 news (.slice (some ⟨vb, 0, none⟩) 1 vc) (by rfl) HS.out (by omega) (by unfold maxLen; omega) (by omega) ?_; intro g2 off2 cap2 w2 hrow2 hgrow hat)
    go_ret
    exact ⟨_, rfl, hrow2, (Fr.refl _ _).grown hgrow (fun k hk => Or.inl (show k ∈ (Value.slice a n cap).ownBlock.toList by rw [hk]; simp)), fun b hb => by
      obtain rfl : g2 = b := Option.some.inj hb
      exact hat.imp id (fun h => by omega)⟩
end Go.Proofs.YtbgfannlfagoiaaDoor
