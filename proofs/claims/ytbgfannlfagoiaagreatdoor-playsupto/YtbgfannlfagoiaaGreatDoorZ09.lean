import Derived.Test.YtbgfannlfagoiaaGreatDoorZ07
namespace Go.Proofs.YtbgfannlfagoiaaGreatDoor
open Go.RowKit Go.Lull
set_option linter.unusedVariables false

set_option maxRecDepth 8000 in
set_option maxHeartbeats 4000000 in
theorem path_any (steps : List Stp) (wn mark : Int) (sb sc lb lc i : Nat) (l : List Ev) (w : World) (hs1 : 0 < steps.length) (hs8 : steps.length ≤ 8) (hsc : steps.length ≤ sc) (hi : i < l.length) (hlen : l.length ≤ 1000000) (hlc : l.length ≤ lc) (hw0 : 0 ≤ wn) (hw1 : wn ≤ 1000)
  (ht : ∀ k, k < l.length → 0 ≤ (l.getD k noEv).2.1 ∧ (l.getD k noEv).2.1 ≤ 1000000) (hS : SR w sb steps) (hL : ER w lb l) :
  Calls Tryz.prog 99 #[.agg #[.slice (some ⟨sb, 0, none⟩) steps.length sc, .int .i64 wn], .slice (some ⟨lb, 0, none⟩) l.length lc, .int .i64 i, .int .i64 mark] w (PathPost w (pathB steps wn l i mark)) := by
 have c0 := hL.c0 i hi
 have c1 := hL.c1 i hi
 have c2 := hL.c2 i hi
 have c3 := hL.c3 i hi
 have hti := ht i hi
 have hlb := hL.lt
 have hsb := hS.lt
 have HS := Hid.mk' hS
 have HL := Hid.mk' hL
 have HT := Hid.mk' ht
 clear hS hL ht
 obtain ⟨R, hR⟩ : ∃ R, pathB steps wn l i mark = R := ⟨_, rfl⟩
 rw [hR]
 unfold pathB at hR
 obtain ⟨e0, he0⟩ : ∃ e0, l.getD i noEv = e0 := ⟨_, rfl⟩
 rw [he0] at c0 c1 c2 c3 hti hR
 obtain ⟨G, hG⟩ : ∃ G, goB steps (e0.2.1 + wn) 1 [e0] (l.drop (i + 1)) = G := ⟨_, rfl⟩
 have HR1 : Hid (steps.length = 1 → R = ([e0], e0.2.1, true, true)) := fun h => by rw [← hR, if_pos h]
 have HR2 : Hid (steps.length ≠ 1 → R = fateR steps (e0.2.1 + wn) mark G) := fun h => by rw [← hR, if_neg h, hG]
 have HG := Hid.mk' hG
 clear hR hG he0
 obtain ⟨s0, t0, k0, v0⟩ := e0
 obtain ⟨hti0, hti1⟩ := hti
 simp only at hti0 hti1 c0 c1 c2 c3
 go_enter Tryz.func99, Tryz.ntmps99
 by_cases h1 : steps.length = 1
 ·have hb1 : ((1 : Int) == (steps.length : Int)) = true := by rw [h1]; rfl
  have hRR : R = ([(s0, t0, k0, v0)], t0, true, true) := HR1.out h1
  subst hRR
  clear HR1 HR2 HG h1
  go_wp2
  go_quiet (fail)
  go_wp2
  go_quiet (fail)
  go_wp2
  refine bodyPost_ret (v := .tuple #[.slice (some ⟨w.heap.size + 1, 0, none⟩) 1 1, .int .i64 t0, .bool true, .bool true]) (by simp [results, Tryz.results99, go_sem]) rfl ⟨_, _, rfl, ?_, ?_⟩
  ·exact below_drewN ((below_drewN ((Below.refl _ _).alloc (Nat.le_refl _) _) _).alloc (by simp) _) _
  ·refine ⟨rfl, Or.inr ⟨w.heap.size + 1, 1, #[.int .i64 s0, .int .i64 t0, .int .u8 k0.toNat, .int .i64 v0], rfl, by omega, ?_, Nat.le_refl _, by unfold maxLen; omega, rfl, rfl⟩⟩
   exact heap_alloc_at _ _ _ (by simp)
 ·have hb1 : ((1 : Int) == (steps.length : Int)) = false := by simp; omega
  have HR3 : Hid (R = fateR steps (t0 + wn) mark G) := HR2.out h1
  clear HR1 HR2
  go_wp2
  go_quiet (fail)
  go_wp2
  obtain ⟨N, hN⟩ : ∃ N, w.heap.size = N := ⟨_, rfl⟩
  obtain ⟨w0, hw0⟩ : ∃ w0, ((w.alloc (.cells #[.slice (some ⟨sb, 0, none⟩) steps.length sc, .int .i64 wn] 138)).drewN nq).alloc (.cells #[.int .i64 s0, .int .i64 t0, .int .u8 k0.toNat, .int .i64 v0] 75) = w0 := ⟨_, rfl⟩
  rw [hw0]
  simp only [hN]
  have hz0 : w0.heap.size = N + 2 := by rw [← hw0]; simp [hN]
  have hB0 : Below N w w0 := by
   rw [← hw0, ← hN]
   exact (below_drewN ((Below.refl _ _).alloc (Nat.le_refl _) _) _).alloc (by simp) _
  have hP0 : w0.heap[N]? = some (.cells #[.slice (some ⟨sb, 0, none⟩) steps.length sc, .int .i64 wn] 138 (0, 0)) := by
   rw [← hw0, ← hN, Below.heap_alloc _ _ _ (by simp)]
   exact heap_alloc_new w _
  have hown0 : w0.ownsRow (N + 1) 75 4 (.slice (some ⟨N + 1, 0, none⟩) 1 1) 1 ([(s0, t0, k0, v0)].flatMap evC) := by
   refine ⟨rfl, Or.inr ⟨N + 1, 1, #[.int .i64 s0, .int .i64 t0, .int .u8 k0.toNat, .int .i64 v0], rfl, Nat.le_refl _, ?_, Nat.le_refl _, by unfold maxLen; omega, rfl, rfl⟩⟩
   rw [← hw0, ← hN]
   exact heap_alloc_at _ _ _ (by simp)
  have hlow : Hid (∀ wr, Below (N + 1) w0 wr → Below w.heap.size w wr) := fun wr h => by rw [hN]; exact hB0.trans (h.mono (by omega))
  have hSr : Hid (∀ wr, Below (N + 1) w0 wr → SR wr sb steps ∧ ER wr lb l ∧ wr.cell? ⟨N, 0, none⟩ = some (.slice (some ⟨sb, 0, none⟩) steps.length sc) ∧ N + 1 < wr.heap.size) := fun wr h => by
   have hb : Below N w wr := hB0.trans (h.mono (by omega))
   refine ⟨HS.out.below hb (by omega), HL.out.below hb (by omega), ?_, by have := h.size; omega⟩
   rw [h.cell (p := ⟨N, 0, none⟩) (by simp), cell_of_row w0 N 0 _ _ _ hP0]; rfl
  have HO0 := Hid.mk' hown0
  have HNN : Hid (w.heap.size ≤ N + 1) := Hid.mk' (by omega)
  have hNl : lb < N := by omega
  have hNs : sb < N := by omega
  clear hw0 hz0 hB0 hP0 hown0 c0 c1 c2 c3 HS HL hlb hsb hN
  go_loopw [13, 14, 15] (fun v kk jj wr => ∃ (k j : Nat) (taken : List Ev), 1 ≤ k ∧ k < steps.length ∧ i < j ∧ j ≤ l.length ∧ kk = .int .i64 k ∧ jj = .int .i64 j ∧ taken.length ≤ j ∧ wr.ownsRow (N + 1) 75 4 v taken.length (taken.flatMap evC) ∧ Below (N + 1) w0 wr ∧ Hid (goB steps (t0 + wn) k taken (l.drop j) = G)) (fun _ _ jj _ => l.length - (intOf jj).toNat)
  case atStart => exact ⟨1, i + 1, [(s0, t0, k0, v0)], Nat.le_refl _, by omega, by omega, by omega, rfl, by go_num, by simp, HO0.out, Below.refl _ _, HG.out⟩
  case round =>
   obtain ⟨k, j, taken, hk1, hk2, hij, hjl, rfl, rfl, htl, hown, hB, HE⟩ := hrel
   obtain ⟨hSR, hER, hP, hNz⟩ := hSr.out wr hB
   obtain ⟨x, hx⟩ : ∃ x, steps.getD k noStep = x := ⟨_, rfl⟩
   have d0 := hSR.c0 k hk2
   have d1 := hSR.c1 k hk2
   have d2 := hSR.c2 k hk2
   have d3 := hSR.c3 k hk2
   rw [hx] at d0 d1 d2 d3
   obtain ⟨xn, xk, xg, xv⟩ := x
   have hxe : (steps.getD k noStep).1 = xn := by rw [hx]
   have hlbz := hER.lt
   have hsbz := hSR.lt
   obtain ⟨va, vc, hv⟩ : ∃ va vc, u13 = .slice va taken.length vc := by
    rcases hown.2 with ⟨h, h0⟩ | ⟨g, cp, cur, h, _⟩
    ·exact ⟨_, _, h0 ▸ h⟩
    ·exact ⟨_, _, h⟩
   subst hv
   have HO := Hid.mk' hown
   have HXE := Hid.mk' hxe
   have HX := Hid.mk' hx
   have HSR := Hid.mk' hSR
   have HER := Hid.mk' hER
   clear hown hxe hx hSR hER
   simp only at d0 d1 d2 d3
   by_cases hjlt : j < l.length
   ·obtain ⟨ev, hev⟩ : ∃ ev, l.getD j noEv = ev := ⟨_, rfl⟩
    have f0 := HER.out.c0 j hjlt
    have f1 := HER.out.c1 j hjlt
    have f2 := HER.out.c2 j hjlt
    have f3 := HER.out.c3 j hjlt
    rw [hev] at f0 f1 f2 f3
    obtain ⟨es, et, ek, ev⟩ := ev
    have htj := HT.out j hjlt
    rw [hev] at htj
    obtain ⟨htj0, htj1⟩ := htj
    simp only at f0 f1 f2 f3 htj0 htj1
    have hdrop : l.drop j = (es, et, ek, ev) :: l.drop (j + 1) := by
     rw [List.drop_eq_getElem_cons hjlt]
     congr 1
     rw [← hev, List.getD_eq_getElem?_getD, List.getElem?_eq_getElem hjlt]; rfl
    have HE2 : Hid (goB steps (t0 + wn) k taken ((es, et, ek, ev) :: l.drop (j + 1)) = G) := by rw [← hdrop]; exact HE
    clear hdrop HE
    by_cases hlate : t0 + wn < et
    ·have HGs : Hid (G = .stands k taken) := by unfold Hid; rw [← HE2.out, goB, if_pos hlate]
     clear HE2
     have hxe := HXE.out
     have HRf : Hid (R = (taken, t0 + wn, (k + 1 == steps.length && xn) && decide (t0 + wn < mark), decide (t0 + wn < mark))) := by unfold Hid; rw [HR3.out, HGs.out, fateR, hxe]
     clear HR3 HGs hxe
     by_cases hke : k + 1 = steps.length
     ·have hkb : (((k : Int) + 1) == (steps.length : Int)) = true := by simp; omega
      have hkn : (k + 1 == steps.length) = true := by simp [hke]
      have HKE := Hid.mk' hke
      clear hke
      cases xn with
      | false =>
       by_cases hmk : t0 + wn < mark
       all_goals
        go_wp2
        refine bodyPost_ret (v := .tuple #[.slice va taken.length vc, .int .i64 (t0 + wn), .bool false, .bool (decide (t0 + wn < mark))]) (by simp [results, Tryz.results99, go_sem, hmk]) rfl ?_
        rw [HRf.out, hkn]
        exact ⟨va, vc, by simp [hmk], hlow.out wr hB, own_mono HO.out HNN.out⟩
      | true =>
       by_cases hmk : t0 + wn < mark
       all_goals
        go_wp2
        refine bodyPost_ret (v := .tuple #[.slice va taken.length vc, .int .i64 (t0 + wn), .bool (decide (t0 + wn < mark)), .bool (decide (t0 + wn < mark))]) (by simp [results, Tryz.results99, go_sem, hmk]) rfl ?_
        rw [HRf.out, hkn]
        exact ⟨va, vc, by simp [hmk], hlow.out wr hB, own_mono HO.out HNN.out⟩
     ·have hkb : (((k : Int) + 1) == (steps.length : Int)) = false := by simp; omega
      have hkn : (k + 1 == steps.length) = false := by simp [hke]
      clear hke
      by_cases hmk : t0 + wn < mark
      all_goals
       go_wp2
       refine bodyPost_ret (v := .tuple #[.slice va taken.length vc, .int .i64 (t0 + wn), .bool false, .bool (decide (t0 + wn < mark))]) (by simp [results, Tryz.results99, go_sem, hmk]) rfl ?_
       rw [HRf.out, hkn]
       exact ⟨va, vc, by simp [hmk], hlow.out wr hB, own_mono HO.out HNN.out⟩

    have HE3 : Hid ((match showB steps k taken (es, et, ek, ev) with | .dead => .dead | .done t c => .done t c | .stands k' t' => goB steps (t0 + wn) k' t' (l.drop (j + 1))) = G) := by rw [← HE2.out, goB, if_neg hlate]; exact Hid.mk' rfl
    clear HE2
    have HEV := Hid.mk' hev
    clear hev
    cases xn with
    | true =>
     have hfx : ∀ W, Calls Tryz.prog 98 #[.agg #[.bool true, .int .u8 xk.toNat, .int .u8 xg.toNat, .int .i64 xv], .agg #[.int .i64 es, .int .i64 et, .int .u8 ek.toNat, .int .i64 ev]] W fun e w' => e = .returned (.bool (fitsB (true, xk, xg, xv) (es, et, ek, ev))) ∧ w' = (W.alloc (stepObj (true, xk, xg, xv))).alloc (evObj (es, et, ek, ev)) := fun W => fits_any (true, xk, xg, xv) (es, et, ek, ev) W
     cases hfit : fitsB (true, xk, xg, xv) (es, et, ek, ev) with
     | true =>
      have HE4 : Hid (G = .dead) := by unfold Hid; rw [← HE3.out, show_dead HX.out hfit]
      have hRd : Hid (R = ([], 0, false, true)) := by unfold Hid; rw [HR3.out, HE4.out, fateR]
      rw [hfit] at hfx
      clear HE3 HR3
      go_wp2
      go_region_held3 (fun w' => w'.cell? ⟨N, 0, none⟩ = some (.slice (some ⟨sb, 0, none⟩) steps.length sc) ∧ w'.cell? ⟨sb, k * 4, none⟩ = some (.bool true) ∧ w'.cell? ⟨sb, k * 4 + 1, none⟩ = some (.int .u8 xk.toNat) ∧ w'.cell? ⟨sb, k * 4 + 2, none⟩ = some (.int .u8 xg.toNat) ∧ w'.cell? ⟨sb, k * 4 + 3, none⟩ = some (.int .i64 xv) ∧ w'.cell? ⟨lb, j * 4, none⟩ = some (.int .i64 es) ∧ w'.cell? ⟨lb, j * 4 + 1, none⟩ = some (.int .i64 et) ∧ w'.cell? ⟨lb, j * 4 + 2, none⟩ = some (.int .u8 ek.toNat) ∧ w'.cell? ⟨lb, j * 4 + 3, none⟩ = some (.int .i64 ev))
       (first | (refine ⟨?_, ?_, ?_, ?_, ?_, ?_, ?_, ?_, ?_⟩ <;> (repeat (first | assumption | apply drew_keep | apply alloc_keep))) | go_keep)
       (first | (go_at_call 98; refine (hfx _).mono ?_; rintro e w' ⟨rfl, rfl⟩))
      go_wp2
      refine bodyPost_ret (v := .tuple #[.slice none 0 0, .int .i64 0, .bool false, .bool true]) (by simp [results, Tryz.results99, go_sem]) rfl ?_
      rw [hRd.out]
      exact ⟨none, 0, rfl, hlow.out _ (by repeat (first | exact hB | apply Below.drew | (refine Below.alloc ?_ (by first | omega | (simp; omega)) _))), World.ownsRow_nil _ _ _ _⟩
     | false =>
      rw [hfit] at hfx
      by_cases hke : k + 1 = steps.length
      ·have hkb : (((k : Int) + 1) == (steps.length : Int)) = true := by simp; omega
       have HE4 : Hid (goB steps (t0 + wn) k taken (l.drop (j + 1)) = G) := by unfold Hid; rw [← HE3.out, show_last HX.out hfit hke]
       clear HE3 hke
       go_wp2
       go_region_held3 (fun w' => w'.cell? ⟨N, 0, none⟩ = some (.slice (some ⟨sb, 0, none⟩) steps.length sc) ∧ w'.cell? ⟨sb, k * 4, none⟩ = some (.bool true) ∧ w'.cell? ⟨sb, k * 4 + 1, none⟩ = some (.int .u8 xk.toNat) ∧ w'.cell? ⟨sb, k * 4 + 2, none⟩ = some (.int .u8 xg.toNat) ∧ w'.cell? ⟨sb, k * 4 + 3, none⟩ = some (.int .i64 xv) ∧ w'.cell? ⟨lb, j * 4, none⟩ = some (.int .i64 es) ∧ w'.cell? ⟨lb, j * 4 + 1, none⟩ = some (.int .i64 et) ∧ w'.cell? ⟨lb, j * 4 + 2, none⟩ = some (.int .u8 ek.toNat) ∧ w'.cell? ⟨lb, j * 4 + 3, none⟩ = some (.int .i64 ev))
        (first | (refine ⟨?_, ?_, ?_, ?_, ?_, ?_, ?_, ?_, ?_⟩ <;> (repeat (first | assumption | apply drew_keep | apply alloc_keep))) | go_keep)
        (first | (go_at_call 98; refine (hfx _).mono ?_; rintro e w' ⟨rfl, rfl⟩))
       go_wp2
       go_roundw
       case rel => exact ⟨k, j + 1, taken, by omega, by omega, by omega, by omega, rfl, by go_num, by omega, (by repeat (first | exact HO.out | apply World.ownsRow.drew | apply World.ownsRow.alloc)), (by repeat (first | exact hB | apply Below.drew | (refine Below.alloc ?_ (by first | omega | (simp; omega)) _))), HE4.out⟩
       case measure => simp [intOf]; omega
      ·have hkb : (((k : Int) + 1) == (steps.length : Int)) = false := by simp; omega
       have hk3 : k + 1 < steps.length := by omega
       have hk4 : (0 : Int) ≤ (k : Int) + 1 := by omega
       have hk5 : (k : Int) + 1 < (steps.length : Int) := by omega
       obtain ⟨y, hy⟩ : ∃ y, steps.getD (k + 1) noStep = y := ⟨_, rfl⟩
       have y0 := HSR.out.c0 (k + 1) hk3
       have y1 := HSR.out.c1 (k + 1) hk3
       have y2 := HSR.out.c2 (k + 1) hk3
       have y3 := HSR.out.c3 (k + 1) hk3
       rw [hy] at y0 y1 y2 y3
       obtain ⟨yn, yk, yg, yv⟩ := y
       have HY := Hid.mk' hy
       simp only at y0 y1 y2 y3
       clear hy
       have hfy : ∀ W, Calls Tryz.prog 98 #[.agg #[.bool yn, .int .u8 yk.toNat, .int .u8 yg.toNat, .int .i64 yv], .agg #[.int .i64 es, .int .i64 et, .int .u8 ek.toNat, .int .i64 ev]] W fun e w' => e = .returned (.bool (fitsB (yn, yk, yg, yv) (es, et, ek, ev))) ∧ w' = (W.alloc (stepObj (yn, yk, yg, yv))).alloc (evObj (es, et, ek, ev)) := fun W => fits_any (yn, yk, yg, yv) (es, et, ek, ev) W
       cases hfit2 : fitsB (yn, yk, yg, yv) (es, et, ek, ev) with
       | false =>
        rw [hfit2] at hfy
        have HE4 : Hid (goB steps (t0 + wn) k taken (l.drop (j + 1)) = G) := by unfold Hid; rw [← HE3.out, show_pass HX.out hfit hke HY.out hfit2]
        clear HE3 hke
        go_wp2
        go_region_held3 (fun w' => w'.cell? ⟨N, 0, none⟩ = some (.slice (some ⟨sb, 0, none⟩) steps.length sc) ∧ w'.cell? ⟨sb, k * 4, none⟩ = some (.bool true) ∧ w'.cell? ⟨sb, k * 4 + 1, none⟩ = some (.int .u8 xk.toNat) ∧ w'.cell? ⟨sb, k * 4 + 2, none⟩ = some (.int .u8 xg.toNat) ∧ w'.cell? ⟨sb, k * 4 + 3, none⟩ = some (.int .i64 xv) ∧ w'.cell? ⟨lb, j * 4, none⟩ = some (.int .i64 es) ∧ w'.cell? ⟨lb, j * 4 + 1, none⟩ = some (.int .i64 et) ∧ w'.cell? ⟨lb, j * 4 + 2, none⟩ = some (.int .u8 ek.toNat) ∧ w'.cell? ⟨lb, j * 4 + 3, none⟩ = some (.int .i64 ev))
         (first | (refine ⟨?_, ?_, ?_, ?_, ?_, ?_, ?_, ?_, ?_⟩ <;> (repeat (first | assumption | apply drew_keep | apply alloc_keep))) | go_keep)
         (first | (go_at_call 98; refine (hfx _).mono ?_; rintro e w' ⟨rfl, rfl⟩))
        go_wp2
        go_region_held3 (fun w' => w'.cell? ⟨N, 0, none⟩ = some (.slice (some ⟨sb, 0, none⟩) steps.length sc) ∧ w'.cell? ⟨sb, (k + 1) * 4, none⟩ = some (.bool yn) ∧ w'.cell? ⟨sb, (k + 1) * 4 + 1, none⟩ = some (.int .u8 yk.toNat) ∧ w'.cell? ⟨sb, (k + 1) * 4 + 2, none⟩ = some (.int .u8 yg.toNat) ∧ w'.cell? ⟨sb, (k + 1) * 4 + 3, none⟩ = some (.int .i64 yv) ∧ w'.cell? ⟨lb, j * 4, none⟩ = some (.int .i64 es) ∧ w'.cell? ⟨lb, j * 4 + 1, none⟩ = some (.int .i64 et) ∧ w'.cell? ⟨lb, j * 4 + 2, none⟩ = some (.int .u8 ek.toNat) ∧ w'.cell? ⟨lb, j * 4 + 3, none⟩ = some (.int .i64 ev))
         (first | (refine ⟨?_, ?_, ?_, ?_, ?_, ?_, ?_, ?_, ?_⟩ <;> (repeat (first | assumption | apply drew_keep | apply alloc_keep))) | go_keep)
         (first | (go_at_call 98; refine (hfy _).mono ?_; rintro e w' ⟨rfl, rfl⟩))
        go_wp2
        go_roundw
        case rel => exact ⟨k, j + 1, taken, by omega, by omega, by omega, by omega, rfl, by go_num, by omega, (by repeat (first | exact HO.out | apply World.ownsRow.drew | apply World.ownsRow.alloc)), (by repeat (first | exact hB | apply Below.drew | (refine Below.alloc ?_ (by first | omega | (simp; omega)) _))), HE4.out⟩
        case measure => simp [intOf]; omega
       | true =>
        rw [hfit2] at hfy
        by_cases hke2 : k + 2 = steps.length
        ·have hkb2 : (((k : Int) + 1 + 1) == (steps.length : Int)) = true := by simp; omega
         have HE4 : Hid (G = .done (taken ++ [(es, et, ek, ev)]) et) := by unfold Hid; rw [← HE3.out, show_take HX.out hfit hke HY.out hfit2, if_pos hke2]
         clear HE3 hke hke2
         go_wp2
         go_region_held3 (fun w' => w'.cell? ⟨N, 0, none⟩ = some (.slice (some ⟨sb, 0, none⟩) steps.length sc) ∧ w'.cell? ⟨sb, k * 4, none⟩ = some (.bool true) ∧ w'.cell? ⟨sb, k * 4 + 1, none⟩ = some (.int .u8 xk.toNat) ∧ w'.cell? ⟨sb, k * 4 + 2, none⟩ = some (.int .u8 xg.toNat) ∧ w'.cell? ⟨sb, k * 4 + 3, none⟩ = some (.int .i64 xv) ∧ w'.cell? ⟨lb, j * 4, none⟩ = some (.int .i64 es) ∧ w'.cell? ⟨lb, j * 4 + 1, none⟩ = some (.int .i64 et) ∧ w'.cell? ⟨lb, j * 4 + 2, none⟩ = some (.int .u8 ek.toNat) ∧ w'.cell? ⟨lb, j * 4 + 3, none⟩ = some (.int .i64 ev))
          (first | (refine ⟨?_, ?_, ?_, ?_, ?_, ?_, ?_, ?_, ?_⟩ <;> (repeat (first | assumption | apply drew_keep | apply alloc_keep))) | go_keep)
          (first | (go_at_call 98; refine (hfx _).mono ?_; rintro e w' ⟨rfl, rfl⟩))
         go_wp2
         go_region_held3 (fun w' => w'.cell? ⟨N, 0, none⟩ = some (.slice (some ⟨sb, 0, none⟩) steps.length sc) ∧ w'.cell? ⟨sb, (k + 1) * 4, none⟩ = some (.bool yn) ∧ w'.cell? ⟨sb, (k + 1) * 4 + 1, none⟩ = some (.int .u8 yk.toNat) ∧ w'.cell? ⟨sb, (k + 1) * 4 + 2, none⟩ = some (.int .u8 yg.toNat) ∧ w'.cell? ⟨sb, (k + 1) * 4 + 3, none⟩ = some (.int .i64 yv) ∧ w'.cell? ⟨lb, j * 4, none⟩ = some (.int .i64 es) ∧ w'.cell? ⟨lb, j * 4 + 1, none⟩ = some (.int .i64 et) ∧ w'.cell? ⟨lb, j * 4 + 2, none⟩ = some (.int .u8 ek.toNat) ∧ w'.cell? ⟨lb, j * 4 + 3, none⟩ = some (.int .i64 ev))
          (first | (refine ⟨?_, ?_, ?_, ?_, ?_, ?_, ?_, ?_, ?_⟩ <;> (repeat (first | assumption | apply drew_keep | apply alloc_keep))) | go_keep)
          (first | (go_at_call 98; refine (hfy _).mono ?_; rintro e w' ⟨rfl, rfl⟩))
         go_wp2_with (at_builtin; refine append_ev _ rfl _ _ rfl (N + 1) _ _ _ rfl (by repeat (first | exact HO.out | apply World.ownsRow.drew | apply World.ownsRow.alloc)) _ (evC (es, et, ek, ev)) rfl rfl (evC_at _ (es, et, ek, ev) _ _ (by simp)) (evC_one _) (by omega) (by first | omega | (simp; omega)) ?_)
         intro g2 cap2 w3 hown3 hgrow3
         have hB3 : Below (N + 1) w0 w3 := Below.grown (by repeat (first | exact hB | apply Below.drew | (refine Below.alloc ?_ (by first | omega | (simp; omega)) _))) hgrow3 (by first | omega | (simp; omega)) (own_row HO.out)
         have hown4 : w3.ownsRow (N + 1) 75 4 (.slice (some ⟨g2, 0, none⟩) (taken.length + 1) cap2) (taken.length + 1) ((taken ++ [(es, et, ek, ev)]).flatMap evC) := by simpa [List.flatMap_append] using hown3
         obtain ⟨hS3, hE3, hP3, _⟩ := hSr.out w3 hB3
         have q1 := hE3.c1 j hjlt
         rw [HEV.out] at q1
         simp only at q1
         have hlb3 := hE3.lt
         have HO3 := Hid.mk' hown4
         clear hown3 hgrow3 hown4 hS3 hE3
         have hRd : Hid (R = (taken ++ [(es, et, ek, ev)], et, true, true)) := by unfold Hid; rw [HR3.out, HE4.out, fateR]
         go_wp2
         go_quiet (fail)
         go_wp2
         refine bodyPost_ret (v := .tuple #[.slice (some ⟨g2, 0, none⟩) (taken.length + 1) cap2, .int .i64 et, .bool true, .bool true]) (by simp [results, Tryz.results99, go_sem]) rfl ?_
         rw [hRd.out]
         exact ⟨some ⟨g2, 0, none⟩, cap2, by simp, below_drewN (hlow.out w3 hB3) _, by have h2 := own_drewN (q := nq) (own_mono HO3.out HNN.out); simpa using h2⟩
        ·have hkb2 : (((k : Int) + 1 + 1) == (steps.length : Int)) = false := by simp; omega
         have HE4 : Hid (goB steps (t0 + wn) (k + 2) (taken ++ [(es, et, ek, ev)]) (l.drop (j + 1)) = G) := by unfold Hid; rw [← HE3.out, show_take HX.out hfit hke HY.out hfit2, if_neg hke2]
         clear HE3
         go_wp2
         go_region_held3 (fun w' => w'.cell? ⟨N, 0, none⟩ = some (.slice (some ⟨sb, 0, none⟩) steps.length sc) ∧ w'.cell? ⟨sb, k * 4, none⟩ = some (.bool true) ∧ w'.cell? ⟨sb, k * 4 + 1, none⟩ = some (.int .u8 xk.toNat) ∧ w'.cell? ⟨sb, k * 4 + 2, none⟩ = some (.int .u8 xg.toNat) ∧ w'.cell? ⟨sb, k * 4 + 3, none⟩ = some (.int .i64 xv) ∧ w'.cell? ⟨lb, j * 4, none⟩ = some (.int .i64 es) ∧ w'.cell? ⟨lb, j * 4 + 1, none⟩ = some (.int .i64 et) ∧ w'.cell? ⟨lb, j * 4 + 2, none⟩ = some (.int .u8 ek.toNat) ∧ w'.cell? ⟨lb, j * 4 + 3, none⟩ = some (.int .i64 ev))
          (first | (refine ⟨?_, ?_, ?_, ?_, ?_, ?_, ?_, ?_, ?_⟩ <;> (repeat (first | assumption | apply drew_keep | apply alloc_keep))) | go_keep)
          (first | (go_at_call 98; refine (hfx _).mono ?_; rintro e w' ⟨rfl, rfl⟩))
         go_wp2
         go_region_held3 (fun w' => w'.cell? ⟨N, 0, none⟩ = some (.slice (some ⟨sb, 0, none⟩) steps.length sc) ∧ w'.cell? ⟨sb, (k + 1) * 4, none⟩ = some (.bool yn) ∧ w'.cell? ⟨sb, (k + 1) * 4 + 1, none⟩ = some (.int .u8 yk.toNat) ∧ w'.cell? ⟨sb, (k + 1) * 4 + 2, none⟩ = some (.int .u8 yg.toNat) ∧ w'.cell? ⟨sb, (k + 1) * 4 + 3, none⟩ = some (.int .i64 yv) ∧ w'.cell? ⟨lb, j * 4, none⟩ = some (.int .i64 es) ∧ w'.cell? ⟨lb, j * 4 + 1, none⟩ = some (.int .i64 et) ∧ w'.cell? ⟨lb, j * 4 + 2, none⟩ = some (.int .u8 ek.toNat) ∧ w'.cell? ⟨lb, j * 4 + 3, none⟩ = some (.int .i64 ev))
          (first | (refine ⟨?_, ?_, ?_, ?_, ?_, ?_, ?_, ?_, ?_⟩ <;> (repeat (first | assumption | apply drew_keep | apply alloc_keep))) | go_keep)
          (first | (go_at_call 98; refine (hfy _).mono ?_; rintro e w' ⟨rfl, rfl⟩))
         go_wp2_with (at_builtin; refine append_ev _ rfl _ _ rfl (N + 1) _ _ _ rfl (by repeat (first | exact HO.out | apply World.ownsRow.drew | apply World.ownsRow.alloc)) _ (evC (es, et, ek, ev)) rfl rfl (evC_at _ (es, et, ek, ev) _ _ (by simp)) (evC_one _) (by omega) (by first | omega | (simp; omega)) ?_)
         intro g2 cap2 w3 hown3 hgrow3
         have hB3 : Below (N + 1) w0 w3 := Below.grown (by repeat (first | exact hB | apply Below.drew | (refine Below.alloc ?_ (by first | omega | (simp; omega)) _))) hgrow3 (by first | omega | (simp; omega)) (own_row HO.out)
         have hown4 : w3.ownsRow (N + 1) 75 4 (.slice (some ⟨g2, 0, none⟩) (taken.length + 1) cap2) (taken.length + 1) ((taken ++ [(es, et, ek, ev)]).flatMap evC) := by simpa [List.flatMap_append] using hown3
         obtain ⟨hS3, hE3, hP3, _⟩ := hSr.out w3 hB3
         have q1 := hE3.c1 j hjlt
         rw [HEV.out] at q1
         simp only at q1
         have hlb3 := hE3.lt
         have HO3 := Hid.mk' hown4
         clear hown3 hgrow3 hown4 hS3 hE3
         go_wp2
         go_roundw
         case rel => exact ⟨k + 2, j + 1, taken ++ [(es, et, ek, ev)], by omega, by omega, by omega, by omega, by go_num, by go_num, by simp; omega, by simpa using HO3.out, hB3, HE4.out⟩
         case measure => simp [intOf]; omega
    | false =>
     have hfx : ∀ W, Calls Tryz.prog 98 #[.agg #[.bool false, .int .u8 xk.toNat, .int .u8 xg.toNat, .int .i64 xv], .agg #[.int .i64 es, .int .i64 et, .int .u8 ek.toNat, .int .i64 ev]] W fun e w' => e = .returned (.bool (fitsB (false, xk, xg, xv) (es, et, ek, ev))) ∧ w' = (W.alloc (stepObj (false, xk, xg, xv))).alloc (evObj (es, et, ek, ev)) := fun W => fits_any (false, xk, xg, xv) (es, et, ek, ev) W
     have hkb0 : ((k : Int) == (steps.length : Int)) = false := by simp; omega
     cases hfit : fitsB (false, xk, xg, xv) (es, et, ek, ev) with
     | false =>
      rw [hfit] at hfx
      have HE4 : Hid (goB steps (t0 + wn) k taken (l.drop (j + 1)) = G) := by unfold Hid; rw [← HE3.out, show_miss HX.out hfit (by omega)]
      clear HE3
      go_wp2
      go_region_held3 (fun w' => w'.cell? ⟨N, 0, none⟩ = some (.slice (some ⟨sb, 0, none⟩) steps.length sc) ∧ w'.cell? ⟨sb, k * 4, none⟩ = some (.bool false) ∧ w'.cell? ⟨sb, k * 4 + 1, none⟩ = some (.int .u8 xk.toNat) ∧ w'.cell? ⟨sb, k * 4 + 2, none⟩ = some (.int .u8 xg.toNat) ∧ w'.cell? ⟨sb, k * 4 + 3, none⟩ = some (.int .i64 xv) ∧ w'.cell? ⟨lb, j * 4, none⟩ = some (.int .i64 es) ∧ w'.cell? ⟨lb, j * 4 + 1, none⟩ = some (.int .i64 et) ∧ w'.cell? ⟨lb, j * 4 + 2, none⟩ = some (.int .u8 ek.toNat) ∧ w'.cell? ⟨lb, j * 4 + 3, none⟩ = some (.int .i64 ev))
       (first | (refine ⟨?_, ?_, ?_, ?_, ?_, ?_, ?_, ?_, ?_⟩ <;> (repeat (first | assumption | apply drew_keep | apply alloc_keep))) | go_keep)
       (first | (go_at_call 98; refine (hfx _).mono ?_; rintro e w' ⟨rfl, rfl⟩))
      go_wp2
      go_roundw
      case rel => exact ⟨k, j + 1, taken, by omega, by omega, by omega, by omega, rfl, by go_num, by omega, (by repeat (first | exact HO.out | apply World.ownsRow.drew | apply World.ownsRow.alloc)), (by repeat (first | exact hB | apply Below.drew | (refine Below.alloc ?_ (by first | omega | (simp; omega)) _))), HE4.out⟩
      case measure => simp [intOf]; omega
     | true =>
      rw [hfit] at hfx
      by_cases hke : k + 1 = steps.length
      ·have hkb : (((k : Int) + 1) == (steps.length : Int)) = true := by simp; omega
       have HE4 : Hid (G = .done (taken ++ [(es, et, ek, ev)]) et) := by unfold Hid; rw [← HE3.out, show_hit HX.out hfit (by omega), if_pos hke]
       clear HE3 hke
       go_wp2
       go_region_held3 (fun w' => w'.cell? ⟨N, 0, none⟩ = some (.slice (some ⟨sb, 0, none⟩) steps.length sc) ∧ w'.cell? ⟨sb, k * 4, none⟩ = some (.bool false) ∧ w'.cell? ⟨sb, k * 4 + 1, none⟩ = some (.int .u8 xk.toNat) ∧ w'.cell? ⟨sb, k * 4 + 2, none⟩ = some (.int .u8 xg.toNat) ∧ w'.cell? ⟨sb, k * 4 + 3, none⟩ = some (.int .i64 xv) ∧ w'.cell? ⟨lb, j * 4, none⟩ = some (.int .i64 es) ∧ w'.cell? ⟨lb, j * 4 + 1, none⟩ = some (.int .i64 et) ∧ w'.cell? ⟨lb, j * 4 + 2, none⟩ = some (.int .u8 ek.toNat) ∧ w'.cell? ⟨lb, j * 4 + 3, none⟩ = some (.int .i64 ev))
        (first | (refine ⟨?_, ?_, ?_, ?_, ?_, ?_, ?_, ?_, ?_⟩ <;> (repeat (first | assumption | apply drew_keep | apply alloc_keep))) | go_keep)
        (first | (go_at_call 98; refine (hfx _).mono ?_; rintro e w' ⟨rfl, rfl⟩))
       go_wp2_with (at_builtin; refine append_ev _ rfl _ _ rfl (N + 1) _ _ _ rfl (by repeat (first | exact HO.out | apply World.ownsRow.drew | apply World.ownsRow.alloc)) _ (evC (es, et, ek, ev)) rfl rfl (evC_at _ (es, et, ek, ev) _ _ (by simp)) (evC_one _) (by omega) (by first | omega | (simp; omega)) ?_)
       intro g2 cap2 w3 hown3 hgrow3
       have hB3 : Below (N + 1) w0 w3 := Below.grown (by repeat (first | exact hB | apply Below.drew | (refine Below.alloc ?_ (by first | omega | (simp; omega)) _))) hgrow3 (by first | omega | (simp; omega)) (own_row HO.out)
       have hown4 : w3.ownsRow (N + 1) 75 4 (.slice (some ⟨g2, 0, none⟩) (taken.length + 1) cap2) (taken.length + 1) ((taken ++ [(es, et, ek, ev)]).flatMap evC) := by simpa [List.flatMap_append] using hown3
       obtain ⟨hS3, hE3, hP3, _⟩ := hSr.out w3 hB3
       have q1 := hE3.c1 j hjlt
       rw [HEV.out] at q1
       simp only at q1
       have hlb3 := hE3.lt
       have HO3 := Hid.mk' hown4
       clear hown3 hgrow3 hown4 hS3 hE3
       have hRd : Hid (R = (taken ++ [(es, et, ek, ev)], et, true, true)) := by unfold Hid; rw [HR3.out, HE4.out, fateR]
       go_wp2
       go_quiet (fail)
       go_wp2
       refine bodyPost_ret (v := .tuple #[.slice (some ⟨g2, 0, none⟩) (taken.length + 1) cap2, .int .i64 et, .bool true, .bool true]) (by simp [results, Tryz.results99, go_sem]) rfl ?_
       rw [hRd.out]
       exact ⟨some ⟨g2, 0, none⟩, cap2, by simp, below_drewN (hlow.out w3 hB3) _, by have h2 := own_drewN (q := nq) (own_mono HO3.out HNN.out); simpa using h2⟩
      ·have hkb : (((k : Int) + 1) == (steps.length : Int)) = false := by simp; omega
       have HE4 : Hid (goB steps (t0 + wn) (k + 1) (taken ++ [(es, et, ek, ev)]) (l.drop (j + 1)) = G) := by unfold Hid; rw [← HE3.out, show_hit HX.out hfit (by omega), if_neg hke]
       clear HE3
       go_wp2
       go_region_held3 (fun w' => w'.cell? ⟨N, 0, none⟩ = some (.slice (some ⟨sb, 0, none⟩) steps.length sc) ∧ w'.cell? ⟨sb, k * 4, none⟩ = some (.bool false) ∧ w'.cell? ⟨sb, k * 4 + 1, none⟩ = some (.int .u8 xk.toNat) ∧ w'.cell? ⟨sb, k * 4 + 2, none⟩ = some (.int .u8 xg.toNat) ∧ w'.cell? ⟨sb, k * 4 + 3, none⟩ = some (.int .i64 xv) ∧ w'.cell? ⟨lb, j * 4, none⟩ = some (.int .i64 es) ∧ w'.cell? ⟨lb, j * 4 + 1, none⟩ = some (.int .i64 et) ∧ w'.cell? ⟨lb, j * 4 + 2, none⟩ = some (.int .u8 ek.toNat) ∧ w'.cell? ⟨lb, j * 4 + 3, none⟩ = some (.int .i64 ev))
        (first | (refine ⟨?_, ?_, ?_, ?_, ?_, ?_, ?_, ?_, ?_⟩ <;> (repeat (first | assumption | apply drew_keep | apply alloc_keep))) | go_keep)
        (first | (go_at_call 98; refine (hfx _).mono ?_; rintro e w' ⟨rfl, rfl⟩))
       go_wp2_with (at_builtin; refine append_ev _ rfl _ _ rfl (N + 1) _ _ _ rfl (by repeat (first | exact HO.out | apply World.ownsRow.drew | apply World.ownsRow.alloc)) _ (evC (es, et, ek, ev)) rfl rfl (evC_at _ (es, et, ek, ev) _ _ (by simp)) (evC_one _) (by omega) (by first | omega | (simp; omega)) ?_)
       intro g2 cap2 w3 hown3 hgrow3
       have hB3 : Below (N + 1) w0 w3 := Below.grown (by repeat (first | exact hB | apply Below.drew | (refine Below.alloc ?_ (by first | omega | (simp; omega)) _))) hgrow3 (by first | omega | (simp; omega)) (own_row HO.out)
       have hown4 : w3.ownsRow (N + 1) 75 4 (.slice (some ⟨g2, 0, none⟩) (taken.length + 1) cap2) (taken.length + 1) ((taken ++ [(es, et, ek, ev)]).flatMap evC) := by simpa [List.flatMap_append] using hown3
       obtain ⟨hS3, hE3, hP3, _⟩ := hSr.out w3 hB3
       have q1 := hE3.c1 j hjlt
       rw [HEV.out] at q1
       simp only at q1
       have hlb3 := hE3.lt
       have HO3 := Hid.mk' hown4
       clear hown3 hgrow3 hown4 hS3 hE3
       go_wp2
       go_roundw
       case rel => exact ⟨k + 1, j + 1, taken ++ [(es, et, ek, ev)], by omega, by omega, by omega, by omega, by go_num, by go_num, by simp; omega, by simpa using HO3.out, hB3, HE4.out⟩
       case measure => simp [intOf]; omega
   ·have HGs : Hid (G = .stands k taken) := by unfold Hid; rw [← HE.out, List.drop_of_length_le (by omega)]; rfl
    clear HE
    have hxe := HXE.out
    have HRf : Hid (R = (taken, t0 + wn, (k + 1 == steps.length && xn) && decide (t0 + wn < mark), decide (t0 + wn < mark))) := by unfold Hid; rw [HR3.out, HGs.out, fateR, hxe]
    clear HR3 HGs hxe
    by_cases hke : k + 1 = steps.length
    ·have hkb : (((k : Int) + 1) == (steps.length : Int)) = true := by simp; omega
     have hkn : (k + 1 == steps.length) = true := by simp [hke]
     have HKE := Hid.mk' hke
     clear hke
     cases xn with
     | false =>
      by_cases hmk : t0 + wn < mark
      all_goals
       go_wp2
       refine bodyPost_ret (v := .tuple #[.slice va taken.length vc, .int .i64 (t0 + wn), .bool false, .bool (decide (t0 + wn < mark))]) (by simp [results, Tryz.results99, go_sem, hmk]) rfl ?_
       rw [HRf.out, hkn]
       exact ⟨va, vc, by simp [hmk], hlow.out wr hB, own_mono HO.out HNN.out⟩
     | true =>
      by_cases hmk : t0 + wn < mark
      all_goals
       go_wp2
       refine bodyPost_ret (v := .tuple #[.slice va taken.length vc, .int .i64 (t0 + wn), .bool (decide (t0 + wn < mark)), .bool (decide (t0 + wn < mark))]) (by simp [results, Tryz.results99, go_sem, hmk]) rfl ?_
       rw [HRf.out, hkn]
       exact ⟨va, vc, by simp [hmk], hlow.out wr hB, own_mono HO.out HNN.out⟩
    ·have hkb : (((k : Int) + 1) == (steps.length : Int)) = false := by simp; omega
     have hkn : (k + 1 == steps.length) = false := by simp [hke]
     clear hke
     by_cases hmk : t0 + wn < mark
     all_goals
      go_wp2
      refine bodyPost_ret (v := .tuple #[.slice va taken.length vc, .int .i64 (t0 + wn), .bool false, .bool (decide (t0 + wn < mark))]) (by simp [results, Tryz.results99, go_sem, hmk]) rfl ?_
      rw [HRf.out, hkn]
      exact ⟨va, vc, by simp [hmk], hlow.out wr hB, own_mono HO.out HNN.out⟩

end Go.Proofs.YtbgfannlfagoiaaGreatDoor
