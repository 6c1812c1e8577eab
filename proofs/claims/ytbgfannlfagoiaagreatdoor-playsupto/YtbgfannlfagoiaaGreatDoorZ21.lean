import Derived.Test.YtbgfannlfagoiaaGreatDoorZ20
import Derived.Test.YtbgfannlfagoiaaGreatDoorZ13
import Derived.Test.YtbgfannlfagoiaaGreatDoorZ11
namespace Go.Proofs.YtbgfannlfagoiaaGreatDoor
open Go.RowKit Go.Lull
set_option linter.unusedVariables false

set_option maxRecDepth 8000 in
set_option maxHeartbeats 4000000 in
theorem show_nil (w : World) (qb : Nat) (c : CQ) (ev : Ev) (hQ : QY w qb c) (hv : c.vr = .slice none 0 0) (hr0 : c.rs = []) (hn : c.fs.length + c.rs.length ≤ 536870912) (ht0 : 0 ≤ ev.2.1) (ht1 : ev.2.1 ≤ 1000000) :
  Calls Tryz.prog 165 #[.pointer (some ⟨qb, 0, none⟩), .agg #[.int .i64 ev.1, .int .i64 ev.2.1, .int .u8 ev.2.2.1.toNat, .int .i64 ev.2.2.2]] w (QPost w qb c (showQ c.abs ev)) := by
 have hqb : qb < w.heap.size := hQ.lt qb (by simp [CQ.blocks, CQ.base])
 have hq3 : w.cell? ⟨qb, 3, none⟩ = some (.slice none 0 0) := by
  rw [cell_of_row w qb 3 _ _ _ hQ.blk, ← hv]; rfl
 obtain ⟨es, et, ek, evv⟩ := ev
 simp only at ht0 ht1 ⊢
 have HQ := Hid.mk' hQ
 obtain ⟨qq, hq2⟩ : ∃ qq, showQ c.abs (es, et, ek, evv) = qq := ⟨_, rfl⟩
 rw [hq2]
 have HQ2 := Hid.mk' hq2
 clear hq2 hQ
 have hcl0 : ∀ (W : World) ty (a : Option Addr) (n : Nat), (Builtin.clear_ #[164] ty #[.slice a 0 n]).run Tryz.prog W = .ok (.tuple #[]) W := fun W ty a n => by
  cases a <;> simp [Builtin.clear_, run_underlying Tryz.underlying164]
 obtain ⟨w1, hw1⟩ : ∃ w1, w.alloc (.cells #[.int .i64 es, .int .i64 et, .int .u8 ek.toNat, .int .i64 evv] 75) = w1 := ⟨_, rfl⟩
 have hQ1 : QY w1 qb c := by rw [← hw1]; exact HQ.out.same (by simp) (fun b hb => Below.heap_alloc _ _ _ (HQ.out.lt b hb))
 have hN : w1.heap[w.heap.size]? = some (.cells (evC (es, et, ek, evv)).toArray 75 (0, 0)) := by rw [← hw1]; exact heap_alloc_new _ _
 have hF1 : Fr (c.blocks qb) w w1 := by rw [← hw1]; exact (Fr.refl _ _).alloc _
 have hq31 : w1.cell? ⟨qb, 3, none⟩ = some (.slice none 0 0) := by
  rw [cell_of_row w1 qb 3 _ _ _ hQ1.blk, ← hv]; rfl
 have fz3 := frozen_of_row w1 qb 3 _ _ hQ1.blk
 obtain ⟨W, hW⟩ : ∃ W, w1.setCell ⟨qb, 3, none⟩ (.slice none 0 0) = W := ⟨_, rfl⟩
 have hsame : ∀ b : Nat, W.heap[b]? = w1.heap[b]? := by
  intro b
  rw [← hW]
  by_cases hb : b = qb
  ·subst hb
   rw [heap_setCell_same w1 b 3 _ _ _ hQ1.blk, hQ1.blk, ← hv]
   rfl
  ·exact Below.heap_setCell _ _ _ _ (by simpa using hb)
 have hWz0 : W.heap.size = w1.heap.size := by rw [← hW]; simp [World.setCell]
 have HQ1 : Hid (QY W qb c) := hQ1.same (by omega) (fun b _ => hsame b)
 have HA1 : Hid (c.abs = shownQ c.abs (es, et, ek, evv)) := by simp [Hid, CQ.abs, shownQ, hr0]
 have HF1 : Hid (Fr (c.blocks qb) w W) := by
  refine hF1.trans ?_
  exact ⟨by rw [← hW]; rfl, by rw [← hW]; rfl, by rw [← hW]; rfl, by omega, fun k _ _ => hsame k⟩
 have HU1 : Hid (∀ b ∈ c.blocks qb, b ∈ c.blocks qb ∨ w.heap.size ≤ b) := fun b hb => Or.inl hb
 have HN1 : Hid (W.heap[w.heap.size]? = some (.cells (evC (es, et, ek, evv)).toArray 75 (0, 0))) := by unfold Hid; rw [hsame]; exact hN
 have HL1 : Hid (c.fs.length + c.rs.length ≤ 1073741824) := by unfold Hid; omega
 have HWW := Hid.mk' hW
 have HW1 := Hid.mk' hw1
 clear hQ1 hN hF1 hsame hWz0 hW hw1
 go_enter Tryz.func165, Tryz.ntmps165
 go_wp2
 rw [HW1.out]
 refine wp_loop_rounds 1 ?_; rw [rounds_succ]
 go_wp2_with (simp only [hcl0])
 rw [HWW.out]
 clear hcl0 hq3 hq31 fz3
 obtain ⟨c1, hc1⟩ : ∃ c1, c1 = c := ⟨_, rfl⟩
 rw [← hc1] at HQ1 HL1
 have HA1' : Hid (c1.abs = shownQ c.abs (es, et, ek, evv)) := by rw [hc1]; exact HA1
 have HU1' : Hid (∀ b ∈ c1.blocks qb, b ∈ c.blocks qb ∨ w.heap.size ≤ b) := by rw [hc1]; exact HU1
 clear HA1 HU1 hc1
 have HA1 := HA1'
 have HU1 := HU1'
 clear HA1' HU1'
 have hok1 := HQ1.out.ok
 have hs1 := hok1.s1
 obtain ⟨x0, str, hst⟩ : ∃ x0 str, c1.st = x0 :: str := by
  cases h : c1.st with
  | nil => rw [h] at hs1; simp at hs1
  | cons a b => exact ⟨a, b, rfl⟩
 have hc0 : W.cell? ⟨c1.pg, 0, none⟩ = some (stepV x0) := by
  have := HQ1.out.stp 0 (by omega)
  simp [hst] at this
  exact this
 have q1 := cell_of_row W qb 1 _ _ _ HQ1.out.blk
 have q2 := cell_of_row W qb 2 _ _ _ HQ1.out.blk
 have e0 := cell_of_row W w.heap.size 0 _ _ _ HN1.out
 have e1 := cell_of_row W w.heap.size 1 _ _ _ HN1.out
 have e2 := cell_of_row W w.heap.size 2 _ _ _ HN1.out
 have e3 := cell_of_row W w.heap.size 3 _ _ _ HN1.out
 simp [qCells, evC] at q1 q2 e0 e1 e2 e3
 have hM := fun W' => matches_grown x0.2 x0.1 (es, et, ek, evv) W'
 have hget : c1.abs.st.getD 0 noStep = x0 := by show c1.st.getD 0 noStep = x0; rw [hst]; rfl
 obtain ⟨T, hT, mT, nT⟩ : ∃ T, stepV x0 = .iface T (.agg #[.int .u8 x0.2.1.toNat, .int .u8 x0.2.2.1.toNat, .int .i64 x0.2.2.2]) ∧
   (∀ (W : World) (a b c : Value), (method 364 T (.agg #[a, b, c]) "Matches").run Tryz.prog W = .ok (177, .agg #[a, b, c]) W) ∧
   (∀ (W : World) (a b c : Value), (nilAhead 364 T (.agg #[a, b, c]) "Matches").run Tryz.prog W = .ok (some false) W) := by
  cases h : x0.1 with
  | true => exact ⟨_, by simp [stepV, h], not_m, not_n⟩
  | false => exact ⟨_, by simp [stepV, h], must_m, must_n⟩
 rw [hT] at hc0
 obtain ⟨xn, xk, xg, xv⟩ := x0
 simp only at hc0 hM
 have hpc1 := hok1.pc
 have hWz : w.heap.size < W.heap.size := lt_of_block HN1.out
 have hqb1 : qb < W.heap.size := HQ1.out.lt qb (by simp [CQ.blocks, CQ.base])
 have hpgl : c1.pg < W.heap.size := HQ1.out.lt c1.pg (by simp [CQ.blocks, CQ.base])
 cases hf : fitsB (xn, xk, xg, xv) (es, et, ek, evv) with
 | false =>
  have hM2 : ∀ W', Calls Tryz.prog 177 #[.agg #[.int .u8 xk.toNat, .int .u8 xg.toNat, .int .i64 xv], .agg #[.int .i64 es, .int .i64 et, .int .u8 ek.toNat, .int .i64 evv]] W' fun e w' => e = .returned (.bool false) ∧ ∃ q os', w' = Go.Sort.grow (W'.drewN q) os' := by
   intro W'
   have := hM W'
   simp only [hf] at this
   exact this.mono (fun e w' ⟨h1, os, h2⟩ => ⟨h1, 0, os, h2⟩)
  have hend : Hid (∀ w2, Below W.heap.size W w2 → QPost w qb c qq (.returned (.tuple #[])) w2) := by
   intro w2 hb
   refine ⟨rfl, c1, HQ1.out.fr (Fr.of_below [] hb) (by simp), ?_, HF1.out.trans (Fr.of_below _ hb), HU1.out⟩
   rw [← HQ2.out]
   show _ = beginQ (shownQ c.abs _) _
   rw [← HA1.out, beginQ_not (by rw [hget]; exact hf)]
  clear hM hf hst hT hget
  have g1 := cell_grown hqb1 q1
  have g2 := cell_grown hpgl hc0
  have g3 := cell_grown hWz e0
  have g4 := cell_grown hWz e1
  have g5 := cell_grown hWz e2
  have g6 := cell_grown hWz e3
  have hs0 : 0 < c1.st.length := hs1
  have hs0' : (0 : Int) < (c1.st.length : Int) := by omega
  refine wp_region_quiet_grown (by kernel_rfl) (by kernel_rfl) ?_
  repeat (quiet_step (first | (go_at_call 177; refine Calls.grown_of (hM2 _))))
  refine wpQuiet_nil ?_
  intro _ hw'
  obtain ⟨⟨nq, osq⟩, hw''⟩ := hw'
  subst hw''
  have hb : Below W.heap.size W (Go.Sort.grow (W.drewN nq) osq) := ⟨rfl, rfl, rfl, (grow_below (W.drewN nq) osq).size, fun k hk => (grow_below (W.drewN nq) osq).block k hk⟩
  clear g1 g2 g3 g4 g5 g6
  obtain ⟨w2, hw2⟩ : ∃ w2, Go.Sort.grow (W.drewN nq) osq = w2 := ⟨_, rfl⟩
  rw [hw2] at hb ⊢
  clear hw2
  go_wp2
  go_end0
  exact hend.out _ hb
 | true =>
  have hM2 : ∀ W', Calls Tryz.prog 177 #[.agg #[.int .u8 xk.toNat, .int .u8 xg.toNat, .int .i64 xv], .agg #[.int .i64 es, .int .i64 et, .int .u8 ek.toNat, .int .i64 evv]] W' fun e w' => e = .returned (.bool true) ∧ ∃ q os', w' = Go.Sort.grow (W'.drewN q) os' := by
   intro W'
   have := hM W'
   simp only [hf] at this
   exact this.mono (fun e w' ⟨h1, os, h2⟩ => ⟨h1, 0, os, h2⟩)
  have hcells : Hid (∀ w2, Below W.heap.size W w2 → w2.cell? ⟨qb, 1, none⟩ = some (.slice (some ⟨c1.pg, 0, none⟩) c1.st.length c1.pc) ∧ w2.cell? ⟨qb, 2, none⟩ = some (.int .i64 c1.wn) ∧ w2.cell? ⟨w.heap.size, 0, none⟩ = some (.int .i64 es) ∧ w2.cell? ⟨w.heap.size, 1, none⟩ = some (.int .i64 et) ∧ w2.cell? ⟨w.heap.size, 2, none⟩ = some (.int .u8 ek.toNat) ∧ w2.cell? ⟨w.heap.size, 3, none⟩ = some (.int .i64 evv)) := by
   intro w2 hb
   exact ⟨(hb.cell (p := ⟨qb, 1, none⟩) hqb1).trans q1, (hb.cell (p := ⟨qb, 2, none⟩) hqb1).trans q2, (hb.cell (p := ⟨w.heap.size, 0, none⟩) hWz).trans e0, (hb.cell (p := ⟨w.heap.size, 1, none⟩) hWz).trans e1, (hb.cell (p := ⟨w.heap.size, 2, none⟩) hWz).trans e2, (hb.cell (p := ⟨w.heap.size, 3, none⟩) hWz).trans e3⟩
  have hbeg : Hid (∀ w2, Calls Tryz.prog 170 #[.agg #[.slice (some ⟨c1.pg, 0, none⟩) c1.st.length c1.pc, .int .i64 c1.wn], .agg #[.int .i64 es, .int .i64 et, .int .u8 ek.toNat, .int .i64 evv]] w2 fun e w' => ∃ g lp lc, e = .returned (.agg #[.int .i64 (et + c1.wn), .slice (some ⟨g, 0, none⟩) 1 1, .slice lp (c1.st.length - 1) lc]) ∧ Below w2.heap.size w2 w' ∧ w2.heap.size ≤ g ∧
    w'.heap[g]? = some (.cells #[.int .i64 es, .int .i64 et, .int .u8 ek.toNat, .int .i64 evv] 75 (0, 0)) ∧ (1 < c1.st.length → lp = some ⟨c1.pg, 1, none⟩ ∧ lc = c1.pc - 1)) :=
   fun w2 => begin_any w2 c1.pg c1.st.length c1.pc c1.wn (es, et, ek, evv) hs1 hok1.s8 hpc1 hok1.w0 hok1.w1 ht0 ht1
  have hadd : Hid (∀ w2 w3 g3 lp lc, Below W.heap.size W w2 → Below w2.heap.size w2 w3 → w2.heap.size ≤ g3 → w3.heap[g3]? = some (.cells #[.int .i64 es, .int .i64 et, .int .u8 ek.toNat, .int .i64 evv] 75 (0, 0)) → (1 < c1.st.length → lp = some ⟨c1.pg, 1, none⟩ ∧ lc = c1.pc - 1) →
    Calls Tryz.prog 169 #[.pointer (some ⟨qb, 0, none⟩), .agg #[.int .i64 (et + c1.wn), .slice (some ⟨g3, 0, none⟩) 1 1, .slice lp (c1.st.length - 1) lc]] w3 (QPost w qb c qq)) := by
   intro w2 w3 g3 lp lc hb2 hb3 hg3 he3 hlp
   have hb23 : Below W.heap.size W w3 := hb2.trans (hb3.mono hb2.size)
   have hQ3 := HQ1.out.fr (Fr.of_below [] hb23) (by simp)
   refine (addQ_any w3 qb g3 c1 (es, et, ek, evv) lp lc hQ3 he3 (fun hm => ?_) hlp HL1.out ht0 ht1).mono ?_
   ·have := HQ1.out.lt g3 hm
    have := hb2.size
    omega
   ·rintro e w' ⟨rfl, c2, hq2, ha2, hf2, hu2⟩
    refine ⟨rfl, c2, hq2, ?_, ?_, fun b hb => ?_⟩
    ·rw [ha2, HA1.out, ← HQ2.out]
     show _ = beginQ (shownQ c.abs _) _
     rw [← HA1.out, beginQ_fits (by rw [hget]; exact hf)]
    ·exact (HF1.out.trans (Fr.of_below _ hb23)).trans' hf2 HU1.out
    ·rcases hu2 b hb with h | rfl | h
     ·exact HU1.out b h
     ·have := hb2.size; omega
     ·have := hb23.size; omega
  clear hM hf hst hT hget
  have g1 := cell_grown hqb1 q1
  have g2 := cell_grown hpgl hc0
  have g3 := cell_grown hWz e0
  have g4 := cell_grown hWz e1
  have g5 := cell_grown hWz e2
  have g6 := cell_grown hWz e3
  have hs0 : 0 < c1.st.length := hs1
  have hs0' : (0 : Int) < (c1.st.length : Int) := by omega
  refine wp_region_quiet_grown (by kernel_rfl) (by kernel_rfl) ?_
  repeat (quiet_step (first | (go_at_call 177; refine Calls.grown_of (hM2 _))))
  refine wpQuiet_nil ?_
  intro _ hw'
  obtain ⟨⟨nq, osq⟩, hw''⟩ := hw'
  subst hw''
  have hb : Below W.heap.size W (Go.Sort.grow (W.drewN nq) osq) := ⟨rfl, rfl, rfl, (grow_below (W.drewN nq) osq).size, fun k hk => (grow_below (W.drewN nq) osq).block k hk⟩
  clear g1 g2 g3 g4 g5 g6
  obtain ⟨w2, hw2⟩ : ∃ w2, Go.Sort.grow (W.drewN nq) osq = w2 := ⟨_, rfl⟩
  rw [hw2] at hb ⊢
  clear hw2
  obtain ⟨k1, k2, k3, k4, k5, k6⟩ := hcells.out w2 hb
  have HB2 := Hid.mk' hb
  clear hb q1 q2 e0 e1 e2 e3 hc0
  go_wp2
  go_region_with (first | (go_at_call 170; refine (hbeg.out _).mono ?_; rintro e w3 ⟨g3, lp, lc, rfl, hb3, hg3, he3, hlp⟩; have HB3 := Hid.mk' hb3; have HE3 := Hid.mk' he3; have HLP := Hid.mk' hlp; clear hb3 he3 hlp) | (go_at_call 169; refine (hadd.out w2 w3 g3 lp lc HB2.out ⟨HB3.out.os, HB3.out.tape, HB3.out.output, HB3.out.size, HB3.out.block⟩ hg3 HE3.out HLP.out).mono ?_; rintro e w4 ⟨rfl, hP2⟩))
  all_goals
   go_wp2
   go_end0
   exact ⟨rfl, hP2⟩

theorem show_any (w : World) (qb : Nat) (c : CQ) (ev : Ev) (hQ : QY w qb c) (hn : c.fs.length + c.rs.length ≤ 536870912) (ht0 : 0 ≤ ev.2.1) (ht1 : ev.2.1 ≤ 1000000) :
  Calls Tryz.prog 165 #[.pointer (some ⟨qb, 0, none⟩), .agg #[.int .i64 ev.1, .int .i64 ev.2.1, .int .u8 ev.2.2.1.toNat, .int .i64 ev.2.2.2]] w (QPost w qb c (showQ c.abs ev)) := by
 rcases hQ.runs.2 with ⟨e, h0⟩ | ⟨g, off, cap, cur, e, _⟩
 ·exact show_nil w qb c ev hQ e (List.eq_nil_of_length_eq_zero h0) hn ht0 ht1
 ·exact show_row w qb g off cap c ev hQ e hn ht0 ht1
end Go.Proofs.YtbgfannlfagoiaaGreatDoor

namespace Go.Proofs.YtbgfannlfagoiaaGreatDoor
open Go.RowKit Go.Lull
set_option linter.unusedVariables false

set_option maxRecDepth 8000 in
set_option maxHeartbeats 1000000 in
theorem delete_run (w : World) (v : Value) (n j : Nat) (xs : List Value) (hrow : Row w 193 3 v n xs) (hj : j ≤ n) (hn : n ≤ 1073741824) (hone : ∀ u ∈ xs, u.oneCell' = true) :
  Calls Tryz.prog 176 #[v, .int .i64 0, .int .i64 j] w fun e w' => ∃ v', e = .returned v' ∧ Row w' 193 3 v' (n - j) (xs.drop (j * 3)) ∧ Fr v.ownBlock.toList w w' ∧ v'.ownBlock = v.ownBlock := by
 by_cases h0 : j = 0
 ·subst h0
  obtain ⟨a, cap, rfl, hnc⟩ := hrow.form
  have HR := Hid.mk' hrow
  clear hrow hone
  go_enter Tryz.func176, Tryz.ntmps176
  go_wp2
  go_ret
  exact ⟨_, rfl, by simpa using HR.out, Fr.refl _ _, rfl⟩
 ·obtain ⟨g, off, cap, cur, rfl, hg, hnc, hcm, hcs, htake⟩ : ∃ g off cap cur, v = .slice (some ⟨g, off, none⟩) n cap ∧ w.heap[g]? = some (.cells cur 193 (0, 0)) ∧ n ≤ cap ∧ cap ≤ maxLen ∧ off + cap * 3 ≤ cur.size ∧ (cur.toList.drop off).take (n * 3) = xs := by
   rcases hrow.2 with ⟨_, h1⟩ | h1
   ·omega
   ·exact h1
  have hxl := hrow.1
  have hcell := fun k (hk : k < n * 3) => hrow.cell k hk
  have hnl : (xs.drop (j * 3)).length = (n - j) * 3 := by rw [List.length_drop, hxl]; omega
  obtain ⟨m, hm⟩ : ∃ m, n - j = m := ⟨_, rfl⟩
  rw [hm] at hnl ⊢
  obtain ⟨news, hnews⟩ : ∃ news, xs.drop (j * 3) = news := ⟨_, rfl⟩
  rw [hnews] at hnl ⊢
  have hsrc : Hid (∀ (p : Addr) (c : Nat), (p = ⟨g, off + j * 3, none⟩ ∨ m = 0) → Src Tryz.prog 3 164 (.slice (some p) m c) m news w.drew) := by
   intro p c hp
   refine Src.ofSlice _ Tryz.underlying164 p m c news hnl ?_ (fun u hu => hone u (by rw [← hnews] at hu; exact List.mem_of_mem_drop hu))
   intro k u hu
   have hk : k < m * 3 := by rw [← hnl]; exact (List.getElem?_eq_some_iff.1 hu).1
   rcases hp with rfl | hp
   ·rw [Go.WideShapes.add_plain]
    have h1 := hcell (j * 3 + k) (by omega)
    rw [← hnews, List.getElem?_drop] at hu
    rw [show off + j * 3 + k = off + (j * 3 + k) by omega]
    show w.cell? _ = _
    rw [h1, hu]
   ·rw [hp] at hk; omega
  have HG : Hid (w.drew.heap[g]? = some (.cells cur 193 (0, 0))) := hg
  obtain ⟨W1, hW1⟩ : ∃ W1, w.drew.setCells g (off + 0 * 3) news = W1 := ⟨_, rfl⟩
  have hW1' : w.drew.setCells g off news = W1 := by rw [← hW1]; simp
  have hg1 := heap_setCells_same g 193 news off w.drew cur.toList (by simpa using HG.out) (by rw [hnl]; simp; omega)
  rw [hW1'] at hg1
  have hcl : ∀ ty c', (Builtin.clear_ #[164] ty #[.slice (some ⟨g, off + m * 3, none⟩) (n - m) c']).run Tryz.prog W1 = .ok (.tuple #[]) (W1.setCells g (off + m * 3) (Builtin.zeroCells #[Value.int .i64 0, .slice none 0 0, .slice none 0 0] (n - m)).toList) := by
   intro ty c'
   exact run_clear_cells (size := 3) 164 ty (.agg #[Value.int .i64 0, .slice none 0 0, .slice none 0 0]) Tryz.underlying164 (by kernel_rfl) (by simp [Value.cells, Value.oneCell']) rfl g (off + m * 3) (n - m) c' _ hg1 (by simp; omega)
  have hzl : (Builtin.zeroCells #[Value.int .i64 0, .slice none 0 0, .slice none 0 0] (n - m)).toList.length = j * 3 := by
   rw [Array.length_toList, size_zeroCells]
   show (n - m) * 3 = _
   omega
  obtain ⟨zs, hzs⟩ : ∃ zs, (Builtin.zeroCells #[Value.int .i64 0, .slice none 0 0, .slice none 0 0] (n - m)).toList = zs := ⟨_, rfl⟩
  rw [hzs] at hzl
  simp only [hzs] at hcl
  have hfin := row_cut (w := w.drew) (zs := zs) HG.out hcs hcm (by omega) hnl (by rw [hzl]; omega)
  rw [hW1'] at hfin
  have hfr : Fr (Value.slice (some ⟨g, off, none⟩) n cap).ownBlock.toList w (W1.setCells g (off + m * 3) zs) := by
   rw [← hW1]
   exact (((Fr.refl _ w).drew).setCells (Or.inl (by simp [Value.ownBlock])) _ _).setCells (Or.inl (by simp [Value.ownBlock])) _ _
  have HFIN := Hid.mk' hfin
  have HFR := Hid.mk' hfr
  have HW1 := Hid.mk' hW1
  have hcs' : Hid (off + cap * 3 ≤ cur.size) := by unfold Hid; omega
  have hjn : ¬ (0 : Int) = (j : Int) := by omega
  have hjb : ((0 : Int) == (j : Int)) = false := by simp; omega
  have hmi : Hid ((n : Int) - j = m) := by unfold Hid; omega
  clear hcell htake hg hrow hnews hone hxl hW1 hW1' hg1 hfin hfr hzl hzs hcs hnl
  obtain ⟨i0, hi0, hz0, hz1, hz2⟩ := info_parts Tryz.infoRn
  have HI := Hid.mk' hi0
  have HI1 := Hid.mk' hz1
  clear hi0 hz0 hz1 hz2
  go_enter Tryz.func176, Tryz.ntmps176
  by_cases hcj : cap = j
  ·obtain rfl : m = 0 := by omega
   have hnj : n = j := by omega
   subst hcj
   subst hnj
   go_wp2
   go_region_law (refine step_append_in (by rfl) _ _ _ (by rfl) i0 Tryz.underlying164 HI.out HI1.out g off 0 _ (by rfl) cur HG.out hcs'.out 0 news (.slice (some ⟨g, off, none⟩) 0 0) (by rfl) (hsrc.out _ _ (Or.inr (by trivial))) (by omega) ?_; rw [HW1.out])
   all_goals
    have hcl2 := hcl
    simp only [Nat.zero_mul, Nat.add_zero, Nat.sub_zero] at hcl2
    go_wp2_with (simp only [hcl2])
    go_ret
    exact ⟨_, rfl, HFIN.out, HFR.out, rfl⟩
  ·go_wp2
   go_region_law (refine step_append_in (by rfl) _ _ _ (by rfl) i0 Tryz.underlying164 HI.out HI1.out g off 0 cap (by rfl) cur HG.out hcs'.out m news (.slice (some ⟨g, off + j * 3, none⟩) m (cap - j)) (by rfl) (hsrc.out _ _ (Or.inl rfl)) (by omega) ?_; rw [HW1.out])
   all_goals
    have hmc : ¬ cap = m := by omega
    go_wp2_with (simp only [hcl])
    go_ret
    exact ⟨_, rfl, HFIN.out, HFR.out, rfl⟩
end Go.Proofs.YtbgfannlfagoiaaGreatDoor

namespace Go.Proofs.YtbgfannlfagoiaaGreatDoor
open Go.RowKit Go.Lull
set_option linter.unusedVariables false

/-- end, in the midst of its runs. -/
structure SE (w0 w : World) (qb : Nat) (c : CQ) (t : Int) (k : Nat) (told : List (Mt × Value)) (vf : Value) : Prop where
 blk : w.heap[qb]? = some (.cells (qCells c c.vr vf) 166 (0, 0))
 stp : ST w c.pg 0 c.st
 runs : Row w 193 3 c.vr c.rs.length (c.rs.flatMap (runC c.pg c.st.length c.pc))
 found : Row w 58 3 vf (c.fs.length + told.length) ((c.fs ++ told).flatMap matC)
 own : OWN w (vf.ownBlock.toList ++ (c.vr.ownBlock.toList ++ [qb, c.pg])) ((c.rs.drop k).map rp ++ (c.fs ++ told).map fp)
 fr : Fr (c.blocks qb) w0 w
 sub : ∀ b, (vf.ownBlock = some b ∨ b ∈ eblk ((c.rs.drop k).map rp ++ (c.fs ++ told).map fp)) → b ∈ c.blocks qb ∨ w0.heap.size ≤ b
 hk : k ≤ c.rs.length
 dls : ∀ x ∈ c.rs.take k, x.1.dl = t
 ato : told.map Prod.fst = (((c.rs.take k).map Prod.fst).filter (lastNot c.st)).map (fun r => ⟨c.num, t, r.tk⟩)
 tle : told.length ≤ k

section
variable {w0 w w1 w' : World} {qb : Nat} {c : CQ} {t : Int} {k : Nat} {told : List (Mt × Value)} {vf : Value}

theorem SE.start (h : QY w qb c) : SE w w qb c t 0 [] c.vf :=
 ⟨h.blk, h.stp, h.runs, by simpa using h.found, by simpa [CQ.base, CQ.evl] using h.own, Fr.refl _ _, fun b hb => Or.inl (by
  rcases hb with hb | hb
  ·exact List.mem_append_left _ (by simp [CQ.base, hb])
  ·exact List.mem_append_right _ (by simpa [CQ.evl] using hb)), Nat.zero_le _, by simp, by simp, Nat.le_refl _⟩

theorem SE.below (h : SE w0 w qb c t k told vf) (hb : Below w.heap.size w w') : SE w0 w' qb c t k told vf := by
 have hs : ∀ b, b < w.heap.size → w'.heap[b]? = w.heap[b]? := fun b hb' => hb.block b hb'
 have hO := h.own
 refine ⟨by rw [hs qb (lt_of_block h.blk)]; exact h.blk, h.stp.same (hs c.pg (hO.lt c.pg (by simp))), h.runs.same (fun b hb' => hs b (h.runs.lt b hb')), h.found.same (fun b hb' => hs b (h.found.lt b hb')), hO.same hb.size (fun b hb' => hs b (hO.elt hb')), h.fr.trans (Fr.of_below _ hb), h.sub, h.hk, h.dls, h.ato, h.tle⟩

theorem filt_step (hk : k < c.rs.length) {b : Bool} (hb : lastNot c.st c.rs[k].1 = b) :
  (((c.rs.take (k + 1)).map Prod.fst).filter (lastNot c.st)).map (fun r => (⟨c.num, t, r.tk⟩ : Mt)) = (((c.rs.take k).map Prod.fst).filter (lastNot c.st)).map (fun r => ⟨c.num, t, r.tk⟩) ++ (if b = true then [⟨c.num, t, c.rs[k].1.tk⟩] else []) := by
 rw [List.take_succ_eq_append_getElem hk, List.map_append, List.filter_append, List.map_append]
 congr 1
 simp only [List.map_cons, List.map_nil, List.filter_cons, List.filter_nil, hb]
 cases b <;> rfl

theorem SE.skip (h : SE w0 w qb c t k told vf) (hk : k < c.rs.length) (hd : c.rs[k].1.dl = t) (hl : lastNot c.st c.rs[k].1 = false) : SE w0 w qb c t (k + 1) told vf := by
 have hp : ((c.rs.drop k).map rp ++ (c.fs ++ told).map fp) = rp c.rs[k] :: ((c.rs.drop (k + 1)).map rp ++ (c.fs ++ told).map fp) := by
  rw [List.drop_eq_getElem_cons hk]; rfl
 refine ⟨h.blk, h.stp, h.runs, h.found, ?_, h.fr, ?_, hk, ?_, ?_, Nat.le_succ_of_le h.tle⟩
 ·have := h.own; rw [hp] at this; exact this.tail
 ·intro b hb
  refine h.sub b (hb.imp id (fun hm => ?_))
  rw [hp, eblk_cons]
  exact List.mem_append_right _ hm
 ·intro x hx
  rw [List.take_succ_eq_append_getElem hk] at hx
  rcases List.mem_append.1 hx with hx | hx
  ·exact h.dls x hx
  ·rw [List.mem_singleton.1 hx]; exact hd
 ·rw [filt_step hk hl, h.ato]; simp

theorem SE.tell {vf' : Value} (h : SE w0 w qb c t k told vf) (hk : k < c.rs.length) (hd : c.rs[k].1.dl = t) (hl : lastNot c.st c.rs[k].1 = true)
  (hb2 : w'.heap[qb]? = some (.cells (qCells c c.vr vf') 166 (0, 0)))
  (hr2 : Row w' 58 3 vf' (c.fs.length + told.length + 1) ((c.fs ++ told).flatMap matC ++ matC (⟨c.num, t, c.rs[k].1.tk⟩, c.rs[k].2))) (hf2 : Fr (qb :: vf.ownBlock.toList) w w') (hv2 : ∀ b, vf'.ownBlock = some b → vf.ownBlock = some b ∨ w.heap.size ≤ b) :
  SE w0 w' qb c t (k + 1) (told ++ [(⟨c.num, t, c.rs[k].1.tk⟩, c.rs[k].2)]) vf' := by
 have hp : ((c.rs.drop k).map rp ++ (c.fs ++ told).map fp) = rp c.rs[k] :: ((c.rs.drop (k + 1)).map rp ++ (c.fs ++ told).map fp) := by
  rw [List.drop_eq_getElem_cons hk]; rfl
 have hperm : ((c.rs.drop k).map rp ++ (c.fs ++ told).map fp).Perm ((c.rs.drop (k + 1)).map rp ++ (c.fs ++ (told ++ [((⟨c.num, t, c.rs[k].1.tk⟩ : Mt), c.rs[k].2)])).map fp) := by
  rw [hp]
  obtain ⟨Z, hZ⟩ : ∃ Z, (c.rs.drop (k + 1)).map rp = Z := ⟨_, rfl⟩
  rw [hZ, ← List.append_assoc c.fs, List.map_append (l₂ := [_]), ← List.append_assoc]
  exact List.perm_append_comm (l₁ := [rp c.rs[k]])
 have hown := h.own.perm hperm
 have hnd := (List.nodup_append.1 h.own.nd).1
 have hpp : (vf.ownBlock.toList ++ (c.vr.ownBlock.toList ++ [qb, c.pg])).Perm ((qb :: vf.ownBlock.toList) ++ (c.vr.ownBlock.toList ++ [c.pg])) := by
  have h1 : (c.vr.ownBlock.toList ++ [qb, c.pg]).Perm (qb :: (c.vr.ownBlock.toList ++ [c.pg])) := List.perm_middle
  exact (List.Perm.append_left _ h1).trans (List.perm_middle.trans (by rw [List.cons_append]))
 have hoth : ∀ b, b ∈ c.vr.ownBlock.toList ++ [c.pg] → w'.heap[b]? = w.heap[b]? := by
  intro b hb
  have h2 := (List.nodup_append.1 (hpp.nodup_iff.1 hnd)).2.2
  exact hf2.block b (h.own.lt b (hpp.mem_iff.2 (List.mem_append_right _ hb))) (fun hm => h2 b hm b hb rfl)
 have hdis : ∀ b ∈ qb :: vf.ownBlock.toList, b ∉ eblk ((c.rs.drop (k + 1)).map rp ++ (c.fs ++ (told ++ [((⟨c.num, t, c.rs[k].1.tk⟩ : Mt), c.rs[k].2)])).map fp) := by
  intro b hb hm
  exact hown.disj (hpp.mem_iff.2 (List.mem_append_left _ hb)) hm
 refine ⟨hb2, h.stp.same (hoth c.pg (by simp)), h.runs.same (fun b hb => hoth b (by simp [hb])), ?_, hown.move (v := vf) (v' := vf') hv2 (fun b hb => hr2.lt b hb) hf2 hdis, ?_, ?_, hk, ?_, ?_, ?_⟩
 ·rw [List.length_append, ← List.append_assoc, List.flatMap_append]
  simpa [Nat.add_assoc] using hr2
 ·refine h.fr.trans' hf2 (fun b hb => ?_)
  rcases List.mem_cons.1 hb with rfl | hb
  ·exact Or.inl (by simp [CQ.blocks, CQ.base])
  ·exact h.sub b (Or.inl (by simpa using hb))
 ·intro b hb
  rcases hb with hb | hb
  ·rcases hv2 b hb with h1 | h1
   ·exact h.sub b (Or.inl h1)
   ·exact Or.inr (Nat.le_trans h.fr.size h1)
  ·exact h.sub b (Or.inr ((eblk_perm hperm).mem_iff.2 hb))
 ·intro x hx
  rw [List.take_succ_eq_append_getElem hk] at hx
  rcases List.mem_append.1 hx with hx | hx
  ·exact h.dls x hx
  ·rw [List.mem_singleton.1 hx]; exact hd
 ·rw [filt_step hk hl, List.map_append, h.ato]; simp
 ·have := h.tle; simp; omega

theorem takeWhile_of {α : Type} (p : α → Bool) : ∀ (l : List α) (k : Nat), (∀ x ∈ l.take k, p x = true) → (∀ (h : k < l.length), p l[k] = false) → l.takeWhile p = l.take k ∧ l.dropWhile p = l.drop k
 | [], k, _, _ => by simp
 | a :: l, 0, _, h => by
  have := h (by simp)
  simp at this
  simp [this]
 | a :: l, k + 1, h1, h2 => by
  have ha : p a = true := h1 a (by simp)
  have := takeWhile_of p l k (fun x hx => h1 x (by simp [hx])) (fun hk => by have := h2 (by simpa using hk); simpa using this)
  simp [ha, this.1, this.2]

/-- The runs of the deadline are over. -/
theorem SE.finish {vr' : Value} (h : SE w0 w qb c t k told vf) (hok : QOk c) (hstop : ∀ (hk : k < c.rs.length), ¬ c.rs[k].1.dl = t) (hf : Fr c.vr.ownBlock.toList w w1) (hr : Row w1 193 3 vr' (c.rs.length - k) ((c.rs.flatMap (runC c.pg c.st.length c.pc)).drop (k * 3))) (hvb : vr'.ownBlock = c.vr.ownBlock) :
  QPost w0 qb c (endQ c.abs t) (.returned (.tuple #[])) (w1.setCell ⟨qb, 3, none⟩ vr') := by
 have hnd := (List.nodup_append.1 h.own.nd).1
 have hpp : (vf.ownBlock.toList ++ (c.vr.ownBlock.toList ++ [qb, c.pg])).Perm (c.vr.ownBlock.toList ++ (vf.ownBlock.toList ++ [qb, c.pg])) := List.perm_append_comm_assoc _ _ _
 have h2 := (List.nodup_append.1 (hpp.nodup_iff.1 hnd)).2.2
 have hoth1 : ∀ b, b ∈ vf.ownBlock.toList ++ [qb, c.pg] → w1.heap[b]? = w.heap[b]? := fun b hb =>
  hf.block b (h.own.lt b (hpp.mem_iff.2 (List.mem_append_right _ hb))) (fun hm => h2 b hm b hb rfl)
 have hqn : ∀ b, b ∈ vf.ownBlock.toList ++ (c.vr.ownBlock.toList ++ [c.pg]) → b ≠ qb := by
  intro b hb e
  subst e
  have hp3 : (vf.ownBlock.toList ++ (c.vr.ownBlock.toList ++ [b, c.pg])).Perm (b :: (vf.ownBlock.toList ++ (c.vr.ownBlock.toList ++ [c.pg]))) := by
   have h1 : (c.vr.ownBlock.toList ++ [b, c.pg]).Perm (b :: (c.vr.ownBlock.toList ++ [c.pg])) := List.perm_middle
   exact (List.Perm.append_left _ h1).trans List.perm_middle
  exact (List.nodup_cons.1 (hp3.nodup_iff.1 hnd)).1 hb
 have hset : ∀ b, b ≠ qb → (w1.setCell ⟨qb, 3, none⟩ vr').heap[b]? = w1.heap[b]? := fun b hb => Below.heap_setCell _ _ _ _ (by simpa using hb)
 have hdisE : ∀ b ∈ c.vr.ownBlock.toList, b ∉ eblk ((c.rs.drop k).map rp ++ (c.fs ++ told).map fp) := fun b hb hm => h.own.disj (hpp.mem_iff.2 (List.mem_append_left _ hb)) hm
 obtain ⟨htw, hdw⟩ := takeWhile_of (fun r : Rn => r.dl == t) (c.rs.map Prod.fst) k (fun x hx => by
  rw [← List.map_take] at hx
  obtain ⟨y, hy, rfl⟩ := List.mem_map.1 hx
  simp [h.dls y hy]) (fun hk => by
   have := hstop (by simpa using hk)
   simp only [List.getElem_map, beq_eq_false_iff_ne, ne_eq]
   exact this)
 refine ⟨rfl, { c with vr := vr', rs := c.rs.drop k, vf := vf, fs := c.fs ++ told }, ⟨?_, ?_, ?_, ?_, ?_, ?_⟩, ?_, ?_, ?_⟩
 ·have hb : w1.heap[qb]? = some (.cells (qCells c c.vr vf) 166 (0, 0)) := by rw [hoth1 qb (by simp)]; exact h.blk
  rw [heap_setCell_same w1 qb 3 _ _ _ hb]
  rfl
 ·exact h.stp.same (by rw [hset c.pg (hqn c.pg (by simp)), hoth1 c.pg (by simp)])
 ·have hdrop : (c.rs.flatMap (runC c.pg c.st.length c.pc)).drop (k * 3) = (c.rs.drop k).flatMap (runC c.pg c.st.length c.pc) := by
   conv => lhs; rw [← List.take_append_drop k c.rs]
   rw [List.flatMap_append, List.drop_left']
   rw [runC_len, List.length_take]
   have := h.hk
   omega
  rw [hdrop] at hr
  have h3 := hr.same (w' := w1.setCell ⟨qb, 3, none⟩ vr') (fun b hb => hset b (hqn b (by rw [hvb] at hb; simp [hb])))
  simpa using h3
 ·have h3 := h.found.same (w' := w1.setCell ⟨qb, 3, none⟩ vr') (fun b hb => by rw [hset b (hqn b (by simp [hb])), hoth1 b (by simp [hb])])
  simpa using h3
 ·have h3 := h.own.fr hf hdisE
  have h4 := h3.same (w' := w1.setCell ⟨qb, 3, none⟩ vr') (by simp [World.setCell]) (fun b hb => hset b (fun e => by subst e; exact h.own.disj (by simp) hb))
  show OWN _ (vf.ownBlock.toList ++ (vr'.ownBlock.toList ++ [qb, c.pg])) _
  rw [hvb]
  exact h4
 ·exact ⟨hok.s1, hok.s8, hok.pc, hok.alt, hok.w0, hok.w1, fun x hx => hok.rok x (List.mem_of_mem_drop hx)⟩
 ·simp only [CQ.abs, endQ]
  rw [htw, hdw, List.map_append, h.ato, List.map_drop, List.map_take]
 ·have h3 : Fr (c.blocks qb) w0 w1 := h.fr.trans' hf (fun b hb => Or.inl (by simp [CQ.blocks, CQ.base]; exact Or.inr (Or.inl (by simpa using hb))))
  exact h3.setCell (Or.inl (by simp [CQ.blocks, CQ.base])) _
 ·intro b hb
  rcases List.mem_append.1 hb with hb | hb
  ·have hb' : b ∈ vf.ownBlock.toList ++ (vr'.ownBlock.toList ++ [qb, c.pg]) := hb
   rw [hvb] at hb'
   rcases List.mem_append.1 hb' with hb | hb
   ·exact h.sub b (Or.inl (by simpa using hb))
   ·exact Or.inl (List.mem_append_left _ (by simp only [CQ.base]; exact List.mem_append_right _ hb))
  ·exact h.sub b (Or.inr hb)
end
end Go.Proofs.YtbgfannlfagoiaaGreatDoor

namespace Go.Proofs.YtbgfannlfagoiaaGreatDoor
open Go.RowKit Go.Lull
set_option linter.unusedVariables false

theorem runC_one {c : CQ} {l : List (Rn × Value)} {w : World} (h : ∀ x ∈ l, ∃ n, EvR w x.2 n) : ∀ u ∈ l.flatMap (runC c.pg c.st.length c.pc), u.oneCell' = true := by
 intro u hu
 obtain ⟨x, hx, hu⟩ := List.mem_flatMap.1 hu
 obtain ⟨n, hn⟩ := h x hx
 obtain ⟨a, cap, e⟩ := own_form hn
 simp [runC] at hu
 rcases hu with rfl | rfl | rfl
 ·rfl
 ·rw [e]; rfl
 ·rfl

set_option maxRecDepth 8000 in
set_option maxHeartbeats 2000000 in
theorem end_any (w : World) (qb : Nat) (c : CQ) (t : Int) (hQ : QY w qb c) (hn : c.fs.length + c.rs.length ≤ 536870912) :
  Calls Tryz.prog 174 #[.pointer (some ⟨qb, 0, none⟩), .int .i64 t] w (QPost w qb c (endQ c.abs t)) := by
 have hok := hQ.ok
 have hone := runC_one (c := c) (l := c.rs) (w := w) (fun x hx => ⟨_, hQ.own.ev (rp x) (by simp only [CQ.evl]; exact List.mem_append_left _ (List.mem_map_of_mem hx))⟩)
 have HS0 : Hid (SE w w qb c t 0 [] c.vf) := SE.start hQ
 obtain ⟨va, vcap, hv, hvc⟩ := hQ.runs.form
 have HOK := Hid.mk' hok
 have HONE := Hid.mk' hone
 clear hQ hok hone
 obtain ⟨qq, hq2⟩ : ∃ qq, endQ c.abs t = qq := ⟨_, rfl⟩
 rw [hq2]
 have HQ2 := Hid.mk' hq2
 clear hq2
 go_enter Tryz.func174, Tryz.ntmps174
 go_wp2
 go_loopw [4] (fun i wr => ∃ (k : Nat) (told : List (Mt × Value)) (vf : Value), i = .int .i64 k ∧ k ≤ c.rs.length ∧ Hid (SE w wr qb c t k told vf)) (fun i _ => c.rs.length - (intOf i).toNat)
 case atStart => exact ⟨0, [], c.vf, rfl, Nat.zero_le _, HS0⟩
 case round =>
  obtain ⟨k, told, vf, rfl, hk, HS⟩ := hrel
  have q3 := cell_of_row wr qb 3 _ _ _ HS.out.blk
  have fz3 := frozen_of_row wr qb 3 _ _ HS.out.blk
  simp [qCells, hv] at q3
  have hqbl := lt_of_block HS.out.blk
  have hdel : Hid ((∀ (hk : k < c.rs.length), ¬ c.rs[k].1.dl = t) → ∀ W : World, (∃ q, W = wr.drewN q) → Calls Tryz.prog 176 #[.slice va c.rs.length vcap, .int .i64 0, .int .i64 k] W fun e w1 => ∃ vr', e = .returned vr' ∧ w1.cell? ⟨qb, 3, none⟩ = some (.slice va c.rs.length vcap) ∧ w1.frozen? ⟨qb, 3, none⟩ = false ∧ Hid (QPost w qb c qq (.returned (.tuple #[])) (w1.setCell ⟨qb, 3, none⟩ vr')) ∧ ∃ a b d, vr' = .slice a b d) := by
   rintro hstop W ⟨q, rfl⟩
   refine (delete_run (wr.drewN q) (.slice va c.rs.length vcap) c.rs.length k _ (by rw [← hv]; exact HS.out.runs) hk (by omega) HONE.out).mono ?_
   rintro e w1 ⟨vr', rfl, h1, h2, h3⟩
   have hnd := (List.nodup_append.1 HS.out.own.nd).1
   have hb1 : w1.heap[qb]? = wr.heap[qb]? := h2.block qb hqbl (fun hm => by
    rw [← hv] at hm
    have h4 := (List.nodup_append.1 (List.nodup_append.1 hnd).2.1).2.2
    exact h4 qb hm qb (by simp) rfl)
   obtain ⟨a, cp, e, _⟩ := h1.form
   refine ⟨vr', rfl, by rw [World.cell?_of_block (a := ⟨qb, 3, none⟩) hb1]; exact q3, by rw [World.frozen?_of_block (a := ⟨qb, 3, none⟩) hb1]; exact fz3, ?_, ⟨a, _, cp, e⟩⟩
   rw [← HQ2.out]
   exact HS.out.finish HOK.out hstop (by rw [hv]; exact ⟨h2.os, h2.tape, h2.output, h2.size, h2.block⟩) h1 (by rw [h3, hv])
  by_cases hlt : k < c.rs.length
  ·obtain ⟨g, off, hva⟩ : ∃ g off, va = some ⟨g, off, none⟩ := by
    rcases HS.out.runs.2 with ⟨e, h0⟩ | ⟨g, off, cap, cur, e, _⟩
    ·omega
    ·rw [hv] at e; cases e; exact ⟨g, off, rfl⟩
   subst hva
   obtain ⟨⟨r, tv⟩, hx⟩ : ∃ x, c.rs[k] = x := ⟨_, rfl⟩
   obtain ⟨dl, tk, rk⟩ := r
   have hrow := HS.out.runs
   rw [hv] at hrow
   have c0 := hrow.cell (k * 3) (by omega)
   have c1 := hrow.cell (k * 3 + 1) (by omega)
   have c2 := hrow.cell (k * 3 + 2) (by omega)
   have g0 := flat3_at (runC c.pg c.st.length c.pc) (fun _ => rfl) c.rs k 0 hlt (by omega)
   have g1 := flat3_at (runC c.pg c.st.length c.pc) (fun _ => rfl) c.rs k 1 hlt (by omega)
   have g2 := flat3_at (runC c.pg c.st.length c.pc) (fun _ => rfl) c.rs k 2 hlt (by omega)
   rw [Nat.add_zero] at g0
   rw [g0, hx] at c0
   rw [g1, hx] at c1
   rw [g2, hx] at c2
   simp only [← Nat.add_assoc] at c0 c1 c2
   simp [runC] at c0 c1 c2
   clear g0 g1 g2 hrow
   by_cases hd : dl = t
   ·subst hd
    have hrok := HOK.out.rok c.rs[k] (List.getElem_mem hlt)
    rw [hx] at hrok
    obtain ⟨hr1, hr2, hr3, hr4, hr5⟩ := hrok
    simp only at hr1 hr2 hr3 hr4 hr5
    have htv : EvR wr tv tk := by
     have := HS.out.own.ev (rp c.rs[k]) (List.mem_append_left _ (List.mem_map_of_mem (by rw [List.drop_eq_getElem_cons hlt]; exact List.mem_cons_self)))
     rw [hx] at this; exact this
    obtain ⟨ta, tc, rfl⟩ := own_form htv
    have hs8 := HOK.out.s8
    have hpc := HOK.out.pc
    have hpg : c.pg < wr.heap.size := HS.out.own.lt c.pg (by simp)
    obtain ⟨bo, hbo⟩ : ∃ bo, Obj.cells #[Value.int .i64 dl, .slice ta tk.length tc, .slice (some ⟨c.pg, rk, none⟩) (c.st.length - rk) (c.pc - rk)] 193 = bo := ⟨_, rfl⟩
    have hat : Hid (∀ R : Int, R = (if lastNot c.st ⟨dl, tk, rk⟩ = true then 2 else 1) → Calls Tryz.prog 175 #[.pointer (some ⟨wr.heap.size, 0, none⟩)] (wr.alloc bo) fun e w' => e = .returned (.int .i64 R) ∧ w' = wr.alloc bo) := by
     intro R hR
     have := atDeadline_any wr.heap.size c.pg rk (c.pc - rk) (c.st.drop rk) (wr.alloc bo) (by simp; omega) (by simp; omega) (by rw [cell_of_row _ _ 2 _ _ _ (by rw [heap_alloc_new, ← hbo])]; simp) ((HS.out.stp.same (Below.heap_alloc _ _ _ hpg)).drop rk)
     rw [hR]
     exact this
    have hSb : Hid (SE w (wr.alloc bo) qb c dl k told vf) := HS.out.below ((Below.refl _ _).alloc (Nat.le_refl _) _)
    cases hl : lastNot c.st ⟨dl, tk, rk⟩ with
    | false =>
     have hat2 : Hid (Calls Tryz.prog 175 #[.pointer (some ⟨wr.heap.size, 0, none⟩)] (wr.alloc bo) fun e w' => e = .returned (.int .i64 1) ∧ w' = wr.alloc bo) := hat.out 1 (by rw [hl]; rfl)
     have hnext : Hid (SE w (wr.alloc bo) qb c dl (k + 1) told vf) := hSb.out.skip hlt (by rw [hx]) (by rw [hx]; exact hl)
     clear hat hl htv hSb HS hdel
     subst hbo
     go_wp2_with (go_at_call 175; refine hat2.out.mono ?_; rintro e w2 ⟨rfl, rfl⟩)
     go_roundw
     case rel => exact ⟨k + 1, told, vf, by go_num, by omega, hnext⟩
     case measure => simp [intOf]; omega
    | true =>
     have hat2 : Hid (Calls Tryz.prog 175 #[.pointer (some ⟨wr.heap.size, 0, none⟩)] (wr.alloc bo) fun e w' => e = .returned (.int .i64 2) ∧ w' = wr.alloc bo) := hat.out 2 (by rw [hl]; rfl)
     have htell : Hid (Calls Tryz.prog 168 #[.pointer (some ⟨qb, 0, none⟩), .agg #[.int .i64 dl, .slice ta tk.length tc, .slice (some ⟨c.pg, rk, none⟩) (c.st.length - rk) (c.pc - rk)], .int .i64 dl] (wr.alloc bo) fun e w3 => e = .returned (.tuple #[]) ∧ ∃ vf', Hid (SE w w3 qb c dl (k + 1) (told ++ [(⟨c.num, dl, tk⟩, .slice ta tk.length tc)]) vf')) := by
      have htl := HS.out.tle
      refine (tell_any (wr.alloc bo) qb (c.fs.length + told.length) c.num dl dl _ _ _ vf _ _ tk.length tc ta _ (by omega) rfl ⟨_, _, _, rfl⟩ hSb.out.blk hSb.out.found).mono ?_
      rintro e w3 ⟨rfl, vf', h1, h2, h3, h4⟩
      refine ⟨rfl, vf', ?_⟩
      have h5 := hSb.out.tell (w' := w3) (vf' := vf') hlt (by rw [hx]) (by rw [hx]; exact hl) h1 (by rw [hx]; exact h2) h3 h4
      rw [hx] at h5
      exact h5
     clear hat hl htv hSb HS hdel
     subst hbo
     go_wp2_with (first | (go_at_call 175; refine hat2.out.mono ?_; rintro e w2 ⟨rfl, rfl⟩) | (go_at_call 168; refine htell.out.mono ?_; rintro e w3 ⟨rfl, vf', HSH⟩))
     go_roundw
     case rel => exact ⟨k + 1, _, vf', by go_num, by omega, HSH⟩
     case measure => simp [intOf]; omega
   ·have hdel2 := Hid.mk' (hdel.out (fun hk => by rw [hx]; exact hd))
    have hdb : ((dl : Int) == t) = false := by simp [hd]
    clear hdel HS
    go_wp2_with (go_at_call 176; refine (hdel2.out _ ⟨0, rfl⟩).mono ?_; rintro e w1 ⟨vr', rfl, k1, k2, hP, a', b', d', rfl⟩)
    go_end0
    exact hP.out
  ·have hdel2 := Hid.mk' (hdel.out (fun hk => absurd hk hlt))
   clear hdel HS
   go_wp2_with (go_at_call 176; refine (hdel2.out _ ⟨0, rfl⟩).mono ?_; rintro e w1 ⟨vr', rfl, k1, k2, hP, a', b', d', rfl⟩)
   go_end0
   exact hP.out
end Go.Proofs.YtbgfannlfagoiaaGreatDoor
