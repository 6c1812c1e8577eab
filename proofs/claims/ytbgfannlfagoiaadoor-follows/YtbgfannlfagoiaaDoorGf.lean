import Derived.Test.YtbgfannlfagoiaaDoorGe
namespace Go.Proofs.YtbgfannlfagoiaaDoor
open Go.RowKit Go.Lull
set_option linter.unusedVariables false

set_option maxRecDepth 8000 in
set_option maxHeartbeats 4000000 in
theorem show_nil (w : World) (qb : Nat) (c : CQ) (ev : Ev) (hQ : QY w qb c) (hv : c.vr = .slice none 0 0) (hr0 : c.rs = []) (hn : c.fs.length + c.rs.length ≤ 536870912) (ht0 : 0 ≤ ev.2.1) (ht1 : ev.2.1 ≤ 1000000) :
    Calls Tryd.prog 145 #[.pointer (some ⟨qb, 0, none⟩), .agg #[.int .i64 ev.1, .int .i64 ev.2.1, .int .u8 ev.2.2.1.toNat, .int .i64 ev.2.2.2]] w (QPost w qb c (showQ c.abs ev)) := by
  have hqb : qb < w.heap.size := hQ.lt qb (by simp [CQ.blocks, CQ.base])
  have hq3 : w.cell? ⟨qb, 3, none⟩ = some (.slice none 0 0) := by
    rw [cell_of_row w qb 3 _ _ _ hQ.blk, ← hv]; rfl
  obtain ⟨es, et, ek, evv⟩ := ev
  simp only at ht0 ht1 ⊢
  have HQ := Hid.mk' hQ
  obtain ⟨qq, hq2⟩ : ∃ qq, showQ c.abs (es, et, ek, evv) = qq := ⟨_, rfl⟩
  rw [hq2]
  have HQ2 := Hid.mk' hq2
  clear hq2 hQ
  have hcl0 : ∀ (W : World) ty (a : Option Addr) (n : Nat), (Builtin.clear_ #[141] ty #[.slice a 0 n]).run Tryd.prog W = .ok (.tuple #[]) W := fun W ty a n => by
    cases a <;> simp [Builtin.clear_, run_underlying Tryd.underlying141]
  obtain ⟨w1, hw1⟩ : ∃ w1, w.alloc (.cells #[.int .i64 es, .int .i64 et, .int .u8 ek.toNat, .int .i64 evv] 56) = w1 := ⟨_, rfl⟩
  have hQ1 : QY w1 qb c := by rw [← hw1]; exact HQ.out.same (by simp) (fun b hb => Below.heap_alloc _ _ _ (HQ.out.lt b hb))
  have hN : w1.heap[w.heap.size]? = some (.cells (evC (es, et, ek, evv)).toArray 56 (0, 0)) := by rw [← hw1]; exact heap_alloc_new _ _
  have hF1 : Fr (c.blocks qb) w w1 := by rw [← hw1]; exact (Fr.refl _ _).alloc _
  have hq31 : w1.cell? ⟨qb, 3, none⟩ = some (.slice none 0 0) := by
    rw [cell_of_row w1 qb 3 _ _ _ hQ1.blk, ← hv]; rfl
  have fz3 := frozen_of_row w1 qb 3 _ _ hQ1.blk
  obtain ⟨W, hW⟩ : ∃ W, w1.setCell ⟨qb, 3, none⟩ (.slice none 0 0) = W := ⟨_, rfl⟩
  have hsame : ∀ b : Nat, W.heap[b]? = w1.heap[b]? := by
    intro b
    rw [← hW]
    by_cases hb : b = qb
    · subst hb
      rw [heap_setCell_same w1 b 3 _ _ _ hQ1.blk, hQ1.blk, ← hv]
      rfl
    · exact Below.heap_setCell _ _ _ _ (by simpa using hb)
  have hWz0 : W.heap.size = w1.heap.size := by rw [← hW]; simp [World.setCell]
  have HQ1 : Hid (QY W qb c) := hQ1.same (by omega) (fun b _ => hsame b)
  have HA1 : Hid (c.abs = shownQ c.abs (es, et, ek, evv)) := by simp [Hid, CQ.abs, shownQ, hr0]
  have HF1 : Hid (Fr (c.blocks qb) w W) := by
    refine hF1.trans ?_
    exact ⟨by rw [← hW]; rfl, by rw [← hW]; rfl, by rw [← hW]; rfl, by omega, fun k _ _ => hsame k⟩
  have HU1 : Hid (∀ b ∈ c.blocks qb, b ∈ c.blocks qb ∨ w.heap.size ≤ b) := fun b hb => Or.inl hb
  have HN1 : Hid (W.heap[w.heap.size]? = some (.cells (evC (es, et, ek, evv)).toArray 56 (0, 0))) := by unfold Hid; rw [hsame]; exact hN
  have HL1 : Hid (c.fs.length + c.rs.length ≤ 1073741824) := by unfold Hid; omega
  have HWW := Hid.mk' hW
  have HW1 := Hid.mk' hw1
  clear hQ1 hN hF1 hsame hWz0 hW hw1
  go_enter Tryd.func145, Tryd.ntmps145
  go_wp2
  rw [HW1.out]
  refine wp_loop_rounds 1 ?_; rw [rounds_succ]
  go_wp2_with (simp only [hcl0])
  rw [HWW.out]
  clear hcl0 hq3 hq31 fz3
  obtain ⟨c1, hc1⟩ : ∃ c1, c1 = c := ⟨_, rfl⟩
  rw [← hc1] at HQ1 HL1
  have HA1' : Hid (c1.abs = shownQ c.abs (es, et, ek, evv)) := by rw [hc1]; exact HA1
  have HU1' : Hid (∀ b ∈ c1.blocks qb, b ∈ c.blocks qb ∨ w.heap.size ≤ b) := by rw [hc1]; exact HU1
  clear HA1 HU1 hc1
  have HA1 := HA1'
  have HU1 := HU1'
  clear HA1' HU1'
  have hok1 := HQ1.out.ok
  have hs1 := hok1.s1
  obtain ⟨x0, str, hst⟩ : ∃ x0 str, c1.st = x0 :: str := by
    cases h : c1.st with
    | nil => rw [h] at hs1; simp at hs1
    | cons a b => exact ⟨a, b, rfl⟩
  have hc0 : W.cell? ⟨c1.pg, 0, none⟩ = some (stepV x0) := by
    have := HQ1.out.stp 0 (by omega)
    simp [hst] at this
    exact this
  have q1 := cell_of_row W qb 1 _ _ _ HQ1.out.blk
  have q2 := cell_of_row W qb 2 _ _ _ HQ1.out.blk
  have e0 := cell_of_row W w.heap.size 0 _ _ _ HN1.out
  have e1 := cell_of_row W w.heap.size 1 _ _ _ HN1.out
  have e2 := cell_of_row W w.heap.size 2 _ _ _ HN1.out
  have e3 := cell_of_row W w.heap.size 3 _ _ _ HN1.out
  simp [qCells, evC] at q1 q2 e0 e1 e2 e3
  have hM := fun W' => matches_grown x0.2 x0.1 (es, et, ek, evv) W'
  have hget : c1.abs.st.getD 0 noStep = x0 := by show c1.st.getD 0 noStep = x0; rw [hst]; rfl
  obtain ⟨T, hT, mT, nT⟩ : ∃ T, stepV x0 = .iface T (.agg #[.int .u8 x0.2.1.toNat, .int .u8 x0.2.2.1.toNat, .int .i64 x0.2.2.2]) ∧
      (∀ (W : World) (a b c : Value), (method 346 T (.agg #[a, b, c]) "Matches").run Tryd.prog W = .ok (157, .agg #[a, b, c]) W) ∧
      (∀ (W : World) (a b c : Value), (nilAhead 346 T (.agg #[a, b, c]) "Matches").run Tryd.prog W = .ok (some false) W) := by
    cases h : x0.1 with
    | true => exact ⟨_, by simp [stepV, h], not_m, not_n⟩
    | false => exact ⟨_, by simp [stepV, h], must_m, must_n⟩
  rw [hT] at hc0
  obtain ⟨xn, xk, xg, xv⟩ := x0
  simp only at hc0 hM
  have hpc1 := hok1.pc
  have hWz : w.heap.size < W.heap.size := lt_of_block HN1.out
  have hqb1 : qb < W.heap.size := HQ1.out.lt qb (by simp [CQ.blocks, CQ.base])
  have hpgl : c1.pg < W.heap.size := HQ1.out.lt c1.pg (by simp [CQ.blocks, CQ.base])
  cases hf : fitsB (xn, xk, xg, xv) (es, et, ek, evv) with
  | false =>
    have hM2 : ∀ W', Calls Tryd.prog 157 #[.agg #[.int .u8 xk.toNat, .int .u8 xg.toNat, .int .i64 xv], .agg #[.int .i64 es, .int .i64 et, .int .u8 ek.toNat, .int .i64 evv]] W' fun e w' => e = .returned (.bool false) ∧ ∃ q os', w' = Go.Sort.grow (W'.drewN q) os' := by
      intro W'
      have := hM W'
      simp only [hf] at this
      exact this.mono (fun e w' ⟨h1, os, h2⟩ => ⟨h1, 0, os, h2⟩)
    have hend : Hid (∀ w2, Below W.heap.size W w2 → QPost w qb c qq (.returned (.tuple #[])) w2) := by
      intro w2 hb
      refine ⟨rfl, c1, HQ1.out.fr (Fr.of_below [] hb) (by simp), ?_, HF1.out.trans (Fr.of_below _ hb), HU1.out⟩
      rw [← HQ2.out]
      show _ = beginQ (shownQ c.abs _) _
      rw [← HA1.out, beginQ_not (by rw [hget]; exact hf)]
    clear hM hf hst hT hget
    have g1 := cell_grown hqb1 q1
    have g2 := cell_grown hpgl hc0
    have g3 := cell_grown hWz e0
    have g4 := cell_grown hWz e1
    have g5 := cell_grown hWz e2
    have g6 := cell_grown hWz e3
    have hs0 : 0 < c1.st.length := hs1
    have hs0' : (0 : Int) < (c1.st.length : Int) := by omega
    refine wp_region_quiet_grown (by kernel_rfl) (by kernel_rfl) ?_
    repeat (quiet_step (first | (go_at_call 157; refine Calls.grown_of (hM2 _))))
    refine wpQuiet_nil ?_
    intro _ hw'
    obtain ⟨⟨nq, osq⟩, hw''⟩ := hw'
    subst hw''
    have hb : Below W.heap.size W (Go.Sort.grow (W.drewN nq) osq) := ⟨rfl, rfl, rfl, (grow_below (W.drewN nq) osq).size, fun k hk => (grow_below (W.drewN nq) osq).block k hk⟩
    clear g1 g2 g3 g4 g5 g6
    obtain ⟨w2, hw2⟩ : ∃ w2, Go.Sort.grow (W.drewN nq) osq = w2 := ⟨_, rfl⟩
    rw [hw2] at hb ⊢
    clear hw2
    go_wp2
    go_end0
    exact hend.out _ hb
  | true =>
    have hM2 : ∀ W', Calls Tryd.prog 157 #[.agg #[.int .u8 xk.toNat, .int .u8 xg.toNat, .int .i64 xv], .agg #[.int .i64 es, .int .i64 et, .int .u8 ek.toNat, .int .i64 evv]] W' fun e w' => e = .returned (.bool true) ∧ ∃ q os', w' = Go.Sort.grow (W'.drewN q) os' := by
      intro W'
      have := hM W'
      simp only [hf] at this
      exact this.mono (fun e w' ⟨h1, os, h2⟩ => ⟨h1, 0, os, h2⟩)
    have hcells : Hid (∀ w2, Below W.heap.size W w2 → w2.cell? ⟨qb, 1, none⟩ = some (.slice (some ⟨c1.pg, 0, none⟩) c1.st.length c1.pc) ∧ w2.cell? ⟨qb, 2, none⟩ = some (.int .i64 c1.wn) ∧ w2.cell? ⟨w.heap.size, 0, none⟩ = some (.int .i64 es) ∧ w2.cell? ⟨w.heap.size, 1, none⟩ = some (.int .i64 et) ∧ w2.cell? ⟨w.heap.size, 2, none⟩ = some (.int .u8 ek.toNat) ∧ w2.cell? ⟨w.heap.size, 3, none⟩ = some (.int .i64 evv)) := by
      intro w2 hb
      exact ⟨(hb.cell (p := ⟨qb, 1, none⟩) hqb1).trans q1, (hb.cell (p := ⟨qb, 2, none⟩) hqb1).trans q2, (hb.cell (p := ⟨w.heap.size, 0, none⟩) hWz).trans e0, (hb.cell (p := ⟨w.heap.size, 1, none⟩) hWz).trans e1, (hb.cell (p := ⟨w.heap.size, 2, none⟩) hWz).trans e2, (hb.cell (p := ⟨w.heap.size, 3, none⟩) hWz).trans e3⟩
    have hbeg : Hid (∀ w2, Calls Tryd.prog 150 #[.agg #[.slice (some ⟨c1.pg, 0, none⟩) c1.st.length c1.pc, .int .i64 c1.wn], .agg #[.int .i64 es, .int .i64 et, .int .u8 ek.toNat, .int .i64 evv]] w2 fun e w' => ∃ g lp lc, e = .returned (.agg #[.int .i64 (et + c1.wn), .slice (some ⟨g, 0, none⟩) 1 1, .slice lp (c1.st.length - 1) lc]) ∧ Below w2.heap.size w2 w' ∧ w2.heap.size ≤ g ∧
        w'.heap[g]? = some (.cells #[.int .i64 es, .int .i64 et, .int .u8 ek.toNat, .int .i64 evv] 56 (0, 0)) ∧ (1 < c1.st.length → lp = some ⟨c1.pg, 1, none⟩ ∧ lc = c1.pc - 1)) :=
      fun w2 => begin_any w2 c1.pg c1.st.length c1.pc c1.wn (es, et, ek, evv) hs1 hok1.s8 hpc1 hok1.w0 hok1.w1 ht0 ht1
    have hadd : Hid (∀ w2 w3 g3 lp lc, Below W.heap.size W w2 → Below w2.heap.size w2 w3 → w2.heap.size ≤ g3 → w3.heap[g3]? = some (.cells #[.int .i64 es, .int .i64 et, .int .u8 ek.toNat, .int .i64 evv] 56 (0, 0)) → (1 < c1.st.length → lp = some ⟨c1.pg, 1, none⟩ ∧ lc = c1.pc - 1) →
        Calls Tryd.prog 149 #[.pointer (some ⟨qb, 0, none⟩), .agg #[.int .i64 (et + c1.wn), .slice (some ⟨g3, 0, none⟩) 1 1, .slice lp (c1.st.length - 1) lc]] w3 (QPost w qb c qq)) := by
      intro w2 w3 g3 lp lc hb2 hb3 hg3 he3 hlp
      have hb23 : Below W.heap.size W w3 := hb2.trans (hb3.mono hb2.size)
      have hQ3 := HQ1.out.fr (Fr.of_below [] hb23) (by simp)
      refine (addQ_any w3 qb g3 c1 (es, et, ek, evv) lp lc hQ3 he3 (fun hm => ?_) hlp HL1.out ht0 ht1).mono ?_
      · have := HQ1.out.lt g3 hm
        have := hb2.size
        omega
      · rintro e w' ⟨rfl, c2, hq2, ha2, hf2, hu2⟩
        refine ⟨rfl, c2, hq2, ?_, ?_, fun b hb => ?_⟩
        · rw [ha2, HA1.out, ← HQ2.out]
          show _ = beginQ (shownQ c.abs _) _
          rw [← HA1.out, beginQ_fits (by rw [hget]; exact hf)]
        · exact (HF1.out.trans (Fr.of_below _ hb23)).trans' hf2 HU1.out
        · rcases hu2 b hb with h | rfl | h
          · exact HU1.out b h
          · have := hb2.size; omega
          · have := hb23.size; omega
    clear hM hf hst hT hget
    have g1 := cell_grown hqb1 q1
    have g2 := cell_grown hpgl hc0
    have g3 := cell_grown hWz e0
    have g4 := cell_grown hWz e1
    have g5 := cell_grown hWz e2
    have g6 := cell_grown hWz e3
    have hs0 : 0 < c1.st.length := hs1
    have hs0' : (0 : Int) < (c1.st.length : Int) := by omega
    refine wp_region_quiet_grown (by kernel_rfl) (by kernel_rfl) ?_
    repeat (quiet_step (first | (go_at_call 157; refine Calls.grown_of (hM2 _))))
    refine wpQuiet_nil ?_
    intro _ hw'
    obtain ⟨⟨nq, osq⟩, hw''⟩ := hw'
    subst hw''
    have hb : Below W.heap.size W (Go.Sort.grow (W.drewN nq) osq) := ⟨rfl, rfl, rfl, (grow_below (W.drewN nq) osq).size, fun k hk => (grow_below (W.drewN nq) osq).block k hk⟩
    clear g1 g2 g3 g4 g5 g6
    obtain ⟨w2, hw2⟩ : ∃ w2, Go.Sort.grow (W.drewN nq) osq = w2 := ⟨_, rfl⟩
    rw [hw2] at hb ⊢
    clear hw2
    obtain ⟨k1, k2, k3, k4, k5, k6⟩ := hcells.out w2 hb
    have HB2 := Hid.mk' hb
    clear hb q1 q2 e0 e1 e2 e3 hc0
    go_wp2
    go_region_with (first | (go_at_call 150; refine (hbeg.out _).mono ?_; rintro e w3 ⟨g3, lp, lc, rfl, hb3, hg3, he3, hlp⟩; have HB3 := Hid.mk' hb3; have HE3 := Hid.mk' he3; have HLP := Hid.mk' hlp; clear hb3 he3 hlp) | (go_at_call 149; refine (hadd.out w2 w3 g3 lp lc HB2.out ⟨HB3.out.os, HB3.out.tape, HB3.out.output, HB3.out.size, HB3.out.block⟩ hg3 HE3.out HLP.out).mono ?_; rintro e w4 ⟨rfl, hP2⟩))
    all_goals
      go_wp2
      go_end0
      exact ⟨rfl, hP2⟩

theorem show_any (w : World) (qb : Nat) (c : CQ) (ev : Ev) (hQ : QY w qb c) (hn : c.fs.length + c.rs.length ≤ 536870912) (ht0 : 0 ≤ ev.2.1) (ht1 : ev.2.1 ≤ 1000000) :
    Calls Tryd.prog 145 #[.pointer (some ⟨qb, 0, none⟩), .agg #[.int .i64 ev.1, .int .i64 ev.2.1, .int .u8 ev.2.2.1.toNat, .int .i64 ev.2.2.2]] w (QPost w qb c (showQ c.abs ev)) := by
  rcases hQ.runs.2 with ⟨e, h0⟩ | ⟨g, off, cap, cur, e, _⟩
  · exact show_nil w qb c ev hQ e (List.eq_nil_of_length_eq_zero h0) hn ht0 ht1
  · exact show_row w qb g off cap c ev hQ e hn ht0 ht1
end Go.Proofs.YtbgfannlfagoiaaDoor
