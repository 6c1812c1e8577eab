import Derived.Test.YtbgfannlfagoiaaGreatDoorZ17
namespace Go.Proofs.YtbgfannlfagoiaaGreatDoor
open Go.RowKit Go.Lull
set_option linter.unusedVariables false

theorem posQ_num {n : Nat} : ∀ {qs : List (Nat × CQ)} {k : Nat}, posQ n qs = some k → (hk : k < qs.length) → qs[k].2.num = n
 | [], k, h, hk => by cases h
 | x :: r, k, h, hk => by
  unfold posQ at h
  split at h
  ·rename_i hx
   cases h
   have : (x.2.num : Int) = (n : Int) := by simpa using hx
   simp; omega
  ·cases hr : posQ n r with
   | none => rw [hr] at h; cases h
   | some j =>
    rw [hr] at h
    cases h
    exact posQ_num hr (by simpa using hk)

set_option maxRecDepth 8000 in
set_option maxHeartbeats 2000000 in
theorem serve_full (w : World) (eb : Nat) (c : CE) (h : EG w eb c) (hn : (c.qs.map (·.2.num)).Nodup) (hfl : ∀ x ∈ c.qs, x.2.fs.length ≤ 1073741824) (k0 : Nat) (hk0 : k0 < c.qs.length) (hp : posQ c.tq c.qs = some k0) (htr : ¬ c.tr < 2) (hlf : lastF c.abs = none) :
  Calls Tryz.prog 40 #[.pointer (some ⟨eb, 0, none⟩)] w (ServePost w eb c) := by
 have HE := Hid.mk' h
 have HLF := Hid.mk' hlf
 have HFL := Hid.mk' hfl
 have HNN := Hid.mk' hn
 have e5 := cell_of_row w eb 5 _ _ _ h.blk
 have e6 := cell_of_row w eb 6 _ _ _ h.blk
 simp [eCells] at e5 e6
 have hebl := lt_of_block h.blk
 obtain ⟨wa, hwa⟩ : ∃ wa, w.alloc (.cells #[.int .i64 0, .int .i64 0, .slice none 0 0] 58) = wa := ⟨_, rfl⟩
 have hba : Below w.heap.size w wa := by rw [← hwa]; exact (Below.refl _ _).alloc (Nat.le_refl _) _
 have hNa : wa.heap[w.heap.size]? = some (.cells #[.int .i64 0, .int .i64 0, .slice none 0 0] 58 (0, 0)) := by rw [← hwa]; exact heap_alloc_new _ _
 have hEa := h.below hba
 have hqu := Hid.mk' (query_at wa eb c c.tq k0 hEa hp hk0)
 have hbeh : Hid (∀ w2, Below wa.heap.size wa w2 → Calls Tryz.prog 69 #[.pointer (some ⟨eb, 0, none⟩), .int .i64 c.tq] w2 fun e w' => ∃ a cap, e = .returned (.slice a (orderQ c.tq c.qs).length cap) ∧ Hid (Below w.heap.size w w') ∧ Hid (w'.heap[w.heap.size]? = some (.cells #[.int .i64 0, .int .i64 0, .slice none 0 0] 58 (0, 0))) ∧ Hid (Row w' 122 1 (.slice a (orderQ c.tq c.qs).length cap) (orderQ c.tq c.qs).length ((orderQ c.tq c.qs).map ptrV))) := by
  intro w2 hb2
  refine (behind_eg w2 eb c c.tq (hEa.below hb2)).mono ?_
  rintro e w' ⟨v, rfl, hb, hr⟩
  obtain ⟨a, cap, rfl, _⟩ := hr.form
  exact ⟨a, cap, rfl, (hba.trans (hb2.mono hba.size)).trans (hb.mono (Nat.le_trans hba.size hb2.size)), by unfold Hid; rw [hb.block _ (Nat.lt_of_lt_of_le (lt_of_block hNa) hb2.size), hb2.block _ (lt_of_block hNa)]; exact hNa, hr⟩
 have HM : Hid (∀ x ∈ orderQ c.tq c.qs, x ∈ c.qs) := by
  intro x hx
  rcases List.mem_append.1 hx with hx | hx
  ·exact (List.mem_filter.1 hx).1
  ·exact (List.mem_filter.1 hx).1
 have HO : Hid (orderE c.abs = (orderQ c.tq c.qs).map (·.2.abs)) := order_abs c
 have hcell : Hid (∀ w2, Below wa.heap.size wa w2 → w2.cell? ⟨eb, 5, none⟩ = some (.int .i64 c.tq) ∧ w2.cell? ⟨eb, 6, none⟩ = some (.int .i64 c.tr)) := by
  intro w2 hb2
  exact ⟨by rw [(hba.trans (hb2.mono hba.size)).cell (p := ⟨eb, 5, none⟩) hebl]; exact e5, by rw [(hba.trans (hb2.mono hba.size)).cell (p := ⟨eb, 6, none⟩) hebl]; exact e6⟩
 have htr2 : ¬ (c.tr : Int) < 2 := by omega
 have hL20 := orderQ_len c.tq c.qs h.q10
 obtain ⟨L, hL⟩ : ∃ L, orderQ c.tq c.qs = L := ⟨_, rfl⟩
 rw [hL] at hbeh HM HO hL20
 have HWA := Hid.mk' hwa
 clear h hEa hba hNa hp hlf hfl hn hL hwa
 go_enter Tryz.func40, Tryz.ntmps40
 go_wp2_with (first | (go_at_call 67; rw [HWA.out]; refine hqu.out.mono ?_; rintro e w0 ⟨rfl, hb0⟩; obtain ⟨c5, c6⟩ := hcell.out w0 hb0) | (go_at_call 69; refine (hbeh.out w0 hb0).mono ?_; rintro e w1 ⟨va, vcap, rfl, HB1, HN1, HR1⟩))
 go_loopw [52] (fun i wr => ∃ k : Nat, i = .int .i64 k ∧ k ≤ L.length ∧ Hid (Below w1.heap.size w1 wr) ∧ Hid (firstF (L.map (·.2.abs)) = firstF ((L.drop k).map (·.2.abs)))) (fun i _ => L.length - (intOf i).toNat)
 case atStart => exact ⟨0, rfl, Nat.zero_le _, Below.refl _ _, rfl⟩
 case round =>
  obtain ⟨k, rfl, hk, HB, HF⟩ := hrel
  have HBw : Hid (Below w.heap.size w wr) := HB1.out.trans (HB.out.mono HB1.out.size)
  have hN : wr.heap[w.heap.size]? = some (.cells #[.int .i64 0, .int .i64 0, .slice none 0 0] 58 (0, 0)) := by rw [HB.out.block _ (lt_of_block HN1.out)]; exact HN1.out
  have n0 := cell_of_row wr w.heap.size 0 _ _ _ hN
  have n1 := cell_of_row wr w.heap.size 1 _ _ _ hN
  have n2 := cell_of_row wr w.heap.size 2 _ _ _ hN
  have y0 := frozen_of_row wr w.heap.size 0 _ _ hN
  have y1 := frozen_of_row wr w.heap.size 1 _ _ hN
  have y2 := frozen_of_row wr w.heap.size 2 _ _ hN
  simp at n0 n1 n2
  by_cases hlt : k < L.length
  ·obtain ⟨g, off, hva⟩ : ∃ g off, va = some ⟨g, off, none⟩ := by
    rcases HR1.out.2 with ⟨_, h0⟩ | ⟨g, off, cap, cur, e, _⟩
    ·omega
    ·cases e; exact ⟨g, off, rfl⟩
   subst hva
   obtain ⟨x, hx⟩ : ∃ x, L[k] = x := ⟨_, rfl⟩
   have hck : wr.cell? ⟨g, off + k, none⟩ = some (.pointer (some ⟨x.1, 0, none⟩)) := by
    have hr := HR1.out.same (w' := wr) (fun b hb => HB.out.block b (HR1.out.lt b hb))
    have := ptr_cell hr k hlt
    rw [hx] at this
    exact this
   have hxm : x ∈ c.qs := HM.out x (by rw [← hx]; exact List.getElem_mem hlt)
   have hEr := HE.out.below HBw.out
   have hdrop : (L.drop k).map (·.2.abs) = x.2.abs :: (L.drop (k + 1)).map (·.2.abs) := by rw [List.drop_eq_getElem_cons hlt, List.map_cons, hx]
   have hQx := hEr.qy x hxm
   cases hfs : x.2.fs with
   | nil =>
    have htk := Hid.mk' (take_none wr x.1 x.2 hQx hfs)
    have HF2 : Hid (firstF (L.map (·.2.abs)) = firstF ((L.drop (k + 1)).map (·.2.abs))) := by
     unfold Hid
     rw [HF.out, hdrop]
     show (match x.2.abs.found with | [] => _ | m :: _ => _) = _
     simp [CQ.abs, hfs]
    clear HF hdrop hQx hEr hfs hN
    go_wp2_with (go_at_call 68; refine htk.out.mono ?_; rintro e w2 ⟨rfl, hb2⟩)
    go_roundw
    case rel => exact ⟨k + 1, by go_num, by omega, HB.out.trans ((hb2.alloc hb2.size _).mono HB.out.size), HF2⟩
    case measure => simp [intOf]; omega
   | cons m fs =>
    obtain ⟨j, hj, hxj⟩ := List.getElem_of_mem hxm
    have hser : Hid (serveE c.abs = some (m.1, { c.abs with qs := popQ x.2.num c.abs.qs, tq := x.2.num, tr := 1 })) := by
     have h1 : firstF (orderE c.abs) = some (x.2.num, m.1) := by
      rw [HO.out, HF.out, hdrop]
      simp [firstF, CQ.abs, hfs]
     unfold Hid serveE
     rw [HLF.out, h1]
    have htk := Hid.mk' (take_some wr x.1 x.2 m fs hQx hfs (HFL.out x hxm))
    have hap := fun vf' hv => QY.apart (vf' := vf') hQx hfs hv
    have hnb : w.heap.size ∉ x.2.blocks x.1 := fun hm => absurd (HE.out.lt _ (List.mem_append_right _ (mem_qsb hxm hm))) (Nat.lt_irrefl _)
    have hnum := x.2.num
    have hpost : Hid (∀ w2 vf' (o : Obj), QY w2 x.1 { x.2 with vf := vf', fs := fs } → Fr (x.2.blocks x.1) wr w2 → EvR w2 m.2 m.1.evs → vf'.ownBlock = x.2.vf.ownBlock →
      w2.heap[w.heap.size]? = some (.cells #[.int .i64 0, .int .i64 0, .slice none 0 0] 58 (0, 0)) ∧ Calls Tryz.prog 70 #[.pointer (some ⟨x.1, 0, none⟩)] (w2.alloc o) (fun e w' => e = .returned (.int .i64 x.2.num) ∧ w' = w2.alloc o) ∧ (w2.alloc o).cell? ⟨eb, 5, none⟩ = some (.int .i64 c.tq) ∧ (w2.alloc o).cell? ⟨eb, 6, none⟩ = some (.int .i64 c.tr) ∧ (w2.alloc o).frozen? ⟨eb, 5, none⟩ = false ∧ (w2.alloc o).frozen? ⟨eb, 6, none⟩ = false ∧
      ∀ a b d, ServePost w eb c (.returned (.tuple #[.agg #[.int .i64 m.1.q, .int .i64 m.1.cl, m.2], .bool true])) ((((((w2.alloc o).setCell ⟨eb, 5, none⟩ (.int .i64 x.2.num)).setCell ⟨eb, 6, none⟩ (.int .i64 1)).setCell ⟨w.heap.size, 0, none⟩ a).setCell ⟨w.heap.size, 1, none⟩ b).setCell ⟨w.heap.size, 2, none⟩ d)) := by
     intro w2 vf' o hq2 hf2 he2 hv2
     have hebn : eb ∉ x.2.blocks x.1 := fun hm => (List.nodup_append.1 hEr.nd).2.2 eb (by simp [CE.base]) eb (mem_qsb hxm hm) rfl
     have hb2 : w2.heap[eb]? = some (.cells (eCells eb c) 104 (0, 0)) := by rw [hf2.block eb (lt_of_block hEr.blk) hebn]; exact hEr.blk
     have hb3 : (w2.alloc o).heap[eb]? = some (.cells (eCells eb c) 104 (0, 0)) := by rw [Below.heap_alloc _ _ _ (lt_of_block hb2)]; exact hb2
     have hNw : w.heap.size < wr.heap.size := lt_of_block hN
     have hne : eb ≠ w.heap.size := by omega
     refine ⟨by rw [hf2.block _ hNw hnb]; exact hN, ?_, by rw [cell_of_row _ eb 5 _ _ _ hb3]; rfl, by rw [cell_of_row _ eb 6 _ _ _ hb3]; rfl, frozen_of_row _ eb 5 _ _ hb3, frozen_of_row _ eb 6 _ _ hb3, fun a b d => ?_⟩
     ·exact number_any (w2.alloc o) x.1 { x.2 with vf := vf', fs := fs } (hq2.same (by simp) (fun b hb => Below.heap_alloc _ _ _ (hq2.lt b hb)))
     ·have h5 : ((w2.alloc o).setCell ⟨eb, 5, none⟩ (.int .i64 x.2.num)).heap[eb]? = some (.cells ((eCells eb c).setIfInBounds 5 (.int .i64 x.2.num)) 104 (0, 0)) := heap_setCell_same _ eb 5 _ _ _ hb3
      have h6 := heap_setCell_same _ eb 6 _ _ (.int .i64 1) h5
      obtain ⟨c', g1, g2, g3, g4, g5⟩ := serve_after (W5 := (((((w2.alloc o).setCell ⟨eb, 5, none⟩ (.int .i64 x.2.num)).setCell ⟨eb, 6, none⟩ (.int .i64 1)).setCell ⟨w.heap.size, 0, none⟩ a).setCell ⟨w.heap.size, 1, none⟩ b).setCell ⟨w.heap.size, 2, none⟩ d) (tq := x.2.num) (tr := 1) HE.out HBw.out hNw hj hxj hfs HNN.out hq2 hf2 he2 hv2 o
       (by rw [Below.heap_setCell _ _ _ _ hne, Below.heap_setCell _ _ _ _ hne, Below.heap_setCell _ _ _ _ hne, h6]; rfl)
       (((((((Fr.refl _ (w2.alloc o)).setCell (Or.inl (by simp)) _).setCell (Or.inl (by simp)) _).setCell (Or.inl (by simp)) _).setCell (Or.inl (by simp)) _)).setCell (Or.inl (by simp)) _)
      unfold ServePost
      rw [hser.out]
      exact ⟨m.2, c', rfl, g1, g2, g3, g4, g5⟩
    obtain ⟨⟨mq, mc, me⟩, mv⟩ := m
    obtain ⟨ta, tc, hmv⟩ := own_form (hQx.own.ev (fp (⟨mq, mc, me⟩, mv)) (by simp [CQ.evl, hfs]))
    simp only [fp] at hmv
    subst hmv
    clear HF hdrop hQx hEr hfs hN hap hser hnum hxj
    go_wp2_with (first | (go_at_call 68; refine htk.out.mono ?_; rintro e w2 ⟨rfl, vf', hq2, hf2, he2, hv2⟩; obtain ⟨hN2, hnu, k5, k6, z5, z6, hfin⟩ := hpost.out w2 vf' (.cells #[.int .i64 mq, .int .i64 mc, .slice ta me.length tc] 58) hq2 hf2 he2 hv2; have HFIN := Hid.mk' hfin; have m0 := cell_of_row w2 w.heap.size 0 _ _ _ hN2; have m1 := cell_of_row w2 w.heap.size 1 _ _ _ hN2; have m2 := cell_of_row w2 w.heap.size 2 _ _ _ hN2; have v0 := frozen_of_row w2 w.heap.size 0 _ _ hN2; have v1 := frozen_of_row w2 w.heap.size 1 _ _ hN2; have v2 := frozen_of_row w2 w.heap.size 2 _ _ hN2; simp at m0 m1 m2; have hNl2 := lt_of_block hN2; have HNU := Hid.mk' hnu; clear hq2 hf2 he2 hv2 hfin hN2 hnu) | (go_at_call 70; refine HNU.out.mono ?_; rintro e w3 ⟨rfl, rfl⟩))
    have a0 := alloc_keep (.cells #[.int .i64 mq, .int .i64 mc, .slice ta me.length tc] 58) m0
    have a1 := alloc_keep (.cells #[.int .i64 mq, .int .i64 mc, .slice ta me.length tc] 58) m1
    have a2 := alloc_keep (.cells #[.int .i64 mq, .int .i64 mc, .slice ta me.length tc] 58) m2
    refine bodyPost_ret (v := .tuple #[.agg #[.int .i64 mq, .int .i64 mc, .slice ta me.length tc], .bool true]) ?_ rfl (HFIN.out _ _ _)
    simp [results, Tryz.results40, go_sem, a0, a1, a2]
  ·have hser : Hid (serveE c.abs = none) := by
    have h1 : firstF (orderE c.abs) = none := by
     rw [HO.out, HF.out, List.drop_of_length_le (by omega)]
     rfl
    unfold Hid serveE
    rw [HLF.out, h1]
   clear hN
   go_wp2
   refine bodyPost_ret (v := .tuple #[.agg #[.int .i64 0, .int .i64 0, .slice none 0 0], .bool false]) (by simp [results, Tryz.results40, go_sem, n0, n1, n2]) rfl ?_
   unfold ServePost
   rw [hser.out]
   exact ⟨rfl, by repeat (first | exact HBw.out | refine Below.setCell ?_ (by simp; try omega) _)⟩

set_option maxRecDepth 8000 in
set_option maxHeartbeats 2000000 in
theorem serve_dry (w : World) (eb : Nat) (c : CE) (h : EG w eb c) (hn : (c.qs.map (·.2.num)).Nodup) (hfl : ∀ x ∈ c.qs, x.2.fs.length ≤ 1073741824) (k0 : Nat) (hk0 : k0 < c.qs.length) (hp : posQ c.tq c.qs = some k0) (htr : c.tr < 2) (hfs0 : c.qs[k0].2.fs = []) (hlf : lastF c.abs = none) :
  Calls Tryz.prog 40 #[.pointer (some ⟨eb, 0, none⟩)] w (ServePost w eb c) := by
 have HE := Hid.mk' h
 have HLF := Hid.mk' hlf
 have HFL := Hid.mk' hfl
 have HNN := Hid.mk' hn
 have e5 := cell_of_row w eb 5 _ _ _ h.blk
 have e6 := cell_of_row w eb 6 _ _ _ h.blk
 simp [eCells] at e5 e6
 have hebl := lt_of_block h.blk
 obtain ⟨wa, hwa⟩ : ∃ wa, w.alloc (.cells #[.int .i64 0, .int .i64 0, .slice none 0 0] 58) = wa := ⟨_, rfl⟩
 have hba : Below w.heap.size w wa := by rw [← hwa]; exact (Below.refl _ _).alloc (Nat.le_refl _) _
 have hNa : wa.heap[w.heap.size]? = some (.cells #[.int .i64 0, .int .i64 0, .slice none 0 0] 58 (0, 0)) := by rw [← hwa]; exact heap_alloc_new _ _
 have hEa := h.below hba
 have hqu := Hid.mk' (query_at wa eb c c.tq k0 hEa hp hk0)
 have hbeh : Hid (∀ w2, Below wa.heap.size wa w2 → Calls Tryz.prog 69 #[.pointer (some ⟨eb, 0, none⟩), .int .i64 c.tq] w2 fun e w' => ∃ a cap, e = .returned (.slice a (orderQ c.tq c.qs).length cap) ∧ Hid (Below w.heap.size w w') ∧ Hid (w'.heap[w.heap.size]? = some (.cells #[.int .i64 0, .int .i64 0, .slice none 0 0] 58 (0, 0))) ∧ Hid (Row w' 122 1 (.slice a (orderQ c.tq c.qs).length cap) (orderQ c.tq c.qs).length ((orderQ c.tq c.qs).map ptrV))) := by
  intro w2 hb2
  refine (behind_eg w2 eb c c.tq (hEa.below hb2)).mono ?_
  rintro e w' ⟨v, rfl, hb, hr⟩
  obtain ⟨a, cap, rfl, _⟩ := hr.form
  exact ⟨a, cap, rfl, (hba.trans (hb2.mono hba.size)).trans (hb.mono (Nat.le_trans hba.size hb2.size)), by unfold Hid; rw [hb.block _ (Nat.lt_of_lt_of_le (lt_of_block hNa) hb2.size), hb2.block _ (lt_of_block hNa)]; exact hNa, hr⟩
 have HM : Hid (∀ x ∈ orderQ c.tq c.qs, x ∈ c.qs) := by
  intro x hx
  rcases List.mem_append.1 hx with hx | hx
  ·exact (List.mem_filter.1 hx).1
  ·exact (List.mem_filter.1 hx).1
 have HO : Hid (orderE c.abs = (orderQ c.tq c.qs).map (·.2.abs)) := order_abs c
 have hcell : Hid (∀ w2, Below wa.heap.size wa w2 → w2.cell? ⟨eb, 5, none⟩ = some (.int .i64 c.tq) ∧ w2.cell? ⟨eb, 6, none⟩ = some (.int .i64 c.tr)) := by
  intro w2 hb2
  exact ⟨by rw [(hba.trans (hb2.mono hba.size)).cell (p := ⟨eb, 5, none⟩) hebl]; exact e5, by rw [(hba.trans (hb2.mono hba.size)).cell (p := ⟨eb, 6, none⟩) hebl]; exact e6⟩
 have htr2 : (c.tr : Int) < 2 := by omega
 have htk0 : Hid (∀ w2, Below wa.heap.size wa w2 → Calls Tryz.prog 68 #[.pointer (some ⟨c.qs[k0].1, 0, none⟩)] w2 fun e w' => e = .returned (.tuple #[.agg #[.int .i64 0, .int .i64 0, .slice none 0 0], .bool false]) ∧ Below w2.heap.size w2 w') := fun w2 hb2 => take_none w2 _ _ ((hEa.below hb2).qy c.qs[k0] (List.getElem_mem hk0)) hfs0
 have hL20 := orderQ_len c.tq c.qs h.q10
 obtain ⟨L, hL⟩ : ∃ L, orderQ c.tq c.qs = L := ⟨_, rfl⟩
 rw [hL] at hbeh HM HO hL20
 have HWA := Hid.mk' hwa
 clear h hEa hba hNa hp hlf hfl hn hL hwa
 go_enter Tryz.func40, Tryz.ntmps40
 go_wp2_with (first | (go_at_call 67; rw [HWA.out]; refine hqu.out.mono ?_; rintro e w0 ⟨rfl, hb0⟩; obtain ⟨c5, c6⟩ := hcell.out w0 hb0) | (go_at_call 68; refine (htk0.out w0 hb0).mono ?_; rintro e w9 ⟨rfl, hb9⟩; have hb8 : Below wa.heap.size wa w9 := hb0.trans (hb9.mono hb0.size); obtain ⟨c7, c8⟩ := hcell.out w9 hb8; have hebl9 := block_lt_of_cell c7; simp only at hebl9) | (go_at_call 69; refine (hbeh.out _ (hb8.alloc hb8.size _)).mono ?_; rintro e w1 ⟨va, vcap, rfl, HB1, HN1, HR1⟩))
 go_loopw [52] (fun i wr => ∃ k : Nat, i = .int .i64 k ∧ k ≤ L.length ∧ Hid (Below w1.heap.size w1 wr) ∧ Hid (firstF (L.map (·.2.abs)) = firstF ((L.drop k).map (·.2.abs)))) (fun i _ => L.length - (intOf i).toNat)
 case atStart => exact ⟨0, rfl, Nat.zero_le _, Below.refl _ _, rfl⟩
 case round =>
  obtain ⟨k, rfl, hk, HB, HF⟩ := hrel
  have HBw : Hid (Below w.heap.size w wr) := HB1.out.trans (HB.out.mono HB1.out.size)
  have hN : wr.heap[w.heap.size]? = some (.cells #[.int .i64 0, .int .i64 0, .slice none 0 0] 58 (0, 0)) := by rw [HB.out.block _ (lt_of_block HN1.out)]; exact HN1.out
  have n0 := cell_of_row wr w.heap.size 0 _ _ _ hN
  have n1 := cell_of_row wr w.heap.size 1 _ _ _ hN
  have n2 := cell_of_row wr w.heap.size 2 _ _ _ hN
  have y0 := frozen_of_row wr w.heap.size 0 _ _ hN
  have y1 := frozen_of_row wr w.heap.size 1 _ _ hN
  have y2 := frozen_of_row wr w.heap.size 2 _ _ hN
  simp at n0 n1 n2
  by_cases hlt : k < L.length
  ·obtain ⟨g, off, hva⟩ : ∃ g off, va = some ⟨g, off, none⟩ := by
    rcases HR1.out.2 with ⟨_, h0⟩ | ⟨g, off, cap, cur, e, _⟩
    ·omega
    ·cases e; exact ⟨g, off, rfl⟩
   subst hva
   obtain ⟨x, hx⟩ : ∃ x, L[k] = x := ⟨_, rfl⟩
   have hck : wr.cell? ⟨g, off + k, none⟩ = some (.pointer (some ⟨x.1, 0, none⟩)) := by
    have hr := HR1.out.same (w' := wr) (fun b hb => HB.out.block b (HR1.out.lt b hb))
    have := ptr_cell hr k hlt
    rw [hx] at this
    exact this
   have hxm : x ∈ c.qs := HM.out x (by rw [← hx]; exact List.getElem_mem hlt)
   have hEr := HE.out.below HBw.out
   have hdrop : (L.drop k).map (·.2.abs) = x.2.abs :: (L.drop (k + 1)).map (·.2.abs) := by rw [List.drop_eq_getElem_cons hlt, List.map_cons, hx]
   have hQx := hEr.qy x hxm
   cases hfs : x.2.fs with
   | nil =>
    have htk := Hid.mk' (take_none wr x.1 x.2 hQx hfs)
    have HF2 : Hid (firstF (L.map (·.2.abs)) = firstF ((L.drop (k + 1)).map (·.2.abs))) := by
     unfold Hid
     rw [HF.out, hdrop]
     show (match x.2.abs.found with | [] => _ | m :: _ => _) = _
     simp [CQ.abs, hfs]
    clear HF hdrop hQx hEr hfs hN
    go_wp2_with (go_at_call 68; refine htk.out.mono ?_; rintro e w2 ⟨rfl, hb2⟩)
    go_roundw
    case rel => exact ⟨k + 1, by go_num, by omega, HB.out.trans ((hb2.alloc hb2.size _).mono HB.out.size), HF2⟩
    case measure => simp [intOf]; omega
   | cons m fs =>
    obtain ⟨j, hj, hxj⟩ := List.getElem_of_mem hxm
    have hser : Hid (serveE c.abs = some (m.1, { c.abs with qs := popQ x.2.num c.abs.qs, tq := x.2.num, tr := 1 })) := by
     have h1 : firstF (orderE c.abs) = some (x.2.num, m.1) := by
      rw [HO.out, HF.out, hdrop]
      simp [firstF, CQ.abs, hfs]
     unfold Hid serveE
     rw [HLF.out, h1]
    have htk := Hid.mk' (take_some wr x.1 x.2 m fs hQx hfs (HFL.out x hxm))
    have hap := fun vf' hv => QY.apart (vf' := vf') hQx hfs hv
    have hnb : w.heap.size ∉ x.2.blocks x.1 := fun hm => absurd (HE.out.lt _ (List.mem_append_right _ (mem_qsb hxm hm))) (Nat.lt_irrefl _)
    have hnum := x.2.num
    have hpost : Hid (∀ w2 vf' (o : Obj), QY w2 x.1 { x.2 with vf := vf', fs := fs } → Fr (x.2.blocks x.1) wr w2 → EvR w2 m.2 m.1.evs → vf'.ownBlock = x.2.vf.ownBlock →
      w2.heap[w.heap.size]? = some (.cells #[.int .i64 0, .int .i64 0, .slice none 0 0] 58 (0, 0)) ∧ Calls Tryz.prog 70 #[.pointer (some ⟨x.1, 0, none⟩)] (w2.alloc o) (fun e w' => e = .returned (.int .i64 x.2.num) ∧ w' = w2.alloc o) ∧ (w2.alloc o).cell? ⟨eb, 5, none⟩ = some (.int .i64 c.tq) ∧ (w2.alloc o).cell? ⟨eb, 6, none⟩ = some (.int .i64 c.tr) ∧ (w2.alloc o).frozen? ⟨eb, 5, none⟩ = false ∧ (w2.alloc o).frozen? ⟨eb, 6, none⟩ = false ∧
      ∀ a b d, ServePost w eb c (.returned (.tuple #[.agg #[.int .i64 m.1.q, .int .i64 m.1.cl, m.2], .bool true])) ((((((w2.alloc o).setCell ⟨eb, 5, none⟩ (.int .i64 x.2.num)).setCell ⟨eb, 6, none⟩ (.int .i64 1)).setCell ⟨w.heap.size, 0, none⟩ a).setCell ⟨w.heap.size, 1, none⟩ b).setCell ⟨w.heap.size, 2, none⟩ d)) := by
     intro w2 vf' o hq2 hf2 he2 hv2
     have hebn : eb ∉ x.2.blocks x.1 := fun hm => (List.nodup_append.1 hEr.nd).2.2 eb (by simp [CE.base]) eb (mem_qsb hxm hm) rfl
     have hb2 : w2.heap[eb]? = some (.cells (eCells eb c) 104 (0, 0)) := by rw [hf2.block eb (lt_of_block hEr.blk) hebn]; exact hEr.blk
     have hb3 : (w2.alloc o).heap[eb]? = some (.cells (eCells eb c) 104 (0, 0)) := by rw [Below.heap_alloc _ _ _ (lt_of_block hb2)]; exact hb2
     have hNw : w.heap.size < wr.heap.size := lt_of_block hN
     have hne : eb ≠ w.heap.size := by omega
     refine ⟨by rw [hf2.block _ hNw hnb]; exact hN, ?_, by rw [cell_of_row _ eb 5 _ _ _ hb3]; rfl, by rw [cell_of_row _ eb 6 _ _ _ hb3]; rfl, frozen_of_row _ eb 5 _ _ hb3, frozen_of_row _ eb 6 _ _ hb3, fun a b d => ?_⟩
     ·exact number_any (w2.alloc o) x.1 { x.2 with vf := vf', fs := fs } (hq2.same (by simp) (fun b hb => Below.heap_alloc _ _ _ (hq2.lt b hb)))
     ·have h5 : ((w2.alloc o).setCell ⟨eb, 5, none⟩ (.int .i64 x.2.num)).heap[eb]? = some (.cells ((eCells eb c).setIfInBounds 5 (.int .i64 x.2.num)) 104 (0, 0)) := heap_setCell_same _ eb 5 _ _ _ hb3
      have h6 := heap_setCell_same _ eb 6 _ _ (.int .i64 1) h5
      obtain ⟨c', g1, g2, g3, g4, g5⟩ := serve_after (W5 := (((((w2.alloc o).setCell ⟨eb, 5, none⟩ (.int .i64 x.2.num)).setCell ⟨eb, 6, none⟩ (.int .i64 1)).setCell ⟨w.heap.size, 0, none⟩ a).setCell ⟨w.heap.size, 1, none⟩ b).setCell ⟨w.heap.size, 2, none⟩ d) (tq := x.2.num) (tr := 1) HE.out HBw.out hNw hj hxj hfs HNN.out hq2 hf2 he2 hv2 o
       (by rw [Below.heap_setCell _ _ _ _ hne, Below.heap_setCell _ _ _ _ hne, Below.heap_setCell _ _ _ _ hne, h6]; rfl)
       (((((((Fr.refl _ (w2.alloc o)).setCell (Or.inl (by simp)) _).setCell (Or.inl (by simp)) _).setCell (Or.inl (by simp)) _).setCell (Or.inl (by simp)) _)).setCell (Or.inl (by simp)) _)
      unfold ServePost
      rw [hser.out]
      exact ⟨m.2, c', rfl, g1, g2, g3, g4, g5⟩
    obtain ⟨⟨mq, mc, me⟩, mv⟩ := m
    obtain ⟨ta, tc, hmv⟩ := own_form (hQx.own.ev (fp (⟨mq, mc, me⟩, mv)) (by simp [CQ.evl, hfs]))
    simp only [fp] at hmv
    subst hmv
    clear HF hdrop hQx hEr hfs hN hap hser hnum hxj
    go_wp2_with (first | (go_at_call 68; refine htk.out.mono ?_; rintro e w2 ⟨rfl, vf', hq2, hf2, he2, hv2⟩; obtain ⟨hN2, hnu, k5, k6, z5, z6, hfin⟩ := hpost.out w2 vf' (.cells #[.int .i64 mq, .int .i64 mc, .slice ta me.length tc] 58) hq2 hf2 he2 hv2; have HFIN := Hid.mk' hfin; have m0 := cell_of_row w2 w.heap.size 0 _ _ _ hN2; have m1 := cell_of_row w2 w.heap.size 1 _ _ _ hN2; have m2 := cell_of_row w2 w.heap.size 2 _ _ _ hN2; have v0 := frozen_of_row w2 w.heap.size 0 _ _ hN2; have v1 := frozen_of_row w2 w.heap.size 1 _ _ hN2; have v2 := frozen_of_row w2 w.heap.size 2 _ _ hN2; simp at m0 m1 m2; have hNl2 := lt_of_block hN2; have HNU := Hid.mk' hnu; clear hq2 hf2 he2 hv2 hfin hN2 hnu) | (go_at_call 70; refine HNU.out.mono ?_; rintro e w3 ⟨rfl, rfl⟩))
    have a0 := alloc_keep (.cells #[.int .i64 mq, .int .i64 mc, .slice ta me.length tc] 58) m0
    have a1 := alloc_keep (.cells #[.int .i64 mq, .int .i64 mc, .slice ta me.length tc] 58) m1
    have a2 := alloc_keep (.cells #[.int .i64 mq, .int .i64 mc, .slice ta me.length tc] 58) m2
    refine bodyPost_ret (v := .tuple #[.agg #[.int .i64 mq, .int .i64 mc, .slice ta me.length tc], .bool true]) ?_ rfl (HFIN.out _ _ _)
    simp [results, Tryz.results40, go_sem, a0, a1, a2]
  ·have hser : Hid (serveE c.abs = none) := by
    have h1 : firstF (orderE c.abs) = none := by
     rw [HO.out, HF.out, List.drop_of_length_le (by omega)]
     rfl
    unfold Hid serveE
    rw [HLF.out, h1]
   clear hN
   go_wp2
   refine bodyPost_ret (v := .tuple #[.agg #[.int .i64 0, .int .i64 0, .slice none 0 0], .bool false]) (by simp [results, Tryz.results40, go_sem, n0, n1, n2]) rfl ?_
   unfold ServePost
   rw [hser.out]
   exact ⟨rfl, by repeat (first | exact HBw.out | refine Below.setCell ?_ (by simp; try omega) _)⟩

set_option maxRecDepth 8000 in
set_option maxHeartbeats 2000000 in
theorem serve_last (w : World) (eb : Nat) (c : CE) (h : EG w eb c) (hn : (c.qs.map (·.2.num)).Nodup) (hfl : ∀ x ∈ c.qs, x.2.fs.length ≤ 1073741824) (k0 : Nat) (hk0 : k0 < c.qs.length) (hp : posQ c.tq c.qs = some k0) (htr : c.tr < 2) (m : Mt × Value) (fs : List (Mt × Value)) (hfs0 : c.qs[k0].2.fs = m :: fs) (hlf : lastF c.abs = some m.1) :
  Calls Tryz.prog 40 #[.pointer (some ⟨eb, 0, none⟩)] w (ServePost w eb c) := by
 have HE := Hid.mk' h
 have HLF := Hid.mk' hlf
 have HFL := Hid.mk' hfl
 have HNN := Hid.mk' hn
 have e5 := cell_of_row w eb 5 _ _ _ h.blk
 have e6 := cell_of_row w eb 6 _ _ _ h.blk
 simp [eCells] at e5 e6
 have hebl := lt_of_block h.blk
 obtain ⟨wa, hwa⟩ : ∃ wa, w.alloc (.cells #[.int .i64 0, .int .i64 0, .slice none 0 0] 58) = wa := ⟨_, rfl⟩
 have hba : Below w.heap.size w wa := by rw [← hwa]; exact (Below.refl _ _).alloc (Nat.le_refl _) _
 have hNa : wa.heap[w.heap.size]? = some (.cells #[.int .i64 0, .int .i64 0, .slice none 0 0] 58 (0, 0)) := by rw [← hwa]; exact heap_alloc_new _ _
 have hEa := h.below hba
 have hqu := Hid.mk' (query_at wa eb c c.tq k0 hEa hp hk0)
 have hser : Hid (serveE c.abs = some (m.1, { c.abs with qs := popQ c.tq c.abs.qs, tr := c.tr + 1 })) := by
  unfold Hid serveE
  rw [HLF.out]
  rfl
 have hcell : Hid (∀ w2, Below wa.heap.size wa w2 → w2.cell? ⟨eb, 5, none⟩ = some (.int .i64 c.tq) ∧ w2.cell? ⟨eb, 6, none⟩ = some (.int .i64 c.tr)) := by
  intro w2 hb2
  exact ⟨by rw [(hba.trans (hb2.mono hba.size)).cell (p := ⟨eb, 5, none⟩) hebl]; exact e5, by rw [(hba.trans (hb2.mono hba.size)).cell (p := ⟨eb, 6, none⟩) hebl]; exact e6⟩
 have htr2 : (c.tr : Int) < 2 := by omega
 have hnumk : c.qs[k0].2.num = c.tq := posQ_num hp hk0
 have hpost : Hid (∀ w0, Below wa.heap.size wa w0 → Calls Tryz.prog 68 #[.pointer (some ⟨c.qs[k0].1, 0, none⟩)] w0 fun e w2 => e = .returned (.tuple #[.agg #[.int .i64 m.1.q, .int .i64 m.1.cl, m.2], .bool true]) ∧ w2.heap[w.heap.size]? = some (.cells #[.int .i64 0, .int .i64 0, .slice none 0 0] 58 (0, 0)) ∧ w2.heap[eb]? = some (.cells (eCells eb c) 104 (0, 0)) ∧
   Hid (∀ (o : Obj) a b d, ServePost w eb c (.returned (.tuple #[.agg #[.int .i64 m.1.q, .int .i64 m.1.cl, m.2], .bool true])) (((((w2.alloc o).setCell ⟨eb, 6, none⟩ (.int .i64 (c.tr + 1 : Nat))).setCell ⟨w.heap.size, 0, none⟩ a).setCell ⟨w.heap.size, 1, none⟩ b).setCell ⟨w.heap.size, 2, none⟩ d))) := by
  intro w0 hb0
  have hbw : Below w.heap.size w w0 := hba.trans (hb0.mono hba.size)
  have hE0 := HE.out.below hbw
  have hN0 : w0.heap[w.heap.size]? = some (.cells #[.int .i64 0, .int .i64 0, .slice none 0 0] 58 (0, 0)) := by rw [hb0.block _ (lt_of_block hNa)]; exact hNa
  have hxm : c.qs[k0] ∈ c.qs := List.getElem_mem hk0
  have hNw : w.heap.size < w0.heap.size := lt_of_block hN0
  refine (take_some w0 c.qs[k0].1 c.qs[k0].2 m fs (hE0.qy _ hxm) hfs0 (HFL.out _ hxm)).mono ?_
  rintro e w2 ⟨rfl, vf', hq2, hf2, he2, hv2⟩
  have hnb : w.heap.size ∉ c.qs[k0].2.blocks c.qs[k0].1 := fun hm => absurd (HE.out.lt _ (List.mem_append_right _ (mem_qsb hxm hm))) (Nat.lt_irrefl _)
  have hebn : eb ∉ c.qs[k0].2.blocks c.qs[k0].1 := fun hm => (List.nodup_append.1 hE0.nd).2.2 eb (by simp [CE.base]) eb (mem_qsb hxm hm) rfl
  have hb2 : w2.heap[eb]? = some (.cells (eCells eb c) 104 (0, 0)) := by rw [hf2.block eb (lt_of_block hE0.blk) hebn]; exact hE0.blk
  have hne : eb ≠ w.heap.size := by omega
  refine ⟨rfl, by rw [hf2.block _ hNw hnb]; exact hN0, hb2, fun o a b d => ?_⟩
  have hb3 : (w2.alloc o).heap[eb]? = some (.cells (eCells eb c) 104 (0, 0)) := by rw [Below.heap_alloc _ _ _ (lt_of_block hb2)]; exact hb2
  have h6 := heap_setCell_same _ eb 6 _ _ (.int .i64 (c.tr + 1 : Nat)) hb3
  obtain ⟨c', g1, g2, g3, g4, g5⟩ := serve_after (W5 := ((((w2.alloc o).setCell ⟨eb, 6, none⟩ (.int .i64 (c.tr + 1 : Nat))).setCell ⟨w.heap.size, 0, none⟩ a).setCell ⟨w.heap.size, 1, none⟩ b).setCell ⟨w.heap.size, 2, none⟩ d) (tq := c.tq) (tr := c.tr + 1) HE.out hbw hNw hk0 rfl hfs0 HNN.out hq2 hf2 he2 hv2 o
   (by rw [Below.heap_setCell _ _ _ _ hne, Below.heap_setCell _ _ _ _ hne, Below.heap_setCell _ _ _ _ hne, h6]; rfl)
   ((((((Fr.refl _ (w2.alloc o)).setCell (Or.inl (by simp)) _).setCell (Or.inl (by simp)) _).setCell (Or.inl (by simp)) _)).setCell (Or.inl (by simp)) _)
  unfold ServePost
  rw [hser.out]
  refine ⟨m.2, c', rfl, g1, ?_, g3, g4, g5⟩
  rw [g2, hnumk]
  rfl
 obtain ⟨ta, tc, hmv⟩ := own_form ((h.qy _ (List.getElem_mem hk0)).own.ev (fp m) (by simp [CQ.evl, hfs0]))
 obtain ⟨⟨mq, mc, me⟩, mv⟩ := m
 simp only [fp] at hmv
 subst hmv
 have hk6 : Hid (∀ w2 : World, w2.heap[eb]? = some (.cells (eCells eb c) 104 (0, 0)) → (w2.alloc (.cells #[.int .i64 mq, .int .i64 mc, .slice ta me.length tc] 58)).cell? ⟨eb, 6, none⟩ = some (.int .i64 c.tr) ∧ (w2.alloc (.cells #[.int .i64 mq, .int .i64 mc, .slice ta me.length tc] 58)).frozen? ⟨eb, 6, none⟩ = false) := by
  intro w2 hb2
  have hb3 : (w2.alloc (.cells #[.int .i64 mq, .int .i64 mc, .slice ta me.length tc] 58)).heap[eb]? = some (.cells (eCells eb c) 104 (0, 0)) := by rw [Below.heap_alloc _ _ _ (lt_of_block hb2)]; exact hb2
  exact ⟨by rw [cell_of_row _ eb 6 _ _ _ hb3]; rfl, frozen_of_row _ eb 6 _ _ hb3⟩
 have HWA := Hid.mk' hwa
 clear h hEa hba hNa hlf hfl hn hwa hser hnumk hfs0
 go_enter Tryz.func40, Tryz.ntmps40
 go_wp2_with (first | (go_at_call 67; rw [HWA.out]; refine hqu.out.mono ?_; rintro e w0 ⟨rfl, hb0⟩; obtain ⟨c5, c6⟩ := hcell.out w0 hb0) | (go_at_call 68; refine (hpost.out w0 hb0).mono ?_; rintro e w2 ⟨rfl, hN2, hb2, HFIN⟩; have m0 := cell_of_row w2 w.heap.size 0 _ _ _ hN2; have m1 := cell_of_row w2 w.heap.size 1 _ _ _ hN2; have m2 := cell_of_row w2 w.heap.size 2 _ _ _ hN2; have v0 := frozen_of_row w2 w.heap.size 0 _ _ hN2; have v1 := frozen_of_row w2 w.heap.size 1 _ _ hN2; have v2 := frozen_of_row w2 w.heap.size 2 _ _ hN2; simp at m0 m1 m2; have hNl2 := lt_of_block hN2; obtain ⟨k6, z6⟩ := hk6.out w2 hb2; clear hN2 hb2))
 have a0 := alloc_keep (.cells #[.int .i64 mq, .int .i64 mc, .slice ta me.length tc] 58) m0
 have a1 := alloc_keep (.cells #[.int .i64 mq, .int .i64 mc, .slice ta me.length tc] 58) m1
 have a2 := alloc_keep (.cells #[.int .i64 mq, .int .i64 mc, .slice ta me.length tc] 58) m2
 have hfin := HFIN.out (.cells #[.int .i64 mq, .int .i64 mc, .slice ta me.length tc] 58) (.int .i64 mq) (.int .i64 mc) (.slice ta me.length tc)
 refine bodyPost_ret (v := .tuple #[.agg #[.int .i64 mq, .int .i64 mc, .slice ta me.length tc], .bool true]) ?_ rfl (by simpa using hfin)
 simp [results, Tryz.results40, go_sem, a0, a1, a2]

theorem serve_any (w : World) (eb : Nat) (c : CE) (h : EG w eb c) (hn : (c.qs.map (·.2.num)).Nodup) (hfl : ∀ x ∈ c.qs, x.2.fs.length ≤ 1073741824) :
  Calls Tryz.prog 40 #[.pointer (some ⟨eb, 0, none⟩)] w (ServePost w eb c) := by
 have hlast : lastF c.abs = if c.tr < 2 then (match findE c.abs c.tq with | none => none | some q => q.found.head?) else none := rfl
 rw [findE_pos] at hlast
 cases hp : posQ c.tq c.qs with
 | none =>
  rw [hp] at hlast
  exact serve_no w eb c h hn hfl hp (by rw [hlast]; simp)
 | some k =>
  have hk := posQ_lt hp
  rw [hp] at hlast
  simp only [List.getElem?_eq_getElem hk, Option.map_some] at hlast
  by_cases htr : c.tr < 2
  ·rw [if_pos htr] at hlast
   cases hfs : c.qs[k].2.fs with
   | nil => exact serve_dry w eb c h hn hfl k hk hp htr hfs (by rw [hlast]; simp [CQ.abs, hfs])
   | cons m fs => exact serve_last w eb c h hn hfl k hk hp htr m fs hfs (by rw [hlast]; simp [CQ.abs, hfs])
  ·rw [if_neg htr] at hlast
   exact serve_full w eb c h hn hfl k hk hp htr hlast
end Go.Proofs.YtbgfannlfagoiaaGreatDoor
