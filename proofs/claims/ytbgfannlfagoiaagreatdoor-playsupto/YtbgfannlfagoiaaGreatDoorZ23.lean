import Derived.Test.YtbgfannlfagoiaaGreatDoorZ22
import Derived.Shelf.SlSortCmp.QuietGrown
namespace Go.Proofs.YtbgfannlfagoiaaGreatDoor
open Go.RowKit Go.Lull
set_option linter.unusedVariables false

theorem grow_below2 (w : World) (k : Nat) (os : Array Obj) : Below w.heap.size w (Go.Sort.grow (w.drewN k) os) := ⟨rfl, rfl, rfl, (grow_below (w.drewN k) os).size, fun j hj => (grow_below (w.drewN k) os).block j hj⟩

theorem fold_step (d0 : Option Deed) (qs : List (Nat × CQ)) (k : Nat) (hk : k < qs.length) : ((qs.take (k + 1)).map (·.2.abs)).foldl deed1 d0 = deed1 (((qs.take k).map (·.2.abs)).foldl deed1 d0) qs[k].2.abs := by
 rw [List.take_succ_eq_append_getElem hk, List.map_append, List.foldl_append]
 rfl

set_option maxRecDepth 8000 in
set_option maxHeartbeats 2000000 in
theorem first_eg (w : World) (eb : Nat) (c : CE) (h : EG w eb c) :
  Calls Tryz.prog 90 #[.pointer (some ⟨eb, 2, none⟩), c.qv] w fun e w' => e = .returned (deedV (firstD c.buf (c.qs.map (·.2.abs)))) ∧ Below w.heap.size w w' := by
 have e2 := cell_of_row w eb 2 _ _ _ h.blk
 obtain ⟨a, cap, hv, _⟩ := h.buf.form
 simp [eCells, hv] at e2
 obtain ⟨qa, qcap, hqv, _⟩ := h.qrow.form
 have hq10 := h.q10
 have hb60 := h.b60
 rw [hqv]
 have HE := Hid.mk' h
 obtain ⟨d0, hd0⟩ : ∃ d0, c.buf.head?.map Deed.rel = d0 := ⟨_, rfl⟩
 have hR : firstD c.buf (c.qs.map (·.2.abs)) = (c.qs.map (·.2.abs)).foldl deed1 d0 := by rw [← hd0]; rfl
 rw [hR]
 obtain ⟨R, hRR⟩ : ∃ R, (c.qs.map (·.2.abs)).foldl deed1 d0 = R := ⟨_, rfl⟩
 rw [hRR]
 have HR := Hid.mk' hRR
 have m1 := rel_m
 have m2 := fin_m
 have m3 := rel_n
 have m4 := fin_n
 have m5 := nil_nil
 have m6 := ifc_nil
 clear h hR hRR
 go_enter Tryz.func90, Tryz.ntmps90
 cases hb : c.buf with
 | nil =>
  have hd : d0 = none := by rw [← hd0, hb]; rfl
  rw [hb] at e2
  simp only [List.length_nil] at e2
  clear hd0
  go_wp2
  go_loopw [5, 24] (fun v i wr => ∃ (k : Nat) (d : Option Deed), v = deedV d ∧ i = .int .i64 k ∧ k ≤ c.qs.length ∧ Hid (Below w.heap.size w wr) ∧ Hid (d = ((c.qs.take k).map (·.2.abs)).foldl deed1 d0)) (fun _ i _ => c.qs.length - (intOf i).toNat)
  case atStart => exact ⟨0, d0, by rw [hd]; rfl, rfl, Nat.zero_le _, Below.refl _ _, by simp [Hid]⟩
  case round =>
   obtain ⟨k, d, rfl, rfl, hk, HBw, HD⟩ := hrel
   by_cases hlt : k < c.qs.length
   ·obtain ⟨g, off, hva⟩ : ∃ g off, qa = some ⟨g, off, none⟩ := by
     rcases HE.out.qrow.2 with ⟨_, h0⟩ | ⟨g, off, cap, cur, e, _⟩
     ·omega
     ·rw [hqv] at e; cases e; exact ⟨g, off, rfl⟩
    subst hva
    have hEr := HE.out.below HBw.out
    obtain ⟨x, hx⟩ : ∃ x, c.qs[k] = x := ⟨_, rfl⟩
    have hxm : x ∈ c.qs := by rw [← hx]; exact List.getElem_mem hlt
    have hck : wr.cell? ⟨g, off + k, none⟩ = some (.pointer (some ⟨x.1, 0, none⟩)) := by
     have hr := hEr.qrow
     rw [hqv] at hr
     have := ptr_cell hr k hlt
     rw [hx] at this
     exact this
    have hQx := hEr.qy x hxm
    obtain ⟨ra, rcap, hrv, _⟩ := hQx.runs.form
    have r3 := cell_of_row wr x.1 3 _ _ _ hQx.blk
    simp [qCells, hrv] at r3
    have hxl := lt_of_block hQx.blk
    clear hEr
    cases hrs : x.2.rs with
    | nil =>
     have HD2 : Hid (d = ((c.qs.take (k + 1)).map (·.2.abs)).foldl deed1 d0) := by
      unfold Hid
      rw [fold_step d0 c.qs k hlt, ← HD.out, hx]
      simp [deed1, CQ.abs, hrs]
     rw [hrs] at r3
     simp only [List.length_nil] at r3
     have g1 := cell_grown hxl r3
     clear HD hQx
     obtain ⟨dv, hdv⟩ : ∃ dv, deedV d = dv := ⟨_, rfl⟩
     have HDV := Hid.mk' hdv
     rw [hdv]
     clear hdv
     go_wp2_with (fail)
     go_region
     have hbq : Below wr.heap.size wr wr.drew := (Below.refl _ _).drew
     obtain ⟨w2, hw2⟩ : ∃ w2, wr.drew = w2 := ⟨_, rfl⟩
     rw [hw2] at hbq ⊢
     clear hw2
     clear g1
     go_wp2
     go_roundw
     case rel => exact ⟨k + 1, d, HDV.out.symm, by go_num, by omega, HBw.out.trans (hbq.mono HBw.out.size), HD2⟩
     case measure => simp [intOf]; omega
    | cons x0 rest =>
     obtain ⟨r0, rv0⟩ := x0
     obtain ⟨rg, roff, hra⟩ : ∃ rg roff, ra = some ⟨rg, roff, none⟩ := by
      rcases hQx.runs.2 with ⟨_, h0⟩ | ⟨g, off, cap, cur, e, _⟩
      ·rw [hrs] at h0; simp at h0
      ·rw [hrv] at e; cases e; exact ⟨g, off, rfl⟩
     subst hra
     have hrow := hQx.runs
     rw [hrv] at hrow
     have rd := hrow.cell 0 (by rw [hrs]; simp)
     simp [hrs, runC] at rd
     have hrgl := block_lt_of_cell rd
     simp only at hrgl
     have hpos : 0 < x.2.rs.length := by rw [hrs]; simp
     have hpos2 : (0 : Int) < (x.2.rs.length : Int) := by omega
     clear hrow
     rcases d with _ | ⟨ev⟩ | ⟨t⟩
     ·have HD2 : Hid (some (Deed.fin r0.dl) = ((c.qs.take (k + 1)).map (·.2.abs)).foldl deed1 d0) := by
       unfold Hid
       rw [fold_step d0 c.qs k hlt, ← HD.out, hx]
       simp [deed1, CQ.abs, hrs]
      clear HD hQx hrs
      have g1 := cell_grown hxl r3
      have g2 := cell_grown hrgl rd
      simp only [deedV]
      go_wp2_with (fail)
      go_region
      have hbq : Below wr.heap.size wr wr.drew := (Below.refl _ _).drew
      obtain ⟨w2, hw2⟩ : ∃ w2, wr.drew = w2 := ⟨_, rfl⟩
      rw [hw2] at hbq ⊢
      clear hw2
      have k3 := (hbq.cell (p := ⟨x.1, 3, none⟩) hxl).trans r3
      have kd := (hbq.cell (p := ⟨rg, roff, none⟩) hrgl).trans rd
      clear g1 g2
      go_wp2
      go_roundw
      case rel => exact ⟨k + 1, some (.fin r0.dl), rfl, by go_num, by omega, HBw.out.trans (hbq.mono HBw.out.size), HD2⟩
      case measure => simp [intOf]; omega
     ·obtain ⟨es, et, ek, evv⟩ := ev
      simp only [deedV]
      by_cases hless : r0.dl < et
      ·have HD2 : Hid (some (Deed.fin r0.dl) = ((c.qs.take (k + 1)).map (·.2.abs)).foldl deed1 d0) := by
        unfold Hid
        rw [fold_step d0 c.qs k hlt, ← HD.out, hx]
        simp [deed1, CQ.abs, hrs, Deed.time, hless]
       clear HD hQx hrs
       have g1 := cell_grown hxl r3
       have g2 := cell_grown hrgl rd
       go_wp2_with (fail)
       refine wp_region_quiet_grown (by kernel_rfl) (by kernel_rfl) ?_
       repeat (quiet_step (first | (go_at_call 164; refine Calls.grown_of (relTime _ _ _ _ _))))
       refine wpQuiet_nil ?_
       intro _ hw'
       obtain ⟨⟨nq, osq⟩, hw''⟩ := hw'
       subst hw''
       have hbq := grow_below2 wr nq osq
       obtain ⟨w2, hw2⟩ : ∃ w2, Go.Sort.grow (wr.drewN nq) osq = w2 := ⟨_, rfl⟩
       rw [hw2] at hbq ⊢
       clear hw2
       have k3 := (hbq.cell (p := ⟨x.1, 3, none⟩) hxl).trans r3
       have kd := (hbq.cell (p := ⟨rg, roff, none⟩) hrgl).trans rd
       clear g1 g2
       go_wp2
       go_roundw
       case rel => exact ⟨k + 1, some (.fin r0.dl), rfl, by go_num, by omega, HBw.out.trans (hbq.mono HBw.out.size), HD2⟩
       case measure => simp [intOf]; omega
      ·have HD2 : Hid (some (Deed.rel (es, et, ek, evv)) = ((c.qs.take (k + 1)).map (·.2.abs)).foldl deed1 d0) := by
        unfold Hid
        rw [fold_step d0 c.qs k hlt, ← HD.out, hx]
        simp [deed1, CQ.abs, hrs, Deed.time, hless]
       clear HD hQx hrs
       have g1 := cell_grown hxl r3
       have g2 := cell_grown hrgl rd
       go_wp2_with (fail)
       refine wp_region_quiet_grown (by kernel_rfl) (by kernel_rfl) ?_
       repeat (quiet_step (first | (go_at_call 164; refine Calls.grown_of (relTime _ _ _ _ _))))
       refine wpQuiet_nil ?_
       intro _ hw'
       obtain ⟨⟨nq, osq⟩, hw''⟩ := hw'
       subst hw''
       have hbq := grow_below2 wr nq osq
       obtain ⟨w2, hw2⟩ : ∃ w2, Go.Sort.grow (wr.drewN nq) osq = w2 := ⟨_, rfl⟩
       rw [hw2] at hbq ⊢
       clear hw2
       clear g1 g2
       go_wp2
       go_roundw
       case rel => exact ⟨k + 1, some (Deed.rel (es, et, ek, evv)), rfl, by go_num, by omega, HBw.out.trans (hbq.mono HBw.out.size), HD2⟩
       case measure => simp [intOf]; omega
     ·simp only [deedV]
      by_cases hless : r0.dl < t
      ·have HD2 : Hid (some (Deed.fin r0.dl) = ((c.qs.take (k + 1)).map (·.2.abs)).foldl deed1 d0) := by
        unfold Hid
        rw [fold_step d0 c.qs k hlt, ← HD.out, hx]
        simp [deed1, CQ.abs, hrs, Deed.time, hless]
       clear HD hQx hrs
       have g1 := cell_grown hxl r3
       have g2 := cell_grown hrgl rd
       go_wp2_with (fail)
       refine wp_region_quiet_grown (by kernel_rfl) (by kernel_rfl) ?_
       repeat (quiet_step (first | (go_at_call 173; refine Calls.grown_of (finTime _ _))))
       refine wpQuiet_nil ?_
       intro _ hw'
       obtain ⟨⟨nq, osq⟩, hw''⟩ := hw'
       subst hw''
       have hbq := grow_below2 wr nq osq
       obtain ⟨w2, hw2⟩ : ∃ w2, Go.Sort.grow (wr.drewN nq) osq = w2 := ⟨_, rfl⟩
       rw [hw2] at hbq ⊢
       clear hw2
       have k3 := (hbq.cell (p := ⟨x.1, 3, none⟩) hxl).trans r3
       have kd := (hbq.cell (p := ⟨rg, roff, none⟩) hrgl).trans rd
       clear g1 g2
       go_wp2
       go_roundw
       case rel => exact ⟨k + 1, some (.fin r0.dl), rfl, by go_num, by omega, HBw.out.trans (hbq.mono HBw.out.size), HD2⟩
       case measure => simp [intOf]; omega
      ·have HD2 : Hid (some (Deed.fin t) = ((c.qs.take (k + 1)).map (·.2.abs)).foldl deed1 d0) := by
        unfold Hid
        rw [fold_step d0 c.qs k hlt, ← HD.out, hx]
        simp [deed1, CQ.abs, hrs, Deed.time, hless]
       clear HD hQx hrs
       have g1 := cell_grown hxl r3
       have g2 := cell_grown hrgl rd
       go_wp2_with (fail)
       refine wp_region_quiet_grown (by kernel_rfl) (by kernel_rfl) ?_
       repeat (quiet_step (first | (go_at_call 173; refine Calls.grown_of (finTime _ _))))
       refine wpQuiet_nil ?_
       intro _ hw'
       obtain ⟨⟨nq, osq⟩, hw''⟩ := hw'
       subst hw''
       have hbq := grow_below2 wr nq osq
       obtain ⟨w2, hw2⟩ : ∃ w2, Go.Sort.grow (wr.drewN nq) osq = w2 := ⟨_, rfl⟩
       rw [hw2] at hbq ⊢
       clear hw2
       clear g1 g2
       go_wp2
       go_roundw
       case rel => exact ⟨k + 1, some (Deed.fin t), rfl, by go_num, by omega, HBw.out.trans (hbq.mono HBw.out.size), HD2⟩
       case measure => simp [intOf]; omega
   ·have HD2 : Hid (d = R) := by
     unfold Hid
     rw [HD.out, ← HR.out, List.take_of_length_le (by omega)]
    clear HD
    go_wp2
    go_ret
    exact ⟨by rw [HD2.out]; rfl, HBw.out⟩
 | cons e0 r =>
  obtain ⟨es0, et0, ek0, ev0⟩ := e0
  have hd : d0 = some (.rel (es0, et0, ek0, ev0)) := by rw [← hd0, hb]; rfl
  obtain ⟨bg, boff, hba⟩ : ∃ bg boff, a = some ⟨bg, boff, none⟩ := by
   rcases HE.out.buf.2 with ⟨_, h0⟩ | ⟨g, off, cap, cur, e, _⟩
   ·rw [hb] at h0; simp at h0
   ·rw [hv] at e; cases e; exact ⟨g, off, rfl⟩
  subst hba
  have hrowb := HE.out.buf
  rw [hv] at hrowb
  have b0 := hrowb.cell 0 (by rw [hb]; simp; try omega)
  have b1 := hrowb.cell 1 (by rw [hb]; simp; try omega)
  have b2 := hrowb.cell 2 (by rw [hb]; simp; try omega)
  have b3 := hrowb.cell 3 (by rw [hb]; simp; try omega)
  simp [hb, evC] at b0 b1 b2 b3
  have hposb : 0 < c.buf.length := by rw [hb]; simp
  clear hd0 hrowb hb
  go_wp2
  go_loopw [5, 24] (fun v i wr => ∃ (k : Nat) (d : Option Deed), v = deedV d ∧ i = .int .i64 k ∧ k ≤ c.qs.length ∧ Hid (Below w.heap.size w wr) ∧ Hid (d = ((c.qs.take k).map (·.2.abs)).foldl deed1 d0)) (fun _ i _ => c.qs.length - (intOf i).toNat)
  case atStart => exact ⟨0, d0, by rw [hd]; rfl, rfl, Nat.zero_le _, Below.refl _ _, by simp [Hid]⟩
  case round =>
   obtain ⟨k, d, rfl, rfl, hk, HBw, HD⟩ := hrel
   by_cases hlt : k < c.qs.length
   ·obtain ⟨g, off, hva⟩ : ∃ g off, qa = some ⟨g, off, none⟩ := by
     rcases HE.out.qrow.2 with ⟨_, h0⟩ | ⟨g, off, cap, cur, e, _⟩
     ·omega
     ·rw [hqv] at e; cases e; exact ⟨g, off, rfl⟩
    subst hva
    have hEr := HE.out.below HBw.out
    obtain ⟨x, hx⟩ : ∃ x, c.qs[k] = x := ⟨_, rfl⟩
    have hxm : x ∈ c.qs := by rw [← hx]; exact List.getElem_mem hlt
    have hck : wr.cell? ⟨g, off + k, none⟩ = some (.pointer (some ⟨x.1, 0, none⟩)) := by
     have hr := hEr.qrow
     rw [hqv] at hr
     have := ptr_cell hr k hlt
     rw [hx] at this
     exact this
    have hQx := hEr.qy x hxm
    obtain ⟨ra, rcap, hrv, _⟩ := hQx.runs.form
    have r3 := cell_of_row wr x.1 3 _ _ _ hQx.blk
    simp [qCells, hrv] at r3
    have hxl := lt_of_block hQx.blk
    clear hEr
    cases hrs : x.2.rs with
    | nil =>
     have HD2 : Hid (d = ((c.qs.take (k + 1)).map (·.2.abs)).foldl deed1 d0) := by
      unfold Hid
      rw [fold_step d0 c.qs k hlt, ← HD.out, hx]
      simp [deed1, CQ.abs, hrs]
     rw [hrs] at r3
     simp only [List.length_nil] at r3
     have g1 := cell_grown hxl r3
     clear HD hQx
     obtain ⟨dv, hdv⟩ : ∃ dv, deedV d = dv := ⟨_, rfl⟩
     have HDV := Hid.mk' hdv
     rw [hdv]
     clear hdv
     go_wp2_with (fail)
     go_region
     have hbq : Below wr.heap.size wr wr.drew := (Below.refl _ _).drew
     obtain ⟨w2, hw2⟩ : ∃ w2, wr.drew = w2 := ⟨_, rfl⟩
     rw [hw2] at hbq ⊢
     clear hw2
     clear g1
     go_wp2
     go_roundw
     case rel => exact ⟨k + 1, d, HDV.out.symm, by go_num, by omega, HBw.out.trans (hbq.mono HBw.out.size), HD2⟩
     case measure => simp [intOf]; omega
    | cons x0 rest =>
     obtain ⟨r0, rv0⟩ := x0
     obtain ⟨rg, roff, hra⟩ : ∃ rg roff, ra = some ⟨rg, roff, none⟩ := by
      rcases hQx.runs.2 with ⟨_, h0⟩ | ⟨g, off, cap, cur, e, _⟩
      ·rw [hrs] at h0; simp at h0
      ·rw [hrv] at e; cases e; exact ⟨g, off, rfl⟩
     subst hra
     have hrow := hQx.runs
     rw [hrv] at hrow
     have rd := hrow.cell 0 (by rw [hrs]; simp)
     simp [hrs, runC] at rd
     have hrgl := block_lt_of_cell rd
     simp only at hrgl
     have hpos : 0 < x.2.rs.length := by rw [hrs]; simp
     have hpos2 : (0 : Int) < (x.2.rs.length : Int) := by omega
     clear hrow
     rcases d with _ | ⟨ev⟩ | ⟨t⟩
     ·have HD2 : Hid (some (Deed.fin r0.dl) = ((c.qs.take (k + 1)).map (·.2.abs)).foldl deed1 d0) := by
       unfold Hid
       rw [fold_step d0 c.qs k hlt, ← HD.out, hx]
       simp [deed1, CQ.abs, hrs]
      clear HD hQx hrs
      have g1 := cell_grown hxl r3
      have g2 := cell_grown hrgl rd
      simp only [deedV]
      go_wp2_with (fail)
      go_region
      have hbq : Below wr.heap.size wr wr.drew := (Below.refl _ _).drew
      obtain ⟨w2, hw2⟩ : ∃ w2, wr.drew = w2 := ⟨_, rfl⟩
      rw [hw2] at hbq ⊢
      clear hw2
      have k3 := (hbq.cell (p := ⟨x.1, 3, none⟩) hxl).trans r3
      have kd := (hbq.cell (p := ⟨rg, roff, none⟩) hrgl).trans rd
      clear g1 g2
      go_wp2
      go_roundw
      case rel => exact ⟨k + 1, some (.fin r0.dl), rfl, by go_num, by omega, HBw.out.trans (hbq.mono HBw.out.size), HD2⟩
      case measure => simp [intOf]; omega
     ·obtain ⟨es, et, ek, evv⟩ := ev
      simp only [deedV]
      by_cases hless : r0.dl < et
      ·have HD2 : Hid (some (Deed.fin r0.dl) = ((c.qs.take (k + 1)).map (·.2.abs)).foldl deed1 d0) := by
        unfold Hid
        rw [fold_step d0 c.qs k hlt, ← HD.out, hx]
        simp [deed1, CQ.abs, hrs, Deed.time, hless]
       clear HD hQx hrs
       have g1 := cell_grown hxl r3
       have g2 := cell_grown hrgl rd
       go_wp2_with (fail)
       refine wp_region_quiet_grown (by kernel_rfl) (by kernel_rfl) ?_
       repeat (quiet_step (first | (go_at_call 164; refine Calls.grown_of (relTime _ _ _ _ _))))
       refine wpQuiet_nil ?_
       intro _ hw'
       obtain ⟨⟨nq, osq⟩, hw''⟩ := hw'
       subst hw''
       have hbq := grow_below2 wr nq osq
       obtain ⟨w2, hw2⟩ : ∃ w2, Go.Sort.grow (wr.drewN nq) osq = w2 := ⟨_, rfl⟩
       rw [hw2] at hbq ⊢
       clear hw2
       have k3 := (hbq.cell (p := ⟨x.1, 3, none⟩) hxl).trans r3
       have kd := (hbq.cell (p := ⟨rg, roff, none⟩) hrgl).trans rd
       clear g1 g2
       go_wp2
       go_roundw
       case rel => exact ⟨k + 1, some (.fin r0.dl), rfl, by go_num, by omega, HBw.out.trans (hbq.mono HBw.out.size), HD2⟩
       case measure => simp [intOf]; omega
      ·have HD2 : Hid (some (Deed.rel (es, et, ek, evv)) = ((c.qs.take (k + 1)).map (·.2.abs)).foldl deed1 d0) := by
        unfold Hid
        rw [fold_step d0 c.qs k hlt, ← HD.out, hx]
        simp [deed1, CQ.abs, hrs, Deed.time, hless]
       clear HD hQx hrs
       have g1 := cell_grown hxl r3
       have g2 := cell_grown hrgl rd
       go_wp2_with (fail)
       refine wp_region_quiet_grown (by kernel_rfl) (by kernel_rfl) ?_
       repeat (quiet_step (first | (go_at_call 164; refine Calls.grown_of (relTime _ _ _ _ _))))
       refine wpQuiet_nil ?_
       intro _ hw'
       obtain ⟨⟨nq, osq⟩, hw''⟩ := hw'
       subst hw''
       have hbq := grow_below2 wr nq osq
       obtain ⟨w2, hw2⟩ : ∃ w2, Go.Sort.grow (wr.drewN nq) osq = w2 := ⟨_, rfl⟩
       rw [hw2] at hbq ⊢
       clear hw2
       clear g1 g2
       go_wp2
       go_roundw
       case rel => exact ⟨k + 1, some (Deed.rel (es, et, ek, evv)), rfl, by go_num, by omega, HBw.out.trans (hbq.mono HBw.out.size), HD2⟩
       case measure => simp [intOf]; omega
     ·simp only [deedV]
      by_cases hless : r0.dl < t
      ·have HD2 : Hid (some (Deed.fin r0.dl) = ((c.qs.take (k + 1)).map (·.2.abs)).foldl deed1 d0) := by
        unfold Hid
        rw [fold_step d0 c.qs k hlt, ← HD.out, hx]
        simp [deed1, CQ.abs, hrs, Deed.time, hless]
       clear HD hQx hrs
       have g1 := cell_grown hxl r3
       have g2 := cell_grown hrgl rd
       go_wp2_with (fail)
       refine wp_region_quiet_grown (by kernel_rfl) (by kernel_rfl) ?_
       repeat (quiet_step (first | (go_at_call 173; refine Calls.grown_of (finTime _ _))))
       refine wpQuiet_nil ?_
       intro _ hw'
       obtain ⟨⟨nq, osq⟩, hw''⟩ := hw'
       subst hw''
       have hbq := grow_below2 wr nq osq
       obtain ⟨w2, hw2⟩ : ∃ w2, Go.Sort.grow (wr.drewN nq) osq = w2 := ⟨_, rfl⟩
       rw [hw2] at hbq ⊢
       clear hw2
       have k3 := (hbq.cell (p := ⟨x.1, 3, none⟩) hxl).trans r3
       have kd := (hbq.cell (p := ⟨rg, roff, none⟩) hrgl).trans rd
       clear g1 g2
       go_wp2
       go_roundw
       case rel => exact ⟨k + 1, some (.fin r0.dl), rfl, by go_num, by omega, HBw.out.trans (hbq.mono HBw.out.size), HD2⟩
       case measure => simp [intOf]; omega
      ·have HD2 : Hid (some (Deed.fin t) = ((c.qs.take (k + 1)).map (·.2.abs)).foldl deed1 d0) := by
        unfold Hid
        rw [fold_step d0 c.qs k hlt, ← HD.out, hx]
        simp [deed1, CQ.abs, hrs, Deed.time, hless]
       clear HD hQx hrs
       have g1 := cell_grown hxl r3
       have g2 := cell_grown hrgl rd
       go_wp2_with (fail)
       refine wp_region_quiet_grown (by kernel_rfl) (by kernel_rfl) ?_
       repeat (quiet_step (first | (go_at_call 173; refine Calls.grown_of (finTime _ _))))
       refine wpQuiet_nil ?_
       intro _ hw'
       obtain ⟨⟨nq, osq⟩, hw''⟩ := hw'
       subst hw''
       have hbq := grow_below2 wr nq osq
       obtain ⟨w2, hw2⟩ : ∃ w2, Go.Sort.grow (wr.drewN nq) osq = w2 := ⟨_, rfl⟩
       rw [hw2] at hbq ⊢
       clear hw2
       clear g1 g2
       go_wp2
       go_roundw
       case rel => exact ⟨k + 1, some (Deed.fin t), rfl, by go_num, by omega, HBw.out.trans (hbq.mono HBw.out.size), HD2⟩
       case measure => simp [intOf]; omega
   ·have HD2 : Hid (d = R) := by
     unfold Hid
     rw [HD.out, ← HR.out, List.take_of_length_le (by omega)]
    clear HD
    go_wp2
    go_ret
    exact ⟨by rw [HD2.out]; rfl, HBw.out⟩
end Go.Proofs.YtbgfannlfagoiaaGreatDoor
