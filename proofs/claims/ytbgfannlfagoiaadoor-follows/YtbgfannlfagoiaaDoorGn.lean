import Derived.Test.YtbgfannlfagoiaaDoorGl
import Derived.Test.YtbgfannlfagoiaaDoorGm
import Derived.Test.YtbgfannlfagoiaaDoorPure
import Derived.Deep.LoopGhost
namespace Go.Proofs.YtbgfannlfagoiaaDoor
open Go.RowKit Go.Lull
set_option linter.unusedVariables false

/-- Pass, in the midst. -/
structure PS (w wr : World) (eb : Nat) (c ck : CE) (wm : Int) : Prop where
  eg : EG wr eb ck
  ext : Ext w (c.blocks eb) wr (ck.blocks eb)
  qv : ck.qv = c.qv
  abs : ck.abs = { c.abs with buf := ck.buf, qs := ck.abs.qs }
  eq : pass wm (c.buf, c.abs.qs) = pass wm (ck.buf, ck.abs.qs)
  tm : TM ck.buf
  sz : SZ (ck.buf, ck.abs.qs)
theorem PS.below {w wr w2 : World} {eb : Nat} {c ck : CE} {wm : Int} (h : PS w wr eb c ck wm) (hb : Below wr.heap.size wr w2) : PS w w2 eb c ck wm :=
  ⟨h.eg.below hb, h.ext.trans (Ext.below hb), h.qv, h.abs, h.eq, h.tm, h.sz⟩
theorem PS.size {w wr : World} {eb : Nat} {c ck : CE} {wm : Int} (h : PS w wr eb c ck wm) : ∀ x ∈ ck.qs, x.2.fs.length + x.2.rs.length ≤ 536870912 := by
  intro x hx
  have := h.sz x.2.abs (List.mem_map_of_mem (f := fun x : Nat × CQ => x.2.abs) hx)
  simp [CQ.abs] at this
  omega
theorem PS.next {w wr w2 : World} {eb : Nat} {c ck c2 : CE} {wm : Int} {d : Deed} (h : PS w wr eb c ck wm) (hd : firstD ck.buf ck.abs.qs = some d) (ht : d.time < wm) (he : EG w2 eb c2) (hx : Ext wr (ck.blocks eb) w2 (c2.blocks eb)) (hq : c2.qv = ck.qv)
    (ha : c2.abs = { ck.abs with buf := (doD (ck.buf, ck.abs.qs) d).1, qs := (doD (ck.buf, ck.abs.qs) d).2 }) : PS w w2 eb c c2 wm := by
  have hb : c2.buf = (doD (ck.buf, ck.abs.qs) d).1 := congrArg En.buf ha
  have hqs : c2.abs.qs = (doD (ck.buf, ck.abs.qs) d).2 := congrArg En.qs ha
  refine ⟨he, h.ext.trans hx, hq.trans h.qv, ?_, ?_, ?_, ?_⟩
  · rw [ha, h.abs]
    simp only [hb]
  · rw [h.eq, pass_step (s := (ck.buf, ck.abs.qs)) hd ht, hb, hqs]
  · rw [hb]; exact TM.step (s := (ck.buf, ck.abs.qs)) h.tm
  · rw [hb, hqs]; exact h.sz.step hd

/-- What Pass leaves. -/
def PassPost (w : World) (eb : Nat) (c : CE) (wm : Int) (e : Ending) (w' : World) : Prop :=
  EPost w eb c (fun c' => c'.abs = { c.abs with buf := (pass wm (c.buf, c.abs.qs)).1, qs := (pass wm (c.buf, c.abs.qs)).2 }) e w'

theorem PS.done {w wr : World} {eb : Nat} {c ck : CE} {wm : Int} (h : PS w wr eb c ck wm) (hp : pass wm (ck.buf, ck.abs.qs) = (ck.buf, ck.abs.qs)) : PassPost w eb c wm (.returned (.tuple #[])) wr := by
  refine ⟨rfl, ck, h.eg, ?_, h.ext⟩
  rw [h.eq, hp]
  exact h.abs

set_option maxRecDepth 8000 in
set_option maxHeartbeats 2000000 in
theorem pass_eg (w : World) (eb : Nat) (c : CE) (wm : Int) (h : EG w eb c) (htm : TM c.buf) (hsz : SZ (c.buf, c.abs.qs)) :
    Calls Tryd.prog 45 #[.pointer (some ⟨eb, 2, none⟩), .int .i64 wm, c.qv] w (PassPost w eb c wm) := by
  have m1 := rel_m
  have m2 := fin_m
  have m3 := rel_n
  have m4 := fin_n
  have m5 := nil_nil'
  have m6 := ifc_nil'
  have m7 := rel_d
  have m8 := fin_d
  have m9 := rel_dn
  have m10 := fin_dn
  obtain ⟨qa, qcap, hqv, _⟩ := h.qrow.form
  have hfirst : Hid (∀ wr ck, EG wr eb ck → ck.qv = c.qv → Calls Tryd.prog 67 #[.pointer (some ⟨eb, 2, none⟩), .slice qa c.qs.length qcap] wr fun e w' => e = .returned (deedV (firstD ck.buf ck.abs.qs)) ∧ Below wr.heap.size wr w') := by
    intro wr ck hk hq
    have := first_eg wr eb ck hk
    rw [hq, hqv] at this
    exact this
  have h0 : Hid (PS w w eb c c wm) := ⟨h, Ext.refl _ _, rfl, rfl, rfl, htm, hsz⟩
  obtain ⟨PP, hPP⟩ : ∃ PP, PassPost w eb c wm = PP := ⟨_, rfl⟩
  rw [hPP, hqv]
  have HPP := Hid.mk' hPP
  have HQV := Hid.mk' hqv
  clear h htm hsz hPP hqv
  go_enter Tryd.func45, Tryd.ntmps45
  go_wp2_with (go_at_call 67; refine (hfirst.out w c h0.out.eg rfl).mono ?_; rintro e w1 ⟨rfl, hb1⟩)
  obtain ⟨dv0, hdv0⟩ : ∃ dv0, deedV (firstD c.buf c.abs.qs) = dv0 := ⟨_, rfl⟩
  rw [hdv0]
  have HDV0 := Hid.mk' hdv0
  clear hdv0
  go_loopg [6] (passM (c.buf, c.abs.qs)) (fun gk v wr => ∃ (ck : CE), v = deedV (firstD ck.buf ck.abs.qs) ∧ Hid (PS w wr eb c ck wm) ∧ Hid (gk = passM (ck.buf, ck.abs.qs)))
  case atStart => exact ⟨c, HDV0.out.symm, h0.out.below hb1, rfl⟩
  case round =>
    obtain ⟨ck, rfl, HP, HK⟩ := hrel
    cases hd : firstD ck.buf ck.abs.qs with
    | none =>
      have hfin : Hid (PP (.returned (.tuple #[])) wr) := by unfold Hid; rw [← HPP.out]; exact HP.out.done (pass_none hd)
      simp only [deedV]
      clear HP HK hd
      go_wp2
      go_end0
      exact hfin.out
    | some d =>
      have hnx : Hid (∀ w2 c2, d.time < wm → EG w2 eb c2 → Ext wr (ck.blocks eb) w2 (c2.blocks eb) → c2.qv = ck.qv → c2.abs = { ck.abs with buf := (doD (ck.buf, ck.abs.qs) d).1, qs := (doD (ck.buf, ck.abs.qs) d).2 } → PS w w2 eb c c2 wm ∧ passM (c2.buf, c2.abs.qs) < gk) := by
        intro w2 c2 ht he hx hq ha
        refine ⟨HP.out.next hd ht he hx hq ha, ?_⟩
        have h1 := passM_less (s := (ck.buf, ck.abs.qs)) hd
        rw [HK.out]
        have hb : c2.buf = (doD (ck.buf, ck.abs.qs) d).1 := congrArg En.buf ha
        have hqs : c2.abs.qs = (doD (ck.buf, ck.abs.qs) d).2 := congrArg En.qs ha
        rw [hb, hqs]
        exact h1
      cases d with
      | fin t =>
        simp only [deedV]
        by_cases ht : t < wm
        · have hdo : Hid (∀ W, Below wr.heap.size wr W → Calls Tryd.prog 152 #[.agg #[.int .i64 t], .pointer (some ⟨eb, 2, none⟩), .slice qa c.qs.length qcap] W fun e w2 => e = .returned (.tuple #[]) ∧ ∃ c2, Hid (PS w w2 eb c c2 wm ∧ passM (c2.buf, c2.abs.qs) < gk)) := by
            intro W hW
            have hf := finDo W eb ck t (.pointer (some ⟨eb, 2, none⟩)) (HP.out.eg.below hW) HP.out.size
            rw [HP.out.qv, HQV.out] at hf
            refine hf.mono ?_
            rintro e w2 ⟨rfl, c2, g1, ⟨g2, g3⟩, g4⟩
            exact ⟨rfl, c2, hnx.out w2 c2 ht g1 ((Ext.below hW).trans g4) (by rw [g3, HP.out.qv, HQV.out]) g2⟩
          clear HP HK hd hnx
          go_wp2_with (first | (go_at_call 153; refine (finTime _ _).mono ?_; rintro e w3 ⟨rfl, q3, o3, rfl⟩) | (go_at_call 152; refine (hdo.out _ (grow_below2 wr _ _)).mono ?_; rintro e w2 ⟨rfl, c2, HN⟩) | (go_at_call 67; refine (hfirst.out w2 c2 HN.out.1.eg HN.out.1.qv).mono ?_; rintro e w4 ⟨rfl, hb4⟩))
          go_roundg (passM (c2.buf, c2.abs.qs))
          case measure => exact HN.out.2
          case rel => exact ⟨c2, rfl, HN.out.1.below hb4, rfl⟩
        · have hfin : Hid (∀ W, Below wr.heap.size wr W → PP (.returned (.tuple #[])) W) := by
            intro W hW
            rw [← HPP.out]
            exact (HP.out.below hW).done (pass_late (d := .fin t) hd ht)
          clear HP HK hd hnx
          go_wp2_with (go_at_call 153; refine (finTime _ _).mono ?_; rintro e w3 ⟨rfl, q3, o3, rfl⟩)
          go_end0
          exact hfin.out _ (grow_below2 wr _ _)
      | rel ev =>
        obtain ⟨r, hr⟩ := firstD_rel hd
        obtain ⟨es, et, ek, evv⟩ := ev
        simp only [deedV]
        by_cases ht : et < wm
        · have hdo : Hid (∀ W, Below wr.heap.size wr W → Calls Tryd.prog 143 #[.agg #[.int .i64 es, .int .i64 et, .int .u8 ek.toNat, .int .i64 evv], .pointer (some ⟨eb, 2, none⟩), .slice qa c.qs.length qcap] W fun e w2 => e = .returned (.tuple #[]) ∧ ∃ c2, Hid (PS w w2 eb c c2 wm ∧ passM (c2.buf, c2.abs.qs) < gk)) := by
            intro W hW
            have htm := HP.out.tm (es, et, ek, evv) (by rw [hr]; exact List.mem_cons_self)
            have hf := relDo W eb ck (es, et, ek, evv) r (HP.out.eg.below hW) hr htm.1 htm.2 HP.out.size
            rw [HP.out.qv, HQV.out] at hf
            refine hf.mono ?_
            rintro e w2 ⟨rfl, c2, g1, ⟨g2, g3⟩, g4⟩
            refine ⟨rfl, c2, hnx.out w2 c2 ht g1 ((Ext.below hW).trans g4) (by rw [g3, HP.out.qv, HQV.out]) ?_⟩
            rw [g2]
            simp only [doD, hr, List.tail_cons]
          clear HP HK hd hnx hr
          go_wp2_with (first | (go_at_call 144; refine (relTime _ _ _ _ _).mono ?_; rintro e w3 ⟨rfl, q3, o3, rfl⟩) | (go_at_call 143; refine (hdo.out _ (grow_below2 wr _ _)).mono ?_; rintro e w2 ⟨rfl, c2, HN⟩) | (go_at_call 67; refine (hfirst.out w2 c2 HN.out.1.eg HN.out.1.qv).mono ?_; rintro e w4 ⟨rfl, hb4⟩))
          go_roundg (passM (c2.buf, c2.abs.qs))
          case measure => exact HN.out.2
          case rel => exact ⟨c2, rfl, HN.out.1.below hb4, rfl⟩
        · have hfin : Hid (∀ W, Below wr.heap.size wr W → PP (.returned (.tuple #[])) W) := by
            intro W hW
            rw [← HPP.out]
            exact (HP.out.below hW).done (pass_late (d := .rel (es, et, ek, evv)) hd ht)
          clear HP HK hd hnx hr
          go_wp2_with (go_at_call 144; refine (relTime _ _ _ _ _).mono ?_; rintro e w3 ⟨rfl, q3, o3, rfl⟩)
          go_end0
          exact hfin.out _ (grow_below2 wr _ _)
end Go.Proofs.YtbgfannlfagoiaaDoor

namespace Go.Proofs.YtbgfannlfagoiaaDoor
open Go.RowKit Go.Lull
set_option linter.unusedVariables false

theorem EG.setMark {w : World} {eb : Nat} {c : CE} (h : EG w eb c) (s : Nat) (t : Int) (hs : s < c.marks.length) :
    EG (w.setCell ⟨c.mg, s, none⟩ (.int .i64 t)) eb { c with marks := c.marks.set s t } ∧ Ext w (c.blocks eb) (w.setCell ⟨c.mg, s, none⟩ (.int .i64 t)) (CE.blocks { c with marks := c.marks.set s t } eb) := by
  have hnd := h.nd
  have hp : (c.blocks eb).Perm (c.mg :: (c.bv.ownBlock.toList ++ (c.qv.ownBlock.toList ++ [eb]) ++ qsb c.qs)) := by
    unfold CE.blocks CE.base
    have h1 : (c.qv.ownBlock.toList ++ [eb, c.mg]).Perm (c.mg :: (c.qv.ownBlock.toList ++ [eb])) := (List.Perm.append_left _ (List.Perm.swap c.mg eb [])).trans List.perm_middle
    rw [← List.cons_append]
    exact List.Perm.append_right _ ((List.Perm.append_left _ h1).trans List.perm_middle)
  have hkeep : ∀ b ∈ c.bv.ownBlock.toList ++ (c.qv.ownBlock.toList ++ [eb]) ++ qsb c.qs, (w.setCell ⟨c.mg, s, none⟩ (.int .i64 t)).heap[b]? = w.heap[b]? := fun b hb =>
    Below.heap_setCell _ _ _ _ (fun e => by
      have e' : b = c.mg := e
      subst e'
      exact (List.nodup_cons.1 (hp.nodup_iff.1 hnd)).1 hb)
  have hsz : w.heap.size ≤ (w.setCell ⟨c.mg, s, none⟩ (.int .i64 t)).heap.size := by simp [World.setCell]
  refine ⟨⟨?_, ?_, by simpa using h.m1, by simpa using h.m8, h.buf.same (fun b hb => hkeep b (by simp [hb])), h.qrow.same (fun b hb => hkeep b (by simp [hb])), fun x hx => (h.qy x hx).same hsz (fun b hb => hkeep b (List.mem_append_right _ (mem_qsb hx hb))), h.nd, h.q10, h.b60⟩, ⟨(Fr.refl _ _).setCell (Or.inl (by simp [CE.blocks, CE.base])) _, fun b hb => Or.inl hb⟩⟩
  · rw [hkeep eb (by simp)]
    have := h.blk
    simpa [eCells] using this
  · refine ⟨by simp, ?_⟩
    rcases h.marks.2 with ⟨e, _⟩ | ⟨g, cap, cur, h1, h2, h3, h4, h5, h6, h7⟩
    · cases e
    · cases h1
      refine Or.inr ⟨c.mg, c.mc, cur.setIfInBounds s (.int .i64 t), by simp, Nat.zero_le _, heap_setCell_same w c.mg s _ _ _ h3, by simpa using h4, h5, by simpa using h6, ?_⟩
      simp only [List.length_set, Nat.mul_one] at *
      rw [Array.toList_setIfInBounds, List.take_set, h7, List.map_set]

/-- What Beat leaves. -/
def BeatPost (w : World) (eb : Nat) (c : CE) (s t : Int) (e : Ending) (w' : World) : Prop :=
  e = .returned (.int .i64 (beatE c.abs s t).1) ∧ ∃ c', EG w' eb c' ∧ c'.abs = (beatE c.abs s t).2 ∧ Ext w (c.blocks eb) w' (c'.blocks eb)

set_option maxHeartbeats 400000 in
theorem beat_bad (w : World) (eb : Nat) (c : CE) (s t : Int) (h : EG w eb c) (hb : s < 0 ∨ (c.marks.length : Int) ≤ s ∨ t < 0 ∨ 2000000 < t) :
    Calls Tryd.prog 22 #[.pointer (some ⟨eb, 0, none⟩), .int .i64 s, .int .i64 t] w (BeatPost w eb c s t) := by
  have hmade := Hid.mk' (made_yes eb w h.self)
  have e1 := cell_of_row w eb 1 _ _ _ h.blk
  simp [eCells] at e1
  have hm8 := h.m8
  have hB : beatE c.abs s t = (1, c.abs) := by unfold beatE; exact if_pos hb
  have hfin : Hid (BeatPost w eb c s t (.returned (.int .i64 1)) w) := by unfold Hid BeatPost; rw [hB]; exact ⟨rfl, c, h, rfl, Ext.refl _ _⟩
  clear h hB
  by_cases h1 : s < 0
  · clear hb
    go_enter Tryd.func22, Tryd.ntmps22
    go_wp2_with (go_at_call 41; refine hmade.out.mono ?_; rintro e w' ⟨rfl, rfl⟩)
    go_ret
    exact hfin.out
  · by_cases h2 : (c.marks.length : Int) ≤ s
    · clear hb
      go_enter Tryd.func22, Tryd.ntmps22
      go_wp2_with (go_at_call 41; refine hmade.out.mono ?_; rintro e w' ⟨rfl, rfl⟩)
      go_ret
      exact hfin.out
    · by_cases h3 : t < 0
      · clear hb
        go_enter Tryd.func22, Tryd.ntmps22
        go_wp2_with (go_at_call 41; refine hmade.out.mono ?_; rintro e w' ⟨rfl, rfl⟩)
        go_ret
        exact hfin.out
      · have h4 : 2000000 < t := by rcases hb with h | h | h | h <;> first | exact absurd h h1 | exact absurd h h2 | exact absurd h h3 | exact h
        clear hb
        go_enter Tryd.func22, Tryd.ntmps22
        go_wp2_with (go_at_call 41; refine hmade.out.mono ?_; rintro e w' ⟨rfl, rfl⟩)
        go_ret
        exact hfin.out

set_option maxHeartbeats 1000000 in
theorem beat_ok (w : World) (eb : Nat) (c : CE) (s : Nat) (t : Int) (h : EG w eb c) (hs : s < c.marks.length) (ht0 : ¬ t < 0) (ht1 : ¬ 2000000 < t) (htm : TM c.buf) (hsz : SZ (c.buf, c.abs.qs)) :
    Calls Tryd.prog 22 #[.pointer (some ⟨eb, 0, none⟩), .int .i64 s, .int .i64 t] w (BeatPost w eb c s t) := by
  have hmade := Hid.mk' (made_yes eb w h.self)
  have e1 := cell_of_row w eb 1 _ _ _ h.blk
  simp [eCells] at e1
  have hm8 := h.m8
  have hms := h.mark s hs
  have hcap := h.mcap
  have hn : ¬ ((s : Int) < 0 ∨ ((c.abs.marks.length : Nat) : Int) ≤ (s : Int) ∨ t < 0 ∨ 2000000 < t) := by
    show ¬ ((s : Int) < 0 ∨ ((c.marks.length : Nat) : Int) ≤ (s : Int) ∨ t < 0 ∨ 2000000 < t)
    omega
  have hget : c.abs.marks.getD (s : Int).toNat 0 = c.marks[s] := by
    show c.marks.getD (s : Int).toNat 0 = _
    simp [hs]
  by_cases hl : t < c.marks[s]
  · have hB : beatE c.abs s t = (5, c.abs) := by unfold beatE; rw [if_neg hn, if_pos (by rw [hget]; exact hl)]
    have hfin : Hid (BeatPost w eb c s t (.returned (.int .i64 5)) w) := by unfold Hid BeatPost; rw [hB]; exact ⟨rfl, c, h, rfl, Ext.refl _ _⟩
    clear h hB htm hsz hn hget
    go_enter Tryd.func22, Tryd.ntmps22
    go_wp2_with (go_at_call 41; refine hmade.out.mono ?_; rintro e w' ⟨rfl, rfl⟩)
    go_ret
    exact hfin.out
  · obtain ⟨g1, g2⟩ := h.setMark s t hs
    obtain ⟨c1, hc1⟩ : ∃ c1, { c with marks := c.marks.set s t : CE } = c1 := ⟨_, rfl⟩
    obtain ⟨w1, hw1⟩ : ∃ w1, w.setCell ⟨c.mg, s, none⟩ (.int .i64 t) = w1 := ⟨_, rfl⟩
    rw [hc1, hw1] at g1 g2
    have hcm : c1.marks = c.marks.set s t := by rw [← hc1]
    have hq1 : c1.qv = c.qv := by rw [← hc1]
    have hB : beatE c.abs s t = (0, { c1.abs with buf := (pass (markB c1.marks) (c1.buf, c1.abs.qs)).1, qs := (pass (markB c1.marks) (c1.buf, c1.abs.qs)).2 }) := by
      unfold beatE
      rw [if_neg hn, if_neg (by rw [hget]; exact hl), ← hc1]
      simp [CE.abs]
    have e31 := cell_of_row w1 eb 3 _ _ _ g1.blk
    simp [eCells] at e31
    have hwm : Hid (∀ q, Calls Tryd.prog 31 #[.pointer (some ⟨eb, 0, none⟩)] (w1.drewN q) fun e w' => e = .returned (.int .i64 (markB c1.marks)) ∧ w' = w1.drewN q) := fun q => wm_eg (w1.drewN q) eb c1 (g1.drewN q)
    have hpass : Hid (∀ q, Calls Tryd.prog 45 #[.pointer (some ⟨eb, 2, none⟩), .int .i64 (markB c1.marks), c1.qv] (w1.drewN q) fun e w2 => e = .returned (.tuple #[]) ∧ Hid (BeatPost w eb c s t (.returned (.int .i64 0)) w2)) := by
      intro q
      refine (pass_eg (w1.drewN q) eb c1 (markB c1.marks) (g1.drewN q) (by rw [← hc1]; exact htm) (by rw [← hc1]; exact hsz)).mono ?_
      rintro e w2 ⟨rfl, c2, k1, k2, k3⟩
      refine ⟨rfl, ?_⟩
      unfold Hid BeatPost
      rw [hB]
      exact ⟨rfl, c2, k1, k2, g2.trans ⟨⟨k3.fr.os, k3.fr.tape, k3.fr.output, k3.fr.size, k3.fr.block⟩, k3.sub⟩⟩
    obtain ⟨qa, qn, qc, hqv⟩ : ∃ qa qn qc, c1.qv = .slice qa qn qc := by
      obtain ⟨a, cap, e, _⟩ := g1.qrow.form
      exact ⟨_, _, _, e⟩
    rw [hqv] at e31 hpass
    have hfz : w.frozen? ⟨c.mg, s, none⟩ = false := by
      rcases h.marks.2 with ⟨e, _⟩ | ⟨g, cap, cur, h1, _, h3, _⟩
      · cases e
      · cases h1; exact frozen_of_row _ _ _ _ _ h3
    have HW1 := Hid.mk' hw1
    clear h hB htm hsz hn hget g1 g2 hc1 hcm hq1 hqv hw1
    go_enter Tryd.func22, Tryd.ntmps22
    go_wp2_with (go_at_call 41; refine hmade.out.mono ?_; rintro e w' ⟨rfl, rfl⟩)
    rw [HW1.out]
    go_region_with (first | (go_at_call 31; refine (hwm.out 1).mono ?_; rintro e w2 ⟨rfl, rfl⟩) | (go_at_call 45; refine (hpass.out 1).mono ?_; rintro e w3 ⟨rfl, HP⟩))
    all_goals
      go_wp2
      go_ret
      exact HP.out

theorem beat_eg (w : World) (eb : Nat) (c : CE) (s t : Int) (h : EG w eb c) (htm : TM c.buf) (hsz : SZ (c.buf, c.abs.qs)) :
    Calls Tryd.prog 22 #[.pointer (some ⟨eb, 0, none⟩), .int .i64 s, .int .i64 t] w (BeatPost w eb c s t) := by
  by_cases hb : s < 0 ∨ (c.marks.length : Int) ≤ s ∨ t < 0 ∨ 2000000 < t
  · exact beat_bad w eb c s t h hb
  · obtain ⟨n, rfl⟩ : ∃ n : Nat, s = n := ⟨s.toNat, by omega⟩
    exact beat_ok w eb c n t h (by omega) (by omega) (by omega) htm hsz
end Go.Proofs.YtbgfannlfagoiaaDoor
