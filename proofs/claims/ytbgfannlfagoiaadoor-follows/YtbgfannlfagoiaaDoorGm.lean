import Derived.Test.YtbgfannlfagoiaaDoorGk
namespace Go.Proofs.YtbgfannlfagoiaaDoor
open Go.RowKit Go.Lull
set_option linter.unusedVariables false

/-- The queries one behind the other, in the midst. -/
structure DO (w wr : World) (eb : Nat) (c ck : CE) (f : Qy → Qy) (k : Nat) : Prop where
  eg : EG wr eb ck
  ext : Ext w (c.blocks eb) wr (ck.blocks eb)
  rest : ck = { c with qs := ck.qs }
  len : ck.qs.length = c.qs.length
  fst : ck.qs.map Prod.fst = c.qs.map Prod.fst
  abs : ck.qs.map (·.2.abs) = ((c.qs.map (·.2.abs)).take k).map f ++ (c.qs.map (·.2.abs)).drop k

theorem DO.start {w : World} {eb : Nat} {c : CE} {f : Qy → Qy} (h : EG w eb c) : DO w w eb c c f 0 := ⟨h, Ext.refl _ _, rfl, rfl, rfl, by simp⟩
theorem DO.below {w wr w2 : World} {eb : Nat} {c ck : CE} {f : Qy → Qy} {k : Nat} (h : DO w wr eb c ck f k) (hb : Below wr.heap.size wr w2) : DO w w2 eb c ck f k :=
  ⟨h.eg.below hb, h.ext.trans (Ext.below hb), h.rest, h.len, h.fst, h.abs⟩
theorem DO.at {w wr : World} {eb : Nat} {c ck : CE} {f : Qy → Qy} {k : Nat} (h : DO w wr eb c ck f k) (hk : k < c.qs.length) : ∃ (hk' : k < ck.qs.length), ck.qs[k].1 = c.qs[k].1 ∧ ck.qs[k].2.abs = c.qs[k].2.abs := by
  have hk' : k < ck.qs.length := by rw [h.len]; exact hk
  refine ⟨hk', ?_, ?_⟩
  · have := congrArg (fun l => l[k]?) h.fst
    simpa [hk, hk'] using this
  · have := congrArg (fun l => l[k]?) h.abs
    simp only [List.getElem?_map] at this
    rw [List.getElem?_append_right (by simp; omega)] at this
    have h0 : k - (((c.qs.map (·.2.abs)).take k).map f).length = 0 := by simp; omega
    rw [h0, List.getElem?_drop] at this
    simpa [hk, hk'] using this
theorem DO.next {w wr w2 : World} {eb : Nat} {c ck : CE} {f : Qy → Qy} {k : Nat} (h : DO w wr eb c ck f k) (hk : k < c.qs.length) (hk' : k < ck.qs.length) (c2 : CQ) (hq : QY w2 ck.qs[k].1 c2) (ha : c2.abs = f c.qs[k].2.abs) (hf : Fr (ck.qs[k].2.blocks ck.qs[k].1) wr w2) (hs : ∀ b ∈ c2.blocks ck.qs[k].1, b ∈ ck.qs[k].2.blocks ck.qs[k].1 ∨ wr.heap.size ≤ b) :
    DO w w2 eb c { ck with qs := ck.qs.set k (ck.qs[k].1, c2) } f (k + 1) := by
  obtain ⟨h1, h2⟩ := h.eg.setQ k hk' c2 hq ⟨hf, hs⟩
  refine ⟨h1, h.ext.trans h2, ?_, by simp [h.len], ?_, ?_⟩
  · have hr := h.rest
    have e1 : ck.marks = c.marks := by rw [hr]
    have e2 : ck.mg = c.mg := by rw [hr]
    have e3 : ck.mc = c.mc := by rw [hr]
    have e4 : ck.bv = c.bv := by rw [hr]
    have e5 : ck.buf = c.buf := by rw [hr]
    have e6 : ck.qv = c.qv := by rw [hr]
    have e7 : ck.next = c.next := by rw [hr]
    have e8 : ck.tq = c.tq := by rw [hr]
    have e9 : ck.tr = c.tr := by rw [hr]
    rw [e1, e2, e3, e4, e5, e6, e7, e8, e9]
  · rw [← h.fst]
    apply List.ext_getElem
    · simp
    · intro i hi1 hi2
      simp only [List.getElem_map, List.getElem_set]
      split
      · subst_vars; rfl
      · rfl
  · have h3 := h.abs
    apply List.ext_getElem
    · simp [h.len]; omega
    · intro i hi1 hi2
      have hi : i < ck.qs.length := by simpa using hi1
      have hic : i < c.qs.length := by rw [← h.len]; exact hi
      have hck : ck.qs[i].2.abs = if i < k then f c.qs[i].2.abs else c.qs[i].2.abs := by
        have := congrArg (fun l => l[i]?) h3
        simp only [List.getElem?_map] at this
        by_cases hik : i < k
        · rw [List.getElem?_append_left (by simp; omega)] at this
          rw [if_pos hik]
          simp only [List.getElem?_map, List.getElem?_take_of_lt hik] at this
          simpa [hi, hic] using this
        · rw [List.getElem?_append_right (by simp; omega), List.getElem?_drop] at this
          rw [if_neg hik]
          have h0 : k + (i - (((c.qs.map (·.2.abs)).take k).map f).length) = i := by simp; omega
          rw [h0] at this
          simpa [hi, hic] using this
      simp only [List.getElem_map, List.getElem_set]
      by_cases hik : k = i
      · subst hik
        rw [if_pos rfl, List.getElem_append_left (by simp; omega)]
        simp [ha]
      · rw [if_neg hik]
        by_cases hlt : i < k
        · rw [List.getElem_append_left (by simp; omega)]
          simp [hck, hlt]
        · rw [List.getElem_append_right (by simp; omega)]
          simp only [List.getElem_drop, List.length_map, List.length_take]
          have h0 : k + 1 + (i - min (k + 1) c.qs.length) = i := by omega
          simp only [h0, List.getElem_map]
          rw [hck, if_neg hlt]

theorem DO.done {w wr : World} {eb : Nat} {c ck : CE} {f : Qy → Qy} (h : DO w wr eb c ck f c.qs.length) : ck.abs = { c.abs with qs := c.abs.qs.map f } := by
  have h1 := h.abs
  rw [List.take_of_length_le (by simp), List.drop_of_length_le (by simp), List.append_nil] at h1
  rw [h.rest]
  simp only [CE.abs]
  rw [h1]

set_option maxRecDepth 8000 in
set_option maxHeartbeats 1000000 in
theorem finDo (w : World) (eb : Nat) (c : CE) (t : Int) (bp : Value) (h : EG w eb c) (hsz : ∀ x ∈ c.qs, x.2.fs.length + x.2.rs.length ≤ 536870912) :
    Calls Tryd.prog 152 #[.agg #[.int .i64 t], bp, c.qv] w (EPost w eb c (fun c' => c'.abs = { c.abs with qs := c.abs.qs.map (endQ · t) } ∧ c' = { c with qs := c'.qs })) := by
  obtain ⟨qa, qcap, hqv, _⟩ := h.qrow.form
  have hq10 := h.q10
  have HE := Hid.mk' h
  have HSZ := Hid.mk' hsz
  obtain ⟨wb, hwb⟩ : ∃ wb, w.alloc (.cells #[.int .i64 t] 179) = wb := ⟨_, rfl⟩
  have hbb : Below w.heap.size w wb := by rw [← hwb]; exact (Below.refl _ _).alloc (Nat.le_refl _) _
  have hNb : wb.heap[w.heap.size]? = some (.cells #[.int .i64 t] 179 (0, 0)) := by rw [← hwb]; exact heap_alloc_new _ _
  have HD0 : Hid (DO w wb eb c c (endQ · t) 0) := (DO.start h).below hbb
  have HN : Hid (w.heap.size ∉ c.blocks eb ∧ w.heap.size < wb.heap.size) := ⟨fun hm => absurd (h.lt _ hm) (Nat.lt_irrefl _), lt_of_block hNb⟩
  have HNB := Hid.mk' hNb
  have HWB := Hid.mk' hwb
  obtain ⟨PP, hPP⟩ : ∃ PP, EPost w eb c (fun c' => c'.abs = { c.abs with qs := c.abs.qs.map (endQ · t) } ∧ c' = { c with qs := c'.qs }) = PP := ⟨_, rfl⟩
  rw [hPP, hqv]
  have HPP := Hid.mk' hPP
  clear h hsz hbb hNb hwb hPP
  go_enter Tryd.func152, Tryd.ntmps152
  go_wp2
  rw [HWB.out]
  go_loopw [10] (fun i wr => ∃ (k : Nat) (ck : CE), i = .int .i64 k ∧ k ≤ c.qs.length ∧ Hid (DO w wr eb c ck (endQ · t) k) ∧ Hid (wr.heap[w.heap.size]? = some (.cells #[.int .i64 t] 179 (0, 0))) ∧ Hid (w.heap.size ∉ ck.blocks eb)) (fun i _ => c.qs.length - (intOf i).toNat)
  case atStart => exact ⟨0, c, rfl, Nat.zero_le _, HD0, HNB, HN.out.1⟩
  case round =>
    obtain ⟨k, ck, rfl, hk, HD, HT, HX⟩ := hrel
    have t0 := cell_of_row wr w.heap.size 0 _ _ _ HT.out
    simp at t0
    by_cases hlt : k < c.qs.length
    · obtain ⟨hk', hfst, habs⟩ := HD.out.at hlt
      obtain ⟨g, off, hva⟩ : ∃ g off, qa = some ⟨g, off, none⟩ := by
        rcases HE.out.qrow.2 with ⟨_, h0⟩ | ⟨g, off, cap, cur, e, _⟩
        · omega
        · rw [hqv] at e; cases e; exact ⟨g, off, rfl⟩
      subst hva
      have hqv' : ck.qv = c.qv := by have := HD.out.rest; rw [this]
      have hck : wr.cell? ⟨g, off + k, none⟩ = some (.pointer (some ⟨ck.qs[k].1, 0, none⟩)) := by
        have hr := HD.out.eg.qrow
        rw [hqv', hqv, ← HD.out.len] at hr
        exact ptr_cell hr k hk'
      have hend : Hid (Calls Tryd.prog 154 #[.pointer (some ⟨ck.qs[k].1, 0, none⟩), .int .i64 t] wr fun e w2 => e = .returned (.tuple #[]) ∧ ∃ ck2, Hid (DO w w2 eb c ck2 (endQ · t) (k + 1)) ∧ Hid (w2.heap[w.heap.size]? = some (.cells #[.int .i64 t] 179 (0, 0))) ∧ Hid (w.heap.size ∉ ck2.blocks eb)) := by
        have hQ := HD.out.eg.qy _ (List.getElem_mem hk')
        have hszk : ck.qs[k].2.fs.length + ck.qs[k].2.rs.length ≤ 536870912 := by
          have h1 := HSZ.out _ (List.getElem_mem hlt)
          have h2 := congrArg (fun q : Qy => q.found.length) habs
          have h3 := congrArg (fun q : Qy => q.runs.length) habs
          simp [CQ.abs] at h2 h3
          omega
        refine (end_any wr ck.qs[k].1 ck.qs[k].2 t hQ hszk).mono ?_
        rintro e w2 ⟨rfl, c2, hq2, ha2, hf2, hs2⟩
        have hnb : w.heap.size ∉ ck.qs[k].2.blocks ck.qs[k].1 := fun hm => HX.out (List.mem_append_right _ (mem_qsb (List.getElem_mem hk') hm))
        have hd2 := HD.out.next hlt hk' c2 hq2 (by rw [ha2, habs]) hf2 hs2
        refine ⟨rfl, _, hd2, by unfold Hid; rw [hf2.block _ (lt_of_block HT.out) hnb]; exact HT.out, fun hm => ?_⟩
        rcases (HD.out.eg.setQ k hk' c2 hq2 ⟨hf2, hs2⟩).2.sub _ hm with h1 | h1
        · exact HX.out h1
        · have := lt_of_block HT.out; omega
      obtain ⟨qb, hqb⟩ : ∃ qb, ck.qs[k].1 = qb := ⟨_, rfl⟩
      rw [hqb] at hck hend
      clear HD HX HT hfst habs hqb hqv' hk'
      go_wp2_with (go_at_call 154; refine hend.out.mono ?_; rintro e w2 ⟨rfl, ck2, HD2, HT2, HX2⟩)
      go_roundw
      case rel => exact ⟨k + 1, ck2, by go_num, by omega, HD2, HT2, HX2⟩
      case measure => simp [intOf]; omega
    · obtain rfl : k = c.qs.length := by omega
      have hfin : Hid (PP (.returned (.tuple #[])) wr) := by unfold Hid; rw [← HPP.out]; exact ⟨rfl, ck, HD.out.eg, ⟨HD.out.done, HD.out.rest⟩, HD.out.ext⟩
      clear HD HX HT
      go_wp2
      go_end0
      exact hfin.out
end Go.Proofs.YtbgfannlfagoiaaDoor

namespace Go.Proofs.YtbgfannlfagoiaaDoor
open Go.RowKit Go.Lull
set_option linter.unusedVariables false

set_option maxRecDepth 8000 in
set_option maxHeartbeats 1000000 in
theorem relDo (w : World) (eb : Nat) (c : CE) (ev : Ev) (r : List Ev) (h : EG w eb c) (hbuf : c.buf = ev :: r) (ht0 : 0 ≤ ev.2.1) (ht1 : ev.2.1 ≤ 1000000) (hsz : ∀ x ∈ c.qs, x.2.fs.length + x.2.rs.length ≤ 536870912) :
    Calls Tryd.prog 143 #[.agg #[.int .i64 ev.1, .int .i64 ev.2.1, .int .u8 ev.2.2.1.toNat, .int .i64 ev.2.2.2], .pointer (some ⟨eb, 2, none⟩), c.qv] w (EPost w eb c (fun c' => c'.abs = { c.abs with buf := r, qs := c.abs.qs.map (showQ · ev) } ∧ c'.qv = c.qv)) := by
  obtain ⟨qa, qcap, hqv, _⟩ := h.qrow.form
  have hq10 := h.q10
  have HE := Hid.mk' h
  have HSZ := Hid.mk' hsz
  obtain ⟨es, et, ek, evv⟩ := ev
  simp only at ht0 ht1 ⊢
  obtain ⟨wb, hwb⟩ : ∃ wb, w.alloc (.cells #[.int .i64 es, .int .i64 et, .int .u8 ek.toNat, .int .i64 evv] 175) = wb := ⟨_, rfl⟩
  have hbb : Below w.heap.size w wb := by rw [← hwb]; exact (Below.refl _ _).alloc (Nat.le_refl _) _
  have hNb : wb.heap[w.heap.size]? = some (.cells #[.int .i64 es, .int .i64 et, .int .u8 ek.toNat, .int .i64 evv] 175 (0, 0)) := by rw [← hwb]; exact heap_alloc_new _ _
  have hn0 : w.heap.size ∉ c.blocks eb := fun hm => absurd (h.lt _ hm) (Nat.lt_irrefl _)
  have hdrop : Hid (Calls Tryd.prog 142 #[.pointer (some ⟨eb, 2, none⟩)] wb fun e w1 => e = .returned (.tuple #[]) ∧ ∃ bv', Hid (DO w1 w1 eb { c with bv := bv', buf := r } { c with bv := bv', buf := r } (showQ · (es, et, ek, evv)) 0) ∧ Hid (Ext w (c.blocks eb) w1 (CE.blocks { c with bv := bv', buf := r } eb)) ∧ Hid (w1.heap[w.heap.size]? = some (.cells #[.int .i64 es, .int .i64 et, .int .u8 ek.toNat, .int .i64 evv] 175 (0, 0))) ∧ Hid (w.heap.size ∉ CE.blocks { c with bv := bv', buf := r } eb)) := by
    refine (dropFirst_eg wb eb c (h.below hbb) _ r hbuf).mono ?_
    rintro e w1 ⟨rfl, c', h1, ⟨bv', rfl⟩, h3⟩
    refine ⟨rfl, bv', DO.start h1, (Ext.below hbb).trans h3, by unfold Hid; rw [h3.fr.block _ (lt_of_block hNb) hn0]; exact hNb, fun hm => ?_⟩
    rcases h3.sub _ hm with h4 | h4
    · exact hn0 h4
    · have := lt_of_block hNb; omega
  have HWB := Hid.mk' hwb
  obtain ⟨PP, hPP⟩ : ∃ PP, EPost w eb c (fun c' => c'.abs = { c.abs with buf := r, qs := c.abs.qs.map (showQ · (es, et, ek, evv)) } ∧ c'.qv = c.qv) = PP := ⟨_, rfl⟩
  rw [hPP, hqv]
  have HPP := Hid.mk' hPP
  clear h hsz hbb hNb hwb hPP hn0 hbuf
  go_enter Tryd.func143, Tryd.ntmps143
  go_wp2_with (go_at_call 142; rw [HWB.out]; refine hdrop.out.mono ?_; rintro e w1 ⟨rfl, bv', HD0, HEX, HNB, HX0⟩)
  obtain ⟨c1, hc1⟩ : ∃ c1, { c with bv := bv', buf := r : CE } = c1 := ⟨_, rfl⟩
  rw [hc1] at HD0 HEX HX0
  have hl1 : c1.qs = c.qs := by rw [← hc1]
  have HC1 := Hid.mk' hc1
  have HL1 := Hid.mk' hl1
  clear hc1 hl1
  go_loopw [12] (fun i wr => ∃ (k : Nat) (ck : CE), i = .int .i64 k ∧ k ≤ c.qs.length ∧ Hid (DO w1 wr eb c1 ck (showQ · (es, et, ek, evv)) k) ∧ Hid (wr.heap[w.heap.size]? = some (.cells #[.int .i64 es, .int .i64 et, .int .u8 ek.toNat, .int .i64 evv] 175 (0, 0))) ∧ Hid (w.heap.size ∉ ck.blocks eb)) (fun i _ => c.qs.length - (intOf i).toNat)
  case atStart => exact ⟨0, c1, rfl, Nat.zero_le _, HD0, HNB, HX0⟩
  case round =>
    obtain ⟨k, ck, rfl, hk, HD, HT, HX⟩ := hrel
    have t0 := cell_of_row wr w.heap.size 0 _ _ _ HT.out
    have t1 := cell_of_row wr w.heap.size 1 _ _ _ HT.out
    have t2 := cell_of_row wr w.heap.size 2 _ _ _ HT.out
    have t3 := cell_of_row wr w.heap.size 3 _ _ _ HT.out
    simp at t0 t1 t2 t3
    by_cases hlt : k < c.qs.length
    · have hlt1 : k < c1.qs.length := by rw [HL1.out]; exact hlt
      obtain ⟨hk', hfst, habs⟩ := HD.out.at hlt1
      obtain ⟨g, off, hva⟩ : ∃ g off, qa = some ⟨g, off, none⟩ := by
        rcases HE.out.qrow.2 with ⟨_, h0⟩ | ⟨g, off, cap, cur, e, _⟩
        · omega
        · rw [hqv] at e; cases e; exact ⟨g, off, rfl⟩
      subst hva
      have hqv' : ck.qv = c.qv := by have := HD.out.rest; rw [this]; show c1.qv = c.qv; rw [← HC1.out]
      have hck : wr.cell? ⟨g, off + k, none⟩ = some (.pointer (some ⟨ck.qs[k].1, 0, none⟩)) := by
        have hr := HD.out.eg.qrow
        have hlen : ck.qs.length = c.qs.length := by rw [HD.out.len, HL1.out]
        rw [hqv', hqv, ← hlen] at hr
        exact ptr_cell hr k hk'
      have hend : Hid (Calls Tryd.prog 145 #[.pointer (some ⟨ck.qs[k].1, 0, none⟩), .agg #[.int .i64 es, .int .i64 et, .int .u8 ek.toNat, .int .i64 evv]] wr fun e w2 => e = .returned (.tuple #[]) ∧ ∃ ck2, Hid (DO w1 w2 eb c1 ck2 (showQ · (es, et, ek, evv)) (k + 1)) ∧ Hid (w2.heap[w.heap.size]? = some (.cells #[.int .i64 es, .int .i64 et, .int .u8 ek.toNat, .int .i64 evv] 175 (0, 0))) ∧ Hid (w.heap.size ∉ ck2.blocks eb)) := by
        have hQ := HD.out.eg.qy _ (List.getElem_mem hk')
        have hszk : ck.qs[k].2.fs.length + ck.qs[k].2.rs.length ≤ 536870912 := by
          have h1 := HSZ.out c1.qs[k] (by rw [← HL1.out]; exact List.getElem_mem hlt1)
          have h2 := congrArg (fun q : Qy => q.found.length) habs
          have h3 := congrArg (fun q : Qy => q.runs.length) habs
          simp [CQ.abs] at h2 h3
          omega
        refine (show_any wr ck.qs[k].1 ck.qs[k].2 (es, et, ek, evv) hQ hszk ht0 ht1).mono ?_
        rintro e w2 ⟨rfl, c2, hq2, ha2, hf2, hs2⟩
        have hnb : w.heap.size ∉ ck.qs[k].2.blocks ck.qs[k].1 := fun hm => HX.out (List.mem_append_right _ (mem_qsb (List.getElem_mem hk') hm))
        have hd2 := HD.out.next hlt1 hk' c2 hq2 (by rw [ha2, habs]) hf2 hs2
        refine ⟨rfl, _, hd2, by unfold Hid; rw [hf2.block _ (lt_of_block HT.out) hnb]; exact HT.out, fun hm => ?_⟩
        rcases (HD.out.eg.setQ k hk' c2 hq2 ⟨hf2, hs2⟩).2.sub _ hm with h1 | h1
        · exact HX.out h1
        · have := lt_of_block HT.out; omega
      obtain ⟨qb, hqb⟩ : ∃ qb, ck.qs[k].1 = qb := ⟨_, rfl⟩
      rw [hqb] at hck hend
      clear HD HX HT hfst habs hqb hqv' hk' hlt1
      go_wp2_with (go_at_call 145; refine hend.out.mono ?_; rintro e w2 ⟨rfl, ck2, HD2, HT2, HX2⟩)
      go_roundw
      case rel => exact ⟨k + 1, ck2, by go_num, by omega, HD2, HT2, HX2⟩
      case measure => simp [intOf]; omega
    · have hkk : k = c1.qs.length := by rw [HL1.out]; omega
      have hfin : Hid (PP (.returned (.tuple #[])) wr) := by
        unfold Hid
        rw [← HPP.out]
        have hd := HD.out
        rw [hkk] at hd
        refine ⟨rfl, ck, hd.eg, ⟨?_, ?_⟩, HEX.out.trans hd.ext⟩
        · rw [hd.done, ← HC1.out]; rfl
        · have := hd.rest; rw [this]; show c1.qv = c.qv; rw [← HC1.out]
      clear HD HX HT
      go_wp2
      go_end0
      exact hfin.out
end Go.Proofs.YtbgfannlfagoiaaDoor
