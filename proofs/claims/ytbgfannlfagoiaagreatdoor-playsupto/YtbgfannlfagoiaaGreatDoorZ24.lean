import Derived.Test.YtbgfannlfagoiaaGreatDoorZ22
import Derived.Test.YtbgfannlfagoiaaGreatDoorZ23
import Derived.Test.YtbgfannlfagoiaaGreatDoorZ01
import Derived.Deep.LoopGhost
import Derived.Test.YtbgfannlfagoiaaGreatDoorZ15
import Derived.Deep.OwnRows
namespace Go.Proofs.YtbgfannlfagoiaaGreatDoor
open Go.RowKit Go.Lull
set_option linter.unusedVariables false

/-- The queries one behind the other, in the midst. -/
structure DO (w wr : World) (eb : Nat) (c ck : CE) (f : Qy → Qy) (k : Nat) : Prop where
 eg : EG wr eb ck
 ext : Ext w (c.blocks eb) wr (ck.blocks eb)
 rest : ck = { c with qs := ck.qs }
 len : ck.qs.length = c.qs.length
 fst : ck.qs.map Prod.fst = c.qs.map Prod.fst
 abs : ck.qs.map (·.2.abs) = ((c.qs.map (·.2.abs)).take k).map f ++ (c.qs.map (·.2.abs)).drop k

theorem DO.start {w : World} {eb : Nat} {c : CE} {f : Qy → Qy} (h : EG w eb c) : DO w w eb c c f 0 := ⟨h, Ext.refl _ _, rfl, rfl, rfl, by simp⟩
theorem DO.below {w wr w2 : World} {eb : Nat} {c ck : CE} {f : Qy → Qy} {k : Nat} (h : DO w wr eb c ck f k) (hb : Below wr.heap.size wr w2) : DO w w2 eb c ck f k :=
 ⟨h.eg.below hb, h.ext.trans (Ext.below hb), h.rest, h.len, h.fst, h.abs⟩
theorem DO.at {w wr : World} {eb : Nat} {c ck : CE} {f : Qy → Qy} {k : Nat} (h : DO w wr eb c ck f k) (hk : k < c.qs.length) : ∃ (hk' : k < ck.qs.length), ck.qs[k].1 = c.qs[k].1 ∧ ck.qs[k].2.abs = c.qs[k].2.abs := by
 have hk' : k < ck.qs.length := by rw [h.len]; exact hk
 refine ⟨hk', ?_, ?_⟩
 ·have := congrArg (fun l => l[k]?) h.fst
  simpa [hk, hk'] using this
 ·have := congrArg (fun l => l[k]?) h.abs
  simp only [List.getElem?_map] at this
  rw [List.getElem?_append_right (by simp; omega)] at this
  have h0 : k - (((c.qs.map (·.2.abs)).take k).map f).length = 0 := by simp; omega
  rw [h0, List.getElem?_drop] at this
  simpa [hk, hk'] using this
theorem DO.next {w wr w2 : World} {eb : Nat} {c ck : CE} {f : Qy → Qy} {k : Nat} (h : DO w wr eb c ck f k) (hk : k < c.qs.length) (hk' : k < ck.qs.length) (c2 : CQ) (hq : QY w2 ck.qs[k].1 c2) (ha : c2.abs = f c.qs[k].2.abs) (hf : Fr (ck.qs[k].2.blocks ck.qs[k].1) wr w2) (hs : ∀ b ∈ c2.blocks ck.qs[k].1, b ∈ ck.qs[k].2.blocks ck.qs[k].1 ∨ wr.heap.size ≤ b) :
  DO w w2 eb c { ck with qs := ck.qs.set k (ck.qs[k].1, c2) } f (k + 1) := by
 obtain ⟨h1, h2⟩ := h.eg.setQ k hk' c2 hq ⟨hf, hs⟩
 refine ⟨h1, h.ext.trans h2, ?_, by simp [h.len], ?_, ?_⟩
 ·have hr := h.rest
  have e1 : ck.marks = c.marks := by rw [hr]
  have e2 : ck.mg = c.mg := by rw [hr]
  have e3 : ck.mc = c.mc := by rw [hr]
  have e4 : ck.bv = c.bv := by rw [hr]
  have e5 : ck.buf = c.buf := by rw [hr]
  have e6 : ck.qv = c.qv := by rw [hr]
  have e7 : ck.next = c.next := by rw [hr]
  have e8 : ck.tq = c.tq := by rw [hr]
  have e9 : ck.tr = c.tr := by rw [hr]
  rw [e1, e2, e3, e4, e5, e6, e7, e8, e9]
 ·rw [← h.fst]
  apply List.ext_getElem
  ·simp
  ·intro i hi1 hi2
   simp only [List.getElem_map, List.getElem_set]
   split
   ·subst_vars; rfl
   ·rfl
 ·have h3 := h.abs
  apply List.ext_getElem
  ·simp [h.len]; omega
  ·intro i hi1 hi2
   have hi : i < ck.qs.length := by simpa using hi1
   have hic : i < c.qs.length := by rw [← h.len]; exact hi
   have hck : ck.qs[i].2.abs = if i < k then f c.qs[i].2.abs else c.qs[i].2.abs := by
    have := congrArg (fun l => l[i]?) h3
    simp only [List.getElem?_map] at this
    by_cases hik : i < k
    ·rw [List.getElem?_append_left (by simp; omega)] at this
     rw [if_pos hik]
     simp only [List.getElem?_map, List.getElem?_take_of_lt hik] at this
     simpa [hi, hic] using this
    ·rw [List.getElem?_append_right (by simp; omega), List.getElem?_drop] at this
     rw [if_neg hik]
     have h0 : k + (i - (((c.qs.map (·.2.abs)).take k).map f).length) = i := by simp; omega
     rw [h0] at this
     simpa [hi, hic] using this
   simp only [List.getElem_map, List.getElem_set]
   by_cases hik : k = i
   ·subst hik
    rw [if_pos rfl, List.getElem_append_left (by simp; omega)]
    simp [ha]
   ·rw [if_neg hik]
    by_cases hlt : i < k
    ·rw [List.getElem_append_left (by simp; omega)]
     simp [hck, hlt]
    ·rw [List.getElem_append_right (by simp; omega)]
     simp only [List.getElem_drop, List.length_map, List.length_take]
     have h0 : k + 1 + (i - min (k + 1) c.qs.length) = i := by omega
     simp only [h0, List.getElem_map]
     rw [hck, if_neg hlt]

theorem DO.done {w wr : World} {eb : Nat} {c ck : CE} {f : Qy → Qy} (h : DO w wr eb c ck f c.qs.length) : ck.abs = { c.abs with qs := c.abs.qs.map f } := by
 have h1 := h.abs
 rw [List.take_of_length_le (by simp), List.drop_of_length_le (by simp), List.append_nil] at h1
 rw [h.rest]
 simp only [CE.abs]
 rw [h1]

set_option maxRecDepth 8000 in
set_option maxHeartbeats 1000000 in
theorem finDo (w : World) (eb : Nat) (c : CE) (t : Int) (bp : Value) (h : EG w eb c) (hsz : ∀ x ∈ c.qs, x.2.fs.length + x.2.rs.length ≤ 536870912) :
  Calls Tryz.prog 172 #[.agg #[.int .i64 t], bp, c.qv] w (EPost w eb c (fun c' => c'.abs = { c.abs with qs := c.abs.qs.map (endQ · t) } ∧ c' = { c with qs := c'.qs })) := by
 obtain ⟨qa, qcap, hqv, _⟩ := h.qrow.form
 have hq10 := h.q10
 have HE := Hid.mk' h
 have HSZ := Hid.mk' hsz
 obtain ⟨wb, hwb⟩ : ∃ wb, w.alloc (.cells #[.int .i64 t] 195) = wb := ⟨_, rfl⟩
 have hbb : Below w.heap.size w wb := by rw [← hwb]; exact (Below.refl _ _).alloc (Nat.le_refl _) _
 have hNb : wb.heap[w.heap.size]? = some (.cells #[.int .i64 t] 195 (0, 0)) := by rw [← hwb]; exact heap_alloc_new _ _
 have HD0 : Hid (DO w wb eb c c (endQ · t) 0) := (DO.start h).below hbb
 have HN : Hid (w.heap.size ∉ c.blocks eb ∧ w.heap.size < wb.heap.size) := ⟨fun hm => absurd (h.lt _ hm) (Nat.lt_irrefl _), lt_of_block hNb⟩
 have HNB := Hid.mk' hNb
 have HWB := Hid.mk' hwb
 obtain ⟨PP, hPP⟩ : ∃ PP, EPost w eb c (fun c' => c'.abs = { c.abs with qs := c.abs.qs.map (endQ · t) } ∧ c' = { c with qs := c'.qs }) = PP := ⟨_, rfl⟩
 rw [hPP, hqv]
 have HPP := Hid.mk' hPP
 clear h hsz hbb hNb hwb hPP
 go_enter Tryz.func172, Tryz.ntmps172
 go_wp2
 rw [HWB.out]
 go_loopw [10] (fun i wr => ∃ (k : Nat) (ck : CE), i = .int .i64 k ∧ k ≤ c.qs.length ∧ Hid (DO w wr eb c ck (endQ · t) k) ∧ Hid (wr.heap[w.heap.size]? = some (.cells #[.int .i64 t] 195 (0, 0))) ∧ Hid (w.heap.size ∉ ck.blocks eb)) (fun i _ => c.qs.length - (intOf i).toNat)
 case atStart => exact ⟨0, c, rfl, Nat.zero_le _, HD0, HNB, HN.out.1⟩
 case round =>
  obtain ⟨k, ck, rfl, hk, HD, HT, HX⟩ := hrel
  have t0 := cell_of_row wr w.heap.size 0 _ _ _ HT.out
  simp at t0
  by_cases hlt : k < c.qs.length
  ·obtain ⟨hk', hfst, habs⟩ := HD.out.at hlt
   obtain ⟨g, off, hva⟩ : ∃ g off, qa = some ⟨g, off, none⟩ := by
    rcases HE.out.qrow.2 with ⟨_, h0⟩ | ⟨g, off, cap, cur, e, _⟩
    ·omega
    ·rw [hqv] at e; cases e; exact ⟨g, off, rfl⟩
   subst hva
   have hqv' : ck.qv = c.qv := by have := HD.out.rest; rw [this]
   have hck : wr.cell? ⟨g, off + k, none⟩ = some (.pointer (some ⟨ck.qs[k].1, 0, none⟩)) := by
    have hr := HD.out.eg.qrow
    rw [hqv', hqv, ← HD.out.len] at hr
    exact ptr_cell hr k hk'
   have hend : Hid (Calls Tryz.prog 174 #[.pointer (some ⟨ck.qs[k].1, 0, none⟩), .int .i64 t] wr fun e w2 => e = .returned (.tuple #[]) ∧ ∃ ck2, Hid (DO w w2 eb c ck2 (endQ · t) (k + 1)) ∧ Hid (w2.heap[w.heap.size]? = some (.cells #[.int .i64 t] 195 (0, 0))) ∧ Hid (w.heap.size ∉ ck2.blocks eb)) := by
    have hQ := HD.out.eg.qy _ (List.getElem_mem hk')
    have hszk : ck.qs[k].2.fs.length + ck.qs[k].2.rs.length ≤ 536870912 := by
     have h1 := HSZ.out _ (List.getElem_mem hlt)
     have h2 := congrArg (fun q : Qy => q.found.length) habs
     have h3 := congrArg (fun q : Qy => q.runs.length) habs
     simp [CQ.abs] at h2 h3
     omega
    refine (end_any wr ck.qs[k].1 ck.qs[k].2 t hQ hszk).mono ?_
    rintro e w2 ⟨rfl, c2, hq2, ha2, hf2, hs2⟩
    have hnb : w.heap.size ∉ ck.qs[k].2.blocks ck.qs[k].1 := fun hm => HX.out (List.mem_append_right _ (mem_qsb (List.getElem_mem hk') hm))
    have hd2 := HD.out.next hlt hk' c2 hq2 (by rw [ha2, habs]) hf2 hs2
    refine ⟨rfl, _, hd2, by unfold Hid; rw [hf2.block _ (lt_of_block HT.out) hnb]; exact HT.out, fun hm => ?_⟩
    rcases (HD.out.eg.setQ k hk' c2 hq2 ⟨hf2, hs2⟩).2.sub _ hm with h1 | h1
    ·exact HX.out h1
    ·have := lt_of_block HT.out; omega
   obtain ⟨qb, hqb⟩ : ∃ qb, ck.qs[k].1 = qb := ⟨_, rfl⟩
   rw [hqb] at hck hend
   clear HD HX HT hfst habs hqb hqv' hk'
   go_wp2_with (go_at_call 174; refine hend.out.mono ?_; rintro e w2 ⟨rfl, ck2, HD2, HT2, HX2⟩)
   go_roundw
   case rel => exact ⟨k + 1, ck2, by go_num, by omega, HD2, HT2, HX2⟩
   case measure => simp [intOf]; omega
  ·obtain rfl : k = c.qs.length := by omega
   have hfin : Hid (PP (.returned (.tuple #[])) wr) := by unfold Hid; rw [← HPP.out]; exact ⟨rfl, ck, HD.out.eg, ⟨HD.out.done, HD.out.rest⟩, HD.out.ext⟩
   clear HD HX HT
   go_wp2
   go_end0
   exact hfin.out
end Go.Proofs.YtbgfannlfagoiaaGreatDoor

namespace Go.Proofs.YtbgfannlfagoiaaGreatDoor
open Go.RowKit Go.Lull
set_option linter.unusedVariables false

set_option maxRecDepth 8000 in
set_option maxHeartbeats 1000000 in
theorem relDo (w : World) (eb : Nat) (c : CE) (ev : Ev) (r : List Ev) (h : EG w eb c) (hbuf : c.buf = ev :: r) (ht0 : 0 ≤ ev.2.1) (ht1 : ev.2.1 ≤ 1000000) (hsz : ∀ x ∈ c.qs, x.2.fs.length + x.2.rs.length ≤ 536870912) :
  Calls Tryz.prog 163 #[.agg #[.int .i64 ev.1, .int .i64 ev.2.1, .int .u8 ev.2.2.1.toNat, .int .i64 ev.2.2.2], .pointer (some ⟨eb, 2, none⟩), c.qv] w (EPost w eb c (fun c' => c'.abs = { c.abs with buf := r, qs := c.abs.qs.map (showQ · ev) } ∧ c'.qv = c.qv)) := by
 obtain ⟨qa, qcap, hqv, _⟩ := h.qrow.form
 have hq10 := h.q10
 have HE := Hid.mk' h
 have HSZ := Hid.mk' hsz
 obtain ⟨es, et, ek, evv⟩ := ev
 simp only at ht0 ht1 ⊢
 obtain ⟨wb, hwb⟩ : ∃ wb, w.alloc (.cells #[.int .i64 es, .int .i64 et, .int .u8 ek.toNat, .int .i64 evv] 191) = wb := ⟨_, rfl⟩
 have hbb : Below w.heap.size w wb := by rw [← hwb]; exact (Below.refl _ _).alloc (Nat.le_refl _) _
 have hNb : wb.heap[w.heap.size]? = some (.cells #[.int .i64 es, .int .i64 et, .int .u8 ek.toNat, .int .i64 evv] 191 (0, 0)) := by rw [← hwb]; exact heap_alloc_new _ _
 have hn0 : w.heap.size ∉ c.blocks eb := fun hm => absurd (h.lt _ hm) (Nat.lt_irrefl _)
 have hdrop : Hid (Calls Tryz.prog 162 #[.pointer (some ⟨eb, 2, none⟩)] wb fun e w1 => e = .returned (.tuple #[]) ∧ ∃ bv', Hid (DO w1 w1 eb { c with bv := bv', buf := r } { c with bv := bv', buf := r } (showQ · (es, et, ek, evv)) 0) ∧ Hid (Ext w (c.blocks eb) w1 (CE.blocks { c with bv := bv', buf := r } eb)) ∧ Hid (w1.heap[w.heap.size]? = some (.cells #[.int .i64 es, .int .i64 et, .int .u8 ek.toNat, .int .i64 evv] 191 (0, 0))) ∧ Hid (w.heap.size ∉ CE.blocks { c with bv := bv', buf := r } eb)) := by
  refine (dropFirst_eg wb eb c (h.below hbb) _ r hbuf).mono ?_
  rintro e w1 ⟨rfl, c', h1, ⟨bv', rfl⟩, h3⟩
  refine ⟨rfl, bv', DO.start h1, (Ext.below hbb).trans h3, by unfold Hid; rw [h3.fr.block _ (lt_of_block hNb) hn0]; exact hNb, fun hm => ?_⟩
  rcases h3.sub _ hm with h4 | h4
  ·exact hn0 h4
  ·have := lt_of_block hNb; omega
 have HWB := Hid.mk' hwb
 obtain ⟨PP, hPP⟩ : ∃ PP, EPost w eb c (fun c' => c'.abs = { c.abs with buf := r, qs := c.abs.qs.map (showQ · (es, et, ek, evv)) } ∧ c'.qv = c.qv) = PP := ⟨_, rfl⟩
 rw [hPP, hqv]
 have HPP := Hid.mk' hPP
 clear h hsz hbb hNb hwb hPP hn0 hbuf
 go_enter Tryz.func163, Tryz.ntmps163
 go_wp2_with (go_at_call 162; rw [HWB.out]; refine hdrop.out.mono ?_; rintro e w1 ⟨rfl, bv', HD0, HEX, HNB, HX0⟩)
 obtain ⟨c1, hc1⟩ : ∃ c1, { c with bv := bv', buf := r : CE } = c1 := ⟨_, rfl⟩
 rw [hc1] at HD0 HEX HX0
 have hl1 : c1.qs = c.qs := by rw [← hc1]
 have HC1 := Hid.mk' hc1
 have HL1 := Hid.mk' hl1
 clear hc1 hl1
 go_loopw [12] (fun i wr => ∃ (k : Nat) (ck : CE), i = .int .i64 k ∧ k ≤ c.qs.length ∧ Hid (DO w1 wr eb c1 ck (showQ · (es, et, ek, evv)) k) ∧ Hid (wr.heap[w.heap.size]? = some (.cells #[.int .i64 es, .int .i64 et, .int .u8 ek.toNat, .int .i64 evv] 191 (0, 0))) ∧ Hid (w.heap.size ∉ ck.blocks eb)) (fun i _ => c.qs.length - (intOf i).toNat)
 case atStart => exact ⟨0, c1, rfl, Nat.zero_le _, HD0, HNB, HX0⟩
 case round =>
  obtain ⟨k, ck, rfl, hk, HD, HT, HX⟩ := hrel
  have t0 := cell_of_row wr w.heap.size 0 _ _ _ HT.out
  have t1 := cell_of_row wr w.heap.size 1 _ _ _ HT.out
  have t2 := cell_of_row wr w.heap.size 2 _ _ _ HT.out
  have t3 := cell_of_row wr w.heap.size 3 _ _ _ HT.out
  simp at t0 t1 t2 t3
  by_cases hlt : k < c.qs.length
  ·have hlt1 : k < c1.qs.length := by rw [HL1.out]; exact hlt
   obtain ⟨hk', hfst, habs⟩ := HD.out.at hlt1
   obtain ⟨g, off, hva⟩ : ∃ g off, qa = some ⟨g, off, none⟩ := by
    rcases HE.out.qrow.2 with ⟨_, h0⟩ | ⟨g, off, cap, cur, e, _⟩
    ·omega
    ·rw [hqv] at e; cases e; exact ⟨g, off, rfl⟩
   subst hva
   have hqv' : ck.qv = c.qv := by have := HD.out.rest; rw [this]; show c1.qv = c.qv; rw [← HC1.out]
   have hck : wr.cell? ⟨g, off + k, none⟩ = some (.pointer (some ⟨ck.qs[k].1, 0, none⟩)) := by
    have hr := HD.out.eg.qrow
    have hlen : ck.qs.length = c.qs.length := by rw [HD.out.len, HL1.out]
    rw [hqv', hqv, ← hlen] at hr
    exact ptr_cell hr k hk'
   have hend : Hid (Calls Tryz.prog 165 #[.pointer (some ⟨ck.qs[k].1, 0, none⟩), .agg #[.int .i64 es, .int .i64 et, .int .u8 ek.toNat, .int .i64 evv]] wr fun e w2 => e = .returned (.tuple #[]) ∧ ∃ ck2, Hid (DO w1 w2 eb c1 ck2 (showQ · (es, et, ek, evv)) (k + 1)) ∧ Hid (w2.heap[w.heap.size]? = some (.cells #[.int .i64 es, .int .i64 et, .int .u8 ek.toNat, .int .i64 evv] 191 (0, 0))) ∧ Hid (w.heap.size ∉ ck2.blocks eb)) := by
    have hQ := HD.out.eg.qy _ (List.getElem_mem hk')
    have hszk : ck.qs[k].2.fs.length + ck.qs[k].2.rs.length ≤ 536870912 := by
     have h1 := HSZ.out c1.qs[k] (by rw [← HL1.out]; exact List.getElem_mem hlt1)
     have h2 := congrArg (fun q : Qy => q.found.length) habs
     have h3 := congrArg (fun q : Qy => q.runs.length) habs
     simp [CQ.abs] at h2 h3
     omega
    refine (show_any wr ck.qs[k].1 ck.qs[k].2 (es, et, ek, evv) hQ hszk ht0 ht1).mono ?_
    rintro e w2 ⟨rfl, c2, hq2, ha2, hf2, hs2⟩
    have hnb : w.heap.size ∉ ck.qs[k].2.blocks ck.qs[k].1 := fun hm => HX.out (List.mem_append_right _ (mem_qsb (List.getElem_mem hk') hm))
    have hd2 := HD.out.next hlt1 hk' c2 hq2 (by rw [ha2, habs]) hf2 hs2
    refine ⟨rfl, _, hd2, by unfold Hid; rw [hf2.block _ (lt_of_block HT.out) hnb]; exact HT.out, fun hm => ?_⟩
    rcases (HD.out.eg.setQ k hk' c2 hq2 ⟨hf2, hs2⟩).2.sub _ hm with h1 | h1
    ·exact HX.out h1
    ·have := lt_of_block HT.out; omega
   obtain ⟨qb, hqb⟩ : ∃ qb, ck.qs[k].1 = qb := ⟨_, rfl⟩
   rw [hqb] at hck hend
   clear HD HX HT hfst habs hqb hqv' hk' hlt1
   go_wp2_with (go_at_call 165; refine hend.out.mono ?_; rintro e w2 ⟨rfl, ck2, HD2, HT2, HX2⟩)
   go_roundw
   case rel => exact ⟨k + 1, ck2, by go_num, by omega, HD2, HT2, HX2⟩
   case measure => simp [intOf]; omega
  ·have hkk : k = c1.qs.length := by rw [HL1.out]; omega
   have hfin : Hid (PP (.returned (.tuple #[])) wr) := by
    unfold Hid
    rw [← HPP.out]
    have hd := HD.out
    rw [hkk] at hd
    refine ⟨rfl, ck, hd.eg, ⟨?_, ?_⟩, HEX.out.trans hd.ext⟩
    ·rw [hd.done, ← HC1.out]; rfl
    ·have := hd.rest; rw [this]; show c1.qv = c.qv; rw [← HC1.out]
   clear HD HX HT
   go_wp2
   go_end0
   exact hfin.out
end Go.Proofs.YtbgfannlfagoiaaGreatDoor

namespace Go.Proofs.YtbgfannlfagoiaaGreatDoor
open Go.RowKit Go.Lull
set_option linter.unusedVariables false

/-- Pass, in the midst. -/
structure PS (w wr : World) (eb : Nat) (c ck : CE) (wm : Int) : Prop where
 eg : EG wr eb ck
 ext : Ext w (c.blocks eb) wr (ck.blocks eb)
 qv : ck.qv = c.qv
 abs : ck.abs = { c.abs with buf := ck.buf, qs := ck.abs.qs }
 eq : pass wm (c.buf, c.abs.qs) = pass wm (ck.buf, ck.abs.qs)
 tm : TM ck.buf
 sz : SZ (ck.buf, ck.abs.qs)
theorem PS.below {w wr w2 : World} {eb : Nat} {c ck : CE} {wm : Int} (h : PS w wr eb c ck wm) (hb : Below wr.heap.size wr w2) : PS w w2 eb c ck wm :=
 ⟨h.eg.below hb, h.ext.trans (Ext.below hb), h.qv, h.abs, h.eq, h.tm, h.sz⟩
theorem PS.size {w wr : World} {eb : Nat} {c ck : CE} {wm : Int} (h : PS w wr eb c ck wm) : ∀ x ∈ ck.qs, x.2.fs.length + x.2.rs.length ≤ 536870912 := by
 intro x hx
 have := h.sz x.2.abs (List.mem_map_of_mem (f := fun x : Nat × CQ => x.2.abs) hx)
 simp [CQ.abs] at this
 omega
theorem PS.next {w wr w2 : World} {eb : Nat} {c ck c2 : CE} {wm : Int} {d : Deed} (h : PS w wr eb c ck wm) (hd : firstD ck.buf ck.abs.qs = some d) (ht : d.time < wm) (he : EG w2 eb c2) (hx : Ext wr (ck.blocks eb) w2 (c2.blocks eb)) (hq : c2.qv = ck.qv)
  (ha : c2.abs = { ck.abs with buf := (doD (ck.buf, ck.abs.qs) d).1, qs := (doD (ck.buf, ck.abs.qs) d).2 }) : PS w w2 eb c c2 wm := by
 have hb : c2.buf = (doD (ck.buf, ck.abs.qs) d).1 := congrArg En.buf ha
 have hqs : c2.abs.qs = (doD (ck.buf, ck.abs.qs) d).2 := congrArg En.qs ha
 refine ⟨he, h.ext.trans hx, hq.trans h.qv, ?_, ?_, ?_, ?_⟩
 ·rw [ha, h.abs]
  simp only [hb]
 ·rw [h.eq, pass_step (s := (ck.buf, ck.abs.qs)) hd ht, hb, hqs]
 ·rw [hb]; exact TM.step (s := (ck.buf, ck.abs.qs)) h.tm
 ·rw [hb, hqs]; exact h.sz.step hd

/-- What Pass leaves. -/
def PassPost (w : World) (eb : Nat) (c : CE) (wm : Int) (e : Ending) (w' : World) : Prop :=
 EPost w eb c (fun c' => c'.abs = { c.abs with buf := (pass wm (c.buf, c.abs.qs)).1, qs := (pass wm (c.buf, c.abs.qs)).2 }) e w'

theorem PS.done {w wr : World} {eb : Nat} {c ck : CE} {wm : Int} (h : PS w wr eb c ck wm) (hp : pass wm (ck.buf, ck.abs.qs) = (ck.buf, ck.abs.qs)) : PassPost w eb c wm (.returned (.tuple #[])) wr := by
 refine ⟨rfl, ck, h.eg, ?_, h.ext⟩
 rw [h.eq, hp]
 exact h.abs

set_option maxRecDepth 8000 in
set_option maxHeartbeats 2000000 in
theorem pass_eg (w : World) (eb : Nat) (c : CE) (wm : Int) (h : EG w eb c) (htm : TM c.buf) (hsz : SZ (c.buf, c.abs.qs)) :
  Calls Tryz.prog 61 #[.pointer (some ⟨eb, 2, none⟩), .int .i64 wm, c.qv] w (PassPost w eb c wm) := by
 have m1 := rel_m
 have m2 := fin_m
 have m3 := rel_n
 have m4 := fin_n
 have m5 := nil_nil'
 have m6 := ifc_nil'
 have m7 := rel_d
 have m8 := fin_d
 have m9 := rel_dn
 have m10 := fin_dn
 obtain ⟨qa, qcap, hqv, _⟩ := h.qrow.form
 have hfirst : Hid (∀ wr ck, EG wr eb ck → ck.qv = c.qv → Calls Tryz.prog 90 #[.pointer (some ⟨eb, 2, none⟩), .slice qa c.qs.length qcap] wr fun e w' => e = .returned (deedV (firstD ck.buf ck.abs.qs)) ∧ Below wr.heap.size wr w') := by
  intro wr ck hk hq
  have := first_eg wr eb ck hk
  rw [hq, hqv] at this
  exact this
 have h0 : Hid (PS w w eb c c wm) := ⟨h, Ext.refl _ _, rfl, rfl, rfl, htm, hsz⟩
 obtain ⟨PP, hPP⟩ : ∃ PP, PassPost w eb c wm = PP := ⟨_, rfl⟩
 rw [hPP, hqv]
 have HPP := Hid.mk' hPP
 have HQV := Hid.mk' hqv
 clear h htm hsz hPP hqv
 go_enter Tryz.func61, Tryz.ntmps61
 go_wp2_with (go_at_call 90; refine (hfirst.out w c h0.out.eg rfl).mono ?_; rintro e w1 ⟨rfl, hb1⟩)
 obtain ⟨dv0, hdv0⟩ : ∃ dv0, deedV (firstD c.buf c.abs.qs) = dv0 := ⟨_, rfl⟩
 rw [hdv0]
 have HDV0 := Hid.mk' hdv0
 clear hdv0
 go_loopg [6] (passM (c.buf, c.abs.qs)) (fun gk v wr => ∃ (ck : CE), v = deedV (firstD ck.buf ck.abs.qs) ∧ Hid (PS w wr eb c ck wm) ∧ Hid (gk = passM (ck.buf, ck.abs.qs)))
 case atStart => exact ⟨c, HDV0.out.symm, h0.out.below hb1, rfl⟩
 case round =>
  obtain ⟨ck, rfl, HP, HK⟩ := hrel
  cases hd : firstD ck.buf ck.abs.qs with
  | none =>
   have hfin : Hid (PP (.returned (.tuple #[])) wr) := by unfold Hid; rw [← HPP.out]; exact HP.out.done (pass_none hd)
   simp only [deedV]
   clear HP HK hd
   go_wp2
   go_end0
   exact hfin.out
  | some d =>
   have hnx : Hid (∀ w2 c2, d.time < wm → EG w2 eb c2 → Ext wr (ck.blocks eb) w2 (c2.blocks eb) → c2.qv = ck.qv → c2.abs = { ck.abs with buf := (doD (ck.buf, ck.abs.qs) d).1, qs := (doD (ck.buf, ck.abs.qs) d).2 } → PS w w2 eb c c2 wm ∧ passM (c2.buf, c2.abs.qs) < gk) := by
    intro w2 c2 ht he hx hq ha
    refine ⟨HP.out.next hd ht he hx hq ha, ?_⟩
    have h1 := passM_less (s := (ck.buf, ck.abs.qs)) hd
    rw [HK.out]
    have hb : c2.buf = (doD (ck.buf, ck.abs.qs) d).1 := congrArg En.buf ha
    have hqs : c2.abs.qs = (doD (ck.buf, ck.abs.qs) d).2 := congrArg En.qs ha
    rw [hb, hqs]
    exact h1
   cases d with
   | fin t =>
    simp only [deedV]
    by_cases ht : t < wm
    ·have hdo : Hid (∀ W, Below wr.heap.size wr W → Calls Tryz.prog 172 #[.agg #[.int .i64 t], .pointer (some ⟨eb, 2, none⟩), .slice qa c.qs.length qcap] W fun e w2 => e = .returned (.tuple #[]) ∧ ∃ c2, Hid (PS w w2 eb c c2 wm ∧ passM (c2.buf, c2.abs.qs) < gk)) := by
      intro W hW
      have hf := finDo W eb ck t (.pointer (some ⟨eb, 2, none⟩)) (HP.out.eg.below hW) HP.out.size
      rw [HP.out.qv, HQV.out] at hf
      refine hf.mono ?_
      rintro e w2 ⟨rfl, c2, g1, ⟨g2, g3⟩, g4⟩
      exact ⟨rfl, c2, hnx.out w2 c2 ht g1 ((Ext.below hW).trans g4) (by rw [g3, HP.out.qv, HQV.out]) g2⟩
     clear HP HK hd hnx
     go_wp2_with (first | (go_at_call 173; refine (finTime _ _).mono ?_; rintro e w3 ⟨rfl, q3, o3, rfl⟩) | (go_at_call 172; refine (hdo.out _ (grow_below2 wr _ _)).mono ?_; rintro e w2 ⟨rfl, c2, HN⟩) | (go_at_call 90; refine (hfirst.out w2 c2 HN.out.1.eg HN.out.1.qv).mono ?_; rintro e w4 ⟨rfl, hb4⟩))
     go_roundg (passM (c2.buf, c2.abs.qs))
     case measure => exact HN.out.2
     case rel => exact ⟨c2, rfl, HN.out.1.below hb4, rfl⟩
    ·have hfin : Hid (∀ W, Below wr.heap.size wr W → PP (.returned (.tuple #[])) W) := by
      intro W hW
      rw [← HPP.out]
      exact (HP.out.below hW).done (pass_late (d := .fin t) hd ht)
     clear HP HK hd hnx
     go_wp2_with (go_at_call 173; refine (finTime _ _).mono ?_; rintro e w3 ⟨rfl, q3, o3, rfl⟩)
     go_end0
     exact hfin.out _ (grow_below2 wr _ _)
   | rel ev =>
    obtain ⟨r, hr⟩ := firstD_rel hd
    obtain ⟨es, et, ek, evv⟩ := ev
    simp only [deedV]
    by_cases ht : et < wm
    ·have hdo : Hid (∀ W, Below wr.heap.size wr W → Calls Tryz.prog 163 #[.agg #[.int .i64 es, .int .i64 et, .int .u8 ek.toNat, .int .i64 evv], .pointer (some ⟨eb, 2, none⟩), .slice qa c.qs.length qcap] W fun e w2 => e = .returned (.tuple #[]) ∧ ∃ c2, Hid (PS w w2 eb c c2 wm ∧ passM (c2.buf, c2.abs.qs) < gk)) := by
      intro W hW
      have htm := HP.out.tm (es, et, ek, evv) (by rw [hr]; exact List.mem_cons_self)
      have hf := relDo W eb ck (es, et, ek, evv) r (HP.out.eg.below hW) hr htm.1 htm.2 HP.out.size
      rw [HP.out.qv, HQV.out] at hf
      refine hf.mono ?_
      rintro e w2 ⟨rfl, c2, g1, ⟨g2, g3⟩, g4⟩
      refine ⟨rfl, c2, hnx.out w2 c2 ht g1 ((Ext.below hW).trans g4) (by rw [g3, HP.out.qv, HQV.out]) ?_⟩
      rw [g2]
      simp only [doD, hr, List.tail_cons]
     clear HP HK hd hnx hr
     go_wp2_with (first | (go_at_call 164; refine (relTime _ _ _ _ _).mono ?_; rintro e w3 ⟨rfl, q3, o3, rfl⟩) | (go_at_call 163; refine (hdo.out _ (grow_below2 wr _ _)).mono ?_; rintro e w2 ⟨rfl, c2, HN⟩) | (go_at_call 90; refine (hfirst.out w2 c2 HN.out.1.eg HN.out.1.qv).mono ?_; rintro e w4 ⟨rfl, hb4⟩))
     go_roundg (passM (c2.buf, c2.abs.qs))
     case measure => exact HN.out.2
     case rel => exact ⟨c2, rfl, HN.out.1.below hb4, rfl⟩
    ·have hfin : Hid (∀ W, Below wr.heap.size wr W → PP (.returned (.tuple #[])) W) := by
      intro W hW
      rw [← HPP.out]
      exact (HP.out.below hW).done (pass_late (d := .rel (es, et, ek, evv)) hd ht)
     clear HP HK hd hnx hr
     go_wp2_with (go_at_call 164; refine (relTime _ _ _ _ _).mono ?_; rintro e w3 ⟨rfl, q3, o3, rfl⟩)
     go_end0
     exact hfin.out _ (grow_below2 wr _ _)
end Go.Proofs.YtbgfannlfagoiaaGreatDoor

namespace Go.Proofs.YtbgfannlfagoiaaGreatDoor
open Go.RowKit Go.Lull
set_option linter.unusedVariables false

theorem EG.setMark {w : World} {eb : Nat} {c : CE} (h : EG w eb c) (s : Nat) (t : Int) (hs : s < c.marks.length) :
  EG (w.setCell ⟨c.mg, s, none⟩ (.int .i64 t)) eb { c with marks := c.marks.set s t } ∧ Ext w (c.blocks eb) (w.setCell ⟨c.mg, s, none⟩ (.int .i64 t)) (CE.blocks { c with marks := c.marks.set s t } eb) := by
 have hnd := h.nd
 have hp : (c.blocks eb).Perm (c.mg :: (c.bv.ownBlock.toList ++ (c.qv.ownBlock.toList ++ [eb]) ++ qsb c.qs)) := by
  unfold CE.blocks CE.base
  have h1 : (c.qv.ownBlock.toList ++ [eb, c.mg]).Perm (c.mg :: (c.qv.ownBlock.toList ++ [eb])) := (List.Perm.append_left _ (List.Perm.swap c.mg eb [])).trans List.perm_middle
  rw [← List.cons_append]
  exact List.Perm.append_right _ ((List.Perm.append_left _ h1).trans List.perm_middle)
 have hkeep : ∀ b ∈ c.bv.ownBlock.toList ++ (c.qv.ownBlock.toList ++ [eb]) ++ qsb c.qs, (w.setCell ⟨c.mg, s, none⟩ (.int .i64 t)).heap[b]? = w.heap[b]? := fun b hb =>
  Below.heap_setCell _ _ _ _ (fun e => by
   have e' : b = c.mg := e
   subst e'
   exact (List.nodup_cons.1 (hp.nodup_iff.1 hnd)).1 hb)
 have hsz : w.heap.size ≤ (w.setCell ⟨c.mg, s, none⟩ (.int .i64 t)).heap.size := by simp [World.setCell]
 refine ⟨⟨?_, ?_, by simpa using h.m1, by simpa using h.m8, h.buf.same (fun b hb => hkeep b (by simp [hb])), h.qrow.same (fun b hb => hkeep b (by simp [hb])), fun x hx => (h.qy x hx).same hsz (fun b hb => hkeep b (List.mem_append_right _ (mem_qsb hx hb))), h.nd, h.q10, h.b60⟩, ⟨(Fr.refl _ _).setCell (Or.inl (by simp [CE.blocks, CE.base])) _, fun b hb => Or.inl hb⟩⟩
 ·rw [hkeep eb (by simp)]
  have := h.blk
  simpa [eCells] using this
 ·refine ⟨by simp, ?_⟩
  rcases h.marks.2 with ⟨e, _⟩ | ⟨g, cap, cur, h1, h2, h3, h4, h5, h6, h7⟩
  ·cases e
  ·cases h1
   refine Or.inr ⟨c.mg, c.mc, cur.setIfInBounds s (.int .i64 t), by simp, Nat.zero_le _, heap_setCell_same w c.mg s _ _ _ h3, by simpa using h4, h5, by simpa using h6, ?_⟩
   simp only [List.length_set, Nat.mul_one] at *
   rw [Array.toList_setIfInBounds, List.take_set, h7, List.map_set]

/-- What Beat leaves. -/
def BeatPost (w : World) (eb : Nat) (c : CE) (s t : Int) (e : Ending) (w' : World) : Prop :=
 e = .returned (.int .i64 (beatE c.abs s t).1) ∧ ∃ c', EG w' eb c' ∧ c'.abs = (beatE c.abs s t).2 ∧ Ext w (c.blocks eb) w' (c'.blocks eb)

set_option maxHeartbeats 400000 in
theorem beat_bad (w : World) (eb : Nat) (c : CE) (s t : Int) (h : EG w eb c) (hb : s < 0 ∨ (c.marks.length : Int) ≤ s ∨ t < 0 ∨ 2000000 < t) :
  Calls Tryz.prog 31 #[.pointer (some ⟨eb, 0, none⟩), .int .i64 s, .int .i64 t] w (BeatPost w eb c s t) := by
 have hmade := Hid.mk' (made_yes eb w h.self)
 have e1 := cell_of_row w eb 1 _ _ _ h.blk
 simp [eCells] at e1
 have hm8 := h.m8
 have hB : beatE c.abs s t = (1, c.abs) := by unfold beatE; exact if_pos hb
 have hfin : Hid (BeatPost w eb c s t (.returned (.int .i64 1)) w) := by unfold Hid BeatPost; rw [hB]; exact ⟨rfl, c, h, rfl, Ext.refl _ _⟩
 clear h hB
 by_cases h1 : s < 0
 ·clear hb
  go_enter Tryz.func31, Tryz.ntmps31
  go_wp2_with (go_at_call 39; refine hmade.out.mono ?_; rintro e w' ⟨rfl, rfl⟩)
  go_ret
  exact hfin.out
 ·by_cases h2 : (c.marks.length : Int) ≤ s
  ·clear hb
   go_enter Tryz.func31, Tryz.ntmps31
   go_wp2_with (go_at_call 39; refine hmade.out.mono ?_; rintro e w' ⟨rfl, rfl⟩)
   go_ret
   exact hfin.out
  ·by_cases h3 : t < 0
   ·clear hb
    go_enter Tryz.func31, Tryz.ntmps31
    go_wp2_with (go_at_call 39; refine hmade.out.mono ?_; rintro e w' ⟨rfl, rfl⟩)
    go_ret
    exact hfin.out
   ·have h4 : 2000000 < t := by rcases hb with h | h | h | h <;> first | exact absurd h h1 | exact absurd h h2 | exact absurd h h3 | exact h
    clear hb
    go_enter Tryz.func31, Tryz.ntmps31
    go_wp2_with (go_at_call 39; refine hmade.out.mono ?_; rintro e w' ⟨rfl, rfl⟩)
    go_ret
    exact hfin.out

set_option maxHeartbeats 1000000 in
theorem beat_ok (w : World) (eb : Nat) (c : CE) (s : Nat) (t : Int) (h : EG w eb c) (hs : s < c.marks.length) (ht0 : ¬ t < 0) (ht1 : ¬ 2000000 < t) (htm : TM c.buf) (hsz : SZ (c.buf, c.abs.qs)) :
  Calls Tryz.prog 31 #[.pointer (some ⟨eb, 0, none⟩), .int .i64 s, .int .i64 t] w (BeatPost w eb c s t) := by
 have hmade := Hid.mk' (made_yes eb w h.self)
 have e1 := cell_of_row w eb 1 _ _ _ h.blk
 simp [eCells] at e1
 have hm8 := h.m8
 have hms := h.mark s hs
 have hcap := h.mcap
 have hn : ¬ ((s : Int) < 0 ∨ ((c.abs.marks.length : Nat) : Int) ≤ (s : Int) ∨ t < 0 ∨ 2000000 < t) := by
  show ¬ ((s : Int) < 0 ∨ ((c.marks.length : Nat) : Int) ≤ (s : Int) ∨ t < 0 ∨ 2000000 < t)
  omega
 have hget : c.abs.marks.getD (s : Int).toNat 0 = c.marks[s] := by
  show c.marks.getD (s : Int).toNat 0 = _
  simp [hs]
 by_cases hl : t < c.marks[s]
 ·have hB : beatE c.abs s t = (5, c.abs) := by unfold beatE; rw [if_neg hn, if_pos (by rw [hget]; exact hl)]
  have hfin : Hid (BeatPost w eb c s t (.returned (.int .i64 5)) w) := by unfold Hid BeatPost; rw [hB]; exact ⟨rfl, c, h, rfl, Ext.refl _ _⟩
  clear h hB htm hsz hn hget
  go_enter Tryz.func31, Tryz.ntmps31
  go_wp2_with (go_at_call 39; refine hmade.out.mono ?_; rintro e w' ⟨rfl, rfl⟩)
  go_ret
  exact hfin.out
 ·obtain ⟨g1, g2⟩ := h.setMark s t hs
  obtain ⟨c1, hc1⟩ : ∃ c1, { c with marks := c.marks.set s t : CE } = c1 := ⟨_, rfl⟩
  obtain ⟨w1, hw1⟩ : ∃ w1, w.setCell ⟨c.mg, s, none⟩ (.int .i64 t) = w1 := ⟨_, rfl⟩
  rw [hc1, hw1] at g1 g2
  have hcm : c1.marks = c.marks.set s t := by rw [← hc1]
  have hq1 : c1.qv = c.qv := by rw [← hc1]
  have hB : beatE c.abs s t = (0, { c1.abs with buf := (pass (markB c1.marks) (c1.buf, c1.abs.qs)).1, qs := (pass (markB c1.marks) (c1.buf, c1.abs.qs)).2 }) := by
   unfold beatE
   rw [if_neg hn, if_neg (by rw [hget]; exact hl), ← hc1]
   simp [CE.abs]
  have e31 := cell_of_row w1 eb 3 _ _ _ g1.blk
  simp [eCells] at e31
  have hwm : Hid (∀ q, Calls Tryz.prog 33 #[.pointer (some ⟨eb, 0, none⟩)] (w1.drewN q) fun e w' => e = .returned (.int .i64 (markB c1.marks)) ∧ w' = w1.drewN q) := fun q => wm_eg (w1.drewN q) eb c1 (g1.drewN q)
  have hpass : Hid (∀ q, Calls Tryz.prog 61 #[.pointer (some ⟨eb, 2, none⟩), .int .i64 (markB c1.marks), c1.qv] (w1.drewN q) fun e w2 => e = .returned (.tuple #[]) ∧ Hid (BeatPost w eb c s t (.returned (.int .i64 0)) w2)) := by
   intro q
   refine (pass_eg (w1.drewN q) eb c1 (markB c1.marks) (g1.drewN q) (by rw [← hc1]; exact htm) (by rw [← hc1]; exact hsz)).mono ?_
   rintro e w2 ⟨rfl, c2, k1, k2, k3⟩
   refine ⟨rfl, ?_⟩
   unfold Hid BeatPost
   rw [hB]
   exact ⟨rfl, c2, k1, k2, g2.trans ⟨⟨k3.fr.os, k3.fr.tape, k3.fr.output, k3.fr.size, k3.fr.block⟩, k3.sub⟩⟩
  obtain ⟨qa, qn, qc, hqv⟩ : ∃ qa qn qc, c1.qv = .slice qa qn qc := by
   obtain ⟨a, cap, e, _⟩ := g1.qrow.form
   exact ⟨_, _, _, e⟩
  rw [hqv] at e31 hpass
  have hfz : w.frozen? ⟨c.mg, s, none⟩ = false := by
   rcases h.marks.2 with ⟨e, _⟩ | ⟨g, cap, cur, h1, _, h3, _⟩
   ·cases e
   ·cases h1; exact frozen_of_row _ _ _ _ _ h3
  have HW1 := Hid.mk' hw1
  clear h hB htm hsz hn hget g1 g2 hc1 hcm hq1 hqv hw1
  go_enter Tryz.func31, Tryz.ntmps31
  go_wp2_with (go_at_call 39; refine hmade.out.mono ?_; rintro e w' ⟨rfl, rfl⟩)
  rw [HW1.out]
  go_region_with (first | (go_at_call 33; refine (hwm.out 1).mono ?_; rintro e w2 ⟨rfl, rfl⟩) | (go_at_call 61; refine (hpass.out 1).mono ?_; rintro e w3 ⟨rfl, HP⟩))
  all_goals
   go_wp2
   go_ret
   exact HP.out

theorem beat_eg (w : World) (eb : Nat) (c : CE) (s t : Int) (h : EG w eb c) (htm : TM c.buf) (hsz : SZ (c.buf, c.abs.qs)) :
  Calls Tryz.prog 31 #[.pointer (some ⟨eb, 0, none⟩), .int .i64 s, .int .i64 t] w (BeatPost w eb c s t) := by
 by_cases hb : s < 0 ∨ (c.marks.length : Int) ≤ s ∨ t < 0 ∨ 2000000 < t
 ·exact beat_bad w eb c s t h hb
 ·obtain ⟨n, rfl⟩ : ∃ n : Nat, s = n := ⟨s.toNat, by omega⟩
  exact beat_ok w eb c n t h (by omega) (by omega) (by omega) htm hsz
end Go.Proofs.YtbgfannlfagoiaaGreatDoor

namespace Go.Proofs.YtbgfannlfagoiaaGreatDoor
open Go.RowKit
set_option linter.unusedVariables false

set_option maxHeartbeats 400000 in
theorem mayHave_yes (n : Int) (w : World) (h1 : 1 ≤ n) (h2 : n ≤ 8) :
  Calls Tryz.prog 48 #[.int .i64 n] w fun e w' => e = .returned (.bool true) ∧ w' = w := by
 go_enter Tryz.func48, Tryz.ntmps48
 go_wp2
 go_ret
 exact ⟨rfl, rfl⟩
set_option maxHeartbeats 400000 in
theorem mayHave_no (n : Int) (w : World) (h : n < 1 ∨ 8 < n) :
  Calls Tryz.prog 48 #[.int .i64 n] w fun e w' => e = .returned (.bool false) ∧ w' = w := by
 by_cases h1 : n < 1
 ·clear h
  go_enter Tryz.func48, Tryz.ntmps48
  go_wp2
  go_ret
  exact ⟨rfl, rfl⟩
 ·have h2 : ¬ n ≤ 8 := by omega
  clear h
  go_enter Tryz.func48, Tryz.ntmps48
  go_wp2
  go_ret
  exact ⟨by simp, rfl⟩
end Go.Proofs.YtbgfannlfagoiaaGreatDoor

namespace Go.Proofs.YtbgfannlfagoiaaGreatDoor
open Go.RowKit Go.Lull
set_option linter.unusedVariables false

theorem Tryz.infoInt : (Tryz.prog.info? 3).map (fun i => (i.zero, i.size, i.bytes)) = some (some (.int .i64 0), 1, 8) := by kernel_rfl

/-- An Engine that New made. -/
def newE (n mg : Nat) : CE := ⟨List.replicate n 0, mg, n, .slice none 0 0, [], .slice none 0 0, [], 0, 0, 0⟩

set_option maxHeartbeats 400000 in
theorem new_eg (n : Nat) (w : World) (h0 : 0 < n) (h8 : n ≤ 8) :
  Calls Tryz.prog 21 #[.int .i64 n] w fun e w' => e = .returned (.tuple #[.pointer (some ⟨w.heap.size + 1, 0, none⟩), .int .i64 0]) ∧ Below w.heap.size w w' ∧ EG w' (w.heap.size + 1) (newE n w.heap.size) := by
 have hmk := run_make_row' (P := Tryz.prog) 44 3 (.int .i64 0) 8 Tryz.underlying44 Tryz.infoInt rfl .i64 .i64 n (by omega) (by omega)
 have hn1 : (1 : Int) ≤ (n : Int) := by omega
 have hn8 : (n : Int) ≤ 8 := by omega
 go_enter Tryz.func21, Tryz.ntmps21
 go_wp2
 go_ret2
 refine ⟨rfl, by repeat (first | exact Below.refl _ _ | refine Below.alloc ?_ (by simp; try omega) _ | refine Below.setCell ?_ (by simp; try omega) _ | apply Below.drew), ?_⟩
 refine ⟨?_, ?_, ?_, ?_, ⟨rfl, Or.inl ⟨rfl, rfl⟩⟩, ⟨rfl, Or.inl ⟨rfl, rfl⟩⟩, by simp [newE], ?_, by simp [newE], by simp [newE]⟩
 ·have := heap_alloc_at (w.alloc (.cells (madeCells #[Value.int .i64 0] n) 3)) (.cells #[.pointer (some ⟨w.heap.size + 1, 0, none⟩), .slice (some ⟨w.heap.size, 0, none⟩) n n, .slice none 0 0, .slice none 0 0, .int .i64 0, .int .i64 0, .int .i64 0] 104) (w.heap.size + 1) (by simp)
  rw [this]
  simp [eCells, newE]
 ·refine ⟨by simp [newE], Or.inr ⟨w.heap.size, n, madeCells #[.int .i64 0] n, by simp [newE], Nat.zero_le _, ?_, by simp [newE], by unfold maxLen; omega, by simp [madeCells], ?_⟩⟩
  ·rw [Below.heap_alloc _ _ _ (by simp), heap_alloc_new]
  ·apply List.ext_getElem
   ·simp [newE, madeCells]
   ·intro i h1 h2
    simp [newE, madeCells, Nat.mod_one]
 ·simpa [newE] using h0
 ·simpa [newE] using h8
 ·simp [CE.blocks, CE.base, newE, qsb, Value.ownBlock]
end Go.Proofs.YtbgfannlfagoiaaGreatDoor
