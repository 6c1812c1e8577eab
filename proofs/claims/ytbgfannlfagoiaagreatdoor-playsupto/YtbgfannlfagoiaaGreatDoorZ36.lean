import Derived.Test.YtbgfannlfagoiaaGreatDoorZ35
import Derived.Test.YtbgfannlfagoiaaGreatDoorZ29
namespace Go.Lull
set_option linter.unusedVariables false
theorem bump_rok {n : Nat} {r : RS} (hr : RSok n r) {q : RQ} (hq : q ∈ r.qs) (hh : hasB (markB r.marks) q = true) (s : Int) (k : Nat) (ht : (s = -1 ∧ k = 0) ∨ (0 ≤ s ∧ 1 ≤ k ∧ k ≤ 2)) : RSok n { r with qs := bumpQ q.id r.qs, served := s, row := k } := by
 have huniq : ∀ y ∈ r.qs, y.id = q.id → y = q := by
  have : ∀ (l : List RQ), l.Pairwise (fun a b => a.id < b.id) → ∀ a ∈ l, ∀ b ∈ l, a.id = b.id → a = b := by
   intro l
   induction l with
   | nil => intro _ a ha; cases ha
   | cons c l ih =>
    intro hl a ha b hb hab
    have hc := List.pairwise_cons.1 hl
    rcases List.mem_cons.1 ha with ha | ha
    ·rcases List.mem_cons.1 hb with hb | hb
     ·rw [ha, hb]
     ·have := hc.1 b hb; rw [ha] at hab; omega
    ·rcases List.mem_cons.1 hb with hb | hb
     ·have := hc.1 a ha; rw [hb] at hab; omega
     ·exact ih hc.2 a ha b hb hab
  exact fun y hy h => this r.qs hr.nr y hy q hq h
 refine ⟨hr.mne, hr.m8, hr.sb, hr.ge, hr.tm, ?_, hr.wl, ?_, ?_, by simpa [bumpQ] using hr.ql, ht⟩
 ·intro q' hq'
  obtain ⟨y, hy, rfl⟩ := List.mem_map.1 hq'
  obtain ⟨ho, hl⟩ := hr.qs y hy
  by_cases he : y.id = q.id
  ·have hyq := huniq y hy he
   subst hyq
   rw [if_pos rfl]
   refine ⟨⟨ho.vp, ho.len, ho.w0, ho.w1, ho.sb, ho.lt, ho.tm, ?_⟩, hl⟩
   show y.gone + 1 ≤ (y.all (markB r.marks)).found.length
   unfold hasB qOf dropF at hh
   have : ¬ (y.all (markB r.marks)).found.drop y.gone = [] := fun e => by simp [e] at hh
   have := List.length_pos_iff.2 this
   rw [List.length_drop] at this
   omega
  ·rw [if_neg he]; exact ⟨ho, hl⟩
 ·show (bumpQ q.id r.qs).Pairwise _
  unfold bumpQ
  rw [List.pairwise_map]
  refine hr.nr.imp ?_
  intro a b hab
  have e1 : (if a.id = q.id then { a with gone := a.gone + 1 } else a).id = a.id := by split <;> rfl
  have e2 : (if b.id = q.id then { b with gone := b.gone + 1 } else b).id = b.id := by split <;> rfl
  rw [e1, e2]; exact hab
 ·intro q' hq'
  obtain ⟨y, hy, rfl⟩ := List.mem_map.1 hq'
  have e1 : (if y.id = q.id then { y with gone := y.gone + 1 } else y).id = y.id := by split <;> rfl
  rw [e1]; exact hr.nx y hy
theorem last_has {r : RS} {q : RQ} (h : lastR r = some q) : q ∈ r.qs ∧ hasB (markB r.marks) q = true ∧ r.row < 2 ∧ (q.id : Int) = r.served := by
 unfold lastR at h
 split at h
 ·rename_i h2
  cases hf : r.qs.find? (fun q => (q.id : Int) == r.served) with
  | none => rw [hf] at h; cases h
  | some x =>
   rw [hf] at h
   simp only at h
   split at h
   ·rename_i hh
    cases h
    exact ⟨List.mem_of_find?_eq_some hf, hh, h2, by have := List.find?_some hf; simpa using this⟩
   ·cases h
 ·cases h
theorem next_has {r : RS} {q : RQ} (h : nextR r = some q) : q ∈ r.qs ∧ hasB (markB r.marks) q = true := by
 unfold nextR at h
 cases hf : r.qs.find? (fun q => hasB (markB r.marks) q && decide (r.served < (q.id : Int))) with
 | none =>
  rw [hf] at h
  exact ⟨List.mem_of_find?_eq_some h, List.find?_some h⟩
 | some x =>
  rw [hf] at h
  cases h
  have := List.find?_some hf
  simp at this
  exact ⟨List.mem_of_find?_eq_some hf, this.1⟩
end Go.Lull
namespace Go.Proofs.YtbgfannlfagoiaaGreatDoor
open Go.RowKit Go.Lull
set_option linter.unusedVariables false
def CR.up (x : CR) : CR := { x with q := { x.q with gone := x.q.gone + 1 } }
def RC.bump (c : RC) (i : Nat) : RC := { c with cs := c.cs.map (fun y => if y.q.id = i then y.up else y) }
theorem bump_blk (i : Nat) (y : CR) : (if y.q.id = i then y.up else y).blk = y.blk ∧ (if y.q.id = i then y.up else y).sb = y.sb ∧ (if y.q.id = i then y.up else y).qb = y.qb := by
 split <;> exact ⟨rfl, rfl, rfl⟩
theorem bump_blocks (c : RC) (i rb : Nat) : (c.bump i).wr rb = c.wr rb ∧ (c.bump i).rd = c.rd := by
 have e1 : (c.cs.map (fun y => if y.q.id = i then y.up else y)).flatMap CR.blk = c.cs.flatMap CR.blk := by
  rw [List.flatMap_map]
  exact flatMap_cong (fun y _ => (bump_blk i y).1)
 have e2 : (c.cs.map (fun y => if y.q.id = i then y.up else y)).map (·.sb) = c.cs.map (·.sb) := by
  rw [List.map_map]
  exact List.map_congr_left (fun y _ => (bump_blk i y).2.1)
 unfold RC.wr RC.rd RC.bump
 simp only
 rw [e1, e2]
 exact ⟨rfl, rfl⟩
theorem bump_abs (c : RC) (i : Nat) : (c.bump i).abs = { c.abs with qs := bumpQ i c.abs.qs } := by
 unfold RC.abs RC.bump bumpQ
 simp only [List.map_map]
 congr 1
 refine List.map_congr_left (fun y _ => ?_)
 simp only [Function.comp]
 split <;> rfl
theorem nodup_qb {l : List CR} (h : (l.flatMap CR.blk).Nodup) {x y : CR} (hx : x ∈ l) (hy : y ∈ l) (hne : x ≠ y) : ∀ b ∈ y.blk, b ≠ x.qb := by
 induction l with
 | nil => cases hx
 | cons a l ih =>
  rw [List.flatMap_cons] at h
  have hn := List.nodup_append.1 h
  intro b hb e
  have hxq : x.qb ∈ x.blk := by simp [CR.blk]
  rcases List.mem_cons.1 hx with hxa | hx
  ·rcases List.mem_cons.1 hy with hya | hy
   ·exact hne (hxa.trans hya.symm)
   ·rw [hxa] at hxq e
    exact hn.2.2 _ hxq b (List.mem_flatMap.2 ⟨y, hy, hb⟩) e.symm
  ·rcases List.mem_cons.1 hy with hya | hy
   ·rw [hya] at hb
    exact hn.2.2 b hb x.qb (List.mem_flatMap.2 ⟨x, hx, hxq⟩) e
   ·exact ih hn.2.1 hx hy b hb e
theorem nodup_flat {l : List CR} (h : (l.flatMap CR.blk).Nodup) {y : CR} (hy : y ∈ l) : (CR.blk y).Nodup := by
 induction l with
 | nil => cases hy
 | cons a l ih =>
  rw [List.flatMap_cons] at h
  have hn := List.nodup_append.1 h
  rcases List.mem_cons.1 hy with rfl | hy
  ·exact hn.1
  ·exact ih hn.2.1 hy
theorem RE.bump {w : World} {rb n : Nat} {c : RC} (h : RE w rb c) (hr : RSok n c.abs) {x : CR} (hx : x ∈ c.cs) : RE (w.setCell ⟨x.qb, 4, none⟩ (.int .i64 ((x.q.gone : Int) + 1))) rb (c.bump x.q.id) := by
 obtain ⟨e1, e2⟩ := bump_blocks c x.q.id rb
 have hqw : x.qb ∈ c.cs.flatMap CR.blk := List.mem_flatMap.2 ⟨x, hx, by simp [CR.blk]⟩
 have hn1 := List.nodup_cons.1 h.nd
 have hn2 := List.nodup_cons.1 hn1.2
 have hn3 := List.nodup_append.1 hn2.2
 have hrb : rb ≠ x.qb := fun e => hn1.1 (by rw [e]; exact List.mem_cons_of_mem _ (List.mem_append_right _ hqw))
 have hmg : c.mg ≠ x.qb := fun e => hn2.1 (by rw [e]; exact List.mem_append_right _ hqw)
 have hap : ∀ b ∈ c.rd, b ≠ x.qb := fun b hb e => h.ap b hb (by rw [e]; exact List.mem_cons_of_mem _ (List.mem_cons_of_mem _ (List.mem_append_right _ hqw)))
 have hset : ∀ b, b ≠ x.qb → (w.setCell ⟨x.qb, 4, none⟩ (.int .i64 ((x.q.gone : Int) + 1))).heap[b]? = w.heap[b]? := fun b hb => Below.heap_setCell _ _ _ _ hb
 have huniq : ∀ y ∈ c.cs, y.q.id = x.q.id → y = x := by
  intro y hy he
  have h1 := cs_uniq hr hy
  have h2 := cs_uniq hr hx
  rw [he] at h1
  rw [h1] at h2
  exact Option.some.inj h2
 refine ⟨?_, ?_, h.waits.same (fun b hb => hset b (hap b (by simp [RC.rd, hb]))), ?_, ?_, by rw [e1]; exact h.nd, by rw [e1, e2]; exact h.ap⟩
 ·rw [hset rb hrb]; exact h.blk
 ·show (w.setCell _ _).heap[c.mg]? = _
  rw [hset c.mg hmg]; exact h.marks
 ·have hl : (c.bump x.q.id).cs.length = c.cs.length := by simp [RC.bump]
  have hm : (c.bump x.q.id).cs.map (fun x => Value.pointer (some ⟨x.qb, 0, none⟩)) = c.cs.map (fun x => Value.pointer (some ⟨x.qb, 0, none⟩)) := by
   unfold RC.bump
   rw [List.map_map]
   exact List.map_congr_left (fun y _ => by simp only [Function.comp]; rw [(bump_blk x.q.id y).2.2])
  rw [hl, hm]
  exact h.qrow.same (fun b hb => hset b (fun e => hn3.2.2 b (by simp [hb]) x.qb hqw e))
 ·intro y' hy'
  obtain ⟨y, hy, rfl⟩ := List.mem_map.1 hy'
  by_cases he : y.q.id = x.q.id
  ·have hyx := huniq y hy he
   subst hyx
   rw [if_pos rfl]
   have hq := h.qs y hy
   have hsb : y.sb ≠ y.qb := hap _ (mem_rd hy)
   refine ⟨?_, hq.st.same (by simp) (hset _ hsb), hq.stc, own_same hq.seen (fun b hb => hset b (fun e => ?_))⟩
   ·show (w.setCell _ _).heap[y.qb]? = _
    rw [heap_setCell_same w y.qb 4 _ _ _ hq.blk]
    have ec : (((y.q.gone + 1 : Nat)) : Int) = (y.q.gone : Int) + 1 := by omega
    simp [rqCells, CR.up, ec]
   ·have hnd : (CR.blk y).Nodup := nodup_flat hn3.2.1 hy
    have hb' : (Value.slice y.sa y.q.seen.length y.lc).ownBlock = some b := hb
    exact (List.nodup_cons.1 hnd).1 (by rw [← e]; simp [hb'])
  ·rw [if_neg he]
   have hyx : x ≠ y := fun e => he (by rw [e])
   refine (h.qs y hy).same (by simp) (fun b hb => hset b ?_)
   rcases List.mem_append.1 hb with h1 | h1
   ·exact nodup_qb hn3.2.1 hx hy hyx b h1
   ·rw [List.mem_singleton] at h1; subst h1; exact hap _ (mem_rd hy)
end Go.Proofs.YtbgfannlfagoiaaGreatDoor

namespace Go.Proofs.YtbgfannlfagoiaaGreatDoor
open Go.RowKit Go.Lull
set_option linter.unusedVariables false

theorem turn_rok {n : Nat} {r : RS} (hr : RSok n r) (s : Int) (k : Nat) (ht : (s = -1 ∧ k = 0) ∨ (0 ≤ s ∧ 1 ≤ k ∧ k ≤ 2)) : RSok n { r with served := s, row := k } :=
 ⟨hr.mne, hr.m8, hr.sb, hr.ge, hr.tm, hr.qs, hr.wl, hr.nr, hr.nx, hr.ql, ht⟩
/-- Who is served, before its match is taken. -/
structure SV (w : World) (rb n : Nat) (c c1 : RC) (x : CR) (w' : World) : Prop where
 re : RE w' rb c1
 fr : Fr [rb] w w'
 cs : c1.cs = c.cs
 mke : c1.marks = c.marks
 wr : c1.wr rb = c.wr rb
 rd : c1.rd = c.rd
 se : serveE (eOf c.abs) = some (headM (markB c.marks) x.q, eOf (c1.bump x.q.id).abs)
 has : hasB (markB c.marks) x.q = true
 ok1 : RSok n c1.abs
 ok2 : RSok n (c1.bump x.q.id).abs
theorem serve_step {w : World} {rb n : Nat} {c : RC} (h : RE w rb c) (hr : RSok n c.abs) (hn : n ≤ 1000000) :
  Calls Tryz.prog 78 #[.pointer (some ⟨rb, 0, none⟩)] w fun e w' => (∃ x c1, x ∈ c.cs ∧ e = .returned (.pointer (some ⟨x.qb, 0, none⟩)) ∧ SV w rb n c c1 x w') ∨ (e = .returned (.pointer none) ∧ RE w' rb c ∧ Fr [rb] w w' ∧ serveE (eOf c.abs) = none) := by
 have hs := serve_sim hr
 refine (serve_any' h hr hn).mono ?_
 rintro e w' (⟨x, hx, h1, rfl, h2, h3⟩ | ⟨h0, x, hx, h1, rfl, h2, h3⟩ | ⟨h0, h1, rfl, h2, h3⟩)
 ·rw [h1] at hs
  obtain ⟨l1, l2, l3, l4⟩ := last_has h1
  have ht : (c.served = -1 ∧ c.row + 1 = 0) ∨ (0 ≤ c.served ∧ 1 ≤ c.row + 1 ∧ c.row + 1 ≤ 2) := by
   have e1 : c.abs.served = c.served := rfl
   have e2 : c.abs.row = c.row := rfl
   rcases hr.turn with ⟨t1, t2⟩ | ⟨t1, t2, t3⟩
   ·omega
   ·right; omega
  have hok1 : RSok n ({ c with row := c.row + 1 } : RC).abs := turn_rok hr c.served (c.row + 1) ht
  refine Or.inl ⟨x, { c with row := c.row + 1 }, hx, rfl, h2, h3, rfl, rfl, rfl, rfl, ?_, l2, hok1, ?_⟩
  ·rw [hs, bump_abs]; rfl
  ·rw [bump_abs]; exact bump_rok hr l1 l2 c.served (c.row + 1) ht
 ·rw [h0, h1] at hs
  obtain ⟨l1, l2⟩ := next_has h1
  have ht : ((x.q.id : Int) = -1 ∧ 1 = 0) ∨ (0 ≤ (x.q.id : Int) ∧ 1 ≤ 1 ∧ 1 ≤ 2) := Or.inr ⟨by omega, by omega, by omega⟩
  have hok1 : RSok n ({ c with served := x.q.id, row := 1 } : RC).abs := turn_rok hr x.q.id 1 ht
  refine Or.inl ⟨x, { c with served := x.q.id, row := 1 }, hx, rfl, h2, h3, rfl, rfl, rfl, rfl, ?_, l2, hok1, ?_⟩
  ·rw [hs, bump_abs]; rfl
  ·rw [bump_abs]; exact bump_rok hr l1 l2 x.q.id 1 ht
 ·rw [h0, h1] at hs
  exact Or.inr ⟨rfl, h2, h3, hs⟩
/-- Drain, in the midst. -/
structure DD (w wr : World) (rb n N : Nat) (c ck : RC) (ov : Value) (O : List (Mt × Value)) : Prop where
 re : RE wr rb ck
 ok : RSok n ck.abs
 wre : ck.wr rb = c.wr rb
 rde : ck.rd = c.rd
 fr : Fr (c.blocks rb) w wr
 lt : ∀ b ∈ c.blocks rb, b < w.heap.size
 eq : drainE N (eOf c.abs) = (O.map Prod.fst ++ (drainE (N - O.length) (eOf ck.abs)).1, (drainE (N - O.length) (eOf ck.abs)).2)
 ms : MS wr ov O
 new : ∀ b ∈ ov.ownBlock.toList ++ eblk (O.map fp), w.heap.size ≤ b
 ne : ∀ b, ov.ownBlock = some b → b ∉ eblk (O.map fp)
theorem DD.start {w : World} {rb n N : Nat} {c : RC} (h : RE w rb c) (hr : RSok n c.abs) : DD w w rb n N c c (.slice none 0 0) [] :=
 ⟨h, hr, rfl, rfl, Fr.refl _ _, h.lt, by simp, ⟨⟨rfl, Or.inl ⟨rfl, rfl⟩⟩, by simp⟩, by simp [eblk, Value.ownBlock], fun b hb => (by cases hb)⟩
theorem DD.next {w wr w1 w2 w3 : World} {rb n N k : Nat} {c ck c1 : RC} {ov lv : Value} {O OL : List (Mt × Value)} {x : CR} {o : Obj} {g off cap : Nat} (h : DD w wr rb n N c ck ov O) (hs : SV wr rb n ck c1 x w1) (hx : x ∈ ck.cs)
  (hb : Below w1.heap.size w1 w2) (hOL : OL.map Prod.fst = (x.q.all (markB ck.marks)).found) (hM : MS w2 lv OL) (hnew : ∀ b ∈ eblk (OL.map fp), w1.heap.size ≤ b) (hk : k = x.q.gone) (hkl : k < OL.length)
  (hrow : Row w3 58 3 (.slice (some ⟨g, off, none⟩) (O.length + 1) cap) (O.length + 1) (O.flatMap matC ++ matC OL[k])) (hg : (w2.alloc o).grownBy w3 ov.ownBlock) (hat : ov.ownBlock = some g ∨ g = w2.heap.size + 1) (hN : O.length < N) :
  DD w (w3.setCell ⟨x.qb, 4, none⟩ (.int .i64 ((x.q.gone : Int) + 1))) rb n N c (c1.bump x.q.id) (.slice (some ⟨g, off, none⟩) (O ++ [OL[k]]).length cap) (O ++ [OL[k]]) := by
 obtain ⟨e1, e2⟩ := bump_blocks c1 x.q.id rb
 have hx1 : x ∈ c1.cs := by rw [hs.cs]; exact hx
 have hcb : ck.blocks rb = c.blocks rb := by unfold RC.blocks; rw [h.wre, h.rde]
 have hc1b : c1.blocks rb = c.blocks rb := by unfold RC.blocks; rw [hs.wr, hs.rd, h.wre, h.rde]
 have hz1 : wr.heap.size ≤ w1.heap.size := hs.fr.size
 have hz0 : w.heap.size ≤ wr.heap.size := h.fr.size
 have hz2 := hb.size
 have hovl : ∀ b, ov.ownBlock = some b → w.heap.size ≤ b ∧ b < wr.heap.size := fun b hb => ⟨h.new b (List.mem_append_left _ (by simp [hb])), h.ms.row.lt b hb⟩
 -- behind the append
 have hsame3 : ∀ b, b < w2.heap.size → ov.ownBlock ≠ some b → w3.heap[b]? = w2.heap[b]? := fun b hl hne => by
  rw [hg.block b (by simp; omega) (fun e => hne e.symm), Below.heap_alloc _ _ _ hl]
 have hre2 : RE w2 rb c1 := hs.re.below hb
 have hre3 : RE w3 rb c1 := hre2.same (by have := hg.size; simp at this; omega) (fun b hm => hsame3 b (hre2.lt b hm) (fun e => by have := (hovl b e).1; rw [hc1b] at hm; have := h.lt b hm; omega))
 have hqb : x.qb ∈ c.blocks rb := by rw [← hcb]; exact List.mem_append_left _ (mem_wr hx (by simp [CR.blk]))
 have hqbl := h.lt x.qb hqb
 have hset : ∀ b, b ≠ x.qb → (w3.setCell ⟨x.qb, 4, none⟩ (.int .i64 ((x.q.gone : Int) + 1))).heap[b]? = w3.heap[b]? := fun b hne => Below.heap_setCell _ _ _ _ hne
 -- blocks of matches stay
 have hkeep : ∀ b, w.heap.size ≤ b → b < wr.heap.size → ov.ownBlock ≠ some b → b ∉ c.blocks rb → (w3.setCell ⟨x.qb, 4, none⟩ (.int .i64 ((x.q.gone : Int) + 1))).heap[b]? = wr.heap[b]? := fun b h1 h2 h3 h4 => by
  rw [hset b (by omega), hsame3 b (by omega) h3, hb.block b (by omega), hs.fr.block b h2 (by
   intro hm
   rw [List.mem_singleton] at hm
   exact h4 (by rw [hm, ← hcb]; exact List.mem_append_left _ List.mem_cons_self))]
 have hnc : ∀ b, w.heap.size ≤ b → b ∉ c.blocks rb := fun b hl hm => by have := h.lt b hm; omega
 have hgg : ∀ b : Nat, (Value.slice (some ⟨g, off, none⟩) (O ++ [OL[k]]).length cap).ownBlock = some b → b = g := fun b hb => (Option.some.inj hb).symm
 have hgw : w.heap.size ≤ g := by rcases hat with h1 | h1; exact (hovl g h1).1; omega
 have hOb : ∀ y ∈ O, ∀ b, y.2.ownBlock = some b → w.heap.size ≤ b ∧ b < wr.heap.size ∧ ov.ownBlock ≠ some b := fun y hy b hb => by
  have hm : b ∈ eblk (O.map fp) := mem_eblk.2 ⟨fp y, List.mem_map.2 ⟨y, hy, rfl⟩, hb⟩
  exact ⟨h.new b (List.mem_append_right _ hm), (h.ms.ev y hy).lt b hb, fun e => h.ne b e hm⟩
 have hkm : OL[k] ∈ OL := List.getElem_mem hkl
 have hkb : ∀ b, OL[k].2.ownBlock = some b → w1.heap.size ≤ b ∧ b < w2.heap.size := fun b hb' => ⟨hnew b (mem_eblk.2 ⟨fp OL[k], List.mem_map.2 ⟨_, hkm, rfl⟩, hb'⟩), (hM.ev _ hkm).lt b hb'⟩
 have hhead : OL[k].1 = headM (markB ck.marks) x.q := by
  have hf : (qOf (markB ck.marks) x.q).found = (OL.map Prod.fst).drop k := by rw [hOL, hk]; rfl
  unfold headM
  rw [hf, List.drop_eq_getElem_cons (by simpa using hkl)]
  simp
 refine ⟨hre3.bump hs.ok1 hx1, hs.ok2, by rw [e1, hs.wr, h.wre], by rw [e2, hs.rd, h.rde], ?_, h.lt, ?_, ⟨?_, ?_⟩, ?_, ?_⟩
 ·refine ⟨?_, ?_, ?_, ?_, ?_⟩
  ·rw [show (w3.setCell _ _).os = w3.os from rfl, hg.os]; show w2.os = _; rw [hb.os, hs.fr.os, h.fr.os]
  ·rw [show (w3.setCell _ _).tape = w3.tape from rfl, hg.tape]; show w2.tape = _; rw [hb.tape, hs.fr.tape, h.fr.tape]
  ·rw [show (w3.setCell _ _).output = w3.output from rfl, hg.output]; show w2.output = _; rw [hb.output, hs.fr.output, h.fr.output]
  ·have := hg.size; simp at this ⊢; omega
  ·intro b hl hm
   have hne : b ≠ x.qb := fun e => hm (by rw [e]; exact hqb)
   rw [hset b hne, hsame3 b (by omega) (fun e => by have := (hovl b e).1; omega), hb.block b (by omega), hs.fr.block b (by omega) (fun h1 => by
    rw [List.mem_singleton] at h1
    exact hm (by rw [h1, ← hcb]; exact List.mem_append_left _ List.mem_cons_self)), h.fr.block b hl hm]
 ·rw [h.eq]
  obtain ⟨j, hj⟩ : ∃ j, N - O.length = j + 1 := ⟨N - O.length - 1, by omega⟩
  rw [hj, drainE_some hs.se, List.length_append, List.map_append]
  have hj2 : N - (O.length + [OL[k]].length) = j := by simp; omega
  rw [hj2]
  simp only [List.map_cons, List.map_nil, hhead, List.append_assoc, List.singleton_append]
 ·rw [List.length_append, List.flatMap_append]
  have hr := hrow.same (w' := w3.setCell ⟨x.qb, 4, none⟩ (.int .i64 ((x.q.gone : Int) + 1))) (fun b hb => hset b (by have := hgg b hb; omega))
  simpa using hr
 ·intro y hy
  rcases List.mem_append.1 hy with hy | hy
  ·exact (h.ms.ev y hy).same (fun b hb => by obtain ⟨a1, a2, a3⟩ := hOb y hy b hb; exact hkeep b a1 a2 a3 (hnc b a1))
  ·rw [List.mem_singleton] at hy; subst hy
   refine (hM.ev _ hkm).same (fun b hb' => ?_)
   obtain ⟨a1, a2⟩ := hkb b hb'
   rw [hset b (by omega), hsame3 b a2 (fun e => by have := (hovl b e).2; omega)]
 ·intro b hb'
  rcases List.mem_append.1 hb' with h1 | h1
  ·have := hgg b (by simpa using h1); omega
  ·obtain ⟨y, hy, hyb⟩ := mem_eblk.1 h1
   obtain ⟨z, hz, rfl⟩ := List.mem_map.1 hy
   rcases List.mem_append.1 hz with hz | hz
   ·exact (hOb z hz b hyb).1
   ·rw [List.mem_singleton] at hz; subst hz
    have := (hkb b hyb).1; omega
 ·intro b hb' hm
  have hbg := hgg b hb'
  subst hbg
  obtain ⟨y, hy, hyb⟩ := mem_eblk.1 hm
  obtain ⟨z, hz, rfl⟩ := List.mem_map.1 hy
  rcases List.mem_append.1 hz with hz | hz
  ·obtain ⟨a1, a2, a3⟩ := hOb z hz b hyb
   rcases hat with h1 | h1
   ·exact a3 h1
   ·omega
  ·rw [List.mem_singleton] at hz; subst hz
   obtain ⟨a1, a2⟩ := hkb b hyb
   rcases hat with h1 | h1
   ·have := (hovl b h1).2; omega
   ·omega
end Go.Proofs.YtbgfannlfagoiaaGreatDoor

namespace Go.Lull
theorem drainE_kept (n : Nat) (s : En) : (drainE n s).1.length ≤ totF s.qs := by
 induction n generalizing s with
 | zero => simp [drainE]
 | succ m ih =>
  cases hs : serveE s with
  | none => rw [drainE_none hs]; simp
  | some x =>
   obtain ⟨mt, s'⟩ := x
   rw [drainE_some hs]
   have := (serveE_less hs).1
   have := ih s'
   simp only [List.length_cons]; omega
theorem tot_eOf {n : Nat} {r : RS} (hr : RSok n r) : totF (eOf r).qs ≤ 10 * n := by
 have h1 := tot_le (eOf r).qs n (fun q hq => by
  obtain ⟨x, hx, rfl⟩ := List.mem_map.1 hq
  have h2 := (hr.qs x hx).2
  have h3 := SZk.pass (N := x.seen.length) (s := (x.seen, [(⟨x.id, x.st, x.wn, [], []⟩ : Qy)])) (wm := markB r.marks) (by intro y hy; simp at hy; subst hy; simp)
  have h4 := h3 (x.all (markB r.marks)) (by rw [pass_one]; simp [RQ.all])
  show ((x.all (markB r.marks)).found.drop x.gone).length ≤ n
  rw [List.length_drop]
  omega)
 have h5 : (eOf r).qs.length ≤ 10 := by have := hr.ql; simpa [eOf] using this
 have : (eOf r).qs.length * n ≤ 10 * n := Nat.mul_le_mul_right n h5
 omega
end Go.Lull
namespace Go.Proofs.YtbgfannlfagoiaaGreatDoor
open Go.RowKit Go.Lull
set_option linter.unusedVariables false
theorem DD.len {w wr : World} {rb n N : Nat} {c ck : RC} {ov : Value} {O : List (Mt × Value)} (h : DD w wr rb n N c ck ov O) (hr : RSok n c.abs) : O.length ≤ 10 * n := by
 have h1 := drainE_kept N (eOf c.abs)
 rw [h.eq] at h1
 have h2 := tot_eOf hr
 simp only [List.length_append, List.length_map] at h1
 omega
theorem DD.mid {w wr w1 w2 w3 : World} {rb n N : Nat} {c ck c1 : RC} {ov : Value} {O : List (Mt × Value)} {x : CR} {o : Obj} (h : DD w wr rb n N c ck ov O) (hs : SV wr rb n ck c1 x w1) (hb : Below w1.heap.size w1 w2) (hg : (w2.alloc o).grownBy w3 ov.ownBlock) : RE w3 rb c1 := by
 have hc1b : c1.blocks rb = c.blocks rb := by unfold RC.blocks; rw [hs.wr, hs.rd, h.wre, h.rde]
 have hre2 : RE w2 rb c1 := hs.re.below hb
 refine hre2.same (by have := hg.size; simp at this; omega) (fun b hm => ?_)
 have hlt := hre2.lt b hm
 rw [hg.block b (by simp; omega) (fun e => by
  have h1 := h.new b (List.mem_append_left _ (by simp [← e]))
  rw [hc1b] at hm
  have := h.lt b hm; omega), Below.heap_alloc _ _ _ hlt]
def DrainR (w : World) (rb n : Nat) (c : RC) (p : Int) (e : Ending) (w' : World) : Prop :=
 ∃ a cp O ck, e = .returned (.slice a O.length cp) ∧ (drainE p.toNat (eOf c.abs)).1 = O.map Prod.fst ∧ (drainE p.toNat (eOf c.abs)).2 = eOf ck.abs ∧ DD w w' rb n p.toNat c ck (.slice a O.length cp) O
set_option maxRecDepth 8000 in
set_option maxHeartbeats 4000000 in
theorem drain_any {w : World} {rb n : Nat} {c : RC} (h : RE w rb c) (hr : RSok n c.abs) (hn : n ≤ 1000000) (p : Int) :
  Calls Tryz.prog 46 #[.pointer (some ⟨rb, 0, none⟩), .int .i64 p] w (DrainR w rb n c p) := by
 have HD0 : Hid (DD w w rb n p.toNat c c (.slice none 0 0) []) := DD.start h hr
 have HR := Hid.mk' hr
 clear h hr
 go_enter Tryz.func46, Tryz.ntmps46
 go_wp2
 go_loopw [5] (fun ov wr => ∃ (O : List (Mt × Value)) (ck : RC) (oa : Option Addr) (ocp : Nat), ov = .slice oa O.length ocp ∧ O.length ≤ p.toNat ∧ Hid (DD w wr rb n p.toNat c ck (.slice oa O.length ocp) O)) (fun ov _ => p.toNat - slen ov)
 case atStart => exact ⟨[], c, none, 0, rfl, Nat.zero_le _, HD0⟩
 case round =>
  clear HD0
  obtain ⟨O, ck, oa, ocp, rfl, hle, hD⟩ := hrel
  have hOl := hD.out.len HR.out
  by_cases hlt : (O.length : Int) < p
  ·have hsv := Hid.mk' (serve_step hD.out.re hD.out.ok hn)
   have hO63 : O.length ≤ 1073741824 := by omega
   have hltN : O.length < p.toNat := by omega
   go_wp2_with (go_at_call 78; with_reducible refine hsv.out.mono ?_; rintro e w1 hpost; rcases hpost with ⟨x, c1, hx, rfl, hS⟩ | ⟨rfl, h1, h2, h3⟩)
   ·have hx1 : x ∈ c1.cs := by rw [hS.cs]; exact hx
    have hqok : RQok (markB ck.marks) x.q := (hD.out.ok.qs x.q (List.mem_map.2 ⟨x, hx, rfl⟩)).1
    have hsl : x.q.seen.length ≤ 1000000 := by have := (hD.out.ok.qs x.q (List.mem_map.2 ⟨x, hx, rfl⟩)).2; omega
    have hmk := Hid.mk' (re_mark hS.re hS.ok1.mne hS.ok1.m8)
    have hme : markB c1.marks = markB ck.marks := by rw [hS.mke]
    rw [hme] at hmk
    have hall := all_any (hS.re.qs x hx1) hqok hsl
    have hgl : x.q.gone < (x.q.all (markB ck.marks)).found.length := by
     have hh := hS.has
     unfold hasB qOf dropF at hh
     have h1 : ¬ (x.q.all (markB ck.marks)).found.drop x.q.gone = [] := fun e => by simp [e] at hh
     have h2 := List.length_pos_iff.2 h1
     rw [List.length_drop] at h2
     omega
    have hal := all_len x.q (markB ck.marks)
    have hcall : Hid (Calls Tryz.prog 79 #[.pointer (some ⟨x.qb, 0, none⟩), .int .i64 (markB ck.marks)] w1 fun e w2 => ∃ ga go_ gc OL mv, ∃ rn : Int, e = .returned (.tuple #[.slice (some ⟨ga, go_, none⟩) OL.length gc, .int .i64 rn]) ∧ x.q.gone < OL.length ∧ OL.length ≤ gc ∧ OL.length ≤ 1000000 ∧ Hid (Below w1.heap.size w1 w2 ∧ OL.map Prod.fst = (x.q.all (markB ck.marks)).found ∧ MS w2 (.slice (some ⟨ga, go_, none⟩) OL.length gc) OL ∧ (∀ b ∈ eblk (OL.map fp), w1.heap.size ≤ b) ∧ OL[x.q.gone]? = some mv) ∧ w2.cell? ⟨x.qb, 4, none⟩ = some (.int .i64 x.q.gone) ∧ w2.cell? ⟨ga, go_ + x.q.gone * 3, none⟩ = some (.int .i64 mv.1.q) ∧ w2.cell? ⟨ga, go_ + x.q.gone * 3 + 1, none⟩ = some (.int .i64 mv.1.cl) ∧ w2.cell? ⟨ga, go_ + x.q.gone * 3 + 2, none⟩ = some mv.2 ∧ mv.2.oneCell' = true) := by
     refine hall.mono ?_
     rintro e w2 ⟨a, cc, OL, rfl, hO, hb, hM, hnw, _⟩
     have hlen : OL.length = (x.q.all (markB ck.marks)).found.length := by rw [← hO]; simp
     have hkl : x.q.gone < OL.length := by omega
     obtain ⟨ga, go_, gc, hv, hgc⟩ := row_some hM.row (by omega)
     obtain ⟨rfl, _, rfl⟩ := Value.slice.inj hv
     obtain ⟨m0, m1, m2⟩ := hM.at_ x.q.gone hkl
     refine ⟨ga, go_, cc, OL, OL[x.q.gone], _, rfl, hkl, hgc, by omega, ⟨hb, hO, hM, fun b hb' => hnw b (List.mem_append_right _ hb'), List.getElem?_eq_getElem hkl⟩, ?_, m0, m1, m2, ?_⟩
     ·rw [cell_of_row w2 x.qb 4 _ _ _ ((hS.re.below hb).qs x hx1).blk]; rfl
     ·obtain ⟨va, cap, hv2, _⟩ := (hM.ev _ (List.getElem_mem hkl)).form
      rw [hv2]; rfl
    have hrow2 : Hid (∀ w2, Below w1.heap.size w1 w2 → Row w2 58 3 (.slice oa O.length ocp) O.length (O.flatMap matC)) := by
     intro w2 hb
     have hd := hD.out
     have hcb : ck.blocks rb = c.blocks rb := by unfold RC.blocks; rw [hd.wre, hd.rde]
     have hrb : rb ∈ c.blocks rb := by rw [← hcb]; exact List.mem_append_left _ List.mem_cons_self
     have hrl := hd.lt rb hrb
     refine hd.ms.row.same (fun b hb' => ?_)
     have h4 := hd.new b (List.mem_append_left _ (by simp [hb']))
     have h5 := hd.ms.row.lt b hb'
     have h6 := hS.fr.size
     rw [hb.block b (by omega), hS.fr.block b h5 (fun hm => by rw [List.mem_singleton] at hm; omega)]
    have hq3 : Hid (∀ w3, RE w3 rb c1 → w3.cell? ⟨x.qb, 4, none⟩ = some (.int .i64 x.q.gone) ∧ w3.frozen? ⟨x.qb, 4, none⟩ = false) := by
     intro w3 h3
     have hk := (h3.qs x hx1).blk
     exact ⟨by rw [cell_of_row w3 x.qb 4 _ _ _ hk]; rfl, frozen_of_row w3 x.qb 4 _ _ hk⟩
    have HS := Hid.mk' hS
    have HX := Hid.mk' hx
    clear hsv hx1 hqok hme hall hgl hS hx
    obtain ⟨gn, hgn⟩ : ∃ gn, x.q.gone = gn := ⟨_, rfl⟩
    rw [hgn] at hcall hq3
    have HGN := Hid.mk' hgn
    clear hgn
    go_wp2_with (first
     | (go_at_call 74; with_reducible refine hmk.out.mono ?_; rintro e w' ⟨rfl, hw⟩; replace hw := hw.symm; subst hw)
     | (go_at_call 79; with_reducible refine hcall.out.mono ?_; rintro e w2 ⟨ga, go_, gc, OL, mv, rn, rfl, hkl, hgc, hOL6, hfacts, q4, m0, m1, m2, hone⟩)
     | (at_builtin; refine append_mt w2 rfl _ _ rfl (.slice oa O.length ocp) O.length (O.flatMap matC) rfl (hrow2.out w2 hfacts.out.1) w2.heap.size rfl rfl rfl rfl hone (by omega) ?_))
    intro g2 o2 c2 w3 r3 g3 b3
    obtain ⟨f1, f2, f3, f4, f5⟩ := hfacts.out
    have hmv : OL[gn] = mv := by rw [List.getElem?_eq_getElem hkl] at f5; exact Option.some.inj f5
    obtain ⟨q43, fr43⟩ := hq3.out w3 (DD.mid hD.out HS.out f1 g3)
    have hnx : Hid (DD w (w3.setCell ⟨x.qb, 4, none⟩ (.int .i64 ((gn : Int) + 1))) rb n p.toNat c (c1.bump x.q.id) (.slice (some ⟨g2, o2, none⟩) (O ++ [mv]).length c2) (O ++ [mv])) := by
     have hh := DD.next (k := gn) hD.out HS.out HX.out f1 f2 f3 f4 HGN.out.symm hkl (by rw [hmv]; exact r3) g3 b3 hltN
     rw [hmv, HGN.out] at hh
     exact hh
    clear r3 g3 b3 f1 f2 f3 f4 f5 hfacts hmv m0 m1 m2 q4
    go_wp2
    go_roundw
    case rel => exact ⟨O ++ [mv], c1.bump x.q.id, some ⟨g2, o2, none⟩, c2, by simp, by simp; omega, hnx⟩
    case measure => simp [slen]; omega
   ·have heq := hD.out.eq
    have hdn : drainE (p.toNat - O.length) (eOf ck.abs) = ([], eOf ck.abs) := drainE_none h3
    rw [hdn] at heq
    have hDD : DD w w1 rb n p.toNat c ck (.slice oa O.length ocp) O := by
     have hd := hD.out
     have hcb : ck.blocks rb = c.blocks rb := by unfold RC.blocks; rw [hd.wre, hd.rde]
     have hrb : rb ∈ c.blocks rb := by rw [← hcb]; exact List.mem_append_left _ List.mem_cons_self
     have hrl := hd.lt rb hrb
     have hkeep : ∀ b ∈ (Value.slice oa O.length ocp).ownBlock.toList ++ eblk (O.map fp), w1.heap[b]? = wr.heap[b]? := fun b hb => by
      have h4 := hd.new b hb
      have h5 : b < wr.heap.size := by
       rcases List.mem_append.1 hb with h6 | h6
       ·exact hd.ms.row.lt b (by simpa using h6)
       ·obtain ⟨y, hy, hyb⟩ := mem_eblk.1 h6
        obtain ⟨z, hz, rfl⟩ := List.mem_map.1 hy
        exact (hd.ms.ev z hz).lt b hyb
      exact h2.block b h5 (fun hm => by rw [List.mem_singleton] at hm; omega)
     refine ⟨h1, hd.ok, hd.wre, hd.rde, ?_, hd.lt, hd.eq, hd.ms.same hkeep, hd.new, hd.ne⟩
     exact hd.fr.trans (h2.mono (fun k hk => by rw [List.mem_singleton] at hk; subst hk; exact Or.inl hrb))
    have HE := Hid.mk' heq
    have HDD := Hid.mk' hDD
    clear heq hdn hDD h1 h2 h3
    go_ret
    refine ⟨oa, ocp, O, ck, rfl, ?_, ?_, HDD.out⟩
    ·rw [HE.out]; simp
    ·rw [HE.out]
  ·have hz : p.toNat - O.length = 0 := by omega
   have heq := hD.out.eq
   rw [hz] at heq
   have HE := Hid.mk' heq
   clear heq
   go_wp2
   go_ret
   refine ⟨oa, ocp, O, ck, rfl, ?_, ?_, hD.out⟩
   ·rw [HE.out]; simp [drainE]
   ·rw [HE.out]; rfl
end Go.Proofs.YtbgfannlfagoiaaGreatDoor

namespace Go.Proofs.YtbgfannlfagoiaaGreatDoor
open Go.RowKit Go.Lull
set_option linter.unusedVariables false

theorem wordOf_blank {l : List UInt8} : wordOf (32 :: l) = [] := by simp [wordOf]
theorem wordOf_other {c : UInt8} {l : List UInt8} (h : c.toNat ≠ 32) : wordOf (c :: l) = c :: wordOf l := by
 have h2 : (c != 32) = true := by
  simp; intro e; apply h; rw [e]; rfl
 simp [wordOf, h2]
theorem restOf_eq (l : List UInt8) : restOf l = if (wordOf l).length = l.length then none else some (l.drop ((wordOf l).length + 1)) := by
 rcases index32 l with ⟨e1, e2, e3⟩ | ⟨i, e1, e4, e2, e3⟩
 ·rw [e2, e3, if_pos rfl]
 ·have hl : (wordOf l).length = i := by rw [e2]; simp; omega
  rw [hl, if_neg (by omega), e3]

set_option maxHeartbeats 400000 in
theorem word_any (s : ByteArray) (at_ : Nat) (w : World) (hs : s.size ≤ 100) (ha : at_ ≤ s.size) :
  Calls Tryz.prog 109 #[.string s, .int .i64 at_] w fun e w' => ∃ t : ByteArray, e = .returned (.string t) ∧ t.data.toList = wordOf (s.data.toList.drop at_) ∧ w' = w := by
 go_enter Tryz.func109, Tryz.ntmps109
 go_wp2
 go_loop [5] (fun i => ∃ k : Nat, at_ ≤ k ∧ k ≤ s.size ∧ i = .int .i64 k ∧ Hid (wordOf (s.data.toList.drop at_) = (s.data.toList.drop at_).take (k - at_) ++ wordOf (s.data.toList.drop k))) (fun i => s.size - (intOf i).toNat)
 case atStart => exact ⟨at_, Nat.le_refl _, ha, rfl, by simp [Hid]⟩
 case round =>
  obtain ⟨k, hk1, hk2, rfl, H⟩ := hrel
  by_cases hlt : k < s.size
  ·have hd := drop_cons s k hlt
   by_cases hb : s[k].toNat = 32
   ·have e32 : s[k] = 32 := UInt8.toNat_inj.1 hb
    have H2 : Hid ((s.extract at_ k).data.toList = wordOf (s.data.toList.drop at_)) := by
     have := H.out
     rw [hd, e32, wordOf_blank, List.append_nil] at this
     unfold Hid; rw [this, ex_mid]
    have hq : ((s[k].toNat : Int) == 32) = true := by rw [hb]; rfl
    clear hd H hb e32
    go_wp2
    go_ret
    exact ⟨_, rfl, H2.out, rfl⟩
   ·have H2 : Hid (wordOf (s.data.toList.drop at_) = (s.data.toList.drop at_).take (k + 1 - at_) ++ wordOf (s.data.toList.drop (k + 1))) := by
     have := H.out
     rw [hd, wordOf_other hb] at this
     unfold Hid
     have hg : (s.data.toList.drop at_)[k - at_]? = some s[k] := by
      rw [List.getElem?_drop, show at_ + (k - at_) = k by omega]
      simp [hlt]; rfl
     rw [this, show k + 1 - at_ = (k - at_) + 1 by omega, List.take_add_one, hg]
     simp
    have hq : ((s[k].toNat : Int) == 32) = false := by simp; omega
    clear hd H hb
    go_wp2
    go_round
    case rel => exact ⟨k + 1, by omega, by omega, by go_num, H2⟩
    case measure => simp [intOf]; omega
  ·have H2 : Hid ((s.extract at_ k).data.toList = wordOf (s.data.toList.drop at_)) := by
    have := H.out
    rw [List.drop_of_length_le (i := k) (by simp; omega)] at this
    unfold Hid; rw [this, ex_mid]; simp [wordOf]
   clear H
   go_wp2
   go_ret
   exact ⟨_, rfl, H2.out, rfl⟩
end Go.Proofs.YtbgfannlfagoiaaGreatDoor

namespace Go.Proofs.YtbgfannlfagoiaaGreatDoor
open Go.RowKit Go.Lull
set_option linter.unusedVariables false

/-- What stepOf hands back. -/
def RefStep (o : Option Stp) (w : World) (e : Ending) (w' : World) : Prop :=
 ∃ (n : Bool) (k g v : Int) (b : Bool), e = .returned (.tuple #[.agg #[.bool n, .int .u8 k, .int .u8 g, .int .i64 v], .bool b]) ∧ b = o.isSome ∧ (∀ x, o = some x → n = x.1 ∧ k = x.2.1.toNat ∧ g = x.2.2.1.toNat ∧ v = x.2.2.2) ∧ Below w.heap.size w w'

theorem numI_lo (o : Option Nat) : -1 ≤ numI o := by cases o <;> simp [numI] <;> omega
theorem numI_hi {l : List UInt8} : numI (numB 1000 l) ≤ 1000 := by
 cases h : numB 1000 l with
 | none => simp [numI]
 | some n => have := numB_le h; simp [numI]; omega
theorem drop_get (s : ByteArray) (k : Nat) (h : k < s.size) : s.data.toList.drop k = s[k] :: s.data.toList.drop (k + 1) := drop_cons s k h
theorem drop_nil (s : ByteArray) (k : Nat) (h : s.size ≤ k) : s.data.toList.drop k = [] := List.drop_of_length_le (by simpa using h)

/-- A step whose mark is at the front, or not. -/
def markB (n : Bool) (o : Option (UInt8 × UInt8 × Int)) : Option Stp := withO (fun x => (n, x)) o

theorem neg_some {o : Option Nat} : (negO o).isSome = decide (0 < numI o) := by
 cases o with
 | none => rfl
 | some n => by_cases h : n = 0 <;> simp [negO, numI, h]; omega
theorem pos_some {o : Option Nat} : (posO o).isSome = decide (0 ≤ numI o) := by
 cases o with
 | none => rfl
 | some n => simp [posO, numI]
theorem neg_val {o : Option Nat} {v : Int} (h : negO o = some v) : v = -numI o := by
 cases o with
 | none => cases h
 | some n =>
  by_cases h0 : n = 0 <;> simp [negO, h0] at h
  simp [numI, h]
theorem pos_val {o : Option Nat} {v : Int} (h : posO o = some v) : v = numI o := by
 cases o with
 | none => cases h
 | some n => simp [posO] at h; simp [numI, h]

end Go.Proofs.YtbgfannlfagoiaaGreatDoor
