import Derived.Test.YtbgfannlfagoiaaGreatDoorZ16
namespace Go.Proofs.YtbgfannlfagoiaaGreatDoor
open Go.RowKit Go.Lull
set_option linter.unusedVariables false

/-- From one world to another: only blocks of B changed; B' is of B or new. -/
structure Ext (w : World) (B : List Nat) (w' : World) (B' : List Nat) : Prop where
 fr : Fr B w w'
 sub : ∀ b ∈ B', b ∈ B ∨ w.heap.size ≤ b
theorem Ext.refl (w : World) (B : List Nat) : Ext w B w B := ⟨Fr.refl _ _, fun b hb => Or.inl hb⟩
theorem Ext.trans {w w1 w2 : World} {B B1 B2 : List Nat} (h : Ext w B w1 B1) (k : Ext w1 B1 w2 B2) : Ext w B w2 B2 :=
 ⟨h.fr.trans' k.fr h.sub, fun b hb => (k.sub b hb).elim (h.sub b) (fun hl => Or.inr (Nat.le_trans h.fr.size hl))⟩
theorem Ext.below {w w1 : World} {B : List Nat} (hb : Below w.heap.size w w1) : Ext w B w1 B := ⟨Fr.of_below _ hb, fun b hb => Or.inl hb⟩

theorem nodup_swap {X Y R : List Nat} {n : Nat} (h : (X ++ R).Nodup) (hY : Y.Nodup) (hs : ∀ b ∈ Y, b ∈ X ∨ n ≤ b) (hR : ∀ b ∈ R, b < n) : (Y ++ R).Nodup := by
 have h1 := List.nodup_append.1 h
 refine List.nodup_append.2 ⟨hY, h1.2.1, fun a ha b hb e => ?_⟩
 subst e
 rcases hs a ha with hx | hx
 ·exact h1.2.2 a hx a hb rfl
 ·exact absurd (hR a hb) (Nat.not_lt.2 hx)

theorem qsb_append (a b : List (Nat × CQ)) : qsb (a ++ b) = qsb a ++ qsb b := by simp [qsb]
theorem qsb_cons (x : Nat × CQ) (b : List (Nat × CQ)) : qsb (x :: b) = x.2.blocks x.1 ++ qsb b := by simp [qsb]

section
variable {w w' : World} {eb : Nat} {c : CE}
/-- One query has changed. -/
theorem EG.setQ (h : EG w eb c) (k : Nat) (hk : k < c.qs.length) (c2 : CQ) (hq : QY w' c.qs[k].1 c2) (he : Ext w (c.qs[k].2.blocks c.qs[k].1) w' (c2.blocks c.qs[k].1)) :
  EG w' eb { c with qs := c.qs.set k (c.qs[k].1, c2) } ∧ Ext w (c.blocks eb) w' (CE.blocks { c with qs := c.qs.set k (c.qs[k].1, c2) } eb) := by
 obtain ⟨A, B, hAB, hA⟩ : ∃ A B, c.qs = A ++ c.qs[k] :: B ∧ A.length = k := ⟨c.qs.take k, c.qs.drop (k + 1), by rw [← List.drop_eq_getElem_cons hk, List.take_append_drop], by simp; omega⟩
 obtain ⟨x, hx⟩ : ∃ x, c.qs[k] = x := ⟨_, rfl⟩
 rw [hx] at hAB hq he ⊢
 have hset : c.qs.set k (x.1, c2) = A ++ (x.1, c2) :: B := by
  conv => lhs; rw [hAB]
  rw [List.set_append_right _ _ (by omega), hA, Nat.sub_self]
  rfl
 have hmemx : x ∈ c.qs := by rw [hAB]; simp
 have hsb : qsb c.qs = qsb A ++ (x.2.blocks x.1 ++ qsb B) := by conv => lhs; rw [hAB]; rw [qsb_append, qsb_cons]
 have hsb2 : qsb (A ++ (x.1, c2) :: B) = qsb A ++ (c2.blocks x.1 ++ qsb B) := by rw [qsb_append, qsb_cons]
 have hp : ∀ X : List Nat, (c.base eb ++ (qsb A ++ (X ++ qsb B))).Perm (X ++ (c.base eb ++ (qsb A ++ qsb B))) := fun X =>
  (List.Perm.append_left _ (List.perm_append_comm_assoc _ _ _)).trans (List.perm_append_comm_assoc _ _ _)
 have hnd := h.nd
 unfold CE.blocks at hnd
 rw [hsb] at hnd
 have hnd2 := (hp _).nodup_iff.1 hnd
 have hrest : ∀ b ∈ c.base eb ++ (qsb A ++ qsb B), b < w.heap.size := fun b hb => h.lt b (by
  unfold CE.blocks
  rw [hsb]
  exact (hp _).mem_iff.2 (List.mem_append_right _ hb))
 have hnx : ∀ b ∈ c.base eb ++ (qsb A ++ qsb B), b ∉ x.2.blocks x.1 := fun b hb hm => (List.nodup_append.1 hnd2).2.2 b hm b hb rfl
 have hkeep : ∀ b ∈ c.base eb ++ (qsb A ++ qsb B), w'.heap[b]? = w.heap[b]? := fun b hb => he.fr.block b (hrest b hb) (hnx b hb)
 have hbase : ∀ b ∈ c.base eb, w'.heap[b]? = w.heap[b]? := fun b hb => hkeep b (List.mem_append_left _ hb)
 have hlen : (c.qs.set k (x.1, c2)).length = c.qs.length := by simp
 have hptr : (c.qs.set k (x.1, c2)).map ptrV = c.qs.map ptrV := by
  rw [hset]
  conv => rhs; rw [hAB]
  simp [ptrV]
 rw [hset] at hlen hptr ⊢
 refine ⟨⟨?_, ?_, h.m1, h.m8, h.buf.same (fun b hb => hbase b (by simp [CE.base, hb])), ?_, ?_, ?_, by show (A ++ (x.1, c2) :: B).length ≤ 10; rw [hlen]; exact h.q10, h.b60⟩, ?_⟩
 ·rw [hbase eb (by simp [CE.base])]; exact h.blk
 ·refine ⟨h.marks.1, ?_⟩
  rcases h.marks.2 with h2 | ⟨g, cap, cur, h1, h2, h3, h4⟩
  ·exact Or.inl h2
  ·refine Or.inr ⟨g, cap, cur, h1, h2, ?_, h4⟩
   cases h1
   rw [hbase c.mg (by simp [CE.base])]; exact h3
 ·show Row w' _ 1 c.qv (A ++ (x.1, c2) :: B).length ((A ++ (x.1, c2) :: B).map ptrV)
  rw [hlen, hptr]
  exact h.qrow.same (fun b hb => hbase b (by simp [CE.base, hb]))
 ·intro y hy
  have hy' : y ∈ A ++ (x.1, c2) :: B := hy
  rcases List.mem_append.1 hy' with hy | hy
  ·exact (h.qy y (by rw [hAB]; exact List.mem_append_left _ hy)).same he.fr.size (fun b hb => hkeep b (List.mem_append_right _ (List.mem_append_left _ (mem_qsb hy hb))))
  ·rcases List.mem_cons.1 hy with rfl | hy
   ·exact hq
   ·exact (h.qy y (by rw [hAB]; exact List.mem_append_right _ (List.mem_cons_of_mem _ hy))).same he.fr.size (fun b hb => hkeep b (List.mem_append_right _ (List.mem_append_right _ (mem_qsb hy hb))))
 ·show (c.base eb ++ qsb (A ++ (x.1, c2) :: B)).Nodup
  rw [hsb2]
  exact (hp _).nodup_iff.2 (nodup_swap hnd2 hq.own.nd he.sub hrest)
 ·refine ⟨he.fr.mono (fun b hb => Or.inl (List.mem_append_right _ (mem_qsb hmemx hb))), fun b hb => ?_⟩
  have hb' : b ∈ c.base eb ++ qsb (A ++ (x.1, c2) :: B) := hb
  rw [hsb2] at hb'
  rcases List.mem_append.1 ((hp _).mem_iff.1 hb') with hb | hb
  ·exact (he.sub b hb).imp (fun hm => List.mem_append_right _ (mem_qsb hmemx hm)) id
  ·refine Or.inl ?_
   unfold CE.blocks
   rw [hsb]
   exact (hp _).mem_iff.2 (List.mem_append_right _ hb)

/-- Whose turn it was. -/
theorem EG.setTurn {F : List Nat} (h : EG w eb c) (tq tr : Nat) (hw : w'.heap[eb]? = some (.cells (eCells eb { c with tq := tq, tr := tr }) 104 (0, 0))) (hf : Fr F w w') (hF : ∀ b ∈ F, b = eb ∨ b ∉ c.blocks eb) :
  EG w' eb { c with tq := tq, tr := tr } := by
 have hnd := h.nd
 have hp : (c.blocks eb).Perm (eb :: (c.bv.ownBlock.toList ++ (c.qv.ownBlock.toList ++ [c.mg]) ++ qsb c.qs)) := by
  unfold CE.blocks CE.base
  have h1 : (c.qv.ownBlock.toList ++ [eb, c.mg]).Perm (eb :: (c.qv.ownBlock.toList ++ [c.mg])) := List.perm_middle
  rw [← List.cons_append]
  exact List.Perm.append_right _ ((List.Perm.append_left _ h1).trans List.perm_middle)
 have hkeep : ∀ b ∈ c.bv.ownBlock.toList ++ (c.qv.ownBlock.toList ++ [c.mg]) ++ qsb c.qs, w'.heap[b]? = w.heap[b]? := fun b hb =>
  hf.block b (h.lt b (hp.mem_iff.2 (List.mem_cons_of_mem _ hb))) (fun hm => by
   rcases hF b hm with rfl | hn
   ·exact (List.nodup_cons.1 (hp.nodup_iff.1 hnd)).1 hb
   ·exact hn (hp.mem_iff.2 (List.mem_cons_of_mem _ hb)))
 refine ⟨hw, ?_, h.m1, h.m8, h.buf.same (fun b hb => hkeep b (by simp [hb])), h.qrow.same (fun b hb => hkeep b (by simp [hb])), fun x hx => (h.qy x hx).same hf.size (fun b hb => hkeep b (List.mem_append_right _ (mem_qsb hx hb))), h.nd, h.q10, h.b60⟩
 refine ⟨h.marks.1, ?_⟩
 rcases h.marks.2 with h2 | ⟨g, cap, cur, h1, h2, h3, h4⟩
 ·exact Or.inl h2
 ·refine Or.inr ⟨g, cap, cur, h1, h2, ?_, h4⟩
  cases h1
  show w'.heap[c.mg]? = _
  rw [hkeep c.mg (by simp)]; exact h3
end

/-- The match that was taken lies apart from what is left. -/
theorem QY.apart {w : World} {qb : Nat} {c : CQ} {x : Mt × Value} {fs : List (Mt × Value)} {vf' : Value} (h : QY w qb c) (hx : c.fs = x :: fs) (hv : vf'.ownBlock = c.vf.ownBlock) :
  (∀ b, x.2.ownBlock = some b → b ∉ CQ.blocks { c with vf := vf', fs := fs } qb ∧ b ∈ c.blocks qb) ∧ (∀ b ∈ CQ.blocks { c with vf := vf', fs := fs } qb, b ∈ c.blocks qb) := by
 have hev : c.evl = c.rs.map rp ++ (fp x :: fs.map fp) := by simp [CQ.evl, hx]
 have hbase : CQ.base { c with vf := vf', fs := fs } qb = c.base qb := by simp [CQ.base, hv]
 have hbl : CQ.blocks { c with vf := vf', fs := fs } qb = c.base qb ++ (eblk (c.rs.map rp) ++ eblk (fs.map fp)) := by
  unfold CQ.blocks
  rw [hbase]
  congr 1
  rw [← eblk_append]
  rfl
 have hb0 : c.blocks qb = c.base qb ++ (eblk (c.rs.map rp) ++ (x.2.ownBlock.toList ++ eblk (fs.map fp))) := by
  unfold CQ.blocks
  rw [hev, eblk_append, eblk_cons]
  rfl
 have hnd : (c.blocks qb).Nodup := h.own.nd
 rw [hb0] at hnd
 rw [hbl, hb0]
 have hp : (c.base qb ++ (eblk (c.rs.map rp) ++ (x.2.ownBlock.toList ++ eblk (fs.map fp)))).Perm (x.2.ownBlock.toList ++ (c.base qb ++ (eblk (c.rs.map rp) ++ eblk (fs.map fp)))) :=
  (List.Perm.append_left _ (List.perm_append_comm_assoc _ _ _)).trans (List.perm_append_comm_assoc _ _ _)
 refine ⟨fun b hb => ⟨fun hm => ?_, hp.mem_iff.2 (List.mem_append_left _ (by simp [hb]))⟩, fun b hb => hp.mem_iff.2 (List.mem_append_right _ hb)⟩
 exact (List.nodup_append.1 (hp.nodup_iff.1 hnd)).2.2 b (by simp [hb]) b hm rfl

/-- popQ where the numbers are apart. -/
theorem popQ_set {qs : List (Nat × CQ)} {k : Nat} (hk : k < qs.length) (hn : (qs.map (·.2.num)).Nodup) {c2 : CQ} {qb : Nat} (ha : c2.abs = { qs[k].2.abs with found := qs[k].2.abs.found.tail }) :
  popQ qs[k].2.num (qs.map (·.2.abs)) = (qs.set k (qb, c2)).map (·.2.abs) := by
 unfold popQ
 apply List.ext_getElem
 ·simp
 ·intro i h1 h2
  simp only [List.getElem_map, List.getElem_set]
  have hi : i < qs.length := by simpa using h1
  by_cases hik : k = i
  ·subst hik
   rw [if_pos rfl, ha]
   simp [CQ.abs]
  ·rw [if_neg hik]
   have hne : qs[i].2.num ≠ qs[k].2.num := by
    intro e
    have hpw := List.pairwise_iff_getElem.1 hn
    rcases Nat.lt_or_gt_of_ne hik with hlt | hlt
    ·exact hpw k i (by simpa using hk) (by simpa using hi) hlt (by simpa using e.symm)
    ·exact hpw i k (by simpa using hi) (by simpa using hk) hlt (by simpa using e)
   rw [if_neg (by simpa [CQ.abs] using hne)]
end Go.Proofs.YtbgfannlfagoiaaGreatDoor

namespace Go.Proofs.YtbgfannlfagoiaaGreatDoor
open Go.RowKit Go.Lull
set_option linter.unusedVariables false

theorem EG.setQ_apart {w : World} {eb : Nat} {c : CE} (h : EG w eb c) (k : Nat) (hk : k < c.qs.length) (c2 : CQ) {b : Nat} (hb : b ∈ c.qs[k].2.blocks c.qs[k].1) (hb2 : b ∉ c2.blocks c.qs[k].1) : b ∉ CE.blocks { c with qs := c.qs.set k (c.qs[k].1, c2) } eb := by
 obtain ⟨A, B, hAB, hA⟩ : ∃ A B, c.qs = A ++ c.qs[k] :: B ∧ A.length = k := ⟨c.qs.take k, c.qs.drop (k + 1), by rw [← List.drop_eq_getElem_cons hk, List.take_append_drop], by simp; omega⟩
 obtain ⟨x, hx⟩ : ∃ x, c.qs[k] = x := ⟨_, rfl⟩
 rw [hx] at hAB hb hb2 ⊢
 have hset : c.qs.set k (x.1, c2) = A ++ (x.1, c2) :: B := by
  conv => lhs; rw [hAB]
  rw [List.set_append_right _ _ (by omega), hA, Nat.sub_self]
  rfl
 have hp : ∀ X : List Nat, (c.base eb ++ (qsb A ++ (X ++ qsb B))).Perm (X ++ (c.base eb ++ (qsb A ++ qsb B))) := fun X =>
  (List.Perm.append_left _ (List.perm_append_comm_assoc _ _ _)).trans (List.perm_append_comm_assoc _ _ _)
 have hnd := h.nd
 unfold CE.blocks at hnd
 have hsb : qsb c.qs = qsb A ++ (x.2.blocks x.1 ++ qsb B) := by conv => lhs; rw [hAB]; rw [qsb_append, qsb_cons]
 rw [hsb] at hnd
 have hnd2 := (hp _).nodup_iff.1 hnd
 intro hm
 have hm' : b ∈ c.base eb ++ qsb (A ++ (x.1, c2) :: B) := by rw [hset] at hm; exact hm
 rw [qsb_append, qsb_cons] at hm'
 rcases List.mem_append.1 ((hp _).mem_iff.1 hm') with hm | hm
 ·exact hb2 hm
 ·exact (List.nodup_append.1 hnd2).2.2 b hb b hm rfl

theorem serve_after {w wr w2 W5 : World} {eb j tq tr : Nat} {c : CE} {x : Nat × CQ} {m : Mt × Value} {fs : List (Mt × Value)} {vf' : Value} (hE : EG w eb c) (hb : Below w.heap.size w wr) (hlt : w.heap.size < wr.heap.size) (hj : j < c.qs.length) (hx : c.qs[j] = x) (hfs : x.2.fs = m :: fs) (hnn : (c.qs.map (·.2.num)).Nodup)
  (hq2 : QY w2 x.1 { x.2 with vf := vf', fs := fs }) (hf2 : Fr (x.2.blocks x.1) wr w2) (he2 : EvR w2 m.2 m.1.evs) (hv2 : vf'.ownBlock = x.2.vf.ownBlock) (o : Obj)
  (hblk : W5.heap[eb]? = some (.cells (eCells eb { c with tq := tq, tr := tr }) 104 (0, 0))) (hF5 : Fr [eb, w.heap.size] (w2.alloc o) W5) :
  ∃ c', EG W5 eb c' ∧ c'.abs = { c.abs with qs := popQ x.2.num c.abs.qs, tq := tq, tr := tr } ∧ Ext w (c.blocks eb) W5 (c'.blocks eb) ∧ EvR W5 m.2 m.1.evs ∧ (∀ b, m.2.ownBlock = some b → b ∉ c'.blocks eb ∧ b ∈ c.blocks eb) := by
 have hxm : x ∈ c.qs := by rw [← hx]; exact List.getElem_mem hj
 have hEr := hE.below hb
 have hap := QY.apart (vf' := vf') (hEr.qy x hxm) hfs hv2
 obtain ⟨c2, hc2⟩ : ∃ c2, { x.2 with vf := vf', fs := fs : CQ } = c2 := ⟨_, rfl⟩
 rw [hc2] at hq2 hap
 have hext : Ext wr (c.qs[j].2.blocks c.qs[j].1) w2 (c2.blocks c.qs[j].1) := by rw [hx]; exact ⟨hf2, fun b hb => Or.inl (hap.2 b hb)⟩
 obtain ⟨h1, h1e⟩ := hEr.setQ j hj c2 (by rw [hx]; exact hq2) hext
 have hout : ∀ b, m.2.ownBlock = some b → b ∉ CE.blocks { c with qs := c.qs.set j (c.qs[j].1, c2) } eb ∧ b ∈ c.blocks eb := by
  intro b hb'
  refine ⟨hEr.setQ_apart j hj c2 (by rw [hx]; exact (hap.1 b hb').2) (by rw [hx]; exact (hap.1 b hb').1), ?_⟩
  exact List.mem_append_right _ (mem_qsb hxm (hap.1 b hb').2)
 have hal : Below w2.heap.size w2 (w2.alloc o) := (Below.refl _ _).alloc (Nat.le_refl _) _
 have h2 := h1.below hal
 have hebm : eb ∈ c.blocks eb := by simp [CE.blocks, CE.base]
 have hN0 : w.heap.size ∉ CE.blocks { c with qs := c.qs.set j (c.qs[j].1, c2) } eb := by
  intro hm
  rcases h1e.sub _ hm with h3 | h3
  ·exact absurd (hE.lt _ h3) (Nat.lt_irrefl _)
  ·omega
 have hsub : ∀ b ∈ CE.blocks { c with qs := c.qs.set j (c.qs[j].1, c2) } eb, b ∈ c.blocks eb ∨ w.heap.size ≤ b := fun b hm => (h1e.sub b hm).imp id (fun h => Nat.le_trans hb.size h)
 have hF2 : Fr (c.blocks eb) w W5 := by
  refine (((Fr.of_below _ hb).trans h1e.fr).alloc o).trans' hF5 (fun b hm => ?_)
  rcases List.mem_cons.1 hm with rfl | hm
  ·exact Or.inl hebm
  ·rw [List.mem_singleton.1 hm]; exact Or.inr (Nat.le_refl _)
 refine ⟨{ c with qs := c.qs.set j (c.qs[j].1, c2), tq := tq, tr := tr }, ?_, ?_, ⟨hF2, hsub⟩, ?_, hout⟩
 ·refine EG.setTurn (c := { c with qs := c.qs.set j (c.qs[j].1, c2) }) h2 tq tr hblk hF5 (fun b hm => ?_)
  rcases List.mem_cons.1 hm with rfl | hm
  ·exact Or.inl rfl
  ·rw [List.mem_singleton.1 hm]; exact Or.inr hN0
 ·have hpop := popQ_set (qs := c.qs) (k := j) hj hnn (c2 := c2) (qb := c.qs[j].1) (by rw [hx, ← hc2]; simp [CQ.abs, hfs])
  rw [hx] at hpop
  simp only [CE.abs]
  rw [hpop, hx]
 ·refine hF5.own (((Fr.refl [] w2).alloc o).own he2 (by simp)) (fun k hk hm => ?_)
  have h5 := hout k hk
  rcases List.mem_cons.1 hm with rfl | hm
  ·exact h5.1 (by simp [CE.blocks, CE.base])
  ·rw [List.mem_singleton.1 hm] at h5
   exact absurd (hE.lt _ h5.2) (Nat.lt_irrefl _)
end Go.Proofs.YtbgfannlfagoiaaGreatDoor

namespace Go.Proofs.YtbgfannlfagoiaaGreatDoor
open Go.RowKit Go.Lull
set_option linter.unusedVariables false

/-- What serve hands back. -/
def ServePost (w : World) (eb : Nat) (c : CE) (e : Ending) (w' : World) : Prop :=
 match serveE c.abs with
 | none => e = .returned (.tuple #[.agg #[.int .i64 0, .int .i64 0, .slice none 0 0], .bool false]) ∧ Below w.heap.size w w'
 | some (m, s') => ∃ v c', e = .returned (.tuple #[.agg #[.int .i64 m.q, .int .i64 m.cl, v], .bool true]) ∧ EG w' eb c' ∧ c'.abs = s' ∧ Ext w (c.blocks eb) w' (c'.blocks eb) ∧ EvR w' v m.evs ∧ (∀ b, v.ownBlock = some b → b ∉ c'.blocks eb ∧ b ∈ c.blocks eb)

theorem order_abs (c : CE) : orderE c.abs = (orderQ c.tq c.qs).map (·.2.abs) := by
 unfold orderE orderQ
 rw [List.map_append]
 show (c.qs.map (·.2.abs)).filter _ ++ (c.qs.map (·.2.abs)).filter _ = _
 rw [List.filter_map, List.filter_map]
 congr 1
 ·congr 1
  apply List.filter_congr
  intro x _
  exact decide_eq_decide.2 (by show c.tq < x.2.num ↔ (c.tq : Int) < (x.2.num : Int); omega)
 ·congr 1
  apply List.filter_congr
  intro x _
  exact congrArg not (decide_eq_decide.2 (by show c.tq < x.2.num ↔ (c.tq : Int) < (x.2.num : Int); omega))
theorem orderQ_len (n : Int) (qs : List (Nat × CQ)) (h : qs.length ≤ 10) : (orderQ n qs).length ≤ 20 := by
 unfold orderQ
 rw [List.length_append]
 have h1 := List.length_filter_le (greatQ n) qs
 have h2 := List.length_filter_le (fun x => !greatQ n x) qs
 omega

set_option maxRecDepth 8000 in
set_option maxHeartbeats 2000000 in
theorem serve_no (w : World) (eb : Nat) (c : CE) (h : EG w eb c) (hn : (c.qs.map (·.2.num)).Nodup) (hfl : ∀ x ∈ c.qs, x.2.fs.length ≤ 1073741824) (hp : posQ c.tq c.qs = none) (hlf : lastF c.abs = none) :
  Calls Tryz.prog 40 #[.pointer (some ⟨eb, 0, none⟩)] w (ServePost w eb c) := by
 have HE := Hid.mk' h
 have HLF := Hid.mk' hlf
 have HFL := Hid.mk' hfl
 have HNN := Hid.mk' hn
 have e5 := cell_of_row w eb 5 _ _ _ h.blk
 have e6 := cell_of_row w eb 6 _ _ _ h.blk
 simp [eCells] at e5 e6
 have hebl := lt_of_block h.blk
 obtain ⟨wa, hwa⟩ : ∃ wa, w.alloc (.cells #[.int .i64 0, .int .i64 0, .slice none 0 0] 58) = wa := ⟨_, rfl⟩
 have hba : Below w.heap.size w wa := by rw [← hwa]; exact (Below.refl _ _).alloc (Nat.le_refl _) _
 have hNa : wa.heap[w.heap.size]? = some (.cells #[.int .i64 0, .int .i64 0, .slice none 0 0] 58 (0, 0)) := by rw [← hwa]; exact heap_alloc_new _ _
 have hEa := h.below hba
 have hqu := Hid.mk' (query_no wa eb c c.tq hEa hp)
 have hbeh : Hid (∀ w2, Below wa.heap.size wa w2 → Calls Tryz.prog 69 #[.pointer (some ⟨eb, 0, none⟩), .int .i64 c.tq] w2 fun e w' => ∃ a cap, e = .returned (.slice a (orderQ c.tq c.qs).length cap) ∧ Hid (Below w.heap.size w w') ∧ Hid (w'.heap[w.heap.size]? = some (.cells #[.int .i64 0, .int .i64 0, .slice none 0 0] 58 (0, 0))) ∧ Hid (Row w' 122 1 (.slice a (orderQ c.tq c.qs).length cap) (orderQ c.tq c.qs).length ((orderQ c.tq c.qs).map ptrV))) := by
  intro w2 hb2
  refine (behind_eg w2 eb c c.tq (hEa.below hb2)).mono ?_
  rintro e w' ⟨v, rfl, hb, hr⟩
  obtain ⟨a, cap, rfl, _⟩ := hr.form
  exact ⟨a, cap, rfl, (hba.trans (hb2.mono hba.size)).trans (hb.mono (Nat.le_trans hba.size hb2.size)), by unfold Hid; rw [hb.block _ (Nat.lt_of_lt_of_le (lt_of_block hNa) hb2.size), hb2.block _ (lt_of_block hNa)]; exact hNa, hr⟩
 have HM : Hid (∀ x ∈ orderQ c.tq c.qs, x ∈ c.qs) := by
  intro x hx
  rcases List.mem_append.1 hx with hx | hx
  ·exact (List.mem_filter.1 hx).1
  ·exact (List.mem_filter.1 hx).1
 have HO : Hid (orderE c.abs = (orderQ c.tq c.qs).map (·.2.abs)) := order_abs c
 have hcell : Hid (∀ w2, Below wa.heap.size wa w2 → w2.cell? ⟨eb, 5, none⟩ = some (.int .i64 c.tq)) := by
  intro w2 hb2
  rw [(hba.trans (hb2.mono hba.size)).cell (p := ⟨eb, 5, none⟩) hebl]; exact e5
 have hL20 := orderQ_len c.tq c.qs h.q10
 obtain ⟨L, hL⟩ : ∃ L, orderQ c.tq c.qs = L := ⟨_, rfl⟩
 rw [hL] at hbeh HM HO hL20
 have HWA := Hid.mk' hwa
 clear h hEa hba hNa hp hlf hfl hn hL hwa
 go_enter Tryz.func40, Tryz.ntmps40
 go_wp2_with (first | (go_at_call 67; rw [HWA.out]; refine hqu.out.mono ?_; rintro e w0 ⟨rfl, hb0⟩; have c5 := hcell.out w0 hb0) | (go_at_call 69; refine (hbeh.out w0 hb0).mono ?_; rintro e w1 ⟨va, vcap, rfl, HB1, HN1, HR1⟩))
 go_loopw [52] (fun i wr => ∃ k : Nat, i = .int .i64 k ∧ k ≤ L.length ∧ Hid (Below w1.heap.size w1 wr) ∧ Hid (firstF (L.map (·.2.abs)) = firstF ((L.drop k).map (·.2.abs)))) (fun i _ => L.length - (intOf i).toNat)
 case atStart => exact ⟨0, rfl, Nat.zero_le _, Below.refl _ _, rfl⟩
 case round =>
  obtain ⟨k, rfl, hk, HB, HF⟩ := hrel
  have HBw : Hid (Below w.heap.size w wr) := HB1.out.trans (HB.out.mono HB1.out.size)
  have hN : wr.heap[w.heap.size]? = some (.cells #[.int .i64 0, .int .i64 0, .slice none 0 0] 58 (0, 0)) := by rw [HB.out.block _ (lt_of_block HN1.out)]; exact HN1.out
  have n0 := cell_of_row wr w.heap.size 0 _ _ _ hN
  have n1 := cell_of_row wr w.heap.size 1 _ _ _ hN
  have n2 := cell_of_row wr w.heap.size 2 _ _ _ hN
  have y0 := frozen_of_row wr w.heap.size 0 _ _ hN
  have y1 := frozen_of_row wr w.heap.size 1 _ _ hN
  have y2 := frozen_of_row wr w.heap.size 2 _ _ hN
  simp at n0 n1 n2
  by_cases hlt : k < L.length
  ·obtain ⟨g, off, hva⟩ : ∃ g off, va = some ⟨g, off, none⟩ := by
    rcases HR1.out.2 with ⟨_, h0⟩ | ⟨g, off, cap, cur, e, _⟩
    ·omega
    ·cases e; exact ⟨g, off, rfl⟩
   subst hva
   obtain ⟨x, hx⟩ : ∃ x, L[k] = x := ⟨_, rfl⟩
   have hck : wr.cell? ⟨g, off + k, none⟩ = some (.pointer (some ⟨x.1, 0, none⟩)) := by
    have hr := HR1.out.same (w' := wr) (fun b hb => HB.out.block b (HR1.out.lt b hb))
    have := ptr_cell hr k hlt
    rw [hx] at this
    exact this
   have hxm : x ∈ c.qs := HM.out x (by rw [← hx]; exact List.getElem_mem hlt)
   have hEr := HE.out.below HBw.out
   have hdrop : (L.drop k).map (·.2.abs) = x.2.abs :: (L.drop (k + 1)).map (·.2.abs) := by rw [List.drop_eq_getElem_cons hlt, List.map_cons, hx]
   have hQx := hEr.qy x hxm
   cases hfs : x.2.fs with
   | nil =>
    have htk := Hid.mk' (take_none wr x.1 x.2 hQx hfs)
    have HF2 : Hid (firstF (L.map (·.2.abs)) = firstF ((L.drop (k + 1)).map (·.2.abs))) := by
     unfold Hid
     rw [HF.out, hdrop]
     show (match x.2.abs.found with | [] => _ | m :: _ => _) = _
     simp [CQ.abs, hfs]
    clear HF hdrop hQx hEr hfs hN
    go_wp2_with (go_at_call 68; refine htk.out.mono ?_; rintro e w2 ⟨rfl, hb2⟩)
    go_roundw
    case rel => exact ⟨k + 1, by go_num, by omega, HB.out.trans ((hb2.alloc hb2.size _).mono HB.out.size), HF2⟩
    case measure => simp [intOf]; omega
   | cons m fs =>
    obtain ⟨j, hj, hxj⟩ := List.getElem_of_mem hxm
    have hser : Hid (serveE c.abs = some (m.1, { c.abs with qs := popQ x.2.num c.abs.qs, tq := x.2.num, tr := 1 })) := by
     have h1 : firstF (orderE c.abs) = some (x.2.num, m.1) := by
      rw [HO.out, HF.out, hdrop]
      simp [firstF, CQ.abs, hfs]
     unfold Hid serveE
     rw [HLF.out, h1]
    have htk := Hid.mk' (take_some wr x.1 x.2 m fs hQx hfs (HFL.out x hxm))
    have hap := fun vf' hv => QY.apart (vf' := vf') hQx hfs hv
    have hnb : w.heap.size ∉ x.2.blocks x.1 := fun hm => absurd (HE.out.lt _ (List.mem_append_right _ (mem_qsb hxm hm))) (Nat.lt_irrefl _)
    have hnum := x.2.num
    have hpost : Hid (∀ w2 vf' (o : Obj), QY w2 x.1 { x.2 with vf := vf', fs := fs } → Fr (x.2.blocks x.1) wr w2 → EvR w2 m.2 m.1.evs → vf'.ownBlock = x.2.vf.ownBlock →
      w2.heap[w.heap.size]? = some (.cells #[.int .i64 0, .int .i64 0, .slice none 0 0] 58 (0, 0)) ∧ Calls Tryz.prog 70 #[.pointer (some ⟨x.1, 0, none⟩)] (w2.alloc o) (fun e w' => e = .returned (.int .i64 x.2.num) ∧ w' = w2.alloc o) ∧ (w2.alloc o).cell? ⟨eb, 5, none⟩ = some (.int .i64 c.tq) ∧ (w2.alloc o).cell? ⟨eb, 6, none⟩ = some (.int .i64 c.tr) ∧ (w2.alloc o).frozen? ⟨eb, 5, none⟩ = false ∧ (w2.alloc o).frozen? ⟨eb, 6, none⟩ = false ∧
      ∀ a b d, ServePost w eb c (.returned (.tuple #[.agg #[.int .i64 m.1.q, .int .i64 m.1.cl, m.2], .bool true])) ((((((w2.alloc o).setCell ⟨eb, 5, none⟩ (.int .i64 x.2.num)).setCell ⟨eb, 6, none⟩ (.int .i64 1)).setCell ⟨w.heap.size, 0, none⟩ a).setCell ⟨w.heap.size, 1, none⟩ b).setCell ⟨w.heap.size, 2, none⟩ d)) := by
     intro w2 vf' o hq2 hf2 he2 hv2
     have hebn : eb ∉ x.2.blocks x.1 := fun hm => (List.nodup_append.1 hEr.nd).2.2 eb (by simp [CE.base]) eb (mem_qsb hxm hm) rfl
     have hb2 : w2.heap[eb]? = some (.cells (eCells eb c) 104 (0, 0)) := by rw [hf2.block eb (lt_of_block hEr.blk) hebn]; exact hEr.blk
     have hb3 : (w2.alloc o).heap[eb]? = some (.cells (eCells eb c) 104 (0, 0)) := by rw [Below.heap_alloc _ _ _ (lt_of_block hb2)]; exact hb2
     have hNw : w.heap.size < wr.heap.size := lt_of_block hN
     have hne : eb ≠ w.heap.size := by omega
     refine ⟨by rw [hf2.block _ hNw hnb]; exact hN, ?_, by rw [cell_of_row _ eb 5 _ _ _ hb3]; rfl, by rw [cell_of_row _ eb 6 _ _ _ hb3]; rfl, frozen_of_row _ eb 5 _ _ hb3, frozen_of_row _ eb 6 _ _ hb3, fun a b d => ?_⟩
     ·exact number_any (w2.alloc o) x.1 { x.2 with vf := vf', fs := fs } (hq2.same (by simp) (fun b hb => Below.heap_alloc _ _ _ (hq2.lt b hb)))
     ·have h5 : ((w2.alloc o).setCell ⟨eb, 5, none⟩ (.int .i64 x.2.num)).heap[eb]? = some (.cells ((eCells eb c).setIfInBounds 5 (.int .i64 x.2.num)) 104 (0, 0)) := heap_setCell_same _ eb 5 _ _ _ hb3
      have h6 := heap_setCell_same _ eb 6 _ _ (.int .i64 1) h5
      obtain ⟨c', g1, g2, g3, g4, g5⟩ := serve_after (W5 := (((((w2.alloc o).setCell ⟨eb, 5, none⟩ (.int .i64 x.2.num)).setCell ⟨eb, 6, none⟩ (.int .i64 1)).setCell ⟨w.heap.size, 0, none⟩ a).setCell ⟨w.heap.size, 1, none⟩ b).setCell ⟨w.heap.size, 2, none⟩ d) (tq := x.2.num) (tr := 1) HE.out HBw.out hNw hj hxj hfs HNN.out hq2 hf2 he2 hv2 o
       (by rw [Below.heap_setCell _ _ _ _ hne, Below.heap_setCell _ _ _ _ hne, Below.heap_setCell _ _ _ _ hne, h6]; rfl)
       (((((((Fr.refl _ (w2.alloc o)).setCell (Or.inl (by simp)) _).setCell (Or.inl (by simp)) _).setCell (Or.inl (by simp)) _).setCell (Or.inl (by simp)) _)).setCell (Or.inl (by simp)) _)
      unfold ServePost
      rw [hser.out]
      exact ⟨m.2, c', rfl, g1, g2, g3, g4, g5⟩
    obtain ⟨⟨mq, mc, me⟩, mv⟩ := m
    obtain ⟨ta, tc, hmv⟩ := own_form (hQx.own.ev (fp (⟨mq, mc, me⟩, mv)) (by simp [CQ.evl, hfs]))
    simp only [fp] at hmv
    subst hmv
    clear HF hdrop hQx hEr hfs hN hap hser hnum hxj
    go_wp2_with (first | (go_at_call 68; refine htk.out.mono ?_; rintro e w2 ⟨rfl, vf', hq2, hf2, he2, hv2⟩; obtain ⟨hN2, hnu, k5, k6, z5, z6, hfin⟩ := hpost.out w2 vf' (.cells #[.int .i64 mq, .int .i64 mc, .slice ta me.length tc] 58) hq2 hf2 he2 hv2; have HFIN := Hid.mk' hfin; have m0 := cell_of_row w2 w.heap.size 0 _ _ _ hN2; have m1 := cell_of_row w2 w.heap.size 1 _ _ _ hN2; have m2 := cell_of_row w2 w.heap.size 2 _ _ _ hN2; have v0 := frozen_of_row w2 w.heap.size 0 _ _ hN2; have v1 := frozen_of_row w2 w.heap.size 1 _ _ hN2; have v2 := frozen_of_row w2 w.heap.size 2 _ _ hN2; simp at m0 m1 m2; have hNl2 := lt_of_block hN2; have HNU := Hid.mk' hnu; clear hq2 hf2 he2 hv2 hfin hN2 hnu) | (go_at_call 70; refine HNU.out.mono ?_; rintro e w3 ⟨rfl, rfl⟩))
    have a0 := alloc_keep (.cells #[.int .i64 mq, .int .i64 mc, .slice ta me.length tc] 58) m0
    have a1 := alloc_keep (.cells #[.int .i64 mq, .int .i64 mc, .slice ta me.length tc] 58) m1
    have a2 := alloc_keep (.cells #[.int .i64 mq, .int .i64 mc, .slice ta me.length tc] 58) m2
    refine bodyPost_ret (v := .tuple #[.agg #[.int .i64 mq, .int .i64 mc, .slice ta me.length tc], .bool true]) ?_ rfl (HFIN.out _ _ _)
    simp [results, Tryz.results40, go_sem, a0, a1, a2]
  ·have hser : Hid (serveE c.abs = none) := by
    have h1 : firstF (orderE c.abs) = none := by
     rw [HO.out, HF.out, List.drop_of_length_le (by omega)]
     rfl
    unfold Hid serveE
    rw [HLF.out, h1]
   clear hN
   go_wp2
   refine bodyPost_ret (v := .tuple #[.agg #[.int .i64 0, .int .i64 0, .slice none 0 0], .bool false]) (by simp [results, Tryz.results40, go_sem, n0, n1, n2]) rfl ?_
   unfold ServePost
   rw [hser.out]
   exact ⟨rfl, by repeat (first | exact HBw.out | refine Below.setCell ?_ (by simp; try omega) _)⟩
end Go.Proofs.YtbgfannlfagoiaaGreatDoor
