import Derived.Test.YtbgfannlfagoiaaGreatDoorZ42
namespace Go.Proofs.YtbgfannlfagoiaaGreatDoor
open Go.RowKit Go.Lull
set_option linter.unusedVariables false

/-- Register, in the midst of its second loop. -/
structure RA (w wr : World) (rb : Nat) (c ck : RC) (P : List PT) (k : Nat) (v : Value) : Prop where
 re : RE wr rb ck
 fr : Fr (c.blocks rb) w wr
 subw : ∀ b ∈ ck.wr rb, b ∈ c.wr rb ∨ w.heap.size ≤ b
 subr : ∀ b ∈ ck.rd, b ∈ c.rd ∨ b ∈ (P.take k).map (·.1)
 abs : ck.abs = { c.abs with qs := c.abs.qs ++ newRQ c.next ((P.take k).map (·.2.2)), next := c.next + k }
 row : Row wr 3 1 v k (numsV c.next k)
 new : ∀ b, v.ownBlock = some b → w.heap.size ≤ b
 ap : ∀ b, v.ownBlock = some b → b ∉ ck.blocks rb
theorem RA.start {w : World} {rb : Nat} {c : RC} (h : RE w rb c) (P : List PT) : RA w w rb c c P 0 (.slice none 0 0) :=
 ⟨h, Fr.refl _ _, fun b hb => Or.inl hb, fun b hb => Or.inl hb, by simp [newRQ, RC.abs], ⟨rfl, Or.inl ⟨rfl, rfl⟩⟩, (fun b hb => by cases hb), (fun b hb => by cases hb)⟩
theorem RA.next {w wr w2 W3 : World} {rb k g off cap : Nat} {c ck : RC} {P : List PT} {v : Value} {o2 : Obj} (h : RA w wr rb c ck P k v) (hk : k < P.length) (hnx : ck.next = c.next + k)
  (hlt : P[k].1 < w.heap.size) (hpc : P[k].1 ∉ c.wr rb) (hst : SR wr P[k].1 P[k].2.2.1) (hsc : P[k].2.2.1.length ≤ P[k].2.1)
  (hr2 : Row w2 141 1 (.slice (some ⟨g, off, none⟩) (ck.cs.length + 1) cap) (ck.cs.length + 1) (ck.cs.map rptrV ++ [.pointer (some ⟨wr.heap.size, 0, none⟩)]))
  (hg2 : ((wr.alloc (.cells (rqCells (freshR ck.next wr.heap.size P[k])) 140)).alloc o2).grownBy w2 ck.qv.ownBlock) (hor : ck.qv.ownBlock = some g ∨ g = wr.heap.size + 2) (hW3 : w2.setCell ⟨rb, 2, none⟩ (.slice (some ⟨g, off, none⟩) (ck.cs.length + 1) cap) = W3) :
  Row W3 3 1 v k (numsV c.next k) ∧ W3.cell? ⟨rb, 3, none⟩ = some (.int .i64 ck.next) ∧
  (∀ o3 g3 off3 cap3 w4, Row w4 3 1 (.slice (some ⟨g3, off3, none⟩) (k + 1) cap3) (k + 1) (numsV c.next k ++ [.int .i64 ((ck.next : Nat) : Int)]) → (W3.alloc o3).grownBy w4 v.ownBlock → (v.ownBlock = some g3 ∨ g3 = W3.heap.size + 1) →
   w4.cell? ⟨rb, 3, none⟩ = some (.int .i64 ck.next) ∧ w4.frozen? ⟨rb, 3, none⟩ = false ∧ ∃ ck', Hid (RA w (w4.setCell ⟨rb, 3, none⟩ (.int .i64 ((ck.next : Int) + 1))) rb c ck' P (k + 1) (.slice (some ⟨g3, off3, none⟩) (k + 1) cap3)) ∧ ck'.cs.length = ck.cs.length + 1 ∧ ck'.next = ck.next + 1) := by
 have hszr : w.heap.size ≤ wr.heap.size := h.fr.size
 have hxw : P[k].1 ∉ ck.wr rb := fun hm => (h.subw _ hm).elim hpc (fun h1 => by omega)
 have hre := h.re.add hst hsc hxw hr2 hg2 hor
 rw [hW3] at hre
 have hqm : ∀ b, ck.qv.ownBlock = some b → b ∈ ck.wr rb := fun b hb => by simp [RC.wr, hb]
 have hrbw : rb ∈ ck.wr rb := List.mem_cons_self
 have hF2 : Fr (ck.blocks rb) wr W3 := by
  rw [← hW3]
  exact ((((Fr.refl (ck.blocks rb) wr).alloc _).alloc o2).grown hg2 (fun b hb => Or.inl (List.mem_append_left _ (hqm b hb)))).setCell (p := ⟨rb, 2, none⟩) (Or.inl (List.mem_append_left _ hrbw)) _
 have hs3 : wr.heap.size + 2 ≤ W3.heap.size := by rw [← hW3]; have := hg2.size; simp at this; simp; omega
 have hvl : ∀ b, v.ownBlock = some b → b < wr.heap.size := h.row.lt
 have hrow3 : Row W3 3 1 v k (numsV c.next k) := h.row.same (fun b hb => hF2.block b (hvl b hb) (h.ap b hb))
 -- the blocks of the Engine with the query
 have hwr' : ∀ b ∈ ({ ck with qv := .slice (some ⟨g, off, none⟩) (ck.cs.length + 1) cap, cs := ck.cs ++ [freshR ck.next wr.heap.size P[k]] } : RC).wr rb, b ∈ ck.wr rb ∨ wr.heap.size ≤ b := by
  intro b hb
  unfold RC.wr at hb
  simp only [List.flatMap_append, List.flatMap_cons, List.flatMap_nil, freshR_blk, Value.ownBlock, Option.toList_some] at hb
  rcases List.mem_cons.1 hb with h1 | h1
  ·left; rw [h1]; exact hrbw
  ·rcases List.mem_cons.1 h1 with h2 | h2
   ·left; rw [h2]; simp [RC.wr]
   ·rcases List.mem_append.1 h2 with h3 | h3
    ·rw [List.mem_singleton] at h3
     rcases hor with h4 | h4
     ·left; rw [h3]; exact hqm g h4
     ·right; omega
    ·rcases List.mem_append.1 h3 with h4 | h4
     ·left; exact List.mem_cons_of_mem _ (List.mem_cons_of_mem _ (List.mem_append_right _ h4))
     ·right; simp at h4; omega
 have hrd' : ∀ b ∈ ({ ck with qv := .slice (some ⟨g, off, none⟩) (ck.cs.length + 1) cap, cs := ck.cs ++ [freshR ck.next wr.heap.size P[k]] } : RC).rd, b ∈ ck.rd ∨ b = P[k].1 := by
  intro b hb
  unfold RC.rd at hb ⊢
  simp only [List.map_append, List.map_cons, List.map_nil, freshR] at hb
  rcases List.mem_append.1 hb with h1 | h1
  ·exact Or.inl (List.mem_append_left _ h1)
  ·rcases List.mem_append.1 h1 with h2 | h2
   ·exact Or.inl (List.mem_append_right _ h2)
   ·right; simpa using h2
 have hxv : ∀ b, v.ownBlock = some b → b ≠ P[k].1 := fun b hb e => by have := h.new b hb; omega
 have hap3 : ∀ b, v.ownBlock = some b → b ∉ ({ ck with qv := .slice (some ⟨g, off, none⟩) (ck.cs.length + 1) cap, cs := ck.cs ++ [freshR ck.next wr.heap.size P[k]] } : RC).blocks rb := by
  intro b hb hm
  rcases List.mem_append.1 hm with h1 | h1
  ·rcases hwr' b h1 with h2 | h2
   ·exact h.ap b hb (List.mem_append_left _ h2)
   ·have := hvl b hb; omega
  ·rcases hrd' b h1 with h2 | h2
   ·exact h.ap b hb (List.mem_append_right _ h2)
   ·exact hxv b hb h2
 refine ⟨hrow3, by rw [cell_of_row W3 rb 3 _ _ _ hre.blk]; rfl, ?_⟩
 intro o3 g3 off3 cap3 w4 r1 r2 r3
 have hre4 : RE w4 rb { ck with qv := .slice (some ⟨g, off, none⟩) (ck.cs.length + 1) cap, cs := ck.cs ++ [freshR ck.next wr.heap.size P[k]] } := by
  refine hre.same (by have := r2.size; simp at this; omega) (fun b hb => ?_)
  have hbl := hre.lt b hb
  rw [r2.block b (by simp; omega) (fun e => hap3 b e.symm hb), Below.heap_alloc _ _ _ hbl]
 have hF4 : Fr (c.blocks rb) w (w4.setCell ⟨rb, 3, none⟩ (.int .i64 ((ck.next : Int) + 1))) := by
  have hsub : ∀ b ∈ ck.blocks rb, b ∈ c.blocks rb ∨ w.heap.size ≤ b ∨ b ∈ ck.rd := fun b hb => by
   rcases List.mem_append.1 hb with h1 | h1
   ·rcases h.subw b h1 with h2 | h2
    ·exact Or.inl (List.mem_append_left _ h2)
    ·exact Or.inr (Or.inl h2)
   ·exact Or.inr (Or.inr h1)
  have hFw : Fr (ck.wr rb) wr W3 := by
   rw [← hW3]
   exact ((((Fr.refl (ck.wr rb) wr).alloc _).alloc o2).grown hg2 (fun b hb => Or.inl (hqm b hb))).setCell (p := ⟨rb, 2, none⟩) (Or.inl hrbw) _
  have h3 : Fr (c.blocks rb) w W3 := h.fr.trans' hFw (fun b hb => (h.subw b hb).imp (fun h1 => List.mem_append_left _ h1) id)
  have h4 : Fr (c.blocks rb) w w4 := (h3.alloc o3).grown r2 (fun b hb => Or.inr (h.new b hb))
  refine h4.setCell (p := ⟨rb, 3, none⟩) ?_ _
  exact Or.inl (List.mem_append_left _ List.mem_cons_self)
 refine ⟨by rw [cell_of_row w4 rb 3 _ _ _ hre4.blk]; rfl, frozen_of_row w4 rb 3 _ _ hre4.blk, { ck with qv := .slice (some ⟨g, off, none⟩) (ck.cs.length + 1) cap, cs := ck.cs ++ [freshR ck.next wr.heap.size P[k]], next := ck.next + 1 }, ?_, by simp, rfl⟩
 have hcast : ((ck.next : Int) + 1) = ((ck.next + 1 : Nat) : Int) := by omega
 refine ⟨?_, hF4, ?_, ?_, ?_, ?_, ?_, ?_⟩
 ·have := hre4.setNext (ck.next + 1)
  rw [← hcast] at this
  exact this
 ·intro b hb
  rcases hwr' b hb with h1 | h1
  ·exact h.subw b h1
  ·exact Or.inr (by omega)
 ·intro b hb
  rw [List.take_succ_eq_append_getElem hk, List.map_append]
  rcases hrd' b hb with h1 | h1
  ·exact (h.subr b h1).imp id (fun h2 => List.mem_append_left _ h2)
  ·right; rw [h1]; exact List.mem_append_right _ (by simp)
 ·have h1 := h.abs
  have hq := congrArg RS.qs h1
  have e0 : ck.abs.qs = ck.cs.map (·.q) := rfl
  rw [e0] at hq
  rw [List.take_succ_eq_append_getElem hk, List.map_append, List.map_cons, List.map_nil, newRQ_snoc]
  have hl : ((P.take k).map (·.2.2)).length = k := by simp; omega
  rw [hl, ← hnx]
  have e1 : ck.marks = c.marks := congrArg RS.marks h1
  have e2 : ck.waits = c.waits := congrArg RS.waits h1
  have e3 : ck.served = c.served := congrArg RS.served h1
  have e4 : ck.row = c.row := congrArg RS.row h1
  unfold RC.abs
  simp only [List.map_append, List.map_cons, List.map_nil, hq, e1, e2, e3, e4, freshR, ← List.append_assoc]
  rw [show c.next + (k + 1) = ck.next + 1 by omega]
  rfl
 ·rw [numsV_succ, ← hnx]
  refine r1.same (fun b hb => Below.heap_setCell _ _ _ _ (fun e => ?_))
  have hb' : g3 = b := Option.some.inj hb
  have hrl := lt_of_block hre.blk
  have e' : b = rb := e
  rcases r3 with h1 | h1
  ·exact h.ap g3 h1 (by rw [hb', e]; exact List.mem_append_left _ hrbw)
  ·omega
 ·intro b hb
  have hb' : g3 = b := Option.some.inj hb
  rcases r3 with h1 | h1
  ·exact h.new b (by rw [← hb']; exact h1)
  ·omega
 ·intro b hb hm
  have hb' : g3 = b := Option.some.inj hb
  rcases r3 with h1 | h1
  ·exact hap3 g3 h1 (by rw [hb']; exact hm)
  ·have := hre.lt b hm; omega
end Go.Proofs.YtbgfannlfagoiaaGreatDoor
