import Derived.Test.YtbgfannlfagoiaaGreatDoorZ27
import Derived.Test.YtbgfannlfagoiaaGreatDoorZ30
import Derived.Deep.RegionLaw
namespace Go.Proofs.YtbgfannlfagoiaaGreatDoor
open Go.RowKit Go.Lull
set_option linter.unusedVariables false

theorem Tryz.infoI3 : (Tryz.prog.info? 3).map (fun i => (i.zero, i.size, i.bytes)) = some (some (.int .i64 0), 1, 8) := by kernel_rfl
/-- append of one number. -/
theorem append_int (w : World) {ops : Array Oper} {rest : List Oper} {o : Oper} {a : Act} {Q : Exit → Act → World → Prop} (hgd : o.guard = none) (s x : Operand)
  (ho : o.op = .call { callee := .builtin .append, args := #[s, x], argTypes := #[44, 44] })
  (v : Value) (n : Nat) (xs : List Value) (z : Int) (hv : a.eval s = v) (hrow : Row w 3 1 v n xs)
  (hxv : a.eval x = .slice (some ⟨w.heap.size, 0, none⟩) 1 1) (hn : n ≤ 100000)
  (h : ∀ g off cap w', Row w' 3 1 (.slice (some ⟨g, off, none⟩) (n + 1) cap) (n + 1) (xs ++ [.int .i64 z]) → (w.alloc (.cells #[.int .i64 z] 3)).grownBy w' v.ownBlock → (v.ownBlock = some g ∨ g = w.heap.size + 1) → wpList Tryz.prog ops Q rest (a.put o.dst (.slice (some ⟨g, off, none⟩) (n + 1) cap)) w') :
  wpList Tryz.prog ops Q (o :: rest) a (w.alloc (.cells #[.int .i64 z] 3)) := by
 obtain ⟨i0, hi, hz0, hz1, hz2⟩ := info_parts Tryz.infoI3
 refine wpList_append_row hgd s x 44 ho i0 _ 8 Tryz.underlying44 hi hz0 hz1 hz2 rfl hv (hrow.same (fun k hk => Below.heap_alloc _ _ _ (hrow.lt k hk))) 1 [.int .i64 z] _ hxv (Src.ofSlice _ Tryz.underlying44 _ 1 1 _ rfl ?_ (by simp [Value.oneCell'])) (by omega) (by unfold maxLen; omega) (by omega) ?_
 ·intro j u hj
  match j, hj with
  | 0, hj => simp at hj; subst hj; simp [Addr.add]
  | j + 1, hj => simp at hj
 ·intro g off cap w' h1 h2 h3
  exact h g off cap w' h1 h2 (h3.imp id (fun h => by rw [h]; simp))

/-- A call of a Go function, as one step of a region that draws. -/
theorem step_call {P : Program} {f : FuncId} {fn : Func} {cd : Code} (hf : P.funcs[f]? = some fn) (hname : (fn.name == "runtime.NumGoroutine") = false) (hb : fn.body = some cd)
  {ops : Array Oper} {o : Oper} {a : Act} {w : World} {K : Act → World → Prop} {Q : Exit → Act → World → Prop} {E : Prop} (hgd : o.guard = none) (s x : Operand) (ts : Array TypeId)
  (ho : o.op = .call { callee := .value (.func f), args := #[s, x], argTypes := ts }) (hev : a.eval (.func f) = .func (.func f) #[] #[]) (v1 v2 : Value) (hs : a.eval s = v1) (hx : a.eval x = v2)
  (h : Calls P f #[v1, v2] w fun e w' => ∃ v, e = .returned v ∧ K (a.put o.dst v) w') :
  if Region.wanted o (yielded ops a.tmps) = true then Oper.wp P o a w K Q else E := by
 have hw : Region.wanted o (yielded ops a.tmps) = true := by simp [Region.wanted, hgd]
 rw [if_pos hw]
 have hrun : (execOp a.eval o).run P w = .ok (.enter f #[v1, v2]) w := by
  unfold execOp
  have h1 : fn.name ≠ "runtime.NumGoroutine" := by simpa using hname
  simp [ho, resolve, hs, hx, hev, Deferred.ofValue, invoke, callFunc, hf, h1, hb]
 unfold Oper.wp
 rw [hrun, Oper.upon_enter]
 refine h.mono ?_
 rintro e w' ⟨v, rfl, hk⟩
 exact hk

def numsV (a n : Nat) : List Value := (List.range n).map (fun i : Nat => Value.int .i64 ((a + i : Nat) : Int))
theorem numsV_succ (a n : Nat) : numsV a (n + 1) = numsV a n ++ [.int .i64 ((a + n : Nat) : Int)] := by simp [numsV, List.range_succ]

theorem EG.setNext {w : World} {eb : Nat} {c : CE} (h : EG w eb c) (n : Nat) : EG (w.setCell ⟨eb, 4, none⟩ (.int .i64 n)) eb { c with next := n } := by
 have hnd := h.nd
 have hp : (c.blocks eb).Perm (eb :: (c.bv.ownBlock.toList ++ (c.qv.ownBlock.toList ++ ([c.mg] ++ qsb c.qs)))) := by
  have : c.blocks eb = (c.bv.ownBlock.toList ++ c.qv.ownBlock.toList) ++ eb :: ([c.mg] ++ qsb c.qs) := by simp [CE.blocks, CE.base]
  rw [this]
  refine List.perm_middle.trans ?_
  rw [List.append_assoc]
 have hne : ∀ b ∈ c.bv.ownBlock.toList ++ (c.qv.ownBlock.toList ++ ([c.mg] ++ qsb c.qs)), b ≠ eb := fun b hb e => (List.nodup_cons.1 (hp.nodup_iff.1 hnd)).1 (e ▸ hb)
 have hset : ∀ b, b ≠ eb → (w.setCell ⟨eb, 4, none⟩ (.int .i64 n)).heap[b]? = w.heap[b]? := fun b hb => Below.heap_setCell _ _ _ _ (by simpa using hb)
 have hsz : w.heap.size ≤ (w.setCell ⟨eb, 4, none⟩ (.int .i64 n)).heap.size := by simp [World.setCell]
 refine ⟨?_, ?_, h.m1, h.m8, h.buf.same (fun b hb => hset b (hne b (by simp [hb]))), h.qrow.same (fun b hb => hset b (hne b (by simp [hb]))), fun x hx => (h.qy x hx).same hsz (fun b hb => hset b (hne b (by simp [mem_qsb hx hb]))), h.nd, h.q10, h.b60⟩
 ·rw [heap_setCell_same w eb 4 _ _ _ h.blk]
  rfl
 ·refine ⟨h.marks.1, ?_⟩
  rcases h.marks.2 with h2 | ⟨g, cap, cur, h1, h2, h3, h4⟩
  ·exact Or.inl h2
  ·refine Or.inr ⟨g, cap, cur, h1, h2, ?_, h4⟩
   cases h1
   show (w.setCell ⟨eb, 4, none⟩ (.int .i64 n)).heap[c.mg]? = _
   rw [hset c.mg (hne c.mg (by simp))]; exact h3

/-- add, in the midst. -/
structure AD (w wr : World) (eb : Nat) (c ck : CE) (P : List PT) (k : Nat) (v : Value) : Prop where
 eg : EG wr eb ck
 fr : Fr (c.blocks eb) w wr
 sub : ∀ b ∈ ck.blocks eb, b ∈ c.blocks eb ∨ b ∈ (P.take k).map (·.1) ∨ w.heap.size ≤ b
 abs : ck.abs = { c.abs with qs := c.abs.qs ++ newQs c.next ((P.take k).map (·.2.2)), next := c.next + k }
 row : Row wr 3 1 v k (numsV c.next k)
 new : ∀ b, v.ownBlock = some b → w.heap.size ≤ b
 ap : ∀ b, v.ownBlock = some b → b ∉ ck.blocks eb
 qvn : ∀ b, ck.qv.ownBlock = some b → b ∈ c.blocks eb ∨ w.heap.size ≤ b

def freshQ (n : Nat) (x : PT) : CQ := ⟨n, x.2.2.1, x.2.2.2.1, x.1, x.2.1, .slice none 0 0, [], .slice none 0 0, []⟩
theorem freshQ_blocks (n nb : Nat) (x : PT) : (freshQ n x).blocks nb = [nb, x.1] := by simp [freshQ, CQ.blocks, CQ.base, CQ.evl, eblk, Value.ownBlock]

/-- A query more, a number more. -/
theorem AD.next {w wr w1 w2 W3 : World} {eb k nb g off cap : Nat} {c ck : CE} {P : List PT} {v : Value} {o1 o2 o3 : Obj} (h : AD w wr eb c ck P k v) (hk : k < P.length) (hq : ck.qs.length + 1 ≤ 10)
  (hlt : P[k].1 < w.heap.size) (hpc : P[k].1 ∉ c.blocks eb) (hnd : (P.map (·.1)).Nodup)
  (hb1 : Below (wr.alloc o1).heap.size (wr.alloc o1) w1) (hnb : wr.heap.size < nb) (hqy : QY w1 nb (freshQ ck.next P[k]))
  (hr2 : Row w2 122 1 (.slice (some ⟨g, off, none⟩) (ck.qs.length + 1) cap) (ck.qs.length + 1) (ck.qs.map ptrV ++ [.pointer (some ⟨nb, 0, none⟩)])) (hg2 : (w1.alloc o2).grownBy w2 ck.qv.ownBlock) (hor : ck.qv.ownBlock = some g ∨ g = (w1.alloc o2).heap.size) (hW3 : w2.setCell ⟨eb, 3, none⟩ (.slice (some ⟨g, off, none⟩) (ck.qs.length + 1) cap) = W3) :
  EG W3 eb { ck with qv := .slice (some ⟨g, off, none⟩) (ck.qs.length + 1) cap, qs := ck.qs ++ [(nb, freshQ ck.next P[k])] } ∧ Row W3 3 1 v k (numsV c.next k) ∧ w.heap.size ≤ W3.heap.size ∧ W3.cell? ⟨eb, 4, none⟩ = some (.int .i64 ck.next) ∧
  (∀ g3 off3 cap3 w4, Row w4 3 1 (.slice (some ⟨g3, off3, none⟩) (k + 1) cap3) (k + 1) (numsV c.next k ++ [.int .i64 ((ck.next : Nat) : Int)]) → (W3.alloc o3).grownBy w4 v.ownBlock → (v.ownBlock = some g3 ∨ g3 = W3.heap.size + 1) →
   w4.cell? ⟨eb, 4, none⟩ = some (.int .i64 ck.next) ∧ w4.frozen? ⟨eb, 4, none⟩ = false ∧ ∃ ck', AD w (w4.setCell ⟨eb, 4, none⟩ (.int .i64 ((ck.next : Int) + 1))) eb c ck' P (k + 1) (.slice (some ⟨g3, off3, none⟩) (k + 1) cap3) ∧ ck'.qs.length = ck.qs.length + 1 ∧ ck'.next = ck.next + 1) := by
 have hszr : w.heap.size ≤ wr.heap.size := h.fr.size
 have hb1' : Below wr.heap.size wr w1 := ((Below.refl _ _).alloc (Nat.le_refl _) _).trans (hb1.mono (by simp))
 have hF2 : Fr ck.qv.ownBlock.toList wr w2 := (((Fr.of_below _ hb1').alloc o2).grown hg2 (fun b hb => Or.inl (by simp [hb])))
 have hnd0 := h.eg.nd
 have hqvlt : ∀ b, ck.qv.ownBlock = some b → b < wr.heap.size := h.eg.qrow.lt
 -- the steps' block is none of the Engine's
 have hpk : P[k].1 ∉ ck.blocks eb := by
  intro hm
  rcases h.sub _ hm with h1 | h1 | h1
  ·exact hpc h1
  ·obtain ⟨x, hx, hxe⟩ := List.mem_map.1 h1
   obtain ⟨i, hi, rfl⟩ := List.mem_iff_getElem.1 hx
   rw [List.getElem_take] at hxe
   have hi' : i < k := by simp at hi; omega
   have h2 := List.pairwise_iff_getElem.1 hnd i k (by simp; omega) (by simp; omega) hi'
   simp at h2
   exact h2 hxe
  ·omega
 have hqy2 : QY w2 nb (freshQ ck.next P[k]) := by
  refine hqy.same (Nat.le_trans (by simp) hg2.size) (fun b hb => ?_)
  rw [freshQ_blocks] at hb
  have hbl : b < w1.heap.size := hqy.lt b (by rw [freshQ_blocks]; exact hb)
  have hbn : some b ≠ ck.qv.ownBlock := by
   intro e
   have := hqvlt b e.symm
   simp at hb
   rcases hb with rfl | rfl
   ·omega
   ·exact hpk (by simp [CE.blocks, CE.base, ← e])
  rw [hg2.block b (by simp; omega) hbn, Below.heap_alloc _ _ _ hbl]
 have hold0 : ∀ b ∈ ck.qv.ownBlock.toList ++ qsb ck.qs, b ∉ ck.bv.ownBlock.toList ∧ b ≠ eb ∧ b ≠ ck.mg := by
  intro b hb
  have hp : (ck.blocks eb).Perm ((ck.bv.ownBlock.toList ++ [eb, ck.mg]) ++ (ck.qv.ownBlock.toList ++ qsb ck.qs)) := by
   have : ck.blocks eb = ck.bv.ownBlock.toList ++ (ck.qv.ownBlock.toList ++ ([eb, ck.mg] ++ qsb ck.qs)) := by simp [CE.blocks, CE.base]
   rw [this, List.append_assoc]
   refine List.Perm.append_left _ ?_
   exact List.perm_append_comm_assoc _ _ _
  have h2 := (List.nodup_append.1 (hp.nodup_iff.1 hnd0)).2.2
  exact ⟨fun hm => h2 b (List.mem_append_left _ hm) b hb rfl, fun e => h2 b (by simp [e]) b hb rfl, fun e => h2 b (by simp [e]) b hb rfl⟩
 have hnq : (ck.qv.ownBlock.toList ++ qsb ck.qs).Nodup := by
  unfold CE.blocks CE.base at hnd0
  refine hnd0.sublist (List.Sublist.append ?_ (List.Sublist.refl _))
  exact (List.sublist_append_left _ _).trans (List.sublist_append_right _ _)
 have hmem : ∀ b, b ∈ ck.bv.ownBlock.toList ∨ b = eb ∨ b = ck.mg → b ∈ ck.blocks eb := by
  intro b hb
  unfold CE.blocks CE.base
  rcases hb with hb | rfl | rfl
  ·exact List.mem_append_left _ (List.mem_append_left _ hb)
  ·simp
  ·simp
 have hnbk : nb ∉ ck.blocks eb := fun hm => by have := h.eg.lt nb hm; omega
 have hgnew : ∀ b, (Value.slice (some ⟨g, off, none⟩) (ck.qs.length + 1) cap).ownBlock = some b → ck.qv.ownBlock = some b ∨ (w1.alloc o2).heap.size = b := by
  intro b hb
  have hb' : g = b := Option.some.inj hb
  rcases hor with h1 | h1
  ·exact Or.inl (by rw [h1, hb'])
  ·exact Or.inr (by rw [← h1, hb'])
 have hs1 := hb1'.size
 have hqb : qsb (ck.qs ++ [(nb, freshQ ck.next P[k])]) = qsb ck.qs ++ [nb, P[k].1] := by
  unfold qsb
  rw [List.flatMap_append]
  simp [freshQ_blocks]
 have hnbl : nb < w1.heap.size := hqy.lt nb (by rw [freshQ_blocks]; simp)
 have hnq2 : ((Value.slice (some ⟨g, off, none⟩) (ck.qs.length + 1) cap).ownBlock.toList ++ qsb (ck.qs ++ [(nb, freshQ ck.next P[k])])).Nodup := by
  rw [hqb]
  have hx : ∀ b ∈ qsb ck.qs, b < wr.heap.size := fun b hb => h.eg.lt b (List.mem_append_right _ hb)
  have hq2 : (qsb ck.qs ++ [nb, P[k].1]).Nodup := by
   refine List.nodup_append.2 ⟨(List.nodup_append.1 hnq).2.1, ?_, ?_⟩
   ·have : nb ≠ P[k].1 := by omega
    simpa using this
   ·intro a ha b hb e
    subst e
    simp at hb
    rcases hb with rfl | rfl
    ·exact hnbk (List.mem_append_right _ ha)
    ·exact hpk (List.mem_append_right _ ha)
  refine List.nodup_append.2 ⟨by simp [Value.ownBlock], hq2, ?_⟩
  intro a ha b hb e
  subst e
  have ha' : g = a := by have := ha; simp [Value.ownBlock] at this; exact this.symm
  subst ha'
  rcases hgnew g rfl with h1 | h1
  ·rcases List.mem_append.1 hb with hb | hb
   ·exact (List.nodup_append.1 hnq).2.2 g (by simp [h1]) g hb rfl
   ·have := hqvlt g h1
    simp at hb
    rcases hb with rfl | rfl
    ·omega
    ·exact hpk (by simp [CE.blocks, CE.base, h1])
  ·simp at h1
   rcases List.mem_append.1 hb with hb | hb
   ·have := hx g hb; omega
   ·simp at hb
    rcases hb with hb | hb <;> omega
 have hold2 : ∀ b ∈ (Value.slice (some ⟨g, off, none⟩) (ck.qs.length + 1) cap).ownBlock.toList ++ qsb (ck.qs ++ [(nb, freshQ ck.next P[k])]), b ∉ ck.bv.ownBlock.toList ∧ b ≠ eb ∧ b ≠ ck.mg := by
  intro b hb
  rw [hqb] at hb
  have hnot : ∀ b, b ∉ ck.blocks eb → b ∉ ck.bv.ownBlock.toList ∧ b ≠ eb ∧ b ≠ ck.mg := fun b hb => ⟨fun hm => hb (hmem b (Or.inl hm)), fun e => hb (hmem b (Or.inr (Or.inl e))), fun e => hb (hmem b (Or.inr (Or.inr e)))⟩
  rcases List.mem_append.1 hb with hb | hb
  ·have hb' : g = b := by have := hb; simp [Value.ownBlock] at this; exact this.symm
   subst hb'
   rcases hgnew g rfl with h1 | h1
   ·exact hold0 g (by simp [h1])
   ·refine hnot g (fun hm => ?_)
    have := h.eg.lt g hm
    simp at h1; omega
  ·rcases List.mem_append.1 hb with hb | hb
   ·exact hold0 b (List.mem_append_right _ hb)
   ·simp at hb
    rcases hb with rfl | rfl
    ·exact hnot _ hnbk
    ·exact hnot _ hpk
 have hset := h.eg.setQs (qv' := .slice (some ⟨g, off, none⟩) (ck.qs.length + 1) cap) (qs' := ck.qs ++ [(nb, freshQ ck.next P[k])]) hF2 (by simpa [ptrV] using hr2) (fun x hx => by
   rcases List.mem_append.1 hx with hx | hx
   ·refine (h.eg.qy x hx).fr hF2 (fun b hb1 hb2 => ?_)
    exact (List.nodup_append.1 hnq).2.2 b hb1 b (mem_qsb hx hb2) rfl
   ·simp at hx; subst hx; exact hqy2) hnq2 hold2 (by simp; omega)
 rw [hW3] at hset
 obtain ⟨hE3, hF3⟩ := hset
 have hvlt : ∀ b, v.ownBlock = some b → b < wr.heap.size := h.row.lt
 have hrow3 : Row W3 3 1 v k (numsV c.next k) := Row.fr hF3 h.row (fun b hb => h.ap b hb)
 have hsz3 : wr.heap.size ≤ W3.heap.size := hF3.size
 refine ⟨hE3, hrow3, Nat.le_trans hszr hsz3, by rw [cell_of_row W3 eb 4 _ _ _ hE3.blk]; rfl, ?_⟩
 intro g3 off3 cap3 w4 hrow4 hg4 hor4
 obtain ⟨c3, hc3⟩ : ∃ c3, { ck with qv := .slice (some ⟨g, off, none⟩) (ck.qs.length + 1) cap, qs := ck.qs ++ [(nb, freshQ ck.next P[k])] : CE } = c3 := ⟨_, rfl⟩
 rw [hc3] at hE3
 have hblk3 : CE.blocks c3 eb = ck.bv.ownBlock.toList ++ ((Value.slice (some ⟨g, off, none⟩) (ck.qs.length + 1) cap).ownBlock.toList ++ [eb, ck.mg]) ++ (qsb ck.qs ++ [nb, P[k].1]) := by rw [← hc3, ← hqb]; rfl
 have hsub3 : ∀ b ∈ c3.blocks eb, b ∈ ck.blocks eb ∨ b = nb ∨ b = P[k].1 ∨ b = (w1.alloc o2).heap.size := by
  intro b hb
  rw [hblk3] at hb
  rcases List.mem_append.1 hb with hb | hb
  ·rcases List.mem_append.1 hb with hb | hb
   ·exact Or.inl (hmem b (Or.inl hb))
   ·rcases List.mem_append.1 hb with hb | hb
    ·have hb' : g = b := by have := hb; simp [Value.ownBlock] at this; exact this.symm
     subst hb'
     rcases hgnew g rfl with h1 | h1
     ·exact Or.inl (by simp [CE.blocks, CE.base, h1])
     ·exact Or.inr (Or.inr (Or.inr h1.symm))
    ·simp at hb
     exact Or.inl (hmem b (Or.inr hb))
  ·rcases List.mem_append.1 hb with hb | hb
   ·exact Or.inl (List.mem_append_right _ hb)
   ·simp at hb
    rcases hb with rfl | rfl
    ·exact Or.inr (Or.inl rfl)
    ·exact Or.inr (Or.inr (Or.inl rfl))
 have hvap3 : ∀ b, v.ownBlock = some b → b ∉ c3.blocks eb := by
  intro b hb hm
  have h1 := hvlt b hb
  have h2 := h.new b hb
  rcases hsub3 b hm with h3 | h3 | h3 | h3
  ·exact h.ap b hb h3
  ·omega
  ·omega
  ·simp at h3; omega
 have hE4 : EG w4 eb c3 := by
  refine hE3.same (Nat.le_trans (by simp) hg4.size) (fun b hb => ?_)
  have hbl := hE3.lt b hb
  rw [hg4.block b (by simp; omega) (fun e => hvap3 b e.symm hb), Below.heap_alloc _ _ _ hbl]
 have hnx : c3.next = ck.next := by rw [← hc3]
 refine ⟨by rw [cell_of_row w4 eb 4 _ _ _ hE4.blk]; simp [eCells, hnx], frozen_of_row w4 eb 4 _ _ hE4.blk, { c3 with next := ck.next + 1 }, ?_, by rw [← hc3]; simp, rfl⟩
 have hE5 := hE4.setNext (ck.next + 1)
 have hcast : (((ck.next + 1 : Nat) : Nat) : Int) = (ck.next : Int) + 1 := by omega
 rw [hcast] at hE5
 have heb : eb ∈ c.blocks eb := by simp [CE.blocks, CE.base]
 have hck : ck.next = c.next + k := by have := congrArg En.next h.abs; simpa [CE.abs] using this
 have hrow4' : Row w4 3 1 (.slice (some ⟨g3, off3, none⟩) (k + 1) cap3) (k + 1) (numsV c.next (k + 1)) := by
  rw [numsV_succ, ← hck]; exact hrow4
 have hW3w1 : (w1.alloc o2).heap.size ≤ W3.heap.size := by have := hg2.size; rw [← hW3]; simpa [World.setCell] using this
 have hg3ap : g3 ∉ c3.blocks eb := by
  rcases hor4 with h1 | h1
  ·exact hvap3 g3 h1
  ·intro hm
   have := hE3.lt g3 hm
   omega
 have hebc : eb ∈ c3.blocks eb := by rw [hblk3]; simp
 have hg3ne : g3 ≠ eb := fun e => hg3ap (by rw [e]; exact hebc)
 refine ⟨hE5, ?_, ?_, ?_, ?_, ?_, ?_, ?_⟩
 ·have f1 : Fr (c.blocks eb) w W3 := by
   refine ⟨hF3.os.trans h.fr.os, hF3.tape.trans h.fr.tape, hF3.output.trans h.fr.output, Nat.le_trans hszr hsz3, fun b hb hn => ?_⟩
   have hbe : b ≠ eb := fun e => hn (e ▸ heb)
   have hbq : b ∉ ck.qv.ownBlock.toList := by
    intro hq
    rcases h.qvn b (by simpa using hq) with h1 | h1
    ·exact hn h1
    ·omega
   rw [show W3.heap[b]? = w2.heap[b]? from by rw [← hW3]; exact Below.heap_setCell _ _ _ _ (by simpa using hbe), hF2.block b (by omega) hbq, h.fr.block b hb hn]
  exact ((f1.alloc o3).grown hg4 (fun b hb => Or.inr (h.new b hb))).setCell (Or.inl heb) _
 ·intro b hb
  have hb' : b ∈ c3.blocks eb := hb
  rcases hsub3 b hb' with h1 | h1 | h1 | h1
  ·rcases h.sub b h1 with h2 | h2 | h2
   ·exact Or.inl h2
   ·refine Or.inr (Or.inl ?_)
    rw [List.take_succ_eq_append_getElem hk, List.map_append]
    exact List.mem_append_left _ h2
   ·exact Or.inr (Or.inr h2)
  ·exact Or.inr (Or.inr (by omega))
  ·refine Or.inr (Or.inl ?_)
   rw [List.take_succ_eq_append_getElem hk, List.map_append]
   exact List.mem_append_right _ (by simp [h1])
  ·refine Or.inr (Or.inr ?_)
   simp at h1; omega
 ·have ha := h.abs
  have hqs : ck.qs.map (·.2.abs) = c.abs.qs ++ newQs c.next ((P.take k).map (·.2.2)) := by have := congrArg En.qs ha; simpa [CE.abs] using this
  have e1 : CE.abs { c3 with next := ck.next + 1 } = { ck.abs with qs := ck.qs.map (·.2.abs) ++ [⟨ck.next, P[k].2.2.1, P[k].2.2.2.1, [], []⟩], next := ck.next + 1 } := by
   rw [← hc3]; simp [CE.abs, CQ.abs, freshQ]
  rw [e1, hqs, ha, List.take_succ_eq_append_getElem hk, List.map_append]
  have e2 := newQs_snoc ((P.take k).map (·.2.2)) c.next P[k].2.2
  have e3 : c.next + ((P.take k).map (·.2.2)).length = ck.next := by rw [hck]; simp; omega
  rw [e3] at e2
  simp only [List.map_cons, List.map_nil]
  rw [e2, List.append_assoc, hck]
  rfl
 ·exact hrow4'.same (fun b hb => Below.heap_setCell _ _ _ _ (by
   have hb' : g3 = b := Option.some.inj hb
   subst hb'
   simpa using hg3ne))
 ·intro b hb
  have hb' : g3 = b := Option.some.inj hb
  subst hb'
  rcases hor4 with h1 | h1
  ·exact h.new g3 h1
  ·omega
 ·intro b hb
  have hb' : g3 = b := Option.some.inj hb
  subst hb'
  exact hg3ap
 ·intro b hb
  have hb2 : (Value.slice (some ⟨g, off, none⟩) (ck.qs.length + 1) cap).ownBlock = some b := by rw [← hc3] at hb; exact hb
  rcases hgnew b hb2 with h1 | h1
  ·exact h.qvn b h1
  ·right
   simp at h1; omega

theorem pat_at {w : World} {base g cap : Nat} {P : List PT} (h : w.ownsRow base 128 2 (.slice (some ⟨g, 0, none⟩) P.length cap) P.length ((P.map toPat).flatMap patC)) (k : Nat) (hk : k < P.length) :
  w.cell? ⟨g, k * 2, none⟩ = some (.slice (some ⟨P[k].1, 0, none⟩) P[k].2.2.1.length P[k].2.1) ∧ w.cell? ⟨g, k * 2 + 1, none⟩ = some (.int .i64 P[k].2.2.2.1) := by
 have hat : ∀ (l : List Pat) (i j : Nat) (h : i < l.length), j < 2 → (l.flatMap patC)[i * 2 + j]? = (patC l[i])[j]? := by
  intro l
  induction l with
  | nil => intro i j h; cases h
  | cons x l ih =>
   intro i j h hj
   have hl : (patC x).length = 2 := rfl
   cases i with
   | zero => rw [List.flatMap_cons, Nat.zero_mul, Nat.zero_add, List.getElem?_append_left (by rw [hl]; exact hj)]; rfl
   | succ i =>
    rw [List.flatMap_cons, List.getElem?_append_right (by rw [hl]; omega), hl, show (i + 1) * 2 + j - 2 = i * 2 + j by omega]
    exact ih i j (by simpa using h) hj
 refine ⟨?_, ?_⟩
 ·rw [h.cellAt (k * 2) (by omega)]
  have := hat (P.map toPat) k 0 (by simpa using hk) (by omega)
  rw [Nat.add_zero] at this
  rw [this]; simp [patC, toPat]
 ·rw [h.cellAt (k * 2 + 1) (by omega), hat (P.map toPat) k 1 (by simpa using hk) (by omega)]
  simp [patC, toPat]

theorem ST.of_own {w : World} {base : Nat} {x : PT} (h : ownSteps w base x) : ST w x.1 0 x.2.2.1 := by
 intro i hi
 rw [Nat.zero_add, World.ownsRow.cellAt h i (by omega)]
 simp [hi]

set_option maxHeartbeats 400000 in
theorem add_zero (w : World) (p : Value) (a : Option Addr) (cap : Nat) :
  Calls Tryz.prog 59 #[p, .slice a 0 cap] w fun e w' => e = .returned (.slice none 0 0) ∧ w' = w := by
 go_enter Tryz.func59, Tryz.ntmps59
 go_wp2
 refine wp_loop_rounds 1 ?_; rw [rounds_succ]
 go_wp2
 go_ret
 exact ⟨rfl, rfl⟩

theorem nqBody : ∃ cd, Tryz.f86.body = some cd := by
 have h : Tryz.f86.body.isSome = true := by kernel_rfl
 exact Option.isSome_iff_exists.1 h
theorem ptr_new (w : World) (nb T : Nat) : ∀ j u, [Value.pointer (some ⟨nb, 0, none⟩)][j]? = some u → (w.alloc (.cells #[.pointer (some ⟨nb, 0, none⟩)] T)).cell? ((⟨w.heap.size, 0, none⟩ : Addr).add j) = some u := by
 intro j u hj
 match j, hj with
 | 0, hj => simp at hj; subst hj; simp [Addr.add]
 | j + 1, hj => simp at hj

set_option maxRecDepth 8000 in
set_option maxHeartbeats 4000000 in
theorem add_some (w : World) (eb base g cap : Nat) (c : CE) (P : List PT) (h : EG w eb c) (hP : PA w base (.slice (some ⟨g, 0, none⟩) P.length cap) P) (hok : ∀ x ∈ P, StOk x.2.2 ∧ x.2.2.1 ≠ []) (hpc : ∀ x ∈ P, x.2.2.1.length ≤ x.2.1) (hq : c.qs.length + P.length ≤ 10) (hcap : P.length ≤ cap) (hnx : c.next ≤ 1000000000)
  (hg : g ∉ c.blocks eb) (hpg : ∀ x ∈ P, x.1 ∉ c.blocks eb) :
  Calls Tryz.prog 59 #[.pointer (some ⟨eb, 0, none⟩), .slice (some ⟨g, 0, none⟩) P.length cap] w fun e w' => ∃ v c', e = .returned v ∧ AD w w' eb c c' P P.length v := by
 have hez := lt_of_block h.blk
 have hgz : g < w.heap.size := own_lt hP.row g rfl
 have h0 : Hid (AD w w eb c c P 0 (.slice none 0 0)) := ⟨h, Fr.refl _ _, fun b hb => Or.inl hb, by simp [newQs]; rfl, ⟨rfl, Or.inl ⟨rfl, rfl⟩⟩, (fun b hb => by cases hb), (fun b hb => by cases hb), fun b hb => Or.inl (by simp [CE.blocks, CE.base, hb])⟩
 have HP := Hid.mk' hP
 have HOK := Hid.mk' hok
 have HPC := Hid.mk' hpc
 have HG := Hid.mk' hg
 have HPG := Hid.mk' hpg
 have hpl : P.length ≤ 10 := by omega
 clear h hP hok hpc hg hpg
 go_enter Tryz.func59, Tryz.ntmps59
 go_wp2
 go_loopw [5, 10] (fun v i wr => ∃ (k : Nat) (ck : CE), i = .int .i64 k ∧ k ≤ P.length ∧ ck.qs.length = c.qs.length + k ∧ ck.next = c.next + k ∧ Hid (AD w wr eb c ck P k v)) (fun _ i _ => P.length - (intOf i).toNat)
 case atStart => exact ⟨0, c, rfl, Nat.zero_le _, rfl, rfl, h0⟩
 case round =>
  obtain ⟨k, ck, rfl, hk, hql, hnl, hA⟩ := hrel
  by_cases hlt : k < P.length
  ·obtain ⟨x, hx⟩ : ∃ x, P[k] = x := ⟨_, rfl⟩
   have hxm : x ∈ P := by rw [← hx]; exact List.getElem_mem hlt
   have hgw : Hid (∀ W, Fr (c.blocks eb) w W → W.heap[g]? = w.heap[g]?) := fun W hf => hf.block g hgz HG.out
   obtain ⟨p0, p1⟩ := pat_at HP.out.row k hlt
   rw [hx] at p0 p1
   have hp0 : wr.cell? ⟨g, k * 2, none⟩ = some (.slice (some ⟨x.1, 0, none⟩) x.2.2.1.length x.2.1) := (World.cell?_of_block (a := ⟨g, k * 2, none⟩) (hgw.out wr hA.out.fr)).trans p0
   have hp1 : wr.cell? ⟨g, k * 2 + 1, none⟩ = some (.int .i64 x.2.2.2.1) := (World.cell?_of_block (a := ⟨g, k * 2 + 1, none⟩) (hgw.out wr hA.out.fr)).trans p1
   clear p0 p1 hgw
   have hosx := HP.out.st x hxm
   have hxlt : x.1 < w.heap.size := own_lt hosx x.1 rfl
   have hosr : ownSteps wr base x := hA.out.fr.own hosx (fun b hb => by
    have hb' : x.1 = b := Option.some.inj hb
    rw [← hb']; exact HPG.out x hxm)
   obtain ⟨aq, cq, hqv, hqc⟩ := hA.out.eg.qrow.form
   have e3 := cell_of_row wr eb 3 _ _ _ hA.out.eg.blk
   have e4 := cell_of_row wr eb 4 _ _ _ hA.out.eg.blk
   have f3 := frozen_of_row wr eb 3 _ _ hA.out.eg.blk
   simp [eCells, hqv] at e3 e4
   have hezr := lt_of_block hA.out.eg.blk
   have hst := hA.out.fr.size
   have hok := HOK.out x hxm
   have hs1 : 1 ≤ x.2.2.1.length := List.length_pos_iff.2 hok.2
   obtain ⟨Wb, hWb⟩ : ∃ Wb, wr.alloc (.cells #[.slice (some ⟨x.1, 0, none⟩) x.2.2.1.length x.2.1, .int .i64 x.2.2.2.1] 128) = Wb := ⟨_, rfl⟩
   have hbb : Below wr.heap.size wr Wb := by rw [← hWb]; exact (Below.refl _ _).alloc (Nat.le_refl _) _
   have hwbs : Wb.heap.size = wr.heap.size + 1 := by rw [← hWb]; simp
   have hbox : Wb.heap[wr.heap.size]? = some (.cells #[.slice (some ⟨x.1, 0, none⟩) x.2.2.1.length x.2.1, .int .i64 x.2.2.2.1] 128 (0, 0)) := by rw [← hWb]; exact heap_alloc_new _ _
   have hEb := hA.out.eg.below hbb
   -- what a world behind the box still holds
   have hcells : Hid (∀ W, Below Wb.heap.size Wb W → W.cell? ⟨eb, 3, none⟩ = some (.slice aq ck.qs.length cq) ∧ W.cell? ⟨eb, 4, none⟩ = some (.int .i64 ck.next) ∧ W.cell? ⟨wr.heap.size, 0, none⟩ = some (.slice (some ⟨x.1, 0, none⟩) x.2.2.1.length x.2.1) ∧ W.cell? ⟨wr.heap.size, 1, none⟩ = some (.int .i64 x.2.2.2.1) ∧ W.frozen? ⟨eb, 3, none⟩ = false) := by
    intro W hb
    have hE := hEb.below hb
    have hbx : W.heap[wr.heap.size]? = some (.cells #[.slice (some ⟨x.1, 0, none⟩) x.2.2.1.length x.2.1, .int .i64 x.2.2.2.1] 128 (0, 0)) := by rw [hb.block _ (by omega)]; exact hbox
    refine ⟨?_, ?_, ?_, ?_, frozen_of_row W eb 3 _ _ hE.blk⟩
    ·rw [cell_of_row W eb 3 _ _ _ hE.blk]; simp [eCells, hqv]
    ·rw [cell_of_row W eb 4 _ _ _ hE.blk]; simp [eCells]
    ·rw [cell_of_row W wr.heap.size 0 _ _ _ hbx]; rfl
    ·rw [cell_of_row W wr.heap.size 1 _ _ _ hbx]; rfl
   have hnq : Hid (Calls Tryz.prog 86 #[.int .i64 ck.next, .agg #[.slice (some ⟨x.1, 0, none⟩) x.2.2.1.length x.2.1, .int .i64 x.2.2.2.1]] Wb.drew fun e w1 => ∃ nb, e = .returned (.pointer (some ⟨nb, 0, none⟩)) ∧ Hid (Below Wb.heap.size Wb w1 ∧ wr.heap.size < nb ∧ nb < w1.heap.size ∧ QY w1 nb (freshQ ck.next x))) := by
    refine (newQuery_any Wb.drew ck.next x.2.2.1 x.2.2.2.1 x.1 x.2.1 ?_ ?_ hs1 hok.1.len (HPC.out x hxm) hok.1.alt hok.1.w0 hok.1.w1).mono ?_
    ·exact (ST.of_own (own_below hosr hbb)).same rfl
    ·show x.1 < Wb.heap.size; omega
    ·rintro e w1 ⟨nb, rfl, n1, n2, n3, n4⟩
     have n1' : Wb.heap.size ≤ nb := n1
     exact ⟨nb, rfl, ⟨n3.os, n3.tape, n3.output, n3.size, n3.block⟩, by omega, n2, n4⟩
   have hrowq : Hid (∀ (w1 : World) (o : Obj), Below Wb.heap.size Wb w1 → Row (w1.alloc o) 122 1 (.slice aq ck.qs.length cq) ck.qs.length (ck.qs.map ptrV)) := by
    intro w1 o hb
    have hE := (hEb.below hb).below ((Below.refl _ _).alloc (Nat.le_refl _) o)
    rw [← hqv]; exact hE.qrow
   have hafter : Hid (∀ (w1 w2 : World) (o : Obj), Below Wb.heap.size Wb w1 → (w1.alloc o).grownBy w2 (Value.slice aq ck.qs.length cq).ownBlock → w2.cell? ⟨eb, 3, none⟩ = some (.slice aq ck.qs.length cq) ∧ w2.frozen? ⟨eb, 3, none⟩ = false) := by
    intro w1 w2 o hb hg
    have hE := hEb.below hb
    have hbe : w2.heap[eb]? = some (.cells (eCells eb ck) 104 (0, 0)) := by
     rw [hg.block eb (by have := lt_of_block hE.blk; simp; omega) (fun e => by
      have hnd := hA.out.eg.nd
      unfold CE.blocks CE.base at hnd
      rw [hqv] at hnd
      have h1 := (List.nodup_append.1 (List.nodup_append.1 hnd).1).2.1
      exact (List.nodup_append.1 h1).2.2 eb (by simp [← e]) eb (by simp) rfl), Below.heap_alloc _ _ _ (lt_of_block hE.blk)]
     exact hE.blk
    exact ⟨by rw [cell_of_row w2 eb 3 _ _ _ hbe]; simp [eCells, hqv], frozen_of_row w2 eb 3 _ _ hbe⟩
   have hnext : Hid (∀ (w1 w2 W3 : World) (nb g2 off2 cap2 : Nat), (Below Wb.heap.size Wb w1 ∧ wr.heap.size < nb ∧ nb < w1.heap.size ∧ QY w1 nb (freshQ ck.next x)) → Row w2 122 1 (.slice (some ⟨g2, off2, none⟩) (ck.qs.length + 1) cap2) (ck.qs.length + 1) (ck.qs.map ptrV ++ [.pointer (some ⟨nb, 0, none⟩)]) → (w1.alloc (.cells #[.pointer (some ⟨nb, 0, none⟩)] 122)).grownBy w2 (Value.slice aq ck.qs.length cq).ownBlock → ((Value.slice aq ck.qs.length cq).ownBlock = some g2 ∨ g2 = (w1.alloc (.cells #[.pointer (some ⟨nb, 0, none⟩)] 122)).heap.size) → w2.setCell ⟨eb, 3, none⟩ (.slice (some ⟨g2, off2, none⟩) (ck.qs.length + 1) cap2) = W3 →
     Row W3 3 1 u5 k (numsV c.next k) ∧ W3.cell? ⟨eb, 4, none⟩ = some (.int .i64 ck.next) ∧ (∀ o3 g3 off3 cap3 w4, Row w4 3 1 (.slice (some ⟨g3, off3, none⟩) (k + 1) cap3) (k + 1) (numsV c.next k ++ [.int .i64 ((ck.next : Nat) : Int)]) → (W3.alloc o3).grownBy w4 u5.ownBlock → (u5.ownBlock = some g3 ∨ g3 = W3.heap.size + 1) →
      w4.cell? ⟨eb, 4, none⟩ = some (.int .i64 ck.next) ∧ w4.frozen? ⟨eb, 4, none⟩ = false ∧ ∃ ck', Hid (AD w (w4.setCell ⟨eb, 4, none⟩ (.int .i64 ((ck.next : Int) + 1))) eb c ck' P (k + 1) (.slice (some ⟨g3, off3, none⟩) (k + 1) cap3)) ∧ ck'.qs.length = ck.qs.length + 1 ∧ ck'.next = ck.next + 1)) := by
    intro w1 w2 W3 nb g2 off2 cap2 hn hr hg hor hW
    subst hWb
    rw [← hqv] at hg hor
    have H := fun o3 => AD.next (o3 := o3) hA.out hlt (by omega) (by rw [hx]; exact hxlt) (by rw [hx]; exact HPG.out x hxm) HP.out.nd hn.1 hn.2.1 (by rw [hx]; exact hn.2.2.2) hr hg hor hW
    obtain ⟨_, h2, _, h4, _⟩ := H (.cells #[] 0)
    exact ⟨h2, h4, fun o3 g3 off3 cap3 w4 r1 r2 r3 => (H o3).2.2.2.2 g3 off3 cap3 w4 r1 r2 r3⟩
   obtain ⟨va, vcap, hv5, _⟩ := hA.out.row.form
   subst hv5
   obtain ⟨k1, k2, k3, k4, k5⟩ := hcells.out Wb (Below.refl _ _)
   have HWB := Hid.mk' hWb
   have hq10 : ck.qs.length ≤ 9 := by omega
   have hnn : ck.next ≤ 1000000010 := by omega
   obtain ⟨xp, xc, xs, xw, xz⟩ := x
   simp only at *
   have HQL := Hid.mk' hql
   have HNL := Hid.mk' hnl
   clear hA hosx hosr hEb hbox hWb hqv hok HOK hxm hx hql hnl
   go_wp2
   rw [HWB.out]
   obtain ⟨i0, hi0, hz0, hz1, hz2⟩ := info_parts Tryz.infoPtr
   go_region_law (first | (refine step_call Tryz.func86 (by kernel_rfl) nqBody.choose_spec (by rfl) _ _ _ (by rfl) (by rfl) _ _ (by rfl) (by rfl) (hnq.out.mono ?_); rintro e w1 ⟨nb, rfl, hN⟩; refine ⟨_, rfl, ?_⟩; obtain ⟨m1, m2, m3, m4, m5⟩ := hcells.out w1 hN.out.1; have m1a := fun o => alloc_keep (w := w1) o m1) | (refine step_append_row (by rfl) _ _ _ (by rfl) i0 _ 8 Tryz.underlying100 hi0 hz0 hz1 hz2 rfl (by rfl) (hrowq.out w1 _ hN.out.1) 1 [.pointer (some ⟨nb, 0, none⟩)] _ (by rfl) (Src.ofSlice _ Tryz.underlying100 _ 1 1 _ rfl (ptr_new w1 nb _) (by simp [Value.oneCell'])) (by omega) (by unfold maxLen; omega) (by omega) ?_; intro g2 off2 cap2 w2 hr2 hg2 hor2; obtain ⟨q1, q2⟩ := hafter.out w1 w2 _ hN.out.1 hg2))
   all_goals
    obtain ⟨W3, hW3⟩ : ∃ W3, w2.setCell ⟨eb, 3, none⟩ (.slice (some ⟨g2, off2, none⟩) (ck.qs.length + 1) cap2) = W3 := ⟨_, rfl⟩
    rw [hW3]
    obtain ⟨r1, r2, r3⟩ := hnext.out w1 w2 W3 nb g2 off2 cap2 hN.out hr2 hg2 hor2 hW3
    have R1 := Hid.mk' r1
    have R3 := Hid.mk' r3
    clear r1 r3 hW3 hr2 hg2 hor2 q1 q2 m1 m2 m3 m4 m5 m1a hi0 hz0 hz1 hz2 hN k1 k2 k3 k4 k5 e3 e4 f3 hp0 hp1
    go_wp2_with (at_builtin; refine append_int _ rfl _ _ rfl (.slice va k vcap) k _ _ rfl R1.out rfl (by omega) ?_)
    intro g3 off3 cap3 w4 hr4 hg4 hor4
    obtain ⟨s1, s2, ck', hA', hq', hn'⟩ := R3.out _ g3 off3 cap3 w4 hr4 hg4 hor4
    have HQ' := Hid.mk' hq'
    have HN' := Hid.mk' hn'
    clear hr4 hg4 hor4 hq' hn'
    go_wp2
    go_roundw
    case rel => exact ⟨k + 1, ck', by go_num, by omega, by rw [HQ'.out, HQL.out]; omega, by rw [HN'.out, HNL.out]; omega, hA'⟩
    case measure => simp [intOf]; omega
  ·have hfin : Hid (AD w wr eb c ck P P.length u5) := by
    have : k = P.length := by omega
    rw [← this]; exact hA
   obtain ⟨a5, c5, hv, _⟩ := hA.out.row.form
   subst hv
   clear hA
   go_wp2
   go_ret
   exact ⟨_, _, rfl, hfin.out⟩
end Go.Proofs.YtbgfannlfagoiaaGreatDoor
