import Derived.Test.YtbgfannlfagoiaaGreatDoorZ40
import Derived.Test.YtbgfannlfagoiaaGreatDoorZ10
namespace Go.Proofs.YtbgfannlfagoiaaGreatDoor
open Go.RowKit Go.Lull
set_option linter.unusedVariables false

def CR.saw (x : CR) (e : Ev) (g cap : Nat) : CR := { x with sa := some ⟨g, 0, none⟩, lc := cap, q := { x.q with seen := x.q.seen ++ [e] } }
/-- An event is shown to the k-th query. -/
theorem RE.see {w w1 : World} {rb k g cap : Nat} {c : RC} {x : CR} {e : Ev} {o : Obj} (h : RE w rb c) (hk : k < c.cs.length) (hx : c.cs[k] = x) (hg : (w.alloc o).grownBy w1 (Value.slice x.sa x.q.seen.length x.lc).ownBlock)
  (hown : w1.ownsRow 0 75 4 (.slice (some ⟨g, 0, none⟩) (x.q.seen.length + 1) cap) (x.q.seen.length + 1) (x.q.seen.flatMap evC ++ evC e)) (hat : (Value.slice x.sa x.q.seen.length x.lc).ownBlock = some g ∨ g = w.heap.size + 1) :
  RE (w1.setCell ⟨x.qb, 3, none⟩ (.slice (some ⟨g, 0, none⟩) (x.q.seen.length + 1) cap)) rb { c with cs := c.cs.set k (x.saw e g cap) } ∧ (∀ b ∈ ({ c with cs := c.cs.set k (x.saw e g cap) } : RC).blocks rb, b ∈ c.blocks rb ∨ w.heap.size ≤ b) := by
 obtain ⟨A, B, hAB, hset, hAl⟩ : ∃ A B, c.cs = A ++ x :: B ∧ c.cs.set k (x.saw e g cap) = A ++ x.saw e g cap :: B ∧ A.length = k := by
  refine ⟨c.cs.take k, c.cs.drop (k + 1), ?_, ?_, by simp; omega⟩
  ·rw [← hx, ← List.drop_eq_getElem_cons hk, List.take_append_drop]
  ·rw [List.set_eq_take_append_cons_drop, if_pos hk]
 rw [hset]
 have hlt := h.lt
 obtain ⟨own, hownb⟩ : ∃ own, (Value.slice x.sa x.q.seen.length x.lc).ownBlock = own := ⟨_, rfl⟩
 rw [hownb] at hg hat
 have hblkx : x.blk = x.qb :: own.toList := by unfold CR.blk; rw [hownb]
 have hblkx' : (x.saw e g cap).blk = [x.qb, g] := by simp [CR.blk, CR.saw, Value.ownBlock]
 obtain ⟨P, hP⟩ : ∃ P, rb :: c.mg :: (c.qv.ownBlock.toList ++ A.flatMap CR.blk) = P := ⟨_, rfl⟩
 obtain ⟨S, hS⟩ : ∃ S, B.flatMap CR.blk = S := ⟨_, rfl⟩
 have hwr : c.wr rb = P ++ (x.qb :: own.toList ++ S) := by
  unfold RC.wr; rw [hAB, List.flatMap_append, List.flatMap_cons, hblkx, ← hP, hS]; simp
 have hwr' : ({ c with cs := A ++ x.saw e g cap :: B } : RC).wr rb = P ++ (x.qb :: g :: S) := by
  unfold RC.wr; simp only; rw [List.flatMap_append, List.flatMap_cons, hblkx', ← hP, hS]; simp
 have hrd' : ({ c with cs := A ++ x.saw e g cap :: B } : RC).rd = c.rd := by
  unfold RC.rd; simp only; rw [hAB]; simp [CR.saw]
 have hnd := h.nd
 rw [hwr] at hnd
 have hn := List.nodup_append.1 hnd
 have hn2 := List.nodup_cons.1 (show (x.qb :: (own.toList ++ S)).Nodup by simpa using hn.2.1)
 have hn3 := List.nodup_append.1 hn2.2
 have hgl : ∀ b, b < w.heap.size → own ≠ some b → w1.heap[b]? = w.heap[b]? := fun b hl hne => by
  rw [hg.block b (by simp; omega) (fun e => hne e.symm), Below.heap_alloc _ _ _ hl]
 have hkeep : ∀ b, b < w.heap.size → own ≠ some b → b ≠ x.qb → (w1.setCell ⟨x.qb, 3, none⟩ (.slice (some ⟨g, 0, none⟩) (x.q.seen.length + 1) cap)).heap[b]? = w.heap[b]? := fun b hl h1 h2 => by
  rw [Below.heap_setCell _ _ _ _ h2, hgl b hl h1]
 have hmP : ∀ b ∈ P, b < w.heap.size ∧ own ≠ some b ∧ b ≠ x.qb := fun b hb => by
  refine ⟨hlt b (List.mem_append_left _ (by rw [hwr]; exact List.mem_append_left _ hb)), fun e1 => ?_, fun e1 => ?_⟩
  ·exact hn.2.2 b hb b (by simp [e1]) rfl
  ·exact hn.2.2 b hb x.qb (by simp) e1
 have hmS : ∀ b ∈ S, b < w.heap.size ∧ own ≠ some b ∧ b ≠ x.qb := fun b hb => by
  refine ⟨hlt b (List.mem_append_left _ (by rw [hwr]; exact List.mem_append_right _ (by simp [hb]))), fun e1 => ?_, fun e1 => ?_⟩
  ·exact hn3.2.2 b (by simp [e1]) b hb rfl
  ·exact hn2.1 (by rw [← e1]; exact List.mem_append_right _ hb)
 have hmR : ∀ b ∈ c.rd, b < w.heap.size ∧ own ≠ some b ∧ b ≠ x.qb := fun b hb => by
  refine ⟨hlt b (List.mem_append_right _ hb), fun e1 => ?_, fun e1 => ?_⟩
  ·exact h.ap b hb (by rw [hwr]; exact List.mem_append_right _ (by simp [e1]))
  ·exact h.ap b hb (by rw [hwr]; exact List.mem_append_right _ (by simp [e1]))
 have hxm : x ∈ c.cs := by rw [hAB]; simp
 have hqx := h.qs x hxm
 have hqbl := lt_of_block hqx.blk
 have hqo : own ≠ some x.qb := fun e1 => hn2.1 (by simp [e1])
 have hgP : ∀ b ∈ P ++ (x.qb :: S), g ≠ b := fun b hb e1 => by
  rcases hat with h1 | h1
  ·rcases List.mem_append.1 hb with h2 | h2
   ·exact (hmP b h2).2.1 (by rw [h1, e1])
   ·rcases List.mem_cons.1 h2 with h3 | h3
    ·exact hqo (by rw [h1, e1, h3])
    ·exact (hmS b h3).2.1 (by rw [h1, e1])
  ·have : b < w.heap.size := by
    rcases List.mem_append.1 hb with h2 | h2
    ·exact (hmP b h2).1
    ·rcases List.mem_cons.1 h2 with h3 | h3
     ·rw [h3]; exact hqbl
     ·exact (hmS b h3).1
   omega
 have hgrd : ∀ b ∈ c.rd, g ≠ b := fun b hb e1 => by
  rcases hat with h1 | h1
  ·exact (hmR b hb).2.1 (by rw [h1, e1])
  ·have := (hmR b hb).1; omega
 have hsz : w.heap.size ≤ w1.heap.size := by have := hg.size; simp at this; omega
 refine ⟨⟨?_, ?_, h.waits.same (fun b hb => ?_), ?_, ?_, ?_, ?_⟩, ?_⟩
 ·have h1 := hmP rb (by rw [← hP]; simp)
  rw [hkeep rb h1.1 h1.2.1 h1.2.2]; exact h.blk
 ·have h1 := hmP c.mg (by rw [← hP]; simp)
  show (w1.setCell _ _).heap[c.mg]? = _
  rw [hkeep c.mg h1.1 h1.2.1 h1.2.2]; exact h.marks
 ·have h1 := hmR b (by simp [RC.rd, hb])
  exact hkeep b h1.1 h1.2.1 h1.2.2
 ·show Row _ _ 1 c.qv (A ++ x.saw e g cap :: B).length ((A ++ x.saw e g cap :: B).map _)
  have hr := h.qrow
  rw [hAB] at hr
  have e1 : (A ++ x.saw e g cap :: B).length = (A ++ x :: B).length := by simp
  have e2 : (A ++ x.saw e g cap :: B).map (fun x : CR => Value.pointer (some ⟨x.qb, 0, none⟩)) = (A ++ x :: B).map (fun x : CR => Value.pointer (some ⟨x.qb, 0, none⟩)) := by simp [CR.saw]
  rw [e1, e2]
  refine hr.same (fun b hb => ?_)
  have h1 := hmP b (by rw [← hP]; simp [hb])
  exact hkeep b h1.1 h1.2.1 h1.2.2
 ·intro y hy
  have hother : ∀ y ∈ c.cs, (∀ b ∈ y.blk, b ∈ P ∨ b ∈ S) → QR (w1.setCell ⟨x.qb, 3, none⟩ (.slice (some ⟨g, 0, none⟩) (x.q.seen.length + 1) cap)) y := by
   intro y hy hb
   refine (h.qs y hy).same (by simpa using hsz) (fun b hb' => ?_)
   rcases List.mem_append.1 hb' with h1 | h1
   ·rcases hb b h1 with h2 | h2
    ·have h3 := hmP b h2; exact hkeep b h3.1 h3.2.1 h3.2.2
    ·have h3 := hmS b h2; exact hkeep b h3.1 h3.2.1 h3.2.2
   ·rw [List.mem_singleton] at h1; subst h1
    have h3 := hmR _ (mem_rd hy); exact hkeep _ h3.1 h3.2.1 h3.2.2
  rcases List.mem_append.1 hy with h1 | h1
  ·exact hother y (by rw [hAB]; exact List.mem_append_left _ h1) (fun b hb => Or.inl (by rw [← hP]; exact List.mem_cons_of_mem _ (List.mem_cons_of_mem _ (List.mem_append_right _ (List.mem_flatMap.2 ⟨y, h1, hb⟩)))))
  ·rcases List.mem_cons.1 h1 with h2 | h2
   ·subst h2
    have h3 := hmR _ (mem_rd hxm)
    refine ⟨?_, hqx.st.same (by simpa using hsz) (hkeep _ h3.1 h3.2.1 h3.2.2), hqx.stc, ?_⟩
    ·show (w1.setCell _ _).heap[x.qb]? = _
     have hb1 : w1.heap[x.qb]? = some (.cells (rqCells x) 140 (0, 0)) := by rw [hgl x.qb hqbl hqo]; exact hqx.blk
     rw [heap_setCell_same w1 x.qb 3 _ _ _ hb1]
     simp [rqCells, CR.saw]
    ·have e1 : (x.saw e g cap).q.seen.length = x.q.seen.length + 1 := by simp [CR.saw]
     have e2 : (x.saw e g cap).q.seen.flatMap evC = x.q.seen.flatMap evC ++ evC e := by simp [CR.saw]
     rw [e1, e2]
     refine own_same hown (fun b hb => Below.heap_setCell _ _ _ _ (fun e3 => ?_))
     have hb' : g = b := Option.some.inj hb
     exact hgP x.qb (by simp) (by rw [hb', e3])
   ·exact hother y (by rw [hAB]; exact List.mem_append_right _ (List.mem_cons_of_mem _ h2)) (fun b hb => Or.inr (by rw [← hS]; exact List.mem_flatMap.2 ⟨y, h2, hb⟩))
 ·rw [hwr']
  have hsub : (P ++ (x.qb :: S)).Nodup := hnd.sublist ((List.Sublist.refl P).append (by simp))
  have hperm : (P ++ (x.qb :: g :: S)).Perm (g :: (P ++ (x.qb :: S))) := by
   have := @List.perm_middle Nat g (P ++ [x.qb]) S
   simpa using this
  rw [hperm.nodup_iff]
  exact List.nodup_cons.2 ⟨fun hm => hgP g hm rfl, hsub⟩
 ·rw [hrd', hwr']
  intro b hb hm
  rcases List.mem_append.1 hm with h1 | h1
  ·exact h.ap b hb (by rw [hwr]; exact List.mem_append_left _ h1)
  ·rcases List.mem_cons.1 h1 with h2 | h2
   ·exact (hmR b hb).2.2 h2
   ·rcases List.mem_cons.1 h2 with h3 | h3
    ·exact hgrd b hb h3.symm
    ·exact h.ap b hb (by rw [hwr]; exact List.mem_append_right _ (by simp [h3]))
 ·intro b hb
  unfold RC.blocks at hb ⊢
  rw [hrd', hwr'] at hb
  rw [hwr]
  rcases List.mem_append.1 hb with h1 | h1
  ·rcases List.mem_append.1 h1 with h2 | h2
   ·exact Or.inl (List.mem_append_left _ (List.mem_append_left _ h2))
   ·rcases List.mem_cons.1 h2 with h3 | h3
    ·exact Or.inl (List.mem_append_left _ (List.mem_append_right _ (by simp [h3])))
    ·rcases List.mem_cons.1 h3 with h4 | h4
     ·rcases hat with h5 | h5
      ·exact Or.inl (List.mem_append_left _ (List.mem_append_right _ (by simp [h5, h4])))
      ·right; omega
     ·exact Or.inl (List.mem_append_left _ (List.mem_append_right _ (by simp [h4])))
  ·exact Or.inl (List.mem_append_right _ h1)
end Go.Proofs.YtbgfannlfagoiaaGreatDoor

namespace Go.Proofs.YtbgfannlfagoiaaGreatDoor
open Go.RowKit Go.Lull
set_option linter.unusedVariables false

theorem RE.setMark {w : World} {rb k : Nat} {c : RC} (h : RE w rb c) (hk : k < c.marks.length) (t : Int) : RE (w.setCell ⟨c.mg, k, none⟩ (.int .i64 t)) rb { c with marks := c.marks.set k t } := by
 have hn1 := List.nodup_cons.1 h.nd
 have hn2 := List.nodup_cons.1 hn1.2
 have hset : ∀ b, b ≠ c.mg → (w.setCell ⟨c.mg, k, none⟩ (.int .i64 t)).heap[b]? = w.heap[b]? := fun b hne => Below.heap_setCell _ _ _ _ hne
 have hrb : rb ≠ c.mg := fun e => hn1.1 (by rw [e]; exact List.mem_cons_self)
 have hwr : ∀ b ∈ c.qv.ownBlock.toList ++ c.cs.flatMap CR.blk, b ≠ c.mg := fun b hb e => hn2.1 (by rw [← e]; exact hb)
 have hrd : ∀ b ∈ c.rd, b ≠ c.mg := fun b hb e => h.ap b hb (by rw [e]; exact List.mem_cons_of_mem _ List.mem_cons_self)
 refine ⟨?_, ?_, h.waits.same (fun b hb => hset b (hrd b (by simp [RC.rd, hb]))), h.qrow.same (fun b hb => hset b (hwr b (by simp [hb]))), fun x hx => (h.qs x hx).same (by simp) (fun b hb => hset b ?_), h.nd, h.ap⟩
 ·rw [hset rb hrb, h.blk]
  simp [rCells]
 ·show (w.setCell _ _).heap[c.mg]? = _
  rw [heap_setCell_same w c.mg k _ _ _ h.marks]
  congr 1
  simp [List.map_set]
 ·rcases List.mem_append.1 hb with h1 | h1
  ·exact hwr b (List.mem_append_right _ (List.mem_flatMap.2 ⟨x, hx, h1⟩))
  ·rw [List.mem_singleton] at h1; subst h1; exact hrd _ (mem_rd hx)
/-- Beat, in the midst: j events are released. -/
structure BT (w wr : World) (rb : Nat) (c ck : RC) (ms : List Int) (j : Nat) : Prop where
 re : RE wr rb ck
 ext : Ext w (c.blocks rb) wr (ck.blocks rb)
 marks : ck.marks = ms
 waits : ck.waits = c.waits.drop j
 qs : ck.cs.map (·.q) = c.cs.map (fun x => { x.q with seen := x.q.seen ++ c.waits.take j })
 rest : ck.next = c.next ∧ ck.served = c.served ∧ ck.row = c.row
 le : j ≤ c.waits.length
 lt : ∀ e ∈ c.waits.take j, e.2.1 < Go.Lull.markB ms
theorem take_drop_while {p : Ev → Bool} : ∀ (l : List Ev) (j : Nat), j ≤ l.length → (∀ e ∈ l.take j, p e = true) → (∀ e, (l.drop j).head? = some e → p e = false) → l.take j = l.takeWhile p ∧ l.drop j = l.dropWhile p
 | l, 0, _, _, h => by
  cases l with
  | nil => exact ⟨rfl, rfl⟩
  | cons a r =>
   have := h a rfl
   rw [List.takeWhile_cons_of_neg (by simp [this]), List.dropWhile_cons_of_neg (by simp [this])]
   exact ⟨rfl, rfl⟩
 | [], j + 1, hl, _, _ => by simp at hl
 | a :: r, j + 1, hl, h1, h2 => by
  have ha := h1 a (by simp)
  obtain ⟨i1, i2⟩ := take_drop_while r j (by simpa using hl) (fun e he => h1 e (by simp [he])) (fun e he => h2 e (by simpa using he))
  rw [List.takeWhile_cons_of_pos ha, List.dropWhile_cons_of_pos ha, List.take_succ_cons, List.drop_succ_cons, i1, i2]
  exact ⟨rfl, rfl⟩
/-- When no event is left that may be released. -/
theorem BT.fin {w wr : World} {rb j src : Nat} {c ck : RC} {t : Int} (h : BT w wr rb c ck (c.marks.set src t) j) (hd : ∀ e, (c.waits.drop j).head? = some e → ¬ e.2.1 < Go.Lull.markB (c.marks.set src t)) : ck.abs = beatR c.abs src t := by
 obtain ⟨e1, e2⟩ := take_drop_while (p := fun e => decide (e.2.1 < Go.Lull.markB (c.marks.set src t))) c.waits j h.le (fun e he => by simpa using h.lt e he) (fun e he => by simpa using hd e he)
 unfold RC.abs beatR
 simp only [h.marks, h.waits, h.qs, h.rest.1, h.rest.2.1, h.rest.2.2, e2, List.map_map]
 congr 1
 refine List.map_congr_left (fun x _ => ?_)
 simp only [Function.comp, e1]
end Go.Proofs.YtbgfannlfagoiaaGreatDoor

namespace Go.Proofs.YtbgfannlfagoiaaGreatDoor
open Go.RowKit Go.Lull
set_option linter.unusedVariables false

/-- What Beat does. -/
def BeatR (w : World) (rb n : Nat) (c : RC) (src t : Int) (e : Ending) (w' : World) : Prop :=
 ∃ ck, e = .returned (.int .i64 ((beatE (eOf c.abs) src t).1 : Int)) ∧ (beatE (eOf c.abs) src t).2 = eOf ck.abs ∧ RE w' rb ck ∧ RSok n ck.abs ∧ Ext w (c.blocks rb) w' (ck.blocks rb)
theorem beat_no {w : World} {rb n : Nat} {c : RC} {src t : Int} (h : RE w rb c) (hr : RSok n c.abs) (k : Nat) (hb : beatE (eOf c.abs) src t = (k, eOf c.abs)) : BeatR w rb n c src t (.returned (.int .i64 (k : Int))) w :=
 ⟨c, by rw [hb], by rw [hb], h, hr, Ext.refl _ _⟩
/-- A row of events without its first. -/
theorem row_tail {w : World} {g off cap : Nat} {l : List Ev} (h : Row w 75 4 (.slice (some ⟨g, off, none⟩) l.length cap) l.length (l.flatMap evC)) (hl : 0 < l.length) (off' : Nat) (ho : cap = 1 ∨ off' = off + 4) (hc1 : cap = 1 → off' = off) :
  Row w 75 4 (.slice (some ⟨g, off', none⟩) (l.length - 1) (cap - 1)) (l.drop 1).length ((l.drop 1).flatMap evC) := by
 have hlen : (l.drop 1).length = l.length - 1 := by simp
 rcases h.2 with ⟨h1, h2⟩ | ⟨g', o', c', cur, h1, h2, h3, h4, h5, h6⟩
 ·omega
 ·obtain ⟨e1, _, e2⟩ := Value.slice.inj h1
  cases e1
  subst e2
  refine ⟨by rw [evC_len, hlen], Or.inr ⟨g, off', cap - 1, cur, by rw [hlen], h2, by omega, by omega, ?_, ?_⟩⟩
  ·by_cases h7 : cap = 1
   ·rw [hc1 h7]; omega
   ·rcases ho with h8 | h8
    ·exact absurd h8 h7
    ·rw [h8]; omega
  ·rw [hlen]
   by_cases h7 : l.length = 1
   ·have : l.drop 1 = [] := List.drop_eq_nil_of_le (by omega)
    rw [this, h7]; simp
   ·have h8 : off' = off + 4 := by
     rcases ho with h9 | h9
     ·omega
     ·exact h9
    obtain ⟨a, r, rfl⟩ : ∃ a r, l = a :: r := by cases l with
     | nil => simp at hl
     | cons a r => exact ⟨a, r, rfl⟩
    have h9 := congrArg (List.drop 4) h6
    rw [List.drop_take, List.drop_drop] at h9
    rw [h8]
    simp only [List.length_cons, List.drop_succ_cons, List.drop_zero] at h9 ⊢
    rw [show (r.length + 1 - 1) * 4 = (r.length + 1) * 4 - 4 by omega, h9, List.flatMap_cons]
    simp [evC]
/-- One event more is released. -/
theorem BT.next {w wo wr : World} {rb j : Nat} {c ck ci : RC} {ms : List Int} {e : Ev} {rest : List Ev} {v' : Value} (hT : BT w wo rb c ck ms j) (hre : RE wr rb ci) (hex : Ext wo (ck.blocks rb) wr (ci.blocks rb)) (hme : ci.marks = ck.marks) (hrest : ci.next = ck.next ∧ ci.served = ck.served ∧ ci.row = ck.row) (hqs : ci.cs.map (·.q) = ck.cs.map (fun x => { x.q with seen := x.q.seen ++ [e] })) (he : ck.waits = e :: rest) (hlt : e.2.1 < Go.Lull.markB ms)
  (hrow : Row wr 75 4 v' rest.length (rest.flatMap evC)) (hvb : ∀ b, v'.ownBlock = some b → b ∈ ci.rd) : BT w (wr.setCell ⟨rb, 1, none⟩ v') rb c { ci with wv := v', waits := rest } ms (j + 1) := by
 have hd : c.waits.drop j = e :: rest := by rw [← hT.waits]; exact he
 have hjl : j < c.waits.length := by
  rcases Nat.lt_or_ge j c.waits.length with h1 | h1
  ·exact h1
  ·rw [List.drop_eq_nil_of_le h1] at hd; cases hd
 have hj : c.waits[j] = e ∧ c.waits.drop (j + 1) = rest := by
  rw [List.drop_eq_getElem_cons hjl] at hd
  exact ⟨(List.cons.inj hd).1, (List.cons.inj hd).2⟩
 have htk : c.waits.take (j + 1) = c.waits.take j ++ [e] := by rw [List.take_succ_eq_append_getElem hjl, hj.1]
 have hrbm : rb ∈ ci.blocks rb := List.mem_append_left _ List.mem_cons_self
 have hx2 := hT.ext.trans hex
 refine ⟨hre.setWaits hrow (fun b hb => hre.ap b (hvb b hb)), ⟨?_, ?_⟩, hme.trans hT.marks, hj.2.symm, ?_, ⟨hrest.1.trans hT.rest.1, hrest.2.1.trans hT.rest.2.1, hrest.2.2.trans hT.rest.2.2⟩, hjl, ?_⟩
 ·exact hx2.fr.setCell (p := ⟨rb, 1, none⟩) (hx2.sub rb hrbm) _
 ·intro b hb
  rcases List.mem_append.1 hb with h1 | h1
  ·exact hx2.sub b (List.mem_append_left _ h1)
  ·rcases List.mem_append.1 h1 with h2 | h2
   ·exact hx2.sub b (List.mem_append_right _ (hvb b (by simpa using h2)))
   ·exact hx2.sub b (List.mem_append_right _ (List.mem_append_right _ h2))
 ·show ci.cs.map (·.q) = _
  rw [hqs, htk]
  have h1 := hT.qs
  have h2 := congrArg (List.map (fun q : RQ => ({ q with seen := q.seen ++ [e] } : RQ))) h1
  rw [List.map_map, List.map_map] at h2
  refine Eq.trans ?_ (h2.trans ?_)
  ·exact List.map_congr_left (fun x _ => rfl)
  ·exact List.map_congr_left (fun x _ => by simp [Function.comp])
 ·intro y hy
  rw [htk] at hy
  rcases List.mem_append.1 hy with h1 | h1
  ·exact hT.lt y h1
  ·rw [List.mem_singleton] at h1; rw [h1]; exact hlt
end Go.Proofs.YtbgfannlfagoiaaGreatDoor

namespace Go.Lull
set_option linter.unusedVariables false

/-! ### What is read is a pattern: the first step must come -/
theorem first_take {st st' : St} {l : List UInt8} (h : (st.1.getD 0 noStep).1 = false) (ht : takeB st l = some st') : (st'.1.getD 0 noStep).1 = false := by
 unfold takeB at ht
 split at ht
 ·split at ht
  ·split at ht
   ·cases ht
   ·cases ht; exact h
  ·split at ht
   ·split at ht
    ·rename_i x hx hm
     cases ht
     show ((st.1 ++ [x]).getD 0 noStep).1 = false
     cases hs : st.1 with
     | nil =>
      rw [hs] at hm
      simp [mayB, endB] at hm
      simp [hm]
     | cons a r => rw [hs] at h; simpa using h
    ·cases ht
   ·cases ht
 ·split at ht
  ·split at ht
   ·cases ht; exact h
   ·cases ht
  ·cases ht
theorem first_run : ∀ (ws : List (List UInt8)) {st st' : St} {p : Nat}, (st.1.getD 0 noStep).1 = false → runW st p ws = .inr st' → (st'.1.getD 0 noStep).1 = false
 | [], st, st', p, h, hr => by cases hr; exact h
 | l :: r, st, st', p, h, hr => by
  unfold runW at hr
  cases ht : takeB st l with
  | none => rw [ht] at hr; cases hr
  | some s2 => rw [ht] at hr; exact first_run r (first_take h ht) hr
theorem alt_row {l : List Stp} (h : altB l) (k : Nat) (hk : k + 1 < l.length) (h1 : (l.getD k noStep).1 = true) : (l.getD (k + 1) noStep).1 = false := by
 have h2 := altB_drop l k h
 rw [List.drop_eq_getElem_cons (by omega)] at h2
 have e1 : l.getD k noStep = l[k] := by simp [List.getD, show k < l.length by omega]
 have e2 : l.getD (k + 1) noStep = l[k + 1] := by simp [List.getD, hk]
 rw [e1] at h1
 rw [e2]
 refine h2.1 h1 _ ?_
 rw [List.drop_eq_getElem_cons hk]
 simp
theorem resB_vp {l : List UInt8} {st : St} (h : resB l = .inr st) : VP st.1 := by
 have hok := resB_ok h
 refine ⟨hok.1.some_ (by rw [hok.2]; decide), ?_, fun k hk h1 => alt_row hok.1.alt k hk h1⟩
 unfold resB at h
 split at h
 ·cases h
 ·split at h
  ·cases h
  ·rename_i s2 hs
   split at h
   ·cases h
    exact first_run _ rfl hs
   ·cases h
theorem resAll_vp : ∀ {ls : List (List UInt8)} {sts : List St}, resAll ls = .inr sts → ∀ st ∈ sts, VP st.1
 | [], sts, h, st, hs => by cases h; cases hs
 | l :: r, sts, h, st, hs => by
  cases hl : resB l with
  | inl p => rw [resAll_bad hl] at h; cases h
  | inr s1 =>
   rw [resAll_good hl] at h
   cases hr : resAll r with
   | inl p => rw [hr] at h; cases h
   | inr s2 =>
    rw [hr] at h; cases h
    rcases List.mem_cons.1 hs with rfl | hs
    ·exact resB_vp hl
    ·exact resAll_vp hr st hs
theorem newRQ_mem : ∀ (l : List St) (m : Nat) (q : RQ), q ∈ newRQ m l → (∃ st ∈ l, q.st = st.1 ∧ q.wn = st.2.1) ∧ q.seen = [] ∧ q.gone = 0 ∧ m ≤ q.id ∧ q.id < m + l.length
 | [], m, q, h => by cases h
 | s :: l, m, q, h => by
  rcases List.mem_cons.1 h with rfl | h
  ·exact ⟨⟨s, List.mem_cons_self, rfl, rfl⟩, rfl, rfl, Nat.le_refl _, by simp⟩
  ·obtain ⟨⟨st, h1, h2⟩, h3, h4, h5, h6⟩ := newRQ_mem l (m + 1) q h
   exact ⟨⟨st, List.mem_cons_of_mem _ h1, h2⟩, h3, h4, by omega, by simp only [List.length_cons]; omega⟩
theorem newRQ_pw : ∀ (l : List St) (m : Nat), (newRQ m l).Pairwise (fun a b => a.id < b.id)
 | [], m => List.Pairwise.nil
 | s :: l, m => List.pairwise_cons.2 ⟨fun q hq => by have := (newRQ_mem l (m + 1) q hq).2.2.2.1; show m < q.id; omega, newRQ_pw l (m + 1)⟩
theorem newRQ_snoc : ∀ (l : List St) (m : Nat) (s : St), newRQ m (l ++ [s]) = newRQ m l ++ [⟨m + l.length, s.1, s.2.1, [], 0⟩]
 | [], m, s => by simp [newRQ]
 | a :: l, m, s => by
  simp only [List.cons_append, newRQ, newRQ_snoc l (m + 1) s, List.length_cons]
  rw [show m + 1 + l.length = m + (l.length + 1) by omega]
theorem reg_rok {n : Nat} {r : RS} (hr : RSok n r) {ls : List (List UInt8)} {ps : List St} (hp : resAll ls = .inr ps) (hl : r.qs.length + ps.length ≤ 10) : RSok n (regR r ps) := by
 have hvp := resAll_vp hp
 have hok := resAll_ok hp
 refine ⟨hr.mne, hr.m8, hr.sb, hr.ge, hr.tm, ?_, hr.wl, ?_, ?_, ?_, hr.turn⟩
 ·intro q hq
  rcases List.mem_append.1 hq with h1 | h1
  ·exact hr.qs q h1
  ·obtain ⟨⟨st, hs, e1, e2⟩, e3, e4, _⟩ := newRQ_mem ps _ q h1
   refine ⟨⟨?_, ?_, ?_, ?_, ?_, ?_, ?_, ?_⟩, ?_⟩
   ·rw [e1]; exact hvp st hs
   ·rw [e1]; exact (hok st hs).1.len
   ·rw [e2]; exact (hok st hs).1.w0
   ·rw [e2]; exact (hok st hs).1.w1
   ·rw [e3]; exact List.Pairwise.nil
   ·rw [e3]; intro e he; cases he
   ·rw [e3]; intro e he; cases he
   ·rw [e4]; exact Nat.zero_le _
   ·rw [e3]; show 0 + r.waits.length ≤ n; have := hr.wl; omega
 ·show (r.qs ++ newRQ r.next ps).Pairwise _
  refine List.pairwise_append.2 ⟨hr.nr, newRQ_pw ps _, fun a ha b hb => ?_⟩
  have := hr.nx a ha
  have := (newRQ_mem ps _ b hb).2.2.2.1
  omega
 ·intro q hq
  show q.id < r.next + ps.length
  rcases List.mem_append.1 hq with h1 | h1
  ·have := hr.nx q h1; omega
  ·exact (newRQ_mem ps _ q h1).2.2.2.2
 ·show (r.qs ++ newRQ r.next ps).length ≤ 10
  rw [List.length_append, newRQ_len]; exact hl
end Go.Lull

namespace Go.Proofs.YtbgfannlfagoiaaGreatDoor
open Go.RowKit Go.Lull
set_option linter.unusedVariables false

/-! ### The document's patterns in memory -/
def ownStR (w : World) (base : Nat) (x : PT) : Prop := w.ownsRow base 174 4 (.slice (some ⟨x.1, 0, none⟩) x.2.2.1.length x.2.1) x.2.2.1.length (x.2.2.1.flatMap stepC)
structure PB (w : World) (base : Nat) (v : Value) (P : List PT) : Prop where
 row : w.ownsRow base 138 2 v P.length ((P.map toPat).flatMap patC)
 st : ∀ x ∈ P, ownStR w base x
theorem PB.nil (w : World) (base : Nat) : PB w base (.slice none 0 0) [] := ⟨World.ownsRow_nil _ _ _ _, by simp⟩
theorem flatS_at : ∀ (l : List Stp) (i k : Nat) (h : i < l.length), k < 4 → (l.flatMap stepC)[i * 4 + k]? = (stepC l[i])[k]?
 | x :: l, 0, k, h, hk => by
  rw [List.flatMap_cons, Nat.zero_mul, Nat.zero_add, List.getElem?_append_left (by simpa [stepC] using hk)]; rfl
 | x :: l, i + 1, k, h, hk => by
  have hl : (stepC x).length = 4 := rfl
  rw [List.flatMap_cons, List.getElem?_append_right (by rw [hl]; omega), hl, show (i + 1) * 4 + k - 4 = i * 4 + k by omega, flatS_at l i k (by simpa using h) hk]
  rfl
theorem SR.of_own {w : World} {base : Nat} {x : PT} (h : ownStR w base x) : SR w x.1 x.2.2.1 := by
 have hg : ∀ k, (hk : k < x.2.2.1.length) → x.2.2.1.getD k noStep = x.2.2.1[k] := fun k hk => by simp [List.getD, hk]
 refine ⟨own_lt h x.1 rfl, ?_, ?_, ?_, ?_⟩
 ·intro k hk
  rw [World.ownsRow.cellAt h (k * 4) (by omega), show k * 4 = k * 4 + 0 by omega, flatS_at _ k 0 hk (by omega), hg k hk]; rfl
 ·intro k hk
  rw [World.ownsRow.cellAt h (k * 4 + 1) (by omega), flatS_at _ k 1 hk (by omega), hg k hk]; rfl
 ·intro k hk
  rw [World.ownsRow.cellAt h (k * 4 + 2) (by omega), flatS_at _ k 2 hk (by omega), hg k hk]; rfl
 ·intro k hk
  rw [World.ownsRow.cellAt h (k * 4 + 3) (by omega), flatS_at _ k 3 hk (by omega), hg k hk]; rfl
theorem stepsR_cap {w : World} {base : Nat} {x : PT} (h : ownStR w base x) (hne : x.2.2.1 ≠ []) : x.2.2.1.length ≤ x.2.1 := by
 have hp := List.length_pos_iff.2 hne
 rcases h.2 with ⟨_, h0⟩ | ⟨g, cp, cur, h1, _, _, h4, _⟩
 ·omega
 ·obtain ⟨_, _, rfl⟩ := Value.slice.inj h1
  exact h4
theorem rparse_good2 (s : ByteArray) (w : World) (st : St) (h : resB s.data.toList = .inr st) :
  Calls Tryz.prog 93 #[.string s] w fun e w' => ∃ pg cap, e = .returned (.tuple #[.agg #[.slice (some ⟨pg, 0, none⟩) st.1.length cap, .int .i64 st.2.1], .int .i64 (-1)]) ∧ Below w.heap.size w w' ∧ w.heap.size ≤ pg ∧ Hid (ownStR w' w.heap.size (pg, cap, st)) := by
 have hc := rparse_any s w
 have hok := resB_ok h
 rw [h] at hc
 refine hc.mono ?_
 rintro e w' ⟨a, n, cap, wn, place, rfl, hB, rfl, rfl, rfl, hown⟩
 have hne : st.1 ≠ [] := hok.1.some_ (by rw [hok.2]; decide)
 have hpos : 0 < st.1.length := List.length_pos_iff.2 hne
 rcases hown.2 with ⟨_, h0⟩ | ⟨g, cp, cur, h1, h2, _⟩
 ·omega
 ·obtain ⟨rfl, _, rfl⟩ := Value.slice.inj h1
  exact ⟨g, cap, rfl, hB, h2, hown⟩
/-! ### One query more -/
def freshR (n qb : Nat) (x : PT) : CR := ⟨qb, x.1, x.2.1, 0, none, ⟨n, x.2.2.1, x.2.2.2.1, [], 0⟩⟩
theorem freshR_blk (n qb : Nat) (x : PT) : (freshR n qb x).blk = [qb] := by simp [freshR, CR.blk, Value.ownBlock]
theorem RE.add {w w2 : World} {rb g off cap : Nat} {c : RC} {x : PT} {o2 : Obj} (h : RE w rb c) (hst : SR w x.1 x.2.2.1) (hsc : x.2.2.1.length ≤ x.2.1) (hx : x.1 ∉ c.wr rb)
  (hr2 : Row w2 141 1 (.slice (some ⟨g, off, none⟩) (c.cs.length + 1) cap) (c.cs.length + 1) (c.cs.map rptrV ++ [.pointer (some ⟨w.heap.size, 0, none⟩)]))
  (hg2 : ((w.alloc (.cells (rqCells (freshR c.next w.heap.size x)) 140)).alloc o2).grownBy w2 c.qv.ownBlock) (hor : c.qv.ownBlock = some g ∨ g = w.heap.size + 2) :
  RE (w2.setCell ⟨rb, 2, none⟩ (.slice (some ⟨g, off, none⟩) (c.cs.length + 1) cap)) rb { c with qv := .slice (some ⟨g, off, none⟩) (c.cs.length + 1) cap, cs := c.cs ++ [freshR c.next w.heap.size x] } := by
 have hlt := h.lt
 obtain ⟨own, hownb⟩ : ∃ own, c.qv.ownBlock = own := ⟨_, rfl⟩
 rw [hownb] at hg2 hor
 obtain ⟨F, hF⟩ : ∃ F, c.cs.flatMap CR.blk = F := ⟨_, rfl⟩
 have hwr : c.wr rb = rb :: c.mg :: (own.toList ++ F) := by unfold RC.wr; rw [hownb, hF]
 have hn1 := List.nodup_cons.1 (by have := h.nd; rw [hwr] at this; exact this)
 have hn2 := List.nodup_cons.1 hn1.2
 have hn3 := List.nodup_append.1 hn2.2
 have hwlt : ∀ b ∈ c.wr rb, b < w.heap.size := fun b hb => hlt b (List.mem_append_left _ hb)
 have hrlt : ∀ b ∈ c.rd, b < w.heap.size := fun b hb => hlt b (List.mem_append_right _ hb)
 have holt : ∀ b, own = some b → b < w.heap.size := fun b hb => hwlt b (by rw [hwr]; simp [hb])
 have hgl : ∀ b, b < w.heap.size → own ≠ some b → w2.heap[b]? = w.heap[b]? := fun b hl hne => by
  rw [hg2.block b (by simp; omega) (fun e => hne e.symm), Below.heap_alloc _ _ _ (by simp; omega), Below.heap_alloc _ _ _ hl]
 have hnew : w2.heap[w.heap.size]? = some (.cells (rqCells (freshR c.next w.heap.size x)) 140 (0, 0)) := by
  rw [hg2.block _ (by simp; omega) (fun e => by have := holt _ e.symm; omega), Below.heap_alloc _ _ _ (by simp)]
  exact heap_alloc_new _ _
 have hset : ∀ b, b ≠ rb → (w2.setCell ⟨rb, 2, none⟩ (.slice (some ⟨g, off, none⟩) (c.cs.length + 1) cap)).heap[b]? = w2.heap[b]? := fun b hne => Below.heap_setCell _ _ _ _ hne
 have hrbl : rb < w.heap.size := hwlt rb (by rw [hwr]; simp)
 have hrbo : own ≠ some rb := fun e => hn1.1 (by simp [e])
 have hmgo : own ≠ some c.mg := fun e => hn2.1 (by simp [e])
 have hrbm : rb ≠ c.mg := fun e => hn1.1 (by simp [e])
 have hFk : ∀ b ∈ F, b < w.heap.size ∧ own ≠ some b ∧ b ≠ rb := fun b hb => by
  refine ⟨hwlt b (by rw [hwr]; simp [hb]), fun e => hn3.2.2 b (by simp [e]) b hb rfl, fun e => hn1.1 (by rw [← e]; simp [hb])⟩
 have hRk : ∀ b ∈ c.rd, b < w.heap.size ∧ own ≠ some b ∧ b ≠ rb := fun b hb => by
  refine ⟨hrlt b hb, fun e => h.ap b hb (by rw [hwr]; simp [e]), fun e => h.ap b hb (by rw [hwr]; simp [e])⟩
 have hxk : x.1 < w.heap.size ∧ own ≠ some x.1 ∧ x.1 ≠ rb := ⟨hst.lt, fun e => hx (by rw [hwr]; simp [e]), fun e => hx (by rw [hwr]; simp [e])⟩
 have hgF : ∀ b, b < w.heap.size → own ≠ some b → g ≠ b := fun b hl hne e => by
  rcases hor with h1 | h1
  ·exact hne (by rw [h1, e])
  ·omega
 have hgn : g ≠ w.heap.size := fun e => by
  rcases hor with h1 | h1
  ·have := holt _ h1; omega
  ·omega
 have hsz : w.heap.size ≤ w2.heap.size := by have := hg2.size; simp at this; omega
 have hwr' : ({ c with qv := .slice (some ⟨g, off, none⟩) (c.cs.length + 1) cap, cs := c.cs ++ [freshR c.next w.heap.size x] } : RC).wr rb = rb :: c.mg :: (g :: (F ++ [w.heap.size])) := by
  unfold RC.wr; simp only; rw [List.flatMap_append, hF, List.flatMap_cons, freshR_blk]; simp [Value.ownBlock]
 have hrd' : ({ c with qv := .slice (some ⟨g, off, none⟩) (c.cs.length + 1) cap, cs := c.cs ++ [freshR c.next w.heap.size x] } : RC).rd = c.rd ++ [x.1] := by
  unfold RC.rd; simp [freshR]
 refine ⟨?_, ?_, h.waits.same (fun b hb => ?_), ?_, ?_, ?_, ?_⟩
 ·have hb1 : w2.heap[rb]? = some (.cells (rCells c) 107 (0, 0)) := by rw [hgl rb hrbl hrbo]; exact h.blk
  rw [heap_setCell_same w2 rb 2 _ _ _ hb1]
  simp [rCells]
 ·show (w2.setCell _ _).heap[c.mg]? = _
  rw [hset c.mg (fun e => hrbm e.symm), hgl c.mg (hwlt c.mg (by rw [hwr]; simp)) hmgo]; exact h.marks
 ·have h1 := hRk b (by simp [RC.rd, hb])
  rw [hset b h1.2.2, hgl b h1.1 h1.2.1]
 ·have e1 : (c.cs ++ [freshR c.next w.heap.size x]).length = c.cs.length + 1 := by simp
  have e2 : (c.cs ++ [freshR c.next w.heap.size x]).map (fun x : CR => Value.pointer (some ⟨x.qb, 0, none⟩)) = c.cs.map rptrV ++ [.pointer (some ⟨w.heap.size, 0, none⟩)] := by simp [freshR]; exact fun a _ => rfl
  show Row _ _ 1 (.slice (some ⟨g, off, none⟩) (c.cs.length + 1) cap) (c.cs ++ [freshR c.next w.heap.size x]).length ((c.cs ++ [freshR c.next w.heap.size x]).map _)
  rw [e1, e2]
  refine hr2.same (fun b hb => hset b (fun e => ?_))
  have hb' : g = b := Option.some.inj hb
  exact hgF rb hrbl hrbo (by rw [hb', e])
 ·intro y hy
  rcases List.mem_append.1 hy with h1 | h1
  ·refine (h.qs y h1).same (by simpa using hsz) (fun b hb => ?_)
   have hk : b < w.heap.size ∧ own ≠ some b ∧ b ≠ rb := by
    rcases List.mem_append.1 hb with h2 | h2
    ·exact hFk b (by rw [← hF]; exact List.mem_flatMap.2 ⟨y, h1, h2⟩)
    ·rw [List.mem_singleton] at h2; rw [h2]; exact hRk _ (mem_rd h1)
   rw [hset b hk.2.2, hgl b hk.1 hk.2.1]
  ·rw [List.mem_singleton] at h1; subst h1
   refine ⟨?_, hst.same (by simpa using hsz) ?_, hsc, World.ownsRow_nil _ _ _ _⟩
   ·show (w2.setCell _ _).heap[w.heap.size]? = _
    rw [hset _ (by omega)]; exact hnew
   ·show (w2.setCell _ _).heap[x.1]? = _
    rw [hset _ hxk.2.2, hgl _ hxk.1 hxk.2.1]
 ·rw [hwr']
  refine List.nodup_cons.2 ⟨?_, List.nodup_cons.2 ⟨?_, List.nodup_cons.2 ⟨?_, List.nodup_append.2 ⟨hn3.2.1, by simp, ?_⟩⟩⟩⟩
  ·intro hm
   rcases List.mem_cons.1 hm with h1 | h1
   ·exact hrbm h1
   ·rcases List.mem_cons.1 h1 with h2 | h2
    ·exact hgF rb hrbl hrbo h2.symm
    ·rcases List.mem_append.1 h2 with h3 | h3
     ·exact (hFk rb h3).2.2 rfl
     ·rw [List.mem_singleton] at h3; omega
  ·intro hm
   rcases List.mem_cons.1 hm with h2 | h2
   ·exact hgF c.mg (hwlt c.mg (by rw [hwr]; simp)) hmgo h2.symm
   ·rcases List.mem_append.1 h2 with h3 | h3
    ·exact hn2.1 (by simp [h3])
    ·rw [List.mem_singleton] at h3
     have := hwlt c.mg (by rw [hwr]; simp)
     omega
  ·intro hm
   rcases List.mem_append.1 hm with h3 | h3
   ·exact hgF g (hFk g h3).1 (hFk g h3).2.1 rfl
   ·rw [List.mem_singleton] at h3; exact hgn h3
  ·intro a ha b hb e
   rw [List.mem_singleton] at hb
   have := (hFk a ha).1
   omega
 ·rw [hrd', hwr']
  have key : ∀ b, b < w.heap.size ∧ own ≠ some b ∧ b ≠ rb → b ∉ c.wr rb → b ∉ (rb :: c.mg :: (g :: (F ++ [w.heap.size]))) := by
   intro b hk hnw hm
   rcases List.mem_cons.1 hm with h1 | h1
   ·exact hk.2.2 h1
   ·rcases List.mem_cons.1 h1 with h2 | h2
    ·exact hnw (by rw [hwr, h2]; simp)
    ·rcases List.mem_cons.1 h2 with h3 | h3
     ·exact hgF b hk.1 hk.2.1 h3.symm
     ·rcases List.mem_append.1 h3 with h4 | h4
      ·exact hnw (by rw [hwr]; simp [h4])
      ·rw [List.mem_singleton] at h4; omega
  intro b hb
  rcases List.mem_append.1 hb with h1 | h1
  ·exact key b (hRk b h1) (h.ap b h1)
  ·rw [List.mem_singleton] at h1; rw [h1]; exact key x.1 hxk hx
theorem RE.setNext {w : World} {rb : Nat} {c : RC} (h : RE w rb c) (n : Nat) : RE (w.setCell ⟨rb, 3, none⟩ (.int .i64 n)) rb { c with next := n } := by
 have hn1 := List.nodup_cons.1 h.nd
 have hset : ∀ b, b ≠ rb → (w.setCell ⟨rb, 3, none⟩ (.int .i64 n)).heap[b]? = w.heap[b]? := fun b hne => Below.heap_setCell _ _ _ _ hne
 have hwr : ∀ b ∈ c.mg :: (c.qv.ownBlock.toList ++ c.cs.flatMap CR.blk), b ≠ rb := fun b hb e => hn1.1 (by rw [← e]; exact hb)
 have hrd : ∀ b ∈ c.rd, b ≠ rb := fun b hb e => h.ap b hb (by rw [e]; exact List.mem_cons_self)
 refine ⟨?_, ?_, h.waits.same (fun b hb => hset b (hrd b (by simp [RC.rd, hb]))), h.qrow.same (fun b hb => hset b (hwr b (by simp [hb]))), fun x hx => (h.qs x hx).same (by simp) (fun b hb => hset b ?_), h.nd, h.ap⟩
 ·rw [heap_setCell_same w rb 3 _ _ _ h.blk]
  simp [rCells]
 ·show (w.setCell _ _).heap[c.mg]? = _
  rw [hset c.mg (hwr c.mg List.mem_cons_self)]; exact h.marks
 ·rcases List.mem_append.1 hb with h1 | h1
  ·exact hwr b (List.mem_cons_of_mem _ (List.mem_append_right _ (List.mem_flatMap.2 ⟨x, hx, h1⟩)))
  ·rw [List.mem_singleton] at h1; subst h1; exact hrd _ (mem_rd hx)
end Go.Proofs.YtbgfannlfagoiaaGreatDoor
