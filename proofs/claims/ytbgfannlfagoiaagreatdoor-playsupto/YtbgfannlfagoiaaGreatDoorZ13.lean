import Derived.Test.YtbgfannlfagoiaaGreatDoorZ12
import Derived.Test.YtbgfannlfagoiaaGreatDoorZ11
import Derived.Deep.QuietTactic
import Derived.BigQuiet
namespace Go.Proofs.YtbgfannlfagoiaaGreatDoor
open Go.RowKit Go.Lull
set_option linter.unusedVariables false

/-- A query as it lies in memory. -/
structure CQ where
 num : Nat
 st : List Stp
 wn : Int
 pg : Nat
 pc : Nat
 vr : Value
 rs : List (Rn × Value)
 vf : Value
 fs : List (Mt × Value)
def CQ.abs (c : CQ) : Qy := ⟨c.num, c.st, c.wn, c.rs.map Prod.fst, c.fs.map Prod.fst⟩
def runC (pg len pc : Nat) (x : Rn × Value) : List Value := [.int .i64 x.1.dl, x.2, .slice (some ⟨pg, x.1.k, none⟩) (len - x.1.k) (pc - x.1.k)]
def matC (x : Mt × Value) : List Value := [.int .i64 x.1.q, .int .i64 x.1.cl, x.2]
def rp (x : Rn × Value) : List Ev × Value := (x.1.tk, x.2)
def fp (x : Mt × Value) : List Ev × Value := (x.1.evs, x.2)
def CQ.evl (c : CQ) : EL := c.rs.map rp ++ c.fs.map fp
def CQ.base (c : CQ) (qb : Nat) : List Nat := c.vf.ownBlock.toList ++ (c.vr.ownBlock.toList ++ [qb, c.pg])
def CQ.blocks (c : CQ) (qb : Nat) : List Nat := c.base qb ++ eblk c.evl
def ROk (st : List Stp) (r : Rn) : Prop := 1 ≤ r.k ∧ r.k < st.length ∧ r.tk.length ≤ r.k ∧ 0 ≤ r.dl ∧ r.dl ≤ 1001000
structure QOk (c : CQ) : Prop where
 s1 : 1 ≤ c.st.length
 s8 : c.st.length ≤ 8
 pc : c.st.length ≤ c.pc
 alt : altB c.st
 w0 : 0 ≤ c.wn
 w1 : c.wn ≤ 1000
 rok : ∀ x ∈ c.rs, ROk c.st x.1
def qCells (c : CQ) (vr vf : Value) : Array Value := #[.int .i64 c.num, .slice (some ⟨c.pg, 0, none⟩) c.st.length c.pc, .int .i64 c.wn, vr, vf]
structure QY (w : World) (qb : Nat) (c : CQ) : Prop where
 blk : w.heap[qb]? = some (.cells (qCells c c.vr c.vf) 166 (0, 0))
 stp : ST w c.pg 0 c.st
 runs : Row w 193 3 c.vr c.rs.length (c.rs.flatMap (runC c.pg c.st.length c.pc))
 found : Row w 58 3 c.vf c.fs.length (c.fs.flatMap matC)
 own : OWN w (c.base qb) c.evl
 ok : QOk c

theorem ST.same {w w' : World} {pg k : Nat} {l : List Stp} (h : ST w pg k l) (hb : w'.heap[pg]? = w.heap[pg]?) : ST w' pg k l :=
 fun i hi => (World.cell?_of_block (a := ⟨pg, k + i, none⟩) hb).trans (h i hi)
theorem ST.drop {w : World} {pg : Nat} {l : List Stp} (h : ST w pg 0 l) (k : Nat) : ST w pg k (l.drop k) := by
 intro i hi
 simp only [List.length_drop] at hi
 have := h (k + i) (by omega)
 rw [Nat.zero_add] at this
 rw [this, List.getElem_drop]

theorem QY.same {w w' : World} {qb : Nat} {c : CQ} (h : QY w qb c) (hz : w.heap.size ≤ w'.heap.size) (he : ∀ b ∈ c.blocks qb, w'.heap[b]? = w.heap[b]?) : QY w' qb c := by
 have hb : ∀ b ∈ c.base qb, w'.heap[b]? = w.heap[b]? := fun b hb => he b (List.mem_append_left _ hb)
 refine ⟨?_, h.stp.same (hb c.pg (by simp [CQ.base])), h.runs.same (fun k hk => hb k (by simp [CQ.base, hk])), h.found.same (fun k hk => hb k (by simp [CQ.base, hk])), h.own.same hz (fun b hm => he b (List.mem_append_right _ hm)), h.ok⟩
 rw [hb qb (by simp [CQ.base])]
 exact h.blk
theorem QY.lt {w : World} {qb : Nat} {c : CQ} (h : QY w qb c) : ∀ b ∈ c.blocks qb, b < w.heap.size := by
 intro b hb
 rcases List.mem_append.1 hb with hb | hb
 ·exact h.own.lt b hb
 ·exact h.own.elt hb
theorem QY.fr {F : List Nat} {w w' : World} {qb : Nat} {c : CQ} (h : QY w qb c) (hf : Fr F w w') (hn : ∀ b ∈ F, b ∉ c.blocks qb) : QY w' qb c :=
 h.same hf.size (fun b hb => hf.block b (h.lt b hb) (fun hF => hn b hF hb))

theorem runC_len (pg len pc : Nat) (l : List (Rn × Value)) : (l.flatMap (runC pg len pc)).length = l.length * 3 := by
 induction l with
 | nil => rfl
 | cons x l ih => simp [List.flatMap_cons, runC, ih]; omega
theorem matC_len (l : List (Mt × Value)) : (l.flatMap matC).length = l.length * 3 := by
 induction l with
 | nil => rfl
 | cons x l ih => simp [List.flatMap_cons, matC, ih]; omega
theorem flat3_at {α : Type} (f : α → List Value) (hf : ∀ x, (f x).length = 3) : ∀ (l : List α) (i k : Nat) (h : i < l.length), k < 3 → (l.flatMap f)[i * 3 + k]? = (f l[i])[k]?
 | x :: l, 0, k, h, hk => by
  rw [List.flatMap_cons, Nat.zero_mul, Nat.zero_add, List.getElem?_append_left (by rw [hf]; exact hk)]
  rfl
 | x :: l, i + 1, k, h, hk => by
  rw [List.flatMap_cons, List.getElem?_append_right (by rw [hf]; omega), hf, show (i + 1) * 3 + k - 3 = i * 3 + k by omega]
  exact flat3_at f hf l i k (by simpa using h) hk

/-- show, in the midst of its runs. -/
structure SH (w0 w : World) (qb N g off cap : Nat) (cur : List Value) (c : CQ) (e : Ev) (i : Nat) (on : List (Rn × Value)) (told : List (Mt × Value)) (vf : Value) : Prop where
 blk : w.heap[qb]? = some (.cells (qCells c (.slice (some ⟨g, off, none⟩) c.rs.length cap) vf) 166 (0, 0))
 stp : ST w c.pg 0 c.st
 cells : w.heap[g]? = some (.cells (cur.take off ++ on.flatMap (runC c.pg c.st.length c.pc) ++ cur.drop (off + on.length * 3)).toArray 193 (0, 0))
 found : Row w 58 3 vf (c.fs.length + told.length) ((c.fs ++ told).flatMap matC)
 own : OWN w (vf.ownBlock.toList ++ [N, g, qb, c.pg]) ((on ++ c.rs.drop i).map rp ++ (c.fs ++ told).map fp)
 box : w.heap[N]? = some (.cells (evC e).toArray 75 (0, 0))
 fr : Fr (c.blocks qb) w0 w
 sub : ∀ b, (vf.ownBlock = some b ∨ b ∈ eblk ((on ++ c.rs.drop i).map rp ++ (c.fs ++ told).map fp)) → b ∈ c.blocks qb ∨ w0.heap.size ≤ b
 le : on.length ≤ i
 hi : i ≤ c.rs.length
 aon : on.map Prod.fst = ((c.rs.take i).map Prod.fst).filterMap (keep1 c.st e)
 ato : told.map Prod.fst = ((c.rs.take i).map Prod.fst).filterMap (told1 c.num c.st e)
 ook : ∀ x ∈ on, ROk c.st x.1
 gin : g ∈ c.blocks qb

/-- What is fixed of the runs' block. -/
structure CUR (cur : List Value) (off cap : Nat) (c : CQ) : Prop where
 len : off + cap * 3 ≤ cur.length
 cap : c.rs.length ≤ cap
 runs : (cur.drop off).take (c.rs.length * 3) = c.rs.flatMap (runC c.pg c.st.length c.pc)

section
variable {w0 w w1 w' : World} {qb N g off cap : Nat} {cur : List Value} {c : CQ} {e : Ev} {i : Nat} {on : List (Rn × Value)} {told : List (Mt × Value)} {vf : Value} {F : List Nat}

theorem SH.run (h : SH w0 w qb N g off cap cur c e i on told vf) (hc : CUR cur off cap c) (hi : i < c.rs.length) : ∀ k, k < 3 → w.cell? ⟨g, off + i * 3 + k, none⟩ = (runC c.pg c.st.length c.pc c.rs[i])[k]? := by
 intro k hk
 have hle := h.le
 have hlen := hc.len
 have hcap := hc.cap
 rw [cell_of_row w g _ _ _ _ h.cells]
 have h0 : (cur.take off ++ on.flatMap (runC c.pg c.st.length c.pc)).length = off + on.length * 3 := by
  rw [List.length_append, runC_len, List.length_take]
  omega
 simp only [List.getElem?_toArray]
 rw [List.getElem?_append_right (by rw [h0]; omega), h0, List.getElem?_drop, show off + on.length * 3 + (off + i * 3 + k - (off + on.length * 3)) = off + (i * 3 + k) by omega, ← List.getElem?_drop]
 rw [← flat3_at (runC c.pg c.st.length c.pc) (fun _ => rfl) c.rs i k hi hk, ← hc.runs, List.getElem?_take_of_lt (by omega)]

theorem keep_step {r : Rn} (hi : i < c.rs.length) (hr : c.rs[i].1 = r) {o : Option Rn} (hk : keep1 c.st e r = o) : ((c.rs.take (i + 1)).map Prod.fst).filterMap (keep1 c.st e) = ((c.rs.take i).map Prod.fst).filterMap (keep1 c.st e) ++ o.toList := by
 rw [List.take_succ_eq_append_getElem hi, List.map_append, List.filterMap_append]
 congr 1
 simp only [List.map_cons, List.map_nil, List.filterMap_cons, List.filterMap_nil, hr, hk]
 cases o <;> rfl
theorem told_step {r : Rn} (hi : i < c.rs.length) (hr : c.rs[i].1 = r) {o : Option Mt} (hk : told1 c.num c.st e r = o) : ((c.rs.take (i + 1)).map Prod.fst).filterMap (told1 c.num c.st e) = ((c.rs.take i).map Prod.fst).filterMap (told1 c.num c.st e) ++ o.toList := by
 rw [List.take_succ_eq_append_getElem hi, List.map_append, List.filterMap_append]
 congr 1
 simp only [List.map_cons, List.map_nil, List.filterMap_cons, List.filterMap_nil, hr, hk]
 cases o <;> rfl

/-- The run that is shown the event, ahead of all others. -/
theorem SH.front (h : SH w0 w qb N g off cap cur c e i on told vf) (hi : i < c.rs.length) :
  ((on ++ c.rs.drop i).map rp ++ (c.fs ++ told).map fp).Perm (rp c.rs[i] :: ((on ++ c.rs.drop (i + 1)).map rp ++ (c.fs ++ told).map fp)) := by
 obtain ⟨Z, hZ⟩ : ∃ Z, (c.fs ++ told).map fp = Z := ⟨_, rfl⟩
 rw [hZ, List.drop_eq_getElem_cons hi]
 simp only [List.map_append, List.map_cons]
 rw [← List.cons_append]
 exact List.Perm.append_right _ List.perm_middle

/-- It is over. -/
theorem SH.fails (h : SH w0 w qb N g off cap cur c e i on told vf) (hi : i < c.rs.length) (hf : Fr F w w') (hF : ∀ b ∈ F, w.heap.size ≤ b ∨ c.rs[i].2.ownBlock = some b) (hk : keep1 c.st e c.rs[i].1 = none) (ht : told1 c.num c.st e c.rs[i].1 = none) :
  SH w0 w' qb N g off cap cur c e (i + 1) on told vf := by
 have hown := h.own.perm (h.front hi)
 have hnb : ∀ b ∈ F, b < w.heap.size → b ∉ vf.ownBlock.toList ++ [N, g, qb, c.pg] ∧ b ∉ eblk ((on ++ c.rs.drop (i + 1)).map rp ++ (c.fs ++ told).map fp) := by
  intro b hb hlt
  have hx := (hF b hb).resolve_left (Nat.not_le.2 hlt)
  have hnd := hown.nd
  rw [eblk_cons] at hnd
  have : (rp c.rs[i]).2.ownBlock = some b := hx
  rw [this, Option.toList_some] at hnd
  have h2 := List.nodup_cons.1 ((List.perm_middle (a := b) (l₁ := vf.ownBlock.toList ++ [N, g, qb, c.pg]) (l₂ := eblk ((on ++ c.rs.drop (i + 1)).map rp ++ (c.fs ++ told).map fp))).nodup_iff.1 hnd)
  exact ⟨fun hm => h2.1 (List.mem_append_left _ hm), fun hm => h2.1 (List.mem_append_right _ hm)⟩
 have hbl : ∀ b, b ∈ vf.ownBlock.toList ++ [N, g, qb, c.pg] → w'.heap[b]? = w.heap[b]? := fun b hb => hf.block b (h.own.lt b hb) (fun hF' => (hnb b hF' (h.own.lt b hb)).1 hb)
 refine ⟨by rw [hbl qb (by simp)]; exact h.blk, h.stp.same (hbl c.pg (by simp)), by rw [hbl g (by simp)]; exact h.cells, h.found.same (fun k hk => hbl k (by simp [hk])), ?_, by rw [hbl N (by simp)]; exact h.box, ?_, ?_, Nat.le_succ_of_le h.le, hi, ?_, ?_, h.ook, h.gin⟩
 ·exact hown.tail.fr hf (fun b hb hm => (hnb b hb (hown.tail.elt hm)).2 hm)
 ·refine h.fr.trans' hf (fun b hb => ?_)
  rcases hF b hb with hx | hx
  ·exact Or.inr (Nat.le_trans h.fr.size hx)
  ·exact h.sub b (Or.inr ((eblk_perm (h.front hi)).mem_iff.2 (mem_eblk.2 ⟨rp c.rs[i], List.mem_cons_self, hx⟩)))
 ·intro b hb
  refine h.sub b (hb.imp id (fun hm => (eblk_perm (h.front hi)).mem_iff.2 ?_))
  rw [eblk_cons]
  exact List.mem_append_right _ hm
 ·rw [keep_step hi rfl hk, h.aon]; simp
 ·rw [told_step hi rfl ht, h.ato]; simp

/-- It goes on. -/
theorem SH.kept {x : Rn × Value} (h : SH w0 w qb N g off cap cur c e i on told vf) (hc : CUR cur off cap c) (hi : i < c.rs.length) (hf : Fr F w w1) (hF : ∀ b ∈ F, w.heap.size ≤ b ∨ c.rs[i].2.ownBlock = some b)
  (hx : EvR w1 x.2 x.1.tk) (hxb : ∀ b, x.2.ownBlock = some b → c.rs[i].2.ownBlock = some b ∨ w.heap.size ≤ b) (hok : ROk c.st x.1)
  (hk : keep1 c.st e c.rs[i].1 = some x.1) (ht : told1 c.num c.st e c.rs[i].1 = none) :
  SH w0 (w1.setCells g (off + on.length * 3) (runC c.pg c.st.length c.pc x)) qb N g off cap cur c e (i + 1) (on ++ [x]) told vf := by
 have hown := h.own.perm (h.front hi)
 have hnb : ∀ b ∈ F, b ∉ vf.ownBlock.toList ++ [N, g, qb, c.pg] ∧ b ∉ eblk ((on ++ c.rs.drop (i + 1)).map rp ++ (c.fs ++ told).map fp) := by
  intro b hb
  rcases hF b hb with hge | hx
  ·exact ⟨fun hm => absurd (h.own.lt b hm) (Nat.not_lt.2 hge), fun hm => absurd (hown.tail.elt hm) (Nat.not_lt.2 hge)⟩
  have hnd := hown.nd
  rw [eblk_cons] at hnd
  have : (rp c.rs[i]).2.ownBlock = some b := hx
  rw [this, Option.toList_some] at hnd
  have h2 := List.nodup_cons.1 ((List.perm_middle (a := b) (l₁ := vf.ownBlock.toList ++ [N, g, qb, c.pg]) (l₂ := eblk ((on ++ c.rs.drop (i + 1)).map rp ++ (c.fs ++ told).map fp))).nodup_iff.1 hnd)
  exact ⟨fun hm => h2.1 (List.mem_append_left _ hm), fun hm => h2.1 (List.mem_append_right _ hm)⟩
 have hbl : ∀ b, b ∈ vf.ownBlock.toList ++ [N, g, qb, c.pg] → w1.heap[b]? = w.heap[b]? := fun b hb => hf.block b (h.own.lt b hb) (fun hF' => (hnb b hF').1 hb)
 have hle := h.le
 have hlen := hc.len
 have hcap := hc.cap
 have hng : ∀ b, b ∈ vf.ownBlock.toList ++ [N, qb, c.pg] → b ≠ g := by
  intro b hb e
  subst e
  have hnd := (List.nodup_append.1 h.own.nd).1
  have hp : (vf.ownBlock.toList ++ [N, b, qb, c.pg]).Perm (b :: (vf.ownBlock.toList ++ [N, qb, c.pg])) :=
   (List.Perm.append_left _ (List.Perm.swap b N _)).trans List.perm_middle
  exact (List.nodup_cons.1 (hp.nodup_iff.1 hnd)).1 hb
 have hset : ∀ b, b ≠ g → (w1.setCells g (off + on.length * 3) (runC c.pg c.st.length c.pc x)).heap[b]? = w1.heap[b]? := fun b hb => setCells_other g hb _ _ _
 have hown1 : OWN w1 (vf.ownBlock.toList ++ [N, g, qb, c.pg]) (rp x :: ((on ++ c.rs.drop (i + 1)).map rp ++ (c.fs ++ told).map fp)) := hown.replace hf hnb hx hxb
 have hgne : ∀ b ∈ eblk (rp x :: ((on ++ c.rs.drop (i + 1)).map rp ++ (c.fs ++ told).map fp)), b ≠ g := fun b hb e => by subst e; exact hown1.disj (by simp) hb
 have hperm : (rp x :: ((on ++ c.rs.drop (i + 1)).map rp ++ (c.fs ++ told).map fp)).Perm ((on ++ [x] ++ c.rs.drop (i + 1)).map rp ++ (c.fs ++ told).map fp) := by
  obtain ⟨Z, hZ⟩ : ∃ Z, (c.fs ++ told).map fp = Z := ⟨_, rfl⟩
  rw [hZ, List.append_assoc on [x]]
  simp only [List.map_append, List.map_cons, List.singleton_append]
  rw [← List.cons_append]
  exact List.Perm.append_right _ List.perm_middle.symm
 refine ⟨?_, ?_, ?_, ?_, ?_, ?_, ?_, ?_, ?_, hi, ?_, ?_, ?_, h.gin⟩
 ·rw [hset qb (hng qb (by simp)), hbl qb (by simp)]; exact h.blk
 ·exact h.stp.same (by rw [hset c.pg (hng c.pg (by simp)), hbl c.pg (by simp)])
 ·have hcells : w1.heap[g]? = some (.cells (cur.take off ++ on.flatMap (runC c.pg c.st.length c.pc) ++ cur.drop (off + on.length * 3)).toArray 193 (0, 0)) := by rw [hbl g (by simp)]; exact h.cells
  have h0 : (cur.take off ++ on.flatMap (runC c.pg c.st.length c.pc)).length = off + on.length * 3 := by
   rw [List.length_append, runC_len, List.length_take]
   omega
  rw [heap_setCells_same g _ _ _ _ _ hcells (by rw [List.length_append, h0, List.length_drop]; simp [runC]; omega)]
  congr 3
  rw [List.take_append_of_le_length (by rw [h0]; exact Nat.le_refl _), List.take_of_length_le (by rw [h0]; exact Nat.le_refl _), List.drop_append, h0]
  rw [List.drop_of_length_le (by rw [h0]; omega), List.nil_append, List.drop_drop, List.flatMap_append, List.length_append]
  simp only [List.flatMap_cons, List.flatMap_nil, List.append_nil, List.append_assoc, List.length_cons, List.length_nil]
  congr 3
  congr 1
  simp [runC]
  omega
 ·exact h.found.same (fun k hk => by rw [hset k (hng k (by simp [hk])), hbl k (by simp [hk])])
 ·exact (hown1.perm hperm).same (by rw [setCells_size]; exact Nat.le_refl _) (fun b hb => hset b (hgne b ((eblk_perm hperm).mem_iff.2 hb)))
 ·rw [hset N (hng N (by simp)), hbl N (by simp)]; exact h.box
 ·have h1 : Fr (c.blocks qb) w0 w1 := h.fr.trans' hf (fun b hb => by
   rcases hF b hb with hx | hx
   ·exact Or.inr (Nat.le_trans h.fr.size hx)
   ·exact h.sub b (Or.inr ((eblk_perm (h.front hi)).mem_iff.2 (mem_eblk.2 ⟨rp c.rs[i], List.mem_cons_self, hx⟩))))
  exact h1.setCells (Or.inl h.gin) _ _
 ·intro b hb
  have hold : ∀ b, b ∈ eblk ((on ++ c.rs.drop (i + 1)).map rp ++ (c.fs ++ told).map fp) → b ∈ c.blocks qb ∨ w0.heap.size ≤ b := fun b hm =>
   h.sub b (Or.inr ((eblk_perm (h.front hi)).mem_iff.2 (by rw [eblk_cons]; exact List.mem_append_right _ hm)))
  rcases hb with hb | hb
  ·exact h.sub b (Or.inl hb)
  ·have hm := (eblk_perm hperm).mem_iff.2 hb
   rw [eblk_cons] at hm
   rcases List.mem_append.1 hm with hm | hm
   ·have hxb' : x.2.ownBlock = some b := by simpa [rp] using hm
    rcases hxb b hxb' with h1 | h1
    ·exact h.sub b (Or.inr ((eblk_perm (h.front hi)).mem_iff.2 (mem_eblk.2 ⟨rp c.rs[i], List.mem_cons_self, h1⟩)))
    ·exact Or.inr (Nat.le_trans h.fr.size h1)
   ·exact hold b hm
 ·simp; exact h.le
 ·rw [keep_step hi rfl hk, List.map_append, h.aon]; simp
 ·rw [told_step hi rfl ht, h.ato]; simp
 ·intro y hy
  rcases List.mem_append.1 hy with hy | hy
  ·exact h.ook y hy
  ·rw [List.mem_singleton.1 hy]; exact hok

/-- It is a match. -/
theorem SH.tell {x : Mt × Value} {vf' : Value} (h : SH w0 w qb N g off cap cur c e i on told vf) (hi : i < c.rs.length) (hf : Fr F w w1) (hF : ∀ b ∈ F, w.heap.size ≤ b ∨ c.rs[i].2.ownBlock = some b)
  (hx : EvR w1 x.2 x.1.evs) (hxb : ∀ b, x.2.ownBlock = some b → c.rs[i].2.ownBlock = some b ∨ w.heap.size ≤ b)
  (hk : keep1 c.st e c.rs[i].1 = none) (ht : told1 c.num c.st e c.rs[i].1 = some x.1)
  (hb2 : w'.heap[qb]? = some (.cells (qCells c (.slice (some ⟨g, off, none⟩) c.rs.length cap) vf') 166 (0, 0)))
  (hr2 : Row w' 58 3 vf' (c.fs.length + told.length + 1) ((c.fs ++ told).flatMap matC ++ matC x)) (hf2 : Fr (qb :: vf.ownBlock.toList) w1 w') (hv2 : ∀ b, vf'.ownBlock = some b → vf.ownBlock = some b ∨ w1.heap.size ≤ b) :
  SH w0 w' qb N g off cap cur c e (i + 1) on (told ++ [x]) vf' := by
 have hown := h.own.perm (h.front hi)
 have hnb : ∀ b ∈ F, b ∉ vf.ownBlock.toList ++ [N, g, qb, c.pg] ∧ b ∉ eblk ((on ++ c.rs.drop (i + 1)).map rp ++ (c.fs ++ told).map fp) := by
  intro b hb
  rcases hF b hb with hge | hx
  ·exact ⟨fun hm => absurd (h.own.lt b hm) (Nat.not_lt.2 hge), fun hm => absurd (hown.tail.elt hm) (Nat.not_lt.2 hge)⟩
  have hnd := hown.nd
  rw [eblk_cons] at hnd
  have : (rp c.rs[i]).2.ownBlock = some b := hx
  rw [this, Option.toList_some] at hnd
  have h2 := List.nodup_cons.1 ((List.perm_middle (a := b) (l₁ := vf.ownBlock.toList ++ [N, g, qb, c.pg]) (l₂ := eblk ((on ++ c.rs.drop (i + 1)).map rp ++ (c.fs ++ told).map fp))).nodup_iff.1 hnd)
  exact ⟨fun hm => h2.1 (List.mem_append_left _ hm), fun hm => h2.1 (List.mem_append_right _ hm)⟩
 have hbl : ∀ b, b ∈ vf.ownBlock.toList ++ [N, g, qb, c.pg] → w1.heap[b]? = w.heap[b]? := fun b hb => hf.block b (h.own.lt b hb) (fun hF' => (hnb b hF').1 hb)
 have hown1 : OWN w1 (vf.ownBlock.toList ++ [N, g, qb, c.pg]) (fp x :: ((on ++ c.rs.drop (i + 1)).map rp ++ (c.fs ++ told).map fp)) := hown.replace (y := fp x) hf hnb hx hxb
 have hperm : (fp x :: ((on ++ c.rs.drop (i + 1)).map rp ++ (c.fs ++ told).map fp)).Perm ((on ++ c.rs.drop (i + 1)).map rp ++ (c.fs ++ (told ++ [x])).map fp) := by
  obtain ⟨Z, hZ⟩ : ∃ Z, (on ++ c.rs.drop (i + 1)).map rp = Z := ⟨_, rfl⟩
  rw [hZ, ← List.append_assoc c.fs, List.map_append (l₂ := [x]), ← List.append_assoc]
  exact List.perm_append_comm (l₁ := [fp x])
 have hq : ∀ b, b ∈ [N, g, c.pg] → b ∉ qb :: vf.ownBlock.toList := by
  intro b hb hm
  have hnd := (List.nodup_append.1 h.own.nd).1
  have hp : (vf.ownBlock.toList ++ [N, g, qb, c.pg]).Perm ((qb :: vf.ownBlock.toList) ++ [N, g, c.pg]) := by
   refine List.Perm.trans (l₂ := vf.ownBlock.toList ++ (qb :: [N, g, c.pg])) (List.Perm.append_left _ ?_) List.perm_middle
   exact (List.Perm.cons N (List.Perm.swap qb g [c.pg])).trans (List.Perm.swap qb N [g, c.pg])
  exact (List.nodup_append.1 (hp.nodup_iff.1 hnd)).2.2 b hm b hb rfl
 have hsz1 : w.heap.size ≤ w1.heap.size := hf.size
 have hb1 : ∀ b, b ∈ [N, g, c.pg] → w'.heap[b]? = w.heap[b]? := by
  intro b hb
  have hm : b ∈ vf.ownBlock.toList ++ [N, g, qb, c.pg] := List.mem_append_right _ (by simp at hb ⊢; rcases hb with h | h | h <;> simp [h])
  rw [hf2.block b (Nat.lt_of_lt_of_le (h.own.lt b hm) hsz1) (hq b hb), hbl b hm]
 have hdis : ∀ b ∈ qb :: vf.ownBlock.toList, b ∉ eblk (fp x :: ((on ++ c.rs.drop (i + 1)).map rp ++ (c.fs ++ told).map fp)) := by
  intro b hb hm
  refine hown1.disj (b := b) ?_ hm
  rcases List.mem_cons.1 hb with rfl | hb
  ·simp
  ·exact List.mem_append_left _ hb
 refine ⟨hb2, h.stp.same (hb1 c.pg (by simp)), by rw [hb1 g (by simp)]; exact h.cells, ?_, ?_, by rw [hb1 N (by simp)]; exact h.box, ?_, ?_, Nat.le_succ_of_le h.le, hi, ?_, ?_, h.ook, h.gin⟩
 ·rw [List.length_append, ← List.append_assoc, List.flatMap_append]
  simpa [Nat.add_assoc] using hr2
 ·refine OWN.perm ?_ hperm
  exact hown1.move (v := vf) (v' := vf') hv2 (fun b hb => hr2.lt b hb) hf2 hdis
 ·have h1 : Fr (c.blocks qb) w0 w1 := h.fr.trans' hf (fun b hb => by
   rcases hF b hb with hx | hx
   ·exact Or.inr (Nat.le_trans h.fr.size hx)
   ·exact h.sub b (Or.inr ((eblk_perm (h.front hi)).mem_iff.2 (mem_eblk.2 ⟨rp c.rs[i], List.mem_cons_self, hx⟩))))
  refine h1.trans' hf2 (fun b hb => ?_)
  rcases List.mem_cons.1 hb with rfl | hb
  ·exact Or.inl (by simp [CQ.blocks, CQ.base])
  ·exact h.sub b (Or.inl (by simpa using hb))
 ·intro b hb
  have hold : ∀ b, b ∈ eblk ((on ++ c.rs.drop (i + 1)).map rp ++ (c.fs ++ told).map fp) → b ∈ c.blocks qb ∨ w0.heap.size ≤ b := fun b hm =>
   h.sub b (Or.inr ((eblk_perm (h.front hi)).mem_iff.2 (by rw [eblk_cons]; exact List.mem_append_right _ hm)))
  rcases hb with hb | hb
  ·rcases hv2 b hb with h1 | h1
   ·exact h.sub b (Or.inl h1)
   ·exact Or.inr (Nat.le_trans h.fr.size (Nat.le_trans hsz1 h1))
  ·have hm := (eblk_perm hperm).mem_iff.2 hb
   rw [eblk_cons] at hm
   rcases List.mem_append.1 hm with hm | hm
   ·have hxb' : x.2.ownBlock = some b := by simpa [fp] using hm
    rcases hxb b hxb' with h1 | h1
    ·exact h.sub b (Or.inr ((eblk_perm (h.front hi)).mem_iff.2 (mem_eblk.2 ⟨rp c.rs[i], List.mem_cons_self, h1⟩)))
    ·exact Or.inr (Nat.le_trans h.fr.size h1)
   ·exact hold b hm
 ·rw [keep_step hi rfl hk, h.aon]; simp
 ·rw [told_step hi rfl ht, List.map_append, h.ato]; simp
end
end Go.Proofs.YtbgfannlfagoiaaGreatDoor

namespace Go.Proofs.YtbgfannlfagoiaaGreatDoor
open Go.RowKit Go.Lull
set_option linter.unusedVariables false

/-- Matches in memory, each with its events. -/
structure MS (w : World) (v : Value) (L : List (Mt × Value)) : Prop where
 row : Row w 58 3 v L.length (L.flatMap matC)
 ev : ∀ x ∈ L, Row w 75 4 x.2 x.1.evs.length (x.1.evs.flatMap evC)
theorem flat4_at : ∀ (l : List Ev) (i k : Nat) (h : i < l.length), k < 4 → (l.flatMap evC)[i * 4 + k]? = (evC l[i])[k]?
 | x :: l, 0, k, h, hk => by
  rw [List.flatMap_cons, Nat.zero_mul, Nat.zero_add, List.getElem?_append_left (by simpa [evC] using hk)]
  rfl
 | x :: l, i + 1, k, h, hk => by
  have hl : (evC x).length = 4 := rfl
  rw [List.flatMap_cons, List.getElem?_append_right (by rw [hl]; omega), hl, show (i + 1) * 4 + k - 4 = i * 4 + k by omega]
  exact flat4_at l i k (by simpa using h) hk
theorem row_some {w : World} {e : TypeId} {size n : Nat} {v : Value} {xs : List Value} (h : Row w e size v n xs) (hn : 0 < n) : ∃ g off cap, v = .slice (some ⟨g, off, none⟩) n cap ∧ n ≤ cap := by
 rcases h.2 with ⟨_, h0⟩ | ⟨g, off, cap, cur, h1, _, h2, _⟩
 ·omega
 ·exact ⟨g, off, cap, h1, h2⟩
theorem row_le {w : World} {e : TypeId} {size n : Nat} {v : Value} {xs : List Value} (h : Row w e size v n xs) : n ≤ 9223372036854775807 := by
 rcases h.2 with ⟨_, h0⟩ | ⟨g, off, cap, cur, h1, _, h2, h3, _⟩
 ·omega
 ·unfold maxLen at h3; omega
theorem MS.at_ {w : World} {g off cap : Nat} {L : List (Mt × Value)} (h : MS w (.slice (some ⟨g, off, none⟩) L.length cap) L) (i : Nat) (hi : i < L.length) :
  w.cell? ⟨g, off + i * 3, none⟩ = some (.int .i64 L[i].1.q) ∧ w.cell? ⟨g, off + i * 3 + 1, none⟩ = some (.int .i64 L[i].1.cl) ∧ w.cell? ⟨g, off + i * 3 + 2, none⟩ = some L[i].2 := by
 have hc : ∀ k, k < 3 → w.cell? ⟨g, off + i * 3 + k, none⟩ = (matC L[i])[k]? := by
  intro k hk
  rw [Nat.add_assoc, h.row.cell (i * 3 + k) (by omega), flat3_at matC (fun _ => rfl) L i k hi hk]
 exact ⟨hc 0 (by omega), hc 1 (by omega), hc 2 (by omega)⟩
theorem ev_at {w : World} {g off cap : Nat} {l : List Ev} (h : Row w 75 4 (.slice (some ⟨g, off, none⟩) l.length cap) l.length (l.flatMap evC)) (i : Nat) (hi : i < l.length) :
  w.cell? ⟨g, off + i * 4, none⟩ = some (.int .i64 l[i].1) ∧ w.cell? ⟨g, off + i * 4 + 1, none⟩ = some (.int .i64 l[i].2.1) ∧ w.cell? ⟨g, off + i * 4 + 2, none⟩ = some (.int .u8 l[i].2.2.1.toNat) ∧ w.cell? ⟨g, off + i * 4 + 3, none⟩ = some (.int .i64 l[i].2.2.2) := by
 have hc : ∀ k, k < 4 → w.cell? ⟨g, off + i * 4 + k, none⟩ = (evC l[i])[k]? := by
  intro k hk
  rw [Nat.add_assoc, h.cell (i * 4 + k) (by omega), flat4_at l i k hi hk]
 exact ⟨hc 0 (by omega), hc 1 (by omega), hc 2 (by omega), hc 3 (by omega)⟩

set_option maxRecDepth 8000 in
set_option maxHeartbeats 4000000 in
theorem same_yes (w : World) (va vb : Value) (LA LB : List (Mt × Value)) (ha : MS w va LA) (hb : MS w vb LB) (heq : LA.map Prod.fst = LB.map Prod.fst) (hn : LA.length ≤ 1000000) :
  Calls Tryz.prog 18 #[va, vb] w fun e w' => e = .returned (.bool true) ∧ ∃ q, w' = w.drewN q := by
 have hl : LB.length = LA.length := by have := congrArg List.length heq; simpa using this.symm
 obtain ⟨aa, ca, rfl, hca⟩ := ha.row.form
 obtain ⟨ab, cb, rfl, hcb⟩ := hb.row.form
 have HA := Hid.mk' ha
 have HB := Hid.mk' hb
 have HE := Hid.mk' heq
 have HL := Hid.mk' hl
 rw [hl]
 rw [hl] at hcb
 clear ha hb heq hl
 go_enter Tryz.func18, Tryz.ntmps18
 go_wp2
 go_loopw [5] (fun i wr => ∃ (k q : Nat) (z : Int), z = k ∧ k ≤ LA.length ∧ i = .int .i64 z ∧ wr = w.drewN q) (fun i _ => LA.length - (intOf i).toNat)
 case atStart => exact ⟨0, 0, 0, rfl, Nat.zero_le _, rfl, rfl⟩
 case round =>
  obtain ⟨k, q, z, rfl, hk, rfl, hw⟩ := hrel
  subst hw
  by_cases hlt : k < LA.length
  ·have hkb : k < LB.length := by rw [HL.out]; exact hlt
   obtain ⟨ga, oa, ca', hva, _⟩ := row_some HA.out.row (by omega)
   obtain ⟨gb, ob, cb', hvb, _⟩ := row_some HB.out.row (by omega)
   obtain ⟨rfl, _, rfl⟩ := Value.slice.inj hva
   obtain ⟨rfl, _, rfl⟩ := Value.slice.inj hvb
   clear hva hvb
   have xA := HA.out.at_ k hlt
   have xB := HB.out.at_ k hkb
   have hab : LB[k].1 = LA[k].1 := by
    have h1 : (LA.map Prod.fst)[k]? = (LB.map Prod.fst)[k]? := by rw [HE.out]
    simpa [hlt, hkb] using h1.symm
   have rA := HA.out.ev LA[k] (List.getElem_mem hlt)
   have rB := HB.out.ev LB[k] (List.getElem_mem hkb)
   have hel : LA[k].1.evs.length ≤ 9223372036854775807 := row_le rA
   rw [hab] at xB rB
   obtain ⟨m, hm⟩ : ∃ m, LA[k].1 = m := ⟨_, rfl⟩
   obtain ⟨ua, hua⟩ : ∃ ua, LA[k].2 = ua := ⟨_, rfl⟩
   obtain ⟨ub, hub⟩ : ∃ ub, LB[k].2 = ub := ⟨_, rfl⟩
   rw [hm] at xA xB rA rB hel
   rw [hua] at xA rA
   rw [hub] at xB rB
   clear hab hm hua hub
   obtain ⟨ea, ecap, rfl, hec⟩ := rA.form
   obtain ⟨eb, fcap, rfl, hfc⟩ := rB.form
   obtain ⟨xA0, xA1, xA2⟩ := xA
   obtain ⟨xB0, xB1, xB2⟩ := xB
   have RA := Hid.mk' rA
   have RB := Hid.mk' rB
   clear rA rB
   go_wp2
   go_quiet (fail)
   go_wp2
   go_loopw [6] (fun i wr => ∃ (j q : Nat) (z : Int), z = j ∧ j ≤ m.evs.length ∧ i = .int .i64 z ∧ wr = w.drewN q) (fun i _ => m.evs.length - (intOf i).toNat)
   case atStart => exact ⟨0, q + nq, 0, rfl, Nat.zero_le _, rfl, by first | rfl | exact (World.drewN_drewN _ _ _)⟩
   case round =>
    obtain ⟨j, q2, z, rfl, hj, rfl, hw⟩ := hrel
    subst hw
    by_cases hjl : j < m.evs.length
    ·obtain ⟨g1, o1, c1, e1, _⟩ := row_some RA.out (by omega)
     obtain ⟨g2, o2, c2, e2, _⟩ := row_some RB.out (by omega)
     obtain ⟨rfl, _, rfl⟩ := Value.slice.inj e1
     obtain ⟨rfl, _, rfl⟩ := Value.slice.inj e2
     clear e1 e2
     obtain ⟨y0, y1, y2, y3⟩ := ev_at RA.out j hjl
     obtain ⟨z0, z1, z2, z3⟩ := ev_at RB.out j hjl
     generalize m.evs[j] = ee at y0 y1 y2 y3 z0 z1 z2 z3
     go_wp2
     go_quiet (fail)
     go_wp2
     go_roundw
     case rel => exact ⟨j + 1, q2 + nq, (j : Int) + 1, by omega, by omega, rfl, by first | rfl | exact (World.drewN_drewN _ _ _)⟩
     case measure => simp [intOf]; omega
    ·go_wp2
     go_roundw
     case rel => exact ⟨k + 1, q2, (k : Int) + 1, by omega, by omega, rfl, rfl⟩
     case measure => simp [intOf]; omega
  ·go_wp2
   go_ret
   exact ⟨rfl, q, rfl⟩
end Go.Proofs.YtbgfannlfagoiaaGreatDoor
