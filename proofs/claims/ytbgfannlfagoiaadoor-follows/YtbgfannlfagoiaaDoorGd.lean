import Derived.Test.YtbgfannlfagoiaaDoorGc
import Derived.Test.YtbgfannlfagoiaaDoorKit
namespace Go.Proofs.YtbgfannlfagoiaaDoor
open Go.RowKit Go.Lull
set_option linter.unusedVariables false

/-- Events in memory, in a block of their own. -/
def EvR (w : World) (v : Value) (l : List Ev) : Prop := w.ownsRow 0 56 4 v l.length (l.flatMap evC)

abbrev EL := List (List Ev × Value)
def eblk (l : EL) : List Nat := l.flatMap (fun x => x.2.ownBlock.toList)

/-- Blocks B, and lists of events, each in a block of its own. -/
structure OWN (w : World) (B : List Nat) (l : EL) : Prop where
  ev : ∀ x ∈ l, EvR w x.2 x.1
  nd : (B ++ eblk l).Nodup
  lt : ∀ b ∈ B, b < w.heap.size

section
variable {w w' : World} {B B' F : List Nat} {l l' : EL} {x y : List Ev × Value}
theorem mem_eblk {b : Nat} : b ∈ eblk l ↔ ∃ x ∈ l, x.2.ownBlock = some b := by
  simp [eblk, List.mem_flatMap]
theorem eblk_perm (h : l.Perm l') : (eblk l).Perm (eblk l') := List.Perm.flatMap_right _ h
theorem eblk_cons : eblk (x :: l) = x.2.ownBlock.toList ++ eblk l := by simp [eblk]
theorem eblk_append : eblk (l ++ l') = eblk l ++ eblk l' := by simp [eblk]
theorem eblk_sub (h : l'.Sublist l) : (eblk l').Sublist (eblk l) := by
  induction h with
  | slnil => exact List.Sublist.refl _
  | cons a h ih => rw [eblk_cons]; exact ih.trans (List.sublist_append_right _ _)
  | cons_cons a h ih => rw [eblk_cons, eblk_cons]; exact List.Sublist.append (List.Sublist.refl _) ih
theorem OWN.perm (h : OWN w B l) (hp : l.Perm l') : OWN w B l' :=
  ⟨fun x hx => h.ev x (hp.mem_iff.2 hx), (List.Perm.append_left B (eblk_perm hp)).nodup_iff.1 h.nd, h.lt⟩
theorem OWN.baseperm (h : OWN w B l) (hp : B.Perm B') : OWN w B' l :=
  ⟨h.ev, (List.Perm.append_right _ hp).nodup_iff.1 h.nd, fun b hb => h.lt b (hp.mem_iff.2 hb)⟩
theorem OWN.sub (h : OWN w B l) (hs : l'.Sublist l) : OWN w B l' :=
  ⟨fun x hx => h.ev x (hs.subset hx), h.nd.sublist (List.Sublist.append (List.Sublist.refl _) (eblk_sub hs)), h.lt⟩
theorem OWN.tail (h : OWN w B (x :: l)) : OWN w B l := h.sub (List.sublist_cons_self _ _)
theorem OWN.elt (h : OWN w B l) {b : Nat} (hb : b ∈ eblk l) : b < w.heap.size := by
  obtain ⟨x, hx, e⟩ := mem_eblk.1 hb
  exact own_lt (h.ev x hx) b e
theorem OWN.disj (h : OWN w B l) {b : Nat} (hb : b ∈ B) (hb' : b ∈ eblk l) : False := by
  have := List.nodup_append.1 h.nd
  exact this.2.2 b hb b hb' rfl
/-- Other blocks changed. -/
theorem OWN.fr (h : OWN w B l) (hf : Fr F w w') (hn : ∀ b ∈ F, b ∉ eblk l) : OWN w' B l :=
  ⟨fun x hx => hf.own (h.ev x hx) (fun k hk hF => hn k hF (mem_eblk.2 ⟨x, hx, hk⟩)), h.nd, fun b hb => Nat.lt_of_lt_of_le (h.lt b hb) hf.size⟩
theorem OWN.same (h : OWN w B l) (hz : w.heap.size ≤ w'.heap.size) (he : ∀ b ∈ eblk l, w'.heap[b]? = w.heap[b]?) : OWN w' B l :=
  ⟨fun x hx => by
    have h1 := h.ev x hx
    refine ⟨h1.1, ?_⟩
    rcases h1.2 with h2 | ⟨g, cap, cur, e1, e2, e3, e4⟩
    · exact Or.inl h2
    · exact Or.inr ⟨g, cap, cur, e1, e2, by rw [he g (mem_eblk.2 ⟨x, hx, by rw [e1]; rfl⟩)]; exact e3, e4⟩, h.nd, fun b hb => Nat.lt_of_lt_of_le (h.lt b hb) hz⟩
/-- The first list of events has changed. -/
theorem OWN.replace (h : OWN w B (x :: l)) (hf : Fr F w w') (hn : ∀ b ∈ F, b ∉ B ∧ b ∉ eblk l) (hy : EvR w' y.2 y.1) (hb : ∀ b, y.2.ownBlock = some b → x.2.ownBlock = some b ∨ w.heap.size ≤ b) : OWN w' B (y :: l) := by
  have ht := h.tail.fr hf (fun b hb => (hn b hb).2)
  refine ⟨fun z hz => ?_, ?_, ht.lt⟩
  · rcases List.mem_cons.1 hz with rfl | hz
    · exact hy
    · exact ht.ev z hz
  · have h1 := h.nd
    rw [eblk_cons] at h1 ⊢
    have ht2 := h.tail.nd
    cases hyb : y.2.ownBlock with
    | none => simpa using ht2
    | some b =>
      have hnew : b ∉ B ∧ b ∉ eblk l := by
        rcases hb b hyb with hx | hx
        · rw [hx] at h1
          simp only [Option.toList_some] at h1
          have h2 := (List.perm_middle (a := b) (l₁ := B) (l₂ := eblk l)).nodup_iff.1 (by simpa using h1)
          have := List.nodup_cons.1 h2
          exact ⟨fun hm => this.1 (List.mem_append_left _ hm), fun hm => this.1 (List.mem_append_right _ hm)⟩
        · exact ⟨fun hm => absurd (h.lt b hm) (Nat.not_lt.2 hx), fun hm => absurd (h.tail.elt hm) (Nat.not_lt.2 hx)⟩
      refine (List.perm_middle (a := b) (l₁ := B) (l₂ := eblk l)).nodup_iff.2 (List.nodup_cons.2 ⟨?_, ht2⟩)
      intro hm
      rcases List.mem_append.1 hm with hm | hm
      · exact hnew.1 hm
      · exact hnew.2 hm
/-- A new list of events. -/
theorem OWN.cons (h : OWN w B l) (hy : EvR w y.2 y.1) (hb : ∀ b, y.2.ownBlock = some b → b ∉ B ∧ b ∉ eblk l) : OWN w B (y :: l) := by
  refine ⟨fun z hz => ?_, ?_, h.lt⟩
  · rcases List.mem_cons.1 hz with rfl | hz
    · exact hy
    · exact h.ev z hz
  · rw [eblk_cons]
    cases hyb : y.2.ownBlock with
    | none => simpa using h.nd
    | some b =>
      refine (List.perm_middle (a := b) (l₁ := B) (l₂ := eblk l)).nodup_iff.2 (List.nodup_cons.2 ⟨?_, h.nd⟩)
      intro hm
      rcases List.mem_append.1 hm with hm | hm
      · exact (hb b hyb).1 hm
      · exact (hb b hyb).2 hm
/-- One of the blocks has moved. -/
theorem OWN.move {v v' : Value} (h : OWN w (v.ownBlock.toList ++ B) l) (hb : ∀ b, v'.ownBlock = some b → v.ownBlock = some b ∨ w.heap.size ≤ b) (hlt : ∀ b, v'.ownBlock = some b → b < w'.heap.size) (hF : Fr F w w') (hn : ∀ b ∈ F, b ∉ eblk l) : OWN w' (v'.ownBlock.toList ++ B) l := by
  have h0 : OWN w B l := ⟨h.ev, h.nd.sublist (List.Sublist.append (List.sublist_append_right _ _) (List.Sublist.refl _)), fun b hb => h.lt b (List.mem_append_right _ hb)⟩
  have h1 := h0.fr hF hn
  refine ⟨h1.ev, ?_, fun b hb => ?_⟩
  · cases hv : v'.ownBlock with
    | none => simpa using h0.nd
    | some b =>
      simp only [Option.toList_some, List.cons_append, List.nil_append]
      refine List.nodup_cons.2 ⟨?_, h0.nd⟩
      rcases hb b hv with hx | hx
      · have h2 := h.nd
        rw [hx] at h2
        simp only [Option.toList_some, List.cons_append, List.nil_append] at h2
        exact (List.nodup_cons.1 h2).1
      · intro hm
        rcases List.mem_append.1 hm with hm | hm
        · exact absurd (h0.lt b hm) (Nat.not_lt.2 hx)
        · exact absurd (h0.elt hm) (Nat.not_lt.2 hx)
  · rcases List.mem_append.1 hb with hm | hm
    · exact hlt b (by simpa using hm)
    · exact h1.lt b hm
end
end Go.Proofs.YtbgfannlfagoiaaDoor

namespace Go.Proofs.YtbgfannlfagoiaaDoor
open Go.RowKit Go.Lull
set_option linter.unusedVariables false

/-- A query as it lies in memory. -/
structure CQ where
  num : Nat
  st : List Stp
  wn : Int
  pg : Nat
  pc : Nat
  vr : Value
  rs : List (Rn × Value)
  vf : Value
  fs : List (Mt × Value)
def CQ.abs (c : CQ) : Qy := ⟨c.num, c.st, c.wn, c.rs.map Prod.fst, c.fs.map Prod.fst⟩
def runC (pg len pc : Nat) (x : Rn × Value) : List Value := [.int .i64 x.1.dl, x.2, .slice (some ⟨pg, x.1.k, none⟩) (len - x.1.k) (pc - x.1.k)]
def matC (x : Mt × Value) : List Value := [.int .i64 x.1.q, .int .i64 x.1.cl, x.2]
def rp (x : Rn × Value) : List Ev × Value := (x.1.tk, x.2)
def fp (x : Mt × Value) : List Ev × Value := (x.1.evs, x.2)
def CQ.evl (c : CQ) : EL := c.rs.map rp ++ c.fs.map fp
def CQ.base (c : CQ) (qb : Nat) : List Nat := c.vf.ownBlock.toList ++ (c.vr.ownBlock.toList ++ [qb, c.pg])
def CQ.blocks (c : CQ) (qb : Nat) : List Nat := c.base qb ++ eblk c.evl
def ROk (st : List Stp) (r : Rn) : Prop := 1 ≤ r.k ∧ r.k < st.length ∧ r.tk.length ≤ r.k ∧ 0 ≤ r.dl ∧ r.dl ≤ 1001000
structure QOk (c : CQ) : Prop where
  s1 : 1 ≤ c.st.length
  s8 : c.st.length ≤ 8
  pc : c.st.length ≤ c.pc
  alt : altB c.st
  w0 : 0 ≤ c.wn
  w1 : c.wn ≤ 1000
  rok : ∀ x ∈ c.rs, ROk c.st x.1
def qCells (c : CQ) (vr vf : Value) : Array Value := #[.int .i64 c.num, .slice (some ⟨c.pg, 0, none⟩) c.st.length c.pc, .int .i64 c.wn, vr, vf]
structure QY (w : World) (qb : Nat) (c : CQ) : Prop where
  blk : w.heap[qb]? = some (.cells (qCells c c.vr c.vf) 143 (0, 0))
  stp : ST w c.pg 0 c.st
  runs : Row w 177 3 c.vr c.rs.length (c.rs.flatMap (runC c.pg c.st.length c.pc))
  found : Row w 60 3 c.vf c.fs.length (c.fs.flatMap matC)
  own : OWN w (c.base qb) c.evl
  ok : QOk c

theorem ST.same {w w' : World} {pg k : Nat} {l : List Stp} (h : ST w pg k l) (hb : w'.heap[pg]? = w.heap[pg]?) : ST w' pg k l :=
  fun i hi => (World.cell?_of_block (a := ⟨pg, k + i, none⟩) hb).trans (h i hi)
theorem ST.drop {w : World} {pg : Nat} {l : List Stp} (h : ST w pg 0 l) (k : Nat) : ST w pg k (l.drop k) := by
  intro i hi
  simp only [List.length_drop] at hi
  have := h (k + i) (by omega)
  rw [Nat.zero_add] at this
  rw [this, List.getElem_drop]

theorem QY.same {w w' : World} {qb : Nat} {c : CQ} (h : QY w qb c) (hz : w.heap.size ≤ w'.heap.size) (he : ∀ b ∈ c.blocks qb, w'.heap[b]? = w.heap[b]?) : QY w' qb c := by
  have hb : ∀ b ∈ c.base qb, w'.heap[b]? = w.heap[b]? := fun b hb => he b (List.mem_append_left _ hb)
  refine ⟨?_, h.stp.same (hb c.pg (by simp [CQ.base])), h.runs.same (fun k hk => hb k (by simp [CQ.base, hk])), h.found.same (fun k hk => hb k (by simp [CQ.base, hk])), h.own.same hz (fun b hm => he b (List.mem_append_right _ hm)), h.ok⟩
  rw [hb qb (by simp [CQ.base])]
  exact h.blk
theorem QY.lt {w : World} {qb : Nat} {c : CQ} (h : QY w qb c) : ∀ b ∈ c.blocks qb, b < w.heap.size := by
  intro b hb
  rcases List.mem_append.1 hb with hb | hb
  · exact h.own.lt b hb
  · exact h.own.elt hb
theorem QY.fr {F : List Nat} {w w' : World} {qb : Nat} {c : CQ} (h : QY w qb c) (hf : Fr F w w') (hn : ∀ b ∈ F, b ∉ c.blocks qb) : QY w' qb c :=
  h.same hf.size (fun b hb => hf.block b (h.lt b hb) (fun hF => hn b hF hb))

theorem runC_len (pg len pc : Nat) (l : List (Rn × Value)) : (l.flatMap (runC pg len pc)).length = l.length * 3 := by
  induction l with
  | nil => rfl
  | cons x l ih => simp [List.flatMap_cons, runC, ih]; omega
theorem matC_len (l : List (Mt × Value)) : (l.flatMap matC).length = l.length * 3 := by
  induction l with
  | nil => rfl
  | cons x l ih => simp [List.flatMap_cons, matC, ih]; omega
theorem flat3_at {α : Type} (f : α → List Value) (hf : ∀ x, (f x).length = 3) : ∀ (l : List α) (i k : Nat) (h : i < l.length), k < 3 → (l.flatMap f)[i * 3 + k]? = (f l[i])[k]?
  | x :: l, 0, k, h, hk => by
    rw [List.flatMap_cons, Nat.zero_mul, Nat.zero_add, List.getElem?_append_left (by rw [hf]; exact hk)]
    rfl
  | x :: l, i + 1, k, h, hk => by
    rw [List.flatMap_cons, List.getElem?_append_right (by rw [hf]; omega), hf, show (i + 1) * 3 + k - 3 = i * 3 + k by omega]
    exact flat3_at f hf l i k (by simpa using h) hk

/-- show, in the midst of its runs. -/
structure SH (w0 w : World) (qb N g off cap : Nat) (cur : List Value) (c : CQ) (e : Ev) (i : Nat) (on : List (Rn × Value)) (told : List (Mt × Value)) (vf : Value) : Prop where
  blk : w.heap[qb]? = some (.cells (qCells c (.slice (some ⟨g, off, none⟩) c.rs.length cap) vf) 143 (0, 0))
  stp : ST w c.pg 0 c.st
  cells : w.heap[g]? = some (.cells (cur.take off ++ on.flatMap (runC c.pg c.st.length c.pc) ++ cur.drop (off + on.length * 3)).toArray 177 (0, 0))
  found : Row w 60 3 vf (c.fs.length + told.length) ((c.fs ++ told).flatMap matC)
  own : OWN w (vf.ownBlock.toList ++ [N, g, qb, c.pg]) ((on ++ c.rs.drop i).map rp ++ (c.fs ++ told).map fp)
  box : w.heap[N]? = some (.cells (evC e).toArray 56 (0, 0))
  fr : Fr (c.blocks qb) w0 w
  sub : ∀ b, (vf.ownBlock = some b ∨ b ∈ eblk ((on ++ c.rs.drop i).map rp ++ (c.fs ++ told).map fp)) → b ∈ c.blocks qb ∨ w0.heap.size ≤ b
  le : on.length ≤ i
  hi : i ≤ c.rs.length
  aon : on.map Prod.fst = ((c.rs.take i).map Prod.fst).filterMap (keep1 c.st e)
  ato : told.map Prod.fst = ((c.rs.take i).map Prod.fst).filterMap (told1 c.num c.st e)
  ook : ∀ x ∈ on, ROk c.st x.1
  gin : g ∈ c.blocks qb

/-- What is fixed of the runs' block. -/
structure CUR (cur : List Value) (off cap : Nat) (c : CQ) : Prop where
  len : off + cap * 3 ≤ cur.length
  cap : c.rs.length ≤ cap
  runs : (cur.drop off).take (c.rs.length * 3) = c.rs.flatMap (runC c.pg c.st.length c.pc)

section
variable {w0 w w1 w' : World} {qb N g off cap : Nat} {cur : List Value} {c : CQ} {e : Ev} {i : Nat} {on : List (Rn × Value)} {told : List (Mt × Value)} {vf : Value} {F : List Nat}

theorem SH.run (h : SH w0 w qb N g off cap cur c e i on told vf) (hc : CUR cur off cap c) (hi : i < c.rs.length) : ∀ k, k < 3 → w.cell? ⟨g, off + i * 3 + k, none⟩ = (runC c.pg c.st.length c.pc c.rs[i])[k]? := by
  intro k hk
  have hle := h.le
  have hlen := hc.len
  have hcap := hc.cap
  rw [cell_of_row w g _ _ _ _ h.cells]
  have h0 : (cur.take off ++ on.flatMap (runC c.pg c.st.length c.pc)).length = off + on.length * 3 := by
    rw [List.length_append, runC_len, List.length_take]
    omega
  simp only [List.getElem?_toArray]
  rw [List.getElem?_append_right (by rw [h0]; omega), h0, List.getElem?_drop, show off + on.length * 3 + (off + i * 3 + k - (off + on.length * 3)) = off + (i * 3 + k) by omega, ← List.getElem?_drop]
  rw [← flat3_at (runC c.pg c.st.length c.pc) (fun _ => rfl) c.rs i k hi hk, ← hc.runs, List.getElem?_take_of_lt (by omega)]

theorem keep_step {r : Rn} (hi : i < c.rs.length) (hr : c.rs[i].1 = r) {o : Option Rn} (hk : keep1 c.st e r = o) : ((c.rs.take (i + 1)).map Prod.fst).filterMap (keep1 c.st e) = ((c.rs.take i).map Prod.fst).filterMap (keep1 c.st e) ++ o.toList := by
  rw [List.take_succ_eq_append_getElem hi, List.map_append, List.filterMap_append]
  congr 1
  simp only [List.map_cons, List.map_nil, List.filterMap_cons, List.filterMap_nil, hr, hk]
  cases o <;> rfl
theorem told_step {r : Rn} (hi : i < c.rs.length) (hr : c.rs[i].1 = r) {o : Option Mt} (hk : told1 c.num c.st e r = o) : ((c.rs.take (i + 1)).map Prod.fst).filterMap (told1 c.num c.st e) = ((c.rs.take i).map Prod.fst).filterMap (told1 c.num c.st e) ++ o.toList := by
  rw [List.take_succ_eq_append_getElem hi, List.map_append, List.filterMap_append]
  congr 1
  simp only [List.map_cons, List.map_nil, List.filterMap_cons, List.filterMap_nil, hr, hk]
  cases o <;> rfl

/-- The run that is shown the event, ahead of all others. -/
theorem SH.front (h : SH w0 w qb N g off cap cur c e i on told vf) (hi : i < c.rs.length) :
    ((on ++ c.rs.drop i).map rp ++ (c.fs ++ told).map fp).Perm (rp c.rs[i] :: ((on ++ c.rs.drop (i + 1)).map rp ++ (c.fs ++ told).map fp)) := by
  obtain ⟨Z, hZ⟩ : ∃ Z, (c.fs ++ told).map fp = Z := ⟨_, rfl⟩
  rw [hZ, List.drop_eq_getElem_cons hi]
  simp only [List.map_append, List.map_cons]
  rw [← List.cons_append]
  exact List.Perm.append_right _ List.perm_middle

/-- It is over. -/
theorem SH.fails (h : SH w0 w qb N g off cap cur c e i on told vf) (hi : i < c.rs.length) (hf : Fr F w w') (hF : ∀ b ∈ F, w.heap.size ≤ b ∨ c.rs[i].2.ownBlock = some b) (hk : keep1 c.st e c.rs[i].1 = none) (ht : told1 c.num c.st e c.rs[i].1 = none) :
    SH w0 w' qb N g off cap cur c e (i + 1) on told vf := by
  have hown := h.own.perm (h.front hi)
  have hnb : ∀ b ∈ F, b < w.heap.size → b ∉ vf.ownBlock.toList ++ [N, g, qb, c.pg] ∧ b ∉ eblk ((on ++ c.rs.drop (i + 1)).map rp ++ (c.fs ++ told).map fp) := by
    intro b hb hlt
    have hx := (hF b hb).resolve_left (Nat.not_le.2 hlt)
    have hnd := hown.nd
    rw [eblk_cons] at hnd
    have : (rp c.rs[i]).2.ownBlock = some b := hx
    rw [this, Option.toList_some] at hnd
    have h2 := List.nodup_cons.1 ((List.perm_middle (a := b) (l₁ := vf.ownBlock.toList ++ [N, g, qb, c.pg]) (l₂ := eblk ((on ++ c.rs.drop (i + 1)).map rp ++ (c.fs ++ told).map fp))).nodup_iff.1 hnd)
    exact ⟨fun hm => h2.1 (List.mem_append_left _ hm), fun hm => h2.1 (List.mem_append_right _ hm)⟩
  have hbl : ∀ b, b ∈ vf.ownBlock.toList ++ [N, g, qb, c.pg] → w'.heap[b]? = w.heap[b]? := fun b hb => hf.block b (h.own.lt b hb) (fun hF' => (hnb b hF' (h.own.lt b hb)).1 hb)
  refine ⟨by rw [hbl qb (by simp)]; exact h.blk, h.stp.same (hbl c.pg (by simp)), by rw [hbl g (by simp)]; exact h.cells, h.found.same (fun k hk => hbl k (by simp [hk])), ?_, by rw [hbl N (by simp)]; exact h.box, ?_, ?_, Nat.le_succ_of_le h.le, hi, ?_, ?_, h.ook, h.gin⟩
  · exact hown.tail.fr hf (fun b hb hm => (hnb b hb (hown.tail.elt hm)).2 hm)
  · refine h.fr.trans' hf (fun b hb => ?_)
    rcases hF b hb with hx | hx
    · exact Or.inr (Nat.le_trans h.fr.size hx)
    · exact h.sub b (Or.inr ((eblk_perm (h.front hi)).mem_iff.2 (mem_eblk.2 ⟨rp c.rs[i], List.mem_cons_self, hx⟩)))
  · intro b hb
    refine h.sub b (hb.imp id (fun hm => (eblk_perm (h.front hi)).mem_iff.2 ?_))
    rw [eblk_cons]
    exact List.mem_append_right _ hm
  · rw [keep_step hi rfl hk, h.aon]; simp
  · rw [told_step hi rfl ht, h.ato]; simp

/-- It goes on. -/
theorem SH.kept {x : Rn × Value} (h : SH w0 w qb N g off cap cur c e i on told vf) (hc : CUR cur off cap c) (hi : i < c.rs.length) (hf : Fr F w w1) (hF : ∀ b ∈ F, w.heap.size ≤ b ∨ c.rs[i].2.ownBlock = some b)
    (hx : EvR w1 x.2 x.1.tk) (hxb : ∀ b, x.2.ownBlock = some b → c.rs[i].2.ownBlock = some b ∨ w.heap.size ≤ b) (hok : ROk c.st x.1)
    (hk : keep1 c.st e c.rs[i].1 = some x.1) (ht : told1 c.num c.st e c.rs[i].1 = none) :
    SH w0 (w1.setCells g (off + on.length * 3) (runC c.pg c.st.length c.pc x)) qb N g off cap cur c e (i + 1) (on ++ [x]) told vf := by
  have hown := h.own.perm (h.front hi)
  have hnb : ∀ b ∈ F, b ∉ vf.ownBlock.toList ++ [N, g, qb, c.pg] ∧ b ∉ eblk ((on ++ c.rs.drop (i + 1)).map rp ++ (c.fs ++ told).map fp) := by
    intro b hb
    rcases hF b hb with hge | hx
    · exact ⟨fun hm => absurd (h.own.lt b hm) (Nat.not_lt.2 hge), fun hm => absurd (hown.tail.elt hm) (Nat.not_lt.2 hge)⟩
    have hnd := hown.nd
    rw [eblk_cons] at hnd
    have : (rp c.rs[i]).2.ownBlock = some b := hx
    rw [this, Option.toList_some] at hnd
    have h2 := List.nodup_cons.1 ((List.perm_middle (a := b) (l₁ := vf.ownBlock.toList ++ [N, g, qb, c.pg]) (l₂ := eblk ((on ++ c.rs.drop (i + 1)).map rp ++ (c.fs ++ told).map fp))).nodup_iff.1 hnd)
    exact ⟨fun hm => h2.1 (List.mem_append_left _ hm), fun hm => h2.1 (List.mem_append_right _ hm)⟩
  have hbl : ∀ b, b ∈ vf.ownBlock.toList ++ [N, g, qb, c.pg] → w1.heap[b]? = w.heap[b]? := fun b hb => hf.block b (h.own.lt b hb) (fun hF' => (hnb b hF').1 hb)
  have hle := h.le
  have hlen := hc.len
  have hcap := hc.cap
  have hng : ∀ b, b ∈ vf.ownBlock.toList ++ [N, qb, c.pg] → b ≠ g := by
    intro b hb e
    subst e
    have hnd := (List.nodup_append.1 h.own.nd).1
    have hp : (vf.ownBlock.toList ++ [N, b, qb, c.pg]).Perm (b :: (vf.ownBlock.toList ++ [N, qb, c.pg])) :=
      (List.Perm.append_left _ (List.Perm.swap b N _)).trans List.perm_middle
    exact (List.nodup_cons.1 (hp.nodup_iff.1 hnd)).1 hb
  have hset : ∀ b, b ≠ g → (w1.setCells g (off + on.length * 3) (runC c.pg c.st.length c.pc x)).heap[b]? = w1.heap[b]? := fun b hb => setCells_other g hb _ _ _
  have hown1 : OWN w1 (vf.ownBlock.toList ++ [N, g, qb, c.pg]) (rp x :: ((on ++ c.rs.drop (i + 1)).map rp ++ (c.fs ++ told).map fp)) := hown.replace hf hnb hx hxb
  have hgne : ∀ b ∈ eblk (rp x :: ((on ++ c.rs.drop (i + 1)).map rp ++ (c.fs ++ told).map fp)), b ≠ g := fun b hb e => by subst e; exact hown1.disj (by simp) hb
  have hperm : (rp x :: ((on ++ c.rs.drop (i + 1)).map rp ++ (c.fs ++ told).map fp)).Perm ((on ++ [x] ++ c.rs.drop (i + 1)).map rp ++ (c.fs ++ told).map fp) := by
    obtain ⟨Z, hZ⟩ : ∃ Z, (c.fs ++ told).map fp = Z := ⟨_, rfl⟩
    rw [hZ, List.append_assoc on [x]]
    simp only [List.map_append, List.map_cons, List.singleton_append]
    rw [← List.cons_append]
    exact List.Perm.append_right _ List.perm_middle.symm
  refine ⟨?_, ?_, ?_, ?_, ?_, ?_, ?_, ?_, ?_, hi, ?_, ?_, ?_, h.gin⟩
  · rw [hset qb (hng qb (by simp)), hbl qb (by simp)]; exact h.blk
  · exact h.stp.same (by rw [hset c.pg (hng c.pg (by simp)), hbl c.pg (by simp)])
  · have hcells : w1.heap[g]? = some (.cells (cur.take off ++ on.flatMap (runC c.pg c.st.length c.pc) ++ cur.drop (off + on.length * 3)).toArray 177 (0, 0)) := by rw [hbl g (by simp)]; exact h.cells
    have h0 : (cur.take off ++ on.flatMap (runC c.pg c.st.length c.pc)).length = off + on.length * 3 := by
      rw [List.length_append, runC_len, List.length_take]
      omega
    rw [heap_setCells_same g _ _ _ _ _ hcells (by rw [List.length_append, h0, List.length_drop]; simp [runC]; omega)]
    congr 3
    rw [List.take_append_of_le_length (by rw [h0]; exact Nat.le_refl _), List.take_of_length_le (by rw [h0]; exact Nat.le_refl _), List.drop_append, h0]
    rw [List.drop_of_length_le (by rw [h0]; omega), List.nil_append, List.drop_drop, List.flatMap_append, List.length_append]
    simp only [List.flatMap_cons, List.flatMap_nil, List.append_nil, List.append_assoc, List.length_cons, List.length_nil]
    congr 3
    congr 1
    simp [runC]
    omega
  · exact h.found.same (fun k hk => by rw [hset k (hng k (by simp [hk])), hbl k (by simp [hk])])
  · exact (hown1.perm hperm).same (by rw [setCells_size]; exact Nat.le_refl _) (fun b hb => hset b (hgne b ((eblk_perm hperm).mem_iff.2 hb)))
  · rw [hset N (hng N (by simp)), hbl N (by simp)]; exact h.box
  · have h1 : Fr (c.blocks qb) w0 w1 := h.fr.trans' hf (fun b hb => by
      rcases hF b hb with hx | hx
      · exact Or.inr (Nat.le_trans h.fr.size hx)
      · exact h.sub b (Or.inr ((eblk_perm (h.front hi)).mem_iff.2 (mem_eblk.2 ⟨rp c.rs[i], List.mem_cons_self, hx⟩))))
    exact h1.setCells (Or.inl h.gin) _ _
  · intro b hb
    have hold : ∀ b, b ∈ eblk ((on ++ c.rs.drop (i + 1)).map rp ++ (c.fs ++ told).map fp) → b ∈ c.blocks qb ∨ w0.heap.size ≤ b := fun b hm =>
      h.sub b (Or.inr ((eblk_perm (h.front hi)).mem_iff.2 (by rw [eblk_cons]; exact List.mem_append_right _ hm)))
    rcases hb with hb | hb
    · exact h.sub b (Or.inl hb)
    · have hm := (eblk_perm hperm).mem_iff.2 hb
      rw [eblk_cons] at hm
      rcases List.mem_append.1 hm with hm | hm
      · have hxb' : x.2.ownBlock = some b := by simpa [rp] using hm
        rcases hxb b hxb' with h1 | h1
        · exact h.sub b (Or.inr ((eblk_perm (h.front hi)).mem_iff.2 (mem_eblk.2 ⟨rp c.rs[i], List.mem_cons_self, h1⟩)))
        · exact Or.inr (Nat.le_trans h.fr.size h1)
      · exact hold b hm
  · simp; exact h.le
  · rw [keep_step hi rfl hk, List.map_append, h.aon]; simp
  · rw [told_step hi rfl ht, h.ato]; simp
  · intro y hy
    rcases List.mem_append.1 hy with hy | hy
    · exact h.ook y hy
    · rw [List.mem_singleton.1 hy]; exact hok

/-- It is a match. -/
theorem SH.tell {x : Mt × Value} {vf' : Value} (h : SH w0 w qb N g off cap cur c e i on told vf) (hi : i < c.rs.length) (hf : Fr F w w1) (hF : ∀ b ∈ F, w.heap.size ≤ b ∨ c.rs[i].2.ownBlock = some b)
    (hx : EvR w1 x.2 x.1.evs) (hxb : ∀ b, x.2.ownBlock = some b → c.rs[i].2.ownBlock = some b ∨ w.heap.size ≤ b)
    (hk : keep1 c.st e c.rs[i].1 = none) (ht : told1 c.num c.st e c.rs[i].1 = some x.1)
    (hb2 : w'.heap[qb]? = some (.cells (qCells c (.slice (some ⟨g, off, none⟩) c.rs.length cap) vf') 143 (0, 0)))
    (hr2 : Row w' 60 3 vf' (c.fs.length + told.length + 1) ((c.fs ++ told).flatMap matC ++ matC x)) (hf2 : Fr (qb :: vf.ownBlock.toList) w1 w') (hv2 : ∀ b, vf'.ownBlock = some b → vf.ownBlock = some b ∨ w1.heap.size ≤ b) :
    SH w0 w' qb N g off cap cur c e (i + 1) on (told ++ [x]) vf' := by
  have hown := h.own.perm (h.front hi)
  have hnb : ∀ b ∈ F, b ∉ vf.ownBlock.toList ++ [N, g, qb, c.pg] ∧ b ∉ eblk ((on ++ c.rs.drop (i + 1)).map rp ++ (c.fs ++ told).map fp) := by
    intro b hb
    rcases hF b hb with hge | hx
    · exact ⟨fun hm => absurd (h.own.lt b hm) (Nat.not_lt.2 hge), fun hm => absurd (hown.tail.elt hm) (Nat.not_lt.2 hge)⟩
    have hnd := hown.nd
    rw [eblk_cons] at hnd
    have : (rp c.rs[i]).2.ownBlock = some b := hx
    rw [this, Option.toList_some] at hnd
    have h2 := List.nodup_cons.1 ((List.perm_middle (a := b) (l₁ := vf.ownBlock.toList ++ [N, g, qb, c.pg]) (l₂ := eblk ((on ++ c.rs.drop (i + 1)).map rp ++ (c.fs ++ told).map fp))).nodup_iff.1 hnd)
    exact ⟨fun hm => h2.1 (List.mem_append_left _ hm), fun hm => h2.1 (List.mem_append_right _ hm)⟩
  have hbl : ∀ b, b ∈ vf.ownBlock.toList ++ [N, g, qb, c.pg] → w1.heap[b]? = w.heap[b]? := fun b hb => hf.block b (h.own.lt b hb) (fun hF' => (hnb b hF').1 hb)
  have hown1 : OWN w1 (vf.ownBlock.toList ++ [N, g, qb, c.pg]) (fp x :: ((on ++ c.rs.drop (i + 1)).map rp ++ (c.fs ++ told).map fp)) := hown.replace (y := fp x) hf hnb hx hxb
  have hperm : (fp x :: ((on ++ c.rs.drop (i + 1)).map rp ++ (c.fs ++ told).map fp)).Perm ((on ++ c.rs.drop (i + 1)).map rp ++ (c.fs ++ (told ++ [x])).map fp) := by
    obtain ⟨Z, hZ⟩ : ∃ Z, (on ++ c.rs.drop (i + 1)).map rp = Z := ⟨_, rfl⟩
    rw [hZ, ← List.append_assoc c.fs, List.map_append (l₂ := [x]), ← List.append_assoc]
    exact List.perm_append_comm (l₁ := [fp x])
  have hq : ∀ b, b ∈ [N, g, c.pg] → b ∉ qb :: vf.ownBlock.toList := by
    intro b hb hm
    have hnd := (List.nodup_append.1 h.own.nd).1
    have hp : (vf.ownBlock.toList ++ [N, g, qb, c.pg]).Perm ((qb :: vf.ownBlock.toList) ++ [N, g, c.pg]) := by
      refine List.Perm.trans (l₂ := vf.ownBlock.toList ++ (qb :: [N, g, c.pg])) (List.Perm.append_left _ ?_) List.perm_middle
      exact (List.Perm.cons N (List.Perm.swap qb g [c.pg])).trans (List.Perm.swap qb N [g, c.pg])
    exact (List.nodup_append.1 (hp.nodup_iff.1 hnd)).2.2 b hm b hb rfl
  have hsz1 : w.heap.size ≤ w1.heap.size := hf.size
  have hb1 : ∀ b, b ∈ [N, g, c.pg] → w'.heap[b]? = w.heap[b]? := by
    intro b hb
    have hm : b ∈ vf.ownBlock.toList ++ [N, g, qb, c.pg] := List.mem_append_right _ (by simp at hb ⊢; rcases hb with h | h | h <;> simp [h])
    rw [hf2.block b (Nat.lt_of_lt_of_le (h.own.lt b hm) hsz1) (hq b hb), hbl b hm]
  have hdis : ∀ b ∈ qb :: vf.ownBlock.toList, b ∉ eblk (fp x :: ((on ++ c.rs.drop (i + 1)).map rp ++ (c.fs ++ told).map fp)) := by
    intro b hb hm
    refine hown1.disj (b := b) ?_ hm
    rcases List.mem_cons.1 hb with rfl | hb
    · simp
    · exact List.mem_append_left _ hb
  refine ⟨hb2, h.stp.same (hb1 c.pg (by simp)), by rw [hb1 g (by simp)]; exact h.cells, ?_, ?_, by rw [hb1 N (by simp)]; exact h.box, ?_, ?_, Nat.le_succ_of_le h.le, hi, ?_, ?_, h.ook, h.gin⟩
  · rw [List.length_append, ← List.append_assoc, List.flatMap_append]
    simpa [Nat.add_assoc] using hr2
  · refine OWN.perm ?_ hperm
    exact hown1.move (v := vf) (v' := vf') hv2 (fun b hb => hr2.lt b hb) hf2 hdis
  · have h1 : Fr (c.blocks qb) w0 w1 := h.fr.trans' hf (fun b hb => by
      rcases hF b hb with hx | hx
      · exact Or.inr (Nat.le_trans h.fr.size hx)
      · exact h.sub b (Or.inr ((eblk_perm (h.front hi)).mem_iff.2 (mem_eblk.2 ⟨rp c.rs[i], List.mem_cons_self, hx⟩))))
    refine h1.trans' hf2 (fun b hb => ?_)
    rcases List.mem_cons.1 hb with rfl | hb
    · exact Or.inl (by simp [CQ.blocks, CQ.base])
    · exact h.sub b (Or.inl (by simpa using hb))
  · intro b hb
    have hold : ∀ b, b ∈ eblk ((on ++ c.rs.drop (i + 1)).map rp ++ (c.fs ++ told).map fp) → b ∈ c.blocks qb ∨ w0.heap.size ≤ b := fun b hm =>
      h.sub b (Or.inr ((eblk_perm (h.front hi)).mem_iff.2 (by rw [eblk_cons]; exact List.mem_append_right _ hm)))
    rcases hb with hb | hb
    · rcases hv2 b hb with h1 | h1
      · exact h.sub b (Or.inl h1)
      · exact Or.inr (Nat.le_trans h.fr.size (Nat.le_trans hsz1 h1))
    · have hm := (eblk_perm hperm).mem_iff.2 hb
      rw [eblk_cons] at hm
      rcases List.mem_append.1 hm with hm | hm
      · have hxb' : x.2.ownBlock = some b := by simpa [fp] using hm
        rcases hxb b hxb' with h1 | h1
        · exact h.sub b (Or.inr ((eblk_perm (h.front hi)).mem_iff.2 (mem_eblk.2 ⟨rp c.rs[i], List.mem_cons_self, h1⟩)))
        · exact Or.inr (Nat.le_trans h.fr.size h1)
      · exact hold b hm
  · rw [keep_step hi rfl hk, h.aon]; simp
  · rw [told_step hi rfl ht, List.map_append, h.ato]; simp
end
end Go.Proofs.YtbgfannlfagoiaaDoor

namespace Go.Proofs.YtbgfannlfagoiaaDoor
open Go.RowKit Go.Lull
set_option linter.unusedVariables false

/-- What the steps that are left say of a run. -/
theorem keep_fails {st : List Stp} {r : Rn} {e : Ev} {num : Nat} (hk : r.k < st.length) (ha : altB st) (h : seeL e (st.drop r.k) 0 = .fails) : keep1 st e r = none ∧ told1 num st e r = none := by
  simp [keep1, told1, showB_see st r.k r.tk e hk ha, h]
theorem keep_on {st : List Stp} {r : Rn} {e : Ev} {num : Nat} (hk : r.k < st.length) (ha : altB st) (h : seeL e (st.drop r.k) 0 = .on) : keep1 st e r = some r ∧ told1 num st e r = none := by
  simp [keep1, told1, showB_see st r.k r.tk e hk ha, h]
theorem keep_took {st : List Stp} {r : Rn} {e : Ev} {num j : Nat} (hk : r.k < st.length) (ha : altB st) (h : seeL e (st.drop r.k) 0 = .took j) (hj : r.k + j ≠ st.length) : keep1 st e r = some ⟨r.dl, r.tk ++ [e], r.k + j⟩ ∧ told1 num st e r = none := by
  simp [keep1, told1, showB_see st r.k r.tk e hk ha, h, hj]
theorem keep_done {st : List Stp} {r : Rn} {e : Ev} {num j : Nat} (hk : r.k < st.length) (ha : altB st) (h : seeL e (st.drop r.k) 0 = .took j) (hj : r.k + j = st.length) : keep1 st e r = none ∧ told1 num st e r = some ⟨num, e.2.1, r.tk ++ [e]⟩ := by
  simp [keep1, told1, showB_see st r.k r.tk e hk ha, h, hj]
theorem seeL_took {e : Ev} : ∀ (l : List Stp) (i j : Nat), seeL e l i = .took j → i < j ∧ j ≤ i + l.length
  | [], i, j, h => by simp [seeL] at h
  | x :: r, i, j, h => by
    unfold seeL at h
    split at h
    · split at h
      · cases h
      · have := seeL_took r (i + 1) j h
        simp; omega
    · split at h
      · cases h; simp
      · cases h

theorem SH.start {w : World} {qb g off cap : Nat} {c : CQ} {e : Ev} (h : QY w qb c) (hv : c.vr = .slice (some ⟨g, off, none⟩) c.rs.length cap) (cur : Array Value) (hg : w.heap[g]? = some (.cells cur 177 (0, 0))) :
    SH w (w.alloc (.cells (evC e).toArray 56)) qb w.heap.size g off cap cur.toList c e 0 [] [] c.vf := by
  have hgb : g ∈ c.base qb := by simp [CQ.base, hv, Value.ownBlock]
  have hal : ∀ b, b ∈ c.blocks qb → (w.alloc (.cells (evC e).toArray 56)).heap[b]? = w.heap[b]? := fun b hb => Below.heap_alloc _ _ _ (h.lt b hb)
  have hbs : ∀ b, b ∈ c.base qb → b ∈ c.blocks qb := fun b hb => List.mem_append_left _ hb
  have hQ := h.same (w' := w.alloc (.cells (evC e).toArray 56)) (by simp) hal
  have hbase : c.base qb = c.vf.ownBlock.toList ++ [g, qb, c.pg] := by simp [CQ.base, hv, Value.ownBlock]
  refine ⟨?_, hQ.stp, ?_, ?_, ?_, heap_alloc_new _ _, (Fr.refl _ _).alloc _, ?_, Nat.le_refl _, Nat.zero_le _, by simp, by simp, by simp, hbs g hgb⟩
  · have := hQ.blk; rw [hv] at this; exact this
  · rw [hal g (hbs g hgb), hg]; simp
  · simpa using hQ.found
  · have ho := hQ.own
    rw [hbase] at ho
    have hl : (([] : List (Rn × Value)) ++ c.rs.drop 0).map rp ++ (c.fs ++ []).map fp = c.evl := by simp [CQ.evl]
    rw [hl]
    refine ⟨ho.ev, ?_, ?_⟩
    · have hp : (c.vf.ownBlock.toList ++ [w.heap.size, g, qb, c.pg] ++ eblk c.evl).Perm (w.heap.size :: (c.vf.ownBlock.toList ++ [g, qb, c.pg] ++ eblk c.evl)) := by
        rw [← List.cons_append]
        exact List.Perm.append_right _ List.perm_middle
      refine hp.nodup_iff.2 (List.nodup_cons.2 ⟨fun hm => ?_, ho.nd⟩)
      rw [← hbase] at hm
      exact absurd (h.lt _ hm) (Nat.lt_irrefl _)
    · intro b hb
      have : b = w.heap.size ∨ b ∈ c.vf.ownBlock.toList ++ [g, qb, c.pg] := by
        simp at hb ⊢
        rcases hb with hb | hb | hb
        · exact Or.inr (Or.inl hb)
        · exact Or.inl hb
        · exact Or.inr (Or.inr hb)
      rcases this with rfl | this
      · simp
      · exact ho.lt b this
  · intro b hb
    left
    rcases hb with hb | hb
    · exact hbs b (by simp [CQ.base, hb])
    · refine List.mem_append_right _ ?_
      simpa [CQ.evl] using hb

/-- The runs are shown the event: what is left. -/
theorem SH.finish {w0 w : World} {qb N g off cap : Nat} {cur : List Value} {c : CQ} {e : Ev} {on : List (Rn × Value)} {told : List (Mt × Value)} {vf : Value} {zs : List Value} (h : SH w0 w qb N g off cap cur c e c.rs.length on told vf) (hc : CUR cur off cap c) (hok : QOk c) (hmax : cap ≤ maxLen)
    (hz : zs.length = (c.rs.length - on.length) * 3) (hN : w0.heap.size ≤ N) :
    let c1 : CQ := { c with vr := .slice (some ⟨g, off, none⟩) on.length cap, rs := on, vf := vf, fs := c.fs ++ told }
    let w1 := (w.setCells g (off + on.length * 3) zs).setCell ⟨qb, 3, none⟩ (.slice (some ⟨g, off, none⟩) on.length cap)
    QY w1 qb c1 ∧ c1.abs = shownQ c.abs e ∧ Fr (c.blocks qb) w0 w1 ∧ (∀ b ∈ c1.blocks qb, b ∈ c.blocks qb ∨ w0.heap.size ≤ b) ∧ w1.heap[N]? = some (.cells (evC e).toArray 56 (0, 0)) ∧ N ∉ c1.blocks qb := by
  intro c1 w1
  have hle := h.le
  have hlen := hc.len
  have hcap := hc.cap
  have hnil : (on ++ c.rs.drop c.rs.length).map rp ++ (c.fs ++ told).map fp = c1.evl := by simp [CQ.evl, c1]
  have hown := h.own
  rw [hnil] at hown
  have hset : ∀ b, b ≠ g → b ≠ qb → w1.heap[b]? = w.heap[b]? := fun b h1 h2 => by
    show ((w.setCells g _ zs).setCell ⟨qb, 3, none⟩ _).heap[b]? = _
    rw [Below.heap_setCell _ _ _ _ (by simpa using h2), setCells_other g h1]
  have hnd := (List.nodup_append.1 hown.nd).1
  have hgq : g ≠ qb := by
    intro e
    have := (List.nodup_append.1 hnd).2.1
    simp [e] at this
  have hne : ∀ b, b ∈ vf.ownBlock.toList ++ [N, c.pg] → b ≠ g ∧ b ≠ qb := by
    intro b hb
    have hp : (vf.ownBlock.toList ++ [N, g, qb, c.pg]).Perm ([g, qb] ++ (vf.ownBlock.toList ++ [N, c.pg])) := by
      have h1 : [N, g, qb, c.pg].Perm ([g, qb] ++ [N, c.pg]) := (List.Perm.swap g N [qb, c.pg]).trans (List.Perm.cons g (List.Perm.swap qb N [c.pg]))
      exact (List.Perm.append_left _ h1).trans (List.perm_append_comm_assoc _ _ _)
    have h2 := (List.nodup_append.1 (hp.nodup_iff.1 hnd)).2.2
    exact ⟨fun e => h2 g (by simp) b hb e.symm, fun e => h2 qb (by simp) b hb e.symm⟩
  have hev : ∀ b ∈ eblk c1.evl, b ≠ g ∧ b ≠ qb := fun b hb => ⟨fun e => by subst e; exact hown.disj (by simp) hb, fun e => by subst e; exact hown.disj (by simp) hb⟩
  have hsz : w1.heap.size = w.heap.size := by
    show ((w.setCells g _ zs).setCell ⟨qb, 3, none⟩ _).heap.size = _
    simp [World.setCell, setCells_size]
  have hbase : c1.base qb = vf.ownBlock.toList ++ [g, qb, c.pg] := by simp [CQ.base, c1, Value.ownBlock]
  have hO1 : OWN w1 (vf.ownBlock.toList ++ [N, g, qb, c.pg]) c1.evl := hown.same (by rw [hsz]; exact Nat.le_refl _) (fun b hb => hset b (hev b hb).1 (hev b hb).2)
  have hO2 : OWN w1 (N :: c1.base qb) c1.evl := by
    rw [hbase]
    exact hO1.baseperm List.perm_middle
  refine ⟨⟨?_, ?_, ?_, ?_, ?_, ?_⟩, ?_, ?_, ?_, ?_, ?_⟩
  · have hb : (w.setCells g (off + on.length * 3) zs).heap[qb]? = some (.cells (qCells c (.slice (some ⟨g, off, none⟩) c.rs.length cap) vf) 143 (0, 0)) := by
      rw [setCells_other g hgq.symm]; exact h.blk
    show ((w.setCells g _ zs).setCell ⟨qb, 3, none⟩ _).heap[qb]? = _
    rw [heap_setCell_same _ qb 3 _ _ _ hb]
    rfl
  · exact h.stp.same (hset c.pg (hne c.pg (by simp)).1 (hne c.pg (by simp)).2)
  · have h0 : (cur.take off ++ on.flatMap (runC c.pg c.st.length c.pc)).length = off + on.length * 3 := by
      rw [List.length_append, runC_len, List.length_take]
      omega
    have hcells : w1.heap[g]? = some (.cells (cur.take off ++ on.flatMap (runC c.pg c.st.length c.pc) ++ zs ++ cur.drop (off + on.length * 3 + zs.length)).toArray 177 (0, 0)) := by
      show ((w.setCells g _ zs).setCell ⟨qb, 3, none⟩ _).heap[g]? = _
      rw [Below.heap_setCell _ _ _ _ (by simpa using hgq), heap_setCells_same g _ _ _ _ _ h.cells (by rw [List.length_append, h0, List.length_drop]; omega)]
      congr 3
      rw [List.take_append_of_le_length (by rw [h0]; exact Nat.le_refl _), List.take_of_length_le (by rw [h0]; exact Nat.le_refl _), List.drop_append, h0]
      rw [List.drop_of_length_le (by rw [h0]; omega), List.nil_append, List.drop_drop]
      congr 2
      omega
    refine ⟨runC_len _ _ _ _, Or.inr ⟨g, off, cap, _, rfl, hcells, by show on.length ≤ cap; omega, hmax, ?_, ?_⟩⟩
    · simp only [List.size_toArray, List.length_append, List.length_drop, h0]
      omega
    · show List.take (on.length * 3) (List.drop off (cur.take off ++ on.flatMap (runC c.pg c.st.length c.pc) ++ zs ++ _)) = _
      have ht : (cur.take off).length = off := by rw [List.length_take]; omega
      rw [List.append_assoc, List.append_assoc, List.drop_append_of_le_length (by rw [ht]; exact Nat.le_refl _), List.drop_of_length_le (by rw [ht]; exact Nat.le_refl _), List.nil_append]
      rw [List.take_append_of_le_length (by rw [runC_len]; exact Nat.le_refl _), List.take_of_length_le (by rw [runC_len]; exact Nat.le_refl _)]
  · have := h.found.same (w' := w1) (fun k hk => hset k (hne k (by simp [hk])).1 (hne k (by simp [hk])).2)
    simpa [c1] using this
  · exact ⟨hO2.ev, (List.nodup_cons.1 hO2.nd).2, fun b hb => hO2.lt b (List.mem_cons_of_mem _ hb)⟩
  · exact ⟨hok.s1, hok.s8, hok.pc, hok.alt, hok.w0, hok.w1, h.ook⟩
  · simp only [CQ.abs, shownQ, c1, List.map_append]
    rw [h.aon, h.ato, List.take_of_length_le (Nat.le_refl _)]
  · exact (h.fr.setCells (Or.inl h.gin) _ _).setCell (Or.inl (by simp [CQ.blocks, CQ.base])) _
  · intro b hb
    rcases List.mem_append.1 hb with hb | hb
    · rw [hbase] at hb
      rcases List.mem_append.1 hb with hb | hb
      · exact h.sub b (Or.inl (by simpa using hb))
      · simp at hb
        rcases hb with rfl | rfl | rfl
        · exact Or.inl h.gin
        · exact Or.inl (by simp [CQ.blocks, CQ.base])
        · exact Or.inl (by simp [CQ.blocks, CQ.base])
    · exact h.sub b (Or.inr (by rw [hnil]; exact hb))
  · rw [hset N (hne N (by simp)).1 (hne N (by simp)).2]; exact h.box
  · exact (List.nodup_cons.1 hO2.nd).1
end Go.Proofs.YtbgfannlfagoiaaDoor

namespace Go.Proofs.YtbgfannlfagoiaaDoor
open Go.RowKit Go.Lull
set_option linter.unusedVariables false

/-- A query that has a run more, or a match. -/
def addedQ (q : Qy) (e : Ev) : Qy := if q.st.length = 1 then { q with found := q.found ++ [⟨q.num, e.2.1, [e]⟩] } else { q with runs := q.runs ++ [⟨e.2.1 + q.wn, [e], 1⟩] }
theorem beginQ_fits {q : Qy} {e : Ev} (h : fitsB (q.st.getD 0 noStep) e = true) : beginQ q e = addedQ q e := by unfold beginQ; rw [if_pos h]; rfl
theorem beginQ_not {q : Qy} {e : Ev} (h : fitsB (q.st.getD 0 noStep) e = false) : beginQ q e = q := by unfold beginQ; rw [if_neg (by rw [h]; simp)]

theorem own_one {w : World} {g : Nat} {e : Ev} (h : w.heap[g]? = some (.cells (evC e).toArray 56 (0, 0))) : EvR w (.slice (some ⟨g, 0, none⟩) 1 1) [e] :=
  ⟨by simp [evC], Or.inr ⟨g, 1, _, rfl, Nat.zero_le _, h, Nat.le_refl _, by unfold maxLen; omega, rfl, by simp [evC]⟩⟩

theorem addQ_any (w : World) (qb g3 : Nat) (c : CQ) (ev : Ev) (lp : Option Addr) (lc : Nat) (hQ : QY w qb c) (hev : w.heap[g3]? = some (.cells (evC ev).toArray 56 (0, 0))) (hg3 : g3 ∉ c.blocks qb) (hlp : 1 < c.st.length → lp = some ⟨c.pg, 1, none⟩ ∧ lc = c.pc - 1)
    (hn : c.fs.length + c.rs.length ≤ 1073741824) (ht0 : 0 ≤ ev.2.1) (ht1 : ev.2.1 ≤ 1000000) :
    Calls Tryd.prog 149 #[.pointer (some ⟨qb, 0, none⟩), .agg #[.int .i64 (ev.2.1 + c.wn), .slice (some ⟨g3, 0, none⟩) 1 1, .slice lp (c.st.length - 1) lc]] w fun e w' => e = .returned (.tuple #[]) ∧ ∃ c', QY w' qb c' ∧ c'.abs = addedQ c.abs ev ∧ Fr (c.blocks qb) w w' ∧ (∀ b ∈ c'.blocks qb, b ∈ c.blocks qb ∨ b = g3 ∨ w.heap.size ≤ b) := by
  have hok := hQ.ok
  have hg3l := lt_of_block hev
  have hbb : ∀ b ∈ c.base qb, b ∈ c.blocks qb := fun b hb => List.mem_append_left _ hb
  have hown0 : OWN w (c.base qb) ((([ev], (.slice (some ⟨g3, 0, none⟩) 1 1 : Value)) : List Ev × Value) :: c.evl) := hQ.own.cons (own_one hev) (fun b hb => by
    obtain rfl : g3 = b := Option.some.inj hb
    exact ⟨fun hm => hg3 (List.mem_append_left _ hm), fun hm => hg3 (List.mem_append_right _ hm)⟩)
  have hnd := (List.nodup_append.1 hQ.own.nd).1
  by_cases h1 : c.st.length = 1
  · have hz : c.st.length - 1 = 0 := by omega
    rw [hz]
    refine (addr_tell w qb c.fs.length c.num (ev.2.1 + c.wn) ev.2.1 _ _ c.vr c.vf g3 1 1 lc lp _ (by omega) (by omega) hg3l hQ.blk hQ.found (by rw [cell_of_row w g3 1 _ _ _ hev]; rfl)).mono ?_
    rintro e w' ⟨rfl, vf', hb1, hr1, hf1, hv1⟩
    have hdis : ∀ b ∈ qb :: c.vf.ownBlock.toList, b ∉ eblk ((([ev], (.slice (some ⟨g3, 0, none⟩) 1 1 : Value)) : List Ev × Value) :: c.evl) := by
      intro b hb hm
      refine hown0.disj (b := b) ?_ hm
      rcases List.mem_cons.1 hb with rfl | hb
      · simp [CQ.base]
      · simp only [CQ.base]; exact List.mem_append_left _ hb
    have hoth : ∀ b, b ∈ c.vr.ownBlock.toList ++ [c.pg] → w'.heap[b]? = w.heap[b]? := by
      intro b hb
      have hp : (c.base qb).Perm ((qb :: c.vf.ownBlock.toList) ++ (c.vr.ownBlock.toList ++ [c.pg])) := by
        unfold CQ.base
        have h1 : (c.vr.ownBlock.toList ++ [qb, c.pg]).Perm (qb :: (c.vr.ownBlock.toList ++ [c.pg])) := List.perm_middle
        exact (List.Perm.append_left _ h1).trans (List.perm_middle.trans (by rw [List.cons_append]))
      have h2 := (List.nodup_append.1 (hp.nodup_iff.1 hnd)).2.2
      refine hf1.block b (hQ.own.lt b (hp.mem_iff.2 (List.mem_append_right _ hb))) (fun hm => h2 b hm b hb rfl)
    refine ⟨rfl, { c with vf := vf', fs := c.fs ++ [(⟨c.num, ev.2.1, [ev]⟩, .slice (some ⟨g3, 0, none⟩) 1 1)] }, ⟨hb1, hQ.stp.same (hoth c.pg (by simp)), hQ.runs.same (fun k hk => hoth k (by simp [hk])), ?_, ?_, ⟨hok.s1, hok.s8, hok.pc, hok.alt, hok.w0, hok.w1, hok.rok⟩⟩, ?_, ?_, ?_⟩
    · rw [List.length_append, List.flatMap_append]
      simpa [matC] using hr1
    · have hm := hown0.move (v := c.vf) (v' := vf') (B := c.vr.ownBlock.toList ++ [qb, c.pg]) hv1 (fun b hb => hr1.lt b hb) hf1 hdis
      refine OWN.perm hm ?_
      show List.Perm _ (c.rs.map rp ++ (c.fs ++ [_]).map fp)
      rw [List.map_append, ← List.append_assoc]
      exact List.perm_append_comm (l₁ := [_])
    · simp [CQ.abs, addedQ, h1]
    · refine hf1.mono (fun b hb => Or.inl (hbb b ?_))
      rcases List.mem_cons.1 hb with rfl | hb
      · simp [CQ.base]
      · simp only [CQ.base]; exact List.mem_append_left _ hb
    · intro b hb
      rcases List.mem_append.1 hb with hb | hb
      · have hb' : b ∈ vf'.ownBlock.toList ++ (c.vr.ownBlock.toList ++ [qb, c.pg]) := hb
        rcases List.mem_append.1 hb' with hb | hb
        · rcases hv1 b (by simpa using hb) with h2 | h2
          · exact Or.inl (hbb b (by simp [CQ.base, h2]))
          · exact Or.inr (Or.inr h2)
        · exact Or.inl (hbb b (by simp only [CQ.base]; exact List.mem_append_right _ hb))
      · have hb' : b ∈ eblk (c.rs.map rp ++ (c.fs ++ [((⟨c.num, ev.2.1, [ev]⟩ : Mt), (.slice (some ⟨g3, 0, none⟩) 1 1 : Value))]).map fp) := hb
        rw [List.map_append, ← List.append_assoc, eblk_append] at hb'
        rcases List.mem_append.1 hb' with hb | hb
        · exact Or.inl (List.mem_append_right _ hb)
        · simp [eblk, fp, Value.ownBlock] at hb
          exact Or.inr (Or.inl hb)
  · have hs1 := hok.s1
    obtain ⟨rfl, rfl⟩ := hlp (by omega)
    refine (addr_more w qb c.rs.length (ev.2.1 + c.wn) _ _ _ c.vr c.vf 1 1 (some ⟨g3, 0, none⟩) (c.st.length - 1) (c.pc - 1) (some ⟨c.pg, 1, none⟩) _ (by omega) (by omega) hQ.blk hQ.runs).mono ?_
    rintro e w' ⟨rfl, vr', hb1, hr1, hf1, hv1⟩
    have hown1 : OWN w (c.vr.ownBlock.toList ++ (c.vf.ownBlock.toList ++ [qb, c.pg])) ((([ev], (.slice (some ⟨g3, 0, none⟩) 1 1 : Value)) : List Ev × Value) :: c.evl) := hown0.baseperm (List.perm_append_comm_assoc _ _ _)
    have hdis : ∀ b ∈ qb :: c.vr.ownBlock.toList, b ∉ eblk ((([ev], (.slice (some ⟨g3, 0, none⟩) 1 1 : Value)) : List Ev × Value) :: c.evl) := by
      intro b hb hm
      refine hown1.disj (b := b) ?_ hm
      rcases List.mem_cons.1 hb with rfl | hb
      · simp
      · exact List.mem_append_left _ hb
    have hoth : ∀ b, b ∈ c.vf.ownBlock.toList ++ [c.pg] → w'.heap[b]? = w.heap[b]? := by
      intro b hb
      have hp : (c.base qb).Perm ((qb :: c.vr.ownBlock.toList) ++ (c.vf.ownBlock.toList ++ [c.pg])) := by
        unfold CQ.base
        refine (List.perm_append_comm_assoc _ _ _).trans ?_
        have h1 : (c.vf.ownBlock.toList ++ [qb, c.pg]).Perm (qb :: (c.vf.ownBlock.toList ++ [c.pg])) := List.perm_middle
        exact (List.Perm.append_left _ h1).trans (List.perm_middle.trans (by rw [List.cons_append]))
      have h2 := (List.nodup_append.1 (hp.nodup_iff.1 hnd)).2.2
      refine hf1.block b (hQ.own.lt b (hp.mem_iff.2 (List.mem_append_right _ hb))) (fun hm => h2 b hm b hb rfl)
    refine ⟨rfl, { c with vr := vr', rs := c.rs ++ [(⟨ev.2.1 + c.wn, [ev], 1⟩, .slice (some ⟨g3, 0, none⟩) 1 1)] }, ⟨hb1, hQ.stp.same (hoth c.pg (by simp)), ?_, hQ.found.same (fun k hk => hoth k (by simp [hk])), ?_, ⟨hok.s1, hok.s8, hok.pc, hok.alt, hok.w0, hok.w1, ?_⟩⟩, ?_, ?_, ?_⟩
    · rw [List.length_append, List.flatMap_append]
      simpa [runC] using hr1
    · have hm := hown1.move (v := c.vr) (v' := vr') (B := c.vf.ownBlock.toList ++ [qb, c.pg]) hv1 (fun b hb => hr1.lt b hb) hf1 hdis
      refine (OWN.perm hm ?_).baseperm (List.perm_append_comm_assoc _ _ _)
      show List.Perm _ ((c.rs ++ [_]).map rp ++ c.fs.map fp)
      rw [List.map_append, List.append_assoc]
      exact List.perm_middle.symm
    · intro x hx
      rcases List.mem_append.1 hx with hx | hx
      · exact hok.rok x hx
      · rw [List.mem_singleton.1 hx]
        have hw0 := hok.w0
        have hw1 := hok.w1
        exact ⟨Nat.le_refl _, by show 1 < c.st.length; omega, Nat.le_refl _, by show 0 ≤ ev.2.1 + c.wn; omega, by show ev.2.1 + c.wn ≤ 1001000; omega⟩
    · simp [CQ.abs, addedQ, h1]
    · refine hf1.mono (fun b hb => Or.inl (hbb b ?_))
      rcases List.mem_cons.1 hb with rfl | hb
      · simp [CQ.base]
      · simp only [CQ.base]; exact List.mem_append_right _ (List.mem_append_left _ hb)
    · intro b hb
      rcases List.mem_append.1 hb with hb | hb
      · have hb' : b ∈ c.vf.ownBlock.toList ++ (vr'.ownBlock.toList ++ [qb, c.pg]) := hb
        rcases List.mem_append.1 hb' with hb | hb
        · exact Or.inl (hbb b (by simp only [CQ.base]; exact List.mem_append_left _ hb))
        · rcases List.mem_append.1 hb with hb | hb
          · rcases hv1 b (by simpa using hb) with h2 | h2
            · exact Or.inl (hbb b (by simp [CQ.base, h2]))
            · exact Or.inr (Or.inr h2)
          · exact Or.inl (hbb b (by simp only [CQ.base]; exact List.mem_append_right _ (List.mem_append_right _ hb)))
      · have hb' : b ∈ eblk ((c.rs ++ [((⟨ev.2.1 + c.wn, [ev], 1⟩ : Rn), (.slice (some ⟨g3, 0, none⟩) 1 1 : Value))]).map rp ++ c.fs.map fp) := hb
        rw [List.map_append, eblk_append, eblk_append] at hb'
        rcases List.mem_append.1 hb' with hb | hb
        · rcases List.mem_append.1 hb with hb | hb
          · exact Or.inl (List.mem_append_right _ (by rw [CQ.evl, eblk_append]; exact List.mem_append_left _ hb))
          · simp [eblk, rp, Value.ownBlock] at hb
            exact Or.inr (Or.inl hb)
        · exact Or.inl (List.mem_append_right _ (by rw [CQ.evl, eblk_append]; exact List.mem_append_right _ hb))
end Go.Proofs.YtbgfannlfagoiaaDoor
