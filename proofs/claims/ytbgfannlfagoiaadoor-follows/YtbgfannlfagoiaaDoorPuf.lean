import Derived.Test.YtbgfannlfagoiaaDoorPure
namespace Go.Lull
set_option linter.unusedVariables false

theorem fold_le : ∀ (l : List Int) (a : Int), l.foldl lessI a ≤ a ∧ ∀ x ∈ l, l.foldl lessI a ≤ x
  | [], a => ⟨Int.le_refl _, fun x hx => by cases hx⟩
  | y :: l, a => by
    obtain ⟨h1, h2⟩ := fold_le l (lessI a y)
    have h3 : lessI a y ≤ a ∧ lessI a y ≤ y := by unfold lessI; split <;> omega
    rw [List.foldl_cons]
    refine ⟨by omega, fun x hx => ?_⟩
    rcases List.mem_cons.1 hx with rfl | hx
    · omega
    · exact h2 x hx
theorem fold_mem : ∀ (l : List Int) (a : Int), l.foldl lessI a = a ∨ l.foldl lessI a ∈ l
  | [], a => Or.inl rfl
  | y :: l, a => by
    rw [List.foldl_cons]
    rcases fold_mem l (lessI a y) with h | h
    · unfold lessI at h ⊢
      split
      · rename_i hy
        rw [if_pos hy] at h
        exact Or.inr (by rw [h]; exact List.mem_cons_self)
      · rename_i hy
        rw [if_neg hy] at h
        exact Or.inl h
    · exact Or.inr (List.mem_cons_of_mem _ h)
theorem markB_le {l : List Int} {x : Int} (h : x ∈ l) : markB l ≤ x := by
  cases l with
  | nil => cases h
  | cons m r =>
    obtain ⟨h1, h2⟩ := fold_le r m
    rcases List.mem_cons.1 h with rfl | h
    · exact h1
    · exact h2 x h
theorem markB_mem {l : List Int} (h : l ≠ []) : markB l ∈ l := by
  cases l with
  | nil => exact absurd rfl h
  | cons m r =>
    rcases fold_mem r m with h1 | h1
    · show r.foldl lessI m ∈ _
      rw [h1]; exact List.mem_cons_self
    · exact List.mem_cons_of_mem _ h1
theorem markB_mono {l l' : List Int} (h : l' ≠ []) (hm : ∀ x ∈ l', ∃ y ∈ l, y ≤ x) : markB l ≤ markB l' := by
  obtain ⟨y, hy, hle⟩ := hm _ (markB_mem h)
  exact Int.le_trans (markB_le hy) hle
theorem set_mono {l : List Int} {i : Nat} {t : Int} (h : l.getD i 0 ≤ t) (hne : l ≠ []) : markB l ≤ markB (l.set i t) := by
  have hne' : l.set i t ≠ [] := by simpa using hne
  refine markB_mono hne' (fun x hx => ?_)
  rcases List.mem_or_eq_of_mem_set hx with h1 | h1
  · exact ⟨x, h1, Int.le_refl _⟩
  · by_cases hi : i < l.length
    · refine ⟨l[i], List.getElem_mem hi, ?_⟩
      rw [h1]
      simpa [List.getD, hi] using h
    · rw [List.set_eq_of_length_le (by omega)] at hx
      exact ⟨x, hx, Int.le_refl _⟩

/-- Events are fed: i of them are offered. -/
structure FS (q0 : List Qy) (z : Nat × Nat × Nat) (l : List Ev) (i : Nat) (s : En) : Prop where
  so : SO i s
  eq : (s.buf, s.qs) = pass (markB s.marks) (putAll [] (l.take i), q0)
  fut : ∀ e ∈ l.drop i, ∀ m ∈ s.marks, m ≤ e.2.1
  hi : ∀ m ∈ s.marks, 0 ≤ m ∧ m ≤ 2000000
  rest : (s.next, s.tq, s.tr) = z
theorem ml_none {qs : List Qy} (h : ∀ q ∈ qs, q.runs = []) : ml qs = none := by
  induction qs with
  | nil => rfl
  | cons q r ih =>
    unfold ml
    rw [h q List.mem_cons_self]
    exact ih (fun x hx => h x (List.mem_cons_of_mem _ hx))
theorem FS.start {s : En} {l : List Ev} (hso : SO 0 s) (hm : s.marks = [1, 1, 1]) (hr : ∀ q ∈ s.qs, q.runs = []) (hl : ∀ e ∈ l, 1 ≤ e.2.1) : FS s.qs (s.next, s.tq, s.tr) l 0 s := by
  have hb : s.buf = [] := List.eq_nil_of_length_eq_zero (by have := hso.bl; omega)
  refine ⟨hso, ?_, ?_, ?_, rfl⟩
  · rw [pass_still]
    · rw [hb]; rfl
    · exact ⟨(fun b hb => by cases hb), (fun t ht => by have ht' : t ∈ ml s.qs := ht; rw [ml_none hr] at ht'; cases ht')⟩
  · intro e he m hm'
    rw [hm] at hm'
    have := hl e he
    simp at hm'
    omega
  · intro m hm'
    rw [hm] at hm'
    simp at hm'
    omega
section
variable {q0 : List Qy} {z : Nat × Nat × Nat} {l : List Ev} {i : Nat} {s : En}
theorem FS.mark (h : FS q0 z l i s) (hlt : i < l.length) : markB s.marks ≤ l[i].2.1 := by
  have hne : s.marks ≠ [] := fun e => by have := h.so.m3; rw [e] at this; cases this
  exact h.fut l[i] (by rw [List.drop_eq_getElem_cons hlt]; exact List.mem_cons_self) _ (markB_mem hne)
theorem FS.offer (h : FS q0 z l i s) (hlt : i < l.length) (h0 : 0 ≤ l[i].2.1) (h1 : l[i].2.1 ≤ 1000000) : FS q0 z l (i + 1) { s with buf := putB s.buf l[i] } := by
  refine ⟨h.so.put h0 h1, ?_, ?_, h.hi, h.rest⟩
  · have hp := pass_put (M := markB s.marks) (e := l[i]) (h.mark hlt) (putAll [] (l.take i), q0)
    rw [List.take_succ_eq_append_getElem hlt, putAll_snoc]
    show (putB s.buf l[i], s.qs) = pass (markB s.marks) (putB (putAll [] (l.take i)) l[i], q0)
    rw [hp, ← h.eq]
  · intro e he
    exact h.fut e (by rw [List.drop_eq_getElem_cons hlt]; exact List.mem_cons_of_mem _ he)
theorem FS.beat (h : FS q0 z l i s) (a t : Int) (ht : ∀ e ∈ l.drop i, t ≤ e.2.1) (h0 : 0 ≤ t) (h2 : t ≤ 2000000) : FS q0 z l i (beatE s a t).2 := by
  have hne : s.marks ≠ [] := fun e => by have := h.so.m3; rw [e] at this; cases this
  have hso := h.so.beat a t
  unfold beatE at hso ⊢
  split
  · exact h
  · rename_i hn
    rw [if_neg hn] at hso
    split
    · exact h
    · rename_i hl
      rw [if_neg hl] at hso
      refine ⟨hso, ?_, ?_, ?_, h.rest⟩
      · show ((pass (markB (s.marks.set a.toNat t)) (s.buf, s.qs)).1, (pass (markB (s.marks.set a.toNat t)) (s.buf, s.qs)).2) = _
        rw [h.eq, pass_trans (set_mono (by omega) hne)]
      · intro e he m hm
        rcases List.mem_or_eq_of_mem_set hm with h3 | h3
        · exact h.fut e he m h3
        · rw [h3]; exact ht e he
      · intro m hm
        rcases List.mem_or_eq_of_mem_set hm with h3 | h3
        · exact h.hi m h3
        · rw [h3]; exact ⟨h0, h2⟩
/-- The last beats. -/
def lastE (s : En) : En := (beatE (beatE (beatE s 0 2000000).2 1 2000000).2 2 2000000).2
theorem beat_top {s : En} (h3 : s.marks.length = 3) (hi : ∀ m ∈ s.marks, 0 ≤ m ∧ m ≤ 2000000) {k : Nat} (hk : k < 3) : (beatE s k 2000000).1 = 0 ∧ (beatE s k 2000000).2.marks = s.marks.set k 2000000 := by
  have hg : s.marks.getD (k : Int).toNat 0 ≤ 2000000 := by
    have hk' : k < s.marks.length := by omega
    have : s.marks.getD k 0 = s.marks[k] := by simp [List.getD, hk']
    show s.marks.getD k 0 ≤ 2000000
    rw [this]
    exact (hi _ (List.getElem_mem hk')).2
  unfold beatE
  rw [if_neg (by omega), if_neg (by omega)]
  exact ⟨rfl, rfl⟩
theorem FS.last (h : FS q0 z l l.length s) : (beatE s 0 2000000).1 = 0 ∧ (beatE (beatE s 0 2000000).2 1 2000000).1 = 0 ∧ (beatE (beatE (beatE s 0 2000000).2 1 2000000).2 2 2000000).1 = 0 ∧
    ((lastE s).buf, (lastE s).qs) = pass 2000000 (putAll [] l, q0) ∧ SO l.length (lastE s) ∧ ((lastE s).next, (lastE s).tq, (lastE s).tr) = z ∧ (lastE s).marks = [2000000, 2000000, 2000000] ∧ FS q0 z l l.length (beatE s 0 2000000).2 ∧ FS q0 z l l.length (beatE (beatE s 0 2000000).2 1 2000000).2 := by
  have hd : l.drop l.length = [] := List.drop_length
  have f1 := h.beat 0 2000000 (by rw [hd]; simp) (by omega) (by omega)
  have f2 := f1.beat 1 2000000 (by rw [hd]; simp) (by omega) (by omega)
  have f3 := f2.beat 2 2000000 (by rw [hd]; simp) (by omega) (by omega)
  have b1 := beat_top (k := 0) h.so.m3 h.hi (by omega)
  have b2 := beat_top (k := 1) f1.so.m3 f1.hi (by omega)
  have b3 := beat_top (k := 2) f2.so.m3 f2.hi (by omega)
  have hm : (lastE s).marks = [2000000, 2000000, 2000000] := by
    have e1 : (lastE s).marks = ((s.marks.set 0 2000000).set 1 2000000).set 2 2000000 := by
      show (beatE (beatE (beatE s 0 2000000).2 1 2000000).2 ((2 : Nat) : Int) 2000000).2.marks = _
      rw [b3.2]
      show (beatE (beatE s 0 2000000).2 ((1 : Nat) : Int) 2000000).2.marks.set 2 2000000 = _
      rw [b2.2]
      show ((beatE s ((0 : Nat) : Int) 2000000).2.marks.set 1 2000000).set 2 2000000 = _
      rw [b1.2]
    rw [e1]
    have h3 := h.so.m3
    match hs : s.marks, h3 with
    | [a, b, c], _ => rfl
  refine ⟨b1.1, b2.1, b3.1, ?_, f3.so, f3.rest, hm, f1, f2⟩
  have := f3.eq
  rw [List.take_length] at this
  have e2 : markB (lastE s).marks = 2000000 := by rw [hm]; rfl
  rw [← e2]; exact this
end
/-- The least time of what is still to come, at most 100. -/
def leastB (l : List Ev) : Int := l.foldl (fun a e => lessI a e.2.1) 100
theorem least_fold : ∀ (l : List Ev) (a : Int), (l.foldl (fun a e => lessI a e.2.1) a ≤ a ∧ ∀ e ∈ l, l.foldl (fun a e => lessI a e.2.1) a ≤ e.2.1) ∧ ((∀ e ∈ l, 1 ≤ e.2.1) → 1 ≤ a → 1 ≤ l.foldl (fun a e => lessI a e.2.1) a)
  | [], a => ⟨⟨Int.le_refl _, fun e he => by cases he⟩, fun _ h => h⟩
  | x :: l, a => by
    obtain ⟨⟨h1, h2⟩, h4⟩ := least_fold l (lessI a x.2.1)
    have h3 : lessI a x.2.1 ≤ a ∧ lessI a x.2.1 ≤ x.2.1 := by unfold lessI; split <;> omega
    rw [List.foldl_cons]
    refine ⟨⟨by omega, fun e he => ?_⟩, fun hl ha => h4 (fun e he => hl e (List.mem_cons_of_mem _ he)) ?_⟩
    · rcases List.mem_cons.1 he with rfl | he
      · omega
      · exact h2 e he
    · have := hl x List.mem_cons_self
      unfold lessI; split <;> omega
theorem leastB_le (l : List Ev) : leastB l ≤ 100 ∧ ∀ e ∈ l, leastB l ≤ e.2.1 := (least_fold l 100).1
theorem leastB_ge (l : List Ev) (h : ∀ e ∈ l, 1 ≤ e.2.1) : 1 ≤ leastB l := (least_fold l 100).2 h (by omega)
theorem leastB_snoc (l : List Ev) (e : Ev) : leastB (l ++ [e]) = lessI (leastB l) e.2.1 := by simp [leastB]
end Go.Lull

namespace Go.Lull
set_option linter.unusedVariables false

theorem drainE_at : ∀ (n k : Nat) (s : En) (h : k < (drainE n s).1.length), serveE (drainE k s).2 = some ((drainE n s).1[k], (drainE (k + 1) s).2)
  | 0, k, s, h => by simp [drainE] at h
  | n + 1, k, s, h => by
    cases hs : serveE s with
    | none => rw [drainE_none hs] at h; simp at h
    | some x =>
      obtain ⟨m, s'⟩ := x
      cases k with
      | zero =>
        have e1 : (drainE 0 s).2 = s := rfl
        have e2 : (drainE (0 + 1) s).2 = s' := by rw [drainE_some hs]; rfl
        rw [e1, e2, hs]
        simp only [drainE_some hs, List.getElem_cons_zero]
      | succ k =>
        have h' : k < (drainE n s').1.length := by rw [drainE_some hs] at h; simpa using h
        have := drainE_at n k s' h'
        rw [show (drainE (k + 1) s).2 = (drainE k s').2 by rw [drainE_some hs], show (drainE (k + 1 + 1) s).2 = (drainE (k + 1) s').2 by rw [drainE_some hs], this]
        simp only [drainE_some hs, List.getElem_cons_succ]

def N13 (qs : List Qy) : Prop := ∀ q ∈ qs, 1 ≤ q.num ∧ q.num ≤ 3
theorem N13.pop {qs : List Qy} (h : N13 qs) (n : Nat) : N13 (popQ n qs) := by
  intro q hq
  obtain ⟨a, ha, rfl⟩ := List.mem_map.1 hq
  have := h a ha
  split <;> exact this
theorem wq_empty {n : Nat} {j : Int} (hj : j ≠ (n : Int)) : ∀ (qs : List Qy), (∀ q ∈ qs, q.num ≠ n → q.found = []) → wq qs j = 0
  | [], _ => rfl
  | q :: qs, h => by
    rw [wq_cons]
    split
    · rename_i e
      rw [h q List.mem_cons_self (by intro e2; omega)]; rfl
    · exact wq_empty hj qs (fun x hx => h x (List.mem_cons_of_mem _ hx))
def prevOf (A : List Mt) : Nat → Option Nat
  | 0 => none
  | k + 1 => (A[k]?).map (·.q)
/-- The looker-on, after k matches. -/
structure FR (A : List Mt) (s : En) (k : Nat) (sk : En) (row : Nat) : Prop where
  eq : sk = (drainE k s).2
  fi : FI sk row (prevOf A k)
  n3 : N13 sk.qs
  le : row ≤ k
theorem FR.start (A : List Mt) {s : En} (hn : NR s.qs) (hf : FQ s.qs) (h3 : N13 s.qs) (h0 : s.tq = 0) : FR A s 0 s 0 :=
  ⟨rfl, ⟨hn, hf, fun _ => ⟨rfl, fun q hq => by have := h3 q hq; omega⟩, fun p hp => by cases hp⟩, h3, Nat.le_refl _⟩
theorem nextRow_le (row : Nat) (p : Option Nat) (n : Nat) : nextRow row p n ≤ row + 1 := by
  unfold nextRow
  split
  · omega
  · split <;> omega
theorem FR.step {A : List Mt} {s sk : En} {k row n : Nat} (h : FR A s k sk row) (hA : A = (drainE n s).1) (hk : k < A.length) :
    ∃ s', (1 ≤ A[k].q ∧ A[k].q ≤ 3) ∧ wq sk.qs A[k].q ≠ 0 ∧ (2 < nextRow row (prevOf A k) A[k].q → wq sk.qs 1 + wq sk.qs 2 + wq sk.qs 3 ≤ wq sk.qs A[k].q) ∧ (∀ j : Int, wq s'.qs j = if j = (A[k].q : Int) then wq sk.qs j - 1 else wq sk.qs j) ∧ FR A s (k + 1) s' (nextRow row (prevOf A k) A[k].q) := by
  subst hA
  have hs := drainE_at n k s hk
  rw [← h.eq] at hs
  obtain ⟨f1, f2, ⟨q, hq, hq1, hq2⟩, f4⟩ := h.fi.step hs
  have h13 := h.n3 q hq
  have hw := wq_mem h.fi.nr hq
  rw [hq1] at h13 hw
  refine ⟨_, h13, ?_, ?_, ?_, ⟨rfl, ?_, by rw [f4]; exact h.n3.pop _, by have := nextRow_le row (prevOf (drainE n s).1 k) (drainE n s).1[k].q; have := h.le; omega⟩⟩
  · rw [hw]; intro e; exact hq2 (List.eq_nil_of_length_eq_zero e)
  · intro hr
    have he := f2 hr
    have hz : ∀ j : Int, j ≠ ((drainE n s).1[k].q : Int) → wq sk.qs j = 0 := fun j hj => wq_empty hj _ he
    obtain ⟨N, hN⟩ : ∃ N, (drainE n s).1[k].q = N := ⟨_, rfl⟩
    rw [hN] at hz h13 ⊢
    have : N = 1 ∨ N = 2 ∨ N = 3 := by omega
    rcases this with rfl | rfl | rfl
    · rw [hz 2 (by decide), hz 3 (by decide)]; simp
    · rw [hz 1 (by decide), hz 3 (by decide)]; simp
    · rw [hz 1 (by decide), hz 2 (by decide)]; simp
  · intro j; rw [f4, wq_pop]
  · have : prevOf (drainE n s).1 (k + 1) = some (drainE n s).1[k].q := by
      show ((drainE n s).1[k]?).map (·.q) = _
      rw [List.getElem?_eq_getElem hk]; rfl
    rw [this]; exact f1

/-! ### Remove of one of the three. -/
theorem wq_filter {n : Int} : ∀ (qs : List Qy) (j : Int), wq (qs.filter (fun q => !((q.num : Int) == n))) j = if j = n then 0 else wq qs j
  | [], j => by simp [wq]
  | q :: qs, j => by
    have ih := wq_filter (n := n) qs j
    by_cases h : (q.num : Int) = n
    · rw [List.filter_cons_of_neg (by simpa using h), ih, wq_cons]
      split
      · rfl
      · rw [if_neg (by omega)]
    · rw [List.filter_cons_of_pos (by simpa using h), wq_cons, wq_cons, ih]
      split
      · rw [if_neg (by omega)]
      · rfl
/-- What is left of three queries when one of them, or none, was taken away. -/
theorem remove_three {s : En} {k : Int} (hn : NR s.qs) (hf : FQ s.qs) (h3 : N13 s.qs) (hall : s.qs.map (·.num) = [1, 2, 3]) (h1 : 1 ≤ k) (h4 : k ≤ 4) :
    (removeE s k).1 = (if k < 4 then 0 else 4) ∧ NR (removeE s k).2.qs ∧ FQ (removeE s k).2.qs ∧ N13 (removeE s k).2.qs ∧ (k < 4 → wq (removeE s k).2.qs k = 0) ∧ totF (removeE s k).2.qs ≤ totF s.qs ∧ (removeE s k).2.tq = s.tq := by
  unfold removeE
  cases hfd : findE s k with
  | none =>
    have hno : ∀ q ∈ s.qs, ¬ (q.num : Int) = k := by
      intro q hq e
      have := List.find?_eq_none.1 hfd q hq
      simp at this; exact this e
    have hk4 : ¬ k < 4 := by
      intro hlt
      have : k.toNat ∈ s.qs.map (·.num) := by rw [hall]; simp; omega
      obtain ⟨q, hq, e⟩ := List.mem_map.1 this
      exact hno q hq (by omega)
    exact ⟨by rw [if_neg hk4], hn, hf, h3, fun h => absurd h hk4, Nat.le_refl _, rfl⟩
  | some q =>
    have hm : q ∈ s.qs := List.mem_of_find?_eq_some hfd
    have he : (q.num : Int) = k := by have := List.find?_some hfd; simpa using this
    have := h3 q hm
    refine ⟨by rw [if_pos (by omega)], List.Pairwise.filter _ hn, fun x hx => hf x (List.mem_filter.1 hx).1, fun x hx => h3 x (List.mem_filter.1 hx).1, fun _ => by rw [wq_filter, if_pos rfl], ?_, rfl⟩
    have hsub : ∀ (l : List Qy) (p : Qy → Bool), totF (l.filter p) ≤ totF l := by
      intro l p
      induction l with
      | nil => exact Nat.le_refl _
      | cons a l ih =>
        have e2 : ∀ (x : Qy) (l : List Qy), totF (x :: l) = x.found.length + totF l := fun _ _ => rfl
        by_cases hp : p a = true
        · rw [List.filter_cons_of_pos hp, e2, e2]; omega
        · rw [List.filter_cons_of_neg hp, e2]; omega
    exact hsub _ _
theorem pass_nums {M : Int} {B : List Ev} {qs : List Qy} : (pass M (B, qs)).2.map (·.num) = qs.map (·.num) := by
  rw [pass_alone, List.map_map]
  exact List.map_congr_left (fun q _ => passQ_num M B q)
theorem nums_n13 {qs : List Qy} (h : qs.map (·.num) = [1, 2, 3]) : N13 qs := by
  intro q hq
  have : q.num ∈ qs.map (·.num) := List.mem_map.2 ⟨q, hq, rfl⟩
  rw [h] at this
  simp at this; omega
end Go.Lull
