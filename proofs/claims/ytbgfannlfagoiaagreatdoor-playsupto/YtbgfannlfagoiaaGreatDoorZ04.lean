import Derived.Test.YtbgfannlfagoiaaGreatDoorZ03
import Derived.Test.YtbgfannlfagoiaaGreatDoorZ02
namespace Go.Lull
set_option linter.unusedVariables false

theorem filterMap_cong {α β : Type} {f g : α → Option β} : ∀ {l : List α}, (∀ x ∈ l, f x = g x) → l.filterMap f = l.filterMap g
 | [], _ => rfl
 | a :: l, h => by
  rw [List.filterMap_cons, List.filterMap_cons, h a List.mem_cons_self, filterMap_cong (l := l) (fun x hx => h x (List.mem_cons_of_mem _ hx))]
section
variable (st : List Stp) (w : Int)
/-- What a query was told: at events, or when deadlines were over. -/
def tellsG (n : Nat) (P : List Ev) (ended : List Rn) : List Mt := if lateB st = true then overL st n ended else foundE st w n [] P
structure GO (M : Int) (l : List Ev) (n : Nat) (s : List Ev × List Qy) : Prop where
 ex : ∃ q P ended live, s.2 = [q] ∧ P ++ s.1 = l ∧ runsOf st w P = ended ++ live ∧ q = ⟨n, st, w, live, tellsG st w n P ended⟩ ∧ (∀ r ∈ ended, r.dl < M) ∧ (∀ r ∈ ended, ∀ b ∈ s.1, r.dl < b.2.1)
theorem tw_dl (t : Int) : ∀ {L : List Rn} {r : Rn}, r ∈ L.takeWhile (fun r => r.dl == t) → r.dl = t
 | [], r, h => by cases h
 | a :: L, r, h => by
  rw [List.takeWhile_cons] at h
  split at h
  ·rename_i ha
   rcases List.mem_cons.1 h with rfl | h
   ·simpa using ha
   ·exact tw_dl t h
  ·cases h
theorem GO.step (hv : VP st) {M : Int} {l : List Ev} {n : Nat} (hl : TS l) {s : List Ev × List Qy} {d : Deed} (h : GO st w M l n s) (hd : firstD s.1 s.2 = some d) (hM : d.time < M) : GO st w M l n (doD s d) := by
 obtain ⟨q, P, ended, live, h1, h2, h3, h4, h5, h6⟩ := h.ex
 obtain ⟨Bf, qs⟩ := s
 simp only at h1 h2 h6
 subst h1
 have hP : TS P := List.Pairwise.sublist (by rw [← h2]; exact List.sublist_append_left _ _) hl
 have hsrt := runsOf_sorted st w hv.ne hP
 rw [h3] at hsrt
 have hlive := (List.pairwise_append.1 hsrt).2.1
 have hk : ∀ r ∈ ended ++ live, r.k < st.length := fun r hr => (runsOf_mem st w hv.ne (by rw [h3]; exact hr)).1
 cases d with
 | rel x =>
  obtain ⟨r, hr⟩ := firstD_rel hd
  simp only at hr
  subst hr
  have hge := first_rel hd
  have hPx : TS (P ++ [x]) := List.Pairwise.sublist (by rw [← h2]; simp) hl
  have hlx : ∀ e ∈ live, ¬ e.dl < x.2.1 := by
   intro e he
   cases hlv : live with
   | nil => rw [hlv] at he; cases he
   | cons a b =>
    have h7 := hge a b (by rw [h4, hlv])
    rw [hlv] at he hlive
    rcases List.mem_cons.1 he with rfl | he
    ·omega
    ·have := (List.pairwise_cons.1 hlive).1 e he
     omega
  have hex : ∀ e ∈ ended, e.dl < x.2.1 := fun e he => h6 e he x List.mem_cons_self
  have e1 : ended.filterMap (stepR st x) = ended := by
   conv => rhs; rw [← List.filterMap_some (l := ended)]
   exact filterMap_cong (fun e he => by simp [stepR, hex e he])
  have e2 : live.filterMap (stepR st x) = live.filterMap (keep1 st x) := filterMap_cong (fun e he => by simp [stepR, hlx e he])
  have e3 : ended.filterMap (toldR st n x) = [] := List.filterMap_eq_nil_iff.2 (fun e he => by simp [toldR, hex e he])
  have e4 : live.filterMap (toldR st n x) = live.filterMap (told1 n st x) := filterMap_cong (fun e he => by simp [toldR, hlx e he])
  refine ⟨showQ q x, P ++ [x], ended, live.filterMap (keep1 st x) ++ newR st w x, rfl, ?_, ?_, ?_, h5, ?_⟩
  ·rw [← h2]; simp [doD]
  ·rw [runsOf_snoc st w x P hPx, h3, List.filterMap_append, e1, e2, List.append_assoc]
  ·subst h4
   have hfound : tellsG st w n (P ++ [x]) ended = tellsG st w n P ended ++ (live.filterMap (told1 n st x) ++ (if fitsB (st.getD 0 noStep) x = true ∧ st.length = 1 then [⟨n, x.2.1, [x]⟩] else [])) := by
    unfold tellsG
    by_cases hL : lateB st = true
    ·rw [if_pos hL, if_pos hL]
     rw [List.filterMap_eq_nil_iff.2 (fun e he => late_told st hv hL n x (hk e (List.mem_append_right _ he)))]
     rw [if_neg (fun h => by
      unfold lateB at hL
      rw [h.2] at hL
      have := hv.first
      rw [this] at hL; cases hL)]
     simp
    ·rw [if_neg hL, if_neg hL]
     have := foundE_snoc st w n x P []
     rw [List.nil_append] at this
     rw [this]
     unfold toldAt
     rw [h3, List.filterMap_append, e3, e4, List.nil_append]
   rw [hfound]
   unfold showQ shownQ beginQ newR
   simp only
   generalize fitsB (st.getD 0 noStep) x = bf
   cases bf with
   | true =>
    by_cases h1 : st.length = 1
    ·rw [if_pos rfl, if_pos h1, if_neg (fun h => h.2 h1), if_pos ⟨rfl, h1⟩, List.append_nil, List.append_assoc]
    ·rw [if_pos rfl, if_neg h1, if_pos ⟨rfl, h1⟩, if_neg (fun h => h1 h.2), List.append_nil]
   | false =>
    rw [if_neg (by simp), if_neg (fun h => by cases h.1), if_neg (fun h => by cases h.1), List.append_nil, List.append_nil]
  ·intro t ht b hb
   exact h6 t ht b (List.mem_cons_of_mem _ hb)
 | fin t =>
  obtain ⟨⟨x, rl, hx, hxt⟩, hB⟩ := first_fin hd
  have hBf : TS Bf := List.Pairwise.sublist (by rw [← h2]; exact List.sublist_append_right _ _) hl
  have hB' : ∀ b ∈ Bf, t < b.2.1 := by
   intro b hb
   have := head_ge (c := t + 1) hBf (fun e r he => by have := hB e (by rw [he]; rfl); omega) b hb
   omega
  have htM : t < M := hM
  refine ⟨endQ q t, P, ended ++ live.takeWhile (fun r => r.dl == t), live.dropWhile (fun r => r.dl == t), rfl, h2, ?_, ?_, ?_, ?_⟩
  ·rw [h3, List.append_assoc, List.takeWhile_append_dropWhile]
  ·subst h4
   unfold endQ tellsG
   simp only
   congr 1
   by_cases hL : lateB st = true
   ·rw [if_pos hL, if_pos hL, overL_append]
    congr 1
    unfold overL
    refine List.map_congr_left (fun r hr => ?_)
    rw [tw_dl t (List.mem_filter.1 hr).1]
   ·rw [if_neg hL, if_neg hL]
    rw [List.filter_eq_nil_iff.2 (fun r hr => by
     rw [early_over st (by simpa using hL) (hk r (List.mem_append_right _ (List.takeWhile_sublist _ |>.subset hr)))]
     simp)]
    simp
  ·intro r hr
   rcases List.mem_append.1 hr with hr | hr
   ·exact h5 r hr
   ·rw [tw_dl t hr]; exact htM
  ·intro r hr b hb
   rcases List.mem_append.1 hr with hr | hr
   ·exact h6 r hr b hb
   ·rw [tw_dl t hr]; exact hB' b hb
/-- What a query holds, in the end: all of it by the events alone. -/
theorem gen_pass (hv : VP st) {l : List Ev} (n : Nat) (M : Int) (hl : TS l) (hM : ∀ e ∈ l, e.2.1 < M) :
  passQ M l ⟨n, st, w, [], []⟩ = ⟨n, st, w, (runsOf st w l).filter (fun r => decide (M ≤ r.dl)), tellsG st w n l ((runsOf st w l).filter (fun r => decide (r.dl < M)))⟩ ∧ (pass M (l, [⟨n, st, w, [], []⟩])).1 = [] := by
 have hI := pass_ind2 (P := GO st w M l n) (wm := M) (fun s d h hd ht => h.step st w hv hl hd ht) _ (l, [⟨n, st, w, [], []⟩]) rfl ⟨_, [], [], [], rfl, rfl, rfl, by simp [tellsG, overL, foundE], by simp, by simp⟩
 obtain ⟨q, P, ended, live, h1, h2, h3, h4, h5, h6⟩ := hI.ex
 have hB : (pass M (l, [⟨n, st, w, [], []⟩])).1 = [] := by
  rw [pass_buf]
  have : ∀ l : List Ev, (∀ e ∈ l, e.2.1 < M) → l.dropWhile (fun e => decide (e.2.1 < M)) = [] := by
   intro l
   induction l with
   | nil => intro _; rfl
   | cons a r ih => intro h; rw [List.dropWhile_cons_of_pos (by simpa using h a List.mem_cons_self)]; exact ih (fun e he => h e (List.mem_cons_of_mem _ he))
  exact this l hM
 rw [hB, List.append_nil] at h2
 subst h2
 have hst := pass_isStill M (P, [⟨n, st, w, [], []⟩])
 have hlive : ∀ r ∈ live, M ≤ r.dl := by
  intro r hr
  have hs := hst.2
  rw [h1, ml_one, h4] at hs
  have hsrt := runsOf_sorted st w hv.ne hl
  rw [h3] at hsrt
  have hl2 := (List.pairwise_append.1 hsrt).2.1
  cases hlv : live with
  | nil => rw [hlv] at hr; cases hr
  | cons a b =>
   rw [hlv] at hs hr hl2
   have ha : M ≤ a.dl := hs a.dl (by simp)
   rcases List.mem_cons.1 hr with rfl | hr
   ·exact ha
   ·have := (List.pairwise_cons.1 hl2).1 r hr
    omega
 have f1 : (runsOf st w P).filter (fun r => decide (M ≤ r.dl)) = live := by
  rw [h3, List.filter_append, List.filter_eq_nil_iff.2 (fun r hr => by have := h5 r hr; simp; omega), List.filter_eq_self.2 (fun r hr => by simpa using hlive r hr)]
  rfl
 have f2 : (runsOf st w P).filter (fun r => decide (r.dl < M)) = ended := by
  rw [h3, List.filter_append, List.filter_eq_self.2 (fun r hr => by simpa using h5 r hr), List.filter_eq_nil_iff.2 (fun r hr => by have := hlive r hr; simp; omega), List.append_nil]
 refine ⟨?_, hB⟩
 rw [f1, f2]
 have := pass_one M P ⟨n, st, w, [], []⟩
 rw [h1, h4] at this
 exact (List.cons.inj this).1.symm
end
end Go.Lull

namespace Go.Lull
set_option linter.unusedVariables false

/-! ### The document's list: each run followed from its beginning -/
def noEv : Ev := (0, 0, 0, 0)
/-- What path hands back. -/
def fateR (steps : List Stp) (fin mark : Int) : Fate → List Ev × Int × Bool × Bool
 | .dead => ([], 0, false, true)
 | .done t c => (t, c, true, true)
 | .stands k t => (t, fin, (k + 1 == steps.length && (steps.getD k noStep).1) && decide (fin < mark), decide (fin < mark))
def pathB (steps : List Stp) (wn : Int) (l : List Ev) (i : Nat) (mark : Int) : List Ev × Int × Bool × Bool :=
 if steps.length = 1 then ([l.getD i noEv], (l.getD i noEv).2.1, true, true) else
 fateR steps ((l.getD i noEv).2.1 + wn) mark (goB steps ((l.getD i noEv).2.1 + wn) 1 [l.getD i noEv] (l.drop (i + 1)))
/-- A match, and when it came. -/
structure It where
 m : Mt
 late : Bool
 place : Int
def aheadB (a b : It) : Bool := if a.m.cl = b.m.cl then (if a.late = b.late then decide (a.place < b.place) else b.late) else decide (a.m.cl < b.m.cl)
section
variable (st : List Stp) (w : Int)
def firstF1 (S : List Ev) (i : Nat) : Bool := fitsB (st.getD 0 noStep) (S.getD i noEv)
/-- Is the match of the i-th there, and of so many events, at the j-th? -/
def hitB (S : List Ev) (M : Int) (i n j : Nat) : Bool := decide (i ≤ j) && ((pathB st w (S.take (j + 1)) i M).2.2.1 && decide ((pathB st w (S.take (j + 1)) i M).1.length = n))
def closeJ (S : List Ev) (M : Int) (i n : Nat) : Nat := ((List.range S.length).find? (hitB st w S M i n)).getD S.length
def itemB (q : Nat) (S : List Ev) (M : Int) (i : Nat) : Option It :=
 if firstF1 st S i = true ∧ (pathB st w S i M).2.2.1 = true then some ⟨⟨q, (pathB st w S i M).2.1, (pathB st w S i M).1⟩, lateB st, if lateB st = true then (i : Int) else (closeJ st w S M i (pathB st w S i M).1.length : Int) * 1000000 + i⟩ else none
def itemsB (q : Nat) (S : List Ev) (M : Int) (k : Nat) : List It := (List.range k).filterMap (itemB st w q S M)
def runsB (S : List Ev) (M : Int) (k : Nat) : Nat := ((List.range k).filter (fun i => firstF1 st S i && !(pathB st w S i M).2.2.2)).length

theorem runsOf_range : ∀ S : List Ev, runsOf st w S = (List.range S.length).flatMap (fun i => run1 st w (S.getD i noEv) (S.drop (i + 1)))
 | [] => rfl
 | e :: r => by
  rw [List.length_cons, List.range_succ_eq_map, List.flatMap_cons, List.flatMap_map]
  show run1 st w e r ++ runsOf st w r = _
  rw [runsOf_range r]
  rfl
theorem goB_late (hv : VP st) (hl : lateB st = true) (fin : Int) : ∀ (r : List Ev) (k : Nat) (t : List Ev), k < st.length → ∀ a b, goB st fin k t r ≠ .done a b
 | [], k, t, hk, a, b, h => by simp only [goB] at h; cases h
 | e :: r, k, t, hk, a, b, h => by
  simp only [goB] at h
  split at h
  ·cases h
  ·have hn := late_told st hv hl 0 e (r := ⟨0, t, k⟩) hk
   unfold told1 at hn
   simp only at hn
   cases hs : showB st k t e with
   | dead => rw [hs] at h; cases h
   | done x y => rw [hs] at hn; cases hn
   | stands k1 t1 =>
    rw [hs] at h
    exact goB_late hv hl fin r k1 t1 (showB_lt st hk hs) a b h
theorem late_two (hv : VP st) (hl : lateB st = true) : st.length ≠ 1 := fun h => by
 unfold lateB at hl
 rw [h] at hl
 have := hv.first
 rw [this] at hl; cases hl
/-- The i-th event's part in what is told when deadlines are over. -/
theorem late_item (hv : VP st) (hl : lateB st = true) (q : Nat) (S : List Ev) (M : Int) (i : Nat) :
  overL st q ((run1 st w (S.getD i noEv) (S.drop (i + 1))).filter (fun r => decide (r.dl < M))) = (itemB st w q S M i).toList.map (·.m) := by
 have h1 := late_two st hv hl
 have hpos : 0 < st.length := List.length_pos_iff.2 hv.ne
 unfold itemB run1 pathB firstF1
 rw [if_neg h1]
 generalize S.getD i noEv = e
 generalize fitsB (st.getD 0 noStep) e = bf
 cases bf with
 | false => rw [if_neg (c := false = true ∧ st.length ≠ 1) (fun h => by cases h.1), if_neg (fun h => by cases h.1)]; rfl
 | true =>
  rw [if_pos (c := true = true ∧ st.length ≠ 1) ⟨rfl, h1⟩]
  cases hg : goB st (e.2.1 + w) 1 [e] (S.drop (i + 1)) with
  | dead => rw [if_neg (fun h => by cases h.2)]; rfl
  | done a b => exact absurd hg (goB_late st hv hl _ _ _ _ (by omega) a b)
  | stands k t =>
   have hk := goB_lt st _ _ _ _ k t (by omega) hg
   have hlo := late_over st hv hl (r := ⟨e.2.1 + w, t, k⟩) hk
   clear hg
   have hfr : fateR st (e.2.1 + w) M (.stands k t) = (t, e.2.1 + w, (k + 1 == st.length && (st.getD k noStep).1) && decide (e.2.1 + w < M), decide (e.2.1 + w < M)) := rfl
   rw [hfr]
   clear hfr
   by_cases hM : e.2.1 + w < M
   ·rw [List.filter_cons_of_pos (by simpa using hM), List.filter_nil]
    unfold overL
    rw [List.filter_cons]
    rw [hlo]
    by_cases hb : k + 1 = st.length ∧ (st.getD k noStep).1 = true
    ·have e1 : (decide (k + 1 = st.length) && (st.getD k noStep).1) = true := by rw [hb.2]; simpa using hb.1
     have e2 : (k + 1 == st.length && (st.getD k noStep).1 && decide (e.2.1 + w < M)) = true := by rw [hb.2]; simpa using ⟨hb.1, hM⟩
     rw [e1, if_pos rfl, if_pos ⟨rfl, e2⟩]
     rfl
    ·have e1 : (decide (k + 1 = st.length) && (st.getD k noStep).1) = false := by
      cases h3 : (st.getD k noStep).1 with
      | false => simp
      | true => rw [h3] at hb; simp at hb; simpa using hb
     have e2 : (k + 1 == st.length && (st.getD k noStep).1 && decide (e.2.1 + w < M)) = false := by
      have : (k + 1 == st.length && (st.getD k noStep).1) = (decide (k + 1 = st.length) && (st.getD k noStep).1) := rfl
      rw [this, e1]; rfl
     rw [e1, if_neg (by simp), if_neg (fun h => by rw [e2] at h; exact absurd h.2 (by simp))]
     rfl
   ·rw [List.filter_cons_of_neg (by simpa using hM), List.filter_nil, if_neg (fun h => by have := h.2; simp [hM] at this)]
    rfl
theorem overL_flat (q : Nat) {α : Type} (f : α → List Rn) : ∀ l : List α, overL st q (l.flatMap f) = l.flatMap (fun a => overL st q (f a))
 | [] => rfl
 | a :: l => by rw [List.flatMap_cons, List.flatMap_cons, overL_append, overL_flat q f l]
theorem filterMap_flat {α β : Type} (f : α → Option β) : ∀ l : List α, l.filterMap f = l.flatMap (fun a => (f a).toList)
 | [] => rfl
 | a :: l => by
  rw [List.filterMap_cons, List.flatMap_cons, filterMap_flat f l]
  cases f a <;> rfl
theorem filter_flat {α β : Type} (p : β → Bool) (f : α → List β) : ∀ l : List α, (l.flatMap f).filter p = l.flatMap (fun a => (f a).filter p)
 | [] => rfl
 | a :: l => by rw [List.flatMap_cons, List.flatMap_cons, List.filter_append, filter_flat p f l]
theorem late_tells (hv : VP st) (hl : lateB st = true) (q : Nat) (S : List Ev) (M : Int) :
  (itemsB st w q S M S.length).map (·.m) = overL st q ((runsOf st w S).filter (fun r => decide (r.dl < M))) := by
 unfold itemsB
 rw [runsOf_range, filter_flat, overL_flat, filterMap_flat, List.map_flatMap]
 congr 1
 funext i
 exact (late_item st w hv hl q S M i).symm
/-- How many runs there are. -/
theorem runs_count (hv : VP st) (S : List Ev) (M : Int) : runsB st w S M S.length = ((runsOf st w S).filter (fun r => decide (M ≤ r.dl))).length := by
 unfold runsB
 rw [runsOf_range, filter_flat, List.length_flatMap]
 rw [← List.countP_eq_length_filter]
 have key : ∀ i, (if (firstF1 st S i && !(pathB st w S i M).2.2.2) = true then 1 else 0) = ((run1 st w (S.getD i noEv) (S.drop (i + 1))).filter (fun r => decide (M ≤ r.dl))).length := by
  intro i
  unfold run1 pathB firstF1
  generalize S.getD i noEv = e
  generalize fitsB (st.getD 0 noStep) e = bf
  cases bf with
  | false => rw [if_neg (c := false = true ∧ st.length ≠ 1) (fun h => by cases h.1)]; rfl
  | true =>
   by_cases h1 : st.length = 1
   ·rw [if_neg (c := true = true ∧ st.length ≠ 1) (fun h => h.2 h1), if_pos h1]; rfl
   ·rw [if_pos (c := true = true ∧ st.length ≠ 1) ⟨rfl, h1⟩, if_neg h1]
    cases goB st (e.2.1 + w) 1 [e] (S.drop (i + 1)) with
    | dead => rfl
    | done a b => rfl
    | stands k t =>
     simp only [fateR]
     by_cases hM : e.2.1 + w < M
     ·rw [List.filter_cons_of_neg (by simp; omega)]; simp [hM]
     ·rw [List.filter_cons_of_pos (by simp; omega)]; simp [hM]
 have hc : ∀ l : List Nat, l.countP (fun i => firstF1 st S i && !(pathB st w S i M).2.2.2) = (l.map (fun i => ((run1 st w (S.getD i noEv) (S.drop (i + 1))).filter (fun r => decide (M ≤ r.dl))).length)).sum := by
  intro l
  induction l with
  | nil => rfl
  | cons a l ih => rw [List.countP_cons, ih, List.map_cons, List.sum_cons, ← key a]; omega
 exact hc _
end
end Go.Lull

namespace Go.Lull
set_option linter.unusedVariables false

section
variable (st : List Stp) (w : Int)
/-- Where a run becomes a match. -/
theorem goB_done (fin : Int) : ∀ (L : List Ev) (k : Nat) (t a : List Ev) (c : Int), TS L → (goB st fin k t L = .done a c ↔ ∃ p, ∃ h : p < L.length, ∃ k1 t1, goB st fin k t (L.take p) = .stands k1 t1 ∧ ¬ fin < L[p].2.1 ∧ showB st k1 t1 L[p] = .done a c)
 | [], k, t, a, c, _ => ⟨fun h => by simp [goB] at h, fun ⟨p, h, _⟩ => by cases h⟩
 | e :: r, k, t, a, c, hT => by
  have hc := List.pairwise_cons.1 hT
  constructor
  ·intro h
   simp only [goB] at h
   split at h
   ·cases h
   ·rename_i hf
    cases hs : showB st k t e with
    | dead => rw [hs] at h; cases h
    | done x y =>
     rw [hs] at h
     exact ⟨0, by simp, k, t, rfl, hf, by rw [← h]; exact hs⟩
    | stands k' t' =>
     rw [hs] at h
     obtain ⟨p, hp, k1, t1, h1, h2, h3⟩ := (goB_done fin r k' t' a c hc.2).1 h
     refine ⟨p + 1, by simpa using hp, k1, t1, ?_, h2, h3⟩
     rw [List.take_succ_cons]
     simp only [goB]
     rw [if_neg hf, hs]
     exact h1
  ·rintro ⟨p, hp, k1, t1, h1, h2, h3⟩
   cases p with
   | zero =>
    simp only [List.take_zero, goB] at h1
    cases h1
    have h2' : ¬ fin < e.2.1 := h2
    have h3' : showB st k t e = .done a c := h3
    simp only [goB]
    rw [if_neg h2', h3']
   | succ p =>
    rw [List.take_succ_cons] at h1
    simp only [List.getElem_cons_succ] at h2 h3
    have hp' : p < r.length := by simpa using hp
    have hle := hc.1 r[p] (List.getElem_mem hp')
    simp only [goB] at h1 ⊢
    have hf : ¬ fin < e.2.1 := by omega
    rw [if_neg hf] at h1 ⊢
    cases hs : showB st k t e with
    | dead => rw [hs] at h1; cases h1
    | done x y => rw [hs] at h1; cases h1
    | stands k' t' =>
     rw [hs] at h1
     exact (goB_done fin r k' t' a c hc.2).2 ⟨p, hp', k1, t1, h1, h2, h3⟩
theorem TS.take {L : List Ev} (h : TS L) (n : Nat) : TS (L.take n) := List.Pairwise.sublist (List.take_sublist _ _) h
theorem TS.drop {L : List Ev} (h : TS L) (n : Nat) : TS (L.drop n) := List.Pairwise.sublist (List.drop_sublist _ _) h
/-- A match stays one. -/
theorem goB_stays {fin : Int} {L : List Ev} {k : Nat} {t a : List Ev} {c : Int} (hT : TS L) {m : Nat} (h : goB st fin k t (L.take m) = .done a c) {n : Nat} (hmn : m ≤ n) : goB st fin k t (L.take n) = .done a c := by
 obtain ⟨p, hp, k1, t1, h1, h2, h3⟩ := (goB_done st fin _ k t a c (hT.take m)).1 h
 have hp2 : p < m ∧ p < L.length := by rw [List.length_take] at hp; omega
 refine (goB_done st fin _ k t a c (hT.take n)).2 ⟨p, by simp [List.length_take]; omega, k1, t1, ?_, ?_, ?_⟩
 ·rw [List.take_take, Nat.min_eq_left (by omega)] at h1 ⊢; exact h1
 ·simpa using h2
 ·simpa using h3
theorem early_ok (hl : lateB st = false) {k : Nat} (h : k + 1 = st.length) : (st.getD k noStep).1 = false := by
 unfold lateB at hl
 rw [← h, Nat.add_sub_cancel] at hl
 exact hl
theorem fate_ok (hl : lateB st = false) (fin M : Int) (f : Fate) : (fateR st fin M f).2.2.1 = true ↔ ∃ a c, f = .done a c := by
 cases f with
 | dead => exact ⟨fun h => (by cases h), fun ⟨_, _, h⟩ => (by cases h)⟩
 | done a c => exact ⟨fun _ => ⟨a, c, rfl⟩, fun _ => rfl⟩
 | stands k t =>
  refine ⟨fun h => ?_, fun ⟨_, _, h⟩ => by cases h⟩
  have h' : ((k + 1 == st.length && (st.getD k noStep).1) && decide (fin < M)) = true := h
  by_cases hk : k + 1 = st.length
  ·rw [early_ok st hl hk] at h'; simp at h'
  ·simp [hk] at h'
theorem getD_take {S : List Ev} {i j : Nat} (h : i < j) (hj : i < S.length) : (S.take j).getD i noEv = S.getD i noEv := by
 simp [List.getD, h]
/-- Where the document finds the last event of a match. -/
theorem closeJ_eq (hl : lateB st = false) (h1 : st.length ≠ 1) {S : List Ev} (hT : TS S) (M : Int) {i : Nat} (hi : i < S.length) {a : List Ev} {c : Int} {p : Nat} (hp : p < (S.drop (i + 1)).length) {k1 : Nat} {t1 : List Ev}
  (g1 : goB st ((S.getD i noEv).2.1 + w) 1 [S.getD i noEv] ((S.drop (i + 1)).take p) = .stands k1 t1) (g2 : ¬ (S.getD i noEv).2.1 + w < (S.drop (i + 1))[p].2.1) (g3 : showB st k1 t1 (S.drop (i + 1))[p] = .done a c) :
  closeJ st w S M i a.length = i + 1 + p := by
 have hTd := hT.drop (i + 1)
 have hlen : p < S.length - (i + 1) := by simpa using hp
 have hd : goB st ((S.getD i noEv).2.1 + w) 1 [S.getD i noEv] ((S.drop (i + 1)).take (p + 1)) = .done a c :=
  (goB_done st _ _ _ _ _ _ (hTd.take (p + 1))).2 ⟨p, by simp; omega, k1, t1, by rw [List.take_take, Nat.min_eq_left (by omega)]; exact g1, by simpa using g2, by simpa using g3⟩
 have hpath : ∀ j, i ≤ j → j < S.length → pathB st w (S.take (j + 1)) i M = fateR st ((S.getD i noEv).2.1 + w) M (goB st ((S.getD i noEv).2.1 + w) 1 [S.getD i noEv] ((S.drop (i + 1)).take (j - i))) := by
  intro j hij hj
  unfold pathB
  rw [if_neg h1, getD_take (by omega) hi, List.drop_take, show j + 1 - (i + 1) = j - i by omega]
 have hit : hitB st w S M i a.length (i + 1 + p) = true := by
  unfold hitB
  rw [hpath (i + 1 + p) (by omega) (by omega), show i + 1 + p - i = p + 1 by omega, hd]
  simp [fateR]
  omega
 have miss : ∀ j, j < i + 1 + p → hitB st w S M i a.length j = false := by
  intro j hj
  unfold hitB
  by_cases hij : i ≤ j
  ·rw [hpath j hij (by omega)]
   have hno : ¬ (fateR st ((S.getD i noEv).2.1 + w) M (goB st ((S.getD i noEv).2.1 + w) 1 [S.getD i noEv] ((S.drop (i + 1)).take (j - i)))).2.2.1 = true := by
    rw [fate_ok st hl]
    rintro ⟨a', c', h'⟩
    have := goB_stays st hTd h' (n := p) (by omega)
    rw [g1] at this; cases this
   have : (fateR st ((S.getD i noEv).2.1 + w) M (goB st ((S.getD i noEv).2.1 + w) 1 [S.getD i noEv] ((S.drop (i + 1)).take (j - i)))).2.2.1 = false := by simpa using hno
   rw [this]; simp
  ·simp [hij]
 unfold closeJ
 have hf : (List.range S.length).find? (hitB st w S M i a.length) = some (i + 1 + p) := by
  rw [List.find?_range_eq_some]
  exact ⟨hit, List.mem_range.2 (by omega), fun j hj => by rw [miss j hj]; rfl⟩
 rw [hf]; rfl
end
end Go.Lull

namespace Go.Lull
set_option linter.unusedVariables false

theorem flatMap_cong {α β : Type} {f g : α → List β} : ∀ {l : List α}, (∀ a ∈ l, f a = g a) → l.flatMap f = l.flatMap g
  | [], _ => rfl
  | a :: l, h => by rw [List.flatMap_cons, List.flatMap_cons, h a List.mem_cons_self, flatMap_cong (l := l) (fun x hx => h x (List.mem_cons_of_mem _ hx))]
section
variable (st : List Stp) (w : Int)
/-- What is told at the j-th event, each with its place. -/
def toldI (q : Nat) (S : List Ev) (j : Nat) : List It :=
  ((List.range j).flatMap (fun i => ((run1 st w (S.getD i noEv) ((S.take j).drop (i + 1))).filterMap (toldR st q (S.getD j noEv))).map (fun m => ⟨m, false, (j : Int) * 1000000 + i⟩)))
   ++ (if fitsB (st.getD 0 noStep) (S.getD j noEv) = true ∧ st.length = 1 then [⟨⟨q, (S.getD j noEv).2.1, [S.getD j noEv]⟩, false, (j : Int) * 1000000 + j⟩] else [])
def foundI (q : Nat) (S : List Ev) : List It := (List.range S.length).flatMap (toldI st w q S)
theorem foundE_range (q : Nat) : ∀ (r P : List Ev), foundE st w q P r = (List.range r.length).flatMap (fun j => toldAt st w q (r.getD j noEv) (P ++ r.take j))
  | [], P => rfl
  | x :: r, P => by
    simp only [foundE]
    rw [foundE_range q r (P ++ [x]), List.length_cons, List.range_succ_eq_map, List.flatMap_cons, List.flatMap_map]
    congr 1
    · simp [List.getD]
    · refine flatMap_cong (fun j _ => ?_)
      simp [List.getD]
theorem foundI_map (q : Nat) (S : List Ev) : (foundI st w q S).map (·.m) = foundE st w q [] S := by
  unfold foundI
  rw [foundE_range, List.map_flatMap]
  refine flatMap_cong (fun j hj => ?_)
  have hj' : j < S.length := List.mem_range.1 hj
  rw [List.nil_append]
  unfold toldI toldAt
  rw [List.map_append, runsOf_range, List.length_take, Nat.min_eq_left (by omega), List.filterMap_flatMap, List.map_flatMap]
  congr 1
  · refine flatMap_cong (fun i hi => ?_)
    have hi' : i < j := List.mem_range.1 hi
    rw [getD_take hi' (by omega), List.map_map]
    show _ = List.filterMap _ _
    exact List.map_id _
  · split <;> rfl
theorem mem_run1 {e : Ev} {L : List Ev} {r : Rn} : r ∈ run1 st w e L ↔ (fitsB (st.getD 0 noStep) e = true ∧ st.length ≠ 1) ∧ ∃ k t, goB st (e.2.1 + w) 1 [e] L = .stands k t ∧ r = ⟨e.2.1 + w, t, k⟩ := by
  unfold run1
  by_cases hc : fitsB (st.getD 0 noStep) e = true ∧ st.length ≠ 1
  · rw [if_pos hc]
    cases hg : goB st (e.2.1 + w) 1 [e] L with
    | dead => exact ⟨fun h => (by cases h), fun ⟨_, _, _, h, _⟩ => (by cases h)⟩
    | done a c => exact ⟨fun h => (by cases h), fun ⟨_, _, _, h, _⟩ => (by cases h)⟩
    | stands k t =>
      constructor
      · intro h
        simp at h
        exact ⟨hc, k, t, rfl, h⟩
      · rintro ⟨_, k', t', h, rfl⟩
        cases h
        simp
  · rw [if_neg hc]
    exact ⟨fun h => (by cases h), fun h => absurd h.1 hc⟩
theorem toldR_some {q : Nat} {x : Ev} {r : Rn} {m : Mt} : toldR st q x r = some m ↔ ¬ r.dl < x.2.1 ∧ ∃ a c, showB st r.k r.tk x = .done a c ∧ m = ⟨q, c, a⟩ := by
  unfold toldR told1
  by_cases hd : r.dl < x.2.1
  · rw [if_pos hd]
    exact ⟨fun h => (by cases h), fun h => absurd hd h.1⟩
  · rw [if_neg hd]
    cases hs : showB st r.k r.tk x with
    | dead => exact ⟨fun h => (by cases h), fun ⟨_, _, _, h, _⟩ => (by cases h)⟩
    | stands a b => exact ⟨fun h => (by cases h), fun ⟨_, _, _, h, _⟩ => (by cases h)⟩
    | done a c =>
      constructor
      · intro h
        exact ⟨hd, a, c, rfl, (Option.some.inj h).symm⟩
      · rintro ⟨_, a', c', h, rfl⟩
        cases h
        rfl
theorem done_close {k : Nat} {t a : List Ev} {x : Ev} {c : Int} (h : showB st k t x = .done a c) : c = x.2.1 := by
  rcases showB_cases st k t x with h1 | h1 | ⟨m, _, _, _, h4⟩
  · rw [h1] at h; cases h
  · rw [h1] at h; cases h
  · rw [h4] at h
    split at h
    · cases h; rfl
    · cases h
theorem mem_toldI (h1 : st.length ≠ 1) {q : Nat} {S : List Ev} {j : Nat} {x : It} : x ∈ toldI st w q S j ↔ ∃ i, i < j ∧ firstF1 st S i = true ∧ ∃ k t a c, goB st ((S.getD i noEv).2.1 + w) 1 [S.getD i noEv] ((S.take j).drop (i + 1)) = .stands k t ∧ ¬ (S.getD i noEv).2.1 + w < (S.getD j noEv).2.1 ∧ showB st k t (S.getD j noEv) = .done a c ∧ x = ⟨⟨q, c, a⟩, false, (j : Int) * 1000000 + i⟩ := by
  unfold toldI
  rw [if_neg (fun h => h1 h.2), List.append_nil, List.mem_flatMap]
  constructor
  · rintro ⟨i, hi, hx⟩
    obtain ⟨m, hm, rfl⟩ := List.mem_map.1 hx
    obtain ⟨r, hr, hm⟩ := List.mem_filterMap.1 hm
    obtain ⟨⟨hf, _⟩, k, t, hg, rfl⟩ := (mem_run1 st w).1 hr
    obtain ⟨hd, a, c, hs, rfl⟩ := (toldR_some st).1 hm
    exact ⟨i, List.mem_range.1 hi, hf, k, t, a, c, hg, hd, hs, rfl⟩
  · rintro ⟨i, hi, hf, k, t, a, c, hg, hd, hs, rfl⟩
    refine ⟨i, List.mem_range.2 hi, List.mem_map.2 ⟨⟨q, c, a⟩, List.mem_filterMap.2 ⟨⟨(S.getD i noEv).2.1 + w, t, k⟩, (mem_run1 st w).2 ⟨⟨hf, h1⟩, k, t, hg, rfl⟩, (toldR_some st).2 ⟨hd, a, c, hs, rfl⟩⟩, rfl⟩⟩
theorem toldI_fact {q : Nat} {S : List Ev} {j : Nat} {x : It} (h : x ∈ toldI st w q S j) : x.m.cl = (S.getD j noEv).2.1 ∧ x.late = false ∧ ∃ i : Nat, i ≤ j ∧ x.place = (j : Int) * 1000000 + i := by
  by_cases h1 : st.length = 1
  · unfold toldI at h
    rcases List.mem_append.1 h with h | h
    · obtain ⟨i, hi, hx⟩ := List.mem_flatMap.1 h
      obtain ⟨m, hm, rfl⟩ := List.mem_map.1 hx
      obtain ⟨r, hr, _⟩ := List.mem_filterMap.1 hm
      exact absurd h1 ((mem_run1 st w).1 hr).1.2
    · split at h
      · rw [List.mem_singleton] at h; subst h; exact ⟨rfl, rfl, j, Nat.le_refl _, rfl⟩
      · cases h
  · obtain ⟨i, hi, _, k, t, a, c, _, _, hs, rfl⟩ := (mem_toldI st w h1).1 h
    exact ⟨done_close st hs, rfl, i, by omega, rfl⟩
theorem ahead_place {a b : It} (h1 : a.m.cl ≤ b.m.cl) (h2 : a.late = b.late) (h3 : a.m.cl = b.m.cl → a.place < b.place) : aheadB a b = true := by
  unfold aheadB
  by_cases h : a.m.cl = b.m.cl
  · rw [if_pos h, if_pos h2]; simpa using h3 h
  · rw [if_neg h]; simp; omega
theorem toldI_pair (q : Nat) (S : List Ev) (j : Nat) : (toldI st w q S j).Pairwise (fun a b => aheadB a b = true) := by
  by_cases h1 : st.length = 1
  · unfold toldI
    have he : ((List.range j).flatMap (fun i => ((run1 st w (S.getD i noEv) ((S.take j).drop (i + 1))).filterMap (toldR st q (S.getD j noEv))).map (fun m => (⟨m, false, (j : Int) * 1000000 + i⟩ : It)))) = [] := by
      rw [List.flatMap_eq_nil_iff]
      intro i _
      unfold run1
      rw [if_neg (fun h => h.2 h1)]; rfl
    rw [he, List.nil_append]
    split
    · exact List.pairwise_singleton _ _
    · exact List.Pairwise.nil
  · have hm : ∀ x, x ∈ toldI st w q S j → x.m.cl = (S.getD j noEv).2.1 ∧ x.late = false := fun x hx => ⟨(toldI_fact st w hx).1, (toldI_fact st w hx).2.1⟩
    unfold toldI at hm ⊢
    rw [if_neg (fun h => h1 h.2), List.append_nil] at hm ⊢
    rw [List.pairwise_flatMap]
    constructor
    · intro i _
      have hl : (run1 st w (S.getD i noEv) ((S.take j).drop (i + 1))).length ≤ 1 := by
        unfold run1
        split
        · cases goB st ((S.getD i noEv).2.1 + w) 1 [S.getD i noEv] ((S.take j).drop (i + 1)) <;> simp
        · simp
      match hr : run1 st w (S.getD i noEv) ((S.take j).drop (i + 1)), hl with
      | [], _ => exact List.Pairwise.nil
      | [r], _ =>
        rw [List.filterMap_cons]
        cases toldR st q (S.getD j noEv) r with
        | none => exact List.Pairwise.nil
        | some m => exact List.pairwise_singleton _ _
    · refine List.Pairwise.imp_of_mem ?_ (List.pairwise_lt_range (n := j))
      intro i i' hi hi' hlt x hx y hy
      have fx := hm x (List.mem_flatMap.2 ⟨i, hi, hx⟩)
      have fy := hm y (List.mem_flatMap.2 ⟨i', hi', hy⟩)
      obtain ⟨m, _, rfl⟩ := List.mem_map.1 hx
      obtain ⟨m', _, rfl⟩ := List.mem_map.1 hy
      refine ahead_place ?_ rfl ?_
      · rw [fx.1, fy.1]; exact Int.le_refl _
      · intro _; simp only; omega
theorem getD_le {S : List Ev} (hT : TS S) {i j : Nat} (hij : i ≤ j) (hj : j < S.length) : (S.getD i noEv).2.1 ≤ (S.getD j noEv).2.1 := by
  rcases Nat.lt_or_ge i j with h | h
  · have := List.pairwise_iff_getElem.1 hT i j (by omega) hj h
    simpa [List.getD, hj, show i < S.length by omega] using this
  · obtain rfl : i = j := by omega
    exact Int.le_refl _
theorem foundI_pair (q : Nat) {S : List Ev} (hT : TS S) (hlen : S.length ≤ 1000000) : (foundI st w q S).Pairwise (fun a b => aheadB a b = true) := by
  unfold foundI
  rw [List.pairwise_flatMap]
  refine ⟨fun j _ => toldI_pair st w q S j, List.Pairwise.imp_of_mem ?_ (List.pairwise_lt_range (n := S.length))⟩
  intro j j' hj hj' hlt x hx y hy
  have hj2 := List.mem_range.1 hj'
  obtain ⟨x1, x2, i, hi, x3⟩ := toldI_fact st w hx
  obtain ⟨y1, y2, i', hi', y3⟩ := toldI_fact st w hy
  refine ahead_place ?_ (by rw [x2, y2]) ?_
  · rw [x1, y1]; exact getD_le hT (by omega) hj2
  · intro _; rw [x3, y3]; omega
/-- In both lists stands the same. -/
theorem foundI_mem (hl : lateB st = false) (q : Nat) {S : List Ev} (hT : TS S) (M : Int) (x : It) : x ∈ foundI st w q S ↔ x ∈ itemsB st w q S M S.length := by
  unfold foundI itemsB
  rw [List.mem_flatMap, List.mem_filterMap]
  by_cases h1 : st.length = 1
  · have hpath : ∀ (L : List Ev) (i : Nat), pathB st w L i M = ([L.getD i noEv], (L.getD i noEv).2.1, true, true) := fun L i => by unfold pathB; rw [if_pos h1]
    have hclose : ∀ i, i < S.length → closeJ st w S M i 1 = i := by
      intro i hi
      unfold closeJ
      have hf : (List.range S.length).find? (hitB st w S M i 1) = some i := by
        rw [List.find?_range_eq_some]
        refine ⟨?_, List.mem_range.2 hi, fun j hj => ?_⟩
        · unfold hitB; rw [hpath]; simp
        · unfold hitB; simp; omega
      rw [hf]; rfl
    have hitem : ∀ i, i < S.length → itemB st w q S M i = if fitsB (st.getD 0 noStep) (S.getD i noEv) = true then some ⟨⟨q, (S.getD i noEv).2.1, [S.getD i noEv]⟩, false, (i : Int) * 1000000 + i⟩ else none := by
      intro i hi
      unfold itemB firstF1
      rw [hpath, hl]
      by_cases hf : fitsB (st.getD 0 noStep) (S.getD i noEv) = true
      · rw [if_pos hf, if_pos ⟨hf, rfl⟩, if_neg (by simp), show ([S.getD i noEv] : List Ev).length = 1 from rfl, hclose i hi]
      · rw [if_neg hf, if_neg (fun h => hf h.1)]
    have htold : ∀ j, toldI st w q S j = if fitsB (st.getD 0 noStep) (S.getD j noEv) = true then [⟨⟨q, (S.getD j noEv).2.1, [S.getD j noEv]⟩, false, (j : Int) * 1000000 + j⟩] else [] := by
      intro j
      unfold toldI
      have he : ((List.range j).flatMap (fun i => ((run1 st w (S.getD i noEv) ((S.take j).drop (i + 1))).filterMap (toldR st q (S.getD j noEv))).map (fun m => (⟨m, false, (j : Int) * 1000000 + i⟩ : It)))) = [] := by
        rw [List.flatMap_eq_nil_iff]
        intro i _
        unfold run1
        rw [if_neg (fun h => h.2 h1)]; rfl
      rw [he, List.nil_append]
      by_cases hf : fitsB (st.getD 0 noStep) (S.getD j noEv) = true
      · rw [if_pos ⟨hf, h1⟩, if_pos hf]
      · rw [if_neg (fun h => hf h.1), if_neg hf]
    constructor
    · rintro ⟨j, hj, hx⟩
      rw [htold] at hx
      refine ⟨j, hj, ?_⟩
      rw [hitem j (List.mem_range.1 hj)]
      split at hx
      · rename_i hf; rw [if_pos hf]; rw [List.mem_singleton] at hx; rw [hx]
      · cases hx
    · rintro ⟨i, hi, hx⟩
      rw [hitem i (List.mem_range.1 hi)] at hx
      refine ⟨i, hi, ?_⟩
      rw [htold]
      split at hx
      · rename_i hf; rw [if_pos hf, List.mem_singleton]; exact (Option.some.inj hx).symm
      · cases hx
  · have hpath : ∀ i, pathB st w S i M = fateR st ((S.getD i noEv).2.1 + w) M (goB st ((S.getD i noEv).2.1 + w) 1 [S.getD i noEv] (S.drop (i + 1))) := fun i => by unfold pathB; rw [if_neg h1]
    have hitem : ∀ i, i < S.length → ∀ (a : List Ev) (c : Int) (p : Nat) (hp : p < (S.drop (i + 1)).length) (k1 : Nat) (t1 : List Ev), firstF1 st S i = true → goB st ((S.getD i noEv).2.1 + w) 1 [S.getD i noEv] ((S.drop (i + 1)).take p) = .stands k1 t1 → ¬ (S.getD i noEv).2.1 + w < (S.drop (i + 1))[p].2.1 → showB st k1 t1 (S.drop (i + 1))[p] = .done a c → itemB st w q S M i = some ⟨⟨q, c, a⟩, false, ((i + 1 + p : Nat) : Int) * 1000000 + i⟩ := by
      intro i hi a c p hp k1 t1 hf g1 g2 g3
      have hd := (goB_done st ((S.getD i noEv).2.1 + w) (S.drop (i + 1)) 1 [S.getD i noEv] a c (hT.drop (i + 1))).2 ⟨p, hp, k1, t1, g1, g2, g3⟩
      have hcl := closeJ_eq st w hl h1 hT M hi hp g1 g2 g3
      unfold itemB
      rw [hpath, hd]
      show (if firstF1 st S i = true ∧ true = true then some (⟨⟨q, c, a⟩, lateB st, if lateB st = true then (i : Int) else (closeJ st w S M i a.length : Int) * 1000000 + i⟩ : It) else none) = _
      rw [if_pos ⟨hf, rfl⟩, hcl, hl, if_neg (by simp)]
    constructor
    · rintro ⟨j, hj, hx⟩
      have hj' := List.mem_range.1 hj
      obtain ⟨i, hi, hf, k, t, a, c, hg, hd, hs, rfl⟩ := (mem_toldI st w h1).1 hx
      have hp : j - (i + 1) < (S.drop (i + 1)).length := by simp; omega
      have e1 : (S.drop (i + 1))[j - (i + 1)] = S.getD j noEv := by
        simp only [List.getElem_drop, List.getD, show i + 1 + (j - (i + 1)) = j by omega]
        simp [hj']
      rw [List.drop_take] at hg
      have := hitem i (by omega) a c (j - (i + 1)) hp k t hf hg (by rw [e1]; exact hd) (by rw [e1]; exact hs)
      rw [show i + 1 + (j - (i + 1)) = j by omega] at this
      exact ⟨i, List.mem_range.2 (by omega), this⟩
    · rintro ⟨i, hi, hx⟩
      have hi' := List.mem_range.1 hi
      have hx0 := hx
      unfold itemB at hx
      split at hx
      · rename_i hc
        rw [hpath] at hc
        obtain ⟨a, c, hg⟩ := (fate_ok st hl _ _ _).1 hc.2
        obtain ⟨p, hp, k1, t1, g1, g2, g3⟩ := (goB_done st _ _ _ _ _ _ (hT.drop (i + 1))).1 hg
        have := hitem i hi' a c p hp k1 t1 hc.1 g1 g2 g3
        rw [this] at hx0
        have hx1 := Option.some.inj hx0
        have hp' : p < S.length - (i + 1) := by simpa using hp
        have e1 : (S.drop (i + 1))[p] = S.getD (i + 1 + p) noEv := by
          have h3 : i + 1 + p < S.length := by omega
          simp only [List.getElem_drop, List.getD]
          simp [h3]
        refine ⟨i + 1 + p, List.mem_range.2 (by omega), (mem_toldI st w h1).2 ⟨i, by omega, hc.1, k1, t1, a, c, ?_, ?_, ?_, hx1.symm⟩⟩
        · rw [List.drop_take, show i + 1 + p - (i + 1) = p by omega]; exact g1
        · rw [← e1]; exact g2
        · rw [← e1]; exact g3
      · cases hx
/-- The document's list, in its order, is what the query was told. -/
theorem ref_all (hv : VP st) (q : Nat) {S : List Ev} (hT : TS S) (M : Int) (hlen : S.length ≤ 1000000) :
    ∃ T : List It, T.Pairwise (fun a b => aheadB a b = true) ∧ (∀ x, x ∈ T ↔ x ∈ itemsB st w q S M S.length) ∧ T.map (·.m) = tellsG st w q S ((runsOf st w S).filter (fun r => decide (r.dl < M))) := by
  unfold tellsG
  cases hl : lateB st with
  | false =>
    rw [if_neg (by simp)]
    exact ⟨foundI st w q S, foundI_pair st w q hT hlen, foundI_mem st w hl q hT M, foundI_map st w q S⟩
  | true =>
    rw [if_pos rfl]
    refine ⟨itemsB st w q S M S.length, ?_, fun x => Iff.rfl, late_tells st w hv hl q S M⟩
    have h1 := late_two st hv hl
    unfold itemsB
    rw [List.pairwise_filterMap]
    refine List.Pairwise.imp_of_mem ?_ (List.pairwise_lt_range (n := S.length))
    intro i j hi hj hlt x hx y hy
    have hfact : ∀ i x, itemB st w q S M i = some x → x.m.cl = (S.getD i noEv).2.1 + w ∧ x.late = true ∧ x.place = i := by
      intro i x hx
      unfold itemB at hx
      split at hx
      · rename_i hc
        have hx' := (Option.some.inj hx).symm
        subst hx'
        refine ⟨?_, hl, by simp⟩
        have hc2 := hc.2
        unfold pathB at hc2 ⊢
        rw [if_neg h1] at hc2 ⊢
        cases hg : goB st ((S.getD i noEv).2.1 + w) 1 [S.getD i noEv] (S.drop (i + 1)) with
        | dead => rw [hg] at hc2; cases hc2
        | done a c => exact absurd hg (goB_late st hv hl _ _ _ _ (by have := List.length_pos_iff.2 hv.ne; omega) a c)
        | stands k t => rfl
      · cases hx
    obtain ⟨x1, x2, x3⟩ := hfact i x hx
    obtain ⟨y1, y2, y3⟩ := hfact j y hy
    refine ahead_place ?_ (by rw [x2, y2]) ?_
    · rw [x1, y1]; have := getD_le hT (show i ≤ j by omega) (List.mem_range.1 hj); omega
    · intro _; rw [x3, y3]; omega
/-- No match is twice in the document's list. -/
theorem items_nodup (q : Nat) (S : List Ev) (M : Int) (hlen : S.length ≤ 1000000) (k : Nat) (hk : k ≤ S.length) : (itemsB st w q S M k).Nodup := by
  unfold itemsB List.Nodup
  rw [List.pairwise_filterMap]
  refine List.Pairwise.imp_of_mem ?_ (List.pairwise_lt_range (n := k))
  intro i j hi hj hlt x hx y hy hxy
  have hi' := List.mem_range.1 hi
  have hj' := List.mem_range.1 hj
  have hfact : ∀ i x, itemB st w q S M i = some x → (lateB st = true ∧ x.place = (i : Int)) ∨ (lateB st = false ∧ ∃ c : Nat, x.place = (c : Int) * 1000000 + i) := by
    intro i x hx
    unfold itemB at hx
    split at hx
    · have hx' := (Option.some.inj hx).symm
      subst hx'
      cases hl : lateB st with
      | true => exact Or.inl ⟨rfl, by simp⟩
      | false => exact Or.inr ⟨rfl, closeJ st w S M i (pathB st w S i M).1.length, by simp⟩
    · cases hx
  rw [hxy] at hx
  rcases hfact i y hx with ⟨a1, a2⟩ | ⟨a1, c1, a2⟩
  · rcases hfact j y hy with ⟨b1, b2⟩ | ⟨b1, c2, b2⟩
    · rw [a2] at b2; omega
    · rw [a1] at b1; cases b1
  · rcases hfact j y hy with ⟨b1, b2⟩ | ⟨b1, c2, b2⟩
    · rw [a1] at b1; cases b1
    · rw [a2] at b2; omega
end
end Go.Lull
