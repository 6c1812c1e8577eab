namespace Go.Lull

/-- The number that the digits are, with n ahead of them; none: no digit, or above most. -/
def numL (most : Nat) : Nat → List UInt8 → Option Nat
 | n, [] => some n
 | n, c :: r => if 48 ≤ c.toNat ∧ c.toNat ≤ 57 then (if most < 10 * n + (c.toNat - 48) then none else numL most (10 * n + (c.toNat - 48)) r) else none

def numB (most : Nat) (l : List UInt8) : Option Nat :=
 if l = [] then none else if 1 < l.length ∧ l.head? = some 48 then none else numL most 0 l

theorem numL_le (most : Nat) : ∀ (l : List UInt8) (n m : Nat), n ≤ most → numL most n l = some m → m ≤ most := by
 intro l
 induction l with
 | nil => intro n m h e; simp [numL] at e; omega
 | cons c r ih =>
  intro n m h e
  unfold numL at e
  split at e
  ·split at e
   ·cases e
   ·exact ih _ _ (by omega) e
  ·cases e

theorem numB_le {most m : Nat} {l : List UInt8} (e : numB most l = some m) : m ≤ most := by
 unfold numB at e
 split at e
 ·cases e
 ·split at e
  ·cases e
  ·exact numL_le most l 0 m (Nat.zero_le _) e

theorem numL_no {most n : Nat} {c : UInt8} {r : List UInt8} (h : ¬ (48 ≤ c.toNat ∧ c.toNat ≤ 57)) : numL most n (c :: r) = none := by
 unfold numL; rw [if_neg h]
theorem numL_big {most n : Nat} {c : UInt8} {r : List UInt8} (h : 48 ≤ c.toNat ∧ c.toNat ≤ 57) (h2 : most < 10 * n + (c.toNat - 48)) : numL most n (c :: r) = none := by
 unfold numL; rw [if_pos h, if_pos h2]
theorem numL_step {most n : Nat} {c : UInt8} {r : List UInt8} (h : 48 ≤ c.toNat ∧ c.toNat ≤ 57) (h2 : ¬ most < 10 * n + (c.toNat - 48)) : numL most n (c :: r) = numL most (10 * n + (c.toNat - 48)) r := by
 conv => lhs; unfold numL
 rw [if_pos h, if_neg h2]

theorem drop_cons (s : ByteArray) (k : Nat) (h : k < s.size) : s.data.toList.drop k = s[k] :: s.data.toList.drop (k + 1) := by
 rw [List.drop_eq_getElem_cons (by simpa using h)]; rfl

def numI (o : Option Nat) : Int := match o with | some n => n | none => -1
def num0 (o : Option Nat) : Int := match o with | some n => n | none => 0


end Go.Lull

namespace Go.Lull
def negO : Option Nat → Option Int
 | some n => if n = 0 then none else some (-(n : Int))
 | none => none
def posO : Option Nat → Option Int
 | some n => some (n : Int)
 | none => none
/-- The number behind a sign, with or without - ahead; not -0. -/
def valB : List UInt8 → Option Int
 | [] => none
 | c :: r => if c = 45 then negO (numB 1000 r) else posO (numB 1000 (c :: r))

theorem valB_neg {r : List UInt8} : valB (45 :: r) = negO (numB 1000 r) := by simp [valB]
theorem valB_pos {l : List UInt8} (h : ∀ r, l ≠ 45 :: r) : valB l = posO (numB 1000 l) := by
 cases l with
 | nil => rfl
 | cons c r => exact if_neg (fun e => h r (by rw [e]))

def letterB (c : UInt8) : Bool := decide (97 ≤ c.toNat ∧ c.toNat ≤ 122)
def signB (c : UInt8) : Bool := decide (c.toNat = 60 ∨ c.toNat = 61 ∨ c.toNat = 62)

def withO {α β : Type} (f : α → β) : Option α → Option β
 | some x => some (f x)
 | none => none
/-- A step without its mark: kind, sign (0: none), number. -/
def condB : List UInt8 → Option (UInt8 × UInt8 × Int)
 | [] => none
 | [k] => if letterB k = true then some (k, 0, 0) else none
 | k :: g :: v => if letterB k = true ∧ signB g = true then withO (fun n => (k, g, n)) (valB v) else none

/-- A step: must it not come? -/
def stepB : List UInt8 → Option (Bool × UInt8 × UInt8 × Int)
 | [] => none
 | c :: r => if c = 33 then withO (fun x => (true, x)) (condB r) else withO (fun x => (false, x)) (condB (c :: r))

theorem stepB_not {r : List UInt8} : stepB (33 :: r) = withO (fun x => (true, x)) (condB r) := by simp [stepB]
theorem stepB_must {l : List UInt8} (h : ∀ r, l ≠ 33 :: r) : stepB l = withO (fun x => (false, x)) (condB l) := by
 cases l with
 | nil => rfl
 | cons c r => exact if_neg (fun e => h r (by rw [e]))
theorem withO_isSome {α β : Type} (f : α → β) (o : Option α) : (withO f o).isSome = o.isSome := by cases o <;> rfl


abbrev Stp := Bool × UInt8 × UInt8 × Int
/-- Does the last step have to come? -/
def endB (steps : List Stp) : Bool := match steps.getLast? with | some y => !y.1 | none => false
/-- May a step stand behind these? -/
def mayB (steps : List Stp) (x : Stp) : Bool := decide (steps.length < 8) && (!x.1 || endB steps)
theorem endB_snoc (l : List Stp) (y : Stp) : endB (l ++ [y]) = !y.1 := by simp [endB]

end Go.Lull

namespace Go.Lull

/-- An event: source, time, kind, value. -/
abbrev Ev := Int × Int × UInt8 × Int
/-- Does an event match a step? -/
def signHolds (g : UInt8) (v n : Int) : Bool := if g.toNat = 60 then decide (v < n) else if g.toNat = 61 then v == n else if g.toNat = 62 then decide (n < v) else true
def fitsB (x : Stp) (e : Ev) : Bool := (e.2.2.1 == x.2.1) && signHolds x.2.2.1 e.2.2.2 x.2.2.2


/-- The least of some marks. -/
def lessI (a x : Int) : Int := if x < a then x else a
def markB : List Int → Int
 | [] => 0
 | m :: r => r.foldl lessI m
theorem markB_snoc (l : List Int) (x : Int) (h : l ≠ []) : markB (l ++ [x]) = lessI (markB l) x := by
 cases l with
 | nil => exact absurd rfl h
 | cons m r => simp [markB, List.foldl_append]


/-- What becomes of a run: it is over, it is a match (its events, when), or it stands at a step. -/
inductive Fate
 | dead
 | done (taken : List Ev) (close : Int)
 | stands (k : Nat) (taken : List Ev)

def noStep : Stp := (false, 0, 0, 0)
/-- One event shown to a run that stands at step k: none: it goes on; its new step and events. -/
def showB (steps : List Stp) (k : Nat) (taken : List Ev) (e : Ev) : Fate :=
 if (steps.getD k noStep).1 = true ∧ fitsB (steps.getD k noStep) e = true then .dead
 else
  let m := if (steps.getD k noStep).1 = true then k + 1 else k
  if m = steps.length then .stands k taken
  else if fitsB (steps.getD m noStep) e = true then (if m + 1 = steps.length then .done (taken ++ [e]) e.2.1 else .stands (m + 1) (taken ++ [e]))
  else .stands k taken

/-- A run followed through events, up to its deadline. -/
def goB (steps : List Stp) (fin : Int) : Nat → List Ev → List Ev → Fate
 | k, taken, [] => .stands k taken
 | k, taken, e :: r => if fin < e.2.1 then .stands k taken else
  match showB steps k taken e with
   | .dead => .dead
   | .done t c => .done t c
   | .stands k' t' => goB steps fin k' t' r

end Go.Lull

namespace Go.Lull
set_option linter.unusedVariables false

/-- A run: its deadline, the events that it took, the step that it stands at. -/
structure Rn where
 dl : Int
 tk : List Ev
 k : Nat
/-- A match. -/
structure Mt where
 q : Nat
 cl : Int
 evs : List Ev
/-- A query. -/
structure Qy where
 num : Nat
 st : List Stp
 wn : Int
 runs : List Rn
 found : List Mt
/-- An Engine: marks, events that wait, queries, the next number, who was served last, how often in a row. -/
structure En where
 marks : List Int
 buf : List Ev
 qs : List Qy
 next : Nat
 tq : Nat
 tr : Nat

def keep1 (st : List Stp) (e : Ev) (r : Rn) : Option Rn := match showB st r.k r.tk e with | .stands k t => some ⟨r.dl, t, k⟩ | _ => none
def told1 (num : Nat) (st : List Stp) (e : Ev) (r : Rn) : Option Mt := match showB st r.k r.tk e with | .done t c => some ⟨num, c, t⟩ | _ => none
def shownQ (q : Qy) (e : Ev) : Qy := { q with runs := q.runs.filterMap (keep1 q.st e), found := q.found ++ q.runs.filterMap (told1 q.num q.st e) }
def beginQ (q : Qy) (e : Ev) : Qy :=
 if fitsB (q.st.getD 0 noStep) e = true then
  (if q.st.length = 1 then { q with found := q.found ++ [⟨q.num, e.2.1, [e]⟩] } else { q with runs := q.runs ++ [⟨e.2.1 + q.wn, [e], 1⟩] })
 else q
/-- A released event shown to a query. -/
def showQ (q : Qy) (e : Ev) : Qy := beginQ (shownQ q e) e

def lastNot (st : List Stp) (r : Rn) : Bool := (st.drop r.k).all (·.1)
/-- A deadline that is over. -/
def endQ (q : Qy) (t : Int) : Qy :=
 { q with runs := q.runs.dropWhile (fun r => r.dl == t), found := q.found ++ ((q.runs.takeWhile (fun r => r.dl == t)).filter (lastNot q.st)).map (fun r => ⟨q.num, t, r.tk⟩) }

inductive Deed
 | rel (e : Ev)
 | fin (t : Int)
def Deed.time : Deed → Int
 | .rel e => e.2.1
 | .fin t => t
def deed1 (d : Option Deed) (q : Qy) : Option Deed :=
 match q.runs with
 | [] => d
 | r :: _ => match d with
  | none => some (.fin r.dl)
  | some x => if r.dl < x.time then some (.fin r.dl) else some x
def firstD (buf : List Ev) (qs : List Qy) : Option Deed := qs.foldl deed1 (buf.head?.map Deed.rel)
def doD (s : List Ev × List Qy) : Deed → List Ev × List Qy
 | .rel e => (s.1.tail, s.2.map (showQ · e))
 | .fin t => (s.1, s.2.map (endQ · t))
def runsN (qs : List Qy) : Nat := (qs.map (·.runs.length)).sum
def passM (s : List Ev × List Qy) : Nat := s.1.length * (s.2.length + 1) + runsN s.2

theorem firstD_cases : ∀ (qs : List Qy) (d : Option Deed) (x : Deed), qs.foldl deed1 d = some x → d = some x ∨ ∃ q ∈ qs, ∃ r l, q.runs = r :: l ∧ x = .fin r.dl
 | [], d, x, h => Or.inl h
 | q :: qs, d, x, h => by
  rw [List.foldl_cons] at h
  rcases firstD_cases qs (deed1 d q) x h with h1 | ⟨q', hq', h2⟩
  ·unfold deed1 at h1
   cases hr : q.runs with
   | nil => rw [hr] at h1; exact Or.inl h1
   | cons r l =>
    rw [hr] at h1
    simp only at h1
    cases d with
    | none => exact Or.inr ⟨q, List.mem_cons_self, r, l, hr, (Option.some.inj h1).symm⟩
    | some y =>
     simp only at h1
     split at h1
     ·exact Or.inr ⟨q, List.mem_cons_self, r, l, hr, (Option.some.inj h1).symm⟩
     ·exact Or.inl h1
  ·exact Or.inr ⟨q', List.mem_cons_of_mem _ hq', h2⟩

theorem firstD_rel {buf : List Ev} {qs : List Qy} {e : Ev} (h : firstD buf qs = some (.rel e)) : ∃ r, buf = e :: r := by
 rcases firstD_cases qs _ _ h with h1 | ⟨_, _, _, _, _, h2⟩
 ·cases buf with
  | nil => cases h1
  | cons b r =>
   simp at h1
   exact ⟨r, by rw [h1]⟩
 ·cases h2
theorem firstD_fin {buf : List Ev} {qs : List Qy} {t : Int} (h : firstD buf qs = some (.fin t)) : ∃ q ∈ qs, ∃ r l, q.runs = r :: l ∧ r.dl = t := by
 rcases firstD_cases qs _ _ h with h1 | ⟨q, hq, r, l, h2, h3⟩
 ·cases buf with
  | nil => cases h1
  | cons b r => simp at h1
 ·exact ⟨q, hq, r, l, h2, by cases h3; rfl⟩

theorem filterMap_len {α β : Type} (f : α → Option β) (l : List α) : (l.filterMap f).length ≤ l.length := List.length_filterMap_le f l
theorem beginQ_runs (q : Qy) (e : Ev) : (beginQ q e).runs.length ≤ q.runs.length + 1 := by
 unfold beginQ
 split
 ·split
  ·simp
  ·simp
 ·simp
theorem showQ_runs (q : Qy) (e : Ev) : (showQ q e).runs.length ≤ q.runs.length + 1 := by
 unfold showQ
 refine Nat.le_trans (beginQ_runs _ e) ?_
 exact Nat.succ_le_succ (filterMap_len _ _)
theorem endQ_runs (q : Qy) (t : Int) : (endQ q t).runs.length ≤ q.runs.length := List.Sublist.length_le (List.dropWhile_sublist _)
theorem endQ_less {q : Qy} {t : Int} {r : Rn} {l : List Rn} (h : q.runs = r :: l) (ht : r.dl = t) : (endQ q t).runs.length < q.runs.length := by
 unfold endQ
 simp only [h]
 rw [List.dropWhile_cons_of_pos (by simp [ht])]
 exact Nat.lt_succ_of_le (List.Sublist.length_le (List.dropWhile_sublist _))

theorem runsN_show (e : Ev) : ∀ qs : List Qy, runsN (qs.map (showQ · e)) ≤ runsN qs + qs.length
 | [] => by simp [runsN]
 | q :: qs => by
  have h1 := runsN_show e qs
  have h2 := showQ_runs q e
  simp only [runsN, List.map_cons, List.sum_cons, List.length_cons] at *
  omega
theorem runsN_end (t : Int) : ∀ qs : List Qy, runsN (qs.map (endQ · t)) ≤ runsN qs
 | [] => by simp [runsN]
 | q :: qs => by
  have h1 := runsN_end t qs
  have h2 := endQ_runs q t
  simp only [runsN, List.map_cons, List.sum_cons] at *
  omega
theorem runsN_less (t : Int) : ∀ qs : List Qy, (∃ q ∈ qs, ∃ r l, q.runs = r :: l ∧ r.dl = t) → runsN (qs.map (endQ · t)) < runsN qs
 | [], h => by obtain ⟨q, hq, _⟩ := h; cases hq
 | q :: qs, h => by
  obtain ⟨q', hq', r, l, h1, h2⟩ := h
  rcases List.mem_cons.1 hq' with rfl | hm
  ·have h3 := runsN_end t qs
   have h4 := endQ_less h1 h2
   simp only [runsN, List.map_cons, List.sum_cons] at *
   omega
  ·have h3 := runsN_less t qs ⟨q', hm, r, l, h1, h2⟩
   have h4 := endQ_runs q t
   simp only [runsN, List.map_cons, List.sum_cons] at *
   omega

theorem passM_less {s : List Ev × List Qy} {d : Deed} (h : firstD s.1 s.2 = some d) : passM (doD s d) < passM s := by
 cases d with
 | rel e =>
  obtain ⟨r, hr⟩ := firstD_rel h
  have h1 := runsN_show e s.2
  simp only [passM, doD, hr, List.tail_cons, List.length_cons, List.length_map]
  rw [Nat.add_mul r.length 1]
  omega
 | fin t =>
  have h1 := runsN_less t s.2 (firstD_fin h)
  simp only [passM, doD, List.length_map]
  omega

/-- All that is to be done at the times below a watermark. -/
def pass (wm : Int) (s : List Ev × List Qy) : List Ev × List Qy :=
 match h : firstD s.1 s.2 with
 | none => s
 | some d => if d.time < wm then pass wm (doD s d) else s
termination_by passM s
decreasing_by exact passM_less h

theorem pass_none {wm : Int} {s : List Ev × List Qy} (h : firstD s.1 s.2 = none) : pass wm s = s := by
 unfold pass
 split
 ·rfl
 ·rename_i d h2; rw [h] at h2; cases h2
theorem pass_late {wm : Int} {s : List Ev × List Qy} {d : Deed} (h : firstD s.1 s.2 = some d) (ht : ¬ d.time < wm) : pass wm s = s := by
 unfold pass
 split
 ·rfl
 ·rename_i d' h2; rw [h] at h2; cases h2; rw [if_neg ht]
theorem pass_step {wm : Int} {s : List Ev × List Qy} {d : Deed} (h : firstD s.1 s.2 = some d) (ht : d.time < wm) : pass wm s = pass wm (doD s d) := by
 rw [pass]
 split
 ·rename_i h2; rw [h] at h2; cases h2
 ·rename_i d' h2; rw [h] at h2; cases h2; rw [if_pos ht]

/-! ### The calls -/
def after (x y : Ev) : Bool := decide (y.2.1 < x.2.1) || (x.2.1 == y.2.1 && decide (y.1 < x.1))
/-- An event put among those that wait. -/
def putB (buf : List Ev) (e : Ev) : List Ev := buf.takeWhile (fun x => !after x e) ++ e :: buf.dropWhile (fun x => !after x e)
def properB (n : Nat) (e : Ev) : Bool :=
 (decide (0 ≤ e.1) && decide (e.1 < n)) && (decide (0 ≤ e.2.1) && decide (e.2.1 ≤ 1000000)) && (decide (97 ≤ e.2.2.1.toNat) && decide (e.2.2.1.toNat ≤ 122)) && (decide (-1000 ≤ e.2.2.2) && decide (e.2.2.2 ≤ 1000))
/-- One event: the error, and what is then. -/
def takeE (s : En) (e : Ev) : Nat × En :=
 if properB s.marks.length e = true then
  (if e.2.1 < markB s.marks then (5, s) else if 60 ≤ s.buf.length then (6, s) else (0, { s with buf := putB s.buf e }))
 else (1, s)
def offerE : En → List Ev → Nat × Nat × En
 | s, [] => (0, 0, s)
 | s, e :: r => if (takeE s e).1 = 0 then (let x := offerE (takeE s e).2 r; (x.1 + 1, x.2)) else (0, takeE s e)
def beatE (s : En) (src t : Int) : Nat × En :=
 if src < 0 ∨ (s.marks.length : Int) ≤ src ∨ t < 0 ∨ 2000000 < t then (1, s)
 else if t < s.marks.getD src.toNat 0 then (5, s)
 else
  let ms := s.marks.set src.toNat t
  let x := pass (markB ms) (s.buf, s.qs)
  (0, { s with marks := ms, buf := x.1, qs := x.2 })
def findE (s : En) (n : Int) : Option Qy := s.qs.find? (fun q => (q.num : Int) == n)
def removeE (s : En) (n : Int) : Nat × En :=
 match findE s n with
 | none => (4, s)
 | some _ => (0, { s with qs := s.qs.filter (fun q => !((q.num : Int) == n)) })
def runsE (s : En) (n : Int) : Nat := match findE s n with | none => 0 | some q => q.runs.length
def waitE (s : En) (n : Int) : Nat := match findE s n with | none => 0 | some q => q.found.length
def popQ (n : Nat) (qs : List Qy) : List Qy := qs.map (fun q => if q.num = n then { q with found := q.found.tail } else q)
def orderE (s : En) : List Qy := s.qs.filter (fun q => decide (s.tq < q.num)) ++ s.qs.filter (fun q => !decide (s.tq < q.num))
def firstF : List Qy → Option (Nat × Mt)
 | [] => none
 | q :: r => match q.found with | [] => firstF r | m :: _ => some (q.num, m)
def lastF (s : En) : Option Mt := if s.tr < 2 then (match findE s s.tq with | none => none | some q => q.found.head?) else none
def serveE (s : En) : Option (Mt × En) :=
 match lastF s with
 | some m => some (m, { s with qs := popQ s.tq s.qs, tr := s.tr + 1 })
 | none => match firstF (orderE s) with
  | some (n, m) => some (m, { s with qs := popQ n s.qs, tq := n, tr := 1 })
  | none => none
def drainE : Nat → En → List Mt × En
 | 0, s => ([], s)
 | n + 1, s => match serveE s with
  | none => ([], s)
  | some (m, s') => (m :: (drainE n s').1, (drainE n s').2)
end Go.Lull

namespace Go.Lull
set_option linter.unusedVariables false

/-- What an event does to a run, by the steps that are left. -/
inductive SeeR
 | fails
 | on
 | took (j : Nat)
def seeL (e : Ev) : List Stp → Nat → SeeR
 | [], _ => .on
 | x :: r, j => if x.1 = true then (if fitsB x e = true then .fails else seeL e r (j + 1)) else (if fitsB x e = true then .took (j + 1) else .on)

/-- No two that must not come beside one another, and not the first. -/
def altB : List Stp → Prop
 | [] => True
 | x :: r => (x.1 = true → ∀ y ∈ r.head?, y.1 = false) ∧ altB r

theorem altB_drop : ∀ (l : List Stp) (k : Nat), altB l → altB (l.drop k)
 | l, 0, h => h
 | [], k + 1, h => by simp [altB]
 | x :: r, k + 1, h => by
  rw [List.drop_succ_cons]
  exact altB_drop r k h.2

theorem altB_snoc : ∀ (l : List Stp) (x : Stp), altB l → (x.1 = true → endB l = true) → altB (l ++ [x])
 | [], x, _, _ => by simp [altB]
 | [y], x, h, hx => by
  refine ⟨fun hy z hz => ?_, by simp [altB]⟩
  simp at hz
  subst hz
  cases hb : x.1 with
  | false => rfl
  | true =>
   have := hx hb
   simp [endB, hy] at this
 | y :: z :: r, x, h, hx => by
  refine ⟨fun hy u hu => h.1 hy u ?_, ?_⟩
  ·simpa using hu
  ·exact altB_snoc (z :: r) x h.2 (fun hb => by have := hx hb; simpa [endB] using this)

theorem showB_see (st : List Stp) (k : Nat) (tk : List Ev) (e : Ev) (hk : k < st.length) (ha : altB st) :
  showB st k tk e = match seeL e (st.drop k) 0 with
   | .fails => .dead
   | .on => .stands k tk
   | .took j => if k + j = st.length then .done (tk ++ [e]) e.2.1 else .stands (k + j) (tk ++ [e]) := by
 have hd := altB_drop st k ha
 have hg : st.getD k noStep = st[k] := by simp [List.getD, hk]
 have hcons : st.drop k = st[k] :: st.drop (k + 1) := List.drop_eq_getElem_cons hk
 rw [hcons] at hd ⊢
 obtain ⟨hd1, hd2⟩ := hd
 unfold showB seeL
 rw [hg]
 by_cases h1 : st[k].1 = true
 ·by_cases h2 : fitsB st[k] e = true
  ·simp [h1, h2]
  ·simp only [h1, h2, true_and, if_false, if_true, Bool.false_eq_true]
   by_cases h3 : k + 1 = st.length
   ·have hn : st.drop (k + 1) = [] := List.drop_eq_nil_of_le (by omega)
    rw [if_pos h3, hn]
    rfl
   ·have hlt : k + 1 < st.length := by omega
    have hg2 : st.getD (k + 1) noStep = st[k + 1] := by simp [List.getD, hlt]
    have hc2 : st.drop (k + 1) = st[k + 1] :: st.drop (k + 1 + 1) := List.drop_eq_getElem_cons hlt
    rw [if_neg h3, hg2, hc2]
    have h4 : st[k + 1].1 = false := hd1 h1 _ (by rw [hc2]; simp)
    unfold seeL
    simp only [h4, Bool.false_eq_true, if_false]
    by_cases h5 : fitsB st[k + 1] e = true
    ·simp only [h5, if_true]
    ·simp only [h5, if_false, Bool.false_eq_true]
 ·have h1' : st[k].1 = false := by simpa using h1
  simp only [h1', Bool.false_eq_true, false_and, if_false]
  rw [if_neg (show ¬ k = st.length by omega), hg]
  by_cases h5 : fitsB st[k] e = true
  ·simp only [h5, if_true, Nat.zero_add]
  ·simp only [h5, if_false, Bool.false_eq_true]
theorem seeL_not {e : Ev} {x : Stp} {r : List Stp} {j : Nat} (h : x.1 = true) (hf : fitsB x e = true) : seeL e (x :: r) j = .fails := by simp [seeL, h, hf]
theorem seeL_pass {e : Ev} {x : Stp} {r : List Stp} {j : Nat} (h : x.1 = true) (hf : fitsB x e = false) : seeL e (x :: r) j = seeL e r (j + 1) := by simp [seeL, h, hf]
theorem seeL_take {e : Ev} {x : Stp} {r : List Stp} {j : Nat} (h : x.1 = false) (hf : fitsB x e = true) : seeL e (x :: r) j = .took (j + 1) := by simp [seeL, h, hf]
theorem seeL_miss {e : Ev} {x : Stp} {r : List Stp} {j : Nat} (h : x.1 = false) (hf : fitsB x e = false) : seeL e (x :: r) j = .on := by simp [seeL, h, hf]
end Go.Lull

namespace Go.Lull
set_option linter.unusedVariables false

def totF (qs : List Qy) : Nat := (qs.map (·.found.length)).sum
theorem popQ_le (n : Nat) : ∀ qs : List Qy, totF (popQ n qs) ≤ totF qs
 | [] => by simp [popQ, totF]
 | q :: qs => by
  have h := popQ_le n qs
  simp only [popQ, totF, List.map_cons, List.sum_cons] at *
  have : (if q.num = n then { q with found := q.found.tail } else q).found.length ≤ q.found.length := by split <;> simp
  omega
theorem popQ_tot (n : Nat) : ∀ qs : List Qy, (∃ q ∈ qs, q.num = n ∧ q.found ≠ []) → totF (popQ n qs) + 1 ≤ totF qs
 | [], h => by obtain ⟨q, hq, _⟩ := h; cases hq
 | q :: qs, h => by
  obtain ⟨q', hq', h1, h2⟩ := h
  rcases List.mem_cons.1 hq' with rfl | hm
  ·have h := popQ_le n qs
   simp only [popQ, totF, List.map_cons, List.sum_cons] at *
   rw [if_pos h1]
   have : 0 < q'.found.length := List.length_pos_iff.2 h2
   have h3 : q'.found.tail.length = q'.found.length - 1 := by simp
   simp only [h3]
   omega
  ·have h := popQ_tot n qs ⟨q', hm, h1, h2⟩
   simp only [popQ, totF, List.map_cons, List.sum_cons] at *
   have : (if q.num = n then { q with found := q.found.tail } else q).found.length ≤ q.found.length := by split <;> simp
   omega
theorem popQ_nums (n : Nat) (qs : List Qy) : (popQ n qs).map (·.num) = qs.map (·.num) := by
 unfold popQ
 rw [List.map_map]
 apply List.map_congr_left
 intro q _
 simp only [Function.comp]
 split <;> rfl
theorem firstF_mem : ∀ (l : List Qy) (n : Nat) (m : Mt), firstF l = some (n, m) → ∃ q ∈ l, q.num = n ∧ q.found ≠ []
 | [], n, m, h => by cases h
 | q :: r, n, m, h => by
  unfold firstF at h
  cases hf : q.found with
  | nil =>
   rw [hf] at h
   obtain ⟨q', h1, h2⟩ := firstF_mem r n m h
   exact ⟨q', List.mem_cons_of_mem _ h1, h2⟩
  | cons a b =>
   rw [hf] at h
   cases h
   exact ⟨q, List.mem_cons_self, rfl, by rw [hf]; simp⟩
theorem serveE_less {s s' : En} {m : Mt} (h : serveE s = some (m, s')) : totF s'.qs + 1 ≤ totF s.qs ∧ s'.qs.map (·.num) = s.qs.map (·.num) := by
 unfold serveE at h
 cases hl : lastF s with
 | some m' =>
  rw [hl] at h
  cases h
  refine ⟨popQ_tot _ _ ?_, popQ_nums _ _⟩
  unfold lastF at hl
  split at hl
  ·cases hf : findE s s.tq with
   | none => rw [hf] at hl; cases hl
   | some q =>
    rw [hf] at hl
    simp only at hl
    refine ⟨q, List.mem_of_find?_eq_some hf, ?_, fun e => by rw [e] at hl; cases hl⟩
    have := List.find?_some hf
    have h2 : (q.num : Int) = (s.tq : Int) := by simpa using this
    omega
  ·cases hl
 | none =>
  rw [hl] at h
  cases hf : firstF (orderE s) with
  | none => rw [hf] at h; cases h
  | some x =>
   obtain ⟨n, m'⟩ := x
   rw [hf] at h
   cases h
   obtain ⟨q, hq, h1, h2⟩ := firstF_mem _ _ _ hf
   refine ⟨popQ_tot _ _ ⟨q, ?_, h1, h2⟩, popQ_nums _ _⟩
   unfold orderE at hq
   rcases List.mem_append.1 hq with hq | hq
   ·exact (List.mem_filter.1 hq).1
   ·exact (List.mem_filter.1 hq).1
theorem drainE_none {n : Nat} {s : En} (h : serveE s = none) : drainE n s = ([], s) := by
 cases n with
 | zero => rfl
 | succ n => simp [drainE, h]
theorem drainE_some {n : Nat} {s s' : En} {m : Mt} (h : serveE s = some (m, s')) : drainE (n + 1) s = (m :: (drainE n s').1, (drainE n s').2) := by
 simp [drainE, h]
theorem totF_mem {qs : List Qy} {q : Qy} (h : q ∈ qs) : q.found.length ≤ totF qs := by
 induction qs with
 | nil => cases h
 | cons a l ih =>
  simp only [totF, List.map_cons, List.sum_cons] at *
  rcases List.mem_cons.1 h with rfl | h
  ·omega
  ·have := ih h; omega
end Go.Lull

namespace Go.Lull
set_option linter.unusedVariables false

/-- How much there is. -/
def SZ (s : List Ev × List Qy) : Prop := ∀ q ∈ s.2, q.found.length + q.runs.length + s.1.length ≤ 536870912
def TM (l : List Ev) : Prop := ∀ e ∈ l, 0 ≤ e.2.1 ∧ e.2.1 ≤ 1000000
theorem show_size (q : Qy) (e : Ev) : (showQ q e).found.length + (showQ q e).runs.length ≤ q.found.length + q.runs.length + 1 := by
 have h0 : ∀ l : List Rn, (l.filterMap (keep1 q.st e)).length + (l.filterMap (told1 q.num q.st e)).length ≤ l.length := by
  intro l
  induction l with
  | nil => simp
  | cons r l ih =>
   simp only [List.filterMap_cons, List.length_cons]
   unfold keep1 told1 at *
   cases showB q.st r.k r.tk e <;> simp only [List.length_cons] <;> omega
 have h1 := h0 q.runs
 unfold showQ beginQ shownQ
 simp only
 split
 ·split
  ·simp; omega
  ·simp; omega
 ·simp; omega
theorem end_size (q : Qy) (t : Int) : (endQ q t).found.length + (endQ q t).runs.length ≤ q.found.length + q.runs.length := by
 unfold endQ
 simp only [List.length_append, List.length_map]
 have h1 := List.length_filter_le (lastNot q.st) (q.runs.takeWhile (fun r => r.dl == t))
 have h2 : (q.runs.takeWhile (fun r => r.dl == t)).length + (q.runs.dropWhile (fun r => r.dl == t)).length = q.runs.length := by
  rw [← List.length_append, List.takeWhile_append_dropWhile]
 omega
theorem SZ.step {s : List Ev × List Qy} {d : Deed} (h : SZ s) (hd : firstD s.1 s.2 = some d) : SZ (doD s d) := by
 cases d with
 | rel e =>
  obtain ⟨r, hr⟩ := firstD_rel hd
  intro q hq
  obtain ⟨q0, hq0, rfl⟩ := List.mem_map.1 hq
  have h1 := h q0 hq0
  have h2 := show_size q0 e
  simp only [doD, hr, List.tail_cons, List.length_cons] at *
  omega
 | fin t =>
  intro q hq
  obtain ⟨q0, hq0, rfl⟩ := List.mem_map.1 hq
  have h1 := h q0 hq0
  have h2 := end_size q0 t
  simp only [doD] at *
  omega
theorem TM.step {s : List Ev × List Qy} {d : Deed} (h : TM s.1) : TM (doD s d).1 := by
 cases d with
 | rel e => exact fun x hx => h x (List.mem_of_mem_tail hx)
 | fin t => exact h
end Go.Lull

namespace Go.Lull
set_option linter.unusedVariables false

/-- Events in the order of their release. -/
def SB (l : List Ev) : Prop := l.Pairwise (fun x y => after x y = false)

theorem after_iff (x y : Ev) : after x y = true ↔ y.2.1 < x.2.1 ∨ (x.2.1 = y.2.1 ∧ y.1 < x.1) := by
 simp [after]
theorem after_trans {x y e : Ev} (h1 : after x y = false) (h2 : after x e = true) : after y e = true := by
 rw [after_iff] at *
 have : ¬ (y.2.1 < x.2.1 ∨ (x.2.1 = y.2.1 ∧ y.1 < x.1)) := by
  rw [← after_iff, h1]; simp
 omega
theorem after_flip {x y : Ev} (h : after x y = true) : after y x = false := by
 rw [Bool.eq_false_iff]
 intro h2
 rw [after_iff] at *
 omega

/-- Where an event goes among those that wait. -/
def placeB (buf : List Ev) (e : Ev) : Nat := (buf.takeWhile (fun x => !after x e)).length
theorem place_le (buf : List Ev) (e : Ev) : placeB buf e ≤ buf.length := List.Sublist.length_le (List.takeWhile_sublist _)
theorem take_tw (p : Ev → Bool) : ∀ l : List Ev, l.take (l.takeWhile p).length = l.takeWhile p ∧ l.drop (l.takeWhile p).length = l.dropWhile p
 | [] => by simp
 | x :: l => by
  have ih := take_tw p l
  rw [List.takeWhile_cons, List.dropWhile_cons]
  cases p x with
  | true => simp [ih.1, ih.2]
  | false => simp
theorem putB_place (buf : List Ev) (e : Ev) : putB buf e = buf.take (placeB buf e) ++ e :: buf.drop (placeB buf e) := by
 obtain ⟨h1, h2⟩ := take_tw (fun x => !after x e) buf
 unfold putB placeB
 rw [h1, h2]
theorem place_lo (e : Ev) : ∀ (buf : List Ev) (k : Nat) (hk : k < buf.length), k < placeB buf e → after buf[k] e = false
 | [], k, hk, _ => by simp at hk
 | b :: r, k, hk, h => by
  unfold placeB at h
  rw [List.takeWhile_cons] at h
  split at h
  ·rename_i hb
   cases k with
   | zero => simpa using hb
   | succ k => exact place_lo e r k (by simpa using hk) (by unfold placeB; simpa using h)
  ·simp at h
theorem sb_after {e : Ev} : ∀ {buf : List Ev}, SB buf → ∀ {b : Ev} {r : List Ev}, buf = b :: r → after b e = true → ∀ x ∈ buf, after x e = true := by
 intro buf hs b r hb ha x hx
 subst hb
 rcases List.mem_cons.1 hx with rfl | hx
 ·exact ha
 ·exact after_trans ((List.pairwise_cons.1 hs).1 x hx) ha
theorem place_hi (e : Ev) : ∀ (buf : List Ev), SB buf → ∀ (k : Nat) (hk : k < buf.length), placeB buf e ≤ k → after buf[k] e = true
 | [], _, k, hk, _ => by simp at hk
 | b :: r, hs, k, hk, h => by
  unfold placeB at h
  rw [List.takeWhile_cons] at h
  split at h
  ·cases k with
   | zero => simp at h
   | succ k => exact place_hi e r (List.pairwise_cons.1 hs).2 k (by simpa using hk) (by unfold placeB; simpa using h)
  ·rename_i hb
   exact sb_after hs rfl (by simpa using hb) _ (List.getElem_mem _)
theorem SB.put {buf : List Ev} (h : SB buf) (e : Ev) : SB (putB buf e) := by
 rw [putB_place]
 unfold SB
 have hsplit : buf.take (placeB buf e) ++ buf.drop (placeB buf e) = buf := List.take_append_drop _ _
 have hp : SB (buf.take (placeB buf e) ++ buf.drop (placeB buf e)) := by rw [hsplit]; exact h
 obtain ⟨p1, p2, p3⟩ := List.pairwise_append.1 hp
 refine List.pairwise_append.2 ⟨p1, List.pairwise_cons.2 ⟨?_, p2⟩, ?_⟩
 ·intro y hy
  obtain ⟨i, hi, rfl⟩ := List.mem_iff_getElem.1 hy
  refine after_flip ?_
  rw [List.getElem_drop]
  exact place_hi e buf h _ (by simp at hi; omega) (by omega)
 ·intro x hx y hy
  rcases List.mem_cons.1 hy with rfl | hy
  ·obtain ⟨i, hi, rfl⟩ := List.mem_iff_getElem.1 hx
   rw [List.getElem_take]
   simp at hi
   exact place_lo y buf i (by omega) (by omega)
  ·exact p3 x hx y hy
theorem SB.step {s : List Ev × List Qy} {d : Deed} (h : SB s.1) : SB (doD s d).1 := by
 cases d with
 | rel e => exact List.Pairwise.sublist (List.tail_sublist _) h
 | fin t => exact h
theorem pass_ind {P : List Ev × List Qy → Prop} {wm : Int} (hs : ∀ s d, P s → firstD s.1 s.2 = some d → P (doD s d)) : ∀ (n : Nat) (s : List Ev × List Qy), passM s = n → P s → P (pass wm s) := by
 intro n
 induction n using Nat.strongRecOn with
 | _ n ih =>
  intro s hn h
  cases hf : firstD s.1 s.2 with
  | none => rw [pass_none hf]; exact h
  | some d =>
   by_cases ht : d.time < wm
   ·rw [pass_step hf ht]
    exact ih (passM (doD s d)) (by rw [← hn]; exact passM_less hf) _ rfl (hs s d h hf)
   ·rw [pass_late hf ht]; exact h
theorem SB.pass {s : List Ev × List Qy} {wm : Int} (h : SB s.1) : SB (pass wm s).1 := pass_ind (P := fun s => SB s.1) (fun _ _ h _ => h.step) _ s rfl h
theorem TM.pass {s : List Ev × List Qy} {wm : Int} (h : TM s.1) : TM (Go.Lull.pass wm s).1 := pass_ind (P := fun s => TM s.1) (fun _ _ h _ => h.step) _ s rfl h
theorem SZ.pass {s : List Ev × List Qy} {wm : Int} (h : SZ s) : SZ (Go.Lull.pass wm s) := pass_ind (P := SZ) (fun _ _ h hf => h.step hf) _ s rfl h
theorem TM.put {buf : List Ev} {e : Ev} (h : TM buf) (h0 : 0 ≤ e.2.1) (h1 : e.2.1 ≤ 1000000) : TM (putB buf e) := by
 intro x hx
 rw [putB_place] at hx
 rcases List.mem_append.1 hx with hx | hx
 ·exact h x (List.mem_of_mem_take hx)
 ·rcases List.mem_cons.1 hx with rfl | hx
  ·exact ⟨h0, h1⟩
  ·exact h x (List.mem_of_mem_drop hx)
theorem put_len (buf : List Ev) (e : Ev) : (putB buf e).length = buf.length + 1 := by
 rw [putB_place]
 have := place_le buf e
 simp; omega
end Go.Lull
