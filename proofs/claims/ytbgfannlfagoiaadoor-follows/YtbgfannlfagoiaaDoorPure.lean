import Derived.Lib.Split
import Derived.Lib.SplitLaws
namespace Go.Lull

/-- The number that the digits are, with n ahead of them; none: no digit, or above most. -/
def numL (most : Nat) : Nat → List UInt8 → Option Nat
  | n, [] => some n
  | n, c :: r => if 48 ≤ c.toNat ∧ c.toNat ≤ 57 then (if most < 10 * n + (c.toNat - 48) then none else numL most (10 * n + (c.toNat - 48)) r) else none

def numB (most : Nat) (l : List UInt8) : Option Nat :=
  if l = [] then none else if 1 < l.length ∧ l.head? = some 48 then none else numL most 0 l

theorem numL_le (most : Nat) : ∀ (l : List UInt8) (n m : Nat), n ≤ most → numL most n l = some m → m ≤ most := by
  intro l
  induction l with
  | nil => intro n m h e; simp [numL] at e; omega
  | cons c r ih =>
    intro n m h e
    unfold numL at e
    split at e
    · split at e
      · cases e
      · exact ih _ _ (by omega) e
    · cases e

theorem numB_le {most m : Nat} {l : List UInt8} (e : numB most l = some m) : m ≤ most := by
  unfold numB at e
  split at e
  · cases e
  · split at e
    · cases e
    · exact numL_le most l 0 m (Nat.zero_le _) e

theorem numL_no {most n : Nat} {c : UInt8} {r : List UInt8} (h : ¬ (48 ≤ c.toNat ∧ c.toNat ≤ 57)) : numL most n (c :: r) = none := by
  unfold numL; rw [if_neg h]
theorem numL_big {most n : Nat} {c : UInt8} {r : List UInt8} (h : 48 ≤ c.toNat ∧ c.toNat ≤ 57) (h2 : most < 10 * n + (c.toNat - 48)) : numL most n (c :: r) = none := by
  unfold numL; rw [if_pos h, if_pos h2]
theorem numL_step {most n : Nat} {c : UInt8} {r : List UInt8} (h : 48 ≤ c.toNat ∧ c.toNat ≤ 57) (h2 : ¬ most < 10 * n + (c.toNat - 48)) : numL most n (c :: r) = numL most (10 * n + (c.toNat - 48)) r := by
  conv => lhs; unfold numL
  rw [if_pos h, if_neg h2]

theorem drop_cons (s : ByteArray) (k : Nat) (h : k < s.size) : s.data.toList.drop k = s[k] :: s.data.toList.drop (k + 1) := by
  rw [List.drop_eq_getElem_cons (by simpa using h)]; rfl

def numI (o : Option Nat) : Int := match o with | some n => n | none => -1
def num0 (o : Option Nat) : Int := match o with | some n => n | none => 0


end Go.Lull

namespace Go.Lull
def negO : Option Nat → Option Int
  | some n => if n = 0 then none else some (-(n : Int))
  | none => none
def posO : Option Nat → Option Int
  | some n => some (n : Int)
  | none => none
/-- The number behind a sign, with or without - ahead; not -0. -/
def valB : List UInt8 → Option Int
  | [] => none
  | c :: r => if c = 45 then negO (numB 1000 r) else posO (numB 1000 (c :: r))

theorem valB_neg {r : List UInt8} : valB (45 :: r) = negO (numB 1000 r) := by simp [valB]
theorem valB_pos {l : List UInt8} (h : ∀ r, l ≠ 45 :: r) : valB l = posO (numB 1000 l) := by
  cases l with
  | nil => rfl
  | cons c r => exact if_neg (fun e => h r (by rw [e]))

def letterB (c : UInt8) : Bool := decide (97 ≤ c.toNat ∧ c.toNat ≤ 122)
def signB (c : UInt8) : Bool := decide (c.toNat = 60 ∨ c.toNat = 61 ∨ c.toNat = 62)

def withO {α β : Type} (f : α → β) : Option α → Option β
  | some x => some (f x)
  | none => none
/-- A step without its mark: kind, sign (0: none), number. -/
def condB : List UInt8 → Option (UInt8 × UInt8 × Int)
  | [] => none
  | [k] => if letterB k = true then some (k, 0, 0) else none
  | k :: g :: v => if letterB k = true ∧ signB g = true then withO (fun n => (k, g, n)) (valB v) else none

/-- A step: must it not come? -/
def stepB : List UInt8 → Option (Bool × UInt8 × UInt8 × Int)
  | [] => none
  | c :: r => if c = 33 then withO (fun x => (true, x)) (condB r) else withO (fun x => (false, x)) (condB (c :: r))

theorem stepB_not {r : List UInt8} : stepB (33 :: r) = withO (fun x => (true, x)) (condB r) := by simp [stepB]
theorem stepB_must {l : List UInt8} (h : ∀ r, l ≠ 33 :: r) : stepB l = withO (fun x => (false, x)) (condB l) := by
  cases l with
  | nil => rfl
  | cons c r => exact if_neg (fun e => h r (by rw [e]))
theorem withO_isSome {α β : Type} (f : α → β) (o : Option α) : (withO f o).isSome = o.isSome := by cases o <;> rfl


abbrev Stp := Bool × UInt8 × UInt8 × Int
/-- Does the last step have to come? -/
def endB (steps : List Stp) : Bool := match steps.getLast? with | some y => !y.1 | none => false
/-- May a step stand behind these? -/
def mayB (steps : List Stp) (x : Stp) : Bool := decide (steps.length < 8) && (!x.1 || endB steps)
theorem endB_snoc (l : List Stp) (y : Stp) : endB (l ++ [y]) = !y.1 := by simp [endB]

end Go.Lull

namespace Go.Lull

/-- An event: source, time, kind, value. -/
abbrev Ev := Int × Int × UInt8 × Int
/-- Does an event match a step? -/
def signHolds (g : UInt8) (v n : Int) : Bool := if g.toNat = 60 then decide (v < n) else if g.toNat = 61 then v == n else if g.toNat = 62 then decide (n < v) else true
def fitsB (x : Stp) (e : Ev) : Bool := (e.2.2.1 == x.2.1) && signHolds x.2.2.1 e.2.2.2 x.2.2.2


/-- The least of some marks. -/
def lessI (a x : Int) : Int := if x < a then x else a
def markB : List Int → Int
  | [] => 0
  | m :: r => r.foldl lessI m
theorem markB_snoc (l : List Int) (x : Int) (h : l ≠ []) : markB (l ++ [x]) = lessI (markB l) x := by
  cases l with
  | nil => exact absurd rfl h
  | cons m r => simp [markB, List.foldl_append]


/-- What becomes of a run: it is over, it is a match (its events, when), or it stands at a step. -/
inductive Fate
  | dead
  | done (taken : List Ev) (close : Int)
  | stands (k : Nat) (taken : List Ev)

def noStep : Stp := (false, 0, 0, 0)
/-- One event shown to a run that stands at step k: none: it goes on; its new step and events. -/
def showB (steps : List Stp) (k : Nat) (taken : List Ev) (e : Ev) : Fate :=
  if (steps.getD k noStep).1 = true ∧ fitsB (steps.getD k noStep) e = true then .dead
  else
    let m := if (steps.getD k noStep).1 = true then k + 1 else k
    if m = steps.length then .stands k taken
    else if fitsB (steps.getD m noStep) e = true then (if m + 1 = steps.length then .done (taken ++ [e]) e.2.1 else .stands (m + 1) (taken ++ [e]))
    else .stands k taken

/-- A run followed through events, up to its deadline. -/
def goB (steps : List Stp) (fin : Int) : Nat → List Ev → List Ev → Fate
  | k, taken, [] => .stands k taken
  | k, taken, e :: r => if fin < e.2.1 then .stands k taken else
    match showB steps k taken e with
      | .dead => .dead
      | .done t c => .done t c
      | .stands k' t' => goB steps fin k' t' r

end Go.Lull

namespace Go.Lull
set_option linter.unusedVariables false

/-- A run: its deadline, the events that it took, the step that it stands at. -/
structure Rn where
  dl : Int
  tk : List Ev
  k : Nat
/-- A match. -/
structure Mt where
  q : Nat
  cl : Int
  evs : List Ev
/-- A query. -/
structure Qy where
  num : Nat
  st : List Stp
  wn : Int
  runs : List Rn
  found : List Mt
/-- An Engine: marks, events that wait, queries, the next number, who was served last, how often in a row. -/
structure En where
  marks : List Int
  buf : List Ev
  qs : List Qy
  next : Nat
  tq : Nat
  tr : Nat

def keep1 (st : List Stp) (e : Ev) (r : Rn) : Option Rn := match showB st r.k r.tk e with | .stands k t => some ⟨r.dl, t, k⟩ | _ => none
def told1 (num : Nat) (st : List Stp) (e : Ev) (r : Rn) : Option Mt := match showB st r.k r.tk e with | .done t c => some ⟨num, c, t⟩ | _ => none
def shownQ (q : Qy) (e : Ev) : Qy := { q with runs := q.runs.filterMap (keep1 q.st e), found := q.found ++ q.runs.filterMap (told1 q.num q.st e) }
def beginQ (q : Qy) (e : Ev) : Qy :=
  if fitsB (q.st.getD 0 noStep) e = true then
    (if q.st.length = 1 then { q with found := q.found ++ [⟨q.num, e.2.1, [e]⟩] } else { q with runs := q.runs ++ [⟨e.2.1 + q.wn, [e], 1⟩] })
  else q
/-- A released event shown to a query. -/
def showQ (q : Qy) (e : Ev) : Qy := beginQ (shownQ q e) e

def lastNot (st : List Stp) (r : Rn) : Bool := (st.drop r.k).all (·.1)
/-- A deadline that is over. -/
def endQ (q : Qy) (t : Int) : Qy :=
  { q with runs := q.runs.dropWhile (fun r => r.dl == t), found := q.found ++ ((q.runs.takeWhile (fun r => r.dl == t)).filter (lastNot q.st)).map (fun r => ⟨q.num, t, r.tk⟩) }

inductive Deed
  | rel (e : Ev)
  | fin (t : Int)
def Deed.time : Deed → Int
  | .rel e => e.2.1
  | .fin t => t
def deed1 (d : Option Deed) (q : Qy) : Option Deed :=
  match q.runs with
  | [] => d
  | r :: _ => match d with
    | none => some (.fin r.dl)
    | some x => if r.dl < x.time then some (.fin r.dl) else some x
def firstD (buf : List Ev) (qs : List Qy) : Option Deed := qs.foldl deed1 (buf.head?.map Deed.rel)
def doD (s : List Ev × List Qy) : Deed → List Ev × List Qy
  | .rel e => (s.1.tail, s.2.map (showQ · e))
  | .fin t => (s.1, s.2.map (endQ · t))
def runsN (qs : List Qy) : Nat := (qs.map (·.runs.length)).sum
def passM (s : List Ev × List Qy) : Nat := s.1.length * (s.2.length + 1) + runsN s.2

theorem firstD_cases : ∀ (qs : List Qy) (d : Option Deed) (x : Deed), qs.foldl deed1 d = some x → d = some x ∨ ∃ q ∈ qs, ∃ r l, q.runs = r :: l ∧ x = .fin r.dl
  | [], d, x, h => Or.inl h
  | q :: qs, d, x, h => by
    rw [List.foldl_cons] at h
    rcases firstD_cases qs (deed1 d q) x h with h1 | ⟨q', hq', h2⟩
    · unfold deed1 at h1
      cases hr : q.runs with
      | nil => rw [hr] at h1; exact Or.inl h1
      | cons r l =>
        rw [hr] at h1
        simp only at h1
        cases d with
        | none => exact Or.inr ⟨q, List.mem_cons_self, r, l, hr, (Option.some.inj h1).symm⟩
        | some y =>
          simp only at h1
          split at h1
          · exact Or.inr ⟨q, List.mem_cons_self, r, l, hr, (Option.some.inj h1).symm⟩
          · exact Or.inl h1
    · exact Or.inr ⟨q', List.mem_cons_of_mem _ hq', h2⟩

theorem firstD_rel {buf : List Ev} {qs : List Qy} {e : Ev} (h : firstD buf qs = some (.rel e)) : ∃ r, buf = e :: r := by
  rcases firstD_cases qs _ _ h with h1 | ⟨_, _, _, _, _, h2⟩
  · cases buf with
    | nil => cases h1
    | cons b r =>
      simp at h1
      exact ⟨r, by rw [h1]⟩
  · cases h2
theorem firstD_fin {buf : List Ev} {qs : List Qy} {t : Int} (h : firstD buf qs = some (.fin t)) : ∃ q ∈ qs, ∃ r l, q.runs = r :: l ∧ r.dl = t := by
  rcases firstD_cases qs _ _ h with h1 | ⟨q, hq, r, l, h2, h3⟩
  · cases buf with
    | nil => cases h1
    | cons b r => simp at h1
  · exact ⟨q, hq, r, l, h2, by cases h3; rfl⟩

theorem filterMap_len {α β : Type} (f : α → Option β) (l : List α) : (l.filterMap f).length ≤ l.length := List.length_filterMap_le f l
theorem beginQ_runs (q : Qy) (e : Ev) : (beginQ q e).runs.length ≤ q.runs.length + 1 := by
  unfold beginQ
  split
  · split
    · simp
    · simp
  · simp
theorem showQ_runs (q : Qy) (e : Ev) : (showQ q e).runs.length ≤ q.runs.length + 1 := by
  unfold showQ
  refine Nat.le_trans (beginQ_runs _ e) ?_
  exact Nat.succ_le_succ (filterMap_len _ _)
theorem endQ_runs (q : Qy) (t : Int) : (endQ q t).runs.length ≤ q.runs.length := List.Sublist.length_le (List.dropWhile_sublist _)
theorem endQ_less {q : Qy} {t : Int} {r : Rn} {l : List Rn} (h : q.runs = r :: l) (ht : r.dl = t) : (endQ q t).runs.length < q.runs.length := by
  unfold endQ
  simp only [h]
  rw [List.dropWhile_cons_of_pos (by simp [ht])]
  exact Nat.lt_succ_of_le (List.Sublist.length_le (List.dropWhile_sublist _))

theorem runsN_show (e : Ev) : ∀ qs : List Qy, runsN (qs.map (showQ · e)) ≤ runsN qs + qs.length
  | [] => by simp [runsN]
  | q :: qs => by
    have h1 := runsN_show e qs
    have h2 := showQ_runs q e
    simp only [runsN, List.map_cons, List.sum_cons, List.length_cons] at *
    omega
theorem runsN_end (t : Int) : ∀ qs : List Qy, runsN (qs.map (endQ · t)) ≤ runsN qs
  | [] => by simp [runsN]
  | q :: qs => by
    have h1 := runsN_end t qs
    have h2 := endQ_runs q t
    simp only [runsN, List.map_cons, List.sum_cons] at *
    omega
theorem runsN_less (t : Int) : ∀ qs : List Qy, (∃ q ∈ qs, ∃ r l, q.runs = r :: l ∧ r.dl = t) → runsN (qs.map (endQ · t)) < runsN qs
  | [], h => by obtain ⟨q, hq, _⟩ := h; cases hq
  | q :: qs, h => by
    obtain ⟨q', hq', r, l, h1, h2⟩ := h
    rcases List.mem_cons.1 hq' with rfl | hm
    · have h3 := runsN_end t qs
      have h4 := endQ_less h1 h2
      simp only [runsN, List.map_cons, List.sum_cons] at *
      omega
    · have h3 := runsN_less t qs ⟨q', hm, r, l, h1, h2⟩
      have h4 := endQ_runs q t
      simp only [runsN, List.map_cons, List.sum_cons] at *
      omega

theorem passM_less {s : List Ev × List Qy} {d : Deed} (h : firstD s.1 s.2 = some d) : passM (doD s d) < passM s := by
  cases d with
  | rel e =>
    obtain ⟨r, hr⟩ := firstD_rel h
    have h1 := runsN_show e s.2
    simp only [passM, doD, hr, List.tail_cons, List.length_cons, List.length_map]
    rw [Nat.add_mul r.length 1]
    omega
  | fin t =>
    have h1 := runsN_less t s.2 (firstD_fin h)
    simp only [passM, doD, List.length_map]
    omega

/-- All that is to be done at the times below a watermark. -/
def pass (wm : Int) (s : List Ev × List Qy) : List Ev × List Qy :=
  match h : firstD s.1 s.2 with
  | none => s
  | some d => if d.time < wm then pass wm (doD s d) else s
termination_by passM s
decreasing_by exact passM_less h

theorem pass_none {wm : Int} {s : List Ev × List Qy} (h : firstD s.1 s.2 = none) : pass wm s = s := by
  unfold pass
  split
  · rfl
  · rename_i d h2; rw [h] at h2; cases h2
theorem pass_late {wm : Int} {s : List Ev × List Qy} {d : Deed} (h : firstD s.1 s.2 = some d) (ht : ¬ d.time < wm) : pass wm s = s := by
  unfold pass
  split
  · rfl
  · rename_i d' h2; rw [h] at h2; cases h2; rw [if_neg ht]
theorem pass_step {wm : Int} {s : List Ev × List Qy} {d : Deed} (h : firstD s.1 s.2 = some d) (ht : d.time < wm) : pass wm s = pass wm (doD s d) := by
  rw [pass]
  split
  · rename_i h2; rw [h] at h2; cases h2
  · rename_i d' h2; rw [h] at h2; cases h2; rw [if_pos ht]

/-! ### The calls -/
def after (x y : Ev) : Bool := decide (y.2.1 < x.2.1) || (x.2.1 == y.2.1 && decide (y.1 < x.1))
/-- An event put among those that wait. -/
def putB (buf : List Ev) (e : Ev) : List Ev := buf.takeWhile (fun x => !after x e) ++ e :: buf.dropWhile (fun x => !after x e)
def properB (n : Nat) (e : Ev) : Bool :=
  (decide (0 ≤ e.1) && decide (e.1 < n)) && (decide (0 ≤ e.2.1) && decide (e.2.1 ≤ 1000000)) && (decide (97 ≤ e.2.2.1.toNat) && decide (e.2.2.1.toNat ≤ 122)) && (decide (-1000 ≤ e.2.2.2) && decide (e.2.2.2 ≤ 1000))
/-- One event: the error, and what is then. -/
def takeE (s : En) (e : Ev) : Nat × En :=
  if properB s.marks.length e = true then
    (if e.2.1 < markB s.marks then (5, s) else if 60 ≤ s.buf.length then (6, s) else (0, { s with buf := putB s.buf e }))
  else (1, s)
def offerE : En → List Ev → Nat × Nat × En
  | s, [] => (0, 0, s)
  | s, e :: r => if (takeE s e).1 = 0 then (let x := offerE (takeE s e).2 r; (x.1 + 1, x.2)) else (0, takeE s e)
def beatE (s : En) (src t : Int) : Nat × En :=
  if src < 0 ∨ (s.marks.length : Int) ≤ src ∨ t < 0 ∨ 2000000 < t then (1, s)
  else if t < s.marks.getD src.toNat 0 then (5, s)
  else
    let ms := s.marks.set src.toNat t
    let x := pass (markB ms) (s.buf, s.qs)
    (0, { s with marks := ms, buf := x.1, qs := x.2 })
def findE (s : En) (n : Int) : Option Qy := s.qs.find? (fun q => (q.num : Int) == n)
def removeE (s : En) (n : Int) : Nat × En :=
  match findE s n with
  | none => (4, s)
  | some _ => (0, { s with qs := s.qs.filter (fun q => !((q.num : Int) == n)) })
def runsE (s : En) (n : Int) : Nat := match findE s n with | none => 0 | some q => q.runs.length
def waitE (s : En) (n : Int) : Nat := match findE s n with | none => 0 | some q => q.found.length
def popQ (n : Nat) (qs : List Qy) : List Qy := qs.map (fun q => if q.num = n then { q with found := q.found.tail } else q)
def orderE (s : En) : List Qy := s.qs.filter (fun q => decide (s.tq < q.num)) ++ s.qs.filter (fun q => !decide (s.tq < q.num))
def firstF : List Qy → Option (Nat × Mt)
  | [] => none
  | q :: r => match q.found with | [] => firstF r | m :: _ => some (q.num, m)
def lastF (s : En) : Option Mt := if s.tr < 2 then (match findE s s.tq with | none => none | some q => q.found.head?) else none
def serveE (s : En) : Option (Mt × En) :=
  match lastF s with
  | some m => some (m, { s with qs := popQ s.tq s.qs, tr := s.tr + 1 })
  | none => match firstF (orderE s) with
    | some (n, m) => some (m, { s with qs := popQ n s.qs, tq := n, tr := 1 })
    | none => none
def drainE : Nat → En → List Mt × En
  | 0, s => ([], s)
  | n + 1, s => match serveE s with
    | none => ([], s)
    | some (m, s') => (m :: (drainE n s').1, (drainE n s').2)
end Go.Lull

namespace Go.Lull
open Go.Lib

/-- What a reader holds. -/
abbrev St := List Stp × Int × Nat

/-- The next word. -/
def takeB (st : St) (l : List UInt8) : Option St :=
  if st.2.2 = 0 then (if l = [119, 105, 116, 104, 105, 110] then (if st.1 = [] then none else some (st.1, st.2.1, 1)) else
    match stepB l with | some x => if mayB st.1 x = true then some (st.1 ++ [x], st.2.1, 0) else none | none => none)
  else if st.2.2 = 1 then (match numB 1000 l with | some n => some (st.1, (n : Int), 2) | none => none)
  else none

theorem takeB_len {st st' : St} {l : List UInt8} (h : takeB st l = some st') (hn : st.1.length ≤ 8) : st'.1.length ≤ 8 := by
  unfold takeB at h
  split at h
  · split at h
    · split at h
      · cases h
      · cases h; exact hn
    · split at h
      · split at h
        · rename_i hm
          cases h
          simp [mayB] at hm
          simp; omega
        · cases h
      · cases h
  · split at h
    · split at h
      · cases h; exact hn
      · cases h
    · cases h


def wordOf (l : List UInt8) : List UInt8 := l.takeWhile (· != 32)
def restOf (l : List UInt8) : Option (List UInt8) := match l.dropWhile (· != 32) with | [] => none | _ :: r => some r

theorem index32 : ∀ l : List UInt8, (index l [32] = -1 ∧ restOf l = none ∧ wordOf l = l) ∨ (∃ i : Nat, index l [32] = i ∧ i < l.length ∧ wordOf l = l.take i ∧ restOf l = some (l.drop (i + 1)))
  | [] => Or.inl ⟨rfl, rfl, rfl⟩
  | b :: l => by
    by_cases hb : b = 32
    · subst hb
      exact Or.inr ⟨0, by simp [index, List.isPrefixOf], by simp, by simp [wordOf], by simp [restOf]⟩
    · have h1 : (32 == b) = false := beq_false_of_ne (fun e => hb e.symm)
      have h2 : (b != 32) = true := by simp [hb]
      have hw : wordOf (b :: l) = b :: wordOf l := by simp [wordOf, h2]
      have hr : restOf (b :: l) = restOf l := by simp [restOf, h2]
      have hi : index (b :: l) [32] = if index l [32] == -1 then -1 else index l [32] + 1 := by
        rw [index]; simp [List.isPrefixOf, h1]
      rcases index32 l with ⟨e1, e2, e3⟩ | ⟨i, e1, e4, e2, e3⟩
      · refine Or.inl ⟨?_, by rw [hr, e2], by rw [hw, e3]⟩
        rw [hi, e1]; rfl
      · refine Or.inr ⟨i + 1, ?_, by simp; omega, by rw [hw, e2]; rfl, by rw [hr, e3]; rfl⟩
        rw [hi, e1, if_neg (by simp)]; rfl

def words (l : List UInt8) : List (List UInt8) := split l [32]

theorem words_none {l : List UInt8} (h : restOf l = none) : words l = [wordOf l] := by
  rcases index32 l with ⟨e1, e2, e3⟩ | ⟨i, e1, e4, e2, e3⟩
  · unfold words split
    rw [count_miss e1, e3]; rfl
  · rw [h] at e3; cases e3
theorem words_some {l r : List UInt8} (h : restOf l = some r) : words l = wordOf l :: words r := by
  rcases index32 l with ⟨e1, e2, e3⟩ | ⟨i, e1, e4, e2, e3⟩
  · rw [h] at e2; cases e2
  · rw [h] at e3
    obtain rfl := Option.some.inj e3
    have e5 : count l [32] = count (l.drop (i + 1)) [32] + 1 := (count_hit (s := l) (sub := [32]) (by simp) e1).trans (Nat.add_comm _ _)
    unfold words split
    rw [e5, splitK, if_neg (by rw [e1]; simp), e1, e2]
    rfl

theorem wordOf_le (l : List UInt8) : (wordOf l).length ≤ l.length := List.Sublist.length_le (List.takeWhile_sublist _)
theorem words_le : ∀ (n : Nat) (l : List UInt8), l.length ≤ n → ∀ x ∈ words l, x.length ≤ l.length := by
  intro n
  induction n with
  | zero =>
    intro l h x hx
    cases hr : restOf l with
    | none => rw [words_none hr, List.mem_singleton] at hx; subst hx; exact wordOf_le l
    | some r =>
      rcases index32 l with ⟨e1, e2, e3⟩ | ⟨i, e1, e4, e2, e3⟩
      · rw [hr] at e2; cases e2
      · omega
  | succ n ih =>
    intro l h x hx
    cases hr : restOf l with
    | none => rw [words_none hr, List.mem_singleton] at hx; subst hx; exact wordOf_le l
    | some r =>
      rcases index32 l with ⟨e1, e2, e3⟩ | ⟨i, e1, e4, e2, e3⟩
      · rw [hr] at e2; cases e2
      · rw [words_some hr, List.mem_cons] at hx
        rw [hr] at e3
        obtain rfl := Option.some.inj e3
        rcases hx with rfl | hx
        · exact wordOf_le l
        · have := ih (l.drop (i + 1)) (by simp; omega) x hx
          simp at this; omega

/-- The words one behind the other: the place of the first that can't stand, or what was read. -/
def runW : St → Nat → List (List UInt8) → Nat ⊕ St
  | st, _, [] => .inr st
  | st, p, l :: r => match takeB st l with | none => .inl p | some st' => runW st' (p + l.length + 1) r

/-- A text: the place of what can't stand, or the pattern. -/
def resB (l : List UInt8) : Nat ⊕ St :=
  if 100 < l.length then .inl 0 else match runW ([], 0, 0) 0 (words l) with | .inl p => .inl p | .inr st => if st.2.2 = 2 then .inr st else .inl l.length

end Go.Lull

namespace Go.Lull
set_option linter.unusedVariables false

/-- What an event does to a run, by the steps that are left. -/
inductive SeeR
  | fails
  | on
  | took (j : Nat)
def seeL (e : Ev) : List Stp → Nat → SeeR
  | [], _ => .on
  | x :: r, j => if x.1 = true then (if fitsB x e = true then .fails else seeL e r (j + 1)) else (if fitsB x e = true then .took (j + 1) else .on)

/-- No two that must not come beside one another, and not the first. -/
def altB : List Stp → Prop
  | [] => True
  | x :: r => (x.1 = true → ∀ y ∈ r.head?, y.1 = false) ∧ altB r

theorem altB_drop : ∀ (l : List Stp) (k : Nat), altB l → altB (l.drop k)
  | l, 0, h => h
  | [], k + 1, h => by simp [altB]
  | x :: r, k + 1, h => by
    rw [List.drop_succ_cons]
    exact altB_drop r k h.2

theorem altB_snoc : ∀ (l : List Stp) (x : Stp), altB l → (x.1 = true → endB l = true) → altB (l ++ [x])
  | [], x, _, _ => by simp [altB]
  | [y], x, h, hx => by
    refine ⟨fun hy z hz => ?_, by simp [altB]⟩
    simp at hz
    subst hz
    cases hb : x.1 with
    | false => rfl
    | true =>
      have := hx hb
      simp [endB, hy] at this
  | y :: z :: r, x, h, hx => by
    refine ⟨fun hy u hu => h.1 hy u ?_, ?_⟩
    · simpa using hu
    · exact altB_snoc (z :: r) x h.2 (fun hb => by have := hx hb; simpa [endB] using this)

theorem showB_see (st : List Stp) (k : Nat) (tk : List Ev) (e : Ev) (hk : k < st.length) (ha : altB st) :
    showB st k tk e = match seeL e (st.drop k) 0 with
      | .fails => .dead
      | .on => .stands k tk
      | .took j => if k + j = st.length then .done (tk ++ [e]) e.2.1 else .stands (k + j) (tk ++ [e]) := by
  have hd := altB_drop st k ha
  have hg : st.getD k noStep = st[k] := by simp [List.getD, hk]
  have hcons : st.drop k = st[k] :: st.drop (k + 1) := List.drop_eq_getElem_cons hk
  rw [hcons] at hd ⊢
  obtain ⟨hd1, hd2⟩ := hd
  unfold showB seeL
  rw [hg]
  by_cases h1 : st[k].1 = true
  · by_cases h2 : fitsB st[k] e = true
    · simp [h1, h2]
    · simp only [h1, h2, true_and, if_false, if_true, Bool.false_eq_true]
      by_cases h3 : k + 1 = st.length
      · have hn : st.drop (k + 1) = [] := List.drop_eq_nil_of_le (by omega)
        rw [if_pos h3, hn]
        rfl
      · have hlt : k + 1 < st.length := by omega
        have hg2 : st.getD (k + 1) noStep = st[k + 1] := by simp [List.getD, hlt]
        have hc2 : st.drop (k + 1) = st[k + 1] :: st.drop (k + 1 + 1) := List.drop_eq_getElem_cons hlt
        rw [if_neg h3, hg2, hc2]
        have h4 : st[k + 1].1 = false := hd1 h1 _ (by rw [hc2]; simp)
        unfold seeL
        simp only [h4, Bool.false_eq_true, if_false]
        by_cases h5 : fitsB st[k + 1] e = true
        · simp only [h5, if_true]
        · simp only [h5, if_false, Bool.false_eq_true]
  · have h1' : st[k].1 = false := by simpa using h1
    simp only [h1', Bool.false_eq_true, false_and, if_false]
    rw [if_neg (show ¬ k = st.length by omega), hg]
    by_cases h5 : fitsB st[k] e = true
    · simp only [h5, if_true, Nat.zero_add]
    · simp only [h5, if_false, Bool.false_eq_true]
theorem seeL_not {e : Ev} {x : Stp} {r : List Stp} {j : Nat} (h : x.1 = true) (hf : fitsB x e = true) : seeL e (x :: r) j = .fails := by simp [seeL, h, hf]
theorem seeL_pass {e : Ev} {x : Stp} {r : List Stp} {j : Nat} (h : x.1 = true) (hf : fitsB x e = false) : seeL e (x :: r) j = seeL e r (j + 1) := by simp [seeL, h, hf]
theorem seeL_take {e : Ev} {x : Stp} {r : List Stp} {j : Nat} (h : x.1 = false) (hf : fitsB x e = true) : seeL e (x :: r) j = .took (j + 1) := by simp [seeL, h, hf]
theorem seeL_miss {e : Ev} {x : Stp} {r : List Stp} {j : Nat} (h : x.1 = false) (hf : fitsB x e = false) : seeL e (x :: r) j = .on := by simp [seeL, h, hf]
end Go.Lull

namespace Go.Lull
set_option linter.unusedVariables false

def totF (qs : List Qy) : Nat := (qs.map (·.found.length)).sum
theorem popQ_le (n : Nat) : ∀ qs : List Qy, totF (popQ n qs) ≤ totF qs
  | [] => by simp [popQ, totF]
  | q :: qs => by
    have h := popQ_le n qs
    simp only [popQ, totF, List.map_cons, List.sum_cons] at *
    have : (if q.num = n then { q with found := q.found.tail } else q).found.length ≤ q.found.length := by split <;> simp
    omega
theorem popQ_tot (n : Nat) : ∀ qs : List Qy, (∃ q ∈ qs, q.num = n ∧ q.found ≠ []) → totF (popQ n qs) + 1 ≤ totF qs
  | [], h => by obtain ⟨q, hq, _⟩ := h; cases hq
  | q :: qs, h => by
    obtain ⟨q', hq', h1, h2⟩ := h
    rcases List.mem_cons.1 hq' with rfl | hm
    · have h := popQ_le n qs
      simp only [popQ, totF, List.map_cons, List.sum_cons] at *
      rw [if_pos h1]
      have : 0 < q'.found.length := List.length_pos_iff.2 h2
      have h3 : q'.found.tail.length = q'.found.length - 1 := by simp
      simp only [h3]
      omega
    · have h := popQ_tot n qs ⟨q', hm, h1, h2⟩
      simp only [popQ, totF, List.map_cons, List.sum_cons] at *
      have : (if q.num = n then { q with found := q.found.tail } else q).found.length ≤ q.found.length := by split <;> simp
      omega
theorem popQ_nums (n : Nat) (qs : List Qy) : (popQ n qs).map (·.num) = qs.map (·.num) := by
  unfold popQ
  rw [List.map_map]
  apply List.map_congr_left
  intro q _
  simp only [Function.comp]
  split <;> rfl
theorem firstF_mem : ∀ (l : List Qy) (n : Nat) (m : Mt), firstF l = some (n, m) → ∃ q ∈ l, q.num = n ∧ q.found ≠ []
  | [], n, m, h => by cases h
  | q :: r, n, m, h => by
    unfold firstF at h
    cases hf : q.found with
    | nil =>
      rw [hf] at h
      obtain ⟨q', h1, h2⟩ := firstF_mem r n m h
      exact ⟨q', List.mem_cons_of_mem _ h1, h2⟩
    | cons a b =>
      rw [hf] at h
      cases h
      exact ⟨q, List.mem_cons_self, rfl, by rw [hf]; simp⟩
theorem serveE_less {s s' : En} {m : Mt} (h : serveE s = some (m, s')) : totF s'.qs + 1 ≤ totF s.qs ∧ s'.qs.map (·.num) = s.qs.map (·.num) := by
  unfold serveE at h
  cases hl : lastF s with
  | some m' =>
    rw [hl] at h
    cases h
    refine ⟨popQ_tot _ _ ?_, popQ_nums _ _⟩
    unfold lastF at hl
    split at hl
    · cases hf : findE s s.tq with
      | none => rw [hf] at hl; cases hl
      | some q =>
        rw [hf] at hl
        simp only at hl
        refine ⟨q, List.mem_of_find?_eq_some hf, ?_, fun e => by rw [e] at hl; cases hl⟩
        have := List.find?_some hf
        have h2 : (q.num : Int) = (s.tq : Int) := by simpa using this
        omega
    · cases hl
  | none =>
    rw [hl] at h
    cases hf : firstF (orderE s) with
    | none => rw [hf] at h; cases h
    | some x =>
      obtain ⟨n, m'⟩ := x
      rw [hf] at h
      cases h
      obtain ⟨q, hq, h1, h2⟩ := firstF_mem _ _ _ hf
      refine ⟨popQ_tot _ _ ⟨q, ?_, h1, h2⟩, popQ_nums _ _⟩
      unfold orderE at hq
      rcases List.mem_append.1 hq with hq | hq
      · exact (List.mem_filter.1 hq).1
      · exact (List.mem_filter.1 hq).1
theorem drainE_none {n : Nat} {s : En} (h : serveE s = none) : drainE n s = ([], s) := by
  cases n with
  | zero => rfl
  | succ n => simp [drainE, h]
theorem drainE_some {n : Nat} {s s' : En} {m : Mt} (h : serveE s = some (m, s')) : drainE (n + 1) s = (m :: (drainE n s').1, (drainE n s').2) := by
  simp [drainE, h]
theorem totF_mem {qs : List Qy} {q : Qy} (h : q ∈ qs) : q.found.length ≤ totF qs := by
  induction qs with
  | nil => cases h
  | cons a l ih =>
    simp only [totF, List.map_cons, List.sum_cons] at *
    rcases List.mem_cons.1 h with rfl | h
    · omega
    · have := ih h; omega
end Go.Lull

namespace Go.Lull
set_option linter.unusedVariables false

/-- How much there is. -/
def SZ (s : List Ev × List Qy) : Prop := ∀ q ∈ s.2, q.found.length + q.runs.length + s.1.length ≤ 536870912
def TM (l : List Ev) : Prop := ∀ e ∈ l, 0 ≤ e.2.1 ∧ e.2.1 ≤ 1000000
theorem show_size (q : Qy) (e : Ev) : (showQ q e).found.length + (showQ q e).runs.length ≤ q.found.length + q.runs.length + 1 := by
  have h0 : ∀ l : List Rn, (l.filterMap (keep1 q.st e)).length + (l.filterMap (told1 q.num q.st e)).length ≤ l.length := by
    intro l
    induction l with
    | nil => simp
    | cons r l ih =>
      simp only [List.filterMap_cons, List.length_cons]
      unfold keep1 told1 at *
      cases showB q.st r.k r.tk e <;> simp only [List.length_cons] <;> omega
  have h1 := h0 q.runs
  unfold showQ beginQ shownQ
  simp only
  split
  · split
    · simp; omega
    · simp; omega
  · simp; omega
theorem end_size (q : Qy) (t : Int) : (endQ q t).found.length + (endQ q t).runs.length ≤ q.found.length + q.runs.length := by
  unfold endQ
  simp only [List.length_append, List.length_map]
  have h1 := List.length_filter_le (lastNot q.st) (q.runs.takeWhile (fun r => r.dl == t))
  have h2 : (q.runs.takeWhile (fun r => r.dl == t)).length + (q.runs.dropWhile (fun r => r.dl == t)).length = q.runs.length := by
    rw [← List.length_append, List.takeWhile_append_dropWhile]
  omega
theorem SZ.step {s : List Ev × List Qy} {d : Deed} (h : SZ s) (hd : firstD s.1 s.2 = some d) : SZ (doD s d) := by
  cases d with
  | rel e =>
    obtain ⟨r, hr⟩ := firstD_rel hd
    intro q hq
    obtain ⟨q0, hq0, rfl⟩ := List.mem_map.1 hq
    have h1 := h q0 hq0
    have h2 := show_size q0 e
    simp only [doD, hr, List.tail_cons, List.length_cons] at *
    omega
  | fin t =>
    intro q hq
    obtain ⟨q0, hq0, rfl⟩ := List.mem_map.1 hq
    have h1 := h q0 hq0
    have h2 := end_size q0 t
    simp only [doD] at *
    omega
theorem TM.step {s : List Ev × List Qy} {d : Deed} (h : TM s.1) : TM (doD s d).1 := by
  cases d with
  | rel e => exact fun x hx => h x (List.mem_of_mem_tail hx)
  | fin t => exact h
end Go.Lull

namespace Go.Lull
set_option linter.unusedVariables false

/-- Events in the order of their release. -/
def SB (l : List Ev) : Prop := l.Pairwise (fun x y => after x y = false)

theorem after_iff (x y : Ev) : after x y = true ↔ y.2.1 < x.2.1 ∨ (x.2.1 = y.2.1 ∧ y.1 < x.1) := by
  simp [after]
theorem after_trans {x y e : Ev} (h1 : after x y = false) (h2 : after x e = true) : after y e = true := by
  rw [after_iff] at *
  have : ¬ (y.2.1 < x.2.1 ∨ (x.2.1 = y.2.1 ∧ y.1 < x.1)) := by
    rw [← after_iff, h1]; simp
  omega
theorem after_flip {x y : Ev} (h : after x y = true) : after y x = false := by
  rw [Bool.eq_false_iff]
  intro h2
  rw [after_iff] at *
  omega

/-- Where an event goes among those that wait. -/
def placeB (buf : List Ev) (e : Ev) : Nat := (buf.takeWhile (fun x => !after x e)).length
theorem place_le (buf : List Ev) (e : Ev) : placeB buf e ≤ buf.length := List.Sublist.length_le (List.takeWhile_sublist _)
theorem take_tw (p : Ev → Bool) : ∀ l : List Ev, l.take (l.takeWhile p).length = l.takeWhile p ∧ l.drop (l.takeWhile p).length = l.dropWhile p
  | [] => by simp
  | x :: l => by
    have ih := take_tw p l
    rw [List.takeWhile_cons, List.dropWhile_cons]
    cases p x with
    | true => simp [ih.1, ih.2]
    | false => simp
theorem putB_place (buf : List Ev) (e : Ev) : putB buf e = buf.take (placeB buf e) ++ e :: buf.drop (placeB buf e) := by
  obtain ⟨h1, h2⟩ := take_tw (fun x => !after x e) buf
  unfold putB placeB
  rw [h1, h2]
theorem place_lo (e : Ev) : ∀ (buf : List Ev) (k : Nat) (hk : k < buf.length), k < placeB buf e → after buf[k] e = false
  | [], k, hk, _ => by simp at hk
  | b :: r, k, hk, h => by
    unfold placeB at h
    rw [List.takeWhile_cons] at h
    split at h
    · rename_i hb
      cases k with
      | zero => simpa using hb
      | succ k => exact place_lo e r k (by simpa using hk) (by unfold placeB; simpa using h)
    · simp at h
theorem sb_after {e : Ev} : ∀ {buf : List Ev}, SB buf → ∀ {b : Ev} {r : List Ev}, buf = b :: r → after b e = true → ∀ x ∈ buf, after x e = true := by
  intro buf hs b r hb ha x hx
  subst hb
  rcases List.mem_cons.1 hx with rfl | hx
  · exact ha
  · exact after_trans ((List.pairwise_cons.1 hs).1 x hx) ha
theorem place_hi (e : Ev) : ∀ (buf : List Ev), SB buf → ∀ (k : Nat) (hk : k < buf.length), placeB buf e ≤ k → after buf[k] e = true
  | [], _, k, hk, _ => by simp at hk
  | b :: r, hs, k, hk, h => by
    unfold placeB at h
    rw [List.takeWhile_cons] at h
    split at h
    · cases k with
      | zero => simp at h
      | succ k => exact place_hi e r (List.pairwise_cons.1 hs).2 k (by simpa using hk) (by unfold placeB; simpa using h)
    · rename_i hb
      exact sb_after hs rfl (by simpa using hb) _ (List.getElem_mem _)
theorem SB.put {buf : List Ev} (h : SB buf) (e : Ev) : SB (putB buf e) := by
  rw [putB_place]
  unfold SB
  have hsplit : buf.take (placeB buf e) ++ buf.drop (placeB buf e) = buf := List.take_append_drop _ _
  have hp : SB (buf.take (placeB buf e) ++ buf.drop (placeB buf e)) := by rw [hsplit]; exact h
  obtain ⟨p1, p2, p3⟩ := List.pairwise_append.1 hp
  refine List.pairwise_append.2 ⟨p1, List.pairwise_cons.2 ⟨?_, p2⟩, ?_⟩
  · intro y hy
    obtain ⟨i, hi, rfl⟩ := List.mem_iff_getElem.1 hy
    refine after_flip ?_
    rw [List.getElem_drop]
    exact place_hi e buf h _ (by simp at hi; omega) (by omega)
  · intro x hx y hy
    rcases List.mem_cons.1 hy with rfl | hy
    · obtain ⟨i, hi, rfl⟩ := List.mem_iff_getElem.1 hx
      rw [List.getElem_take]
      simp at hi
      exact place_lo y buf i (by omega) (by omega)
    · exact p3 x hx y hy
theorem SB.step {s : List Ev × List Qy} {d : Deed} (h : SB s.1) : SB (doD s d).1 := by
  cases d with
  | rel e => exact List.Pairwise.sublist (List.tail_sublist _) h
  | fin t => exact h
theorem pass_ind {P : List Ev × List Qy → Prop} {wm : Int} (hs : ∀ s d, P s → firstD s.1 s.2 = some d → P (doD s d)) : ∀ (n : Nat) (s : List Ev × List Qy), passM s = n → P s → P (pass wm s) := by
  intro n
  induction n using Nat.strongRecOn with
  | _ n ih =>
    intro s hn h
    cases hf : firstD s.1 s.2 with
    | none => rw [pass_none hf]; exact h
    | some d =>
      by_cases ht : d.time < wm
      · rw [pass_step hf ht]
        exact ih (passM (doD s d)) (by rw [← hn]; exact passM_less hf) _ rfl (hs s d h hf)
      · rw [pass_late hf ht]; exact h
theorem SB.pass {s : List Ev × List Qy} {wm : Int} (h : SB s.1) : SB (pass wm s).1 := pass_ind (P := fun s => SB s.1) (fun _ _ h _ => h.step) _ s rfl h
theorem TM.pass {s : List Ev × List Qy} {wm : Int} (h : TM s.1) : TM (Go.Lull.pass wm s).1 := pass_ind (P := fun s => TM s.1) (fun _ _ h _ => h.step) _ s rfl h
theorem SZ.pass {s : List Ev × List Qy} {wm : Int} (h : SZ s) : SZ (Go.Lull.pass wm s) := pass_ind (P := SZ) (fun _ _ h hf => h.step hf) _ s rfl h
theorem TM.put {buf : List Ev} {e : Ev} (h : TM buf) (h0 : 0 ≤ e.2.1) (h1 : e.2.1 ≤ 1000000) : TM (putB buf e) := by
  intro x hx
  rw [putB_place] at hx
  rcases List.mem_append.1 hx with hx | hx
  · exact h x (List.mem_of_mem_take hx)
  · rcases List.mem_cons.1 hx with rfl | hx
    · exact ⟨h0, h1⟩
    · exact h x (List.mem_of_mem_drop hx)
theorem put_len (buf : List Ev) (e : Ev) : (putB buf e).length = buf.length + 1 := by
  rw [putB_place]
  have := place_le buf e
  simp; omega
end Go.Lull

namespace Go.Lull
set_option linter.unusedVariables false

/-- The least deadline that stands first. -/
def ml : List Qy → Option Int
  | [] => none
  | q :: qs => match q.runs with
    | [] => ml qs
    | r :: _ => match ml qs with
      | none => some r.dl
      | some t => some (if t < r.dl then t else r.dl)
def comb (d : Option Deed) : Option Int → Option Deed
  | none => d
  | some t => match d with
    | none => some (.fin t)
    | some x => if t < x.time then some (.fin t) else some x
theorem time_fin (t : Int) : (Deed.fin t).time = t := rfl
theorem time_rel (e : Ev) : (Deed.rel e).time = e.2.1 := rfl
theorem fold_comb : ∀ (qs : List Qy) (d : Option Deed), qs.foldl deed1 d = comb d (ml qs)
  | [], d => rfl
  | q :: qs, d => by
    rw [List.foldl_cons, fold_comb qs, show ml (q :: qs) = (match q.runs with | [] => ml qs | r :: _ => match ml qs with | none => some r.dl | some t => some (if t < r.dl then t else r.dl)) from rfl]
    unfold deed1
    cases hr : q.runs with
    | nil => rfl
    | cons r l =>
      simp only
      cases hm : ml qs with
      | none => cases d with | none => rfl | some x => rfl
      | some t =>
        cases d with
        | none =>
          show comb (some (Deed.fin r.dl)) (some t) = comb none (some (if t < r.dl then t else r.dl))
          by_cases h : t < r.dl
          · rw [show (if t < r.dl then t else r.dl) = t from if_pos h]; exact if_pos h
          · rw [show (if t < r.dl then t else r.dl) = r.dl from if_neg h]; exact if_neg h
        | some x =>
          simp only [comb]
          by_cases h1 : r.dl < x.time
          · rw [if_pos h1]
            simp only [time_fin]
            by_cases h2 : t < r.dl
            · simp only [h2, if_true]; rw [if_pos (by omega)]
            · simp only [h2, if_false]; rw [if_pos h1]
          · rw [if_neg h1]
            by_cases h2 : t < r.dl
            · simp only [h2, if_true]
            · simp only [h2, if_false]; rw [if_neg h1, if_neg (by omega)]
theorem firstD_comb (buf : List Ev) (qs : List Qy) : firstD buf qs = comb (buf.head?.map Deed.rel) (ml qs) := fold_comb qs _

/-- Nothing is to be done below a time. -/
def Still (M : Int) (s : List Ev × List Qy) : Prop := (∀ b ∈ s.1.head?, M ≤ b.2.1) ∧ (∀ t ∈ ml s.2, M ≤ t)
theorem comb_still {d : Option Deed} {o : Option Int} {x : Deed} {M : Int} (h : comb d o = some x) : M ≤ x.time ↔ (∀ y ∈ d, M ≤ y.time) ∧ (∀ t ∈ o, M ≤ t) := by
  cases o with
  | none =>
    simp only [comb] at h
    subst h
    simp
  | some t =>
    cases d with
    | none =>
      simp only [comb, Option.some.injEq] at h
      subst h
      simp [time_fin]
    | some y =>
      simp only [comb] at h
      by_cases h1 : t < y.time
      · rw [if_pos h1] at h
        obtain rfl := Option.some.inj h
        simp [time_fin]
        intro; omega
      · rw [if_neg h1] at h
        obtain rfl := Option.some.inj h
        simp
        intro; omega
theorem still_iff {M : Int} {s : List Ev × List Qy} : Still M s ↔ ∀ d, firstD s.1 s.2 = some d → M ≤ d.time := by
  rw [firstD_comb]
  cases h : comb (s.1.head?.map Deed.rel) (ml s.2) with
  | none =>
    have hs : s.1.head? = none ∧ ml s.2 = none := by
      cases h1 : s.1.head? with
      | none => cases h2 : ml s.2 with
        | none => exact ⟨rfl, rfl⟩
        | some t => rw [h1, h2] at h; cases h
      | some b => cases h2 : ml s.2 with
        | none => rw [h1, h2] at h; cases h
        | some t => rw [h1, h2] at h; simp only [comb, Option.map_some] at h; split at h <;> cases h
    unfold Still
    rw [hs.1, hs.2]
    simp
  | some x =>
    have := comb_still (M := M) h
    constructor
    · intro hs d hd
      obtain rfl := Option.some.inj hd
      refine this.2 ⟨?_, hs.2⟩
      intro y hy
      obtain ⟨b, hb, rfl⟩ := Option.map_eq_some_iff.1 hy
      exact hs.1 b hb
    · intro hd
      obtain ⟨h1, h2⟩ := this.1 (hd x rfl)
      exact ⟨fun b hb => h1 (.rel b) (by rw [hb]; rfl), h2⟩
theorem pass_still {M : Int} {s : List Ev × List Qy} (h : Still M s) : pass M s = s := by
  cases hf : firstD s.1 s.2 with
  | none => exact pass_none hf
  | some d => exact pass_late hf (by have := still_iff.1 h d hf; omega)
theorem passed_still {M : Int} : ∀ (n : Nat) (s : List Ev × List Qy), passM s = n → Still M (pass M s) := by
  intro n
  induction n using Nat.strongRecOn with
  | _ n ih =>
    intro s hn
    cases hf : firstD s.1 s.2 with
    | none => rw [pass_none hf]; exact still_iff.2 (fun d hd => by rw [hf] at hd; cases hd)
    | some d =>
      by_cases ht : d.time < M
      · rw [pass_step hf ht]
        exact ih _ (by rw [← hn]; exact passM_less hf) _ rfl
      · rw [pass_late hf ht]; exact still_iff.2 (fun d' hd => by rw [hf] at hd; cases hd; omega)
theorem pass_isStill (M : Int) (s : List Ev × List Qy) : Still M (pass M s) := passed_still _ s rfl
theorem pass_pass {M1 M2 : Int} (hM : M1 ≤ M2) : ∀ (n : Nat) (s : List Ev × List Qy), passM s = n → pass M2 (pass M1 s) = pass M2 s := by
  intro n
  induction n using Nat.strongRecOn with
  | _ n ih =>
    intro s hn
    cases hf : firstD s.1 s.2 with
    | none => rw [pass_none hf]
    | some d =>
      by_cases ht : d.time < M1
      · rw [pass_step hf ht, pass_step hf (show d.time < M2 by omega)]
        exact ih _ (by rw [← hn]; exact passM_less hf) _ rfl
      · rw [pass_late hf ht]
theorem pass_trans {M1 M2 : Int} (hM : M1 ≤ M2) (s : List Ev × List Qy) : pass M2 (pass M1 s) = pass M2 s := pass_pass hM _ s rfl

theorem putB_nil (e : Ev) : putB [] e = [e] := rfl
theorem putB_cons_no {b e : Ev} {r : List Ev} (h : after b e = false) : putB (b :: r) e = b :: putB r e := by
  simp [putB, h]
theorem putB_cons_yes {b e : Ev} {r : List Ev} (h : after b e = true) : putB (b :: r) e = e :: b :: r := by
  simp [putB, h]
theorem after_time {b e : Ev} (h : b.2.1 < e.2.1) : after b e = false := by
  rw [Bool.eq_false_iff]; intro h2; rw [after_iff] at h2; omega
theorem put_head {M : Int} {buf : List Ev} {e : Ev} (he : M ≤ e.2.1) (h : ∀ b ∈ buf.head?, M ≤ b.2.1) : ∀ b ∈ (putB buf e).head?, M ≤ b.2.1 := by
  cases buf with
  | nil => rw [putB_nil]; intro b hb; simp at hb; subst hb; exact he
  | cons b r =>
    cases ha : after b e with
    | false => rw [putB_cons_no ha]; simpa using h
    | true => rw [putB_cons_yes ha]; intro x hx; simp at hx; subst hx; exact he
theorem firstD_put {M : Int} {buf : List Ev} {qs : List Qy} {e : Ev} {d : Deed} (he : M ≤ e.2.1) (h : firstD buf qs = some d) (ht : d.time < M) :
    firstD (putB buf e) qs = some d ∧ doD (putB buf e, qs) d = (putB (doD (buf, qs) d).1 e, (doD (buf, qs) d).2) := by
  cases d with
  | rel x =>
    obtain ⟨r, hr⟩ := firstD_rel h
    subst hr
    have ha : after x e = false := after_time (by have : x.2.1 < M := ht; omega)
    rw [putB_cons_no ha]
    exact ⟨h, rfl⟩
  | fin t =>
    refine ⟨?_, rfl⟩
    have ht' : t < M := ht
    rw [firstD_comb] at h ⊢
    cases hm : ml qs with
    | none =>
      rw [hm] at h
      simp only [comb] at h
      obtain ⟨b, _, hb⟩ := Option.map_eq_some_iff.1 h
      cases hb
    | some t' =>
      rw [hm] at h
      have htt : t' = t := by
        cases hh : buf.head? with
        | none => rw [hh] at h; cases h; rfl
        | some b =>
          rw [hh] at h
          simp only [Option.map_some, comb] at h
          split at h
          · cases h; rfl
          · cases h
      subst htt
      cases buf with
      | nil =>
        rw [putB_nil]
        exact if_pos (show t' < e.2.1 by omega)
      | cons b r =>
        cases ha : after b e with
        | false => rw [putB_cons_no ha]; exact h
        | true =>
          rw [putB_cons_yes ha]
          exact if_pos (show t' < e.2.1 by omega)
theorem pass_put' {M : Int} {e : Ev} (he : M ≤ e.2.1) : ∀ (n : Nat) (s : List Ev × List Qy), passM s = n → pass M (putB s.1 e, s.2) = (putB (pass M s).1 e, (pass M s).2) := by
  intro n
  induction n using Nat.strongRecOn with
  | _ n ih =>
    intro s hn
    have hstill : Still M s → pass M (putB s.1 e, s.2) = (putB (pass M s).1 e, (pass M s).2) := by
      intro h
      rw [pass_still h, pass_still (s := (putB s.1 e, s.2)) ⟨put_head he h.1, h.2⟩]
    cases hf : firstD s.1 s.2 with
    | none => exact hstill (still_iff.2 (fun d hd => by rw [hf] at hd; cases hd))
    | some d =>
      by_cases ht : d.time < M
      · obtain ⟨h1, h2⟩ := firstD_put he hf ht
        rw [pass_step hf ht, pass_step (s := (putB s.1 e, s.2)) h1 ht, h2]
        exact ih _ (by rw [← hn]; exact passM_less hf) _ rfl
      · exact hstill (still_iff.2 (fun d' hd => by rw [hf] at hd; cases hd; omega))
/-- An event that comes later goes among those that wait, or did so at once: that is the same. -/
theorem pass_put {M : Int} {e : Ev} (he : M ≤ e.2.1) (s : List Ev × List Qy) : pass M (putB s.1 e, s.2) = (putB (pass M s).1 e, (pass M s).2) := pass_put' he _ s rfl

def putAll (buf l : List Ev) : List Ev := l.foldl putB buf
theorem putAll_snoc (buf l : List Ev) (e : Ev) : putAll buf (l ++ [e]) = putB (putAll buf l) e := by simp [putAll]
theorem putAll_len (l : List Ev) : ∀ buf, (putAll buf l).length = buf.length + l.length := by
  induction l with
  | nil => intro buf; rfl
  | cons e l ih => intro buf; show (putAll (putB buf e) l).length = _; rw [ih, put_len]; simp; omega

def key (x y : Ev) : Prop := x.1 = y.1 ∧ x.2.1 = y.2.1
instance (x y : Ev) : Decidable (key x y) := by unfold key; infer_instance
theorem after_tot {x y : Ev} (h : ¬ key x y) : after x y = !after y x := by
  cases h1 : after y x with
  | true => rw [after_flip h1]; rfl
  | false =>
    rw [Bool.not_false, after_iff]
    have : ¬ (x.2.1 < y.2.1 ∨ (y.2.1 = x.2.1 ∧ x.1 < y.1)) := by rw [← after_iff, h1]; simp
    unfold key at h
    omega
/-- Events of different keys go in in either order. -/
theorem put_comm {x y : Ev} (h : ¬ key x y) : ∀ buf : List Ev, putB (putB buf x) y = putB (putB buf y) x
  | [] => by
    rw [putB_nil, putB_nil]
    have := after_tot h
    cases h1 : after y x with
    | true => rw [h1] at this; rw [putB_cons_yes h1, putB_cons_no (by simpa using this), putB_nil]
    | false => rw [h1] at this; rw [putB_cons_no h1, putB_cons_yes (by simpa using this), putB_nil]
  | b :: r => by
    have hxy := after_tot h
    cases hx : after b x with
    | true =>
      cases hy : after b y with
      | true =>
        rw [putB_cons_yes hx, putB_cons_yes hy]
        cases h1 : after y x with
        | true => rw [h1] at hxy; rw [putB_cons_yes h1, putB_cons_no (by simpa using hxy), putB_cons_yes hy]
        | false => rw [h1] at hxy; rw [putB_cons_no h1, putB_cons_yes (by simpa using hxy), putB_cons_yes hx]
      | false =>
        rw [putB_cons_yes hx, putB_cons_no hy, putB_cons_yes hx]
        have : after x y = false := by
          cases h2 : after x y with
          | false => rfl
          | true =>
            rw [after_iff] at h2 hx
            have : ¬ (y.2.1 < b.2.1 ∨ (b.2.1 = y.2.1 ∧ y.1 < b.1)) := by rw [← after_iff, hy]; simp
            omega
        rw [putB_cons_no this, putB_cons_no hy]
    | false =>
      cases hy : after b y with
      | true =>
        rw [putB_cons_no hx, putB_cons_yes hy, putB_cons_yes hy]
        have : after y x = false := by
          cases h2 : after y x with
          | false => rfl
          | true =>
            rw [after_iff] at h2 hy
            have : ¬ (x.2.1 < b.2.1 ∨ (b.2.1 = x.2.1 ∧ x.1 < b.1)) := by rw [← after_iff, hx]; simp
            omega
        rw [putB_cons_no this, putB_cons_no hx]
      | false =>
        rw [putB_cons_no hx, putB_cons_no hy, putB_cons_no hy, putB_cons_no hx, put_comm h r]
theorem putAll_cons (buf : List Ev) (e : Ev) (l : List Ev) : putAll buf (e :: l) = putAll (putB buf e) l := rfl
theorem putAll_move {x : Ev} : ∀ (l : List Ev) (buf : List Ev), (∀ y ∈ l, ¬ key y x) → putAll (putB buf x) l = putB (putAll buf l) x
  | [], buf, _ => rfl
  | y :: l, buf, h => by
    rw [putAll_cons, putAll_cons, put_comm (fun hk => h y List.mem_cons_self ⟨hk.1.symm, hk.2.symm⟩), putAll_move l _ (fun z hz => h z (List.mem_cons_of_mem _ hz))]
theorem putAll_append (buf l m : List Ev) : putAll buf (l ++ m) = putAll (putAll buf l) m := List.foldl_append
/-- One that has none of its key ahead may be put first. -/
theorem putAll_front {x : Ev} {A B : List Ev} (buf : List Ev) (h : ∀ y ∈ A, ¬ key y x) : putAll buf (A ++ x :: B) = putAll buf (x :: (A ++ B)) := by
  rw [putAll_append, putAll_cons, putAll_cons, putAll_append, putAll_move A buf h]
/-- A sorted list put in is itself. -/
theorem putB_last {e : Ev} : ∀ (buf : List Ev), (∀ b ∈ buf, after b e = false) → putB buf e = buf ++ [e]
  | [], _ => rfl
  | b :: r, h => by rw [putB_cons_no (h b List.mem_cons_self), putB_last r (fun x hx => h x (List.mem_cons_of_mem _ hx))]; rfl
theorem putAll_sorted : ∀ (l buf : List Ev), SB (buf ++ l) → putAll buf l = buf ++ l
  | [], buf, _ => by simp [putAll]
  | e :: l, buf, h => by
    have h1 := List.pairwise_append.1 h
    rw [putAll_cons, putB_last buf (fun b hb => h1.2.2 b hb e List.mem_cons_self), putAll_sorted l (buf ++ [e]) (by simpa using h)]
    simp
theorem SB.putAll : ∀ (l buf : List Ev), SB buf → SB (putAll buf l)
  | [], buf, h => h
  | e :: l, buf, h => SB.putAll l _ (h.put e)

theorem mem_putB {x e : Ev} (buf : List Ev) : x ∈ putB buf e ↔ x = e ∨ x ∈ buf := by
  rw [putB_place]
  conv => rhs; rw [← List.take_append_drop (placeB buf e) buf]
  simp only [List.mem_append, List.mem_cons]
  constructor
  · rintro (h | h | h)
    · exact Or.inr (Or.inl h)
    · exact Or.inl h
    · exact Or.inr (Or.inr h)
  · rintro (h | h | h)
    · exact Or.inr (Or.inl h)
    · exact Or.inl h
    · exact Or.inr (Or.inr h)
theorem mem_putAll {x : Ev} : ∀ (l buf : List Ev), x ∈ putAll buf l ↔ x ∈ buf ∨ x ∈ l
  | [], buf => by simp [putAll]
  | e :: l, buf => by
    rw [putAll_cons, mem_putAll l, mem_putB]
    simp only [List.mem_cons]
    constructor
    · rintro ((h | h) | h)
      · exact Or.inr (Or.inl h)
      · exact Or.inl h
      · exact Or.inr (Or.inr h)
    · rintro (h | h | h)
      · exact Or.inl (Or.inr h)
      · exact Or.inl (Or.inl h)
      · exact Or.inr h
end Go.Lull

namespace Go.Lull
set_option linter.unusedVariables false

theorem drainE_add : ∀ (n m : Nat) (s : En), drainE (n + m) s = ((drainE n s).1 ++ (drainE m (drainE n s).2).1, (drainE m (drainE n s).2).2)
  | 0, m, s => by simp [drainE]
  | n + 1, m, s => by
    rw [show n + 1 + m = (n + m) + 1 by omega]
    cases h : serveE s with
    | none => rw [drainE_none h, drainE_none h, drainE_none h]; rfl
    | some x =>
      obtain ⟨m', s'⟩ := x
      rw [drainE_some h, drainE_some h, drainE_add n m s']
      rfl

def wq (qs : List Qy) (j : Int) : Nat := match qs.find? (fun q => (q.num : Int) == j) with | none => 0 | some q => q.found.length
theorem waitE_wq (s : En) (j : Int) : waitE s j = wq s.qs j := rfl
theorem wq_cons (q : Qy) (qs : List Qy) (j : Int) : wq (q :: qs) j = if (q.num : Int) = j then q.found.length else wq qs j := by
  unfold wq
  by_cases h : (q.num : Int) = j
  · rw [List.find?_cons_of_pos (by simpa using h), if_pos h]
  · rw [List.find?_cons_of_neg (by simpa using h), if_neg h]
theorem wq_none : ∀ (qs : List Qy) (j : Int), (∀ q ∈ qs, (q.num : Int) ≠ j) → wq qs j = 0
  | [], j, _ => rfl
  | q :: qs, j, h => by rw [wq_cons, if_neg (h q List.mem_cons_self), wq_none qs j (fun x hx => h x (List.mem_cons_of_mem _ hx))]
/-- Numbers that rise. -/
def NR (qs : List Qy) : Prop := qs.Pairwise (fun a b => a.num < b.num)
theorem wq_three : ∀ (qs : List Qy), NR qs → (∀ q ∈ qs, 1 ≤ q.num ∧ q.num ≤ 3) → wq qs 1 + wq qs 2 + wq qs 3 = totF qs
  | [], _, _ => rfl
  | q :: qs, hn, h => by
    have ih := wq_three qs (List.pairwise_cons.1 hn).2 (fun x hx => h x (List.mem_cons_of_mem _ hx))
    have hq := h q List.mem_cons_self
    have h0 : wq qs q.num = 0 := wq_none qs _ (fun x hx => by have := (List.pairwise_cons.1 hn).1 x hx; omega)
    rw [wq_cons, wq_cons, wq_cons, show totF (q :: qs) = q.found.length + totF qs from rfl, ← ih]
    have : q.num = 1 ∨ q.num = 2 ∨ q.num = 3 := by omega
    rcases this with e | e | e <;> rw [e] at h0 ⊢ <;> simp at h0 ⊢ <;> omega
theorem wq_pop (n : Nat) : ∀ (qs : List Qy) (j : Int), wq (popQ n qs) j = if j = (n : Int) then wq qs j - 1 else wq qs j
  | [], j => by simp [popQ, wq]
  | q :: qs, j => by
    have ih := wq_pop n qs j
    have e : popQ n (q :: qs) = (if q.num = n then { q with found := q.found.tail } else q) :: popQ n qs := rfl
    rw [e, wq_cons, wq_cons, ih]
    have e2 : (if q.num = n then { q with found := q.found.tail } else q).num = q.num := by split <;> rfl
    rw [e2]
    by_cases h1 : (q.num : Int) = j
    · rw [if_pos h1, if_pos h1]
      by_cases h2 : q.num = n
      · rw [if_pos h2, if_pos (by omega)]; simp
      · rw [if_neg h2, if_neg (by omega)]
    · rw [if_neg h1, if_neg h1]
theorem wq_mem {qs : List Qy} (hn : NR qs) {q : Qy} (hq : q ∈ qs) : wq qs q.num = q.found.length := by
  induction qs with
  | nil => cases hq
  | cons a l ih =>
    rw [wq_cons]
    rcases List.mem_cons.1 hq with rfl | hq
    · rw [if_pos rfl]
    · have := (List.pairwise_cons.1 hn).1 q hq
      rw [if_neg (by omega)]
      exact ih (List.pairwise_cons.1 hn).2 hq

/-- The matches that wait bear their query's number. -/
def FQ (qs : List Qy) : Prop := ∀ q ∈ qs, ∀ m ∈ q.found, m.q = q.num
theorem FQ.pop {qs : List Qy} (h : FQ qs) (n : Nat) : FQ (popQ n qs) := by
  intro q hq m hm
  obtain ⟨a, ha, rfl⟩ := List.mem_map.1 hq
  split at hm
  · rename_i hn
    rw [if_pos hn]
    exact h a ha m (List.mem_of_mem_tail hm)
  · rename_i hn
    rw [if_neg hn]
    exact h a ha m hm
theorem NR.pop {qs : List Qy} (h : NR qs) (n : Nat) : NR (popQ n qs) := by
  unfold NR popQ
  rw [List.pairwise_map]
  refine h.imp ?_
  intro a b hab
  have e : ∀ q : Qy, (if q.num = n then { q with found := q.found.tail } else q).num = q.num := fun q => by split <;> rfl
  rw [e, e]; exact hab

theorem lastF_some {s : En} {m : Mt} (h : lastF s = some m) : s.tr < 2 ∧ ∃ q ∈ s.qs, q.num = s.tq ∧ q.found.head? = some m := by
  unfold lastF at h
  split at h
  · rename_i ht
    cases hf : findE s s.tq with
    | none => rw [hf] at h; cases h
    | some q =>
      rw [hf] at h
      have := List.find?_some hf
      have h2 : (q.num : Int) = (s.tq : Int) := by simpa using this
      exact ⟨ht, q, List.mem_of_find?_eq_some hf, by omega, h⟩
  · cases h
theorem firstF_split : ∀ (l : List Qy) (n : Nat) (m : Mt), firstF l = some (n, m) → ∃ A q B, l = A ++ q :: B ∧ q.num = n ∧ q.found.head? = some m ∧ ∀ a ∈ A, a.found = []
  | [], n, m, h => by cases h
  | q :: r, n, m, h => by
    unfold firstF at h
    cases hf : q.found with
    | nil =>
      rw [hf] at h
      obtain ⟨A, x, B, rfl, h2, h3, h4⟩ := firstF_split r n m h
      refine ⟨q :: A, x, B, rfl, h2, h3, ?_⟩
      intro a ha
      rcases List.mem_cons.1 ha with rfl | ha
      · exact hf
      · exact h4 a ha
    | cons a b =>
      rw [hf] at h
      cases h
      exact ⟨[], q, r, rfl, rfl, by rw [hf]; rfl, by simp⟩
theorem firstF_none : ∀ (l : List Qy), firstF l = none → ∀ q ∈ l, q.found = []
  | [], _, q, hq => by cases hq
  | a :: r, h, q, hq => by
    unfold firstF at h
    cases hf : a.found with
    | nil =>
      rw [hf] at h
      rcases List.mem_cons.1 hq with rfl | hq
      · exact hf
      · exact firstF_none r h q hq
    | cons x y => rw [hf] at h; cases h
theorem mem_orderE {s : En} {q : Qy} : q ∈ orderE s ↔ q ∈ s.qs := by
  unfold orderE
  rw [List.mem_append, List.mem_filter, List.mem_filter]
  constructor
  · rintro (h | h) <;> exact h.1
  · intro h
    by_cases hd : s.tq < q.num
    · exact Or.inl ⟨h, by simpa using hd⟩
    · exact Or.inr ⟨h, by simpa using hd⟩
theorem serveE_none {s : En} (h : serveE s = none) : ∀ q ∈ s.qs, q.found = [] := by
  unfold serveE at h
  cases hl : lastF s with
  | some m => rw [hl] at h; cases h
  | none =>
    rw [hl] at h
    cases hf : firstF (orderE s) with
    | none => exact fun q hq => firstF_none _ hf q (mem_orderE.2 hq)
    | some x => rw [hf] at h; cases h
theorem totF_zero {qs : List Qy} (h : ∀ q ∈ qs, q.found = []) : totF qs = 0 := by
  induction qs with
  | nil => rfl
  | cons a l ih =>
    show a.found.length + totF l = 0
    rw [h a List.mem_cons_self, ih (fun q hq => h q (List.mem_cons_of_mem _ hq))]; rfl
theorem popQ_eq {n : Nat} : ∀ {qs : List Qy}, NR qs → ∀ {q : Qy}, q ∈ qs → q.num = n → q.found ≠ [] → totF (popQ n qs) + 1 = totF qs
  | [], _, q, hq, _, _ => by cases hq
  | a :: l, hn, q, hq, h1, h2 => by
    have hc := List.pairwise_cons.1 hn
    have e : popQ n (a :: l) = (if a.num = n then { a with found := a.found.tail } else a) :: popQ n l := rfl
    have e2 : ∀ (x : Qy) (l : List Qy), totF (x :: l) = x.found.length + totF l := fun _ _ => rfl
    rw [e, e2, e2]
    rcases List.mem_cons.1 hq with rfl | hq
    · have hl : popQ n l = l := by
        unfold popQ
        conv => rhs; rw [← List.map_id l]
        apply List.map_congr_left
        intro x hx
        have := hc.1 x hx
        rw [if_neg (by omega)]; rfl
      have : 0 < q.found.length := List.length_pos_iff.2 h2
      rw [if_pos h1, hl]
      simp only [List.length_tail]
      omega
    · have := popQ_eq hc.2 hq h1 h2
      have h3 := hc.1 q hq
      rw [if_neg (by omega)]
      omega

/-- How a match is served. -/
theorem serveE_cases {s s' : En} {m : Mt} (h : serveE s = some (m, s')) :
    (s.tr < 2 ∧ (∃ q ∈ s.qs, q.num = s.tq ∧ q.found.head? = some m) ∧ s' = { s with qs := popQ s.tq s.qs, tr := s.tr + 1 }) ∨
    (lastF s = none ∧ ∃ n, firstF (orderE s) = some (n, m) ∧ s' = { s with qs := popQ n s.qs, tq := n, tr := 1 }) := by
  unfold serveE at h
  cases hl : lastF s with
  | some m' =>
    rw [hl] at h
    cases h
    exact Or.inl ⟨(lastF_some hl).1, (lastF_some hl).2, rfl⟩
  | none =>
    rw [hl] at h
    cases hf : firstF (orderE s) with
    | none => rw [hf] at h; cases h
    | some x =>
      obtain ⟨n, m'⟩ := x
      rw [hf] at h
      cases h
      exact Or.inr ⟨rfl, n, rfl, rfl⟩
theorem serveE_to {s s' : En} {m : Mt} (h : serveE s = some (m, s')) (hfq : FQ s.qs) : ∃ q ∈ s.qs, q.num = m.q ∧ q.found.head? = some m ∧ s'.qs = popQ m.q s.qs ∧ s'.tq = m.q := by
  rcases serveE_cases h with ⟨_, ⟨q, hq, h1, h2⟩, rfl⟩ | ⟨_, n, hf, rfl⟩
  · have := hfq q hq m (List.mem_of_mem_head? h2)
    exact ⟨q, hq, this.symm, h2, by rw [this, h1], by rw [this, h1]⟩
  · obtain ⟨A, q, B, hl, h1, h2, _⟩ := firstF_split _ _ _ hf
    have hq : q ∈ s.qs := mem_orderE.1 (by rw [hl]; simp)
    have := hfq q hq m (List.mem_of_mem_head? h2)
    exact ⟨q, hq, this.symm, h2, by rw [this, h1], by rw [this, h1]⟩

theorem serveE_tot {s s' : En} {m : Mt} (h : serveE s = some (m, s')) (hn : NR s.qs) (hfq : FQ s.qs) : totF s'.qs + 1 = totF s.qs ∧ NR s'.qs ∧ FQ s'.qs := by
  obtain ⟨q, hq, h1, h2, h3, _⟩ := serveE_to h hfq
  rw [h3]
  exact ⟨popQ_eq hn hq h1 (fun e => by rw [e] at h2; cases h2), hn.pop _, hfq.pop _⟩
theorem drainE_len : ∀ (n : Nat) (s : En), NR s.qs → FQ s.qs → totF s.qs ≤ n → (drainE n s).1.length = totF s.qs ∧ serveE (drainE n s).2 = none
  | 0, s, hn, hf, h => by
    refine ⟨?_, ?_⟩
    · simp only [drainE, List.length_nil]; omega
    · simp only [drainE]
      cases hs : serveE s with
      | none => rfl
      | some x =>
        obtain ⟨m, s'⟩ := x
        have := (serveE_tot hs hn hf).1
        omega
  | n + 1, s, hn, hf, h => by
    cases hs : serveE s with
    | none =>
      rw [drainE_none hs]
      exact ⟨(totF_zero (serveE_none hs)).symm, hs⟩
    | some x =>
      obtain ⟨m, s'⟩ := x
      rw [drainE_some hs]
      obtain ⟨h1, h2, h3⟩ := serveE_tot hs hn hf
      obtain ⟨k1, k2⟩ := drainE_len n s' h2 h3 (by omega)
      exact ⟨by simp only [List.length_cons]; omega, k2⟩
/-- Drained in parts, then to the end: as at once. -/
theorem drainE_parts {n m k : Nat} {s : En} (hn : NR s.qs) (hf : FQ s.qs) (hk : totF s.qs ≤ k) (hm : k ≤ m) : (drainE n s).1 ++ (drainE m (drainE n s).2).1 = (drainE k s).1 := by
  have h1 := drainE_add n m s
  have h2 := drainE_add k (n + m - k) s
  rw [drainE_none (drainE_len k s hn hf hk).2, show k + (n + m - k) = n + m by omega, h1] at h2
  simpa using congrArg Prod.fst h2

/-- The row in which queries are served, as the looker-on counts it. -/
structure FI (s : En) (row : Nat) (prev : Option Nat) : Prop where
  nr : NR s.qs
  fq : FQ s.qs
  start : prev = none → row = 0 ∧ ∀ q ∈ s.qs, q.num ≠ s.tq
  on : ∀ p, prev = some p → p = s.tq ∧ ((row = s.tr ∧ row ≤ 2) ∨ ∀ q ∈ s.qs, q.num ≠ p → q.found = [])
def nextRow (row : Nat) (prev : Option Nat) (n : Nat) : Nat := match prev with | none => row + 1 | some p => if p = n then row + 1 else 1

theorem pop_empty {qs : List Qy} {n p : Nat} (h : ∀ q ∈ qs, q.num ≠ p → q.found = []) : ∀ q ∈ popQ n qs, q.num ≠ p → q.found = [] := by
  intro q hq hp
  obtain ⟨a, ha, rfl⟩ := List.mem_map.1 hq
  by_cases e : a.num = n
  · rw [if_pos e] at hp ⊢
    have := h a ha hp
    simp [this]
  · rw [if_neg e] at hp ⊢
    exact h a ha hp
theorem orderE_last {s : En} (hn : NR s.qs) {A B : List Qy} {q : Qy} (hl : orderE s = A ++ q :: B) (hq : q.num = s.tq) : ∀ x ∈ s.qs, x.num ≠ s.tq → x ∈ A := by
  intro x hx hne
  have hxo := mem_orderE.2 hx
  rw [hl] at hxo
  rcases List.mem_append.1 hxo with h | h
  · exact h
  · exfalso
    rcases List.mem_cons.1 h with rfl | h
    · exact hne hq
    · -- x stands behind q in the order
      have hqm : q ∈ orderE s := by rw [hl]; simp
      have hpw : (orderE s).Pairwise (fun a b => a.num = s.tq → b.num = s.tq) := by
        unfold orderE
        refine List.pairwise_append.2 ⟨?_, ?_, ?_⟩
        · refine List.Pairwise.imp_of_mem ?_ (List.Pairwise.filter _ hn)
          intro a b ha hb hab e
          have := (List.mem_filter.1 ha).2
          simp at this; omega
        · refine List.Pairwise.imp_of_mem ?_ (List.Pairwise.filter _ hn)
          intro a b ha hb hab e
          have := (List.mem_filter.1 hb).2
          simp at this; omega
        · intro a ha b hb e
          have := (List.mem_filter.1 ha).2
          simp at this; omega
      rw [hl] at hpw
      have := (List.pairwise_cons.1 (List.pairwise_append.1 hpw).2.1).1 x h hq
      exact hne this
theorem FI.step {s s' : En} {row : Nat} {prev : Option Nat} {m : Mt} (h : FI s row prev) (hs : serveE s = some (m, s')) :
    FI s' (nextRow row prev m.q) (some m.q) ∧ (2 < nextRow row prev m.q → ∀ q ∈ s.qs, q.num ≠ m.q → q.found = []) ∧ (∃ q ∈ s.qs, q.num = m.q ∧ q.found ≠ []) ∧ s'.qs = popQ m.q s.qs := by
  obtain ⟨q, hq, h1, h2, h3, h4⟩ := serveE_to hs h.fq
  have hne : q.found ≠ [] := fun e => by rw [e] at h2; cases h2
  have hnq : m.q ∈ s.qs.map (·.num) := List.mem_map.2 ⟨q, hq, h1⟩
  suffices H : (nextRow row prev m.q = s'.tr ∧ nextRow row prev m.q ≤ 2) ∨ ∀ q ∈ s.qs, q.num ≠ m.q → q.found = [] by
    refine ⟨⟨by rw [h3]; exact h.nr.pop _, by rw [h3]; exact h.fq.pop _, (fun e => by cases e), ?_⟩, ?_, ⟨q, hq, h1, hne⟩, h3⟩
    · intro p hp
      cases hp
      refine ⟨h4.symm, H.imp id (fun H => ?_)⟩
      rw [h3]; exact pop_empty H
    · intro hrow
      rcases H with H | H
      · omega
      · exact H
  cases prev with
  | none =>
    obtain ⟨hr, hno⟩ := h.start rfl
    rcases serveE_cases hs with ⟨_, ⟨x, hx, hx1, _⟩, _⟩ | ⟨_, n, hf, rfl⟩
    · exact absurd hx1 (hno x hx)
    · left
      simp [nextRow, hr]
  | some p =>
    obtain ⟨hp, hor⟩ := h.on p rfl
    rcases hor with ⟨hr, hr2⟩ | hemp
    · rcases serveE_cases hs with ⟨ht, ⟨x, hx, hx1, hx2⟩, rfl⟩ | ⟨_, n, hf, rfl⟩
      · left
        have hm := h.fq x hx m (List.mem_of_mem_head? hx2)
        simp only [nextRow]
        rw [if_pos (by omega)]
        exact ⟨by omega, by omega⟩
      · obtain ⟨A, x, B, hl, hx1, hx2, hA⟩ := firstF_split _ _ _ hf
        have hxm : x ∈ s.qs := mem_orderE.1 (by rw [hl]; simp)
        have hm := h.fq x hxm m (List.mem_of_mem_head? hx2)
        by_cases e : p = m.q
        · right
          intro y hy hyn
          exact hA y (orderE_last h.nr hl (by omega) y hy (by omega))
        · left
          simp only [nextRow]
          rw [if_neg e]
          exact ⟨rfl, by omega⟩
    · right
      have : q.num = p := Classical.byContradiction fun e => hne (hemp q hq e)
      intro y hy hyn
      exact hemp y hy (by omega)
end Go.Lull

namespace Go.Lull
set_option linter.unusedVariables false

/-- What may be of what a reader holds. -/
structure StOk (st : St) : Prop where
  alt : altB st.1
  len : st.1.length ≤ 8
  some_ : st.2.2 ≠ 0 → st.1 ≠ []
  w0 : 0 ≤ st.2.1
  w1 : st.2.1 ≤ 1000
theorem StOk.start : StOk ([], 0, 0) := ⟨trivial, Nat.zero_le _, fun h => absurd rfl h, Int.le_refl _, by decide⟩
theorem StOk.take {st st' : St} {l : List UInt8} (h : StOk st) (ht : takeB st l = some st') : StOk st' := by
  have hlen := takeB_len ht h.len
  unfold takeB at ht
  split at ht
  · rename_i h0
    split at ht
    · split at ht
      · cases ht
      · rename_i hne
        cases ht
        exact ⟨h.alt, h.len, fun _ => hne, h.w0, h.w1⟩
    · split at ht
      · split at ht
        · rename_i x hx hm
          cases ht
          refine ⟨altB_snoc _ _ h.alt (fun hb => ?_), hlen, fun hh => absurd rfl hh, h.w0, h.w1⟩
          simp [mayB] at hm
          rcases hm.2 with h2 | h2
          · rw [hb] at h2; cases h2
          · exact h2
        · cases ht
      · cases ht
  · rename_i h0
    split at ht
    · split at ht
      · rename_i n hn
        cases ht
        have := numB_le hn
        exact ⟨h.alt, h.len, fun _ => h.some_ h0, by simp, by simp; omega⟩
      · cases ht
    · cases ht
theorem StOk.run : ∀ (ws : List (List UInt8)) {st st' : St} {p : Nat}, StOk st → runW st p ws = .inr st' → StOk st'
  | [], st, st', p, h, hr => by cases hr; exact h
  | l :: r, st, st', p, h, hr => by
    unfold runW at hr
    cases ht : takeB st l with
    | none => rw [ht] at hr; cases hr
    | some s2 => rw [ht] at hr; exact StOk.run r (h.take ht) hr
theorem resB_ok {l : List UInt8} {st : St} (h : resB l = .inr st) : StOk st ∧ st.2.2 = 2 := by
  unfold resB at h
  split at h
  · cases h
  · split at h
    · cases h
    · rename_i s2 hs
      split at h
      · rename_i h2
        cases h
        exact ⟨StOk.start.run _ hs, h2⟩
      · cases h

/-- All texts: the place in the first that is no pattern, or the patterns. -/
def resAll : List (List UInt8) → Nat ⊕ List St
  | [] => .inr []
  | l :: r => match resB l with
    | .inl p => .inl p
    | .inr st => match resAll r with
      | .inl p => .inl p
      | .inr sts => .inr (st :: sts)
theorem resAll_bad {l : List UInt8} {r : List (List UInt8)} {p : Nat} (h : resB l = .inl p) : resAll (l :: r) = .inl p := by simp [resAll, h]
theorem resAll_good {l : List UInt8} {r : List (List UInt8)} {st : St} (h : resB l = .inr st) : resAll (l :: r) = match resAll r with | .inl p => .inl p | .inr sts => .inr (st :: sts) := by simp [resAll, h]
theorem resAll_len : ∀ {ls : List (List UInt8)} {sts : List St}, resAll ls = .inr sts → sts.length = ls.length
  | [], sts, h => by cases h; rfl
  | l :: r, sts, h => by
    cases hl : resB l with
    | inl p => rw [resAll_bad hl] at h; cases h
    | inr st =>
      rw [resAll_good hl] at h
      cases hr : resAll r with
      | inl p => rw [hr] at h; cases h
      | inr s2 => rw [hr] at h; cases h; simp [resAll_len hr]
theorem resAll_ok : ∀ {ls : List (List UInt8)} {sts : List St}, resAll ls = .inr sts → ∀ st ∈ sts, StOk st ∧ st.2.2 = 2
  | [], sts, h, st, hs => by cases h; cases hs
  | l :: r, sts, h, st, hs => by
    cases hl : resB l with
    | inl p => rw [resAll_bad hl] at h; cases h
    | inr s1 =>
      rw [resAll_good hl] at h
      cases hr : resAll r with
      | inl p => rw [hr] at h; cases h
      | inr s2 =>
        rw [hr] at h
        cases h
        rcases List.mem_cons.1 hs with rfl | hs
        · exact resB_ok hl
        · exact resAll_ok hr st hs

def newQs (n : Nat) : List St → List Qy
  | [] => []
  | st :: r => ⟨n, st.1, st.2.1, [], []⟩ :: newQs (n + 1) r
theorem newQs_snoc : ∀ (l : List St) (n : Nat) (st : St), newQs n (l ++ [st]) = newQs n l ++ [⟨n + l.length, st.1, st.2.1, [], []⟩]
  | [], n, st => rfl
  | s :: l, n, st => by
    show _ :: newQs (n + 1) (l ++ [st]) = _ :: newQs (n + 1) l ++ _
    rw [newQs_snoc l (n + 1) st, List.length_cons]
    simp; omega
theorem newQs_len : ∀ (l : List St) (n : Nat), (newQs n l).length = l.length
  | [], n => rfl
  | s :: l, n => by show (newQs (n + 1) l).length + 1 = _; rw [newQs_len l]; rfl
/-- Register: the error, the place, how many, what is then. -/
def regE (s : En) (ts : List (List UInt8)) : Nat × Nat × Nat × En :=
  match resAll ts with
  | .inl p => (2, p, 0, s)
  | .inr ps => if 10 < s.qs.length + ps.length then (3, 0, 0, s) else (0, 0, ps.length, { s with qs := s.qs ++ newQs s.next ps, next := s.next + ps.length })
theorem newQs_num : ∀ (l : List St) (n : Nat), ∀ q ∈ newQs n l, n ≤ q.num ∧ q.num < n + l.length ∧ q.found = [] ∧ q.runs = []
  | [], n, q, h => by cases h
  | s :: l, n, q, h => by
    rcases List.mem_cons.1 h with rfl | h
    · exact ⟨Nat.le_refl _, by simp, rfl, rfl⟩
    · obtain ⟨h1, h2, h3, h4⟩ := newQs_num l (n + 1) q h
      exact ⟨by omega, by simp; omega, h3, h4⟩
theorem newQs_nr : ∀ (l : List St) (n : Nat), NR (newQs n l)
  | [], n => List.Pairwise.nil
  | s :: l, n => List.pairwise_cons.2 ⟨fun q hq => by have := newQs_num l (n + 1) q hq; show n < q.num; omega, newQs_nr l (n + 1)⟩
end Go.Lull

namespace Go.Lull
set_option linter.unusedVariables false

def dg (n : Nat) : UInt8 := UInt8.ofNat (48 + n)
def numT (n : Nat) : List UInt8 := if n < 10 then [dg n] else [dg (n / 10), dg (n % 10)]
/-- Is a step, by a raw number, one that must not come? -/
def notC (not : Bool) (c : Int) : Bool := !not && (c % 3 == 0)
def bodyC (c : Int) : List UInt8 := UInt8.ofNat (97 + (c / 3 % 3).toNat) :: (if c / 9 % 3 = 0 then UInt8.ofNat (60 + (c / 27 % 3).toNat) :: numT (c / 81 % 3).toNat else [])
def wordC (not : Bool) (c : Int) : List UInt8 := (if notC not c = true then [33] else []) ++ bodyC c
/-- The steps' text, and whether the last must not come. -/
def stepsC : Bool → List Int → List UInt8 × Bool
  | not, [] => ([], not)
  | not, c :: r => let x := stepsC (notC not c) r; (wordC not c ++ 32 :: x.1, x.2)
def withinW : List UInt8 := [119, 105, 116, 104, 105, 110]
def textC (cs : List Int) (n : Nat) : List UInt8 := (stepsC true cs).1 ++ (withinW ++ 32 :: numT n)

theorem stepsC_snoc (c : Int) : ∀ (l : List Int) (not : Bool), stepsC not (l ++ [c]) = ((stepsC not l).1 ++ (wordC (stepsC not l).2 c ++ [32]), notC (stepsC not l).2 c)
  | [], not => by simp [stepsC]
  | a :: l, not => by
    have ih := stepsC_snoc c l (notC not a)
    simp only [List.cons_append, stepsC, ih]
    simp

/-! ### It is a pattern -/
theorem wordOf_app {a r : List UInt8} (h : ∀ x ∈ a, x ≠ 32) : wordOf (a ++ 32 :: r) = a ∧ restOf (a ++ 32 :: r) = some r := by
  induction a with
  | nil => simp [wordOf, restOf]
  | cons b a ih =>
    have hb : (b != 32) = true := by simpa using h b List.mem_cons_self
    obtain ⟨h1, h2⟩ := ih (fun x hx => h x (List.mem_cons_of_mem _ hx))
    refine ⟨?_, ?_⟩
    · rw [List.cons_append]; unfold wordOf at *; rw [List.takeWhile_cons_of_pos (p := (· != 32)) hb, h1]
    · rw [List.cons_append]; unfold restOf at *; rw [List.dropWhile_cons_of_pos (p := (· != 32)) hb]; exact h2
theorem wordOf_all {a : List UInt8} (h : ∀ x ∈ a, x ≠ 32) : wordOf a = a ∧ restOf a = none := by
  induction a with
  | nil => exact ⟨rfl, rfl⟩
  | cons b a ih =>
    have hb : (b != 32) = true := by simpa using h b List.mem_cons_self
    obtain ⟨h1, h2⟩ := ih (fun x hx => h x (List.mem_cons_of_mem _ hx))
    refine ⟨?_, ?_⟩
    · unfold wordOf at *; rw [List.takeWhile_cons_of_pos (p := (· != 32)) hb, h1]
    · unfold restOf at *; rw [List.dropWhile_cons_of_pos (p := (· != 32)) hb]; exact h2
theorem words_app {a r : List UInt8} (h : ∀ x ∈ a, x ≠ 32) : words (a ++ 32 :: r) = a :: words r := by
  obtain ⟨h1, h2⟩ := wordOf_app (r := r) h
  rw [words_some h2, h1]
theorem words_all {a : List UInt8} (h : ∀ x ∈ a, x ≠ 32) : words a = [a] := by
  obtain ⟨h1, h2⟩ := wordOf_all h
  rw [words_none h2, h1]

theorem dg_facts : ∀ n, n < 10 → dg n ≠ 32 ∧ 48 ≤ (dg n).toNat ∧ (dg n).toNat ≤ 57 ∧ (dg n).toNat - 48 = n ∧ (dg n = 48 → n = 0) := by decide
theorem numT_blank (n : Nat) (h : n < 100) : ∀ x ∈ numT n, x ≠ 32 := by
  intro x hx
  unfold numT at hx
  split at hx
  · rename_i h1
    simp at hx; subst hx; exact (dg_facts n h1).1
  · simp at hx
    rcases hx with rfl | rfl
    · exact (dg_facts (n / 10) (by omega)).1
    · exact (dg_facts (n % 10) (by omega)).1
theorem numT_is (n : Nat) (h : n < 100) : numB 1000 (numT n) = some n := by
  have : ∀ n : Fin 100, numB 1000 (numT n.val) = some n.val := by decide
  exact this ⟨n, h⟩
/-- A step by its raw number. -/
def stpC (not : Bool) (c : Int) : Stp :=
  (notC not c, UInt8.ofNat (97 + (c / 3 % 3).toNat), if c / 9 % 3 = 0 then (UInt8.ofNat (60 + (c / 27 % 3).toNat), ((c / 81 % 3).toNat : Int)) else (0, 0))
theorem cond_facts : ∀ (a s d : Fin 3), condB (UInt8.ofNat (97 + a.val) :: UInt8.ofNat (60 + s.val) :: numT d.val) = some (UInt8.ofNat (97 + a.val), UInt8.ofNat (60 + s.val), (d.val : Int)) ∧ condB [UInt8.ofNat (97 + a.val)] = some (UInt8.ofNat (97 + a.val), 0, 0) ∧ UInt8.ofNat (97 + a.val) ≠ 33 ∧ UInt8.ofNat (97 + a.val) ≠ 32 ∧ UInt8.ofNat (60 + s.val) ≠ 32 ∧ UInt8.ofNat (97 + a.val) ≠ 119 := by decide
theorem three (c : Int) : ∃ a : Fin 3, (c % 3).toNat = a.val := ⟨⟨(c % 3).toNat, by have := Int.emod_nonneg c (show (3 : Int) ≠ 0 by omega); have := Int.emod_lt_of_pos c (show (0 : Int) < 3 by omega); omega⟩, rfl⟩
theorem body_cond (c : Int) : condB (bodyC c) = some (stpC true c).2 ∧ (∀ r, bodyC c ≠ 33 :: r) ∧ (∀ x ∈ bodyC c, x ≠ 32) ∧ (∀ r, bodyC c ≠ 119 :: r) := by
  obtain ⟨a, ha⟩ := three (c / 3)
  obtain ⟨s, hs⟩ := three (c / 27)
  obtain ⟨d, hd⟩ := three (c / 81)
  obtain ⟨f1, f2, f3, f4, f5, f6⟩ := cond_facts a s d
  unfold bodyC stpC
  simp only [ha, hs, hd]
  by_cases h9 : c / 9 % 3 = 0
  · simp only [h9, if_true]
    refine ⟨f1, ?_, ?_, ?_⟩
    · intro r h; exact f3 (List.cons.inj h).1
    · intro x hx
      rcases List.mem_cons.1 hx with rfl | hx
      · exact f4
      · rcases List.mem_cons.1 hx with rfl | hx
        · exact f5
        · exact numT_blank _ (by omega) x hx
    · intro r h; exact f6 (List.cons.inj h).1
  · simp only [h9, if_false]
    refine ⟨f2, ?_, ?_, ?_⟩
    · intro r h; exact f3 (List.cons.inj h).1
    · intro x hx
      rw [List.mem_singleton] at hx; subst hx; exact f4
    · intro r h; exact f6 (List.cons.inj h).1
theorem word_step (not : Bool) (c : Int) : stepB (wordC not c) = some (stpC not c) ∧ (∀ x ∈ wordC not c, x ≠ 32) ∧ wordC not c ≠ withinW := by
  obtain ⟨h1, h2, h3, h4⟩ := body_cond c
  unfold wordC
  by_cases hn : notC not c = true
  · rw [if_pos hn]
    refine ⟨?_, ?_, ?_⟩
    · rw [List.singleton_append, stepB_not, h1]
      show some (true, (stpC true c).2) = some (stpC not c)
      rw [show stpC not c = (notC not c, (stpC true c).2) from rfl, hn]
    · intro x hx
      rcases List.mem_append.1 hx with hx | hx
      · simp at hx; subst hx; decide
      · exact h3 x hx
    · intro h
      have := (List.cons.inj h).1
      exact absurd this (by decide)
  · rw [if_neg hn, List.nil_append]
    refine ⟨?_, h3, ?_⟩
    · rw [stepB_must h2, h1]
      show some (false, (stpC true c).2) = some (stpC not c)
      have : notC not c = false := by simpa using hn
      rw [show stpC not c = (notC not c, (stpC true c).2) from rfl, this]
    · exact h4 _
/-- The steps by raw numbers. -/
def stpsC : Bool → List Int → List Stp
  | _, [] => []
  | not, c :: r => stpC not c :: stpsC (notC not c) r
theorem take_step {l : List Stp} {not : Bool} {c : Int} (hl : l.length < 8) (he : l = [] ∧ not = true ∨ l ≠ [] ∧ endB l = !not) : takeB (l, 0, 0) (wordC not c) = some (l ++ [stpC not c], 0, 0) := by
  obtain ⟨h1, _, h3⟩ := word_step not c
  have hm : mayB l (stpC not c) = true := by
    simp only [mayB, hl, decide_true, Bool.true_and]
    cases hn : notC not c with
    | false => simp [stpC, hn]
    | true =>
      have : not = false := by simp [notC] at hn; exact hn.1
      subst this
      rcases he with ⟨_, h⟩ | ⟨_, h⟩
      · cases h
      · rw [h]; simp
  unfold withinW at h3
  unfold takeB
  simp only [if_true]
  rw [if_neg h3, h1]
  simp only [hm, if_true]
theorem end_step (l : List Stp) (not : Bool) (c : Int) : endB (l ++ [stpC not c]) = !notC not c := by rw [endB_snoc]; rfl
theorem run_steps (n : Nat) (hn : n < 100) : ∀ (cs : List Int) (l : List Stp) (not : Bool) (p : Nat), l.length + cs.length ≤ 8 → (l = [] ∧ not = true ∧ cs ≠ [] ∨ l ≠ [] ∧ endB l = !not) →
    runW (l, 0, 0) p (words ((stepsC not cs).1 ++ (withinW ++ 32 :: numT n))) = .inr (l ++ stpsC not cs, (n : Int), 2)
  | [], l, not, p, hl, he => by
    have hne : l ≠ [] := by
      rcases he with ⟨_, _, h⟩ | ⟨h, _⟩
      · exact absurd rfl h
      · exact h
    have hw : ∀ x ∈ withinW, x ≠ 32 := by decide
    simp only [stepsC, List.nil_append, stpsC, List.append_nil]
    rw [words_app hw, words_all (numT_blank n hn)]
    have ht : takeB (l, 0, 0) withinW = some (l, 0, 1) := by
      unfold takeB
      simp [withinW, hne]
    have ht2 : takeB (l, 0, 1) (numT n) = some (l, (n : Int), 2) := by
      unfold takeB
      simp [numT_is n hn]
    simp [runW, ht, ht2]
  | c :: r, l, not, p, hl, he => by
    obtain ⟨_, h2, _⟩ := word_step not c
    have e1 : (stepsC not (c :: r)).1 ++ (withinW ++ 32 :: numT n) = wordC not c ++ 32 :: ((stepsC (notC not c) r).1 ++ (withinW ++ 32 :: numT n)) := by simp [stepsC]
    rw [e1, words_app h2]
    have ht := take_step (l := l) (not := not) (c := c) (by simp at hl; omega) (by
      rcases he with ⟨h1, h2, _⟩ | h1
      · exact Or.inl ⟨h1, h2⟩
      · exact Or.inr h1)
    have ih := run_steps n hn r (l ++ [stpC not c]) (notC not c) (p + (wordC not c).length + 1) (by simp at hl ⊢; omega) (Or.inr ⟨by simp, end_step l not c⟩)
    simp only [runW, ht]
    rw [ih]
    simp [stpsC]
theorem numT_len (n : Nat) : (numT n).length ≤ 2 := by unfold numT; split <;> simp
theorem numT_one (n : Nat) (h : n < 10) : (numT n).length = 1 := by unfold numT; rw [if_pos h]; rfl
theorem word_len (not : Bool) (c : Int) : (wordC not c).length ≤ 4 := by
  unfold wordC bodyC
  have h1 : (if notC not c = true then [(33 : UInt8)] else []).length ≤ 1 := by split <;> simp
  have h2 : (c / 81 % 3).toNat < 10 := by have := Int.emod_lt_of_pos (c / 81) (show (0 : Int) < 3 by omega); omega
  have h3 := numT_one _ h2
  have h4 : (if c / 9 % 3 = 0 then UInt8.ofNat (60 + (c / 27 % 3).toNat) :: numT (c / 81 % 3).toNat else []).length ≤ 2 := by split <;> simp [h3]
  rw [List.length_append, List.length_cons]
  omega
theorem steps_len : ∀ (cs : List Int) (not : Bool), (stepsC not cs).1.length ≤ 5 * cs.length
  | [], not => by simp [stepsC]
  | c :: r, not => by
    have h1 := word_len not c
    have h2 := steps_len r (notC not c)
    simp only [stepsC, List.length_append, List.length_cons]
    omega
theorem text_ok (cs : List Int) (n : Nat) (hn : n < 100) (h1 : cs ≠ []) (h4 : cs.length ≤ 8) : resB (textC cs n) = .inr (stpsC true cs, (n : Int), 2) := by
  have hl : (textC cs n).length ≤ 100 := by
    unfold textC
    have := steps_len cs true
    have := numT_len n
    simp [withinW]; omega
  unfold resB
  rw [if_neg (by omega)]
  have := run_steps n hn cs [] true 0 (by simpa using h4) (Or.inl ⟨rfl, rfl, h1⟩)
  unfold textC
  rw [this]
  simp
theorem stpsC_len : ∀ (cs : List Int) (not : Bool), (stpsC not cs).length = cs.length
  | [], not => rfl
  | c :: r, not => by simp [stpsC, stpsC_len r]
end Go.Lull

namespace Go.Lull
set_option linter.unusedVariables false
theorem offerE_ok {s : En} {e : Ev} {r : List Ev} (h : (takeE s e).1 = 0) : offerE s (e :: r) = ((offerE (takeE s e).2 r).1 + 1, (offerE (takeE s e).2 r).2) := by
  simp [offerE, h]
theorem offerE_no {s : En} {e : Ev} {r : List Ev} (h : (takeE s e).1 ≠ 0) : offerE s (e :: r) = (0, takeE s e) := by
  simp [offerE, h]
theorem takeE_sb {s : En} {e : Ev} (h : SB s.buf) : SB (takeE s e).2.buf := by
  unfold takeE
  split
  · split
    · exact h
    · split
      · exact h
      · exact h.put e
  · exact h
theorem offerE_sb : ∀ (l : List Ev) {s : En}, SB s.buf → SB (offerE s l).2.2.buf
  | [], s, h => h
  | e :: r, s, h => by
    by_cases h0 : (takeE s e).1 = 0
    · rw [offerE_ok h0]; exact offerE_sb r (takeE_sb h)
    · rw [offerE_no h0]; exact takeE_sb h
end Go.Lull

namespace Go.Lull
set_option linter.unusedVariables false

/-! ### Each query by itself -/
theorem ml_mem {qs : List Qy} {q : Qy} {r : Rn} {l : List Rn} (hq : q ∈ qs) (hr : q.runs = r :: l) : ∃ t, ml qs = some t ∧ t ≤ r.dl := by
  induction qs with
  | nil => cases hq
  | cons a as ih =>
    rw [show ml (a :: as) = (match a.runs with | [] => ml as | r :: _ => match ml as with | none => some r.dl | some t => some (if t < r.dl then t else r.dl)) from rfl]
    rcases List.mem_cons.1 hq with rfl | hq
    · rw [hr]
      cases hm : ml as with
      | none => exact ⟨_, rfl, Int.le_refl _⟩
      | some t => exact ⟨_, rfl, by split <;> omega⟩
    · obtain ⟨t, ht, hle⟩ := ih hq
      cases ha : a.runs with
      | nil => exact ⟨t, ht, hle⟩
      | cons x xs => simp only [ht]; exact ⟨_, rfl, by split <;> omega⟩
theorem ml_one (q : Qy) : ml [q] = (q.runs.head?).map (·.dl) := by
  cases h : q.runs with
  | nil => simp [ml, h]
  | cons r l => simp [ml, h]
theorem endQ_same {q : Qy} {t : Int} (h : ∀ r l, q.runs = r :: l → r.dl ≠ t) : endQ q t = q := by
  cases hr : q.runs with
  | nil => cases q; simp_all [endQ]
  | cons r l =>
    have hne : (r.dl == t) = false := by simpa using h r l hr
    cases q
    simp only at hr
    subst hr
    simp [endQ, hne]
theorem Still.one {M : Int} {B : List Ev} {qs : List Qy} (h : Still M (B, qs)) {q : Qy} (hq : q ∈ qs) : Still M (B, [q]) := by
  refine ⟨h.1, ?_⟩
  intro t ht
  rw [ml_one] at ht
  obtain ⟨r, hr, rfl⟩ := Option.map_eq_some_iff.1 ht
  cases hl : q.runs with
  | nil => rw [hl] at hr; cases hr
  | cons x l =>
    rw [hl] at hr
    cases hr
    obtain ⟨t, h1, h2⟩ := ml_mem hq hl
    have := h.2 t h1
    omega
/-- What is done first does to one query what it does to it alone. -/
theorem one_step {M : Int} {B : List Ev} {qs : List Qy} {d : Deed} (h : firstD B qs = some d) (ht : d.time < M) {q : Qy} (hq : q ∈ qs) : pass M (B, [q]) = pass M (doD (B, [q]) d) := by
  cases d with
  | rel e =>
    obtain ⟨r, hr⟩ := firstD_rel h
    subst hr
    refine pass_step ?_ ht
    rw [firstD_comb, ml_one]
    cases hl : q.runs with
    | nil => rfl
    | cons x l =>
      obtain ⟨t, h1, h2⟩ := ml_mem hq hl
      rw [firstD_comb, h1] at h
      have hnt : ¬ t < e.2.1 := by
        intro hlt
        have : comb (some (Deed.rel e)) (some t) = some (Deed.fin t) := if_pos hlt
        simp only [List.head?_cons, Option.map_some] at h
        rw [this] at h
        cases h
      exact if_neg (show ¬ x.dl < e.2.1 by omega)
  | fin t =>
    have ht' : t < M := ht
    by_cases hx : ∃ r l, q.runs = r :: l ∧ r.dl = t
    · obtain ⟨r, l, hr, hd⟩ := hx
      refine pass_step ?_ ht
      rw [firstD_comb, ml_one, hr]
      simp only [List.head?_cons, Option.map_some, hd]
      rw [firstD_comb] at h
      cases hm : ml qs with
      | none => obtain ⟨_, h1, _⟩ := ml_mem hq hr; rw [hm] at h1; cases h1
      | some t' =>
        rw [hm] at h
        have htt : t' = t := by
          cases hh : B.head? with
          | none => rw [hh] at h; cases h; rfl
          | some b =>
            rw [hh] at h
            simp only [Option.map_some, comb] at h
            split at h
            · cases h; rfl
            · cases h
        rw [← htt]; rw [← htt] at h; exact h
    · have : endQ q t = q := endQ_same (fun r l hr hd => hx ⟨r, l, hr, hd⟩)
      show _ = pass M (B, [endQ q t])
      rw [this]
def passQ (M : Int) (B : List Ev) (q : Qy) : Qy := (pass M (B, [q])).2.headD q
theorem pass_len {M : Int} (s : List Ev × List Qy) : (pass M s).2.length = s.2.length :=
  pass_ind (P := fun x => x.2.length = s.2.length) (fun x d hx _ => by cases d <;> simpa [doD] using hx) _ s rfl rfl
theorem pass_one (M : Int) (B : List Ev) (q : Qy) : (pass M (B, [q])).2 = [passQ M B q] := by
  have := pass_len (M := M) (B, [q])
  unfold passQ
  cases h : (pass M (B, [q])).2 with
  | nil => rw [h] at this; cases this
  | cons a l =>
    cases l with
    | nil => rfl
    | cons b l => rw [h] at this; simp at this
theorem doD_one (B : List Ev) (q : Qy) (d : Deed) : ∃ f : Qy → Qy, (∀ qs, (doD (B, qs) d).2 = qs.map f) ∧ (∀ qs qs', (doD (B, qs) d).1 = (doD (B, qs') d).1) := by
  cases d with
  | rel e => exact ⟨(showQ · e), fun _ => rfl, fun _ _ => rfl⟩
  | fin t => exact ⟨(endQ · t), fun _ => rfl, fun _ _ => rfl⟩
theorem pass_alone' {M : Int} : ∀ (n : Nat) (B : List Ev) (qs : List Qy), passM (B, qs) = n → (pass M (B, qs)).2 = qs.map (passQ M B) := by
  intro n
  induction n using Nat.strongRecOn with
  | _ n ih =>
    intro B qs hn
    have hstill : Still M (B, qs) → (pass M (B, qs)).2 = qs.map (passQ M B) := by
      intro h
      rw [pass_still h]
      show qs = _
      conv => lhs; rw [← List.map_id qs]
      apply List.map_congr_left
      intro q hq
      unfold passQ
      rw [pass_still (h.one hq)]; rfl
    cases hf : firstD B qs with
    | none => exact hstill (still_iff.2 (fun d hd => by rw [hf] at hd; cases hd))
    | some d =>
      by_cases ht : d.time < M
      · rw [pass_step (s := (B, qs)) hf ht]
        have hl := passM_less (s := (B, qs)) hf
        rw [hn] at hl
        cases d with
        | rel e =>
          refine (ih _ hl _ _ rfl).trans ?_
          show (qs.map (showQ · e)).map (passQ M B.tail) = _
          rw [List.map_map]
          apply List.map_congr_left
          intro q hq
          have h1 := pass_one M B q
          rw [one_step hf ht hq] at h1
          have h2 := pass_one M B.tail (showQ q e)
          have h3 : [passQ M B q] = [passQ M B.tail (showQ q e)] := h1.symm.trans h2
          simpa using h3.symm
        | fin t =>
          refine (ih _ hl _ _ rfl).trans ?_
          show (qs.map (endQ · t)).map (passQ M B) = _
          rw [List.map_map]
          apply List.map_congr_left
          intro q hq
          have h1 := pass_one M B q
          rw [one_step hf ht hq] at h1
          have h2 := pass_one M B (endQ q t)
          have h3 : [passQ M B q] = [passQ M B (endQ q t)] := h1.symm.trans h2
          simpa using h3.symm
      · exact hstill (still_iff.2 (fun d' hd => by rw [hf] at hd; cases hd; omega))
/-- Queries know nothing of each other. -/
theorem pass_alone (M : Int) (B : List Ev) (qs : List Qy) : (pass M (B, qs)).2 = qs.map (passQ M B) := pass_alone' _ B qs rfl
/-- Those that wait still. -/
theorem pass_buf' {M : Int} : ∀ (n : Nat) (s : List Ev × List Qy), passM s = n → (pass M s).1 = s.1.dropWhile (fun e => decide (e.2.1 < M)) := by
  intro n
  induction n using Nat.strongRecOn with
  | _ n ih =>
    intro s hn
    have hstill : Still M s → (pass M s).1 = s.1.dropWhile (fun e => decide (e.2.1 < M)) := by
      intro h
      rw [pass_still h]
      cases hb : s.1 with
      | nil => rfl
      | cons b r =>
        have := h.1 b (by rw [hb]; rfl)
        rw [List.dropWhile_cons_of_neg (by simp; omega)]
    cases hf : firstD s.1 s.2 with
    | none => exact hstill (still_iff.2 (fun d hd => by rw [hf] at hd; cases hd))
    | some d =>
      by_cases ht : d.time < M
      · rw [pass_step hf ht, ih _ (by rw [← hn]; exact passM_less hf) _ rfl]
        cases d with
        | rel e =>
          obtain ⟨r, hr⟩ := firstD_rel hf
          show s.1.tail.dropWhile _ = _
          rw [hr, List.tail_cons, List.dropWhile_cons_of_pos (by have h2 : e.2.1 < M := ht; simpa using h2)]
        | fin t => rfl
      · exact hstill (still_iff.2 (fun d' hd => by rw [hf] at hd; cases hd; omega))
theorem pass_buf (M : Int) (s : List Ev × List Qy) : (pass M s).1 = s.1.dropWhile (fun e => decide (e.2.1 < M)) := pass_buf' _ s rfl

/-! ### What stays of a query -/
theorem showQ_same (q : Qy) (e : Ev) : (showQ q e).num = q.num ∧ (showQ q e).st = q.st ∧ (showQ q e).wn = q.wn := by
  unfold showQ beginQ
  split
  · split <;> exact ⟨rfl, rfl, rfl⟩
  · exact ⟨rfl, rfl, rfl⟩
theorem passQ_ind {P : Qy → Prop} (h1 : ∀ q e, P q → P (showQ q e)) (h2 : ∀ q t, P q → P (endQ q t)) (M : Int) (B : List Ev) {q : Qy} (h : P q) : P (passQ M B q) := by
  have := pass_ind (P := fun s => ∀ x ∈ s.2, P x) (wm := M) (fun s d hs _ => by
    cases d with
    | rel e => intro x hx; obtain ⟨y, hy, rfl⟩ := List.mem_map.1 hx; exact h1 y e (hs y hy)
    | fin t => intro x hx; obtain ⟨y, hy, rfl⟩ := List.mem_map.1 hx; exact h2 y t (hs y hy)) _ (B, [q]) rfl (by intro x hx; simp at hx; subst hx; exact h)
  exact this _ (by rw [pass_one]; simp)
theorem passQ_num (M : Int) (B : List Ev) (q : Qy) : (passQ M B q).num = q.num := passQ_ind (P := fun x => x.num = q.num) (fun x e h => by rw [(showQ_same x e).1]; exact h) (fun x t h => h) M B rfl
theorem NR.map {qs : List Qy} (h : NR qs) {f : Qy → Qy} (hf : ∀ q, (f q).num = q.num) : NR (qs.map f) := by
  unfold NR
  rw [List.pairwise_map]
  refine h.imp ?_
  intro a b hab
  rw [hf, hf]; exact hab
theorem NR.pass {M : Int} {B : List Ev} {qs : List Qy} (h : NR qs) : NR (Go.Lull.pass M (B, qs)).2 := by
  rw [pass_alone]; exact h.map (passQ_num M B)
def FQ1 (q : Qy) : Prop := ∀ m ∈ q.found, m.q = q.num
theorem FQ1.show {q : Qy} (h : FQ1 q) (e : Ev) : FQ1 (showQ q e) := by
  have hs : FQ1 (shownQ q e) := by
    intro m hm
    rcases List.mem_append.1 hm with hm | hm
    · exact h m hm
    · obtain ⟨r, _, hr⟩ := List.mem_filterMap.1 hm
      unfold told1 at hr
      split at hr
      · cases hr; rfl
      · cases hr
  unfold showQ beginQ
  split
  · split
    · intro m hm
      rcases List.mem_append.1 hm with hm | hm
      · exact hs m hm
      · simp at hm; subst hm; rfl
    · exact hs
  · exact hs
theorem FQ1.end_ {q : Qy} (h : FQ1 q) (t : Int) : FQ1 (endQ q t) := by
  intro m hm
  rcases List.mem_append.1 hm with hm | hm
  · exact h m hm
  · obtain ⟨r, _, rfl⟩ := List.mem_map.1 hm; rfl
theorem FQ.pass {M : Int} {B : List Ev} {qs : List Qy} (h : FQ qs) : FQ (Go.Lull.pass M (B, qs)).2 := by
  rw [pass_alone]
  intro q hq
  obtain ⟨x, hx, rfl⟩ := List.mem_map.1 hq
  exact passQ_ind (P := FQ1) (fun _ e h => h.show e) (fun _ t h => h.end_ t) M B (h x hx)

/-- Another number. -/
def renum (n : Nat) (q : Qy) : Qy := { q with num := n, found := q.found.map (fun m => { m with q := n }) }
theorem renum_show (n : Nat) (q : Qy) (e : Ev) : showQ (renum n q) e = renum n (showQ q e) := by
  have hs : shownQ (renum n q) e = renum n (shownQ q e) := by
    unfold shownQ renum
    simp only [List.map_append, List.map_filterMap]
    have hfun : told1 n q.st e = fun r => (told1 q.num q.st e r).map (fun m => { m with q := n }) := by
      funext r
      unfold told1
      split <;> rfl
    rw [hfun]
  unfold showQ
  rw [hs]
  unfold beginQ
  have e1 : (renum n (shownQ q e)).st = (shownQ q e).st := rfl
  rw [e1]
  split
  · split
    · simp [renum]
    · rfl
  · rfl
theorem renum_end (n : Nat) (q : Qy) (t : Int) : endQ (renum n q) t = renum n (endQ q t) := by
  unfold endQ renum
  simp only [List.map_append, List.map_map]
  rfl
theorem pass_renum (n : Nat) {M : Int} : ∀ (k : Nat) (B : List Ev) (q : Qy), passM (B, [q]) = k → pass M (B, [renum n q]) = ((pass M (B, [q])).1, [renum n (passQ M B q)]) := by
  intro k
  induction k using Nat.strongRecOn with
  | _ k ih =>
    intro B q hk
    have hsame : firstD B [renum n q] = firstD B [q] := by rw [firstD_comb, firstD_comb, ml_one, ml_one]; rfl
    cases hf : firstD B [q] with
    | none =>
      have : passQ M B q = q := by unfold passQ; rw [pass_none (s := (B, [q])) hf]; rfl
      rw [pass_none (s := (B, [renum n q])) (by rw [← hf]; exact hsame), pass_none (s := (B, [q])) hf, this]
    | some d =>
      by_cases ht : d.time < M
      · rw [pass_step (s := (B, [renum n q])) (hsame.trans hf) ht]
        have hl := passM_less (s := (B, [q])) hf
        have h1 := pass_one M B q
        rw [pass_step (s := (B, [q])) hf ht] at h1 ⊢
        rw [hk] at hl
        cases d with
        | rel e =>
          show pass M (B.tail, [showQ (renum n q) e]) = _
          rw [renum_show, ih _ hl _ _ rfl]
          have h2 : [passQ M B.tail (showQ q e)] = [passQ M B q] := (pass_one M B.tail (showQ q e)).symm.trans h1
          have h3 : passQ M B.tail (showQ q e) = passQ M B q := by simpa using h2
          rw [h3]; rfl
        | fin t =>
          show pass M (B, [endQ (renum n q) t]) = _
          rw [renum_end, ih _ hl _ _ rfl]
          have h2 : [passQ M B (endQ q t)] = [passQ M B q] := (pass_one M B (endQ q t)).symm.trans h1
          have h3 : passQ M B (endQ q t) = passQ M B q := by simpa using h2
          rw [h3]; rfl
      · have : passQ M B q = q := by unfold passQ; rw [pass_late (s := (B, [q])) hf ht]; rfl
        rw [pass_late (s := (B, [renum n q])) (hsame.trans hf) ht, pass_late (s := (B, [q])) hf ht, this]
theorem passQ_renum (n : Nat) (M : Int) (B : List Ev) (q : Qy) : passQ M B (renum n q) = renum n (passQ M B q) := by
  have h := pass_one M B (renum n q)
  rw [pass_renum n _ B q rfl] at h
  simpa using h.symm
end Go.Lull

namespace Go.Lull
set_option linter.unusedVariables false

/-- How much a query can hold. -/
def SZk (N : Nat) (s : List Ev × List Qy) : Prop := ∀ q ∈ s.2, q.found.length + q.runs.length + s.1.length ≤ N
theorem SZk.step {N : Nat} {s : List Ev × List Qy} {d : Deed} (h : SZk N s) (hd : firstD s.1 s.2 = some d) : SZk N (doD s d) := by
  cases d with
  | rel e =>
    obtain ⟨r, hr⟩ := firstD_rel hd
    intro q hq
    obtain ⟨x, hx, rfl⟩ := List.mem_map.1 hq
    have h1 := show_size x e
    have h2 := h x hx
    rw [hr] at h2
    show (showQ x e).found.length + (showQ x e).runs.length + s.1.tail.length ≤ N
    rw [hr]
    simp only [List.length_cons, List.tail_cons] at *
    omega
  | fin t =>
    intro q hq
    obtain ⟨x, hx, rfl⟩ := List.mem_map.1 hq
    have h1 := end_size x t
    have h2 := h x hx
    show (endQ x t).found.length + (endQ x t).runs.length + s.1.length ≤ N
    omega
theorem SZk.pass {N : Nat} {s : List Ev × List Qy} {wm : Int} (h : SZk N s) : SZk N (Go.Lull.pass wm s) := pass_ind (P := SZk N) (fun _ _ h hf => h.step hf) _ s rfl h
theorem pass_le {wm : Int} (s : List Ev × List Qy) : (Go.Lull.pass wm s).1.length ≤ s.1.length := by
  rw [pass_buf]; exact List.Sublist.length_le (List.dropWhile_sublist _)

/-- What is so of an Engine that was offered at most n events. -/
structure SO (n : Nat) (s : En) : Prop where
  m3 : s.marks.length = 3
  sb : SB s.buf
  tm : TM s.buf
  sz : SZk n (s.buf, s.qs)
  bl : s.buf.length ≤ n
  nr : NR s.qs
  ql : s.qs.length ≤ 3
  fq : FQ s.qs
theorem SO.mono {n m : Nat} {s : En} (h : SO n s) (hn : n ≤ m) : SO m s := ⟨h.m3, h.sb, h.tm, fun q hq => Nat.le_trans (h.sz q hq) hn, Nat.le_trans h.bl hn, h.nr, h.ql, h.fq⟩
theorem take_ok {s : En} {e : Ev} (hp : properB s.marks.length e = true) (hl : ¬ e.2.1 < markB s.marks) (hb : s.buf.length < 60) : takeE s e = (0, { s with buf := putB s.buf e }) := by
  unfold takeE; rw [if_pos hp, if_neg hl, if_neg (by omega)]
theorem take_late {s : En} {e : Ev} (hp : properB s.marks.length e = true) (hl : e.2.1 < markB s.marks) : takeE s e = (5, s) := by
  unfold takeE; rw [if_pos hp, if_pos hl]
theorem offer_ok {s : En} {e : Ev} (hp : properB s.marks.length e = true) (hl : ¬ e.2.1 < markB s.marks) (hb : s.buf.length < 60) : offerE s [e] = (1, 0, { s with buf := putB s.buf e }) := by
  rw [offerE_ok (by rw [take_ok hp hl hb]), take_ok hp hl hb]; rfl
theorem offer_late {s : En} {e : Ev} (hp : properB s.marks.length e = true) (hl : e.2.1 < markB s.marks) : offerE s [e] = (0, 5, s) := by
  rw [offerE_no (by rw [take_late hp hl]; show (5 : Nat) ≠ 0; omega), take_late hp hl]
theorem SO.put {n : Nat} {s : En} {e : Ev} (h : SO n s) (h0 : 0 ≤ e.2.1) (h1 : e.2.1 ≤ 1000000) : SO (n + 1) { s with buf := putB s.buf e } := by
  refine ⟨h.m3, h.sb.put e, h.tm.put h0 h1, ?_, ?_, h.nr, h.ql, h.fq⟩
  · intro q hq
    have := h.sz q hq
    show q.found.length + q.runs.length + (putB s.buf e).length ≤ n + 1
    rw [put_len]
    simp only at this
    omega
  · show (putB s.buf e).length ≤ n + 1
    rw [put_len]; have := h.bl; omega
theorem beat_cases (s : En) (a t : Int) : (beatE s a t).2 = s ∨ (beatE s a t).2 = { s with marks := s.marks.set a.toNat t, buf := (pass (markB (s.marks.set a.toNat t)) (s.buf, s.qs)).1, qs := (pass (markB (s.marks.set a.toNat t)) (s.buf, s.qs)).2 } := by
  unfold beatE
  split
  · exact Or.inl rfl
  · split
    · exact Or.inl rfl
    · exact Or.inr rfl
theorem SO.beat {n : Nat} {s : En} (h : SO n s) (a t : Int) : SO n (beatE s a t).2 := by
  rcases beat_cases s a t with e | e
  · rw [e]; exact h
  · rw [e]
    refine ⟨by simpa using h.m3, SB.pass h.sb, TM.pass h.tm, SZk.pass h.sz, Nat.le_trans (pass_le _) h.bl, NR.pass h.nr, by rw [pass_len]; exact h.ql, FQ.pass h.fq⟩
theorem SO.z {n : Nat} {s : En} (h : SO n s) (hn : n ≤ 1000) : SZ (s.buf, s.qs) := fun q hq => by have := h.sz q hq; omega
theorem tot_le : ∀ (qs : List Qy) (n : Nat), (∀ q ∈ qs, q.found.length ≤ n) → totF qs ≤ qs.length * n
  | [], n, _ => by simp [totF]
  | q :: qs, n, h => by
    have h1 := tot_le qs n (fun x hx => h x (List.mem_cons_of_mem _ hx))
    have h2 := h q List.mem_cons_self
    show q.found.length + totF qs ≤ (qs.length + 1) * n
    rw [Nat.add_mul]; omega
theorem SO.tot {n : Nat} {s : En} (h : SO n s) : totF s.qs ≤ 3 * n := by
  have h1 := tot_le s.qs n (fun q hq => by have := h.sz q hq; omega)
  have h2 := h.ql
  exact Nat.le_trans h1 (Nat.mul_le_mul_right _ h2)
/-- The answer of a beat that may be. -/
theorem beat_ans {s : En} (h3 : s.marks.length = 3) {a t : Int} (ha : 0 ≤ a) (ha3 : a < 3) (ht : 0 ≤ t) (ht2 : t ≤ 2000000) : (beatE s a t).1 = 0 ∨ (beatE s a t).1 = 5 := by
  unfold beatE
  rw [if_neg (by omega)]
  split
  · exact Or.inr rfl
  · exact Or.inl rfl
/-- A match holds few events. -/
def EQk (n : Nat) (q : Qy) : Prop := (∀ r ∈ q.runs, r.tk.length ≤ n) ∧ (∀ m ∈ q.found, m.evs.length ≤ n)
end Go.Lull

namespace Go.Lull
set_option linter.unusedVariables false

theorem pass_ind2 {P : List Ev × List Qy → Prop} {wm : Int} (hs : ∀ s d, P s → firstD s.1 s.2 = some d → d.time < wm → P (doD s d)) : ∀ (n : Nat) (s : List Ev × List Qy), passM s = n → P s → P (pass wm s) := by
  intro n
  induction n using Nat.strongRecOn with
  | _ n ih =>
    intro s hn h
    cases hf : firstD s.1 s.2 with
    | none => rw [pass_none hf]; exact h
    | some d =>
      by_cases ht : d.time < wm
      · rw [pass_step hf ht]
        exact ih (passM (doD s d)) (by rw [← hn]; exact passM_less hf) _ rfl (hs s d h hf ht)
      · rw [pass_late hf ht]; exact h

def isK (c : UInt8) (e : Ev) : Bool := e.2.2.1 == c
def mustS (c : UInt8) : Stp := (false, c, 0, 0)
def notS (c : UInt8) : Stp := (true, c, 0, 0)
theorem fits_must (c : UInt8) (e : Ev) : fitsB (mustS c) e = isK c e := by simp [fitsB, mustS, isK, signHolds]
theorem fits_not (c : UInt8) (e : Ev) : fitsB (notS c) e = isK c e := by simp [fitsB, notS, isK, signHolds]
theorem isK_ab {e : Ev} (h : isK 97 e = true) : isK 98 e = false := by
  unfold isK at *
  have : e.2.2.1 = 97 := by simpa using h
  rw [this]; rfl

/-- Times that do not fall. -/
def TS (l : List Ev) : Prop := l.Pairwise (fun x y => x.2.1 ≤ y.2.1)
theorem SB.ts {l : List Ev} (h : SB l) : TS l := by
  refine List.Pairwise.imp ?_ h
  intro x y hxy
  have : ¬ (y.2.1 < x.2.1 ∨ (x.2.1 = y.2.1 ∧ y.1 < x.1)) := by rw [← after_iff, hxy]; simp
  omega

theorem first_rel {e : Ev} {r : List Ev} {q : Qy} (h : firstD (e :: r) [q] = some (.rel e)) : ∀ x l, q.runs = x :: l → e.2.1 ≤ x.dl := by
  intro x l hx
  rw [firstD_comb, ml_one, hx] at h
  by_cases hlt : x.dl < e.2.1
  · have : comb (some (Deed.rel e)) (some x.dl) = some (Deed.fin x.dl) := if_pos hlt
    simp only [List.head?_cons, Option.map_some] at h
    rw [this] at h; cases h
  · omega
theorem first_fin {B : List Ev} {q : Qy} {t : Int} (h : firstD B [q] = some (.fin t)) : (∃ x l, q.runs = x :: l ∧ x.dl = t) ∧ ∀ b ∈ B.head?, t < b.2.1 := by
  refine ⟨?_, ?_⟩
  · obtain ⟨q', hq', r, l, h1, h2⟩ := firstD_fin h
    simp at hq'; subst hq'
    exact ⟨r, l, h1, h2⟩
  · intro b hb
    rw [firstD_comb, ml_one, hb] at h
    cases hr : q.runs.head? with
    | none => rw [hr] at h; cases h
    | some x =>
      rw [hr] at h
      simp only [Option.map_some] at h
      by_cases hlt : x.dl < b.2.1
      · have : comb (some (Deed.rel b)) (some x.dl) = some (Deed.fin x.dl) := if_pos hlt
        rw [this] at h; cases h; exact hlt
      · have : comb (some (Deed.rel b)) (some x.dl) = some (Deed.rel b) := if_neg hlt
        rw [this] at h; cases h

/-! ### a !b within w -/
section
variable (w : Int)
/-- Those of some events that are a's and that no b follows in time. -/
def quietL : List Ev → List Ev
  | [] => []
  | e :: r => if isK 97 e = true ∧ (∀ x ∈ r, isK 98 x = true → ¬ x.2.1 ≤ e.2.1 + w) then e :: quietL r else quietL r
def hushed (x e : Ev) : Bool := !(isK 98 x && decide (x.2.1 ≤ e.2.1 + w))
theorem quietL_snoc (x : Ev) : ∀ P : List Ev, quietL w (P ++ [x]) = (quietL w P).filter (hushed w x) ++ (if isK 97 x = true then [x] else [])
  | [] => by
    simp [quietL]
  | e :: r => by
    have ih := quietL_snoc x r
    rw [List.cons_append]
    unfold quietL
    by_cases ha : isK 97 e = true
    · by_cases hq : ∀ y ∈ r, isK 98 y = true → ¬ y.2.1 ≤ e.2.1 + w
      · rw [if_pos (show isK 97 e = true ∧ ∀ y ∈ r, isK 98 y = true → ¬ y.2.1 ≤ e.2.1 + w from ⟨ha, hq⟩)]
        by_cases hx : isK 98 x = true ∧ x.2.1 ≤ e.2.1 + w
        · rw [if_neg (fun h => h.2 x (by simp) hx.1 hx.2), ih, List.filter_cons_of_neg (by simp [hushed, hx.1, hx.2])]
        · rw [if_pos ⟨ha, fun y hy => by
            rcases List.mem_append.1 hy with hy | hy
            · exact hq y hy
            · simp at hy; subst hy; exact fun h1 h2 => hx ⟨h1, h2⟩⟩, ih, List.filter_cons_of_pos (by
              simp only [hushed, Bool.not_eq_true', Bool.and_eq_false_iff, decide_eq_false_iff_not]
              by_cases hb : isK 98 x = true
              · exact Or.inr (fun h => hx ⟨hb, h⟩)
              · exact Or.inl (by simpa using hb))]
          rfl
      · rw [if_neg (fun h => hq (fun y hy => h.2 y (List.mem_append_left _ hy))), if_neg (fun h => hq h.2), ih]
    · rw [if_neg (fun h => ha h.1), if_neg (fun h => ha h.1), ih]
theorem quietL_mem : ∀ (P : List Ev) (e : Ev), e ∈ quietL w P → e ∈ P
  | [], e, h => by cases h
  | x :: r, e, h => by
    unfold quietL at h
    split at h
    · rcases List.mem_cons.1 h with rfl | h
      · exact List.mem_cons_self
      · exact List.mem_cons_of_mem _ (quietL_mem r e h)
    · exact List.mem_cons_of_mem _ (quietL_mem r e h)
theorem quietL_sub : ∀ P : List Ev, (quietL w P).Sublist P
  | [] => List.Sublist.refl _
  | x :: r => by
    unfold quietL
    split
    · exact (quietL_sub r).cons_cons x
    · exact (quietL_sub r).cons x
def stSil : List Stp := [mustS 97, notS 98]
def mtS (n : Nat) (e : Ev) : Mt := ⟨n, e.2.1 + w, [e]⟩
def rnS (e : Ev) : Rn := ⟨e.2.1 + w, [e], 1⟩
theorem showB_sil (tk : List Ev) (x : Ev) : showB stSil 1 tk x = if isK 98 x = true then .dead else .stands 1 tk := by
  have h : stSil.getD 1 noStep = notS 98 := rfl
  unfold showB
  rw [h, fits_not]
  by_cases hb : isK 98 x = true
  · rw [if_pos hb, if_pos ⟨rfl, hb⟩]
  · rw [if_neg hb, if_neg (fun h => hb h.2)]
    rfl
structure SI (l : List Ev) (n : Nat) (M : Int) (s : List Ev × List Qy) : Prop where
  ex : ∃ q P told live, s.2 = [q] ∧ P ++ s.1 = l ∧ quietL w P = told ++ live ∧ q = ⟨n, stSil, w, live.map (rnS w), told.map (mtS w n)⟩ ∧ (∀ t ∈ told, t.2.1 + w < M) ∧ (∀ t ∈ told, ∀ b ∈ s.1, t.2.1 + w < b.2.1) ∧ (∀ p ∈ P, p.2.1 < M)
theorem keep_sil (x : Ev) (live : List Ev) : (live.map (rnS w)).filterMap (keep1 stSil x) = if isK 98 x = true then [] else live.map (rnS w) := by
  by_cases hb : isK 98 x = true
  · rw [if_pos hb]
    apply List.filterMap_eq_nil_iff.2
    intro r hr
    obtain ⟨e, _, rfl⟩ := List.mem_map.1 hr
    simp [keep1, rnS, showB_sil, hb]
  · rw [if_neg hb]
    conv => rhs; rw [← List.filterMap_some (l := live.map (rnS w))]
    rw [List.filterMap_map, List.filterMap_map]
    congr 1
    funext e
    simp [keep1, rnS, showB_sil, hb]
theorem told_sil (n : Nat) (x : Ev) (live : List Ev) : (live.map (rnS w)).filterMap (told1 n stSil x) = [] := by
  apply List.filterMap_eq_nil_iff.2
  intro r hr
  obtain ⟨e, _, rfl⟩ := List.mem_map.1 hr
  unfold told1
  simp only [rnS, showB_sil]
  split
  · rename_i h; split at h <;> cases h
  · rfl
theorem takeWhile_map_sil (t : Int) : ∀ live : List Ev, (live.map (rnS w)).takeWhile (fun r => r.dl == t) = (live.takeWhile (fun e => e.2.1 + w == t)).map (rnS w) ∧ (live.map (rnS w)).dropWhile (fun r => r.dl == t) = (live.dropWhile (fun e => e.2.1 + w == t)).map (rnS w)
  | [] => ⟨rfl, rfl⟩
  | e :: r => by
    obtain ⟨h1, h2⟩ := takeWhile_map_sil t r
    rw [List.map_cons, List.takeWhile_cons, List.takeWhile_cons, List.dropWhile_cons, List.dropWhile_cons]
    have he : ((rnS w e).dl == t) = (e.2.1 + w == t) := rfl
    rw [he, h1, h2]
    cases (e.2.1 + w == t) <;> exact ⟨rfl, rfl⟩
theorem mem_tw {p : Ev → Bool} : ∀ {l : List Ev} {e : Ev}, e ∈ l.takeWhile p → p e = true
  | [], e, h => by cases h
  | a :: r, e, h => by
    rw [List.takeWhile_cons] at h
    split at h
    · rename_i ha
      rcases List.mem_cons.1 h with rfl | h
      · exact ha
      · exact mem_tw h
    · cases h
theorem head_ge {c : Int} {l : List Ev} (hs : TS l) (h : ∀ e r, l = e :: r → c ≤ e.2.1) : ∀ e ∈ l, c ≤ e.2.1 := by
  cases l with
  | nil => intro e he; cases he
  | cons a r =>
    have ha := h a r rfl
    intro e he
    rcases List.mem_cons.1 he with rfl | he
    · exact ha
    · have := (List.pairwise_cons.1 hs).1 e he; omega
theorem SI.step {l : List Ev} {n : Nat} {M : Int} (hl : TS l) {s : List Ev × List Qy} {d : Deed} (h : SI w l n M s) (hd : firstD s.1 s.2 = some d) (ht : d.time < M) : SI w l n M (doD s d) := by
  obtain ⟨q, P, told, live, h1, h2, h3, h4, h5, h6, h7⟩ := h.ex
  obtain ⟨Bf, qs⟩ := s
  simp only at h1 h2 h6
  subst h1
  have hlive : TS live := by
    have hs : live.Sublist l := by
      refine List.Sublist.trans ?_ (List.Sublist.trans (quietL_sub w P) (by rw [← h2]; exact List.sublist_append_left _ _))
      rw [h3]; exact List.sublist_append_right _ _
    exact List.Pairwise.sublist hs hl
  cases d with
  | rel x =>
    obtain ⟨r, hr⟩ := firstD_rel hd
    simp only at hr
    subst hr
    have hge := first_rel hd
    have hlx : ∀ e ∈ live, x.2.1 ≤ e.2.1 + w := by
      intro e he
      have := head_ge (c := x.2.1 - w) hlive (fun e r hlr => by
        have := hge (rnS w e) (r.map (rnS w)) (by rw [h4, hlr]; rfl)
        have h8 : (rnS w e).dl = e.2.1 + w := rfl
        omega) e he
      omega
    have hx7 : x.2.1 < M := ht
    refine ⟨showQ q x, P ++ [x], told, (if isK 98 x = true then [] else live) ++ (if isK 97 x = true then [x] else []), rfl, ?_, ?_, ?_, h5, fun t ht b hb => h6 t ht b (List.mem_cons_of_mem _ hb), ?_⟩
    · rw [← h2]; simp [doD]
    · rw [quietL_snoc, h3, List.filter_append]
      have e1 : told.filter (hushed w x) = told := List.filter_eq_self.2 (fun t ht => by
        have := h6 t ht x List.mem_cons_self
        simp [hushed]; exact Or.inr (by omega))
      have e2 : live.filter (hushed w x) = if isK 98 x = true then [] else live := by
        by_cases hb : isK 98 x = true
        · rw [if_pos hb]
          apply List.filter_eq_nil_iff.2
          intro e he
          have := hlx e he
          simp [hushed, hb]; omega
        · rw [if_neg hb]
          exact List.filter_eq_self.2 (fun e he => by simp [hushed, hb])
      rw [e1, e2, List.append_assoc]
    · subst h4
      unfold showQ shownQ
      simp only [keep_sil, told_sil, List.append_nil]
      unfold beginQ
      have : List.getD stSil 0 noStep = mustS 97 := rfl
      simp only [this, fits_must]
      by_cases ha : isK 97 x = true
      · rw [if_pos ha, if_pos ha, isK_ab ha]
        simp [stSil, rnS]
      · rw [if_neg ha, if_neg ha, List.append_nil]
        by_cases hb : isK 98 x = true
        · rw [if_pos hb, if_pos hb]; rfl
        · rw [if_neg hb, if_neg hb]
    · intro p hp
      rcases List.mem_append.1 hp with hp | hp
      · exact h7 p hp
      · simp at hp; subst hp; exact hx7
  | fin t =>
    obtain ⟨⟨x, rl, hx, hxt⟩, hB⟩ := first_fin hd
    have htM : t < M := ht
    have hBf : TS Bf := List.Pairwise.sublist (by rw [← h2]; exact List.sublist_append_right _ _) hl
    have hB' : ∀ b ∈ Bf, t < b.2.1 := by
      intro b hb
      have := head_ge (c := t + 1) hBf (fun e r he => by have := hB e (by rw [he]; rfl); omega) b hb
      omega
    obtain ⟨k1, k2⟩ := takeWhile_map_sil w t live
    refine ⟨endQ q t, P, told ++ live.takeWhile (fun e => e.2.1 + w == t), live.dropWhile (fun e => e.2.1 + w == t), rfl, h2, ?_, ?_, ?_, ?_, h7⟩
    · rw [h3, List.append_assoc, List.takeWhile_append_dropWhile]
    · subst h4
      unfold endQ
      simp only [k1, k2, List.map_append]
      congr 1
      rw [List.filter_eq_self.2 (fun r hr => by
        obtain ⟨e, _, rfl⟩ := List.mem_map.1 hr
        rfl), List.map_map]
      congr 1
      apply List.map_congr_left
      intro e he
      have := mem_tw he
      have hh : e.2.1 + w = t := by simpa using this
      simp [mtS, rnS, hh]
    · intro e he
      rcases List.mem_append.1 he with he | he
      · exact h5 e he
      · have := mem_tw he
        have hh : e.2.1 + w = t := by simpa using this
        omega
    · intro e he b hb
      rcases List.mem_append.1 he with he | he
      · exact h6 e he b hb
      · have := mem_tw he
        have hh : e.2.1 + w = t := by simpa using this
        have := hB' b hb
        omega
/-- What a query a !b within w is told up to a watermark. -/
theorem silent_pass {l : List Ev} (n : Nat) (M : Int) (hl : TS l) : (pass M (l, [⟨n, stSil, w, [], []⟩])).2 = [⟨n, stSil, w, ((quietL w (l.filter (fun e => decide (e.2.1 < M)))).filter (fun e => !decide (e.2.1 + w < M))).map (rnS w), ((quietL w (l.filter (fun e => decide (e.2.1 < M)))).filter (fun e => decide (e.2.1 + w < M))).map (mtS w n)⟩] := by
  have hI := pass_ind2 (P := SI w l n M) (wm := M) (fun s d h hd ht => h.step w hl hd ht) _ (l, [⟨n, stSil, w, [], []⟩]) rfl ⟨_, [], [], [], rfl, rfl, rfl, rfl, by simp, by simp, by simp⟩
  have hS := pass_isStill M (l, [⟨n, stSil, w, [], []⟩])
  obtain ⟨q, P, told, live, h1, h2, h3, h4, h5, h6, h7⟩ := hI.ex
  rw [h1, h4]
  have hP : l.filter (fun e => decide (e.2.1 < M)) = P := by
    have e0 := congrArg (List.filter (fun e => decide (e.2.1 < M))) h2
    rw [List.filter_append, List.filter_eq_self.2 (fun p hp => by simpa using h7 p hp)] at e0
    rw [← e0]
    have hB : TS (pass M (l, [⟨n, stSil, w, [], []⟩])).1 := List.Pairwise.sublist (List.sublist_append_right P _) (h2.symm ▸ hl : TS (P ++ _))
    rw [List.filter_eq_nil_iff.2, List.append_nil]
    intro b hb
    have := head_ge (c := M) hB (fun e r he => hS.1 e (by rw [he]; rfl)) b hb
    simp; omega
  have hlive : ∀ e ∈ live, M ≤ e.2.1 + w := by
    have hs : TS live := by
      have hs : live.Sublist l := by
        refine List.Sublist.trans ?_ (List.Sublist.trans (quietL_sub w P) (by rw [← h2]; exact List.sublist_append_left _ _))
        rw [h3]; exact List.sublist_append_right _ _
      exact List.Pairwise.sublist hs hl
    intro e he
    have := head_ge (c := M - w) hs (fun e r hlr => by
      have := hS.2 (e.2.1 + w) (by rw [h1, ml_one, h4, hlr]; rfl)
      omega) e he
    omega
  rw [hP, h3, List.filter_append, List.filter_append]
  rw [List.filter_eq_nil_iff.2 (show ∀ e ∈ told, ¬ (!decide (e.2.1 + w < M)) = true by intro e he; have := h5 e he; simp; omega)]
  rw [List.filter_eq_self.2 (show ∀ e ∈ live, (!decide (e.2.1 + w < M)) = true by intro e he; have := hlive e he; simp; omega)]
  rw [List.filter_eq_self.2 (show ∀ e ∈ told, decide (e.2.1 + w < M) = true by intro e he; have := h5 e he; simp; omega)]
  rw [List.filter_eq_nil_iff.2 (show ∀ e ∈ live, ¬ decide (e.2.1 + w < M) = true by intro e he; have := hlive e he; simp; omega)]
  simp
end
end Go.Lull

namespace Go.Lull
set_option linter.unusedVariables false

/-! ### a b within w, and a within w -/
section
variable (w : Int)
/-- The a's behind the last b. -/
def sinceB : List Ev → List Ev
  | [] => []
  | e :: r => if isK 97 e = true ∧ (∀ x ∈ r, isK 98 x = false) then e :: sinceB r else sinceB r
theorem sinceB_snoc (x : Ev) : ∀ P : List Ev, sinceB (P ++ [x]) = if isK 98 x = true then [] else sinceB P ++ (if isK 97 x = true then [x] else [])
  | [] => by
    by_cases ha : isK 97 x = true
    · simp [sinceB, ha, isK_ab ha]
    · simp [sinceB, ha]
  | e :: r => by
    have ih := sinceB_snoc x r
    rw [List.cons_append]
    unfold sinceB
    by_cases hb : isK 98 x = true
    · rw [if_pos hb] at ih ⊢
      rw [if_neg (fun h => by have := h.2 x (by simp); rw [hb] at this; cases this), ih]
    · rw [if_neg hb] at ih ⊢
      have hb' : isK 98 x = false := by simpa using hb
      by_cases hc : isK 97 e = true ∧ (∀ y ∈ r, isK 98 y = false)
      · rw [if_pos hc, if_pos ⟨hc.1, fun y hy => by
          rcases List.mem_append.1 hy with hy | hy
          · exact hc.2 y hy
          · simp at hy; subst hy; exact hb'⟩, ih]
        rfl
      · rw [if_neg hc, if_neg (fun h => hc ⟨h.1, fun y hy => h.2 y (List.mem_append_left _ hy)⟩), ih]
theorem sinceB_sub : ∀ P : List Ev, (sinceB P).Sublist P
  | [] => List.Sublist.refl _
  | x :: r => by
    unfold sinceB
    split
    · exact (sinceB_sub r).cons_cons x
    · exact (sinceB_sub r).cons x
def inner (x : Ev) (P : List Ev) : List Ev := if isK 98 x = true then (sinceB P).filter (fun e => decide (x.2.1 ≤ e.2.1 + w)) else []
def mtF (n : Nat) (x e : Ev) : Mt := ⟨n, x.2.1, [e, x]⟩
/-- All pairs, in the order of the b's; the events ahead come first. -/
def wantF (n : Nat) : List Ev → List Ev → List Mt
  | P, [] => []
  | P, x :: r => (inner w x P).map (mtF n x) ++ wantF n (P ++ [x]) r
theorem wantF_snoc (n : Nat) (x : Ev) : ∀ (r P : List Ev), wantF w n P (r ++ [x]) = wantF w n P r ++ (inner w x (P ++ r)).map (mtF n x)
  | [], P => by simp [wantF]
  | y :: r, P => by
    rw [List.cons_append]
    simp only [wantF]
    rw [wantF_snoc n x r (P ++ [y]), List.append_assoc, List.append_assoc]
    simp
def stFol : List Stp := [mustS 97, mustS 98]
theorem showB_fol (tk : List Ev) (x : Ev) : showB stFol 1 tk x = if isK 98 x = true then .done (tk ++ [x]) x.2.1 else .stands 1 tk := by
  have h : stFol.getD 1 noStep = mustS 98 := rfl
  unfold showB
  rw [h]
  have hf := fits_must 98 x
  have h1 : (mustS 98).1 = false := rfl
  have h2 : stFol.length = 2 := rfl
  simp only [h1, h2, Bool.false_eq_true, false_and, if_false, h, hf]
  by_cases hb : isK 98 x = true
  · rw [if_pos hb, if_pos hb]; rfl
  · rw [if_neg hb, if_neg hb]; rfl
theorem keep_fol (x : Ev) (live : List Ev) : (live.map (rnS w)).filterMap (keep1 stFol x) = if isK 98 x = true then [] else live.map (rnS w) := by
  by_cases hb : isK 98 x = true
  · rw [if_pos hb]
    apply List.filterMap_eq_nil_iff.2
    intro r hr
    obtain ⟨e, _, rfl⟩ := List.mem_map.1 hr
    simp [keep1, rnS, showB_fol, hb]
  · rw [if_neg hb]
    conv => rhs; rw [← List.filterMap_some (l := live.map (rnS w))]
    rw [List.filterMap_map, List.filterMap_map]
    congr 1
    funext e
    simp [keep1, rnS, showB_fol, hb]
theorem told_fol (n : Nat) (x : Ev) (live : List Ev) : (live.map (rnS w)).filterMap (told1 n stFol x) = if isK 98 x = true then live.map (mtF n x) else [] := by
  by_cases hb : isK 98 x = true
  · rw [if_pos hb]
    rw [List.filterMap_map, ← List.filterMap_eq_map]
    congr 1
    funext e
    simp [told1, rnS, showB_fol, hb, mtF]
  · rw [if_neg hb]
    apply List.filterMap_eq_nil_iff.2
    intro r hr
    obtain ⟨e, _, rfl⟩ := List.mem_map.1 hr
    simp [told1, rnS, showB_fol, hb]
structure FO (l : List Ev) (n : Nat) (s : List Ev × List Qy) : Prop where
  ex : ∃ q P ended live, s.2 = [q] ∧ P ++ s.1 = l ∧ sinceB P = ended ++ live ∧ q = ⟨n, stFol, w, live.map (rnS w), wantF w n [] P⟩ ∧ (∀ t ∈ ended, ∀ b ∈ s.1, t.2.1 + w < b.2.1)
theorem FO.step {l : List Ev} {n : Nat} (hl : TS l) {s : List Ev × List Qy} {d : Deed} (h : FO w l n s) (hd : firstD s.1 s.2 = some d) : FO w l n (doD s d) := by
  obtain ⟨q, P, ended, live, h1, h2, h3, h4, h6⟩ := h.ex
  obtain ⟨Bf, qs⟩ := s
  simp only at h1 h2 h6
  subst h1
  have hlive : TS live := by
    have hs : live.Sublist l := by
      refine List.Sublist.trans ?_ (List.Sublist.trans (sinceB_sub P) (by rw [← h2]; exact List.sublist_append_left _ _))
      rw [h3]; exact List.sublist_append_right _ _
    exact List.Pairwise.sublist hs hl
  cases d with
  | rel x =>
    obtain ⟨r, hr⟩ := firstD_rel hd
    simp only at hr
    subst hr
    have hge := first_rel hd
    have hlx : ∀ e ∈ live, x.2.1 ≤ e.2.1 + w := by
      intro e he
      have := head_ge (c := x.2.1 - w) hlive (fun e r hlr => by
        have := hge (rnS w e) (r.map (rnS w)) (by rw [h4, hlr]; rfl)
        have h8 : (rnS w e).dl = e.2.1 + w := rfl
        omega) e he
      omega
    have hin : inner w x P = if isK 98 x = true then live else [] := by
      unfold inner
      by_cases hb : isK 98 x = true
      · rw [if_pos hb, if_pos hb, h3, List.filter_append]
        rw [List.filter_eq_nil_iff.2 (show ∀ e ∈ ended, ¬ decide (x.2.1 ≤ e.2.1 + w) = true by intro e he; have := h6 e he x List.mem_cons_self; simp; omega)]
        rw [List.filter_eq_self.2 (show ∀ e ∈ live, decide (x.2.1 ≤ e.2.1 + w) = true by intro e he; simpa using hlx e he)]
        rfl
      · rw [if_neg hb, if_neg hb]
    refine ⟨showQ q x, P ++ [x], (if isK 98 x = true then [] else ended), (if isK 98 x = true then [] else live) ++ (if isK 97 x = true then [x] else []), rfl, ?_, ?_, ?_, ?_⟩
    · rw [← h2]; simp [doD]
    · rw [sinceB_snoc, h3]
      by_cases hb : isK 98 x = true
      · have ha : ¬ isK 97 x = true := fun ha => by rw [isK_ab ha] at hb; cases hb
        simp [hb, ha]
      · simp [hb]
    · subst h4
      rw [wantF_snoc, List.nil_append, hin]
      unfold showQ shownQ
      simp only [keep_fol, told_fol]
      unfold beginQ
      have : List.getD stFol 0 noStep = mustS 97 := rfl
      simp only [this, fits_must]
      by_cases ha : isK 97 x = true
      · rw [if_pos ha, if_pos ha, isK_ab ha]
        simp [stFol, rnS]
      · rw [if_neg ha, if_neg ha, List.append_nil]
        by_cases hb : isK 98 x = true
        · simp [hb]
        · simp [hb]
    · intro t ht b hb
      split at ht
      · cases ht
      · exact h6 t ht b (List.mem_cons_of_mem _ hb)
  | fin t =>
    obtain ⟨⟨x, rl, hx, hxt⟩, hB⟩ := first_fin hd
    have hBf : TS Bf := List.Pairwise.sublist (by rw [← h2]; exact List.sublist_append_right _ _) hl
    have hB' : ∀ b ∈ Bf, t < b.2.1 := by
      intro b hb
      have := head_ge (c := t + 1) hBf (fun e r he => by have := hB e (by rw [he]; rfl); omega) b hb
      omega
    obtain ⟨k1, k2⟩ := takeWhile_map_sil w t live
    refine ⟨endQ q t, P, ended ++ live.takeWhile (fun e => e.2.1 + w == t), live.dropWhile (fun e => e.2.1 + w == t), rfl, h2, ?_, ?_, ?_⟩
    · rw [h3, List.append_assoc, List.takeWhile_append_dropWhile]
    · subst h4
      unfold endQ
      simp only [k1, k2]
      congr 1
      rw [List.filter_eq_nil_iff.2 (fun r hr => by
        obtain ⟨e, _, rfl⟩ := List.mem_map.1 hr
        simp [lastNot, rnS, stFol, mustS])]
      simp
    · intro e he b hb
      rcases List.mem_append.1 he with he | he
      · exact h6 e he b hb
      · have := mem_tw he
        have hh : e.2.1 + w = t := by simpa using this
        have := hB' b hb
        omega
/-- What a query a b within w is told in the end. -/
theorem follows_pass {l : List Ev} (n : Nat) (M : Int) (hl : TS l) (hM : ∀ e ∈ l, e.2.1 < M) : ∃ rs, (pass M (l, [⟨n, stFol, w, [], []⟩])).2 = [⟨n, stFol, w, rs, wantF w n [] l⟩] := by
  have hI := pass_ind (P := FO w l n) (wm := M) (fun s d h hd => h.step w hl hd) _ (l, [⟨n, stFol, w, [], []⟩]) rfl ⟨_, [], [], [], rfl, rfl, rfl, rfl, by simp⟩
  obtain ⟨q, P, ended, live, h1, h2, h3, h4, h6⟩ := hI.ex
  have hB : (pass M (l, [⟨n, stFol, w, [], []⟩])).1 = [] := by
    rw [pass_buf]
    have : ∀ l : List Ev, (∀ e ∈ l, e.2.1 < M) → l.dropWhile (fun e => decide (e.2.1 < M)) = [] := by
      intro l
      induction l with
      | nil => intro _; rfl
      | cons a r ih => intro h; rw [List.dropWhile_cons_of_pos (by simpa using h a List.mem_cons_self)]; exact ih (fun e he => h e (List.mem_cons_of_mem _ he))
    exact this l hM
  rw [hB, List.append_nil] at h2
  subst h2
  exact ⟨_, by rw [h1, h4]⟩
def stAl : List Stp := [mustS 97]
structure FA (l : List Ev) (n : Nat) (s : List Ev × List Qy) : Prop where
  ex : ∃ P, P ++ s.1 = l ∧ s.2 = [⟨n, stAl, w, [], (P.filter (isK 97)).map (fun e => ⟨n, e.2.1, [e]⟩)⟩]
theorem FA.step {l : List Ev} {n : Nat} {s : List Ev × List Qy} {d : Deed} (h : FA w l n s) (hd : firstD s.1 s.2 = some d) : FA w l n (doD s d) := by
  obtain ⟨P, h2, h1⟩ := h.ex
  obtain ⟨Bf, qs⟩ := s
  simp only at h1 h2
  subst h1
  cases d with
  | rel x =>
    obtain ⟨r, hr⟩ := firstD_rel hd
    simp only at hr
    subst hr
    refine ⟨P ++ [x], by rw [← h2]; simp [doD], ?_⟩
    show [showQ _ x] = _
    unfold showQ shownQ beginQ
    have : List.getD stAl 0 noStep = mustS 97 := rfl
    simp only [this, fits_must, List.filterMap_nil, List.append_nil]
    by_cases ha : isK 97 x = true
    · rw [if_pos ha, if_pos (by rfl)]
      simp [ha]
    · rw [if_neg ha]
      simp [ha]
  | fin t =>
    refine ⟨P, h2, ?_⟩
    show [endQ _ t] = _
    rw [endQ_same (by intro r l h; cases h)]
theorem alone_pass {l : List Ev} (n : Nat) (M : Int) (hM : ∀ e ∈ l, e.2.1 < M) : (pass M (l, [⟨n, stAl, w, [], []⟩])).2 = [⟨n, stAl, w, [], (l.filter (isK 97)).map (fun e => ⟨n, e.2.1, [e]⟩)⟩] := by
  have hI := pass_ind (P := FA w l n) (wm := M) (fun s d h hd => h.step w hd) _ (l, [⟨n, stAl, w, [], []⟩]) rfl ⟨[], rfl, rfl⟩
  obtain ⟨P, h2, h1⟩ := hI.ex
  have hB : (pass M (l, [⟨n, stAl, w, [], []⟩])).1 = [] := by
    rw [pass_buf]
    have : ∀ l : List Ev, (∀ e ∈ l, e.2.1 < M) → l.dropWhile (fun e => decide (e.2.1 < M)) = [] := by
      intro l
      induction l with
      | nil => intro _; rfl
      | cons a r ih => intro h; rw [List.dropWhile_cons_of_pos (by simpa using h a List.mem_cons_self)]; exact ih (fun e he => h e (List.mem_cons_of_mem _ he))
    exact this l hM
  rw [hB, List.append_nil] at h2
  subst h2
  exact h1
end

/-! ### All that is drained of one query -/
theorem drainE_of : ∀ (n : Nat) (s : En), NR s.qs → FQ s.qs → totF s.qs ≤ n → ∀ q ∈ s.qs, (drainE n s).1.filter (fun m => m.q == q.num) = q.found
  | 0, s, hn, hf, h, q, hq => by
    have := totF_mem hq
    have : q.found = [] := List.eq_nil_of_length_eq_zero (by omega)
    rw [this]; rfl
  | n + 1, s, hn, hf, h, q, hq => by
    cases hs : serveE s with
    | none =>
      rw [drainE_none hs, serveE_none hs q hq]; rfl
    | some x =>
      obtain ⟨m, s'⟩ := x
      rw [drainE_some hs]
      obtain ⟨h1, h2, h3⟩ := serveE_tot hs hn hf
      obtain ⟨q0, hq0, k1, k2, k3, _⟩ := serveE_to hs hf
      have ih := drainE_of n s' h2 h3 (by omega)
      have hmem : (if q.num = m.q then { q with found := q.found.tail } else q) ∈ s'.qs := by
        rw [k3]; exact List.mem_map.2 ⟨q, hq, rfl⟩
      have ih' := ih _ hmem
      have e2 : (if q.num = m.q then { q with found := q.found.tail } else q).num = q.num := by split <;> rfl
      rw [e2] at ih'
      by_cases e : q.num = m.q
      · have hqq : q = q0 := by
          have hw := wq_mem hn hq
          -- numbers rise: one query a number
          have : ∀ (l : List Qy), NR l → ∀ a ∈ l, ∀ b ∈ l, a.num = b.num → a = b := by
            intro l
            induction l with
            | nil => intro _ a ha; cases ha
            | cons c r ih2 =>
              intro hl a ha b hb hab
              have hc := List.pairwise_cons.1 hl
              rcases List.mem_cons.1 ha with ha | ha
              · rcases List.mem_cons.1 hb with hb | hb
                · rw [ha, hb]
                · have := hc.1 b hb; rw [ha] at hab; omega
              · rcases List.mem_cons.1 hb with hb | hb
                · have := hc.1 a ha; rw [hb] at hab; omega
                · exact ih2 hc.2 a ha b hb hab
          exact this s.qs hn q hq q0 hq0 (by omega)
        subst hqq
        rw [if_pos e] at ih'
        rw [List.filter_cons_of_pos (by simp [e]), ih']
        cases hfo : q.found with
        | nil => rw [hfo] at k2; cases k2
        | cons a b => rw [hfo] at k2; cases k2; rfl
      · rw [if_neg e] at ih'
        rw [List.filter_cons_of_neg (by simp; omega), ih']
end Go.Lull
