import Derived.Test.YtbgfannlfagoiaaGreatDoorZ06
import Derived.Test.YtbgfannlfagoiaaGreatDoorZ04
import Derived.Deep.AppendLies
import Derived.Deep.RegionHeld3
import Derived.Deep.QuietTactic
import Derived.BigQuiet
import Derived.Test.YtbgfannlfagoiaaGreatDoorZ01
import Derived.Lib.Split
import Derived.Lib.SplitLaws
import Derived.Test.YtbgfannlfagoiaaGreatDoorZ02
import Derived.Test.YtbgfannlfagoiaaGreatDoorZ05
namespace Go.Proofs.YtbgfannlfagoiaaGreatDoor
open Go.RowKit Go.Lull
set_option linter.unusedVariables false


/-- Steps in memory, at block sb. -/
structure SR (w : World) (sb : Nat) (steps : List Stp) : Prop where
 lt : sb < w.heap.size
 c0 : ∀ k, k < steps.length → w.cell? ⟨sb, k * 4, none⟩ = some (.bool (steps.getD k noStep).1)
 c1 : ∀ k, k < steps.length → w.cell? ⟨sb, k * 4 + 1, none⟩ = some (.int .u8 (steps.getD k noStep).2.1.toNat)
 c2 : ∀ k, k < steps.length → w.cell? ⟨sb, k * 4 + 2, none⟩ = some (.int .u8 (steps.getD k noStep).2.2.1.toNat)
 c3 : ∀ k, k < steps.length → w.cell? ⟨sb, k * 4 + 3, none⟩ = some (.int .i64 (steps.getD k noStep).2.2.2)
/-- Events in memory, at block lb. -/
structure ER (w : World) (lb : Nat) (l : List Ev) : Prop where
 lt : lb < w.heap.size
 c0 : ∀ k, k < l.length → w.cell? ⟨lb, k * 4, none⟩ = some (.int .i64 (l.getD k noEv).1)
 c1 : ∀ k, k < l.length → w.cell? ⟨lb, k * 4 + 1, none⟩ = some (.int .i64 (l.getD k noEv).2.1)
 c2 : ∀ k, k < l.length → w.cell? ⟨lb, k * 4 + 2, none⟩ = some (.int .u8 (l.getD k noEv).2.2.1.toNat)
 c3 : ∀ k, k < l.length → w.cell? ⟨lb, k * 4 + 3, none⟩ = some (.int .i64 (l.getD k noEv).2.2.2)
theorem SR.below {w w' : World} {sb B : Nat} {steps : List Stp} (h : SR w sb steps) (hb : Below B w w') (hB : sb < B) : SR w' sb steps :=
 ⟨Nat.lt_of_lt_of_le h.lt hb.size, fun k hk => (hb.cell (p := ⟨sb, _, none⟩) hB).trans (h.c0 k hk), fun k hk => (hb.cell (p := ⟨sb, _, none⟩) hB).trans (h.c1 k hk), fun k hk => (hb.cell (p := ⟨sb, _, none⟩) hB).trans (h.c2 k hk), fun k hk => (hb.cell (p := ⟨sb, _, none⟩) hB).trans (h.c3 k hk)⟩
theorem ER.below {w w' : World} {sb B : Nat} {steps : List Ev} (h : ER w sb steps) (hb : Below B w w') (hB : sb < B) : ER w' sb steps :=
 ⟨Nat.lt_of_lt_of_le h.lt hb.size, fun k hk => (hb.cell (p := ⟨sb, _, none⟩) hB).trans (h.c0 k hk), fun k hk => (hb.cell (p := ⟨sb, _, none⟩) hB).trans (h.c1 k hk), fun k hk => (hb.cell (p := ⟨sb, _, none⟩) hB).trans (h.c2 k hk), fun k hk => (hb.cell (p := ⟨sb, _, none⟩) hB).trans (h.c3 k hk)⟩


def PathPost (w : World) (r : List Ev × Int × Bool × Bool) (e : Ending) (w' : World) : Prop :=
 ∃ a c, e = .returned (.tuple #[.slice a r.1.length c, .int .i64 r.2.1, .bool r.2.2.1, .bool r.2.2.2]) ∧ Below w.heap.size w w' ∧ w'.ownsRow w.heap.size 75 4 (.slice a r.1.length c) r.1.length (r.1.flatMap evC)




section
variable {steps : List Stp} {k : Nat} {taken : List Ev} {e : Ev} {a b c : UInt8} {n : Int} {y : Stp}
theorem show_dead (hx : steps.getD k noStep = (true, a, b, n)) (hf : fitsB (true, a, b, n) e = true) : showB steps k taken e = .dead := by
 unfold showB; rw [hx, if_pos ⟨rfl, hf⟩]
theorem show_last (hx : steps.getD k noStep = (true, a, b, n)) (hf : fitsB (true, a, b, n) e = false) (hk : k + 1 = steps.length) : showB steps k taken e = .stands k taken := by
 unfold showB; rw [hx, if_neg (by rw [hf]; simp)]
 show (if k + 1 = steps.length then _ else _) = _
 rw [if_pos hk]
theorem show_pass (hx : steps.getD k noStep = (true, a, b, n)) (hf : fitsB (true, a, b, n) e = false) (hk : k + 1 ≠ steps.length) (hy : steps.getD (k + 1) noStep = y) (hf2 : fitsB y e = false) : showB steps k taken e = .stands k taken := by
 unfold showB; rw [hx, if_neg (by rw [hf]; simp)]
 show (if k + 1 = steps.length then _ else if fitsB (steps.getD (k + 1) noStep) e = true then _ else _) = _
 rw [if_neg hk, hy, hf2]; rfl
theorem show_take (hx : steps.getD k noStep = (true, a, b, n)) (hf : fitsB (true, a, b, n) e = false) (hk : k + 1 ≠ steps.length) (hy : steps.getD (k + 1) noStep = y) (hf2 : fitsB y e = true) : showB steps k taken e = if k + 2 = steps.length then .done (taken ++ [e]) e.2.1 else .stands (k + 2) (taken ++ [e]) := by
 unfold showB; rw [hx, if_neg (by rw [hf]; simp)]
 show (if k + 1 = steps.length then _ else if fitsB (steps.getD (k + 1) noStep) e = true then _ else _) = _
 rw [if_neg hk, hy, hf2]; rfl
theorem show_miss (hx : steps.getD k noStep = (false, a, b, n)) (hf : fitsB (false, a, b, n) e = false) (hk : k ≠ steps.length) : showB steps k taken e = .stands k taken := by
 unfold showB; rw [hx, if_neg (by simp)]
 show (if k = steps.length then _ else if fitsB (steps.getD k noStep) e = true then _ else _) = _
 rw [if_neg hk, hx, hf]; rfl
theorem show_hit (hx : steps.getD k noStep = (false, a, b, n)) (hf : fitsB (false, a, b, n) e = true) (hk : k ≠ steps.length) : showB steps k taken e = if k + 1 = steps.length then .done (taken ++ [e]) e.2.1 else .stands (k + 1) (taken ++ [e]) := by
 unfold showB; rw [hx, if_neg (by simp)]
 show (if k = steps.length then _ else if fitsB (steps.getD k noStep) e = true then _ else _) = _
 rw [if_neg hk, hx, hf]; rfl
end

theorem evC_one (x : Ev) : ∀ u ∈ evC x, u.oneCell' = true := by
 intro u hu
 simp [evC] at hu
 rcases hu with rfl | rfl | rfl | rfl <;> rfl
theorem evC_at (w : World) (x : Ev) (T n : Nat) (hn : n = w.heap.size) : ∀ j u, (evC x)[j]? = some u → (w.alloc (.cells #[.int .i64 x.1, .int .i64 x.2.1, .int .u8 x.2.2.1.toNat, .int .i64 x.2.2.2] T)).cell? ((⟨n, 0, none⟩ : Addr).add j) = some u := by
 intro j u h
 subst hn
 match j, h with
 | 0, h => simp [evC] at h; subst h; simp [Addr.add]
 | 1, h => simp [evC] at h; subst h; simp [Addr.add]
 | 2, h => simp [evC] at h; subst h; simp [Addr.add]
 | 3, h => simp [evC] at h; subst h; simp [Addr.add]
 | j + 4, h => simp [evC] at h


/-- append of one event. -/
theorem append_ev (w : World) {ops : Array Oper} {rest : List Oper} {o : Oper} {a : Act} {Q : Exit → Act → World → Prop} (hgd : o.guard = none) (s x : Operand)
  (ho : o.op = .call { callee := .builtin .append, args := #[s, x], argTypes := #[39, 39] })
  (base : Nat) (v : Value) (n : Nat) (xs : List Value) (hs : a.eval s = v) (hown : w.ownsRow base 75 4 v n xs)
  (ad : Addr) (news : List Value) (hx : a.eval x = .slice (some ad) 1 1) (hl : news.length = 1 * 4) (hnews : ∀ j u, news[j]? = some u → w.cell? (ad.add j) = some u) (h1 : ∀ u ∈ news, u.oneCell' = true)
  (hn : n ≤ 1048576) (hbase : base ≤ w.heap.size)
  (h : ∀ g cap w', w'.ownsRow base 75 4 (.slice (some ⟨g, 0, none⟩) (n + 1) cap) (n + 1) (xs ++ news) → w.grownBy w' v.ownBlock → wpList Tryz.prog ops Q rest (a.put o.dst (.slice (some ⟨g, 0, none⟩) (n + 1) cap)) w') :
  wpList Tryz.prog ops Q (o :: rest) a w := by
 obtain ⟨i0, hi, hz0, hz1, hz2⟩ := info_parts Tryz.infoEv
 exact wpList_append_lies w hgd s x 39 ho base 75 i0 _ 4 32 Tryz.underlying39 hi hz0 hz1 hz2 rfl (by decide) v n xs hs hown ad 1 1 news hx hl hnews h1 (by decide) (by unfold maxLen; omega) (by omega) hbase _ rfl
  (fun g cap w' h2 h3 _ _ => h g cap w' h2 h3)
end Go.Proofs.YtbgfannlfagoiaaGreatDoor

namespace Go.Lull
open Go.Lib

/-- What a reader holds. -/
abbrev St := List Stp × Int × Nat

/-- The next word. -/
def takeB (st : St) (l : List UInt8) : Option St :=
 if st.2.2 = 0 then (if l = [119, 105, 116, 104, 105, 110] then (if st.1 = [] then none else some (st.1, st.2.1, 1)) else
  match stepB l with | some x => if mayB st.1 x = true then some (st.1 ++ [x], st.2.1, 0) else none | none => none)
 else if st.2.2 = 1 then (match numB 1000 l with | some n => some (st.1, (n : Int), 2) | none => none)
 else none

theorem takeB_len {st st' : St} {l : List UInt8} (h : takeB st l = some st') (hn : st.1.length ≤ 8) : st'.1.length ≤ 8 := by
 unfold takeB at h
 split at h
 ·split at h
  ·split at h
   ·cases h
   ·cases h; exact hn
  ·split at h
   ·split at h
    ·rename_i hm
     cases h
     simp [mayB] at hm
     simp; omega
    ·cases h
   ·cases h
 ·split at h
  ·split at h
   ·cases h; exact hn
   ·cases h
  ·cases h


def wordOf (l : List UInt8) : List UInt8 := l.takeWhile (· != 32)
def restOf (l : List UInt8) : Option (List UInt8) := match l.dropWhile (· != 32) with | [] => none | _ :: r => some r

theorem index32 : ∀ l : List UInt8, (index l [32] = -1 ∧ restOf l = none ∧ wordOf l = l) ∨ (∃ i : Nat, index l [32] = i ∧ i < l.length ∧ wordOf l = l.take i ∧ restOf l = some (l.drop (i + 1)))
 | [] => Or.inl ⟨rfl, rfl, rfl⟩
 | b :: l => by
  by_cases hb : b = 32
  ·subst hb
   exact Or.inr ⟨0, by simp [index, List.isPrefixOf], by simp, by simp [wordOf], by simp [restOf]⟩
  ·have h1 : (32 == b) = false := beq_false_of_ne (fun e => hb e.symm)
   have h2 : (b != 32) = true := by simp [hb]
   have hw : wordOf (b :: l) = b :: wordOf l := by simp [wordOf, h2]
   have hr : restOf (b :: l) = restOf l := by simp [restOf, h2]
   have hi : index (b :: l) [32] = if index l [32] == -1 then -1 else index l [32] + 1 := by
    rw [index]; simp [List.isPrefixOf, h1]
   rcases index32 l with ⟨e1, e2, e3⟩ | ⟨i, e1, e4, e2, e3⟩
   ·refine Or.inl ⟨?_, by rw [hr, e2], by rw [hw, e3]⟩
    rw [hi, e1]; rfl
   ·refine Or.inr ⟨i + 1, ?_, by simp; omega, by rw [hw, e2]; rfl, by rw [hr, e3]; rfl⟩
    rw [hi, e1, if_neg (by simp)]; rfl

def words (l : List UInt8) : List (List UInt8) := split l [32]

theorem words_none {l : List UInt8} (h : restOf l = none) : words l = [wordOf l] := by
 rcases index32 l with ⟨e1, e2, e3⟩ | ⟨i, e1, e4, e2, e3⟩
 ·unfold words split
  rw [count_miss e1, e3]; rfl
 ·rw [h] at e3; cases e3
theorem words_some {l r : List UInt8} (h : restOf l = some r) : words l = wordOf l :: words r := by
 rcases index32 l with ⟨e1, e2, e3⟩ | ⟨i, e1, e4, e2, e3⟩
 ·rw [h] at e2; cases e2
 ·rw [h] at e3
  obtain rfl := Option.some.inj e3
  have e5 : count l [32] = count (l.drop (i + 1)) [32] + 1 := (count_hit (s := l) (sub := [32]) (by simp) e1).trans (Nat.add_comm _ _)
  unfold words split
  rw [e5, splitK, if_neg (by rw [e1]; simp), e1, e2]
  rfl

theorem wordOf_le (l : List UInt8) : (wordOf l).length ≤ l.length := List.Sublist.length_le (List.takeWhile_sublist _)
theorem words_le : ∀ (n : Nat) (l : List UInt8), l.length ≤ n → ∀ x ∈ words l, x.length ≤ l.length := by
 intro n
 induction n with
 | zero =>
  intro l h x hx
  cases hr : restOf l with
  | none => rw [words_none hr, List.mem_singleton] at hx; subst hx; exact wordOf_le l
  | some r =>
   rcases index32 l with ⟨e1, e2, e3⟩ | ⟨i, e1, e4, e2, e3⟩
   ·rw [hr] at e2; cases e2
   ·omega
 | succ n ih =>
  intro l h x hx
  cases hr : restOf l with
  | none => rw [words_none hr, List.mem_singleton] at hx; subst hx; exact wordOf_le l
  | some r =>
   rcases index32 l with ⟨e1, e2, e3⟩ | ⟨i, e1, e4, e2, e3⟩
   ·rw [hr] at e2; cases e2
   ·rw [words_some hr, List.mem_cons] at hx
    rw [hr] at e3
    obtain rfl := Option.some.inj e3
    rcases hx with rfl | hx
    ·exact wordOf_le l
    ·have := ih (l.drop (i + 1)) (by simp; omega) x hx
     simp at this; omega

/-- The words one behind the other: the place of the first that can't stand, or what was read. -/
def runW : St → Nat → List (List UInt8) → Nat ⊕ St
 | st, _, [] => .inr st
 | st, p, l :: r => match takeB st l with | none => .inl p | some st' => runW st' (p + l.length + 1) r

/-- A text: the place of what can't stand, or the pattern. -/
def resB (l : List UInt8) : Nat ⊕ St :=
 if 100 < l.length then .inl 0 else match runW ([], 0, 0) 0 (words l) with | .inl p => .inl p | .inr st => if st.2.2 = 2 then .inr st else .inl l.length

end Go.Lull

namespace Go.Lull
set_option linter.unusedVariables false

/-- What may be of what a reader holds. -/
structure StOk (st : St) : Prop where
 alt : altB st.1
 len : st.1.length ≤ 8
 some_ : st.2.2 ≠ 0 → st.1 ≠ []
 w0 : 0 ≤ st.2.1
 w1 : st.2.1 ≤ 1000
theorem StOk.start : StOk ([], 0, 0) := ⟨trivial, Nat.zero_le _, fun h => absurd rfl h, Int.le_refl _, by decide⟩
theorem StOk.take {st st' : St} {l : List UInt8} (h : StOk st) (ht : takeB st l = some st') : StOk st' := by
 have hlen := takeB_len ht h.len
 unfold takeB at ht
 split at ht
 ·rename_i h0
  split at ht
  ·split at ht
   ·cases ht
   ·rename_i hne
    cases ht
    exact ⟨h.alt, h.len, fun _ => hne, h.w0, h.w1⟩
  ·split at ht
   ·split at ht
    ·rename_i x hx hm
     cases ht
     refine ⟨altB_snoc _ _ h.alt (fun hb => ?_), hlen, fun hh => absurd rfl hh, h.w0, h.w1⟩
     simp [mayB] at hm
     rcases hm.2 with h2 | h2
     ·rw [hb] at h2; cases h2
     ·exact h2
    ·cases ht
   ·cases ht
 ·rename_i h0
  split at ht
  ·split at ht
   ·rename_i n hn
    cases ht
    have := numB_le hn
    exact ⟨h.alt, h.len, fun _ => h.some_ h0, by simp, by simp; omega⟩
   ·cases ht
  ·cases ht
theorem StOk.run : ∀ (ws : List (List UInt8)) {st st' : St} {p : Nat}, StOk st → runW st p ws = .inr st' → StOk st'
 | [], st, st', p, h, hr => by cases hr; exact h
 | l :: r, st, st', p, h, hr => by
  unfold runW at hr
  cases ht : takeB st l with
  | none => rw [ht] at hr; cases hr
  | some s2 => rw [ht] at hr; exact StOk.run r (h.take ht) hr
theorem resB_ok {l : List UInt8} {st : St} (h : resB l = .inr st) : StOk st ∧ st.2.2 = 2 := by
 unfold resB at h
 split at h
 ·cases h
 ·split at h
  ·cases h
  ·rename_i s2 hs
   split at h
   ·rename_i h2
    cases h
    exact ⟨StOk.start.run _ hs, h2⟩
   ·cases h

/-- All texts: the place in the first that is no pattern, or the patterns. -/
def resAll : List (List UInt8) → Nat ⊕ List St
 | [] => .inr []
 | l :: r => match resB l with
  | .inl p => .inl p
  | .inr st => match resAll r with
   | .inl p => .inl p
   | .inr sts => .inr (st :: sts)
theorem resAll_bad {l : List UInt8} {r : List (List UInt8)} {p : Nat} (h : resB l = .inl p) : resAll (l :: r) = .inl p := by simp [resAll, h]
theorem resAll_good {l : List UInt8} {r : List (List UInt8)} {st : St} (h : resB l = .inr st) : resAll (l :: r) = match resAll r with | .inl p => .inl p | .inr sts => .inr (st :: sts) := by simp [resAll, h]
theorem resAll_len : ∀ {ls : List (List UInt8)} {sts : List St}, resAll ls = .inr sts → sts.length = ls.length
 | [], sts, h => by cases h; rfl
 | l :: r, sts, h => by
  cases hl : resB l with
  | inl p => rw [resAll_bad hl] at h; cases h
  | inr st =>
   rw [resAll_good hl] at h
   cases hr : resAll r with
   | inl p => rw [hr] at h; cases h
   | inr s2 => rw [hr] at h; cases h; simp [resAll_len hr]
theorem resAll_ok : ∀ {ls : List (List UInt8)} {sts : List St}, resAll ls = .inr sts → ∀ st ∈ sts, StOk st ∧ st.2.2 = 2
 | [], sts, h, st, hs => by cases h; cases hs
 | l :: r, sts, h, st, hs => by
  cases hl : resB l with
  | inl p => rw [resAll_bad hl] at h; cases h
  | inr s1 =>
   rw [resAll_good hl] at h
   cases hr : resAll r with
   | inl p => rw [hr] at h; cases h
   | inr s2 =>
    rw [hr] at h
    cases h
    rcases List.mem_cons.1 hs with rfl | hs
    ·exact resB_ok hl
    ·exact resAll_ok hr st hs

def newQs (n : Nat) : List St → List Qy
 | [] => []
 | st :: r => ⟨n, st.1, st.2.1, [], []⟩ :: newQs (n + 1) r
theorem newQs_snoc : ∀ (l : List St) (n : Nat) (st : St), newQs n (l ++ [st]) = newQs n l ++ [⟨n + l.length, st.1, st.2.1, [], []⟩]
 | [], n, st => rfl
 | s :: l, n, st => by
  show _ :: newQs (n + 1) (l ++ [st]) = _ :: newQs (n + 1) l ++ _
  rw [newQs_snoc l (n + 1) st, List.length_cons]
  simp; omega
theorem newQs_len : ∀ (l : List St) (n : Nat), (newQs n l).length = l.length
 | [], n => rfl
 | s :: l, n => by show (newQs (n + 1) l).length + 1 = _; rw [newQs_len l]; rfl
/-- Register: the error, the place, how many, what is then. -/
def regE (s : En) (ts : List (List UInt8)) : Nat × Nat × Nat × En :=
 match resAll ts with
 | .inl p => (2, p, 0, s)
 | .inr ps => if 10 < s.qs.length + ps.length then (3, 0, 0, s) else (0, 0, ps.length, { s with qs := s.qs ++ newQs s.next ps, next := s.next + ps.length })
theorem newQs_num : ∀ (l : List St) (n : Nat), ∀ q ∈ newQs n l, n ≤ q.num ∧ q.num < n + l.length ∧ q.found = [] ∧ q.runs = []
 | [], n, q, h => by cases h
 | s :: l, n, q, h => by
  rcases List.mem_cons.1 h with rfl | h
  ·exact ⟨Nat.le_refl _, by simp, rfl, rfl⟩
  ·obtain ⟨h1, h2, h3, h4⟩ := newQs_num l (n + 1) q h
   exact ⟨by omega, by simp; omega, h3, h4⟩
theorem newQs_nr : ∀ (l : List St) (n : Nat), NR (newQs n l)
 | [], n => List.Pairwise.nil
 | s :: l, n => List.pairwise_cons.2 ⟨fun q hq => by have := newQs_num l (n + 1) q hq; show n < q.num; omega, newQs_nr l (n + 1)⟩
end Go.Lull

namespace Go.Lull
set_option linter.unusedVariables false

/-- How much a query can hold. -/
def SZk (N : Nat) (s : List Ev × List Qy) : Prop := ∀ q ∈ s.2, q.found.length + q.runs.length + s.1.length ≤ N
theorem SZk.step {N : Nat} {s : List Ev × List Qy} {d : Deed} (h : SZk N s) (hd : firstD s.1 s.2 = some d) : SZk N (doD s d) := by
 cases d with
 | rel e =>
  obtain ⟨r, hr⟩ := firstD_rel hd
  intro q hq
  obtain ⟨x, hx, rfl⟩ := List.mem_map.1 hq
  have h1 := show_size x e
  have h2 := h x hx
  rw [hr] at h2
  show (showQ x e).found.length + (showQ x e).runs.length + s.1.tail.length ≤ N
  rw [hr]
  simp only [List.length_cons, List.tail_cons] at *
  omega
 | fin t =>
  intro q hq
  obtain ⟨x, hx, rfl⟩ := List.mem_map.1 hq
  have h1 := end_size x t
  have h2 := h x hx
  show (endQ x t).found.length + (endQ x t).runs.length + s.1.length ≤ N
  omega
theorem SZk.pass {N : Nat} {s : List Ev × List Qy} {wm : Int} (h : SZk N s) : SZk N (Go.Lull.pass wm s) := pass_ind (P := SZk N) (fun _ _ h hf => h.step hf) _ s rfl h
theorem pass_le {wm : Int} (s : List Ev × List Qy) : (Go.Lull.pass wm s).1.length ≤ s.1.length := by
 rw [pass_buf]; exact List.Sublist.length_le (List.dropWhile_sublist _)

/-- What is so of an Engine that was offered at most n events. -/
structure SO (n : Nat) (s : En) : Prop where
 m3 : s.marks.length = 3
 sb : SB s.buf
 tm : TM s.buf
 sz : SZk n (s.buf, s.qs)
 bl : s.buf.length ≤ n
 nr : NR s.qs
 ql : s.qs.length ≤ 3
 fq : FQ s.qs
theorem SO.mono {n m : Nat} {s : En} (h : SO n s) (hn : n ≤ m) : SO m s := ⟨h.m3, h.sb, h.tm, fun q hq => Nat.le_trans (h.sz q hq) hn, Nat.le_trans h.bl hn, h.nr, h.ql, h.fq⟩
theorem take_ok {s : En} {e : Ev} (hp : properB s.marks.length e = true) (hl : ¬ e.2.1 < markB s.marks) (hb : s.buf.length < 60) : takeE s e = (0, { s with buf := putB s.buf e }) := by
 unfold takeE; rw [if_pos hp, if_neg hl, if_neg (by omega)]
theorem take_late {s : En} {e : Ev} (hp : properB s.marks.length e = true) (hl : e.2.1 < markB s.marks) : takeE s e = (5, s) := by
 unfold takeE; rw [if_pos hp, if_pos hl]
theorem offer_ok {s : En} {e : Ev} (hp : properB s.marks.length e = true) (hl : ¬ e.2.1 < markB s.marks) (hb : s.buf.length < 60) : offerE s [e] = (1, 0, { s with buf := putB s.buf e }) := by
 rw [offerE_ok (by rw [take_ok hp hl hb]), take_ok hp hl hb]; rfl
theorem offer_late {s : En} {e : Ev} (hp : properB s.marks.length e = true) (hl : e.2.1 < markB s.marks) : offerE s [e] = (0, 5, s) := by
 rw [offerE_no (by rw [take_late hp hl]; show (5 : Nat) ≠ 0; omega), take_late hp hl]
theorem SO.put {n : Nat} {s : En} {e : Ev} (h : SO n s) (h0 : 0 ≤ e.2.1) (h1 : e.2.1 ≤ 1000000) : SO (n + 1) { s with buf := putB s.buf e } := by
 refine ⟨h.m3, h.sb.put e, h.tm.put h0 h1, ?_, ?_, h.nr, h.ql, h.fq⟩
 ·intro q hq
  have := h.sz q hq
  show q.found.length + q.runs.length + (putB s.buf e).length ≤ n + 1
  rw [put_len]
  simp only at this
  omega
 ·show (putB s.buf e).length ≤ n + 1
  rw [put_len]; have := h.bl; omega
theorem beat_cases (s : En) (a t : Int) : (beatE s a t).2 = s ∨ (beatE s a t).2 = { s with marks := s.marks.set a.toNat t, buf := (pass (markB (s.marks.set a.toNat t)) (s.buf, s.qs)).1, qs := (pass (markB (s.marks.set a.toNat t)) (s.buf, s.qs)).2 } := by
 unfold beatE
 split
 ·exact Or.inl rfl
 ·split
  ·exact Or.inl rfl
  ·exact Or.inr rfl
theorem SO.beat {n : Nat} {s : En} (h : SO n s) (a t : Int) : SO n (beatE s a t).2 := by
 rcases beat_cases s a t with e | e
 ·rw [e]; exact h
 ·rw [e]
  refine ⟨by simpa using h.m3, SB.pass h.sb, TM.pass h.tm, SZk.pass h.sz, Nat.le_trans (pass_le _) h.bl, NR.pass h.nr, by rw [pass_len]; exact h.ql, FQ.pass h.fq⟩
theorem SO.z {n : Nat} {s : En} (h : SO n s) (hn : n ≤ 1000) : SZ (s.buf, s.qs) := fun q hq => by have := h.sz q hq; omega
theorem tot_le : ∀ (qs : List Qy) (n : Nat), (∀ q ∈ qs, q.found.length ≤ n) → totF qs ≤ qs.length * n
 | [], n, _ => by simp [totF]
 | q :: qs, n, h => by
  have h1 := tot_le qs n (fun x hx => h x (List.mem_cons_of_mem _ hx))
  have h2 := h q List.mem_cons_self
  show q.found.length + totF qs ≤ (qs.length + 1) * n
  rw [Nat.add_mul]; omega
theorem SO.tot {n : Nat} {s : En} (h : SO n s) : totF s.qs ≤ 3 * n := by
 have h1 := tot_le s.qs n (fun q hq => by have := h.sz q hq; omega)
 have h2 := h.ql
 exact Nat.le_trans h1 (Nat.mul_le_mul_right _ h2)
/-- The answer of a beat that may be. -/
theorem beat_ans {s : En} (h3 : s.marks.length = 3) {a t : Int} (ha : 0 ≤ a) (ha3 : a < 3) (ht : 0 ≤ t) (ht2 : t ≤ 2000000) : (beatE s a t).1 = 0 ∨ (beatE s a t).1 = 5 := by
 unfold beatE
 rw [if_neg (by omega)]
 split
 ·exact Or.inr rfl
 ·exact Or.inl rfl
/-- A match holds few events. -/
def EQk (n : Nat) (q : Qy) : Prop := (∀ r ∈ q.runs, r.tk.length ≤ n) ∧ (∀ m ∈ q.found, m.evs.length ≤ n)
end Go.Lull

namespace Go.Lull
set_option linter.unusedVariables false

theorem fold_le : ∀ (l : List Int) (a : Int), l.foldl lessI a ≤ a ∧ ∀ x ∈ l, l.foldl lessI a ≤ x
 | [], a => ⟨Int.le_refl _, fun x hx => by cases hx⟩
 | y :: l, a => by
  obtain ⟨h1, h2⟩ := fold_le l (lessI a y)
  have h3 : lessI a y ≤ a ∧ lessI a y ≤ y := by unfold lessI; split <;> omega
  rw [List.foldl_cons]
  refine ⟨by omega, fun x hx => ?_⟩
  rcases List.mem_cons.1 hx with rfl | hx
  ·omega
  ·exact h2 x hx
theorem fold_mem : ∀ (l : List Int) (a : Int), l.foldl lessI a = a ∨ l.foldl lessI a ∈ l
 | [], a => Or.inl rfl
 | y :: l, a => by
  rw [List.foldl_cons]
  rcases fold_mem l (lessI a y) with h | h
  ·unfold lessI at h ⊢
   split
   ·rename_i hy
    rw [if_pos hy] at h
    exact Or.inr (by rw [h]; exact List.mem_cons_self)
   ·rename_i hy
    rw [if_neg hy] at h
    exact Or.inl h
  ·exact Or.inr (List.mem_cons_of_mem _ h)
theorem markB_le {l : List Int} {x : Int} (h : x ∈ l) : markB l ≤ x := by
 cases l with
 | nil => cases h
 | cons m r =>
  obtain ⟨h1, h2⟩ := fold_le r m
  rcases List.mem_cons.1 h with rfl | h
  ·exact h1
  ·exact h2 x h
theorem markB_mem {l : List Int} (h : l ≠ []) : markB l ∈ l := by
 cases l with
 | nil => exact absurd rfl h
 | cons m r =>
  rcases fold_mem r m with h1 | h1
  ·show r.foldl lessI m ∈ _
   rw [h1]; exact List.mem_cons_self
  ·exact List.mem_cons_of_mem _ h1
theorem markB_mono {l l' : List Int} (h : l' ≠ []) (hm : ∀ x ∈ l', ∃ y ∈ l, y ≤ x) : markB l ≤ markB l' := by
 obtain ⟨y, hy, hle⟩ := hm _ (markB_mem h)
 exact Int.le_trans (markB_le hy) hle
theorem set_mono {l : List Int} {i : Nat} {t : Int} (h : l.getD i 0 ≤ t) (hne : l ≠ []) : markB l ≤ markB (l.set i t) := by
 have hne' : l.set i t ≠ [] := by simpa using hne
 refine markB_mono hne' (fun x hx => ?_)
 rcases List.mem_or_eq_of_mem_set hx with h1 | h1
 ·exact ⟨x, h1, Int.le_refl _⟩
 ·by_cases hi : i < l.length
  ·refine ⟨l[i], List.getElem_mem hi, ?_⟩
   rw [h1]
   simpa [List.getD, hi] using h
  ·rw [List.set_eq_of_length_le (by omega)] at hx
   exact ⟨x, hx, Int.le_refl _⟩

/-- Events are fed: i of them are offered. -/
structure FS (q0 : List Qy) (z : Nat × Nat × Nat) (l : List Ev) (i : Nat) (s : En) : Prop where
 so : SO i s
 eq : (s.buf, s.qs) = pass (markB s.marks) (putAll [] (l.take i), q0)
 fut : ∀ e ∈ l.drop i, ∀ m ∈ s.marks, m ≤ e.2.1
 hi : ∀ m ∈ s.marks, 0 ≤ m ∧ m ≤ 2000000
 rest : (s.next, s.tq, s.tr) = z
theorem ml_none {qs : List Qy} (h : ∀ q ∈ qs, q.runs = []) : ml qs = none := by
 induction qs with
 | nil => rfl
 | cons q r ih =>
  unfold ml
  rw [h q List.mem_cons_self]
  exact ih (fun x hx => h x (List.mem_cons_of_mem _ hx))
theorem FS.start {s : En} {l : List Ev} (hso : SO 0 s) (hm : s.marks = [1, 1, 1]) (hr : ∀ q ∈ s.qs, q.runs = []) (hl : ∀ e ∈ l, 1 ≤ e.2.1) : FS s.qs (s.next, s.tq, s.tr) l 0 s := by
 have hb : s.buf = [] := List.eq_nil_of_length_eq_zero (by have := hso.bl; omega)
 refine ⟨hso, ?_, ?_, ?_, rfl⟩
 ·rw [pass_still]
  ·rw [hb]; rfl
  ·exact ⟨(fun b hb => by cases hb), (fun t ht => by have ht' : t ∈ ml s.qs := ht; rw [ml_none hr] at ht'; cases ht')⟩
 ·intro e he m hm'
  rw [hm] at hm'
  have := hl e he
  simp at hm'
  omega
 ·intro m hm'
  rw [hm] at hm'
  simp at hm'
  omega
section
variable {q0 : List Qy} {z : Nat × Nat × Nat} {l : List Ev} {i : Nat} {s : En}
theorem FS.mark (h : FS q0 z l i s) (hlt : i < l.length) : markB s.marks ≤ l[i].2.1 := by
 have hne : s.marks ≠ [] := fun e => by have := h.so.m3; rw [e] at this; cases this
 exact h.fut l[i] (by rw [List.drop_eq_getElem_cons hlt]; exact List.mem_cons_self) _ (markB_mem hne)
theorem FS.offer (h : FS q0 z l i s) (hlt : i < l.length) (h0 : 0 ≤ l[i].2.1) (h1 : l[i].2.1 ≤ 1000000) : FS q0 z l (i + 1) { s with buf := putB s.buf l[i] } := by
 refine ⟨h.so.put h0 h1, ?_, ?_, h.hi, h.rest⟩
 ·have hp := pass_put (M := markB s.marks) (e := l[i]) (h.mark hlt) (putAll [] (l.take i), q0)
  rw [List.take_succ_eq_append_getElem hlt, putAll_snoc]
  show (putB s.buf l[i], s.qs) = pass (markB s.marks) (putB (putAll [] (l.take i)) l[i], q0)
  rw [hp, ← h.eq]
 ·intro e he
  exact h.fut e (by rw [List.drop_eq_getElem_cons hlt]; exact List.mem_cons_of_mem _ he)
theorem FS.beat (h : FS q0 z l i s) (a t : Int) (ht : ∀ e ∈ l.drop i, t ≤ e.2.1) (h0 : 0 ≤ t) (h2 : t ≤ 2000000) : FS q0 z l i (beatE s a t).2 := by
 have hne : s.marks ≠ [] := fun e => by have := h.so.m3; rw [e] at this; cases this
 have hso := h.so.beat a t
 unfold beatE at hso ⊢
 split
 ·exact h
 ·rename_i hn
  rw [if_neg hn] at hso
  split
  ·exact h
  ·rename_i hl
   rw [if_neg hl] at hso
   refine ⟨hso, ?_, ?_, ?_, h.rest⟩
   ·show ((pass (markB (s.marks.set a.toNat t)) (s.buf, s.qs)).1, (pass (markB (s.marks.set a.toNat t)) (s.buf, s.qs)).2) = _
    rw [h.eq, pass_trans (set_mono (by omega) hne)]
   ·intro e he m hm
    rcases List.mem_or_eq_of_mem_set hm with h3 | h3
    ·exact h.fut e he m h3
    ·rw [h3]; exact ht e he
   ·intro m hm
    rcases List.mem_or_eq_of_mem_set hm with h3 | h3
    ·exact h.hi m h3
    ·rw [h3]; exact ⟨h0, h2⟩
/-- The last beats. -/
def lastE (s : En) : En := (beatE (beatE (beatE s 0 2000000).2 1 2000000).2 2 2000000).2
theorem beat_top {s : En} (h3 : s.marks.length = 3) (hi : ∀ m ∈ s.marks, 0 ≤ m ∧ m ≤ 2000000) {k : Nat} (hk : k < 3) : (beatE s k 2000000).1 = 0 ∧ (beatE s k 2000000).2.marks = s.marks.set k 2000000 := by
 have hg : s.marks.getD (k : Int).toNat 0 ≤ 2000000 := by
  have hk' : k < s.marks.length := by omega
  have : s.marks.getD k 0 = s.marks[k] := by simp [List.getD, hk']
  show s.marks.getD k 0 ≤ 2000000
  rw [this]
  exact (hi _ (List.getElem_mem hk')).2
 unfold beatE
 rw [if_neg (by omega), if_neg (by omega)]
 exact ⟨rfl, rfl⟩
theorem FS.last (h : FS q0 z l l.length s) : (beatE s 0 2000000).1 = 0 ∧ (beatE (beatE s 0 2000000).2 1 2000000).1 = 0 ∧ (beatE (beatE (beatE s 0 2000000).2 1 2000000).2 2 2000000).1 = 0 ∧
  ((lastE s).buf, (lastE s).qs) = pass 2000000 (putAll [] l, q0) ∧ SO l.length (lastE s) ∧ ((lastE s).next, (lastE s).tq, (lastE s).tr) = z ∧ (lastE s).marks = [2000000, 2000000, 2000000] ∧ FS q0 z l l.length (beatE s 0 2000000).2 ∧ FS q0 z l l.length (beatE (beatE s 0 2000000).2 1 2000000).2 := by
 have hd : l.drop l.length = [] := List.drop_length
 have f1 := h.beat 0 2000000 (by rw [hd]; simp) (by omega) (by omega)
 have f2 := f1.beat 1 2000000 (by rw [hd]; simp) (by omega) (by omega)
 have f3 := f2.beat 2 2000000 (by rw [hd]; simp) (by omega) (by omega)
 have b1 := beat_top (k := 0) h.so.m3 h.hi (by omega)
 have b2 := beat_top (k := 1) f1.so.m3 f1.hi (by omega)
 have b3 := beat_top (k := 2) f2.so.m3 f2.hi (by omega)
 have hm : (lastE s).marks = [2000000, 2000000, 2000000] := by
  have e1 : (lastE s).marks = ((s.marks.set 0 2000000).set 1 2000000).set 2 2000000 := by
   show (beatE (beatE (beatE s 0 2000000).2 1 2000000).2 ((2 : Nat) : Int) 2000000).2.marks = _
   rw [b3.2]
   show (beatE (beatE s 0 2000000).2 ((1 : Nat) : Int) 2000000).2.marks.set 2 2000000 = _
   rw [b2.2]
   show ((beatE s ((0 : Nat) : Int) 2000000).2.marks.set 1 2000000).set 2 2000000 = _
   rw [b1.2]
  rw [e1]
  have h3 := h.so.m3
  match hs : s.marks, h3 with
  | [a, b, c], _ => rfl
 refine ⟨b1.1, b2.1, b3.1, ?_, f3.so, f3.rest, hm, f1, f2⟩
 have := f3.eq
 rw [List.take_length] at this
 have e2 : markB (lastE s).marks = 2000000 := by rw [hm]; rfl
 rw [← e2]; exact this
end
/-- The least time of what is still to come, at most 100. -/
def leastB (l : List Ev) : Int := l.foldl (fun a e => lessI a e.2.1) 100
theorem least_fold : ∀ (l : List Ev) (a : Int), (l.foldl (fun a e => lessI a e.2.1) a ≤ a ∧ ∀ e ∈ l, l.foldl (fun a e => lessI a e.2.1) a ≤ e.2.1) ∧ ((∀ e ∈ l, 1 ≤ e.2.1) → 1 ≤ a → 1 ≤ l.foldl (fun a e => lessI a e.2.1) a)
 | [], a => ⟨⟨Int.le_refl _, fun e he => by cases he⟩, fun _ h => h⟩
 | x :: l, a => by
  obtain ⟨⟨h1, h2⟩, h4⟩ := least_fold l (lessI a x.2.1)
  have h3 : lessI a x.2.1 ≤ a ∧ lessI a x.2.1 ≤ x.2.1 := by unfold lessI; split <;> omega
  rw [List.foldl_cons]
  refine ⟨⟨by omega, fun e he => ?_⟩, fun hl ha => h4 (fun e he => hl e (List.mem_cons_of_mem _ he)) ?_⟩
  ·rcases List.mem_cons.1 he with rfl | he
   ·omega
   ·exact h2 e he
  ·have := hl x List.mem_cons_self
   unfold lessI; split <;> omega
theorem leastB_le (l : List Ev) : leastB l ≤ 100 ∧ ∀ e ∈ l, leastB l ≤ e.2.1 := (least_fold l 100).1
theorem leastB_ge (l : List Ev) (h : ∀ e ∈ l, 1 ≤ e.2.1) : 1 ≤ leastB l := (least_fold l 100).2 h (by omega)
theorem leastB_snoc (l : List Ev) (e : Ev) : leastB (l ++ [e]) = lessI (leastB l) e.2.1 := by simp [leastB]
end Go.Lull

namespace Go.Lull
set_option linter.unusedVariables false

/-! ### What was found before changes nothing -/
def withF (F : List Mt) (q : Qy) : Qy := { q with found := F ++ q.found }
theorem withF_show (F : List Mt) (q : Qy) (e : Ev) : showQ (withF F q) e = withF F (showQ q e) := by
 have hs : shownQ (withF F q) e = withF F (shownQ q e) := by
  unfold shownQ withF
  simp
 unfold showQ
 rw [hs]
 unfold beginQ
 have e1 : (withF F (shownQ q e)).st = (shownQ q e).st := rfl
 rw [e1]
 split
 ·split
  ·simp [withF]
  ·rfl
 ·rfl
theorem withF_end (F : List Mt) (q : Qy) (t : Int) : endQ (withF F q) t = withF F (endQ q t) := by
 unfold endQ withF
 simp
theorem pass_withF (F : List Mt) {M : Int} : ∀ (k : Nat) (B : List Ev) (q : Qy), passM (B, [q]) = k → pass M (B, [withF F q]) = ((pass M (B, [q])).1, [withF F (passQ M B q)]) := by
 intro k
 induction k using Nat.strongRecOn with
 | _ k ih =>
  intro B q hk
  have hsame : firstD B [withF F q] = firstD B [q] := by rw [firstD_comb, firstD_comb, ml_one, ml_one]; rfl
  cases hf : firstD B [q] with
  | none =>
   have : passQ M B q = q := by unfold passQ; rw [pass_none (s := (B, [q])) hf]; rfl
   rw [pass_none (s := (B, [withF F q])) (by rw [← hf]; exact hsame), pass_none (s := (B, [q])) hf, this]
  | some d =>
   by_cases ht : d.time < M
   ·rw [pass_step (s := (B, [withF F q])) (hsame.trans hf) ht]
    have hl := passM_less (s := (B, [q])) hf
    have h1 := pass_one M B q
    rw [pass_step (s := (B, [q])) hf ht] at h1 ⊢
    rw [hk] at hl
    cases d with
    | rel e =>
     show pass M (B.tail, [showQ (withF F q) e]) = _
     rw [withF_show, ih _ hl _ _ rfl]
     have h2 : [passQ M B.tail (showQ q e)] = [passQ M B q] := (pass_one M B.tail (showQ q e)).symm.trans h1
     have h3 : passQ M B.tail (showQ q e) = passQ M B q := by simpa using h2
     rw [h3]; rfl
    | fin t =>
     show pass M (B, [endQ (withF F q) t]) = _
     rw [withF_end, ih _ hl _ _ rfl]
     have h2 : [passQ M B (endQ q t)] = [passQ M B q] := (pass_one M B (endQ q t)).symm.trans h1
     have h3 : passQ M B (endQ q t) = passQ M B q := by simpa using h2
     rw [h3]; rfl
   ·have : passQ M B q = q := by unfold passQ; rw [pass_late (s := (B, [q])) hf ht]; rfl
    rw [pass_late (s := (B, [withF F q])) (hsame.trans hf) ht, pass_late (s := (B, [q])) hf ht, this]
theorem passQ_withF (F : List Mt) (M : Int) (B : List Ev) (q : Qy) : passQ M B (withF F q) = withF F (passQ M B q) := by
 have h := pass_one M B (withF F q)
 rw [pass_withF F _ B q rfl] at h
 simpa using h.symm
/-- Some of what was found is gone. -/
def dropF (g : Nat) (q : Qy) : Qy := { q with found := q.found.drop g }
theorem passQ_dropF (g : Nat) (M : Int) (B : List Ev) (q : Qy) (hg : g ≤ q.found.length) : passQ M B (dropF g q) = dropF g (passQ M B q) := by
 have e1 : dropF g q = withF (q.found.drop g) { q with found := [] } := by simp [dropF, withF]
 have e2 : q = withF q.found { q with found := [] } := by simp [withF]
 have e3 : passQ M B q = withF q.found (passQ M B { q with found := [] }) := by
  conv => lhs; rw [e2]
  rw [passQ_withF]
 rw [e1, passQ_withF, e3]
 unfold withF dropF
 simp only
 rw [List.drop_append_of_le_length hg]
theorem passQ_found_le (M : Int) (B : List Ev) (q : Qy) : q.found.length ≤ (passQ M B q).found.length := by
 have e2 : q = withF q.found { q with found := [] } := by simp [withF]
 have e3 : passQ M B q = withF q.found (passQ M B { q with found := [] }) := by
  conv => lhs; rw [e2]
  rw [passQ_withF]
 rw [e3]
 simp [withF]

/-! ### Events of a later time -/
theorem pass_putAll {M : Int} (qs : List Qy) : ∀ (B S : List Ev), (∀ e ∈ B, M ≤ e.2.1) → pass M (putAll S B, qs) = (putAll (pass M (S, qs)).1 B, (pass M (S, qs)).2)
 | [], S, _ => rfl
 | e :: B, S, h => by
  rw [putAll_cons, pass_putAll qs B (putB S e) (fun x hx => h x (List.mem_cons_of_mem _ hx))]
  have := pass_put (M := M) (e := e) (h e List.mem_cons_self) (S, qs)
  simp only at this
  rw [this, putAll_cons]
theorem drop_all {M : Int} : ∀ {l : List Ev}, (∀ e ∈ l, e.2.1 < M) → l.dropWhile (fun e => decide (e.2.1 < M)) = []
 | [], _ => rfl
 | a :: r, h => by rw [List.dropWhile_cons_of_pos (by simpa using h a List.mem_cons_self)]; exact drop_all (fun e he => h e (List.mem_cons_of_mem _ he))
theorem sb_app {S B : List Ev} (h : SB (S ++ B)) : Go.Lull.putAll S B = S ++ B := putAll_sorted B S h
theorem passQ_later {M : Int} {S B : List Ev} (hs : SB (S ++ B)) (hB : ∀ e ∈ B, M ≤ e.2.1) (q : Qy) : passQ M (S ++ B) q = passQ M S q := by
 have h1 := pass_putAll (M := M) [q] B S hB
 rw [sb_app hs] at h1
 have h2 := congrArg Prod.snd h1
 simp only at h2
 rw [pass_one, pass_one] at h2
 simpa using h2
theorem passQ_app {M M' : Int} (hM : M ≤ M') {S B : List Ev} (hs : SB (S ++ B)) (hS : ∀ e ∈ S, e.2.1 < M) (hB : ∀ e ∈ B, M ≤ e.2.1) (q : Qy) : passQ M' B (passQ M S q) = passQ M' (S ++ B) q := by
 have h1 := pass_putAll (M := M) [q] B S hB
 have hb : (pass M (S, [q])).1 = [] := by rw [pass_buf]; exact drop_all hS
 have hB2 : putAll [] B = B := by
  have : SB ([] ++ B) := List.Pairwise.sublist (by simp) hs
  have := sb_app this
  simpa using this
 rw [sb_app hs, hb, hB2, pass_one] at h1
 have h2 := pass_trans hM (S ++ B, [q])
 rw [h1] at h2
 have h3 := congrArg Prod.snd h2
 rw [pass_one, pass_one] at h3
 simpa using h3

/-! ### The document's Engine -/
structure RQ where
 id : Nat
 st : List Stp
 wn : Int
 seen : List Ev
 gone : Nat
structure RS where
 marks : List Int
 waits : List Ev
 qs : List RQ
 next : Nat
 served : Int
 row : Nat
/-- All that a query was told. -/
def RQ.all (q : RQ) (M : Int) : Qy := passQ M q.seen ⟨q.id, q.st, q.wn, [], []⟩
def qOf (M : Int) (q : RQ) : Qy := dropF q.gone (q.all M)
def eOf (r : RS) : En := ⟨r.marks, r.waits, r.qs.map (qOf (markB r.marks)), r.next, r.served.toNat, r.row⟩
structure RQok (M : Int) (q : RQ) : Prop where
 vp : VP q.st
 len : q.st.length ≤ 8
 w0 : 0 ≤ q.wn
 w1 : q.wn ≤ 1000
 sb : SB q.seen
 lt : ∀ e ∈ q.seen, e.2.1 < M
 tm : ∀ e ∈ q.seen, 0 ≤ e.2.1 ∧ e.2.1 ≤ 1000000
 gone : q.gone ≤ (q.all M).found.length
/-- What is so of it; n: how many events were taken. -/
structure RSok (n : Nat) (r : RS) : Prop where
 mne : r.marks ≠ []
 m8 : r.marks.length ≤ 8
 sb : SB r.waits
 ge : ∀ e ∈ r.waits, markB r.marks ≤ e.2.1
 tm : ∀ e ∈ r.waits, 0 ≤ e.2.1 ∧ e.2.1 ≤ 1000000
 qs : ∀ q ∈ r.qs, RQok (markB r.marks) q ∧ q.seen.length + r.waits.length ≤ n
 wl : r.waits.length ≤ n
 nr : r.qs.Pairwise (fun a b => a.id < b.id)
 nx : ∀ q ∈ r.qs, q.id < r.next
 ql : r.qs.length ≤ 10
 turn : (r.served = -1 ∧ r.row = 0) ∨ (0 ≤ r.served ∧ 1 ≤ r.row ∧ r.row ≤ 2)
theorem qOf_num (M : Int) (q : RQ) : (qOf M q).num = q.id := passQ_num M q.seen _
/-- Released events are shown to each query. -/
theorem qOf_beat {M M' : Int} (hM : M ≤ M') {q : RQ} (hq : RQok M q) {B : List Ev} (hsb : SB B) (hB : ∀ e ∈ B, M ≤ e.2.1) :
  passQ M' B (qOf M q) = qOf M' { q with seen := q.seen ++ B.takeWhile (fun e => decide (e.2.1 < M')) } := by
 have hs : SB (q.seen ++ B) := List.pairwise_append.2 ⟨hq.sb, hsb, fun x hx y hy => after_time (by have := hq.lt x hx; have := hB y hy; omega)⟩
 unfold qOf
 rw [passQ_dropF _ _ _ _ hq.gone]
 congr 1
 unfold RQ.all
 rw [passQ_app hM hs hq.lt hB]
 simp only
 have hcut : B = B.takeWhile (fun e => decide (e.2.1 < M')) ++ B.dropWhile (fun e => decide (e.2.1 < M')) := (List.takeWhile_append_dropWhile).symm
 have hge : ∀ e ∈ B.dropWhile (fun e => decide (e.2.1 < M')), M' ≤ e.2.1 := by
  have hts : TS (B.dropWhile (fun e => decide (e.2.1 < M'))) := List.Pairwise.sublist (List.dropWhile_sublist _) hsb.ts
  refine head_ge hts (fun e r he => ?_)
  have := List.head?_dropWhile_not (p := fun e : Ev => decide (e.2.1 < M')) B
  rw [he] at this
  simp at this
  omega
 conv => lhs; rw [hcut, ← List.append_assoc]
 refine passQ_later (by rw [List.append_assoc, ← hcut]; exact hs) hge _
end Go.Lull
