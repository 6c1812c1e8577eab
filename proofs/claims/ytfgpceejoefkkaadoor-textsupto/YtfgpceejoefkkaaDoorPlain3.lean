import Derived.Test.YtfgpceejoefkkaaDoorPlain2
import Derived.Lib.Split
import Derived.Lib.SplitLaws
namespace Go.Lull
open Go.Lib

/-- What a reader holds. -/
abbrev St := List Stp × Int × Nat

/-- The next word. -/
def takeB (st : St) (l : List UInt8) : Option St :=
  if st.2.2 = 0 then (if l = [119, 105, 116, 104, 105, 110] then (if st.1 = [] then none else some (st.1, st.2.1, 1)) else
    match stepB l with | some x => if mayB st.1 x = true then some (st.1 ++ [x], st.2.1, 0) else none | none => none)
  else if st.2.2 = 1 then (match numB 1000 l with | some n => some (st.1, (n : Int), 2) | none => none)
  else none

theorem takeB_len {st st' : St} {l : List UInt8} (h : takeB st l = some st') (hn : st.1.length ≤ 8) : st'.1.length ≤ 8 := by
  unfold takeB at h
  split at h
  · split at h
    · split at h
      · cases h
      · cases h; exact hn
    · split at h
      · split at h
        · rename_i hm
          cases h
          simp [mayB] at hm
          simp; omega
        · cases h
      · cases h
  · split at h
    · split at h
      · cases h; exact hn
      · cases h
    · cases h


def wordOf (l : List UInt8) : List UInt8 := l.takeWhile (· != 32)
def restOf (l : List UInt8) : Option (List UInt8) := match l.dropWhile (· != 32) with | [] => none | _ :: r => some r

theorem index32 : ∀ l : List UInt8, (index l [32] = -1 ∧ restOf l = none ∧ wordOf l = l) ∨ (∃ i : Nat, index l [32] = i ∧ i < l.length ∧ wordOf l = l.take i ∧ restOf l = some (l.drop (i + 1)))
  | [] => Or.inl ⟨rfl, rfl, rfl⟩
  | b :: l => by
    by_cases hb : b = 32
    · subst hb
      exact Or.inr ⟨0, by simp [index, List.isPrefixOf], by simp, by simp [wordOf], by simp [restOf]⟩
    · have h1 : (32 == b) = false := beq_false_of_ne (fun e => hb e.symm)
      have h2 : (b != 32) = true := by simp [hb]
      have hw : wordOf (b :: l) = b :: wordOf l := by simp [wordOf, h2]
      have hr : restOf (b :: l) = restOf l := by simp [restOf, h2]
      have hi : index (b :: l) [32] = if index l [32] == -1 then -1 else index l [32] + 1 := by
        rw [index]; simp [List.isPrefixOf, h1]
      rcases index32 l with ⟨e1, e2, e3⟩ | ⟨i, e1, e4, e2, e3⟩
      · refine Or.inl ⟨?_, by rw [hr, e2], by rw [hw, e3]⟩
        rw [hi, e1]; rfl
      · refine Or.inr ⟨i + 1, ?_, by simp; omega, by rw [hw, e2]; rfl, by rw [hr, e3]; rfl⟩
        rw [hi, e1, if_neg (by simp)]; rfl

def words (l : List UInt8) : List (List UInt8) := split l [32]

theorem words_none {l : List UInt8} (h : restOf l = none) : words l = [wordOf l] := by
  rcases index32 l with ⟨e1, e2, e3⟩ | ⟨i, e1, e4, e2, e3⟩
  · unfold words split
    rw [count_miss e1, e3]; rfl
  · rw [h] at e3; cases e3
theorem words_some {l r : List UInt8} (h : restOf l = some r) : words l = wordOf l :: words r := by
  rcases index32 l with ⟨e1, e2, e3⟩ | ⟨i, e1, e4, e2, e3⟩
  · rw [h] at e2; cases e2
  · rw [h] at e3
    obtain rfl := Option.some.inj e3
    have e5 : count l [32] = count (l.drop (i + 1)) [32] + 1 := (count_hit (s := l) (sub := [32]) (by simp) e1).trans (Nat.add_comm _ _)
    unfold words split
    rw [e5, splitK, if_neg (by rw [e1]; simp), e1, e2]
    rfl

theorem wordOf_le (l : List UInt8) : (wordOf l).length ≤ l.length := List.Sublist.length_le (List.takeWhile_sublist _)
theorem words_le : ∀ (n : Nat) (l : List UInt8), l.length ≤ n → ∀ x ∈ words l, x.length ≤ l.length := by
  intro n
  induction n with
  | zero =>
    intro l h x hx
    cases hr : restOf l with
    | none => rw [words_none hr, List.mem_singleton] at hx; subst hx; exact wordOf_le l
    | some r =>
      rcases index32 l with ⟨e1, e2, e3⟩ | ⟨i, e1, e4, e2, e3⟩
      · rw [hr] at e2; cases e2
      · omega
  | succ n ih =>
    intro l h x hx
    cases hr : restOf l with
    | none => rw [words_none hr, List.mem_singleton] at hx; subst hx; exact wordOf_le l
    | some r =>
      rcases index32 l with ⟨e1, e2, e3⟩ | ⟨i, e1, e4, e2, e3⟩
      · rw [hr] at e2; cases e2
      · rw [words_some hr, List.mem_cons] at hx
        rw [hr] at e3
        obtain rfl := Option.some.inj e3
        rcases hx with rfl | hx
        · exact wordOf_le l
        · have := ih (l.drop (i + 1)) (by simp; omega) x hx
          simp at this; omega

/-- The words one behind the other: the place of the first that can't stand, or what was read. -/
def runW : St → Nat → List (List UInt8) → Nat ⊕ St
  | st, _, [] => .inr st
  | st, p, l :: r => match takeB st l with | none => .inl p | some st' => runW st' (p + l.length + 1) r

/-- A text: the place of what can't stand, or the pattern. -/
def resB (l : List UInt8) : Nat ⊕ St :=
  if 100 < l.length then .inl 0 else match runW ([], 0, 0) 0 (words l) with | .inl p => .inl p | .inr st => if st.2.2 = 2 then .inr st else .inl l.length

end Go.Lull
