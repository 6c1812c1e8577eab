namespace Go.Lull

/-- The number that the digits are, with n ahead of them; none: no digit, or above most. -/
def numL (most : Nat) : Nat → List UInt8 → Option Nat
  | n, [] => some n
  | n, c :: r => if 48 ≤ c.toNat ∧ c.toNat ≤ 57 then (if most < 10 * n + (c.toNat - 48) then none else numL most (10 * n + (c.toNat - 48)) r) else none

def numB (most : Nat) (l : List UInt8) : Option Nat :=
  if l = [] then none else if 1 < l.length ∧ l.head? = some 48 then none else numL most 0 l

theorem numL_le (most : Nat) : ∀ (l : List UInt8) (n m : Nat), n ≤ most → numL most n l = some m → m ≤ most := by
  intro l
  induction l with
  | nil => intro n m h e; simp [numL] at e; omega
  | cons c r ih =>
    intro n m h e
    unfold numL at e
    split at e
    · split at e
      · cases e
      · exact ih _ _ (by omega) e
    · cases e

theorem numB_le {most m : Nat} {l : List UInt8} (e : numB most l = some m) : m ≤ most := by
  unfold numB at e
  split at e
  · cases e
  · split at e
    · cases e
    · exact numL_le most l 0 m (Nat.zero_le _) e

theorem numL_no {most n : Nat} {c : UInt8} {r : List UInt8} (h : ¬ (48 ≤ c.toNat ∧ c.toNat ≤ 57)) : numL most n (c :: r) = none := by
  unfold numL; rw [if_neg h]
theorem numL_big {most n : Nat} {c : UInt8} {r : List UInt8} (h : 48 ≤ c.toNat ∧ c.toNat ≤ 57) (h2 : most < 10 * n + (c.toNat - 48)) : numL most n (c :: r) = none := by
  unfold numL; rw [if_pos h, if_pos h2]
theorem numL_step {most n : Nat} {c : UInt8} {r : List UInt8} (h : 48 ≤ c.toNat ∧ c.toNat ≤ 57) (h2 : ¬ most < 10 * n + (c.toNat - 48)) : numL most n (c :: r) = numL most (10 * n + (c.toNat - 48)) r := by
  conv => lhs; unfold numL
  rw [if_pos h, if_neg h2]

theorem drop_cons (s : ByteArray) (k : Nat) (h : k < s.size) : s.data.toList.drop k = s[k] :: s.data.toList.drop (k + 1) := by
  rw [List.drop_eq_getElem_cons (by simpa using h)]; rfl

def numI (o : Option Nat) : Int := match o with | some n => n | none => -1
def num0 (o : Option Nat) : Int := match o with | some n => n | none => 0


end Go.Lull
