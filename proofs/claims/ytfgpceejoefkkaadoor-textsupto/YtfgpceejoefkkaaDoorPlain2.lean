import Derived.Test.YtfgpceejoefkkaaDoorPlain
namespace Go.Lull
def negO : Option Nat → Option Int
  | some n => if n = 0 then none else some (-(n : Int))
  | none => none
def posO : Option Nat → Option Int
  | some n => some (n : Int)
  | none => none
/-- The number behind a sign, with or without - ahead; not -0. -/
def valB : List UInt8 → Option Int
  | [] => none
  | c :: r => if c = 45 then negO (numB 1000 r) else posO (numB 1000 (c :: r))

theorem valB_neg {r : List UInt8} : valB (45 :: r) = negO (numB 1000 r) := by simp [valB]
theorem valB_pos {l : List UInt8} (h : ∀ r, l ≠ 45 :: r) : valB l = posO (numB 1000 l) := by
  cases l with
  | nil => rfl
  | cons c r => exact if_neg (fun e => h r (by rw [e]))

def letterB (c : UInt8) : Bool := decide (97 ≤ c.toNat ∧ c.toNat ≤ 122)
def signB (c : UInt8) : Bool := decide (c.toNat = 60 ∨ c.toNat = 61 ∨ c.toNat = 62)

def withO {α β : Type} (f : α → β) : Option α → Option β
  | some x => some (f x)
  | none => none
/-- A step without its mark: kind, sign (0: none), number. -/
def condB : List UInt8 → Option (UInt8 × UInt8 × Int)
  | [] => none
  | [k] => if letterB k = true then some (k, 0, 0) else none
  | k :: g :: v => if letterB k = true ∧ signB g = true then withO (fun n => (k, g, n)) (valB v) else none

/-- A step: must it not come? -/
def stepB : List UInt8 → Option (Bool × UInt8 × UInt8 × Int)
  | [] => none
  | c :: r => if c = 33 then withO (fun x => (true, x)) (condB r) else withO (fun x => (false, x)) (condB (c :: r))

theorem stepB_not {r : List UInt8} : stepB (33 :: r) = withO (fun x => (true, x)) (condB r) := by simp [stepB]
theorem stepB_must {l : List UInt8} (h : ∀ r, l ≠ 33 :: r) : stepB l = withO (fun x => (false, x)) (condB l) := by
  cases l with
  | nil => rfl
  | cons c r => exact if_neg (fun e => h r (by rw [e]))
theorem withO_isSome {α β : Type} (f : α → β) (o : Option α) : (withO f o).isSome = o.isSome := by cases o <;> rfl


abbrev Stp := Bool × UInt8 × UInt8 × Int
/-- Does the last step have to come? -/
def endB (steps : List Stp) : Bool := match steps.getLast? with | some y => !y.1 | none => false
/-- May a step stand behind these? -/
def mayB (steps : List Stp) (x : Stp) : Bool := decide (steps.length < 8) && (!x.1 || endB steps)
theorem endB_snoc (l : List Stp) (y : Stp) : endB (l ++ [y]) = !y.1 := by simp [endB]

end Go.Lull
