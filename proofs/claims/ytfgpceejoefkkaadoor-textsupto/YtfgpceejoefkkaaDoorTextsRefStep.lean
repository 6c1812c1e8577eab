import Derived.Test.YtfgpceejoefkkaaDoorTextsWord
namespace Go.Proofs.YtfgpceejoefkkaaDoor
open Go.RowKit Go.Lull
set_option linter.unusedVariables false

/-- What stepOf hands back. -/
def RefStep (o : Option Stp) (w : World) (e : Ending) (w' : World) : Prop :=
  ∃ (n : Bool) (k g v : Int) (b : Bool), e = .returned (.tuple #[.agg #[.bool n, .int .u8 k, .int .u8 g, .int .i64 v], .bool b]) ∧ b = o.isSome ∧ (∀ x, o = some x → n = x.1 ∧ k = x.2.1.toNat ∧ g = x.2.2.1.toNat ∧ v = x.2.2.2) ∧ Below w.heap.size w w'

theorem numI_lo (o : Option Nat) : -1 ≤ numI o := by cases o <;> simp [numI] <;> omega
theorem numI_hi {l : List UInt8} : numI (numB 1000 l) ≤ 1000 := by
  cases h : numB 1000 l with
  | none => simp [numI]
  | some n => have := numB_le h; simp [numI]; omega
theorem drop_get (s : ByteArray) (k : Nat) (h : k < s.size) : s.data.toList.drop k = s[k] :: s.data.toList.drop (k + 1) := drop_cons s k h
theorem drop_nil (s : ByteArray) (k : Nat) (h : s.size ≤ k) : s.data.toList.drop k = [] := List.drop_of_length_le (by simpa using h)

/-- A step whose mark is at the front, or not. -/
def markB (n : Bool) (o : Option (UInt8 × UInt8 × Int)) : Option Stp := withO (fun x => (n, x)) o

theorem neg_some {o : Option Nat} : (negO o).isSome = decide (0 < numI o) := by
  cases o with
  | none => rfl
  | some n => by_cases h : n = 0 <;> simp [negO, numI, h]; omega
theorem pos_some {o : Option Nat} : (posO o).isSome = decide (0 ≤ numI o) := by
  cases o with
  | none => rfl
  | some n => simp [posO, numI]
theorem neg_val {o : Option Nat} {v : Int} (h : negO o = some v) : v = -numI o := by
  cases o with
  | none => cases h
  | some n =>
    by_cases h0 : n = 0 <;> simp [negO, h0] at h
    simp [numI, h]
theorem pos_val {o : Option Nat} {v : Int} (h : posO o = some v) : v = numI o := by
  cases o with
  | none => cases h
  | some n => simp [posO] at h; simp [numI, h]

end Go.Proofs.YtfgpceejoefkkaaDoor
