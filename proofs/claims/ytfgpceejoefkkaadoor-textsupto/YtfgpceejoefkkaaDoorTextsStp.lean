import Derived.Test.YtfgpceejoefkkaaDoorTextsCond
namespace Go.Proofs.YtfgpceejoefkkaaDoor
open Go.RowKit Go.Lull
set_option linter.unusedVariables false

theorem readCondition_no (s : ByteArray) (w : World) (hs : s.size ≤ 1000000) (ho : condB s.data.toList = none) :
    Calls Tryd.prog 50 #[.string s] w fun e w' => ∃ k g v, e = .returned (.tuple #[.agg #[.int .u8 k, .int .u8 g, .int .i64 v], .bool false]) ∧ Below w.heap.size w w' := by
  have h := readCondition_any s w hs
  rw [ho] at h
  refine h.mono ?_
  rintro e w' ⟨k, g, v, b, rfl, hb, _, hB⟩
  rw [hb]
  exact ⟨k, g, v, rfl, hB⟩
theorem readCondition_yes (s : ByteArray) (x : UInt8 × UInt8 × Int) (w : World) (hs : s.size ≤ 1000000) (ho : condB s.data.toList = some x) :
    Calls Tryd.prog 50 #[.string s] w fun e w' => e = .returned (.tuple #[.agg #[.int .u8 x.1.toNat, .int .u8 x.2.1.toNat, .int .i64 x.2.2], .bool true]) ∧ Below w.heap.size w w' := by
  have h := readCondition_any s w hs
  rw [ho] at h
  refine h.mono ?_
  rintro e w' ⟨k, g, v, b, rfl, hb, hx, hB⟩
  obtain ⟨rfl, rfl, rfl⟩ := hx x rfl
  rw [hb]
  exact ⟨rfl, hB⟩

set_option maxHeartbeats 1000000 in
theorem readStep_not_none (s t : ByteArray) (w : World) (hs : t.size ≤ 1000000) (h : s.data.toList = 33 :: t.data.toList) (ho : condB t.data.toList = none) :
    Calls Tryd.prog 42 #[.string s] w fun e w' => e = .returned (.tuple #[.nilIface, .bool false]) ∧ Below w.heap.size w w' := by
  have hread := fun w => readCondition_no t w hs ho
  have H : Hid (s.data.toList = 33 :: t.data.toList) := h
  clear h ho hs
  go_enter Tryd.func42, Tryd.ntmps42
  go_wp2_with (first | (go_at_call 49; refine (cut_yes s t 33 _ H.out).mono ?_; rintro e w' ⟨rfl, rfl⟩) | (go_at_call 50; refine (hread _).mono ?_; rintro e w1 ⟨k, g, v, rfl, hb⟩))
  go_ret2
  exact ⟨rfl, hb.alloc (by have := hb.size; omega) _⟩

set_option maxHeartbeats 1000000 in
theorem readStep_not_some (s t : ByteArray) (x : UInt8 × UInt8 × Int) (w : World) (hs : t.size ≤ 1000000) (h : s.data.toList = 33 :: t.data.toList) (ho : condB t.data.toList = some x) :
    Calls Tryd.prog 42 #[.string s] w fun e w' => e = .returned (.tuple #[.iface 120 (.agg #[.int .u8 x.1.toNat, .int .u8 x.2.1.toNat, .int .i64 x.2.2]), .bool true]) ∧ Below w.heap.size w w' := by
  have hread := fun w => readCondition_yes t x w hs ho
  have H : Hid (s.data.toList = 33 :: t.data.toList) := h
  clear h ho hs
  go_enter Tryd.func42, Tryd.ntmps42
  go_wp2_with (first | (go_at_call 49; refine (cut_yes s t 33 _ H.out).mono ?_; rintro e w' ⟨rfl, rfl⟩) | (go_at_call 50; refine (hread _).mono ?_; rintro e w1 ⟨rfl, hb⟩))
  go_ret2
  exact ⟨rfl, hb.alloc (by have := hb.size; omega) _⟩

set_option maxHeartbeats 1000000 in
theorem readStep_must_none (s : ByteArray) (w : World) (hs : s.size ≤ 1000000) (h : ∀ r, s.data.toList ≠ 33 :: r) (ho : condB s.data.toList = none) :
    Calls Tryd.prog 42 #[.string s] w fun e w' => e = .returned (.tuple #[.nilIface, .bool false]) ∧ Below w.heap.size w w' := by
  have hread := fun w => readCondition_no s w hs ho
  have H : Hid (∀ r, s.data.toList ≠ 33 :: r) := h
  clear h ho hs
  go_enter Tryd.func42, Tryd.ntmps42
  go_wp2_with (first | (go_at_call 49; refine (cut_no s 33 _ H.out).mono ?_; rintro e w' ⟨rfl, rfl⟩) | (go_at_call 50; refine (hread _).mono ?_; rintro e w1 ⟨k, g, v, rfl, hb⟩))
  go_ret2
  exact ⟨rfl, hb.alloc (by have := hb.size; omega) _⟩

set_option maxHeartbeats 1000000 in
theorem readStep_must_some (s : ByteArray) (x : UInt8 × UInt8 × Int) (w : World) (hs : s.size ≤ 1000000) (h : ∀ r, s.data.toList ≠ 33 :: r) (ho : condB s.data.toList = some x) :
    Calls Tryd.prog 42 #[.string s] w fun e w' => e = .returned (.tuple #[.iface 121 (.agg #[.int .u8 x.1.toNat, .int .u8 x.2.1.toNat, .int .i64 x.2.2]), .bool true]) ∧ Below w.heap.size w w' := by
  have hread := fun w => readCondition_yes s x w hs ho
  have H : Hid (∀ r, s.data.toList ≠ 33 :: r) := h
  clear h ho hs
  go_enter Tryd.func42, Tryd.ntmps42
  go_wp2_with (first | (go_at_call 49; refine (cut_no s 33 _ H.out).mono ?_; rintro e w' ⟨rfl, rfl⟩) | (go_at_call 50; refine (hread _).mono ?_; rintro e w1 ⟨rfl, hb⟩))
  go_ret2
  exact ⟨rfl, hb.alloc (by have := hb.size; omega) _⟩

/-- A step, as the program holds it. -/
def stepV (x : Bool × UInt8 × UInt8 × Int) : Value := .iface (if x.1 = true then 120 else 121) (.agg #[.int .u8 x.2.1.toNat, .int .u8 x.2.2.1.toNat, .int .i64 x.2.2.2])

theorem readStep_no (s : ByteArray) (w : World) (hs : s.size ≤ 1000000) (ho : stepB s.data.toList = none) :
    Calls Tryd.prog 42 #[.string s] w fun e w' => e = .returned (.tuple #[.nilIface, .bool false]) ∧ Below w.heap.size w w' := by
  by_cases h : ∃ r, s.data.toList = 33 :: r
  · obtain ⟨r, h⟩ := h
    rw [h, stepB_not] at ho
    have hl : s.data.toList.length = s.size := by simp
    have ht : (⟨r.toArray⟩ : ByteArray).size ≤ 1000000 := by
      have : (⟨r.toArray⟩ : ByteArray).size = r.length := by simp [ByteArray.size]
      rw [h] at hl; simp at hl; omega
    refine readStep_not_none s ⟨r.toArray⟩ w ht (by simpa using h) ?_
    cases hc : condB r with
    | none => rfl
    | some x => rw [hc] at ho; cases ho
  · have h' : ∀ r, s.data.toList ≠ 33 :: r := fun r e => h ⟨r, e⟩
    rw [stepB_must h'] at ho
    refine readStep_must_none s w hs h' ?_
    cases hc : condB s.data.toList with
    | none => rfl
    | some x => rw [hc] at ho; cases ho

theorem readStep_yes (s : ByteArray) (x : Bool × UInt8 × UInt8 × Int) (w : World) (hs : s.size ≤ 1000000) (ho : stepB s.data.toList = some x) :
    Calls Tryd.prog 42 #[.string s] w fun e w' => e = .returned (.tuple #[stepV x, .bool true]) ∧ Below w.heap.size w w' := by
  by_cases h : ∃ r, s.data.toList = 33 :: r
  · obtain ⟨r, h⟩ := h
    rw [h, stepB_not] at ho
    have hl : s.data.toList.length = s.size := by simp
    have ht : (⟨r.toArray⟩ : ByteArray).size ≤ 1000000 := by
      have : (⟨r.toArray⟩ : ByteArray).size = r.length := by simp [ByteArray.size]
      rw [h] at hl; simp at hl; omega
    cases hc : condB r with
    | none => rw [hc] at ho; cases ho
    | some y =>
      rw [hc] at ho
      cases ho
      exact readStep_not_some s ⟨r.toArray⟩ y w ht (by simpa using h) (by simpa using hc)
  · have h' : ∀ r, s.data.toList ≠ 33 :: r := fun r e => h ⟨r, e⟩
    rw [stepB_must h'] at ho
    cases hc : condB s.data.toList with
    | none => rw [hc] at ho; cases ho
    | some y =>
      rw [hc] at ho
      cases ho
      exact readStep_must_some s y w hs h' hc
end Go.Proofs.YtfgpceejoefkkaaDoor
