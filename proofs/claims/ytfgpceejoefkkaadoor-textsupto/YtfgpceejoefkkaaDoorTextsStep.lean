import Derived.Test.YtfgpceejoefkkaaDoorTextsRead
import Derived.Test.YtfgpceejoefkkaaDoorShelf
import Derived.Test.YtfgpceejoefkkaaDoorPlain2
namespace Go.Proofs.YtfgpceejoefkkaaDoor
open Go.RowKit Go.Lull
set_option linter.unusedVariables false

theorem cut_yes (s t : ByteArray) (c : UInt8) (w : World) (h : s.data.toList = c :: t.data.toList) :
    Calls Tryd.prog 49 #[.string s, .string ⟨#[c]⟩] w fun e w' => e = .returned (.tuple #[.string t, .bool true]) ∧ w' = w := by
  refine (Go.Proofs.Tryd.strings_CutPrefix s ⟨#[c]⟩ w).mono ?_
  rintro e w' ⟨rfl, rfl⟩
  have h1 : Lib.hasPrefix s.data.toList [c] = true := by rw [h]; simp [Lib.hasPrefix]
  have h2 : Lib.trimPrefix s.data.toList [c] = t.data.toList := by unfold Lib.trimPrefix; rw [if_pos h1, h]; rfl
  refine ⟨?_, rfl⟩
  show Ending.returned (.tuple #[.string ⟨(Lib.trimPrefix s.data.toList [c]).toArray⟩, .bool (Lib.hasPrefix s.data.toList [c])]) = _
  rw [h1, h2]

theorem cut_no (s : ByteArray) (c : UInt8) (w : World) (h : ∀ r, s.data.toList ≠ c :: r) :
    Calls Tryd.prog 49 #[.string s, .string ⟨#[c]⟩] w fun e w' => e = .returned (.tuple #[.string s, .bool false]) ∧ w' = w := by
  refine (Go.Proofs.Tryd.strings_CutPrefix s ⟨#[c]⟩ w).mono ?_
  rintro e w' ⟨rfl, rfl⟩
  have h1 : Lib.hasPrefix s.data.toList [c] = false := by
    cases hl : s.data.toList with
    | nil => rfl
    | cons x r =>
      have : x ≠ c := fun e => h r (by rw [hl, e])
      have h3 : (c == x) = false := beq_false_of_ne (fun e => this e.symm)
      simp [Lib.hasPrefix, List.isPrefixOf, h3]
  have h2 : Lib.trimPrefix s.data.toList [c] = s.data.toList := by unfold Lib.trimPrefix; rw [if_neg (by rw [h1]; decide)]
  refine ⟨?_, rfl⟩
  show Ending.returned (.tuple #[.string ⟨(Lib.trimPrefix s.data.toList [c]).toArray⟩, .bool (Lib.hasPrefix s.data.toList [c])]) = _
  rw [h1, h2]


set_option maxHeartbeats 1000000 in
theorem readValue_neg (s t : ByteArray) (w : World) (hs : s.size ≤ 1000000) (h : s.data.toList = 45 :: t.data.toList) :
    Calls Tryd.prog 59 #[.string s] w fun e w' => ∃ (v : Int) (b : Bool), e = .returned (.tuple #[.int .i64 v, .bool b]) ∧ b = (valB s.data.toList).isSome ∧ (∀ n, valB s.data.toList = some n → v = n) ∧ w' = w := by
  have ht : t.size ≤ 1000000 := by
    have : s.data.toList.length = s.size := by simp
    have h2 : t.data.toList.length = t.size := by simp
    rw [h] at this; simp at this; omega
  obtain ⟨o, ho⟩ : ∃ o, numB 1000 t.data.toList = o := ⟨_, rfl⟩
  have hle : ∀ n, o = some n → n ≤ 1000 := fun n e => numB_le (ho.trans e)
  have hv : valB s.data.toList = negO o := by rw [h, valB_neg, ho]
  have hN : Hid (valB s.data.toList = negO o) := hv
  clear hv
  have hread := fun w => readNumber_any t w ht
  rw [ho] at hread
  have H : Hid (s.data.toList = 45 :: t.data.toList) := h
  clear h ho hs
  cases o with
  | none =>
    clear hle
    go_enter Tryd.func59, Tryd.ntmps59
    go_wp2_with (first | (go_at_call 49; refine (cut_yes s t 45 _ H.out).mono ?_; rintro e w' ⟨rfl, rfl⟩) | (go_at_call 44; refine (hread _).mono ?_; rintro e w' ⟨rfl, rfl⟩))
    go_ret2
    exact ⟨_, _, rfl, by rw [hN.out]; rfl, (by rw [hN.out]; intro n h; cases h), rfl⟩
  | some n =>
    have hl := hle n rfl
    clear hle
    have hread2 : ∀ w, Calls Tryd.prog 44 #[.string t, .int .i64 1000] w fun e w' => e = .returned (.tuple #[.int .i64 (n : Int), .bool true]) ∧ w' = w := hread
    clear hread
    have hread := hread2
    clear hread2
    by_cases hn : n = 0
    · subst hn
      go_enter Tryd.func59, Tryd.ntmps59
      go_wp2_with (first | (go_at_call 49; refine (cut_yes s t 45 _ H.out).mono ?_; rintro e w' ⟨rfl, rfl⟩) | (go_at_call 44; refine (hread _).mono ?_; rintro e w' ⟨rfl, rfl⟩))
      go_ret2
      exact ⟨_, _, rfl, by rw [hN.out]; rfl, (by rw [hN.out]; intro n h; cases h <;> rfl), rfl⟩
    · have hb : ((n : Int) == 0) = false := by simp; omega
      go_enter Tryd.func59, Tryd.ntmps59
      go_wp2_with (first | (go_at_call 49; refine (cut_yes s t 45 _ H.out).mono ?_; rintro e w' ⟨rfl, rfl⟩) | (go_at_call 44; refine (hread _).mono ?_; rintro e w' ⟨rfl, rfl⟩))
      go_ret2
      exact ⟨_, _, rfl, by rw [hN.out]; simp [negO, hn], (by rw [hN.out]; intro m h; simp [negO, hn] at h; rw [← h]), rfl⟩

set_option maxHeartbeats 1000000 in
theorem readValue_pos (s : ByteArray) (w : World) (hs : s.size ≤ 1000000) (h : ∀ r, s.data.toList ≠ 45 :: r) :
    Calls Tryd.prog 59 #[.string s] w fun e w' => ∃ (v : Int) (b : Bool), e = .returned (.tuple #[.int .i64 v, .bool b]) ∧ b = (valB s.data.toList).isSome ∧ (∀ n, valB s.data.toList = some n → v = n) ∧ w' = w := by
  obtain ⟨o, ho⟩ : ∃ o, numB 1000 s.data.toList = o := ⟨_, rfl⟩
  have hle : ∀ n, o = some n → n ≤ 1000 := fun n e => numB_le (ho.trans e)
  have hv : valB s.data.toList = posO o := by rw [valB_pos h, ho]
  have hN : Hid (valB s.data.toList = posO o) := hv
  clear hv
  have hread := fun w => readNumber_any s w hs
  rw [ho] at hread
  have H : Hid (∀ r, s.data.toList ≠ 45 :: r) := h
  clear h ho hs
  cases o with
  | none =>
    clear hle
    go_enter Tryd.func59, Tryd.ntmps59
    go_wp2_with (first | (go_at_call 49; refine (cut_no s 45 _ H.out).mono ?_; rintro e w' ⟨rfl, rfl⟩) | (go_at_call 44; refine (hread _).mono ?_; rintro e w' ⟨rfl, rfl⟩))
    go_ret2
    exact ⟨_, _, rfl, by rw [hN.out]; rfl, (by rw [hN.out]; intro n h; cases h), rfl⟩
  | some n =>
    have hl := hle n rfl
    clear hle
    have hread2 : ∀ w, Calls Tryd.prog 44 #[.string s, .int .i64 1000] w fun e w' => e = .returned (.tuple #[.int .i64 (n : Int), .bool true]) ∧ w' = w := hread
    clear hread
    have hread := hread2
    clear hread2
    by_cases hn : n = 0
    · subst hn
      go_enter Tryd.func59, Tryd.ntmps59
      go_wp2_with (first | (go_at_call 49; refine (cut_no s 45 _ H.out).mono ?_; rintro e w' ⟨rfl, rfl⟩) | (go_at_call 44; refine (hread _).mono ?_; rintro e w' ⟨rfl, rfl⟩))
      go_ret2
      exact ⟨_, _, rfl, by rw [hN.out]; rfl, (by rw [hN.out]; intro n h; cases h <;> rfl), rfl⟩
    · have hb : ((n : Int) == 0) = false := by simp; omega
      go_enter Tryd.func59, Tryd.ntmps59
      go_wp2_with (first | (go_at_call 49; refine (cut_no s 45 _ H.out).mono ?_; rintro e w' ⟨rfl, rfl⟩) | (go_at_call 44; refine (hread _).mono ?_; rintro e w' ⟨rfl, rfl⟩))
      go_ret2
      exact ⟨_, _, rfl, by rw [hN.out]; simp [posO], (by rw [hN.out]; intro m h; simp [posO] at h; rw [← h]), rfl⟩

theorem readValue_any (s : ByteArray) (w : World) (hs : s.size ≤ 1000000) :
    Calls Tryd.prog 59 #[.string s] w fun e w' => ∃ (v : Int) (b : Bool), e = .returned (.tuple #[.int .i64 v, .bool b]) ∧ b = (valB s.data.toList).isSome ∧ (∀ n, valB s.data.toList = some n → v = n) ∧ w' = w := by
  by_cases h : ∃ r, s.data.toList = 45 :: r
  · obtain ⟨r, h⟩ := h
    exact readValue_neg s ⟨r.toArray⟩ w hs (by simpa using h)
  · exact readValue_pos s w hs (fun r e => h ⟨r, e⟩)
end Go.Proofs.YtfgpceejoefkkaaDoor
