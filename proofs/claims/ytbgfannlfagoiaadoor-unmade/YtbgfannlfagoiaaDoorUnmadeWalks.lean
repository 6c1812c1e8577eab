import Derived.Test.YtbgfannlfagoiaaDoorMade
namespace Go.Proofs.YtbgfannlfagoiaaDoor
open Go.RowKit
set_option linter.unusedVariables false

set_option maxHeartbeats 1000000 in
theorem reg_nil (p : Value) (w : World) :
    Calls Tryd.prog 19 #[.pointer none, p] w fun e w' => e = .returned (.tuple #[.slice none 0 0, .int .i64 7, .int .i64 0]) ∧ w' = w := by
  go_enter Tryd.func19, Tryd.ntmps19
  go_wp2_with (go_at_call 41; refine (made_nil _).mono ?_; rintro e w' ⟨rfl, rfl⟩)
  go_ret3
  exact ⟨rfl, rfl⟩

set_option maxHeartbeats 1000000 in
theorem reg_zero (b : Nat) (p : Value) (w : World) (h : w.cell? ⟨b, 0, none⟩ = some (.pointer none)) :
    Calls Tryd.prog 19 #[.pointer (some ⟨b, 0, none⟩), p] w fun e w' => e = .returned (.tuple #[.slice none 0 0, .int .i64 7, .int .i64 0]) ∧ w' = w := by
  go_enter Tryd.func19, Tryd.ntmps19
  go_wp2_with (go_at_call 41; refine (made_zero b _ ?_).mono ?_; (repeat (first | exact h | apply alloc_keep)); rintro e w' ⟨rfl, rfl⟩)
  go_ret3
  exact ⟨rfl, rfl⟩

set_option maxHeartbeats 1000000 in
theorem closed_nil (w : World) :
    Calls Tryd.prog 14 #[.pointer none] w fun e w' => e = .returned (.bool true) ∧ Grown w w' := by
  go_enter Tryd.func14, Tryd.ntmps14
  go_wp2_with (first | (go_at_call 19; refine (reg_nil _ _).mono ?_; rintro e w' ⟨rfl, rfl⟩) | (go_at_call 41; refine (made_nil _).mono ?_; rintro e w' ⟨rfl, rfl⟩) | go_in)
  go_ret
  exact ⟨rfl, by repeat (first | exact Grown.refl _ | apply Grown.drew | apply Grown.alloc)⟩

set_option maxHeartbeats 1000000 in
theorem zRemove (b : Nat) (q : Value) (w : World) (h : w.cell? ⟨b, 0, none⟩ = some (.pointer none)) :
    Calls Tryd.prog 32 #[.pointer (some ⟨b, 0, none⟩), q] w fun e w' => e = .returned (.int .i64 7) ∧ w' = w := by
  go_enter Tryd.func32, Tryd.ntmps32
  go_wp2_with (go_at_call 41; refine (made_zero b _ ?_).mono ?_; exact h; rintro e w' ⟨rfl, rfl⟩)
  go_ret
  exact ⟨rfl, rfl⟩

set_option maxHeartbeats 1000000 in
theorem zOffer (b : Nat) (q : Value) (w : World) (h : w.cell? ⟨b, 0, none⟩ = some (.pointer none)) :
    Calls Tryd.prog 21 #[.pointer (some ⟨b, 0, none⟩), q] w fun e w' => e = .returned (.tuple #[.int .i64 0, .int .i64 7]) ∧ w' = w := by
  go_enter Tryd.func21, Tryd.ntmps21
  go_wp2_with (go_at_call 41; refine (made_zero b _ ?_).mono ?_; exact h; rintro e w' ⟨rfl, rfl⟩)
  go_ret2
  exact ⟨rfl, rfl⟩

set_option maxHeartbeats 1000000 in
theorem zBeat (b : Nat) (q r : Value) (w : World) (h : w.cell? ⟨b, 0, none⟩ = some (.pointer none)) :
    Calls Tryd.prog 22 #[.pointer (some ⟨b, 0, none⟩), q, r] w fun e w' => e = .returned (.int .i64 7) ∧ w' = w := by
  go_enter Tryd.func22, Tryd.ntmps22
  go_wp2_with (go_at_call 41; refine (made_zero b _ ?_).mono ?_; exact h; rintro e w' ⟨rfl, rfl⟩)
  go_ret
  exact ⟨rfl, rfl⟩

set_option maxHeartbeats 1000000 in
theorem zDrain (b : Nat) (q : Value) (w : World) (h : w.cell? ⟨b, 0, none⟩ = some (.pointer none)) :
    Calls Tryd.prog 25 #[.pointer (some ⟨b, 0, none⟩), q] w fun e w' => e = .returned (.slice none 0 0) ∧ w' = w := by
  go_enter Tryd.func25, Tryd.ntmps25
  go_wp2_with (go_at_call 41; refine (made_zero b _ ?_).mono ?_; exact h; rintro e w' ⟨rfl, rfl⟩)
  go_ret
  exact ⟨rfl, rfl⟩

set_option maxHeartbeats 1000000 in
theorem zWatermark (b : Nat) (w : World) (h : w.cell? ⟨b, 0, none⟩ = some (.pointer none)) :
    Calls Tryd.prog 31 #[.pointer (some ⟨b, 0, none⟩)] w fun e w' => e = .returned (.int .i64 0) ∧ w' = w := by
  go_enter Tryd.func31, Tryd.ntmps31
  go_wp2_with (go_at_call 41; refine (made_zero b _ ?_).mono ?_; exact h; rintro e w' ⟨rfl, rfl⟩)
  go_ret
  exact ⟨rfl, rfl⟩

set_option maxHeartbeats 1000000 in
theorem zQuery (b : Nat) (q : Value) (w : World) (h : w.cell? ⟨b, 0, none⟩ = some (.pointer none)) :
    Calls Tryd.prog 46 #[.pointer (some ⟨b, 0, none⟩), q] w fun e w' => e = .returned (.pointer none) ∧ w' = w := by
  go_enter Tryd.func46, Tryd.ntmps46
  go_wp2_with (go_at_call 41; refine (made_zero b _ ?_).mono ?_; exact h; rintro e w' ⟨rfl, rfl⟩)
  go_ret
  exact ⟨rfl, rfl⟩

set_option maxHeartbeats 1000000 in
theorem zRuns (b : Nat) (q : Value) (w : World) (h : w.cell? ⟨b, 0, none⟩ = some (.pointer none)) :
    Calls Tryd.prog 24 #[.pointer (some ⟨b, 0, none⟩), q] w fun e w' => e = .returned (.int .i64 0) ∧ w' = w := by
  go_enter Tryd.func24, Tryd.ntmps24
  go_wp2_with (go_at_call 46; refine (zQuery b _ _ ?_).mono ?_; exact h; rintro e w' ⟨rfl, rfl⟩)
  go_ret
  exact ⟨rfl, rfl⟩

set_option maxHeartbeats 1000000 in
theorem zWaiting (b : Nat) (q : Value) (w : World) (h : w.cell? ⟨b, 0, none⟩ = some (.pointer none)) :
    Calls Tryd.prog 23 #[.pointer (some ⟨b, 0, none⟩), q] w fun e w' => e = .returned (.int .i64 0) ∧ w' = w := by
  go_enter Tryd.func23, Tryd.ntmps23
  go_wp2_with (go_at_call 46; refine (zQuery b _ _ ?_).mono ?_; exact h; rintro e w' ⟨rfl, rfl⟩)
  go_ret
  exact ⟨rfl, rfl⟩

set_option maxHeartbeats 1000000 in
theorem closed_zero (b : Nat) (w : World) (h : w.cell? ⟨b, 0, none⟩ = some (.pointer none)) :
    Calls Tryd.prog 14 #[.pointer (some ⟨b, 0, none⟩)] w fun e w' => e = .returned (.bool true) ∧ Grown w w' := by
  have H : Hid (w.cell? ⟨b, 0, none⟩ = some (.pointer none)) := h
  clear h
  go_enter Tryd.func14, Tryd.ntmps14
  go_wp2_with (first | (go_at_call 19; refine (reg_zero b _ _ ?_).mono ?_; (repeat (first | exact H.out | apply alloc_keep)); rintro e w' ⟨rfl, rfl⟩) | (go_at_call 32; refine (zRemove b _ _ ?_).mono ?_; (repeat (first | exact H.out | apply alloc_keep)); rintro e w' ⟨rfl, rfl⟩) | (go_at_call 21; refine (zOffer b _ _ ?_).mono ?_; (repeat (first | exact H.out | apply alloc_keep)); rintro e w' ⟨rfl, rfl⟩) | (go_at_call 22; refine (zBeat b _ _ _ ?_).mono ?_; (repeat (first | exact H.out | apply alloc_keep)); rintro e w' ⟨rfl, rfl⟩) | (go_at_call 25; refine (zDrain b _ _ ?_).mono ?_; (repeat (first | exact H.out | apply alloc_keep)); rintro e w' ⟨rfl, rfl⟩) | (go_at_call 31; refine (zWatermark b _ ?_).mono ?_; (repeat (first | exact H.out | apply alloc_keep)); rintro e w' ⟨rfl, rfl⟩) | (go_at_call 24; refine (zRuns b _ _ ?_).mono ?_; (repeat (first | exact H.out | apply alloc_keep)); rintro e w' ⟨rfl, rfl⟩) | (go_at_call 23; refine (zWaiting b _ _ ?_).mono ?_; (repeat (first | exact H.out | apply alloc_keep)); rintro e w' ⟨rfl, rfl⟩) | go_in)
  go_ret
  exact ⟨rfl, by repeat (first | exact Grown.refl _ | apply Grown.drew | apply Grown.alloc)⟩

theorem closed_both (p : Value) (w : World) (h : p = .pointer none ∨ ∃ b, p = .pointer (some ⟨b, 0, none⟩) ∧ w.cell? ⟨b, 0, none⟩ = some (.pointer none)) :
    Calls Tryd.prog 14 #[p] w fun e w' => e = .returned (.bool true) ∧ Grown w w' := by
  rcases h with rfl | ⟨b, rfl, hb⟩
  · exact closed_nil w
  · exact closed_zero b w hb

theorem Grown.trans' {a b c : World} (h : Grown a b) (g : Grown b c) : Grown a c :=
  ⟨World.keptBut_trans h.1 g.1, fun x => (g.2.1 x).trans (h.2.1 x), Nat.le_trans h.2.2 g.2.2⟩

set_option maxHeartbeats 1000000 in
theorem unmade_any (w : World) :
    Calls Tryd.prog 5 #[] w fun e w' => e = .returned (.bool true) ∧ Grown w w' := by
  go_enter Tryd.func5, Tryd.ntmps5
  go_wp2_with (go_at_call 14; refine (closed_both _ _ ?_).mono ?_; (first | exact Or.inl rfl | exact Or.inr ⟨_, rfl, by simp [go_sem]⟩); rintro e w1 ⟨rfl, hg⟩)
  go_ret
  exact ⟨rfl, Grown.trans' ((by assumption : Grown w _).alloc _ _) hg⟩
end Go.Proofs.YtbgfannlfagoiaaDoor
