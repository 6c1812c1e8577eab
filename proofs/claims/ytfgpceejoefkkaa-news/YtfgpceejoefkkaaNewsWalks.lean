import Derived.Test.YtfgpceejoefkkaaRows
import Derived.WalkKit
import Derived.WalkSpells
import Derived.WalkLawsBesides
import Derived.Deep.QuietTactic
import Derived.BigQuiet
namespace Go.Proofs.Ytfgpceejoefkkaa
open Go.RowKit

set_option maxHeartbeats 400000 in
theorem find_none (b o : Nat) (q : Int) (w : World) (h2 : w.cell? ⟨b, o + 2, none⟩ = some (.slice none 0 0)) :
    Calls Try.prog 18 #[.pointer (some ⟨b, o, none⟩), .int .i64 q] w fun e w' => e = .returned (.pointer none) ∧ w' = w := by
  go_enter Try.func18, Try.ntmps18
  go_wp2
  refine wp_loop_rounds 1 ?_; rw [rounds_succ]
  go_wp2
  go_ret
  exact ⟨rfl, rfl⟩

set_option maxHeartbeats 400000 in
theorem count_none (b o : Nat) (q : Int) (w : World) (h2 : w.cell? ⟨b, o + 2, none⟩ = some (.slice none 0 0)) :
    Calls Try.prog 10 #[.pointer (some ⟨b, o, none⟩), .int .i64 q] w fun e w' => e = .returned (.tuple #[.int .i64 0, .int .i64 0]) ∧ w' = w := by
  go_enter Try.func10, Try.ntmps10
  go_wp2_with (go_at_call 18; refine (find_none _ _ _ _ ?_).mono ?_; exact h2; rintro e w' ⟨rfl, rfl⟩)
  go_ret2
  exact ⟨rfl, rfl⟩

set_option maxHeartbeats 400000 in
theorem serve_none (b o : Nat) (s : Int) (w : World) (h2 : w.cell? ⟨b, o + 2, none⟩ = some (.slice none 0 0)) (h4 : w.cell? ⟨b, o + 4, none⟩ = some (.int .i64 s)) :
    Calls Try.prog 20 #[.pointer (some ⟨b, o, none⟩)] w fun e w' => e = .returned (.pointer none) ∧ w' = w := by
  go_enter Try.func20, Try.ntmps20
  go_wp2_with (go_at_call 18; refine (find_none _ _ _ _ ?_).mono ?_; exact h2; rintro e w' ⟨rfl, rfl⟩)
  refine wp_loop_rounds 3 ?_; rw [rounds_succ]
  go_wp2
  refine wp_loop_rounds 1 ?_; rw [rounds_succ]
  go_wp2
  rw [rounds_succ]
  go_wp2
  refine wp_loop_rounds 1 ?_; rw [rounds_succ]
  go_wp2
  rw [rounds_succ]
  go_wp2
  go_ret
  exact ⟨rfl, rfl⟩

set_option maxHeartbeats 400000 in
theorem drain_none (b o : Nat) (s : Int) (w : World) (h2 : w.cell? ⟨b, o + 2, none⟩ = some (.slice none 0 0)) (h4 : w.cell? ⟨b, o + 4, none⟩ = some (.int .i64 s)) :
    Calls Try.prog 16 #[.pointer (some ⟨b, o, none⟩), .int .i64 3] w fun e w' => e = .returned (.slice none 0 0) ∧ w' = w := by
  go_enter Try.func16, Try.ntmps16
  go_wp2
  refine wp_loop_rounds 1 ?_; rw [rounds_succ]
  go_wp2_with (go_at_call 20; refine (serve_none _ _ s _ ?_ ?_).mono ?_; exact h2; exact h4; rintro e w' ⟨rfl, rfl⟩)
  go_ret
  exact ⟨rfl, rfl⟩

set_option maxHeartbeats 400000 in
theorem mark_zero (b o mb n c : Nat) (w : World) (hn : 0 < n) (hn8 : n ≤ 8) (h0 : w.cell? ⟨b, o, none⟩ = some (.slice (some ⟨mb, 0, none⟩) n c)) (hm : ∀ i : Nat, i < n → w.cell? ⟨mb, i, none⟩ = some (.int .i64 0)) :
    Calls Try.prog 12 #[.pointer (some ⟨b, o, none⟩)] w fun e w' => e = .returned (.int .i64 0) ∧ w' = w := by
  have hm0 := hm 0 hn
  go_enter Try.func12, Try.ntmps12
  go_wp2
  go_loop [3, 4] (fun m i => ∃ k : Nat, k ≤ n ∧ m = .int .i64 0 ∧ i = .int .i64 k) (fun _ i => n - (intOf i).toNat)
  case atStart => exact ⟨1, hn, rfl, rfl⟩
  case round =>
    obtain ⟨k, hk, rfl, rfl⟩ := hrel
    by_cases hlt : k < n
    · have hmk := hm k hlt
      go_wp2
      go_round
      case rel => exact ⟨k + 1, by omega, rfl, by go_num⟩
      case measure => simp [intOf]; omega
    · go_wp2
      go_ret
      exact ⟨rfl, rfl⟩

set_option maxHeartbeats 400000 in
theorem same_none (w : World) :
    Calls Try.prog 17 #[.slice none 0 0, .slice none 0 0] w fun e w' => e = .returned (.bool true) ∧ w' = w := by
  go_enter Try.func17, Try.ntmps17
  go_wp2
  refine wp_loop_rounds 1 ?_; rw [rounds_succ]
  go_wp2
  go_ret
  exact ⟨rfl, rfl⟩


theorem wm_any (p : Value) (w : World) : Calls Try.prog 11 #[p] w fun e w' => e = .returned (.int .i64 0) ∧ w' = w := by
  go_enter Try.func11, Try.ntmps11
  go_wp2
  go_ret
  exact ⟨rfl, rfl⟩
theorem runs_any (p q : Value) (w : World) : Calls Try.prog 13 #[p, q] w fun e w' => e = .returned (.int .i64 0) ∧ w' = w := by
  go_enter Try.func13, Try.ntmps13
  go_wp2
  go_ret
  exact ⟨rfl, rfl⟩
theorem waiting_any (p q : Value) (w : World) : Calls Try.prog 14 #[p, q] w fun e w' => e = .returned (.int .i64 0) ∧ w' = w := by
  go_enter Try.func14, Try.ntmps14
  go_wp2
  go_ret
  exact ⟨rfl, rfl⟩
theorem drainp_any (p q : Value) (w : World) : Calls Try.prog 15 #[p, q] w fun e w' => e = .returned (.slice none 0 0) ∧ w' = w := by
  go_enter Try.func15, Try.ntmps15
  go_wp2
  go_ret
  exact ⟨rfl, rfl⟩

set_option maxHeartbeats 400000 in
theorem counted_new (b mb n c : Nat) (eb rb : Nat) (w : World) (hn : 0 < n) (hn8 : n ≤ 8) (hb0 : w.cell? ⟨b, 0, none⟩ = some (.pointer (some ⟨eb, 0, none⟩))) (hb1 : w.cell? ⟨b, 1, none⟩ = some (.pointer (some ⟨rb, 0, none⟩)))
    (h0 : w.cell? ⟨rb, 0, none⟩ = some (.slice (some ⟨mb, 0, none⟩) n c)) (h2 : w.cell? ⟨rb, 2, none⟩ = some (.slice none 0 0)) (hm : ∀ i : Nat, i < n → w.cell? ⟨mb, i, none⟩ = some (.int .i64 0)) :
    Calls Try.prog 5 #[.pointer (some ⟨b, 0, none⟩), .int .i64 0] w fun e w' => e = .returned (.bool true) ∧ ∃ k, w' = w.drewN k := by
  go_enter Try.func5, Try.ntmps5
  go_wp2_with (go_at_call 10; refine (count_none _ _ _ _ ?_).mono ?_; exact h2; rintro e w' ⟨rfl, rfl⟩)
  go_quiet ((first | (go_at_call 12; exact Calls.quiet_of_same (mark_zero _ _ _ _ _ _ hn hn8 (by assumption) (by assumption))) | (go_at_call 11; exact Calls.quiet_of_same (wm_any _ _)) | (go_at_call 13; exact Calls.quiet_of_same (runs_any _ _ _)) | (go_at_call 14; exact Calls.quiet_of_same (waiting_any _ _ _))))
  go_wp2
  go_ret
  exact ⟨rfl, nq, rfl⟩

set_option maxHeartbeats 400000 in
theorem drained_new (b eb rb : Nat) (s : Int) (w : World) (hb0 : w.cell? ⟨b, 0, none⟩ = some (.pointer (some ⟨eb, 0, none⟩))) (hb1 : w.cell? ⟨b, 1, none⟩ = some (.pointer (some ⟨rb, 0, none⟩)))
    (h2 : w.cell? ⟨rb, 2, none⟩ = some (.slice none 0 0)) (h4 : w.cell? ⟨rb, 4, none⟩ = some (.int .i64 s)) :
    Calls Try.prog 6 #[.pointer (some ⟨b, 0, none⟩), .int .i64 3] w fun e w' => e = .returned (.tuple #[.slice none 0 0, .bool true]) ∧ w' = w := by
  go_enter Try.func6, Try.ntmps6
  go_wp2_with (first | (go_at_call 16; refine (drain_none _ _ s _ ?_ ?_).mono ?_; exact h2; exact h4; rintro e w' ⟨rfl, rfl⟩) | (go_at_call 15; refine (drainp_any _ _ _).mono ?_; rintro e w' ⟨rfl, rfl⟩) | (go_at_call 17; refine (same_none _).mono ?_; rintro e w' ⟨rfl, rfl⟩))
  go_ret2
  exact ⟨rfl, rfl⟩

set_option maxHeartbeats 400000 in
theorem news_no (a : Int) (w : World) (h : a < 1 ∨ 8 < a) :
    Calls Try.prog 3 #[.int .i64 a] w fun e w' => e = .returned (.bool true) ∧ Grown w w' := by
  rcases h with h | h
  · go_enter Try.func3, Try.ntmps3
    go_wp2
    go_ret
    exact ⟨rfl, by repeat (first | exact Grown.refl _ | apply Grown.drew | apply Grown.alloc)⟩
  · have h' : ¬ a < 1 := by omega
    go_enter Try.func3, Try.ntmps3
    go_wp2
    go_ret
    exact ⟨rfl, by repeat (first | exact Grown.refl _ | apply Grown.drew | apply Grown.alloc)⟩

end Go.Proofs.Ytfgpceejoefkkaa
