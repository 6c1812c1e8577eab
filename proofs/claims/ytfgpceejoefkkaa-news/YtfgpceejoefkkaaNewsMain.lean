import Derived.Test.YtfgpceejoefkkaaNewsWalks
import Derived.Deep.OwnRows
namespace Go.Proofs.Ytfgpceejoefkkaa
open Go.RowKit
theorem Try.infoInt : (Try.prog.info? 3).map (fun i => (i.zero, i.size, i.bytes)) = some (some (.int .i64 0), 1, 8) := by kernel_rfl


set_option maxHeartbeats 400000 in
theorem begun_yes (n : Nat) (w : World) (h0 : 0 < n) (h8 : n ≤ 8) :
    Calls Try.prog 4 #[.int .i64 n] w fun e w' => ∃ b eb rb mb, e = .returned (.tuple #[.pointer (some ⟨b, 0, none⟩), .bool true]) ∧ Grown w w' ∧
      w'.cell? ⟨b, 0, none⟩ = some (.pointer (some ⟨eb, 0, none⟩)) ∧ w'.cell? ⟨b, 1, none⟩ = some (.pointer (some ⟨rb, 0, none⟩)) ∧
      w'.cell? ⟨rb, 0, none⟩ = some (.slice (some ⟨mb, 0, none⟩) n n) ∧ w'.cell? ⟨rb, 2, none⟩ = some (.slice none 0 0) ∧ w'.cell? ⟨rb, 4, none⟩ = some (.int .i64 (-1)) ∧
      (∀ i : Nat, i < n → w'.cell? ⟨mb, i, none⟩ = some (.int .i64 0)) := by
  have hmk := run_make_row' (P := Try.prog) 48 3 (.int .i64 0) 8 Try.underlying48 Try.infoInt rfl .i64 .i64 n (by omega) (by omega)
  go_enter Try.func4, Try.ntmps4
  go_wp2
  go_ret2
  refine ⟨_, w.heap.size, w.heap.size + 1 + 1, w.heap.size + 1, rfl, by repeat (first | exact Grown.refl _ | apply Grown.drew | apply Grown.alloc), ?_, ?_, ?_, ?_, ?_, ?_⟩
  · simp [go_sem]
  · simp [go_sem]
  · simp [go_sem]
  · simp [go_sem]
  · simp [go_sem]
  · intro i hi
    simp [go_sem, madeCells, hi, Nat.mod_one]

theorem grown_drewN {w w1 : World} (h : Grown w w1) (k : Nat) : Grown w (w1.drewN k) := by
  induction k with
  | zero => exact h
  | succ k ih => rw [← World.drew_drewN]; exact ih.drew

set_option maxHeartbeats 400000 in
theorem news_yes (n : Nat) (w : World) (h0 : 0 < n) (h8 : n ≤ 8) :
    Calls Try.prog 3 #[.int .i64 n] w fun e w' => e = .returned (.bool true) ∧ Grown w w' := by
  go_enter Try.func3, Try.ntmps3
  go_wp2_with (go_at_call 4; refine (begun_yes n _ h0 h8).mono ?_; rintro e w1 ⟨b, eb, rb, mb, rfl, hg, hb0, hb1, c0, c2, c4, hm⟩)
  go_wp2_with (go_at_call 5; refine (counted_new b mb n n eb rb _ h0 h8 hb0 hb1 c0 c2 hm).mono ?_; rintro e w2 ⟨rfl, k, rfl⟩)
  go_wp2_with (go_at_call 6; refine (drained_new b eb rb (-1) (w1.drewN k) hb0 hb1 c2 c4).mono ?_; rintro e w2 ⟨rfl, rfl⟩)
  go_ret
  exact ⟨rfl, grown_drewN hg k⟩
end Go.Proofs.Ytfgpceejoefkkaa
