import Derived.Test.YtfgpceejoefkkaaDoorTextsSame
import Derived.Deep.OwnRows
namespace Go.Proofs.YtfgpceejoefkkaaDoor
open Go.RowKit Go.Lull
set_option linter.unusedVariables false

set_option maxHeartbeats 400000 in
theorem begun_n (n : Nat) (w : World) (h0 : 0 < n) (h8 : n ≤ 8) :
    Calls Tryd.prog 5 #[.int .i64 n] w fun e w' => e = .returned (.tuple #[.pointer (some ⟨w.heap.size + 3, 0, none⟩), .bool true]) ∧ Below w.heap.size w w' ∧
      w'.heap[w.heap.size]? = some (.cells #[.pointer (some ⟨w.heap.size, 0, none⟩), .int .i64 n, .slice none 0 0, .int .i64 0] 34 (0, 0)) ∧
      w'.heap[w.heap.size + 2]? = some (.cells #[.slice (some ⟨w.heap.size + 1, 0, none⟩) n n, .slice none 0 0, .slice none 0 0, .int .i64 0, .int .i64 (-1), .int .i64 0] 63 (0, 0)) ∧
      w'.heap[w.heap.size + 3]? = some (.cells #[.pointer (some ⟨w.heap.size, 0, none⟩), .pointer (some ⟨w.heap.size + 2, 0, none⟩)] 44 (0, 0)) := by
  have hmk := run_make_row' (P := Tryd.prog) 26 3 (.int .i64 0) 8 Tryd.underlying26 Tryd.infoI rfl .i64 .i64 n (by omega) (by omega)
  go_enter Tryd.func5, Tryd.ntmps5
  go_wp2
  go_ret2
  refine ⟨rfl, (((((Below.refl _ _).alloc (Nat.le_refl _) _).alloc (by simp) _).alloc (by simp; omega) _).alloc (by simp; omega) _), ?_, ?_, ?_⟩
  · rw [Below.heap_alloc _ _ _ (by simp; omega), Below.heap_alloc _ _ _ (by simp; omega), Below.heap_alloc _ _ _ (by simp), heap_alloc_new]
  · rw [Below.heap_alloc _ _ _ (by simp)]
    have := heap_alloc_new ((w.alloc (.cells #[.pointer (some ⟨w.heap.size, 0, none⟩), .int .i64 n, .slice none 0 0, .int .i64 0] 34)).alloc (.cells (madeCells #[.int .i64 0] n) 3)) (.cells #[.slice (some ⟨w.heap.size + 1, 0, none⟩) n n, .slice none 0 0, .slice none 0 0, .int .i64 0, .int .i64 (-1), .int .i64 0] 63)
    simpa using this
  · have := heap_alloc_new (((w.alloc (.cells #[.pointer (some ⟨w.heap.size, 0, none⟩), .int .i64 n, .slice none 0 0, .int .i64 0] 34)).alloc (.cells (madeCells #[.int .i64 0] n) 3)).alloc (.cells #[.slice (some ⟨w.heap.size + 1, 0, none⟩) n n, .slice none 0 0, .slice none 0 0, .int .i64 0, .int .i64 (-1), .int .i64 0] 63)) (.cells #[.pointer (some ⟨w.heap.size, 0, none⟩), .pointer (some ⟨w.heap.size + 2, 0, none⟩)] 44)
    simpa using this
end Go.Proofs.YtfgpceejoefkkaaDoor
