import Derived.Test.YtbgfannlfagoiaaNewsWalks
import Derived.Deep.OwnRows
namespace Go.Proofs.Ytbgfannlfagoiaa
open Go.RowKit
theorem Try.infoInt : (Try.prog.info? 3).map (fun i => (i.zero, i.size, i.bytes)) = some (some (.int .i64 0), 1, 8) := by kernel_rfl


set_option maxHeartbeats 400000 in
theorem begun_yes (n : Nat) (w : World) (h0 : 0 < n) (h8 : n ≤ 8) :
    Calls Try.prog 4 #[.int .i64 n] w fun e w' => ∃ b eb rb mb pb, e = .returned (.tuple #[.pointer (some ⟨b, 0, none⟩), .bool true]) ∧ Below w.heap.size w w' ∧
      w'.cell? ⟨b, 0, none⟩ = some (.pointer (some ⟨eb, 0, none⟩)) ∧ w'.cell? ⟨b, 1, none⟩ = some (.pointer (some ⟨rb, 0, none⟩)) ∧
      w'.cell? ⟨rb, 0, none⟩ = some (.slice (some ⟨mb, 0, none⟩) n n) ∧ w'.cell? ⟨rb, 2, none⟩ = some (.slice none 0 0) ∧ w'.cell? ⟨rb, 4, none⟩ = some (.int .i64 (-1)) ∧
      (∀ i : Nat, i < n → w'.cell? ⟨mb, i, none⟩ = some (.int .i64 0)) ∧ NE w' eb pb n n := by
  have hmk := run_make_row' (P := Try.prog) 45 3 (.int .i64 0) 8 Try.underlying45 Try.infoInt rfl .i64 .i64 n (by omega) (by omega)
  have hn1 : (1 : Int) ≤ (n : Int) := by omega
  have hn8 : (n : Int) ≤ 8 := by omega
  go_enter Try.func4, Try.ntmps4
  go_wp2
  go_ret2
  refine ⟨w.heap.size + 1 + 1 + 1 + 1, w.heap.size + 1, w.heap.size + 1 + 1 + 1, w.heap.size + 1 + 1, w.heap.size, rfl, by repeat (first | exact Below.refl _ _ | refine Below.alloc ?_ (by simp; try omega) _ | refine Below.setCell ?_ (by simp; try omega) _ | apply Below.drew), ?_, ?_, ?_, ?_, ?_, ?_, ⟨?_, ?_, ?_, ?_, ?_, ?_⟩⟩
  · simp [go_sem]
  · simp [go_sem]
  · simp [go_sem]
  · simp [go_sem]
  · simp [go_sem]
  · intro i hi
    simp [go_sem, madeCells, hi, Nat.mod_one]
  · simp [go_sem]
  · simp [go_sem]
  · simp [go_sem]
  · simp [go_sem]
  · simp [go_sem]
  · intro i hi
    simp [go_sem, madeCells, hi, Nat.mod_one]

set_option maxHeartbeats 400000 in
theorem news_yes (n : Nat) (w : World) (h0 : 0 < n) (h8 : n ≤ 8) :
    Calls Try.prog 3 #[.int .i64 n] w fun e w' => e = .returned (.bool true) ∧ Below w.heap.size w w' := by
  have keep : ∀ {w1 w' : World} {a : Addr} {v : Value}, Below w1.heap.size w1 w' → w1.cell? a = some v → w'.cell? a = some v := fun hg h => (hg.cell (block_lt_of_cell h)).trans h
  go_enter Try.func3, Try.ntmps3
  go_wp2_with (go_at_call 4; refine (begun_yes n _ h0 h8).mono ?_; rintro e w1 ⟨b, eb, rb, mb, pb, rfl, hg, hb0, hb1, c0, c2, c4, hm, hE⟩)
  go_wp2_with (go_at_call 5; refine (counted_new b mb n n eb rb pb n _ h0 h8 hb0 hb1 c0 c2 hm hE).mono ?_; rintro e w2 ⟨rfl, hg2⟩)
  go_wp2_with (go_at_call 6; refine (drained_new b eb rb pb n n (-1) w2 (keep hg2 hb0) (keep hg2 hb1) (keep hg2 c2) (keep hg2 c4) ⟨keep hg2 hE.c0, keep hg2 hE.c1, keep hg2 hE.c3, keep hg2 hE.c5, keep hg2 hE.c6, fun i hi => keep hg2 (hE.ms i hi)⟩).mono ?_; rintro e w3 ⟨rfl, hg3⟩)
  go_ret
  exact ⟨rfl, (hg.trans (hg2.mono hg.size)).trans (hg3.mono (Nat.le_trans hg.size hg2.size))⟩
end Go.Proofs.Ytbgfannlfagoiaa
