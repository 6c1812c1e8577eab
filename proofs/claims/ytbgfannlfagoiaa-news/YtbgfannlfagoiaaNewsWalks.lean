import Derived.Test.YtbgfannlfagoiaaMayHave
import Derived.Deep.QuietTactic
import Derived.BigQuiet
import Derived.Shelf.SlSortCmp.QuietGrown
namespace Go.Proofs.Ytbgfannlfagoiaa
open Go.RowKit

set_option maxHeartbeats 400000 in
theorem find_none (b o : Nat) (q : Int) (w : World) (h2 : w.cell? ⟨b, o + 2, none⟩ = some (.slice none 0 0)) :
    Calls Try.prog 19 #[.pointer (some ⟨b, o, none⟩), .int .i64 q] w fun e w' => e = .returned (.pointer none) ∧ w' = w := by
  go_enter Try.func19, Try.ntmps19
  go_wp2
  refine wp_loop_rounds 1 ?_; rw [rounds_succ]
  go_wp2
  go_ret
  exact ⟨rfl, rfl⟩

set_option maxHeartbeats 400000 in
theorem count_none (b o : Nat) (q : Int) (w : World) (h2 : w.cell? ⟨b, o + 2, none⟩ = some (.slice none 0 0)) :
    Calls Try.prog 10 #[.pointer (some ⟨b, o, none⟩), .int .i64 q] w fun e w' => e = .returned (.tuple #[.int .i64 0, .int .i64 0]) ∧ w' = w := by
  go_enter Try.func10, Try.ntmps10
  go_wp2_with (go_at_call 19; refine (find_none _ _ _ _ ?_).mono ?_; exact h2; rintro e w' ⟨rfl, rfl⟩)
  go_ret2
  exact ⟨rfl, rfl⟩

set_option maxHeartbeats 400000 in
theorem serve_none (b o : Nat) (s : Int) (w : World) (h2 : w.cell? ⟨b, o + 2, none⟩ = some (.slice none 0 0)) (h4 : w.cell? ⟨b, o + 4, none⟩ = some (.int .i64 s)) :
    Calls Try.prog 27 #[.pointer (some ⟨b, o, none⟩)] w fun e w' => e = .returned (.pointer none) ∧ w' = w := by
  go_enter Try.func27, Try.ntmps27
  go_wp2_with (go_at_call 19; refine (find_none _ _ _ _ ?_).mono ?_; exact h2; rintro e w' ⟨rfl, rfl⟩)
  refine wp_loop_rounds 3 ?_; rw [rounds_succ]
  go_wp2
  refine wp_loop_rounds 1 ?_; rw [rounds_succ]
  go_wp2
  rw [rounds_succ]
  go_wp2
  refine wp_loop_rounds 1 ?_; rw [rounds_succ]
  go_wp2
  rw [rounds_succ]
  go_wp2
  go_ret
  exact ⟨rfl, rfl⟩

set_option maxHeartbeats 400000 in
theorem drain_none (b o : Nat) (s : Int) (w : World) (h2 : w.cell? ⟨b, o + 2, none⟩ = some (.slice none 0 0)) (h4 : w.cell? ⟨b, o + 4, none⟩ = some (.int .i64 s)) :
    Calls Try.prog 16 #[.pointer (some ⟨b, o, none⟩), .int .i64 3] w fun e w' => e = .returned (.slice none 0 0) ∧ w' = w := by
  go_enter Try.func16, Try.ntmps16
  go_wp2
  refine wp_loop_rounds 1 ?_; rw [rounds_succ]
  go_wp2_with (go_at_call 27; refine (serve_none _ _ s _ ?_ ?_).mono ?_; exact h2; exact h4; rintro e w' ⟨rfl, rfl⟩)
  go_ret
  exact ⟨rfl, rfl⟩

set_option maxHeartbeats 400000 in
theorem mark_zero (b o mb n c : Nat) (w : World) (hn : 0 < n) (hn8 : n ≤ 8) (h0 : w.cell? ⟨b, o, none⟩ = some (.slice (some ⟨mb, 0, none⟩) n c)) (hm : ∀ i : Nat, i < n → w.cell? ⟨mb, i, none⟩ = some (.int .i64 0)) :
    Calls Try.prog 12 #[.pointer (some ⟨b, o, none⟩)] w fun e w' => e = .returned (.int .i64 0) ∧ w' = w := by
  have hm0 := hm 0 hn
  go_enter Try.func12, Try.ntmps12
  go_wp2
  go_loop [3, 4] (fun m i => ∃ k : Nat, k ≤ n ∧ m = .int .i64 0 ∧ i = .int .i64 k) (fun _ i => n - (intOf i).toNat)
  case atStart => exact ⟨1, hn, rfl, rfl⟩
  case round =>
    obtain ⟨k, hk, rfl, rfl⟩ := hrel
    by_cases hlt : k < n
    · have hmk := hm k hlt
      go_wp2
      go_round
      case rel => exact ⟨k + 1, by omega, rfl, by go_num⟩
      case measure => simp [intOf]; omega
    · go_wp2
      go_ret
      exact ⟨rfl, rfl⟩

set_option maxHeartbeats 400000 in
theorem same_none (w : World) :
    Calls Try.prog 17 #[.slice none 0 0, .slice none 0 0] w fun e w' => e = .returned (.bool true) ∧ w' = w := by
  go_enter Try.func17, Try.ntmps17
  go_wp2
  refine wp_loop_rounds 1 ?_; rw [rounds_succ]
  go_wp2
  go_ret
  exact ⟨rfl, rfl⟩


set_option maxHeartbeats 400000 in
theorem min_zero (mb c n : Nat) (w : World) (hn : 0 < n) (hn8 : n ≤ 8) (hm : ∀ i : Nat, i < n → w.cell? ⟨mb, i, none⟩ = some (.int .i64 0)) :
    Calls Try.prog 22 #[.slice (some ⟨mb, 0, none⟩) n c] w fun e w' => e = .returned (.int .i64 0) ∧ w' = w := by
  have hm0 := hm 0 hn
  have hn1 : ¬ n < 1 := by omega
  have hn2 : ¬ (n : Int) < 1 := by omega
  go_enter Try.func22, Try.ntmps22
  go_wp2
  go_loop [3, 4] (fun m i => ∃ k : Nat, k ≤ n ∧ m = .int .i64 0 ∧ i = .int .i64 k) (fun _ i => n - (intOf i).toNat)
  case atStart => exact ⟨1, hn, rfl, rfl⟩
  case round =>
    obtain ⟨k, hk, rfl, rfl⟩ := hrel
    by_cases hlt : k < n
    · have hmk := hm k hlt
      go_wp2
      go_round
      case rel => exact ⟨k + 1, by omega, rfl, by go_num⟩
      case measure => simp [intOf]; omega
    · go_wp2
      go_ret
      exact ⟨rfl, rfl⟩

/-- A new Engine of the program. -/
structure NE (w : World) (eb mb n c : Nat) : Prop where
  c0 : w.cell? ⟨eb, 0, none⟩ = some (.pointer (some ⟨eb, 0, none⟩))
  c1 : w.cell? ⟨eb, 1, none⟩ = some (.slice (some ⟨mb, 0, none⟩) n c)
  c3 : w.cell? ⟨eb, 3, none⟩ = some (.slice none 0 0)
  c5 : w.cell? ⟨eb, 5, none⟩ = some (.int .i64 0)
  c6 : w.cell? ⟨eb, 6, none⟩ = some (.int .i64 0)
  ms : ∀ i : Nat, i < n → w.cell? ⟨mb, i, none⟩ = some (.int .i64 0)
theorem NE.drewN {w : World} {eb mb n c : Nat} (h : NE w eb mb n c) (k : Nat) : NE (w.drewN k) eb mb n c := ⟨h.c0, h.c1, h.c3, h.c5, h.c6, h.ms⟩
theorem NE.alloc {w : World} {eb mb n c : Nat} (h : NE w eb mb n c) (o : Obj) : NE (w.alloc o) eb mb n c :=
  ⟨alloc_keep _ h.c0, alloc_keep _ h.c1, alloc_keep _ h.c3, alloc_keep _ h.c5, alloc_keep _ h.c6, fun i hi => alloc_keep _ (h.ms i hi)⟩

set_option maxHeartbeats 400000 in
theorem wm_new (eb mb n c : Nat) (w : World) (hn : 0 < n) (hn8 : n ≤ 8) (h : NE w eb mb n c) : Calls Try.prog 11 #[.pointer (some ⟨eb, 0, none⟩)] w fun e w' => e = .returned (.int .i64 0) ∧ w' = w := by
  have hmade := made_yes eb w h.c0
  have hmin := min_zero mb c n w hn hn8 h.ms
  have h1 := h.c1
  clear h
  go_enter Try.func11, Try.ntmps11
  go_wp2_with (first | (go_at_call 21; refine hmade.mono ?_; rintro e w' ⟨rfl, rfl⟩) | (go_at_call 22; refine hmin.mono ?_; rintro e w' ⟨rfl, rfl⟩))
  go_ret
  exact ⟨rfl, rfl⟩
set_option maxHeartbeats 400000 in
theorem find_new (eb mb n c : Nat) (q : Int) (w : World) (h : NE w eb mb n c) : Calls Try.prog 33 #[.pointer (some ⟨eb, 0, none⟩), .int .i64 q] w fun e w' => e = .returned (.int .i64 (-1)) ∧ w' = w.alloc (.cells #[.int .i64 q] 3) := by
  have h3 := h.c3
  have hl := block_lt_of_cell h3
  simp only at hl
  clear h
  go_enter Try.func33, Try.ntmps33
  go_wp2_with (go_in)
  refine wp_loop_rounds 1 ?_; rw [rounds_succ]
  go_wp2
  go_ret
  exact ⟨rfl, rfl⟩
set_option maxHeartbeats 400000 in
theorem query_new (eb mb n c : Nat) (q : Int) (w : World) (h : NE w eb mb n c) : Calls Try.prog 23 #[.pointer (some ⟨eb, 0, none⟩), .int .i64 q] w fun e w' => e = .returned (.pointer none) ∧ w' = w.alloc (.cells #[.int .i64 q] 3) := by
  have hmade := made_yes eb w h.c0
  have hf := find_new eb mb n c q w h
  clear h
  go_enter Try.func23, Try.ntmps23
  go_wp2_with (first | (go_at_call 21; refine hmade.mono ?_; rintro e w' ⟨rfl, rfl⟩) | (go_at_call 33; refine hf.mono ?_; rintro e w' ⟨rfl, rfl⟩))
  go_ret
  exact ⟨rfl, rfl⟩
set_option maxHeartbeats 400000 in
theorem runs_new (eb mb n c : Nat) (q : Int) (w : World) (h : NE w eb mb n c) : Calls Try.prog 13 #[.pointer (some ⟨eb, 0, none⟩), .int .i64 q] w fun e w' => e = .returned (.int .i64 0) ∧ w' = w.alloc (.cells #[.int .i64 q] 3) := by
  have hf := query_new eb mb n c q w h
  clear h
  go_enter Try.func13, Try.ntmps13
  go_wp2_with (go_at_call 23; refine hf.mono ?_; rintro e w' ⟨rfl, rfl⟩)
  go_ret
  exact ⟨rfl, rfl⟩
set_option maxHeartbeats 400000 in
theorem waiting_new (eb mb n c : Nat) (q : Int) (w : World) (h : NE w eb mb n c) : Calls Try.prog 14 #[.pointer (some ⟨eb, 0, none⟩), .int .i64 q] w fun e w' => e = .returned (.int .i64 0) ∧ w' = w.alloc (.cells #[.int .i64 q] 3) := by
  have hf := query_new eb mb n c q w h
  clear h
  go_enter Try.func14, Try.ntmps14
  go_wp2_with (go_at_call 23; refine hf.mono ?_; rintro e w' ⟨rfl, rfl⟩)
  go_ret
  exact ⟨rfl, rfl⟩
set_option maxHeartbeats 400000 in
theorem behind_new (eb mb n c : Nat) (q : Int) (w : World) (h : NE w eb mb n c) : Calls Try.prog 35 #[.pointer (some ⟨eb, 0, none⟩), .int .i64 q] w fun e w' => e = .returned (.slice none 0 0) ∧ w' = w := by
  have h3 := h.c3
  clear h
  go_enter Try.func35, Try.ntmps35
  go_wp2
  refine wp_loop_rounds 1 ?_; rw [rounds_succ]
  go_wp2
  go_ret
  exact ⟨rfl, rfl⟩
set_option maxHeartbeats 400000 in
theorem servep_new (eb mb n c : Nat) (w : World) (h : NE w eb mb n c) : Calls Try.prog 26 #[.pointer (some ⟨eb, 0, none⟩)] w fun e w' => e = .returned (.tuple #[.agg #[.int .i64 0, .int .i64 0, .slice none 0 0], .bool false]) ∧ Below w.heap.size w w' := by
  have h5 := h.c5
  have h6 := h.c6
  have hl := block_lt_of_cell h5
  simp only at hl
  have hf := Hid.mk' (fun o => query_new eb mb n c 0 (w.alloc o) (h.alloc o))
  have hb := Hid.mk' (fun o o' => behind_new eb mb n c 0 ((w.alloc o).alloc o') ((h.alloc o).alloc o'))
  clear h
  go_enter Try.func26, Try.ntmps26
  go_wp2_with (first | (go_at_call 23; refine (hf.out _).mono ?_; rintro e w' ⟨rfl, rfl⟩) | (go_at_call 35; refine (hb.out _ _).mono ?_; rintro e w' ⟨rfl, rfl⟩))
  refine wp_loop_rounds 1 ?_; rw [rounds_succ]
  go_wp2
  refine bodyPost_ret (v := .tuple #[.agg #[.int .i64 0, .int .i64 0, .slice none 0 0], .bool false]) (by simp [results, Try.results26, go_sem]) rfl ⟨rfl, ?_⟩
  repeat (first | exact Below.refl _ _ | refine Below.alloc ?_ (by simp; try omega) _ | apply Below.drew)
set_option maxHeartbeats 400000 in
theorem drainp_new (eb mb n c : Nat) (w : World) (h : NE w eb mb n c) : Calls Try.prog 15 #[.pointer (some ⟨eb, 0, none⟩), .int .i64 3] w fun e w' => e = .returned (.slice none 0 0) ∧ Below w.heap.size w w' := by
  have hmade := made_yes eb w h.c0
  have hs := servep_new eb mb n c w h
  clear h
  go_enter Try.func15, Try.ntmps15
  go_wp2_with (go_at_call 21; refine hmade.mono ?_; rintro e w' ⟨rfl, rfl⟩)
  refine wp_loop_rounds 1 ?_; rw [rounds_succ]
  go_wp2_with (go_at_call 26; refine hs.mono ?_; rintro e w' ⟨rfl, hg⟩)
  go_ret
  exact ⟨rfl, hg.alloc hg.size _⟩

theorem alloc_grow (w : World) (o : Obj) : w.alloc o = Go.Sort.grow w #[o] := by
  unfold Go.Sort.grow World.alloc
  rw [Array.push_eq_append]
theorem NE.grow {w : World} {eb mb n c : Nat} (h : NE w eb mb n c) (k : Nat) (os : Array Obj) : NE (Go.Sort.grow (w.drewN k) os) eb mb n c :=
  ⟨cell_grown (block_lt_of_cell h.c0) h.c0 k os, cell_grown (block_lt_of_cell h.c1) h.c1 k os, cell_grown (block_lt_of_cell h.c3) h.c3 k os, cell_grown (block_lt_of_cell h.c5) h.c5 k os, cell_grown (block_lt_of_cell h.c6) h.c6 k os, fun i hi => cell_grown (block_lt_of_cell (h.ms i hi)) (h.ms i hi) k os⟩
theorem below_grow (w : World) (k : Nat) (os : Array Obj) : Below w.heap.size w (Go.Sort.grow (w.drewN k) os) :=
  ⟨rfl, rfl, rfl, by simp [Go.Sort.grow], fun j hj => by show (w.heap ++ os)[j]? = _; rw [Array.getElem?_append_left hj]⟩

set_option maxHeartbeats 1000000 in
theorem counted_new (b mb n c : Nat) (eb rb pb pc : Nat) (w : World) (hn : 0 < n) (hn8 : n ≤ 8) (hb0 : w.cell? ⟨b, 0, none⟩ = some (.pointer (some ⟨eb, 0, none⟩))) (hb1 : w.cell? ⟨b, 1, none⟩ = some (.pointer (some ⟨rb, 0, none⟩)))
    (h0 : w.cell? ⟨rb, 0, none⟩ = some (.slice (some ⟨mb, 0, none⟩) n c)) (h2 : w.cell? ⟨rb, 2, none⟩ = some (.slice none 0 0)) (hm : ∀ i : Nat, i < n → w.cell? ⟨mb, i, none⟩ = some (.int .i64 0)) (hE : NE w eb pb n pc) :
    Calls Try.prog 5 #[.pointer (some ⟨b, 0, none⟩), .int .i64 0] w fun e w' => e = .returned (.bool true) ∧ Below w.heap.size w w' := by
  go_enter Try.func5, Try.ntmps5
  go_wp2_with (go_at_call 10; refine (count_none _ _ _ _ ?_).mono ?_; exact h2; rintro e w' ⟨rfl, rfl⟩)
  have g0 := cell_grown (block_lt_of_cell hb0) hb0
  have g1 := cell_grown (block_lt_of_cell hb1) hb1
  have cW := Hid.mk' (fun k os => (wm_new eb pb n pc _ hn hn8 (hE.grow k os)).mono (fun e w2 (h : _ ∧ _) => (⟨h.1, 0, #[], by rw [h.2, Go.Sort.grow_empty]; rfl⟩ : _ ∧ ∃ q os', w2 = Go.Sort.grow ((Go.Sort.grow (w'.drewN k) os).drewN q) os')))
  have cM := Hid.mk' (fun k os => (mark_zero rb 0 mb n c (Go.Sort.grow (w'.drewN k) os) hn hn8 (cell_grown (block_lt_of_cell h0) h0 k os) (fun i hi => cell_grown (block_lt_of_cell (hm i hi)) (hm i hi) k os)).mono (fun e w2 (h : _ ∧ _) => (⟨h.1, 0, #[], by rw [h.2, Go.Sort.grow_empty]; rfl⟩ : _ ∧ ∃ q os', w2 = Go.Sort.grow ((Go.Sort.grow (w'.drewN k) os).drewN q) os')))
  have cR := Hid.mk' (fun k os => (runs_new eb pb n pc 0 _ (hE.grow k os)).mono (fun e w2 (h : _ ∧ _) => (⟨h.1, 0, #[.cells #[.int .i64 0] 3], by rw [h.2, alloc_grow]; rfl⟩ : _ ∧ ∃ q os', w2 = Go.Sort.grow ((Go.Sort.grow (w'.drewN k) os).drewN q) os')))
  have cT := Hid.mk' (fun k os => (waiting_new eb pb n pc 0 _ (hE.grow k os)).mono (fun e w2 (h : _ ∧ _) => (⟨h.1, 0, #[.cells #[.int .i64 0] 3], by rw [h.2, alloc_grow]; rfl⟩ : _ ∧ ∃ q os', w2 = Go.Sort.grow ((Go.Sort.grow (w'.drewN k) os).drewN q) os')))
  clear hE hm h0 h2 hb0 hb1
  refine wp_region_quiet_grown (by kernel_rfl) (by kernel_rfl) ?_
  repeat (quiet_step (first | (go_at_call 11; refine Calls.grown_of (cW.out _ _)) | (go_at_call 12; refine Calls.grown_of (cM.out _ _)) | (go_at_call 13; refine Calls.grown_of (cR.out _ _)) | (go_at_call 14; refine Calls.grown_of (cT.out _ _))))
  refine wpQuiet_nil ?_
  intro _ hw'
  obtain ⟨⟨nq, osq⟩, hw''⟩ := hw'
  subst hw''
  go_wp2
  go_ret
  exact ⟨rfl, below_grow _ _ _⟩

set_option maxHeartbeats 400000 in
theorem drained_new (b eb rb mb n c : Nat) (s : Int) (w : World) (hb0 : w.cell? ⟨b, 0, none⟩ = some (.pointer (some ⟨eb, 0, none⟩))) (hb1 : w.cell? ⟨b, 1, none⟩ = some (.pointer (some ⟨rb, 0, none⟩)))
    (h2 : w.cell? ⟨rb, 2, none⟩ = some (.slice none 0 0)) (h4 : w.cell? ⟨rb, 4, none⟩ = some (.int .i64 s)) (hE : NE w eb mb n c) :
    Calls Try.prog 6 #[.pointer (some ⟨b, 0, none⟩), .int .i64 3] w fun e w' => e = .returned (.tuple #[.slice none 0 0, .bool true]) ∧ Below w.heap.size w w' := by
  have hd := drainp_new eb mb n c w hE
  have h1' := Hid.mk' hb1
  have h2' := Hid.mk' h2
  have h4' := Hid.mk' h4
  have keep : ∀ {w' : World} {a : Addr} {v : Value}, Below w.heap.size w w' → w.cell? a = some v → w'.cell? a = some v := fun hg h => (hg.cell (block_lt_of_cell h)).trans h
  clear hE
  go_enter Try.func6, Try.ntmps6
  go_wp2_with (first | (go_at_call 15; refine hd.mono ?_; rintro e w' ⟨rfl, hg⟩; have hb1' := keep hg h1'.out) | (go_at_call 16; refine (drain_none _ _ s _ ?_ ?_).mono ?_; exact keep hg h2'.out; exact keep hg h4'.out; rintro e w' ⟨rfl, rfl⟩) | (go_at_call 17; refine (same_none _).mono ?_; rintro e w' ⟨rfl, rfl⟩))
  go_ret2
  exact ⟨rfl, hg⟩

set_option maxHeartbeats 400000 in
theorem news_no (a : Int) (w : World) (h : a < 1 ∨ 8 < a) :
    Calls Try.prog 3 #[.int .i64 a] w fun e w' => e = .returned (.bool true) ∧ Below w.heap.size w w' := by
  rcases h with h | h
  · go_enter Try.func3, Try.ntmps3
    go_wp2
    go_ret
    exact ⟨rfl, by repeat (first | exact Below.refl _ _ | refine Below.alloc ?_ (by simp; try omega) _ | apply Below.drew)⟩
  · have h' : ¬ a < 1 := by omega
    have h1 : 1 ≤ a := by omega
    have h2 : ¬ a ≤ 8 := by omega
    clear h h'
    go_enter Try.func3, Try.ntmps3
    go_wp2
    go_ret
    exact ⟨rfl, by repeat (first | exact Below.refl _ _ | refine Below.alloc ?_ (by simp; try omega) _ | apply Below.drew)⟩

end Go.Proofs.Ytbgfannlfagoiaa
