import Derived.Test.YtfgpceejoefkkaaDoorTextsMay
import Derived.Deep.AppendLies
namespace Go.Proofs.YtfgpceejoefkkaaDoor
open Go.RowKit Go.Lull
set_option linter.unusedVariables false

/-- Below B, all is as it was, but for block r. -/
structure BB (B r : Nat) (w w' : World) : Prop where
  low : Below r w w'
  mid : ∀ b, r < b → b < B → w'.heap[b]? = w.heap[b]?

theorem BB.refl (B r : Nat) (w : World) : BB B r w w := ⟨Below.refl _ _, fun _ _ _ => rfl⟩
theorem BB.trans {B r : Nat} {a b c : World} (h : BB B r a b) (k : BB B r b c) : BB B r a c :=
  ⟨h.low.trans k.low, fun x h1 h2 => (k.mid x h1 h2).trans (h.mid x h1 h2)⟩
theorem BB.of_below {B r : Nat} {w w' : World} (h : Below B w w') (hr : r ≤ B) : BB B r w w' :=
  ⟨h.mono hr, fun b _ h2 => h.block b h2⟩
theorem BB.setCell {B r : Nat} {w w' : World} (h : BB B r w w') (i : Nat) (v : Value) : BB B r w (w'.setCell ⟨r, i, none⟩ v) :=
  ⟨h.low.setCell (Nat.le_refl _) _, fun b h1 h2 => (heap_setCell_other _ _ _ _ (by simp; omega)).trans (h.mid b h1 h2)⟩
theorem BB.cell {B r : Nat} {w w' : World} (h : BB B r w w') {p : Addr} (h1 : r < p.block) (h2 : p.block < B) : w'.cell? p = w.cell? p :=
  World.cell?_of_block (w := w) (h.mid p.block h1 h2)

/-- A reader of a pattern, at block r: its steps, its number, what may stand next. -/
structure RD (w : World) (r base : Nat) (steps : List Stp) (wn aw : Int) (v : Value) : Prop where
  blk : w.heap[r]? = some (.cells #[v, .int .i64 wn, .int .i64 aw] 95 (0, 0))
  own : w.ownsRow base 103 1 v steps.length (steps.map stepV)
  lt : r < base
  le : base ≤ w.heap.size

theorem RD.c0 {w : World} {r base : Nat} {steps : List Stp} {wn aw : Int} {v : Value} (h : RD w r base steps wn aw v) : w.cell? ⟨r, 0, none⟩ = some v := by
  rw [cell_of_row w r 0 _ _ _ h.blk]; rfl
theorem RD.c1 {w : World} {r base : Nat} {steps : List Stp} {wn aw : Int} {v : Value} (h : RD w r base steps wn aw v) : w.cell? ⟨r, 1, none⟩ = some (.int .i64 wn) := by
  rw [cell_of_row w r 1 _ _ _ h.blk]; rfl
theorem RD.c2 {w : World} {r base : Nat} {steps : List Stp} {wn aw : Int} {v : Value} (h : RD w r base steps wn aw v) : w.cell? ⟨r, 2, none⟩ = some (.int .i64 aw) := by
  rw [cell_of_row w r 2 _ _ _ h.blk]; rfl
theorem RD.fr {w : World} {r base : Nat} {steps : List Stp} {wn aw : Int} {v : Value} (h : RD w r base steps wn aw v) (i : Nat) : w.frozen? ⟨r, i, none⟩ = false := frozen_of_row w r i _ _ h.blk
theorem RD.form {w : World} {r base : Nat} {steps : List Stp} {wn aw : Int} {v : Value} (h : RD w r base steps wn aw v) : ∃ a cap, v = .slice a steps.length cap := by
  rcases h.own.2 with ⟨h, h0⟩ | ⟨g, cap, cur, h, _⟩
  · exact ⟨_, _, h0 ▸ h⟩
  · exact ⟨_, _, h⟩
theorem RD.set1 {w : World} {r base : Nat} {steps : List Stp} {wn aw : Int} {v : Value} (h : RD w r base steps wn aw v) (x : Int) : RD (w.setCell ⟨r, 1, none⟩ (.int .i64 x)) r base steps x aw v :=
  ⟨by rw [heap_setCell_same w r 1 _ _ _ h.blk]; rfl, ownsRow_setCell_below h.own h.lt _, h.lt, by simpa using h.le⟩
theorem RD.set2 {w : World} {r base : Nat} {steps : List Stp} {wn aw : Int} {v : Value} (h : RD w r base steps wn aw v) (x : Int) : RD (w.setCell ⟨r, 2, none⟩ (.int .i64 x)) r base steps wn x v :=
  ⟨by rw [heap_setCell_same w r 2 _ _ _ h.blk]; rfl, ownsRow_setCell_below h.own h.lt _, h.lt, by simpa using h.le⟩
theorem RD.below {w w' : World} {r base : Nat} {steps : List Stp} {wn aw : Int} {v : Value} (h : RD w r base steps wn aw v) (hb : Below w.heap.size w w') : RD w' r base steps wn aw v := by
  refine ⟨by rw [hb.block r (Nat.lt_of_lt_of_le h.lt h.le)]; exact h.blk, ⟨h.own.1, ?_⟩, h.lt, Nat.le_trans h.le hb.size⟩
  rcases h.own.2 with h2 | ⟨g, cap, cur, h1, h2, h3, h4⟩
  · exact Or.inl h2
  · exact Or.inr ⟨g, cap, cur, h1, h2, by rw [hb.block g (lt_of_block h3)]; exact h3, h4⟩

set_option maxHeartbeats 400000 in
theorem takeWithin_any (w : World) (r base : Nat) (steps : List Stp) (wn aw : Int) (v : Value) (hn : steps.length ≤ 8) (h : RD w r base steps wn aw v) :
    Calls Tryd.prog 36 #[.pointer (some ⟨r, 0, none⟩)] w fun e w' => e = .returned (.bool (decide (0 < steps.length))) ∧ w' = w.setCell ⟨r, 2, none⟩ (.int .i64 1) := by
  obtain ⟨a, cap, rfl⟩ := h.form
  have c0 := h.c0
  have c2 := h.c2
  have f2 := h.fr 2
  clear h
  go_enter Tryd.func36, Tryd.ntmps36
  go_wp2
  go_ret
  exact ⟨rfl, rfl⟩

set_option maxHeartbeats 400000 in
theorem takeNumber_any (s : ByteArray) (w : World) (r base : Nat) (steps : List Stp) (wn aw : Int) (v : Value) (hs : s.size ≤ 1000000) (h : RD w r base steps wn aw v) :
    Calls Tryd.prog 38 #[.pointer (some ⟨r, 0, none⟩), .string s] w fun e w' => e = .returned (.bool (numB 1000 s.data.toList).isSome) ∧ w' = (w.setCell ⟨r, 1, none⟩ (.int .i64 (num0 (numB 1000 s.data.toList)))).setCell ⟨r, 2, none⟩ (.int .i64 2) := by
  have hread := fun w => readNumber_any s w hs
  have c1 := h.c1
  have c2 := h.c2
  have f1 := h.fr 1
  have f2 := h.fr 2
  clear h
  obtain ⟨o, ho⟩ : ∃ o, numB 1000 s.data.toList = o := ⟨_, rfl⟩
  rw [ho] at hread
  rw [ho]
  clear ho
  go_enter Tryd.func38, Tryd.ntmps38
  go_wp2_with (go_at_call 44; refine (hread _).mono ?_; rintro e w' ⟨rfl, rfl⟩)
  go_ret
  exact ⟨rfl, rfl⟩
end Go.Proofs.YtfgpceejoefkkaaDoor
