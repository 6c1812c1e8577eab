import Derived.Test.YtfgpceejoefkkaaDoorTextsRefStp
namespace Go.Proofs.YtfgpceejoefkkaaDoor
open Go.RowKit Go.Lull
set_option linter.unusedVariables false

/-- A step's cells, as the reference holds it. -/
def stepC (x : Stp) : List Value := [.bool x.1, .int .u8 x.2.1.toNat, .int .u8 x.2.2.1.toNat, .int .i64 x.2.2.2]
theorem stepC_len (l : List Stp) : (l.flatMap stepC).length = l.length * 4 := by
  induction l with
  | nil => rfl
  | cons x l ih => simp [List.flatMap_cons, stepC, ih]; omega
theorem stepC_last (l : List Stp) (y : Stp) : ((l ++ [y]).flatMap stepC)[l.length * 4]? = some (.bool y.1) := by
  rw [List.flatMap_append, List.getElem?_append_right (by rw [stepC_len]; exact Nat.le_refl _), stepC_len]
  simp [stepC]

/-- A pattern of the reference, at block b. -/
structure RP (w : World) (b base : Nat) (steps : List Stp) (wn : Int) (v : Value) : Prop where
  blk : w.heap[b]? = some (.cells #[v, .int .i64 wn] 71 (0, 0))
  own : w.ownsRow base 87 4 v steps.length (steps.flatMap stepC)
  lt : b < base
  le : base ≤ w.heap.size

section
variable {w w' w1 w2 : World} {b base : Nat} {steps : List Stp} {wn : Int} {v : Value}
theorem RP.c0 (h : RP w b base steps wn v) : w.cell? ⟨b, 0, none⟩ = some v := by rw [cell_of_row w b 0 _ _ _ h.blk]; rfl
theorem RP.c1 (h : RP w b base steps wn v) : w.cell? ⟨b, 1, none⟩ = some (.int .i64 wn) := by rw [cell_of_row w b 1 _ _ _ h.blk]; rfl
theorem RP.fr (h : RP w b base steps wn v) (i : Nat) : w.frozen? ⟨b, i, none⟩ = false := frozen_of_row w b i _ _ h.blk
theorem RP.form (h : RP w b base steps wn v) : ∃ a cap, v = .slice a steps.length cap := by
  rcases h.own.2 with ⟨h, h0⟩ | ⟨g, cap, cur, h, _⟩
  · exact ⟨_, _, h0 ▸ h⟩
  · exact ⟨_, _, h⟩
theorem RP.below (h : RP w b base steps wn v) (hb : Below w.heap.size w w') : RP w' b base steps wn v := by
  refine ⟨by rw [hb.block b (Nat.lt_of_lt_of_le h.lt h.le)]; exact h.blk, ⟨h.own.1, ?_⟩, h.lt, Nat.le_trans h.le hb.size⟩
  rcases h.own.2 with h2 | ⟨g, cap, cur, h1, h2, h3, h4⟩
  · exact Or.inl h2
  · exact Or.inr ⟨g, cap, cur, h1, h2, by rw [hb.block g (lt_of_block h3)]; exact h3, h4⟩
theorem RP.set1 (h : RP w b base steps wn v) (x : Int) : RP (w.setCell ⟨b, 1, none⟩ (.int .i64 x)) b base steps x v :=
  ⟨by rw [heap_setCell_same w b 1 _ _ _ h.blk]; rfl, ownsRow_setCell_below h.own h.lt _, h.lt, by simpa using h.le⟩
theorem RP.last {l : List Stp} {y : Stp} {g cap : Nat} (h : RP w b base (l ++ [y]) wn (.slice (some ⟨g, 0, none⟩) (l ++ [y]).length cap)) : w.cell? ⟨g, l.length * 4, none⟩ = some (.bool y.1) := by
  rw [h.own.cellAt (l.length * 4) (by simp), stepC_last]
theorem RP.appended {g cap : Nat} {x : Stp} {o : Obj} (h : RP w b base steps wn v) (hb : Below w.heap.size w w1)
    (hown : w2.ownsRow base 87 4 (.slice (some ⟨g, 0, none⟩) (steps.length + 1) cap) (steps.length + 1) (steps.flatMap stepC ++ stepC x)) (hg : (w1.alloc o).grownBy w2 v.ownBlock) :
    RP (w2.setCell ⟨b, 0, none⟩ (.slice (some ⟨g, 0, none⟩) (steps.length + 1) cap)) b base (steps ++ [x]) wn (.slice (some ⟨g, 0, none⟩) (steps.length + 1) cap) ∧ Below b w (w2.setCell ⟨b, 0, none⟩ (.slice (some ⟨g, 0, none⟩) (steps.length + 1) cap)) ∧
      w2.cell? ⟨b, 0, none⟩ = some v ∧ w2.frozen? ⟨b, 0, none⟩ = false := by
  have h1 := h.below hb
  have hrow : ∀ k, v.ownBlock = some k → base ≤ k := by
    intro k hk
    rcases h.own.2 with ⟨e, _⟩ | ⟨g, cap, cur, e, hg, _⟩
    · rw [e] at hk; cases hk
    · rw [e] at hk; cases hk; exact hg
  have hB : Below base w w2 := ((hb.mono h.le).alloc h1.le o).grown hg (by have := h1.le; simp; omega) hrow
  have hblk : w2.heap[b]? = some (.cells #[v, .int .i64 wn] 71 (0, 0)) := by rw [hB.block b h.lt]; exact h.blk
  refine ⟨⟨?_, ?_, h.lt, ?_⟩, ?_, ?_, ?_⟩
  · rw [heap_setCell_same w2 b 0 _ _ _ hblk]; rfl
  · have := ownsRow_setCell_below hown (a := ⟨b, 0, none⟩) h.lt (.slice (some ⟨g, 0, none⟩) (steps.length + 1) cap)
    simpa using this
  · have := hB.size; have := h.le; simp; omega
  · exact (hB.mono (Nat.le_of_lt h.lt)).setCell (p := ⟨b, 0, none⟩) (Nat.le_refl _) _
  · rw [cell_of_row w2 b 0 _ _ _ hblk]; rfl
  · exact frozen_of_row w2 b 0 _ _ hblk
end

/-- What the reference's Parse hands back. -/
def RefParse (w : World) (o : Nat ⊕ St) (e : Ending) (w' : World) : Prop :=
  ∃ (a : Option Addr) (n cap : Nat) (wn place : Int), e = .returned (.tuple #[.agg #[.slice a n cap, .int .i64 wn], .int .i64 place]) ∧ Below w.heap.size w w' ∧
    (match o with
      | .inl p => place = p
      | .inr st => place = -1 ∧ n = st.1.length ∧ wn = st.2.1 ∧ w'.ownsRow w.heap.size 87 4 (.slice a n cap) st.1.length (st.1.flatMap stepC))

theorem Tryd.infoRStep : (Tryd.prog.info? 87).map (fun i => (i.zero, i.size, i.bytes)) = some (some (.agg #[.bool false, .int .u8 0, .int .u8 0, .int .i64 0]), 4, 16) := by kernel_rfl

set_option maxHeartbeats 400000 in
theorem rparse_long (s : ByteArray) (w : World) (hs : 100 < s.size) :
    Calls Tryd.prog 24 #[.string s] w (RefParse w (resB s.data.toList)) := by
  have e : resB s.data.toList = .inl 0 := by unfold resB; rw [if_pos (by simpa using hs)]
  rw [e]
  clear e
  go_enter Tryd.func24, Tryd.ntmps24
  go_wp2
  refine bodyPost_ret (v := .tuple #[.agg #[.slice none 0 0, .int .i64 0], .int .i64 0]) (by simp [results, Tryd.results24, go_sem]) rfl ⟨none, 0, 0, 0, 0, rfl, ?_, rfl⟩
  exact ((Below.refl _ _).alloc (Nat.le_refl _) _).alloc (by simp) _
end Go.Proofs.YtfgpceejoefkkaaDoor
