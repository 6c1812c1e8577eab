import Derived.Test.YtfgpceejoefkkaaDoorTextsAll
import Derived.Deep.RegionHeld3
import Derived.Deep.RegionLaw
namespace Go.Proofs.YtfgpceejoefkkaaDoor
open Go.RowKit Go.Lull
set_option linter.unusedVariables false

theorem own_grown {w w' : World} {base : Nat} {e : TypeId} {size : Nat} {v : Value} {n : Nat} {xs : List Value} {row : Option Nat} (h : w.ownsRow base e size v n xs) (hg : w.grownBy w' row) (hne : ∀ k, v.ownBlock = some k → some k ≠ row) : w'.ownsRow base e size v n xs := by
  refine ⟨h.1, ?_⟩
  rcases h.2 with h2 | ⟨g, cap, cur, h1, h2, h3, h4⟩
  · exact Or.inl h2
  · exact Or.inr ⟨g, cap, cur, h1, h2, by rw [hg.block g (lt_of_block h3) (hne g (by rw [h1]; rfl))]; exact h3, h4⟩
theorem own_apart {w : World} {base base' : Nat} {e e' : TypeId} {size size' : Nat} {v v' : Value} {n n' : Nat} {xs xs' : List Value} (h : w.ownsRow base e size v n xs) (h' : w.ownsRow base' e' size' v' n' xs') (hne : e ≠ e') : ∀ k, v.ownBlock = some k → some k ≠ v'.ownBlock := by
  intro k hk hk'
  rcases h.2 with ⟨e1, _⟩ | ⟨g, cap, cur, e1, _, h3, _⟩
  · rw [e1] at hk; cases hk
  · rcases h'.2 with ⟨e2, _⟩ | ⟨g', cap', cur', e2, _, h3', _⟩
    · rw [e2] at hk'; cases hk'
    · rw [e1] at hk; rw [e2] at hk'
      cases hk
      cases hk'
      rw [h3] at h3'
      cases h3'
      exact hne rfl

theorem Tryd.infoQ : (Tryd.prog.info? 82).map (fun i => (i.zero, i.size, i.bytes)) = some (some (.agg #[.int .i64 0, .slice none 0 0, .int .i64 0]), 3, 40) := by kernel_rfl
theorem Tryd.infoI : (Tryd.prog.info? 3).map (fun i => (i.zero, i.size, i.bytes)) = some (some (.int .i64 0), 1, 8) := by kernel_rfl

/-- An Engine of the program, at block eb. -/
structure EN (w : World) (eb base : Nat) (s0 s1 vq : Value) (nq nx : Nat) (qs : List Value) : Prop where
  blk : w.heap[eb]? = some (.cells #[s0, s1, vq, .int .i64 nx] 34 (0, 0))
  own : w.ownsRow base 82 3 vq nq qs
  lt : eb < base
  le : base ≤ w.heap.size

def rangeV (n : Nat) : List Value := (List.range n).map (fun i : Nat => Value.int .i64 (i : Int))
theorem rangeV_succ (n : Nat) : rangeV (n + 1) = rangeV n ++ [.int .i64 (n : Int)] := by simp [rangeV, List.range_succ]

theorem pat_cells {w : World} {base g cap n : Nat} {pats : List Pat} (hl : pats.length = n) (h : w.ownsRow base 80 2 (.slice (some ⟨g, 0, none⟩) n cap) n (pats.flatMap patC)) (k : Nat) (hk : k < n) :
    ∃ (p : Pat), w.cell? ⟨g, k * 2, none⟩ = some (.slice p.1 p.2.1 p.2.2.1) ∧ w.cell? ⟨g, k * 2 + 1, none⟩ = some (.int .i64 p.2.2.2) := by
  have hlt : k < pats.length := by omega
  obtain ⟨A, B, hAB, hA⟩ : ∃ A B, pats = A ++ pats[k] :: B ∧ A.length = k := ⟨pats.take k, pats.drop (k + 1), by rw [← List.drop_eq_getElem_cons hlt, List.take_append_drop], by simp; omega⟩
  refine ⟨pats[k], ?_, ?_⟩
  · rw [h.cellAt (k * 2) (by omega)]
    conv => lhs; rw [hAB]
    rw [List.flatMap_append, List.getElem?_append_right (by rw [patC_len, hA]; exact Nat.le_refl _), patC_len, hA]
    simp [patC]
  · rw [h.cellAt (k * 2 + 1) (by omega)]
    conv => lhs; rw [hAB]
    rw [List.flatMap_append, List.getElem?_append_right (by rw [patC_len, hA]; omega), patC_len, hA, show k * 2 + 1 - k * 2 = 1 by omega]
    simp [patC]


theorem add_first {w wr w1 : World} {B eb k : Nat} {s0 s1 vq vq2 v : Value} {o1 o2 : Obj} {qs qs2 xs : List Value} (hblk : wr.heap[eb]? = some (.cells #[s0, s1, vq, .int .i64 k] 34 (0, 0)))
    (hQ : wr.ownsRow B 82 3 vq k qs) (hI : wr.ownsRow B 3 1 v k xs) (hBB : BB B eb w wr) (hlt : eb < B) (hle : B ≤ wr.heap.size)
    (hg : ((wr.alloc o1).alloc o2).grownBy w1 vq.ownBlock) (hown : w1.ownsRow B 82 3 vq2 (k + 1) qs2) :
    (w1.setCell ⟨eb, 2, none⟩ vq2).heap[eb]? = some (.cells #[s0, s1, vq2, .int .i64 k] 34 (0, 0)) ∧ (w1.setCell ⟨eb, 2, none⟩ vq2).ownsRow B 82 3 vq2 (k + 1) qs2 ∧
      (w1.setCell ⟨eb, 2, none⟩ vq2).ownsRow B 3 1 v k xs ∧ BB B eb w (w1.setCell ⟨eb, 2, none⟩ vq2) ∧ B ≤ (w1.setCell ⟨eb, 2, none⟩ vq2).heap.size := by
  have hB1 : Below B wr w1 := (((Below.refl B wr).alloc hle _).alloc (by simp; omega) _).grown hg (by simp; omega) (own_row hQ)
  have hblk1 : w1.heap[eb]? = some (.cells #[s0, s1, vq, .int .i64 k] 34 (0, 0)) := by rw [hB1.block eb hlt]; exact hblk
  refine ⟨by rw [heap_setCell_same w1 eb 2 _ _ _ hblk1]; rfl, ownsRow_setCell_below hown hlt _, ?_, (hBB.trans (BB.of_below hB1 (Nat.le_of_lt hlt))).setCell 2 _, by have := hB1.size; simp; omega⟩
  have h1 := own_grown ((hI.alloc o1).alloc o2) hg (own_apart ((hI.alloc o1).alloc o2) ((hQ.alloc o1).alloc o2) (by decide))
  exact ownsRow_setCell_below h1 hlt _

theorem add_second {w W w2 : World} {B eb k : Nat} {s0 s1 vq2 v v3 : Value} {o3 : Obj} {qs2 xs ys : List Value} (hblk : W.heap[eb]? = some (.cells #[s0, s1, vq2, .int .i64 k] 34 (0, 0)))
    (hQ : W.ownsRow B 82 3 vq2 (k + 1) qs2) (hI : W.ownsRow B 3 1 v k xs) (hBB : BB B eb w W) (hlt : eb < B) (hle : B ≤ W.heap.size)
    (hg : (W.alloc o3).grownBy w2 v.ownBlock) (hown : w2.ownsRow B 3 1 v3 (k + 1) ys) :
    w2.cell? ⟨eb, 3, none⟩ = some (.int .i64 k) ∧ w2.frozen? ⟨eb, 3, none⟩ = false ∧
    (w2.setCell ⟨eb, 3, none⟩ (.int .i64 ((k : Int) + 1))).heap[eb]? = some (.cells #[s0, s1, vq2, .int .i64 ((k : Int) + 1)] 34 (0, 0)) ∧ (w2.setCell ⟨eb, 3, none⟩ (.int .i64 ((k : Int) + 1))).ownsRow B 82 3 vq2 (k + 1) qs2 ∧
      (w2.setCell ⟨eb, 3, none⟩ (.int .i64 ((k : Int) + 1))).ownsRow B 3 1 v3 (k + 1) ys ∧ BB B eb w (w2.setCell ⟨eb, 3, none⟩ (.int .i64 ((k : Int) + 1))) := by
  have hB1 : Below B W w2 := ((Below.refl B W).alloc hle _).grown hg (by simp; omega) (own_row hI)
  have hblk1 : w2.heap[eb]? = some (.cells #[s0, s1, vq2, .int .i64 k] 34 (0, 0)) := by rw [hB1.block eb hlt]; exact hblk
  refine ⟨by rw [cell_of_row w2 eb 3 _ _ _ hblk1]; rfl, frozen_of_row w2 eb 3 _ _ hblk1, by rw [heap_setCell_same w2 eb 3 _ _ _ hblk1]; rfl, ?_, ownsRow_setCell_below hown hlt _, (hBB.trans (BB.of_below hB1 (Nat.le_of_lt hlt))).setCell 3 _⟩
  have h1 := own_grown (hQ.alloc o3) hg (own_apart (hQ.alloc o3) (hI.alloc o3) (by decide))
  exact ownsRow_setCell_below h1 hlt _

theorem int_at (w : World) (z : Int) (T n : Nat) (hn : n = w.heap.size) : ∀ j u, [Value.int .i64 z][j]? = some u → (w.alloc (.cells #[.int .i64 z] T)).cell? ((⟨n, 0, none⟩ : Addr).add j) = some u := by
  subst hn
  exact cell_one_new _ _ _

/-- append of one number. -/
theorem append_int (w : World) {ops : Array Oper} {rest : List Oper} {o : Oper} {a : Act} {Q : Exit → Act → World → Prop} (hgd : o.guard = none) (s x : Operand)
    (ho : o.op = .call { callee := .builtin .append, args := #[s, x], argTypes := #[26, 26] })
    (base : Nat) (v : Value) (n : Nat) (xs : List Value) (hs : a.eval s = v) (hown : w.ownsRow base 3 1 v n xs)
    (ad : Addr) (z : Int) (hx : a.eval x = .slice (some ad) 1 1) (hnews : ∀ j u, [Value.int .i64 z][j]? = some u → w.cell? (ad.add j) = some u)
    (hn : n ≤ 1048576) (hbase : base ≤ w.heap.size)
    (h : ∀ g cap w', w'.ownsRow base 3 1 (.slice (some ⟨g, 0, none⟩) (n + 1) cap) (n + 1) (xs ++ [.int .i64 z]) → w.grownBy w' v.ownBlock → wpList Tryd.prog ops Q rest (a.put o.dst (.slice (some ⟨g, 0, none⟩) (n + 1) cap)) w') :
    wpList Tryd.prog ops Q (o :: rest) a w := by
  obtain ⟨i0, hi, hz0, hz1, hz2⟩ := info_parts Tryd.infoI
  exact wpList_append_lies w hgd s x 26 ho base 3 i0 _ 1 8 Tryd.underlying26 hi hz0 hz1 hz2 rfl (by decide) v n xs hs hown ad 1 1 [.int .i64 z] hx rfl hnews (by simp [Value.oneCell']) (by decide) (by unfold maxLen; omega) (by omega) hbase _ rfl
    (fun g cap w' h2 h3 _ _ => h g cap w' h2 h3)

end Go.Proofs.YtfgpceejoefkkaaDoor
