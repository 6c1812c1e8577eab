import Derived.Test.YtbgfannlfagoiaaDoorGv
import Derived.Test.YtbgfannlfagoiaaDoorTda
namespace Go.Proofs.YtbgfannlfagoiaaDoor
open Go.RowKit Go.Lull
set_option linter.unusedVariables false

def rangeV (n : Nat) : List Value := (List.range n).map (fun i : Nat => Value.int .i64 (i : Int))
theorem rangeV_succ (n : Nat) : rangeV (n + 1) = rangeV n ++ [.int .i64 (n : Int)] := by simp [rangeV, List.range_succ]
theorem int_at (w : World) (z : Int) (T n : Nat) (hn : n = w.heap.size) : ∀ j u, [Value.int .i64 z][j]? = some u → (w.alloc (.cells #[.int .i64 z] T)).cell? ((⟨n, 0, none⟩ : Addr).add j) = some u := by
  subst hn
  exact cell_one_new _ _ _
/-- append of one number, to a row of its own. -/
theorem append_intR (w : World) {ops : Array Oper} {rest : List Oper} {o : Oper} {a : Act} {Q : Exit → Act → World → Prop} (hgd : o.guard = none) (s x : Operand)
    (ho : o.op = .call { callee := .builtin .append, args := #[s, x], argTypes := #[26, 26] })
    (base : Nat) (v : Value) (n : Nat) (xs : List Value) (hs : a.eval s = v) (hown : w.ownsRow base 3 1 v n xs)
    (ad : Addr) (z : Int) (hx : a.eval x = .slice (some ad) 1 1) (hnews : ∀ j u, [Value.int .i64 z][j]? = some u → w.cell? (ad.add j) = some u)
    (hn : n ≤ 1048576) (hbase : base ≤ w.heap.size)
    (h : ∀ g cap w', w'.ownsRow base 3 1 (.slice (some ⟨g, 0, none⟩) (n + 1) cap) (n + 1) (xs ++ [.int .i64 z]) → w.grownBy w' v.ownBlock → wpList Tryd.prog ops Q rest (a.put o.dst (.slice (some ⟨g, 0, none⟩) (n + 1) cap)) w') :
    wpList Tryd.prog ops Q (o :: rest) a w := by
  obtain ⟨i0, hi, hz0, hz1, hz2⟩ := info_parts Tryd.infoI3
  exact wpList_append_lies w hgd s x 26 ho base 3 i0 _ 1 8 Tryd.underlying26 hi hz0 hz1 hz2 rfl (by decide) v n xs hs hown ad 1 1 [.int .i64 z] hx rfl hnews (by simp [Value.oneCell']) (by decide) (by unfold maxLen; omega) (by omega) hbase _ rfl
    (fun g cap w' h2 h3 _ _ => h g cap w' h2 h3)

/-- What Register hands back, of a new Engine: its answer as a number of the error and a place; the numbers. -/
def regB (ls : List (List UInt8)) : Int × Int × Nat := match badB ls with | some p => (2, p, 0) | none => if 10 < ls.length then (3, 0, 0) else (0, 0, ls.length)
def RegPostR (w : World) (B : Nat) (r : Int × Int × Nat) (e : Ending) (w' : World) : Prop :=
  ∃ a c, e = .returned (.tuple #[.slice a r.2.2 c, .int .i64 r.1, .int .i64 r.2.1]) ∧ (∃ base, w'.ownsRow base 3 1 (.slice a r.2.2 c) r.2.2 (rangeV r.2.2)) ∧ BB w.heap.size B w w'

theorem regB_bad {ls : List (List UInt8)} {p : Nat} (h : badB ls = some p) : regB ls = (2, (p : Int), 0) := by simp [regB, h]
theorem regB_many {ls : List (List UInt8)} (h : badB ls = none) (h2 : 10 < ls.length) : regB ls = (3, 0, 0) := by simp [regB, h, h2]
theorem regB_ok {ls : List (List UInt8)} (h : badB ls = none) (h2 : ¬ 10 < ls.length) : regB ls = (0, 0, ls.length) := by simp [regB, h, h2]
theorem nil_owns (w : World) : ∃ base, w.ownsRow base 3 1 (.slice none 0 0) 0 (rangeV 0) := ⟨0, World.ownsRow_nil _ _ _ _⟩

theorem rparse_any (s : ByteArray) (w : World) : Calls Tryd.prog 55 #[.string s] w (RefParse w (resB s.data.toList)) := by
  by_cases h : 100 < s.size
  · exact rparse_long s w h
  · exact rparse_short s w (by omega)
theorem rparse_bad (s : ByteArray) (w : World) (p : Nat) (h : resB s.data.toList = .inl p) :
    Calls Tryd.prog 55 #[.string s] w fun e w' => ∃ a n cap wn, e = .returned (.tuple #[.agg #[.slice a n cap, .int .i64 wn], .int .i64 p]) ∧ Below w.heap.size w w' := by
  have hc := rparse_any s w
  rw [h] at hc
  refine hc.mono ?_
  rintro e w' ⟨a, n, cap, wn, place, rfl, hB, rfl⟩
  exact ⟨a, n, cap, wn, rfl, hB⟩
theorem rparse_good (s : ByteArray) (w : World) (st : St) (h : resB s.data.toList = .inr st) :
    Calls Tryd.prog 55 #[.string s] w fun e w' => ∃ a n cap wn, e = .returned (.tuple #[.agg #[.slice a n cap, .int .i64 wn], .int .i64 (-1)]) ∧ Below w.heap.size w w' := by
  have hc := rparse_any s w
  rw [h] at hc
  refine hc.mono ?_
  rintro e w' ⟨a, n, cap, wn, place, rfl, hB, rfl, _⟩
  exact ⟨a, n, cap, wn, rfl, hB⟩

theorem Tryd.infoRPat : (Tryd.prog.info? 112).map (fun i => (i.zero, i.size, i.bytes)) = some (some (.agg #[.slice none 0 0, .int .i64 0]), 2, 32) := by kernel_rfl
theorem Tryd.infoRQ : (Tryd.prog.info? 115).map (fun i => (i.zero, i.size, i.bytes)) = some (some (.pointer none), 1, 8) := by kernel_rfl

/-- append of one pattern. -/
theorem append_rpat (w : World) {ops : Array Oper} {rest : List Oper} {o : Oper} {a : Act} {Q : Exit → Act → World → Prop} (hgd : o.guard = none) (s x : Operand)
    (ho : o.op = .call { callee := .builtin .append, args := #[s, x], argTypes := #[109, 109] })
    (base : Nat) (v : Value) (n : Nat) (xs : List Value) (hs : a.eval s = v) (hown : w.ownsRow base 112 2 v n xs)
    (ad : Addr) (news : List Value) (hx : a.eval x = .slice (some ad) 1 1) (hl : news.length = 1 * 2) (hnews : ∀ j u, news[j]? = some u → w.cell? (ad.add j) = some u) (h1 : ∀ u ∈ news, u.oneCell' = true)
    (hn : n ≤ 1048576) (hbase : base ≤ w.heap.size)
    (h : ∀ g cap w', w'.ownsRow base 112 2 (.slice (some ⟨g, 0, none⟩) (n + 1) cap) (n + 1) (xs ++ news) → w.grownBy w' v.ownBlock → wpList Tryd.prog ops Q rest (a.put o.dst (.slice (some ⟨g, 0, none⟩) (n + 1) cap)) w') :
    wpList Tryd.prog ops Q (o :: rest) a w := by
  obtain ⟨i0, hi, hz0, hz1, hz2⟩ := info_parts Tryd.infoRPat
  exact wpList_append_lies w hgd s x 109 ho base 112 i0 _ 2 32 Tryd.underlying109 hi hz0 hz1 hz2 rfl (by decide) v n xs hs hown ad 1 1 news hx hl hnews h1 (by decide) (by unfold maxLen; omega) (by omega) hbase _ rfl
    (fun g cap w' h2 h3 _ _ => h g cap w' h2 h3)

theorem rpat_cells {w : World} {base g cap n : Nat} {pats : List Pat} (hl : pats.length = n) (h : w.ownsRow base 112 2 (.slice (some ⟨g, 0, none⟩) n cap) n (pats.flatMap patC)) (k : Nat) (hk : k < n) :
    ∃ (p : Pat), w.cell? ⟨g, k * 2, none⟩ = some (.slice p.1 p.2.1 p.2.2.1) ∧ w.cell? ⟨g, k * 2 + 1, none⟩ = some (.int .i64 p.2.2.2) := by
  have hlt : k < pats.length := by omega
  obtain ⟨A, B, hAB, hA⟩ : ∃ A B, pats = A ++ pats[k] :: B ∧ A.length = k := ⟨pats.take k, pats.drop (k + 1), by rw [← List.drop_eq_getElem_cons hlt, List.take_append_drop], by simp; omega⟩
  refine ⟨pats[k], ?_, ?_⟩
  · rw [h.cellAt (k * 2) (by omega)]
    conv => lhs; rw [hAB]
    rw [List.flatMap_append, List.getElem?_append_right (by rw [patC_len, hA]; exact Nat.le_refl _), patC_len, hA]
    simp [patC]
  · rw [h.cellAt (k * 2 + 1) (by omega)]
    conv => lhs; rw [hAB]
    rw [List.flatMap_append, List.getElem?_append_right (by rw [patC_len, hA]; omega), patC_len, hA, show k * 2 + 1 - k * 2 = 1 by omega]
    simp [patC]


theorem radd_first {w wr w1 : World} {B eb k : Nat} {s0 s1 s4 s5 vq vq2 v : Value} {o1 o2 : Obj} {qs qs2 xs : List Value} (hblk : wr.heap[eb]? = some (.cells #[s0, s1, vq, .int .i64 k, s4, s5] 108 (0, 0)))
    (hQ : wr.ownsRow B 115 1 vq k qs) (hI : wr.ownsRow B 3 1 v k xs) (hBB : BB B eb w wr) (hlt : eb < B) (hle : B ≤ wr.heap.size)
    (hg : ((wr.alloc o1).alloc o2).grownBy w1 vq.ownBlock) (hown : w1.ownsRow B 115 1 vq2 (k + 1) qs2) :
    (w1.setCell ⟨eb, 2, none⟩ vq2).heap[eb]? = some (.cells #[s0, s1, vq2, .int .i64 k, s4, s5] 108 (0, 0)) ∧ (w1.setCell ⟨eb, 2, none⟩ vq2).ownsRow B 115 1 vq2 (k + 1) qs2 ∧
      (w1.setCell ⟨eb, 2, none⟩ vq2).ownsRow B 3 1 v k xs ∧ BB B eb w (w1.setCell ⟨eb, 2, none⟩ vq2) ∧ B ≤ (w1.setCell ⟨eb, 2, none⟩ vq2).heap.size := by
  have hB1 : Below B wr w1 := (((Below.refl B wr).alloc hle _).alloc (by simp; omega) _).grown hg (by simp; omega) (own_row hQ)
  have hblk1 : w1.heap[eb]? = some (.cells #[s0, s1, vq, .int .i64 k, s4, s5] 108 (0, 0)) := by rw [hB1.block eb hlt]; exact hblk
  refine ⟨by rw [heap_setCell_same w1 eb 2 _ _ _ hblk1]; rfl, ownsRow_setCell_below hown hlt _, ?_, (hBB.trans (BB.of_below hB1 (Nat.le_of_lt hlt))).setCell 2 _, by have := hB1.size; simp; omega⟩
  have h1 := own_grown ((hI.alloc o1).alloc o2) hg (own_apart ((hI.alloc o1).alloc o2) ((hQ.alloc o1).alloc o2) (by decide))
  exact ownsRow_setCell_below h1 hlt _

theorem radd_second {w W w2 : World} {B eb k : Nat} {s0 s1 s4 s5 vq2 v v3 : Value} {o3 : Obj} {qs2 xs ys : List Value} (hblk : W.heap[eb]? = some (.cells #[s0, s1, vq2, .int .i64 k, s4, s5] 108 (0, 0)))
    (hQ : W.ownsRow B 115 1 vq2 (k + 1) qs2) (hI : W.ownsRow B 3 1 v k xs) (hBB : BB B eb w W) (hlt : eb < B) (hle : B ≤ W.heap.size)
    (hg : (W.alloc o3).grownBy w2 v.ownBlock) (hown : w2.ownsRow B 3 1 v3 (k + 1) ys) :
    w2.cell? ⟨eb, 3, none⟩ = some (.int .i64 k) ∧ w2.frozen? ⟨eb, 3, none⟩ = false ∧
    (w2.setCell ⟨eb, 3, none⟩ (.int .i64 ((k : Int) + 1))).heap[eb]? = some (.cells #[s0, s1, vq2, .int .i64 ((k : Int) + 1), s4, s5] 108 (0, 0)) ∧ (w2.setCell ⟨eb, 3, none⟩ (.int .i64 ((k : Int) + 1))).ownsRow B 115 1 vq2 (k + 1) qs2 ∧
      (w2.setCell ⟨eb, 3, none⟩ (.int .i64 ((k : Int) + 1))).ownsRow B 3 1 v3 (k + 1) ys ∧ BB B eb w (w2.setCell ⟨eb, 3, none⟩ (.int .i64 ((k : Int) + 1))) := by
  have hB1 : Below B W w2 := ((Below.refl B W).alloc hle _).grown hg (by simp; omega) (own_row hI)
  have hblk1 : w2.heap[eb]? = some (.cells #[s0, s1, vq2, .int .i64 k, s4, s5] 108 (0, 0)) := by rw [hB1.block eb hlt]; exact hblk
  refine ⟨by rw [cell_of_row w2 eb 3 _ _ _ hblk1]; rfl, frozen_of_row w2 eb 3 _ _ hblk1, by rw [heap_setCell_same w2 eb 3 _ _ _ hblk1]; rfl, ?_, ownsRow_setCell_below hown hlt _, (hBB.trans (BB.of_below hB1 (Nat.le_of_lt hlt))).setCell 3 _⟩
  have h1 := own_grown (hQ.alloc o3) hg (own_apart (hQ.alloc o3) (hI.alloc o3) (by decide))
  exact ownsRow_setCell_below h1 hlt _

end Go.Proofs.YtbgfannlfagoiaaDoor
