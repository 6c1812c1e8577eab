import Derived.Test.YtbgfannlfagoiaaGreatDoorZ32
import Derived.Test.YtbgfannlfagoiaaGreatDoorZ39
import Derived.Test.YtbgfannlfagoiaaGreatDoorZ36
import Derived.Test.YtbgfannlfagoiaaGreatDoorZ27
import Derived.Test.YtbgfannlfagoiaaGreatDoorZ14
namespace Go.Proofs.YtbgfannlfagoiaaGreatDoor
open Go.RowKit Go.Lull
set_option linter.unusedVariables false

def rangeV (n : Nat) : List Value := (List.range n).map (fun i : Nat => Value.int .i64 (i : Int))
theorem rangeV_succ (n : Nat) : rangeV (n + 1) = rangeV n ++ [.int .i64 (n : Int)] := by simp [rangeV, List.range_succ]
theorem int_at (w : World) (z : Int) (T n : Nat) (hn : n = w.heap.size) : ∀ j u, [Value.int .i64 z][j]? = some u → (w.alloc (.cells #[.int .i64 z] T)).cell? ((⟨n, 0, none⟩ : Addr).add j) = some u := by
 subst hn
 exact cell_one_new _ _ _
/-- append of one number, to a row of its own. -/
theorem append_intR (w : World) {ops : Array Oper} {rest : List Oper} {o : Oper} {a : Act} {Q : Exit → Act → World → Prop} (hgd : o.guard = none) (s x : Operand)
  (ho : o.op = .call { callee := .builtin .append, args := #[s, x], argTypes := #[44, 44] })
  (base : Nat) (v : Value) (n : Nat) (xs : List Value) (hs : a.eval s = v) (hown : w.ownsRow base 3 1 v n xs)
  (ad : Addr) (z : Int) (hx : a.eval x = .slice (some ad) 1 1) (hnews : ∀ j u, [Value.int .i64 z][j]? = some u → w.cell? (ad.add j) = some u)
  (hn : n ≤ 1048576) (hbase : base ≤ w.heap.size)
  (h : ∀ g cap w', w'.ownsRow base 3 1 (.slice (some ⟨g, 0, none⟩) (n + 1) cap) (n + 1) (xs ++ [.int .i64 z]) → w.grownBy w' v.ownBlock → wpList Tryz.prog ops Q rest (a.put o.dst (.slice (some ⟨g, 0, none⟩) (n + 1) cap)) w') :
  wpList Tryz.prog ops Q (o :: rest) a w := by
 obtain ⟨i0, hi, hz0, hz1, hz2⟩ := info_parts Tryz.infoI3
 exact wpList_append_lies w hgd s x 44 ho base 3 i0 _ 1 8 Tryz.underlying44 hi hz0 hz1 hz2 rfl (by decide) v n xs hs hown ad 1 1 [.int .i64 z] hx rfl hnews (by simp [Value.oneCell']) (by decide) (by unfold maxLen; omega) (by omega) hbase _ rfl
  (fun g cap w' h2 h3 _ _ => h g cap w' h2 h3)

/-- What Register hands back, of a new Engine: its answer as a number of the error and a place; the numbers. -/
def regB (ls : List (List UInt8)) : Int × Int × Nat := match badB ls with | some p => (2, p, 0) | none => if 10 < ls.length then (3, 0, 0) else (0, 0, ls.length)
def RegPostR (w : World) (B : Nat) (r : Int × Int × Nat) (e : Ending) (w' : World) : Prop :=
 ∃ a c, e = .returned (.tuple #[.slice a r.2.2 c, .int .i64 r.1, .int .i64 r.2.1]) ∧ (∃ base, w'.ownsRow base 3 1 (.slice a r.2.2 c) r.2.2 (rangeV r.2.2)) ∧ BB w.heap.size B w w'

theorem regB_bad {ls : List (List UInt8)} {p : Nat} (h : badB ls = some p) : regB ls = (2, (p : Int), 0) := by simp [regB, h]
theorem regB_many {ls : List (List UInt8)} (h : badB ls = none) (h2 : 10 < ls.length) : regB ls = (3, 0, 0) := by simp [regB, h, h2]
theorem regB_ok {ls : List (List UInt8)} (h : badB ls = none) (h2 : ¬ 10 < ls.length) : regB ls = (0, 0, ls.length) := by simp [regB, h, h2]
theorem nil_owns (w : World) : ∃ base, w.ownsRow base 3 1 (.slice none 0 0) 0 (rangeV 0) := ⟨0, World.ownsRow_nil _ _ _ _⟩

theorem rparse_any (s : ByteArray) (w : World) : Calls Tryz.prog 93 #[.string s] w (RefParse w (resB s.data.toList)) := by
 by_cases h : 100 < s.size
 ·exact rparse_long s w h
 ·exact rparse_short s w (by omega)
theorem rparse_bad (s : ByteArray) (w : World) (p : Nat) (h : resB s.data.toList = .inl p) :
  Calls Tryz.prog 93 #[.string s] w fun e w' => ∃ a n cap wn, e = .returned (.tuple #[.agg #[.slice a n cap, .int .i64 wn], .int .i64 p]) ∧ Below w.heap.size w w' := by
 have hc := rparse_any s w
 rw [h] at hc
 refine hc.mono ?_
 rintro e w' ⟨a, n, cap, wn, place, rfl, hB, rfl⟩
 exact ⟨a, n, cap, wn, rfl, hB⟩
theorem rparse_good (s : ByteArray) (w : World) (st : St) (h : resB s.data.toList = .inr st) :
  Calls Tryz.prog 93 #[.string s] w fun e w' => ∃ a n cap wn, e = .returned (.tuple #[.agg #[.slice a n cap, .int .i64 wn], .int .i64 (-1)]) ∧ Below w.heap.size w w' := by
 have hc := rparse_any s w
 rw [h] at hc
 refine hc.mono ?_
 rintro e w' ⟨a, n, cap, wn, place, rfl, hB, rfl, _⟩
 exact ⟨a, n, cap, wn, rfl, hB⟩

theorem Tryz.infoRPat : (Tryz.prog.info? 138).map (fun i => (i.zero, i.size, i.bytes)) = some (some (.agg #[.slice none 0 0, .int .i64 0]), 2, 32) := by kernel_rfl
theorem Tryz.infoRQ : (Tryz.prog.info? 141).map (fun i => (i.zero, i.size, i.bytes)) = some (some (.pointer none), 1, 8) := by kernel_rfl

/-- append of one pattern. -/
theorem append_rpat (w : World) {ops : Array Oper} {rest : List Oper} {o : Oper} {a : Act} {Q : Exit → Act → World → Prop} (hgd : o.guard = none) (s x : Operand)
  (ho : o.op = .call { callee := .builtin .append, args := #[s, x], argTypes := #[167, 167] })
  (base : Nat) (v : Value) (n : Nat) (xs : List Value) (hs : a.eval s = v) (hown : w.ownsRow base 138 2 v n xs)
  (ad : Addr) (news : List Value) (hx : a.eval x = .slice (some ad) 1 1) (hl : news.length = 1 * 2) (hnews : ∀ j u, news[j]? = some u → w.cell? (ad.add j) = some u) (h1 : ∀ u ∈ news, u.oneCell' = true)
  (hn : n ≤ 1048576) (hbase : base ≤ w.heap.size)
  (h : ∀ g cap w', w'.ownsRow base 138 2 (.slice (some ⟨g, 0, none⟩) (n + 1) cap) (n + 1) (xs ++ news) → w.grownBy w' v.ownBlock → wpList Tryz.prog ops Q rest (a.put o.dst (.slice (some ⟨g, 0, none⟩) (n + 1) cap)) w') :
  wpList Tryz.prog ops Q (o :: rest) a w := by
 obtain ⟨i0, hi, hz0, hz1, hz2⟩ := info_parts Tryz.infoRPat
 exact wpList_append_lies w hgd s x 167 ho base 138 i0 _ 2 32 Tryz.underlying167 hi hz0 hz1 hz2 rfl (by decide) v n xs hs hown ad 1 1 news hx hl hnews h1 (by decide) (by unfold maxLen; omega) (by omega) hbase _ rfl
  (fun g cap w' h2 h3 _ _ => h g cap w' h2 h3)

theorem rpat_cells {w : World} {base g cap n : Nat} {pats : List Pat} (hl : pats.length = n) (h : w.ownsRow base 138 2 (.slice (some ⟨g, 0, none⟩) n cap) n (pats.flatMap patC)) (k : Nat) (hk : k < n) :
  ∃ (p : Pat), w.cell? ⟨g, k * 2, none⟩ = some (.slice p.1 p.2.1 p.2.2.1) ∧ w.cell? ⟨g, k * 2 + 1, none⟩ = some (.int .i64 p.2.2.2) := by
 have hlt : k < pats.length := by omega
 obtain ⟨A, B, hAB, hA⟩ : ∃ A B, pats = A ++ pats[k] :: B ∧ A.length = k := ⟨pats.take k, pats.drop (k + 1), by rw [← List.drop_eq_getElem_cons hlt, List.take_append_drop], by simp; omega⟩
 refine ⟨pats[k], ?_, ?_⟩
 ·rw [h.cellAt (k * 2) (by omega)]
  conv => lhs; rw [hAB]
  rw [List.flatMap_append, List.getElem?_append_right (by rw [patC_len, hA]; exact Nat.le_refl _), patC_len, hA]
  simp [patC]
 ·rw [h.cellAt (k * 2 + 1) (by omega)]
  conv => lhs; rw [hAB]
  rw [List.flatMap_append, List.getElem?_append_right (by rw [patC_len, hA]; omega), patC_len, hA, show k * 2 + 1 - k * 2 = 1 by omega]
  simp [patC]


theorem radd_first {w wr w1 : World} {B eb k : Nat} {s0 s1 s4 s5 vq vq2 v : Value} {o1 o2 : Obj} {qs qs2 xs : List Value} (hblk : wr.heap[eb]? = some (.cells #[s0, s1, vq, .int .i64 k, s4, s5] 107 (0, 0)))
  (hQ : wr.ownsRow B 141 1 vq k qs) (hI : wr.ownsRow B 3 1 v k xs) (hBB : BB B eb w wr) (hlt : eb < B) (hle : B ≤ wr.heap.size)
  (hg : ((wr.alloc o1).alloc o2).grownBy w1 vq.ownBlock) (hown : w1.ownsRow B 141 1 vq2 (k + 1) qs2) :
  (w1.setCell ⟨eb, 2, none⟩ vq2).heap[eb]? = some (.cells #[s0, s1, vq2, .int .i64 k, s4, s5] 107 (0, 0)) ∧ (w1.setCell ⟨eb, 2, none⟩ vq2).ownsRow B 141 1 vq2 (k + 1) qs2 ∧
   (w1.setCell ⟨eb, 2, none⟩ vq2).ownsRow B 3 1 v k xs ∧ BB B eb w (w1.setCell ⟨eb, 2, none⟩ vq2) ∧ B ≤ (w1.setCell ⟨eb, 2, none⟩ vq2).heap.size := by
 have hB1 : Below B wr w1 := (((Below.refl B wr).alloc hle _).alloc (by simp; omega) _).grown hg (by simp; omega) (own_row hQ)
 have hblk1 : w1.heap[eb]? = some (.cells #[s0, s1, vq, .int .i64 k, s4, s5] 107 (0, 0)) := by rw [hB1.block eb hlt]; exact hblk
 refine ⟨by rw [heap_setCell_same w1 eb 2 _ _ _ hblk1]; rfl, ownsRow_setCell_below hown hlt _, ?_, (hBB.trans (BB.of_below hB1 (Nat.le_of_lt hlt))).setCell 2 _, by have := hB1.size; simp; omega⟩
 have h1 := own_grown ((hI.alloc o1).alloc o2) hg (own_apart ((hI.alloc o1).alloc o2) ((hQ.alloc o1).alloc o2) (by decide))
 exact ownsRow_setCell_below h1 hlt _

theorem radd_second {w W w2 : World} {B eb k : Nat} {s0 s1 s4 s5 vq2 v v3 : Value} {o3 : Obj} {qs2 xs ys : List Value} (hblk : W.heap[eb]? = some (.cells #[s0, s1, vq2, .int .i64 k, s4, s5] 107 (0, 0)))
  (hQ : W.ownsRow B 141 1 vq2 (k + 1) qs2) (hI : W.ownsRow B 3 1 v k xs) (hBB : BB B eb w W) (hlt : eb < B) (hle : B ≤ W.heap.size)
  (hg : (W.alloc o3).grownBy w2 v.ownBlock) (hown : w2.ownsRow B 3 1 v3 (k + 1) ys) :
  w2.cell? ⟨eb, 3, none⟩ = some (.int .i64 k) ∧ w2.frozen? ⟨eb, 3, none⟩ = false ∧
  (w2.setCell ⟨eb, 3, none⟩ (.int .i64 ((k : Int) + 1))).heap[eb]? = some (.cells #[s0, s1, vq2, .int .i64 ((k : Int) + 1), s4, s5] 107 (0, 0)) ∧ (w2.setCell ⟨eb, 3, none⟩ (.int .i64 ((k : Int) + 1))).ownsRow B 141 1 vq2 (k + 1) qs2 ∧
   (w2.setCell ⟨eb, 3, none⟩ (.int .i64 ((k : Int) + 1))).ownsRow B 3 1 v3 (k + 1) ys ∧ BB B eb w (w2.setCell ⟨eb, 3, none⟩ (.int .i64 ((k : Int) + 1))) := by
 have hB1 : Below B W w2 := ((Below.refl B W).alloc hle _).grown hg (by simp; omega) (own_row hI)
 have hblk1 : w2.heap[eb]? = some (.cells #[s0, s1, vq2, .int .i64 k, s4, s5] 107 (0, 0)) := by rw [hB1.block eb hlt]; exact hblk
 refine ⟨by rw [cell_of_row w2 eb 3 _ _ _ hblk1]; rfl, frozen_of_row w2 eb 3 _ _ hblk1, by rw [heap_setCell_same w2 eb 3 _ _ _ hblk1]; rfl, ?_, ownsRow_setCell_below hown hlt _, (hBB.trans (BB.of_below hB1 (Nat.le_of_lt hlt))).setCell 3 _⟩
 have h1 := own_grown (hQ.alloc o3) hg (own_apart (hQ.alloc o3) (hI.alloc o3) (by decide))
 exact ownsRow_setCell_below h1 hlt _

end Go.Proofs.YtbgfannlfagoiaaGreatDoor

namespace Go.Proofs.YtbgfannlfagoiaaGreatDoor
open Go.RowKit Go.Lull
set_option linter.unusedVariables false

/-- append of one pointer to a query. -/
theorem append_rq (w : World) {p : Value} {ops : Array Oper} {rest : List Oper} {o : Oper} {a : Act} {Q : Exit → Act → World → Prop} (hgd : o.guard = none) (s x : Operand)
  (ho : o.op = .call { callee := .builtin .append, args := #[s, x], argTypes := #[105, 105] })
  (v : Value) (n : Nat) (xs : List Value) (hv : a.eval s = v) (hrow : Row w 141 1 v n xs)
  (N : Nat) (hN : N = w.heap.size) (hxv : a.eval x = .slice (some ⟨N, 0, none⟩) 1 1) (hone : p.oneCell' = true) (hn : n ≤ 1000000)
  (h : ∀ g off cap w', Row w' 141 1 (.slice (some ⟨g, off, none⟩) (n + 1) cap) (n + 1) (xs ++ [p]) → (w.alloc (.cells #[p] 141)).grownBy w' v.ownBlock → (v.ownBlock = some g ∨ g = w.heap.size + 1) → wpList Tryz.prog ops Q rest (a.put o.dst (.slice (some ⟨g, off, none⟩) (n + 1) cap)) w') :
  wpList Tryz.prog ops Q (o :: rest) a (w.alloc (.cells #[p] 141)) := by
 subst hN
 obtain ⟨i0, hi, hz0, hz1, hz2⟩ := info_parts Tryz.infoRQ
 refine wpList_append_row hgd s x 105 ho i0 _ 8 Tryz.underlying105 hi hz0 hz1 hz2 rfl hv (hrow.same (fun k hk => Below.heap_alloc _ _ _ (hrow.lt k hk))) 1 [p] _ hxv (Src.ofSlice _ Tryz.underlying105 _ 1 1 _ rfl (cell_one_new _ _ _) (by simp [hone])) (by omega) (by unfold maxLen; omega) (by omega) ?_
 intro g off cap w' g1 g2 g3
 exact h g off cap w' g1 g2 (g3.imp id (fun h => by rw [h]; simp))
def rptrV (x : CR) : Value := .pointer (some ⟨x.qb, 0, none⟩)
/-- Remove, in the midst. -/
structure RM (w wr : World) (lv : Value) (l : List CR) : Prop where
 below : Below w.heap.size w wr
 row : Row wr 141 1 lv l.length (l.map rptrV)
 new : ∀ b, lv.ownBlock = some b → w.heap.size ≤ b
theorem flat_sub {l l' : List CR} (h : l'.Sublist l) : (l'.flatMap CR.blk).Sublist (l.flatMap CR.blk) := by
 induction h with
 | slnil => exact List.Sublist.refl _
 | cons a _ ih => rw [List.flatMap_cons]; exact ih.trans (List.sublist_append_right _ _)
 | cons_cons a _ ih => rw [List.flatMap_cons, List.flatMap_cons]; exact (List.Sublist.refl _).append ih
theorem RE.cut {w : World} {rb : Nat} {c : RC} {cs' : List CR} {qv' : Value} (h : RE w rb c) (hs : cs'.Sublist c.cs) (hrow : Row w 141 1 qv' cs'.length (cs'.map rptrV)) (hq : ∀ b, qv'.ownBlock = some b → b ∉ c.blocks rb) :
  RE (w.setCell ⟨rb, 2, none⟩ qv') rb { c with qv := qv', cs := cs' } := by
 have hn1 := List.nodup_cons.1 h.nd
 have hn2 := List.nodup_cons.1 hn1.2
 have hn3 := List.nodup_append.1 hn2.2
 have hset : ∀ b, b ≠ rb → (w.setCell ⟨rb, 2, none⟩ qv').heap[b]? = w.heap[b]? := fun b hne => Below.heap_setCell _ _ _ _ hne
 have hrbm : rb ∈ c.blocks rb := List.mem_append_left _ List.mem_cons_self
 have hsub : ∀ x ∈ cs', x ∈ c.cs := fun x hx => hs.subset hx
 have hfm : ∀ b, b ∈ cs'.flatMap CR.blk → b ∈ c.cs.flatMap CR.blk := fun b hb => (flat_sub hs).subset hb
 have hwr : ∀ b ∈ c.cs.flatMap CR.blk, b ≠ rb := fun b hb e => hn1.1 (by rw [← e]; exact List.mem_cons_of_mem _ (List.mem_append_right _ hb))
 have hmg : c.mg ≠ rb := fun e => hn1.1 (by rw [← e]; exact List.mem_cons_self)
 have hrd : ∀ b ∈ c.rd, b ≠ rb := fun b hb e => h.ap b hb (by rw [e]; exact List.mem_cons_self)
 have hrd' : ∀ b, b ∈ c.wv.ownBlock.toList ++ cs'.map (·.sb) → b ∈ c.rd := fun b hb => by
  rcases List.mem_append.1 hb with h1 | h1
  ·exact List.mem_append_left _ h1
  ·obtain ⟨x, hx, rfl⟩ := List.mem_map.1 h1
   exact mem_rd (hsub x hx)
 have hqn : ∀ b ∈ qv'.ownBlock.toList, b ∉ c.blocks rb := fun b hb => hq b (by simpa using hb)
 have hqnd : qv'.ownBlock.toList.Nodup := by cases qv'.ownBlock <;> simp
 refine ⟨?_, ?_, h.waits.same (fun b hb => hset b (hrd b (by simp [RC.rd, hb]))), ?_, ?_, ?_, ?_⟩
 ·rw [heap_setCell_same w rb 2 _ _ _ h.blk]; rfl
 ·show (w.setCell _ _).heap[c.mg]? = _
  rw [hset c.mg hmg]; exact h.marks
 ·exact hrow.same (fun b hb => hset b (fun e => hq b hb (by rw [e]; exact hrbm)))
 ·intro x hx
  refine (h.qs x (hsub x hx)).same (by simp) (fun b hb => hset b ?_)
  rcases List.mem_append.1 hb with h1 | h1
  ·exact hwr b (List.mem_flatMap.2 ⟨x, hsub x hx, h1⟩)
  ·rw [List.mem_singleton] at h1; subst h1; exact hrd _ (mem_rd (hsub x hx))
 ·show (rb :: c.mg :: (qv'.ownBlock.toList ++ cs'.flatMap CR.blk)).Nodup
  have hin : ∀ b, b ∈ c.cs.flatMap CR.blk → b ∈ c.blocks rb := fun b hb => List.mem_append_left _ (List.mem_cons_of_mem _ (List.mem_cons_of_mem _ (List.mem_append_right _ hb)))
  refine List.nodup_cons.2 ⟨?_, List.nodup_cons.2 ⟨?_, List.nodup_append.2 ⟨hqnd, hn3.2.1.sublist (flat_sub hs), fun a ha b hb e => hqn a ha (by rw [e]; exact hin b (hfm b hb))⟩⟩⟩
  ·intro hm
   rcases List.mem_cons.1 hm with h1 | h1
   ·exact hmg h1.symm
   ·rcases List.mem_append.1 h1 with h2 | h2
    ·exact hqn rb h2 hrbm
    ·exact hwr rb (hfm rb h2) rfl
  ·intro hm
   rcases List.mem_append.1 hm with h2 | h2
   ·exact hqn c.mg h2 (List.mem_append_left _ (List.mem_cons_of_mem _ List.mem_cons_self))
   ·exact hn2.1 (List.mem_append_right _ (hfm _ h2))
 ·intro b hb hm
  have hb' := hrd' b hb
  rcases List.mem_cons.1 hm with h1 | h1
  ·exact hrd b hb' h1
  ·rcases List.mem_cons.1 h1 with h2 | h2
   ·exact h.ap b hb' (by rw [h2]; exact List.mem_cons_of_mem _ List.mem_cons_self)
   ·rcases List.mem_append.1 h2 with h3 | h3
    ·exact hqn b h3 (List.mem_append_right _ hb')
    ·exact h.ap b hb' (List.mem_cons_of_mem _ (List.mem_cons_of_mem _ (List.mem_append_right _ (hfm b h3))))
/-- What Remove does. -/
def RemoveR (w : World) (rb n : Nat) (c : RC) (k : Int) (e : Ending) (w' : World) : Prop :=
 ∃ ck, e = .returned (.int .i64 ((removeE (eOf c.abs) k).1 : Int)) ∧ (removeE (eOf c.abs) k).2 = eOf ck.abs ∧ RE w' rb ck ∧ RSok n ck.abs ∧ Ext w (c.blocks rb) w' (ck.blocks rb)
set_option maxRecDepth 8000 in
set_option maxHeartbeats 2000000 in
theorem rremove_any {w : World} {rb n : Nat} {c : RC} (h : RE w rb c) (hr : RSok n c.abs) (k : Int) :
  Calls Tryz.prog 42 #[.pointer (some ⟨rb, 0, none⟩), .int .i64 k] w (RemoveR w rb n c k) := by
 have hcl : c.cs.length ≤ 10 := by have := hr.ql; simpa [RC.abs] using this
 obtain ⟨qa, qc, hqv, hqc⟩ := h.qrow.form
 have hcell : Hid (∀ W, Below w.heap.size w W → W.cell? ⟨rb, 2, none⟩ = some (.slice qa c.cs.length qc) ∧ W.frozen? ⟨rb, 2, none⟩ = false) := by
  intro W hb
  have hB := (h.below hb).blk
  exact ⟨by rw [cell_of_row W rb 2 _ _ _ hB]; simp [rCells, hqv], frozen_of_row W rb 2 _ _ hB⟩
 have hqcell : Hid (∀ W k, Below w.heap.size w W → (hk : k < c.cs.length) → ∃ g off, qa = some ⟨g, off, none⟩ ∧ W.cell? ⟨g, off + k, none⟩ = some (.pointer (some ⟨c.cs[k].qb, 0, none⟩)) ∧ W.cell? ⟨c.cs[k].qb, 0, none⟩ = some (.int .i64 c.cs[k].q.id)) := by
  intro W k hb hk
  have hW := h.below hb
  have hrr := hW.qrow
  obtain ⟨g, off, cap, hv, _⟩ := row_some hrr (by omega)
  rw [hv] at hrr hqv
  refine ⟨g, off, (Value.slice.inj hqv).1.symm, ?_, ?_⟩
  ·rw [hrr.cell k (by omega)]; simp [hk]
  ·rw [cell_of_row W _ 0 _ _ _ (hW.qs _ (List.getElem_mem hk)).blk]; rfl
 have hsim : removeE (eOf c.abs) k = match c.cs.find? (fun x => (x.q.id : Int) == k) with | none => (4, eOf c.abs) | some _ => (0, eOf (removeR c.abs k)) := by
  rw [remove_sim, find_abs]
  cases c.cs.find? (fun x => (x.q.id : Int) == k) <;> rfl
 have hfin : Hid (∀ W lv, RM w W lv (c.cs.filter (fun x => !((x.q.id : Int) == k))) → (c.cs.filter (fun x => !((x.q.id : Int) == k))).length ≠ c.cs.length → RemoveR w rb n c k (.returned (.int .i64 0)) (W.setCell ⟨rb, 2, none⟩ lv)) := by
  intro W lv hm hne
  have hW := h.below hm.below
  have hcut := hW.cut (cs' := c.cs.filter (fun x => !((x.q.id : Int) == k))) (qv' := lv) List.filter_sublist hm.row (fun b hb hmem => by have := h.lt b hmem; have := hm.new b hb; omega)
  have hsome : ∃ x, c.cs.find? (fun x => (x.q.id : Int) == k) = some x := by
   cases hf : c.cs.find? (fun x => (x.q.id : Int) == k) with
   | some x => exact ⟨x, rfl⟩
   | none =>
    exfalso
    refine hne (congrArg List.length (List.filter_eq_self.2 (fun x hx => ?_)))
    have := List.find?_eq_none.1 hf x hx
    simpa using this
  obtain ⟨x, hx⟩ := hsome
  have habs : ({ c with qv := lv, cs := c.cs.filter (fun x => !((x.q.id : Int) == k)) } : RC).abs = removeR c.abs k := by
   unfold RC.abs removeR
   simp only [List.filter_map]
   rfl
  refine ⟨_, ?_, ?_, hcut, ?_, ?_, ?_⟩
  ·rw [hsim, hx]; rfl
  ·rw [hsim, hx, habs]
  ·rw [habs]; exact remove_rok hr k
  ·have hrbm : rb ∈ c.blocks rb := List.mem_append_left _ List.mem_cons_self
   exact (Fr.of_below (c.blocks rb) hm.below).setCell (p := ⟨rb, 2, none⟩) (Or.inl hrbm) _
  ·intro b hb
   rcases List.mem_append.1 hb with h1 | h1
   ·rcases List.mem_cons.1 h1 with h2 | h2
    ·rw [h2]; exact Or.inl (List.mem_append_left _ List.mem_cons_self)
    ·rcases List.mem_cons.1 h2 with h3 | h3
     ·rw [h3]; exact Or.inl (List.mem_append_left _ (List.mem_cons_of_mem _ List.mem_cons_self))
     ·rcases List.mem_append.1 h3 with h4 | h4
      ·exact Or.inr (hm.new b (by simpa using h4))
      ·exact Or.inl (List.mem_append_left _ (List.mem_cons_of_mem _ (List.mem_cons_of_mem _ (List.mem_append_right _ ((flat_sub List.filter_sublist).subset h4)))))
   ·refine Or.inl (List.mem_append_right _ ?_)
    rcases List.mem_append.1 h1 with h2 | h2
    ·exact List.mem_append_left _ h2
    ·obtain ⟨y, hy, rfl⟩ := List.mem_map.1 h2
     exact mem_rd (List.filter_sublist.subset hy)
 have hnone : Hid (∀ W, Below w.heap.size w W → (c.cs.filter (fun x => !((x.q.id : Int) == k))).length = c.cs.length → RemoveR w rb n c k (.returned (.int .i64 4)) W) := by
  intro W hb hl
  have hf : c.cs.find? (fun x => (x.q.id : Int) == k) = none := by
   rw [List.find?_eq_none]
   intro x hx
   have := List.length_filter_eq_length_iff.1 hl x hx
   simpa using this
  refine ⟨c, ?_, ?_, h.below hb, hr, Ext.below hb⟩
  ·rw [hsim, hf]; rfl
  ·rw [hsim, hf]
 have hRM0 : Hid (RM w w (.slice none 0 0) ((c.cs.take 0).filter (fun x => !((x.q.id : Int) == k)))) := ⟨Below.refl _ _, ⟨rfl, Or.inl ⟨rfl, rfl⟩⟩, fun b hb => by cases hb⟩
 clear h hr hqv hsim
 go_enter Tryz.func42, Tryz.ntmps42
 go_wp2
 go_loopw [5, 6] (fun lv iv wr => ∃ (i ln : Nat) (z : Int) (la : Option Addr) (lcp : Nat), z = i ∧ iv = .int .i64 z ∧ i ≤ c.cs.length ∧ lv = .slice la ln lcp ∧ ln ≤ i ∧ Hid (ln = ((c.cs.take i).filter (fun x => !((x.q.id : Int) == k))).length ∧ RM w wr (.slice la ln lcp) ((c.cs.take i).filter (fun x => !((x.q.id : Int) == k))))) (fun _ iv _ => c.cs.length - (intOf iv).toNat)
 case atStart => exact ⟨0, 0, 0, none, 0, rfl, rfl, Nat.zero_le _, rfl, Nat.le_refl _, ⟨by simp, hRM0.out⟩⟩
 case round =>
  obtain ⟨i, ln, z, la, lcp, rfl, rfl, hi, rfl, hln, hM⟩ := hrel
  have hBl := hM.out.2.below
  obtain ⟨d2, f2⟩ := hcell.out wr hBl
  by_cases hlt : i < c.cs.length
  ·obtain ⟨g, off, hqa, e0, e1⟩ := hqcell.out wr i hBl hlt
   subst hqa
   obtain ⟨x, hx⟩ : ∃ x, c.cs[i] = x := ⟨_, rfl⟩
   have hnx : Hid ((c.cs.take (i + 1)).filter (fun x => !((x.q.id : Int) == k)) = (c.cs.take i).filter (fun x => !((x.q.id : Int) == k)) ++ (if (x.q.id : Int) = k then [] else [x])) := by
    unfold Hid
    rw [List.take_succ_eq_append_getElem hlt, List.filter_append, hx]
    congr 1
    by_cases hid : (x.q.id : Int) = k
    ·simp [hid]
    ·simp [hid]
   rw [hx] at e0 e1
   have hrow : Hid (Row wr 141 1 (.slice la ln lcp) ln (((c.cs.take i).filter (fun x => !((x.q.id : Int) == k))).map rptrV)) := by
    have h1 := hM.out.2.row
    rw [← hM.out.1] at h1
    exact h1
   clear hx
   by_cases hid : (x.q.id : Int) = k
   ·have hM2 : Hid (ln = ((c.cs.take (i + 1)).filter (fun x => !((x.q.id : Int) == k))).length ∧ RM w wr (.slice la ln lcp) ((c.cs.take (i + 1)).filter (fun x => !((x.q.id : Int) == k)))) := by
     unfold Hid
     rw [hnx.out, if_pos hid, List.append_nil]; exact hM.out
    have hn1 : ((x.q.id : Int) != k) = false := by simpa using hid
    clear hnx hM hBl
    go_wp2
    go_roundw
    case rel => exact ⟨i + 1, ln, (i : Int) + 1, la, lcp, by omega, rfl, by omega, rfl, by omega, hM2⟩
    case measure => simp [intOf]; omega
   ·have hn1 : ((x.q.id : Int) != k) = true := by simpa using hid
    go_wp2_with (at_builtin; refine append_rq wr rfl _ _ rfl (.slice la ln lcp) ln _ rfl hrow.out wr.heap.size rfl rfl rfl (by omega) ?_)
    intro g2 o2 c2 w2 r2 gr2 b2
    have hM2 : Hid (ln + 1 = ((c.cs.take (i + 1)).filter (fun x => !((x.q.id : Int) == k))).length ∧ RM w w2 (.slice (some ⟨g2, o2, none⟩) (ln + 1) c2) ((c.cs.take (i + 1)).filter (fun x => !((x.q.id : Int) == k)))) := by
     unfold Hid
     rw [hnx.out, if_neg hid]
     have hsz := hBl.size
     have hl2 : ln + 1 = ((c.cs.take i).filter (fun x => !((x.q.id : Int) == k)) ++ [x]).length := by rw [List.length_append, ← hM.out.1]; rfl
     refine ⟨hl2, (hBl.alloc hsz _).grown gr2 (by simp; omega) hM.out.2.new, ?_, ?_⟩
     ·rw [← hl2, List.map_append]; exact r2
     ·intro b hb
      have hb' : g2 = b := Option.some.inj hb
      rcases b2 with h1 | h1
      ·exact hM.out.2.new b (by rw [h1, hb'])
      ·omega
    clear r2 gr2 b2 hnx hM hBl
    go_wp2
    go_roundw
    case rel => exact ⟨i + 1, ln + 1, (i : Int) + 1, some ⟨g2, o2, none⟩, c2, by omega, rfl, by omega, rfl, by omega, hM2⟩
    case measure => simp [intOf]; omega
  ·have hil : i = c.cs.length := by omega
   obtain ⟨hln2, hRM⟩ := hM.out
   rw [List.take_of_length_le (by omega)] at hln2 hRM
   by_cases hsame : ln = c.cs.length
   ·have hx := Hid.mk' (hnone.out wr hBl (by rw [← hln2]; exact hsame))
    subst hsame
    clear hln2 hRM hM hBl
    go_wp2
    go_ret
    exact hx.out
   ·have hx := Hid.mk' (hfin.out wr _ hRM (by rw [← hln2]; exact hsame))
    have hs2 : ((ln : Int) == (c.cs.length : Int)) = false := by simp; omega
    have hs3 : ¬ (ln : Int) = (c.cs.length : Int) := by omega
    clear hln2 hRM hM hBl
    go_wp2
    go_ret
    exact hx.out
end Go.Proofs.YtbgfannlfagoiaaGreatDoor

namespace Go.Proofs.YtbgfannlfagoiaaGreatDoor
open Go.RowKit Go.Lull
set_option linter.unusedVariables false

set_option maxHeartbeats 1000000 in
theorem rproper_any (w : World) (n : Nat) (x : Ev) :
  Calls Tryz.prog 94 #[.agg #[.int .i64 x.1, .int .i64 x.2.1, .int .u8 x.2.2.1.toNat, .int .i64 x.2.2.2], .int .i64 n] w fun e w' => e = .returned (.bool (properB n x)) ∧ ∃ q os, w' = Go.Sort.grow (w.drewN q) os := by
 obtain ⟨s, t, k, v⟩ := x
 obtain ⟨R, hR⟩ : ∃ R, properB n (s, t, k, v) = R := ⟨_, rfl⟩
 rw [hR]
 simp only
 unfold properB at hR
 simp only at hR
 by_cases h1 : 0 ≤ s
 ·by_cases h2 : s < n
  ·by_cases h3 : 0 ≤ t
   ·by_cases h4 : t ≤ 1000000
    ·by_cases h5 : (97 : Int) ≤ (k.toNat : Int)
     ·by_cases h6 : (k.toNat : Int) ≤ 122
      ·by_cases h7 : -1000 ≤ v
       ·by_cases h8 : v ≤ 1000
        ·have h5' : 97 ≤ k.toNat := by omega
         have h6' : k.toNat ≤ 122 := by omega
         simp [h1, h2, h3, h4, h5', h6', h7, h8] at hR
         subst hR
         clear h5' h6'
         go_enter Tryz.func94, Tryz.ntmps94
         go_wp2
         go_ret
         exact ⟨rfl, 0, _, alloc_is_grow _ _⟩
        ·simp [h8] at hR
         subst hR
         go_enter Tryz.func94, Tryz.ntmps94
         go_wp2
         go_ret
         exact ⟨rfl, 0, _, alloc_is_grow _ _⟩
       ·simp [h7] at hR
        subst hR
        go_enter Tryz.func94, Tryz.ntmps94
        go_wp2
        go_ret
        exact ⟨rfl, 0, _, alloc_is_grow _ _⟩
      ·have h6' : ¬ k.toNat ≤ 122 := by omega
       simp [h6'] at hR
       subst hR
       clear h6'
       go_enter Tryz.func94, Tryz.ntmps94
       go_wp2
       go_ret
       exact ⟨rfl, 0, _, alloc_is_grow _ _⟩
     ·have h5' : ¬ 97 ≤ k.toNat := by omega
      simp [h5'] at hR
      subst hR
      clear h5'
      go_enter Tryz.func94, Tryz.ntmps94
      go_wp2
      go_ret
      exact ⟨rfl, 0, _, alloc_is_grow _ _⟩
    ·simp [h4] at hR
     subst hR
     go_enter Tryz.func94, Tryz.ntmps94
     go_wp2
     go_ret
     exact ⟨rfl, 0, _, alloc_is_grow _ _⟩
   ·simp [h3] at hR
    subst hR
    go_enter Tryz.func94, Tryz.ntmps94
    go_wp2
    go_ret
    exact ⟨rfl, 0, _, alloc_is_grow _ _⟩
  ·simp [h2] at hR
   subst hR
   go_enter Tryz.func94, Tryz.ntmps94
   go_wp2
   go_ret
   exact ⟨rfl, 0, _, alloc_is_grow _ _⟩
 ·simp [h1] at hR
  subst hR
  go_enter Tryz.func94, Tryz.ntmps94
  go_wp2
  go_ret
  exact ⟨rfl, 0, _, alloc_is_grow _ _⟩

end Go.Proofs.YtbgfannlfagoiaaGreatDoor

namespace Go.Proofs.YtbgfannlfagoiaaGreatDoor
open Go.RowKit Go.Lull
set_option linter.unusedVariables false

/-- Events that may be read: of their block nothing is known but these cells. -/
structure ES (w : World) (v : Value) (l : List Ev) : Prop where
 form : ∃ a cap, v = .slice a l.length cap ∧ l.length ≤ cap
 some_ : 0 < l.length → ∃ g off cap, v = .slice (some ⟨g, off, none⟩) l.length cap ∧ l.length ≤ cap
 cells : ∀ g off cap, v = .slice (some ⟨g, off, none⟩) l.length cap → ∀ i, (hi : i < l.length) → w.cell? ⟨g, off + i * 4, none⟩ = some (.int .i64 l[i].1) ∧ w.cell? ⟨g, off + i * 4 + 1, none⟩ = some (.int .i64 l[i].2.1) ∧ w.cell? ⟨g, off + i * 4 + 2, none⟩ = some (.int .u8 l[i].2.2.1.toNat) ∧ w.cell? ⟨g, off + i * 4 + 3, none⟩ = some (.int .i64 l[i].2.2.2)
section
variable {w w' : World} {v : Value} {l : List Ev}
theorem ES.at4 {g off cap : Nat} (h : ES w (.slice (some ⟨g, off, none⟩) l.length cap) l) (i : Nat) (hi : i < l.length) : w.cell? ⟨g, off + i * 4, none⟩ = some (.int .i64 l[i].1) ∧ w.cell? ⟨g, off + i * 4 + 1, none⟩ = some (.int .i64 l[i].2.1) ∧ w.cell? ⟨g, off + i * 4 + 2, none⟩ = some (.int .u8 l[i].2.2.1.toNat) ∧ w.cell? ⟨g, off + i * 4 + 3, none⟩ = some (.int .i64 l[i].2.2.2) := h.cells g off cap rfl i hi
theorem ES.lt (h : ES w v l) (hn : 0 < l.length) : ∀ b, v.ownBlock = some b → b < w.heap.size := by
 intro b hb
 obtain ⟨g, off, cap, rfl, _⟩ := h.some_ hn
 have hb' : g = b := Option.some.inj hb
 rw [← hb']
 exact block_lt_of_cell (h.cells g off cap rfl 0 hn).1
theorem ES.same (h : ES w v l) (hs : ∀ b, v.ownBlock = some b → 0 < l.length → w'.heap[b]? = w.heap[b]?) : ES w' v l := by
 refine ⟨h.form, h.some_, fun g off cap hv i hi => ?_⟩
 have hb := hs g (by rw [hv]; rfl) (by omega)
 have hc : ∀ j, w'.cell? ⟨g, j, none⟩ = w.cell? ⟨g, j, none⟩ := fun j => World.cell?_of_block (a := ⟨g, j, none⟩) hb
 simp only [hc]
 exact h.cells g off cap hv i hi
theorem ES.fr {F : List Nat} (hf : Fr F w w') (h : ES w v l) (hn : ∀ b, v.ownBlock = some b → b ∉ F) : ES w' v l := h.same (fun b hb hp => hf.block b (h.lt hp b hb) (hn b hb))
theorem ES.of_row (h : Row w 75 4 v l.length (l.flatMap evC)) : ES w v l := by
 refine ⟨h.form, fun hn => row_some h hn, fun g off cap hv i hi => ?_⟩
 rw [hv] at h
 exact ev_at h i hi
end
set_option maxRecDepth 8000 in
set_option maxHeartbeats 2000000 in
theorem offer_es (w : World) (eb : Nat) (c : CE) (v : Value) (l : List Ev) (h : EG w eb c) (hs : SB c.buf) (hl : l.length ≤ 1000000000) (hrow : ES w v l) (hap : 0 < l.length → ∀ b, v.ownBlock = some b → b ∉ c.blocks eb) :
  Calls Tryz.prog 30 #[.pointer (some ⟨eb, 0, none⟩), v] w (OfferPost w eb c l) := by
 have hmade := Hid.mk' (made_yes eb w h.self)
 have h0 : Hid (OF w w eb c c l 0) := ⟨h, Ext.refl _ _, hs, by simp⟩
 obtain ⟨va, vcap, rfl, hvc⟩ := hrow.form
 have HR := Hid.mk' hrow
 have HAP := Hid.mk' hap
 clear h hs hrow hap
 obtain ⟨PO, hPO⟩ : ∃ PO, OfferPost w eb c l = PO := ⟨_, rfl⟩
 have HPO := Hid.mk' hPO
 rw [hPO]
 clear hPO
 go_enter Tryz.func30, Tryz.ntmps30
 go_wp2_with (go_at_call 39; refine hmade.out.mono ?_; rintro e w' ⟨rfl, rfl⟩)
 go_loopw [14] (fun i wr => ∃ (k : Nat) (ck : CE), i = .int .i64 k ∧ k ≤ l.length ∧ Hid (OF w' wr eb c ck l k)) (fun i _ => l.length - (intOf i).toNat)
 case atStart => exact ⟨0, c, rfl, Nat.zero_le _, h0⟩
 case round =>
  obtain ⟨k, ck, rfl, hk, hO⟩ := hrel
  by_cases hlt : k < l.length
  ·obtain ⟨g, off, cap', hva, _⟩ := HR.out.some_ (by omega)
   obtain ⟨rfl, _, rfl⟩ := Value.slice.inj hva
   clear hva
   have hgl := HR.out.lt (by omega) g rfl
   have hrw : ES wr (.slice (some ⟨g, off, none⟩) l.length vcap) l := ES.fr hO.out.ext.fr HR.out (HAP.out (by omega))
   obtain ⟨y0, y1, y2, y3⟩ := hrw.at4 k hlt
   obtain ⟨x, hx⟩ : ∃ x, l[k] = x := ⟨_, rfl⟩
   rw [hx] at y0 y1 y2 y3
   have hdrop : Hid (l.drop k = x :: l.drop (k + 1)) := by unfold Hid; rw [List.drop_eq_getElem_cons hlt, hx]
   clear hrw hx
   have hbox : Hid (Below wr.heap.size wr (wr.alloc (.cells #[.int .i64 x.1, .int .i64 x.2.1, .int .u8 x.2.2.1.toNat, .int .i64 x.2.2.2] 75))) := Hid.mk' ((Below.refl _ _).alloc (Nat.le_refl _) _)
   have htake := Hid.mk' (take_eg (wr.alloc (.cells #[.int .i64 x.1, .int .i64 x.2.1, .int .u8 x.2.2.1.toNat, .int .i64 x.2.2.2] 75)) eb ck x (hO.out.eg.below hbox.out) hO.out.sb)
   obtain ⟨E, hE⟩ : ∃ E, (takeE ck.abs x).1 = E := ⟨_, rfl⟩
   have hT : Hid (∀ e w2, TkPost (wr.alloc (.cells #[.int .i64 x.1, .int .i64 x.2.1, .int .u8 x.2.2.1.toNat, .int .i64 x.2.2.2] 75)) eb ck x e w2 → e = .returned (.int .i64 E) ∧ (E = 0 → Hid (∃ c2, OF w' w2 eb c c2 l (k + 1))) ∧ (E ≠ 0 → Hid (PO (.returned (.tuple #[.int .i64 k, .int .i64 E])) w2))) := by
    rintro e w2 ⟨rfl, c2, g1, g2, g3⟩
    have hext := hO.out.ext.trans ((Ext.below hbox.out).trans g3)
    refine ⟨by rw [hE], fun h0 => ⟨c2, g1, hext, ?_, ?_⟩, fun hn => ?_⟩
    ·have := takeE_sb (s := ck.abs) (e := x) hO.out.sb
     rw [← g2] at this; exact this
    ·rw [hO.out.eq, hdrop.out, offerE_ok (by rw [hE, h0]), ← g2]
     simp only [Prod.mk.injEq]
     exact ⟨by omega, trivial⟩
    ·unfold Hid
     rw [← HPO.out]
     have hof : offerE c.abs l = (k, takeE ck.abs x) := by
      rw [hO.out.eq, hdrop.out, offerE_no (by rw [hE]; exact hn)]; rfl
     unfold OfferPost
     rw [hof]
     exact ⟨by rw [← hE], c2, g1, g2, hext⟩
   obtain ⟨x0, x1, x2, x3⟩ := x
   clear hbox hE hdrop
   simp only at y0 y1 y2 y3 htake hT
   by_cases hE0 : E = 0
   ·subst hE0
    have hT' : Hid (∀ e w2, TkPost (wr.alloc (.cells #[.int .i64 x0, .int .i64 x1, .int .u8 x2.toNat, .int .i64 x3] 75)) eb ck (x0, x1, x2, x3) e w2 → e = .returned (.int .i64 0) ∧ Hid (∃ c2, OF w' w2 eb c c2 l (k + 1))) := fun e w2 hp => ⟨(hT.out e w2 hp).1, (hT.out e w2 hp).2.1 rfl⟩
    clear hT hO
    go_wp2_with (go_at_call 60; refine htake.out.mono ?_; intro e w2 hp; obtain ⟨rfl, hof⟩ := hT'.out e w2 hp; clear hp)
    obtain ⟨c2, hof⟩ := hof.out
    go_roundw
    case rel => exact ⟨k + 1, c2, by go_num, by omega, hof⟩
    case measure => simp [intOf]; omega
   ·have hT' : Hid (∀ e w2, TkPost (wr.alloc (.cells #[.int .i64 x0, .int .i64 x1, .int .u8 x2.toNat, .int .i64 x3] 75)) eb ck (x0, x1, x2, x3) e w2 → e = .returned (.int .i64 E) ∧ Hid (PO (.returned (.tuple #[.int .i64 k, .int .i64 E])) w2)) := fun e w2 hp => ⟨(hT.out e w2 hp).1, (hT.out e w2 hp).2.2 hE0⟩
    clear hT hO
    have hE1 : ¬ (E : Int) = 0 := by omega
    go_wp2_with (go_at_call 60; refine htake.out.mono ?_; intro e w2 hp; obtain ⟨rfl, hof⟩ := hT'.out e w2 hp; clear hp)
    exact hof.out
  ·have hfin : Hid (PO (.returned (.tuple #[.int .i64 l.length, .int .i64 0])) wr) := by
    unfold Hid
    rw [← HPO.out]
    obtain rfl : k = l.length := by omega
    have hof : offerE c.abs l = (l.length, 0, ck.abs) := by
     rw [hO.out.eq, List.drop_length]; rfl
    unfold OfferPost
    rw [hof]
    exact ⟨rfl, ck, hO.out.eg, rfl, hO.out.ext⟩
   clear hO
   go_wp2
   exact hfin.out
end Go.Proofs.YtbgfannlfagoiaaGreatDoor

namespace Go.Lull
theorem take_eOf (r : RS) (e : Ev) : takeE (eOf r) e = if properB r.marks.length e = true then (if e.2.1 < markB r.marks then (5, eOf r) else if 60 ≤ r.waits.length then (6, eOf r) else (0, eOf { r with waits := putB r.waits e })) else (1, eOf r) := rfl
theorem offer_no {s : En} {e : Ev} {l : List Ev} (h : (takeE s e).1 ≠ 0) : offerE s (e :: l) = (0, takeE s e) := by
 rw [show offerE s (e :: l) = if (takeE s e).1 = 0 then (let x := offerE (takeE s e).2 l; (x.1 + 1, x.2)) else (0, takeE s e) from rfl, if_neg h]
theorem offer_yes {s : En} {e : Ev} {l : List Ev} (h : (takeE s e).1 = 0) : offerE s (e :: l) = ((offerE (takeE s e).2 l).1 + 1, (offerE (takeE s e).2 l).2) := by
 rw [show offerE s (e :: l) = if (takeE s e).1 = 0 then (let x := offerE (takeE s e).2 l; (x.1 + 1, x.2)) else (0, takeE s e) from rfl, if_pos h]
end Go.Lull
namespace Go.Proofs.YtbgfannlfagoiaaGreatDoor
open Go.RowKit Go.Lull
set_option linter.unusedVariables false
theorem RE.setWaits {w : World} {rb : Nat} {c : RC} {v : Value} {l : List Ev} (h : RE w rb c) (hrow : Row w 75 4 v l.length (l.flatMap evC)) (hv : ∀ b, v.ownBlock = some b → b ∉ c.wr rb) : RE (w.setCell ⟨rb, 1, none⟩ v) rb { c with wv := v, waits := l } := by
 have hn1 := List.nodup_cons.1 h.nd
 have hset : ∀ b, b ≠ rb → (w.setCell ⟨rb, 1, none⟩ v).heap[b]? = w.heap[b]? := fun b hne => Below.heap_setCell _ _ _ _ hne
 have hwr : ∀ b ∈ c.mg :: (c.qv.ownBlock.toList ++ c.cs.flatMap CR.blk), b ≠ rb := fun b hb e => hn1.1 (by rw [← e]; exact hb)
 refine ⟨by rw [heap_setCell_same w rb 1 _ _ _ h.blk]; rfl, by show (w.setCell _ _).heap[c.mg]? = _; rw [hset c.mg (hwr _ List.mem_cons_self)]; exact h.marks, hrow.same (fun b hb => hset b (fun e => hv b hb (by rw [e]; exact List.mem_cons_self))), h.qrow.same (fun b hb => hset b (hwr b (by simp [hb]))), fun x hx => (h.qs x hx).same (by simp) (fun b hb => hset b ?_), h.nd, ?_⟩
 ·rcases List.mem_append.1 hb with h1 | h1
  ·exact hwr b (List.mem_cons_of_mem _ (List.mem_append_right _ (List.mem_flatMap.2 ⟨x, hx, h1⟩)))
  ·rw [List.mem_singleton] at h1; subst h1
   exact fun e => h.ap _ (mem_rd hx) (by rw [e]; exact List.mem_cons_self)
 ·intro b hb
  rcases List.mem_append.1 hb with h1 | h1
  ·exact hv b (by simpa using h1)
  ·exact h.ap b (List.mem_append_right _ h1)
/-- What Offer does. -/
def OfferR (w : World) (rb n : Nat) (c : RC) (l : List Ev) (e : Ending) (w' : World) : Prop :=
 ∃ ck, e = .returned (.tuple #[.int .i64 ((offerE (eOf c.abs) l).1 : Int), .int .i64 ((offerE (eOf c.abs) l).2.1 : Int)]) ∧ (offerE (eOf c.abs) l).2.2 = eOf ck.abs ∧ RE w' rb ck ∧ RSok (n + l.length) ck.abs ∧ Ext w (c.blocks rb) w' (ck.blocks rb)
/-- Offer, in the midst. -/
structure OFR (w wr : World) (rb n : Nat) (c ck : RC) (v : Value) (l : List Ev) (i : Nat) : Prop where
 re : RE wr rb ck
 ok : RSok (n + i) ck.abs
 ext : Ext w (c.blocks rb) wr (ck.blocks rb)
 row : ES wr v l
 eq : offerE (eOf c.abs) l = ((offerE (eOf ck.abs) (l.drop i)).1 + i, (offerE (eOf ck.abs) (l.drop i)).2)
theorem OFR.no {w wr w' : World} {rb n i : Nat} {c ck : RC} {v : Value} {l : List Ev} {x : Ev} (h : OFR w wr rb n c ck v l i) (hlt : i < l.length) (hx : l[i] = x) (hb : Below wr.heap.size wr w') (k : Nat) (hk : k ≠ 0) (ht : takeE (eOf ck.abs) x = (k, eOf ck.abs)) : OfferR w rb n c l (.returned (.tuple #[.int .i64 (i : Int), .int .i64 (k : Int)])) w' := by
 have he := h.eq
 rw [List.drop_eq_getElem_cons hlt, hx, offer_no (by rw [ht]; exact hk), ht] at he
 refine ⟨ck, ?_, by rw [he], h.re.below hb, h.ok.mono (by omega), h.ext.trans (Ext.below hb)⟩
 rw [he]; simp
end Go.Proofs.YtbgfannlfagoiaaGreatDoor
