import Derived.Test.YtbgfannlfagoiaaDoorRows
import Derived.WalkKit
import Derived.WalkSpells
import Derived.WalkLawsBesides
import Derived.Deep.AppendLies
import Derived.Test.YtbgfannlfagoiaaDoorPure
import Derived.Deep.AppendSrc
import Derived.Deep.Upon
import Derived.Lib.SliceRun
import Derived.BigFrame
import Derived.LaidEqlPtr
namespace Go.Proofs.YtbgfannlfagoiaaDoor
open Go.RowKit
set_option linter.unusedVariables false

theorem Hid.mk' {p : Prop} (h : p) : Hid p := h
theorem ret_i {k : IntKind} {a b : Int} (h : a = b) : Ending.returned (.int k a) = .returned (.int k b) := by rw [h]
theorem heap_alloc_at (w : World) (o : Obj) (n : Nat) (h : n = w.heap.size) : (w.alloc o).heap[n]? = some o := by
  subst h; exact heap_alloc_new w o
theorem alloc_keep {w : World} {a : Addr} {v : Value} (o : Obj) (h : w.cell? a = some v) : (w.alloc o).cell? a = some v := by
  by_cases e : a.block = w.heap.size
  · exfalso
    simp [World.cell?, e] at h
  · rw [World.cell?_alloc_old _ _ _ e, h]
theorem drew_keep {w : World} {a : Addr} {v : Value} (h : w.cell? a = some v) : w.drew.cell? a = some v := h
section
variable {w w' : World} {base base' : Nat} {e e' : TypeId} {size size' : Nat} {v v' : Value} {n n' : Nat} {xs xs' : List Value}
theorem own_mono (h : w.ownsRow base e size v n xs) (hb : base' ≤ base) : w.ownsRow base' e size v n xs :=
  ⟨h.1, h.2.imp id fun ⟨g, cap, cur, e1, e2, e3⟩ => ⟨g, cap, cur, e1, Nat.le_trans hb e2, e3⟩⟩
theorem own_row (h : w.ownsRow base e size v n xs) : ∀ k, v.ownBlock = some k → base ≤ k := by
  intro k hk
  rcases h.2 with ⟨e, _⟩ | ⟨g, cap, cur, e, hg, _⟩
  · rw [e] at hk; cases hk
  · rw [e] at hk; cases hk; exact hg
theorem own_below (h : w.ownsRow base e size v n xs) (hb : Below w.heap.size w w') : w'.ownsRow base e size v n xs := by
  refine ⟨h.1, ?_⟩
  rcases h.2 with h2 | ⟨g, cap, cur, h1, h2, h3, h4⟩
  · exact Or.inl h2
  · exact Or.inr ⟨g, cap, cur, h1, h2, by rw [hb.block g (lt_of_block h3)]; exact h3, h4⟩
theorem own_drewN {q : Nat} (h : w.ownsRow base e size v n xs) : (w.drewN q).ownsRow base e size v n xs := h
theorem own_grown {row : Option Nat} (h : w.ownsRow base e size v n xs) (hg : w.grownBy w' row) (hne : ∀ k, v.ownBlock = some k → some k ≠ row) : w'.ownsRow base e size v n xs := by
  refine ⟨h.1, ?_⟩
  rcases h.2 with h2 | ⟨g, cap, cur, h1, h2, h3, h4⟩
  · exact Or.inl h2
  · exact Or.inr ⟨g, cap, cur, h1, h2, by rw [hg.block g (lt_of_block h3) (hne g (by rw [h1]; rfl))]; exact h3, h4⟩
theorem own_apart (h : w.ownsRow base e size v n xs) (h' : w.ownsRow base' e' size' v' n' xs') (hne : e ≠ e') : ∀ k, v.ownBlock = some k → some k ≠ v'.ownBlock := by
  intro k hk hk'
  rcases h.2 with ⟨e1, _⟩ | ⟨g, cap, cur, e1, _, h3, _⟩
  · rw [e1] at hk; cases hk
  · rcases h'.2 with ⟨e2, _⟩ | ⟨g', cap', cur', e2, _, h3', _⟩
    · rw [e2] at hk'; cases hk'
    · rw [e1] at hk; rw [e2] at hk'
      cases hk
      cases hk'
      rw [h3] at h3'
      cases h3'
      exact hne rfl
end
end Go.Proofs.YtbgfannlfagoiaaDoor

namespace Go.Proofs.YtbgfannlfagoiaaDoor
open Go.RowKit Go.Lull

/-- A step, as the program holds it. -/
def stepV (x : Bool × UInt8 × UInt8 × Int) : Value := .iface (if x.1 = true then 206 else 207) (.agg #[.int .u8 x.2.1.toNat, .int .u8 x.2.2.1.toNat, .int .i64 x.2.2.2])
theorem must_must (W : World) (v : Value) : (Instr.typeAssert (.iface 207 v) 189 207 true).run Tryd.prog W = .ok (.tuple #[v, .bool true]) W := by kernel_rfl
theorem not_must (W : World) (v : Value) : (Instr.typeAssert (.iface 206 v) 189 207 true).run Tryd.prog W = .ok (.tuple #[.agg #[.int .u8 0, .int .u8 0, .int .i64 0], .bool false]) W := by kernel_rfl
theorem not_not (W : World) (v : Value) : (Instr.typeAssert (.iface 206 v) 189 206 true).run Tryd.prog W = .ok (.tuple #[v, .bool true]) W := by kernel_rfl
theorem must_not (W : World) (v : Value) : (Instr.typeAssert (.iface 207 v) 189 206 true).run Tryd.prog W = .ok (.tuple #[.agg #[.int .u8 0, .int .u8 0, .int .i64 0], .bool false]) W := by kernel_rfl
end Go.Proofs.YtbgfannlfagoiaaDoor

namespace Go.Proofs.YtbgfannlfagoiaaDoor
open Go.RowKit
set_option linter.unusedVariables false

/-- All is as it was but the blocks of F. -/
structure Fr (F : List Nat) (w w' : World) : Prop where
  os : w'.os = w.os
  tape : w'.tape = w.tape
  output : w'.output = w.output
  size : w.heap.size ≤ w'.heap.size
  block : ∀ k, k < w.heap.size → k ∉ F → w'.heap[k]? = w.heap[k]?

section
variable {F G : List Nat} {a b c w w' : World}
theorem Fr.refl (F : List Nat) (w : World) : Fr F w w := ⟨rfl, rfl, rfl, Nat.le_refl _, fun _ _ _ => rfl⟩
theorem Fr.trans (h : Fr F a b) (k : Fr F b c) : Fr F a c :=
  ⟨k.os.trans h.os, k.tape.trans h.tape, k.output.trans h.output, Nat.le_trans h.size k.size, fun i hi hn => (k.block i (Nat.lt_of_lt_of_le hi h.size) hn).trans (h.block i hi hn)⟩
theorem Fr.mono (h : Fr F a b) (hs : ∀ k ∈ F, k ∈ G ∨ a.heap.size ≤ k) : Fr G a b :=
  ⟨h.os, h.tape, h.output, h.size, fun i hi hn => h.block i hi (fun hm => (hs i hm).elim hn (fun hl => absurd hi (Nat.not_lt.2 hl)))⟩
theorem Fr.trans' (h : Fr F a b) (k : Fr G b c) (hs : ∀ k ∈ G, k ∈ F ∨ a.heap.size ≤ k) : Fr F a c :=
  ⟨k.os.trans h.os, k.tape.trans h.tape, k.output.trans h.output, Nat.le_trans h.size k.size, fun i hi hn =>
    (k.block i (Nat.lt_of_lt_of_le hi h.size) (fun hm => (hs i hm).elim hn (fun hl => absurd hi (Nat.not_lt.2 hl)))).trans (h.block i hi hn)⟩
theorem Fr.of_below (F : List Nat) (h : Below w.heap.size w w') : Fr F w w' := ⟨h.os, h.tape, h.output, h.size, fun k hk _ => h.block k hk⟩
theorem Fr.below (h : Fr [] w w') : Below w.heap.size w w' := ⟨h.os, h.tape, h.output, h.size, fun k hk => h.block k hk (by simp)⟩
theorem Fr.alloc (h : Fr F a w) (o : Obj) : Fr F a (w.alloc o) :=
  h.trans ⟨rfl, rfl, rfl, by simp, fun k hk _ => Below.heap_alloc _ _ _ hk⟩
theorem Fr.drew (h : Fr F a w) : Fr F a w.drew := ⟨h.os, h.tape, h.output, h.size, h.block⟩
theorem Fr.drewN (h : Fr F a w) (q : Nat) : Fr F a (w.drewN q) := ⟨h.os, h.tape, h.output, h.size, h.block⟩
theorem Fr.setCell (h : Fr F a w) {p : Addr} (hp : p.block ∈ F ∨ a.heap.size ≤ p.block) (u : Value) : Fr F a (w.setCell p u) :=
  ⟨h.os, h.tape, h.output, Nat.le_trans h.size (by simp [World.setCell]), fun k hk hn => (Below.heap_setCell _ _ _ _ (fun e => by subst e; exact hp.elim hn (fun hl => absurd hk (Nat.not_lt.2 hl)))).trans (h.block k hk hn)⟩
theorem Fr.grown {row : Option Nat} (h : Fr F a w) (hg : w.grownBy w' row) (hr : ∀ k, row = some k → k ∈ F ∨ a.heap.size ≤ k) : Fr F a w' :=
  ⟨hg.os.trans h.os, hg.tape.trans h.tape, hg.output.trans h.output, Nat.le_trans h.size hg.size, fun k hk hn => (hg.block k (Nat.lt_of_lt_of_le hk h.size) (fun e => (hr k e.symm).elim hn (fun hl => absurd hk (Nat.not_lt.2 hl)))).trans (h.block k hk hn)⟩
theorem Fr.cell (h : Fr F w w') {p : Addr} {v : Value} (hc : w.cell? p = some v) (hn : p.block ∉ F) : w'.cell? p = some v :=
  (World.cell?_of_block (h.block p.block (block_lt_of_cell hc) hn)).trans hc
theorem Fr.own {base : Nat} {e : TypeId} {size : Nat} {v : Value} {n : Nat} {xs : List Value} (h : Fr F w w') (ho : w.ownsRow base e size v n xs) (hn : ∀ k, v.ownBlock = some k → k ∉ F) : w'.ownsRow base e size v n xs := by
  refine ⟨ho.1, ?_⟩
  rcases ho.2 with h2 | ⟨g, cap, cur, h1, h2, h3, h4⟩
  · exact Or.inl h2
  · exact Or.inr ⟨g, cap, cur, h1, h2, by rw [h.block g (lt_of_block h3) (hn g (by rw [h1]; rfl))]; exact h3, h4⟩
theorem own_form {base : Nat} {e : TypeId} {size : Nat} {v : Value} {n : Nat} {xs : List Value} (h : w.ownsRow base e size v n xs) : ∃ a cap, v = .slice a n cap := by
  rcases h.2 with ⟨h, h0⟩ | ⟨g, cp, cur, h, _⟩
  · exact ⟨_, _, h0 ▸ h⟩
  · exact ⟨_, _, h⟩
theorem own_ne {base : Nat} {e t : TypeId} {size : Nat} {v : Value} {n rb : Nat} {xs : List Value} {cs : Array Value} {fr : Nat × Nat} (h : w.ownsRow base e size v n xs) (hb : w.heap[rb]? = some (.cells cs t fr)) (hne : e ≠ t) : v.ownBlock ≠ some rb := by
  intro hk
  rcases h.2 with ⟨e, _⟩ | ⟨g, cap, cur, e, _, h3, _⟩
  · rw [e] at hk; cases hk
  · rw [e] at hk; cases hk; rw [h3] at hb; cases hb; exact hne rfl
theorem own_setCell {base : Nat} {e : TypeId} {size : Nat} {v : Value} {n rb i : Nat} {xs : List Value} (h : w.ownsRow base e size v n xs) (hne : v.ownBlock ≠ some rb) (u : Value) : (w.setCell ⟨rb, i, none⟩ u).ownsRow base e size v n xs := by
  refine ⟨h.1, ?_⟩
  rcases h.2 with h2 | ⟨g, cap, cur, h1, h2, h3, h4⟩
  · exact Or.inl h2
  · exact Or.inr ⟨g, cap, cur, h1, h2, by rw [Below.heap_setCell _ _ _ _ (fun e => hne (by rw [h1]; simp [Value.ownBlock, e]))]; exact h3, h4⟩
theorem own_lt {base : Nat} {e : TypeId} {size : Nat} {v : Value} {n : Nat} {xs : List Value} (h : w.ownsRow base e size v n xs) : ∀ k, v.ownBlock = some k → k < w.heap.size := by
  intro k hk
  rcases h.2 with ⟨e, _⟩ | ⟨g, cap, cur, e, _, h3, _⟩
  · rw [e] at hk; cases hk
  · rw [e] at hk; cases hk; exact lt_of_block h3
end
end Go.Proofs.YtbgfannlfagoiaaDoor

namespace Go.Proofs.YtbgfannlfagoiaaDoor
open Go.RowKit
set_option linter.unusedVariables false

theorem heap_setCells_same (g : Nat) (e : TypeId) : ∀ (vs : List Value) (o : Nat) (w : World) (cur : List Value), w.heap[g]? = some (.cells cur.toArray e (0, 0)) → o + vs.length ≤ cur.length →
    (w.setCells g o vs).heap[g]? = some (.cells (cur.take o ++ vs ++ cur.drop (o + vs.length)).toArray e (0, 0))
  | [], o, w, cur, h, _ => by simpa [World.setCells] using h
  | v :: r, o, w, cur, h, hl => by
    rw [World.setCells]
    simp only [List.length_cons] at hl
    have h1 : (w.setCell ⟨g, o, none⟩ v).heap[g]? = some (.cells (cur.set o v).toArray e (0, 0)) := by
      rw [heap_setCell_same w g o _ _ _ h]
      simp
    rw [heap_setCells_same g e r (o + 1) _ (cur.set o v) h1 (by simp; omega)]
    congr 3
    have h2 : (cur.set o v).take (o + 1) = cur.take o ++ [v] := by
      rw [List.take_succ_eq_append_getElem (by simp; omega), List.take_set_of_le (Nat.le_refl _)]
      simp
    have h3 : (cur.set o v).drop (o + 1 + r.length) = cur.drop (o + (v :: r).length) := by
      rw [List.drop_set_of_lt (by omega)]
      congr 1
      simp; omega
    rw [h2, h3]
    simp

theorem setCells_size (g : Nat) : ∀ (vs : List Value) (o : Nat) (w : World), (w.setCells g o vs).heap.size = w.heap.size
  | [], o, w => rfl
  | v :: r, o, w => by rw [World.setCells, setCells_size g r]; simp [World.setCell]
theorem setCells_other (g : Nat) {k : Nat} (hk : k ≠ g) : ∀ (vs : List Value) (o : Nat) (w : World), (w.setCells g o vs).heap[k]? = w.heap[k]?
  | [], o, w => rfl
  | v :: r, o, w => by rw [World.setCells, setCells_other g hk r, Below.heap_setCell _ _ _ _ (by simpa using hk)]
theorem setCells_os (g : Nat) : ∀ (vs : List Value) (o : Nat) (w : World), (w.setCells g o vs).os = w.os ∧ (w.setCells g o vs).tape = w.tape ∧ (w.setCells g o vs).output = w.output
  | [], o, w => ⟨rfl, rfl, rfl⟩
  | v :: r, o, w => by rw [World.setCells]; exact setCells_os g r (o + 1) _
theorem Fr.setCells {F : List Nat} {a w : World} (h : Fr F a w) {g : Nat} (hp : g ∈ F ∨ a.heap.size ≤ g) (o : Nat) (vs : List Value) : Fr F a (w.setCells g o vs) :=
  ⟨(setCells_os g vs o w).1.trans h.os, (setCells_os g vs o w).2.1.trans h.tape, (setCells_os g vs o w).2.2.trans h.output, by rw [setCells_size]; exact h.size,
    fun k hk hn => (setCells_other g (fun e => by subst e; exact hp.elim hn (fun hl => absurd hk (Nat.not_lt.2 hl))) vs o w).trans (h.block k hk hn)⟩

/-- A slice's elements in memory, from whatever place of its block on. -/
def Row (w : World) (e : TypeId) (size : Nat) (v : Value) (n : Nat) (xs : List Value) : Prop :=
  xs.length = n * size ∧
  ((v = .slice none 0 0 ∧ n = 0) ∨
   ∃ g off cap cur, v = .slice (some ⟨g, off, none⟩) n cap ∧ w.heap[g]? = some (.cells cur e (0, 0)) ∧ n ≤ cap ∧ cap ≤ maxLen ∧ off + cap * size ≤ cur.size ∧ (cur.toList.drop off).take (n * size) = xs)

section
variable {P : Program} {w w' : World} {e : TypeId} {size : Nat} {v : Value} {n : Nat} {xs : List Value}
theorem Row.of_own {base : Nat} (h : w.ownsRow base e size v n xs) : Row w e size v n xs := by
  refine ⟨h.1, h.2.imp id ?_⟩
  rintro ⟨g, cap, cur, h1, _, h3, h4, h5, h6, h7⟩
  exact ⟨g, 0, cap, cur, h1, h3, h4, h5, by omega, by simpa using h7⟩
theorem Row.fr {F : List Nat} (h : Fr F w w') (ho : Row w e size v n xs) (hn : ∀ k, v.ownBlock = some k → k ∉ F) : Row w' e size v n xs := by
  refine ⟨ho.1, ho.2.imp id ?_⟩
  rintro ⟨g, off, cap, cur, h1, h3, h4⟩
  exact ⟨g, off, cap, cur, h1, by rw [h.block g (lt_of_block h3) (hn g (by rw [h1]; rfl))]; exact h3, h4⟩
theorem Row.same (ho : Row w e size v n xs) (hn : ∀ k, v.ownBlock = some k → w'.heap[k]? = w.heap[k]?) : Row w' e size v n xs := by
  refine ⟨ho.1, ho.2.imp id ?_⟩
  rintro ⟨g, off, cap, cur, h1, h3, h4⟩
  exact ⟨g, off, cap, cur, h1, by rw [hn g (by rw [h1]; rfl)]; exact h3, h4⟩
theorem Row.form (h : Row w e size v n xs) : ∃ a cap, v = .slice a n cap ∧ n ≤ cap := by
  rcases h.2 with ⟨h, h0⟩ | ⟨g, off, cp, cur, h, _, h2, _⟩
  · exact ⟨_, _, h0 ▸ h, by omega⟩
  · exact ⟨_, _, h, h2⟩
theorem Row.lt (h : Row w e size v n xs) : ∀ k, v.ownBlock = some k → k < w.heap.size := by
  intro k hk
  rcases h.2 with ⟨e, _⟩ | ⟨g, off, cap, cur, e, h3, _⟩
  · rw [e] at hk; cases hk
  · rw [e] at hk; cases hk; exact lt_of_block h3
theorem Row.ne {t : TypeId} {rb : Nat} {cs : Array Value} {fr : Nat × Nat} (h : Row w e size v n xs) (hb : w.heap[rb]? = some (.cells cs t fr)) (hne : e ≠ t) : v.ownBlock ≠ some rb := by
  intro hk
  rcases h.2 with ⟨e, _⟩ | ⟨g, off, cap, cur, e, h3, _⟩
  · rw [e] at hk; cases hk
  · rw [e] at hk; cases hk; rw [h3] at hb; cases hb; exact hne rfl
theorem Row.cell {g off cap : Nat} (h : Row w e size (.slice (some ⟨g, off, none⟩) n cap) n xs) (j : Nat) (hj : j < n * size) : w.cell? ⟨g, off + j, none⟩ = xs[j]? := by
  rcases h.2 with ⟨e, _⟩ | ⟨g', off', cap', cur, e1, h3, h4, h5, h6, h7⟩
  · cases e
  · cases e1
    rw [cell_of_row w g (off + j) _ _ _ h3, ← h7, List.getElem?_take_of_lt hj, List.getElem?_drop, Array.getElem?_toList]

/-- append onto such a slice. -/
theorem run_append_row (t ty : TypeId) (i : TypeInfo) (z : Value) (bytes : Nat) (ht : P.underlying t = some (.slice e)) (hi : P.info? e = some i) (hz : i.zero = some z)
    (hsize : i.size = size) (hby : i.bytes = bytes) (hzs : z.cells.size = size) (hrow : Row w e size v n xs) (x : Value) (m : Nat) (news : List Value) (hs : Src P size t x m news w)
    (hm : 0 < m) (h63 : n + m ≤ maxLen) (hbytes : (n + m) * bytes ≤ 140737488355328) :
    ∃ g off cap w', (Builtin.append_ #[t, t] ty #[v, x]).run P w = .ok (.slice (some ⟨g, off, none⟩) (n + m) cap) w' ∧
      Row w' e size (.slice (some ⟨g, off, none⟩) (n + m) cap) (n + m) (xs ++ news) ∧ w.grownBy w' v.ownBlock ∧ (v.ownBlock = some g ∨ g = w.heap.size) := by
  subst hsize
  subst hby
  have hlen : (xs ++ news).length = (n + m) * i.size := by rw [List.length_append, hrow.1, hs.newsLen, Nat.add_mul]
  have hsmall : ((n + m : Nat) : Int) ≤ 9223372036854775807 := by simp only [maxLen] at h63; omega
  have grown : ∀ (old : Nat), old < n + m →
      Row (w.drew.alloc (.cells ((xs ++ news).toArray ++ Builtin.zeroCells z.cells (grownCap w (n + m) old e - (n + m))) e)) e i.size
        (.slice (some ⟨w.heap.size, 0, none⟩) (n + m) (grownCap w (n + m) old e)) (n + m) (xs ++ news) ∧
      w.grownBy (w.drew.alloc (.cells ((xs ++ news).toArray ++ Builtin.zeroCells z.cells (grownCap w (n + m) old e - (n + m))) e)) v.ownBlock := by
    intro old ho
    have hge := grownCap_ge w (n + m) old e
    have hcm : grownCap w (n + m) old e ≤ maxLen := grownCap_le_maxLen w (n + m) old e h63
    refine ⟨⟨hlen, .inr ⟨w.heap.size, 0, _, _, rfl, heap_alloc_new w.drew _, hge, hcm, ?_, ?_⟩⟩, ⟨rfl, rfl, rfl, by simp, fun k hk _ => Below.heap_alloc w.drew _ k hk⟩⟩
    · simp only [Array.size_append, List.size_toArray, size_zeroCells, hzs, hlen, Nat.zero_add, ← Nat.add_mul]
      refine Nat.mul_le_mul_right _ ?_
      omega
    · rw [List.drop_zero, Array.toList_append, ← hlen]
      exact List.take_left
  rcases hrow.2 with ⟨rfl, rfl⟩ | ⟨g, off, cap, cur, rfl, hg, hnc, hcm, hcs, htake⟩
  · have hx : xs = [] := List.eq_nil_of_length_eq_zero (by simpa using hrow.1)
    subst hx
    have hr := run_append_grow_src (P := P) w t t ty e i z ht hi hz none 0 0 [] (run_firstCells_none w.drew i.size 0 0 0) x m news hs (by omega) hsmall (growslice_fits (by omega) hbytes)
    have hgr := grown 0 (by omega)
    exact ⟨_, _, _, _, hr, hgr.1, hgr.2, Or.inr rfl⟩
  · by_cases hroom : n + m ≤ cap
    · have hmul : n * i.size + m * i.size ≤ cap * i.size := by rw [← Nat.add_mul]; exact Nat.mul_le_mul_right _ hroom
      have hnl := hs.newsLen
      have hr := run_append_room_src (P := P) w t t ty e i ht hi g off n cap x m news hs hroom
        (fun j hj => by rw [cell_of_row w g _ _ _ _ hg]; simp; omega) (fun j hj => frozen_of_row w g _ _ _ hg)
      have hh := heap_setCells_same g e news (off + n * i.size) w cur.toList (by simpa using hg) (by simp; omega)
      refine ⟨g, off, cap, _, hr, ⟨hlen, .inr ⟨g, off, cap, _, rfl, hh, hroom, hcm, ?_, ?_⟩⟩, ⟨(setCells_os g _ _ w).1, (setCells_os g _ _ w).2.1, (setCells_os g _ _ w).2.2, by rw [setCells_size]; exact Nat.le_refl _, fun k _ hk => setCells_other g (fun e => hk (by simp [Value.ownBlock, e])) _ _ w⟩, Or.inl rfl⟩
      · simp only [List.size_toArray, List.length_append, List.length_take, List.length_drop, Array.length_toList]
        omega
      · have h0 : (cur.toList.take (off + n * i.size)).drop off = xs := by rw [← htake, List.drop_take]; congr 1; omega
        have hlt : off ≤ (cur.toList.take (off + n * i.size)).length := by simp; omega
        show List.take _ (List.drop off (cur.toList.take (off + n * i.size) ++ news ++ _)) = _
        rw [List.append_assoc, List.drop_append_of_le_length hlt, h0, ← List.append_assoc, ← hlen]
        exact List.take_left
    · have holds : ∀ j u, xs[j]? = some u → w.drew.cell? ((⟨g, off, none⟩ : Addr).add j) = some u := by
        intro j u hu
        have hj : j < n * i.size := by rw [← hrow.1]; exact (List.getElem?_eq_some_iff.1 hu).1
        have := hrow.cell j hj
        rw [hu] at this
        rw [Go.WideShapes.add_plain]
        exact this
      have hr := run_append_grow_src (P := P) w t t ty e i z ht hi hz (some ⟨g, off, none⟩) n cap xs (run_firstCells_some w.drew i.size n ⟨g, off, none⟩ n cap xs hrow.1 holds) x m news hs (by omega) hsmall (growslice_fits (by omega) hbytes)
      have hgr := grown cap (by omega)
      exact ⟨_, _, _, _, hr, hgr.1, hgr.2, Or.inr rfl⟩

/-- At the operation. -/
theorem wp_append_row {o : Oper} {a : Act} {K : Act → World → Prop} {Q : Exit → Act → World → Prop} (s x : Operand) (t : TypeId)
    (ho : o.op = .call { callee := .builtin .append, args := #[s, x], argTypes := #[t, t] })
    (i : TypeInfo) (z : Value) (bytes : Nat) (ht : P.underlying t = some (.slice e)) (hi : P.info? e = some i) (hz : i.zero = some z)
    (hsize : i.size = size) (hby : i.bytes = bytes) (hzs : z.cells.size = size) (hv : a.eval s = v) (hrow : Row w e size v n xs) (m : Nat) (news : List Value) (xv : Value) (hxv : a.eval x = xv) (hs : Src P size t xv m news w)
    (hm : 0 < m) (h63 : n + m ≤ maxLen) (hbytes : (n + m) * bytes ≤ 140737488355328)
    (h : ∀ g off cap w', Row w' e size (.slice (some ⟨g, off, none⟩) (n + m) cap) (n + m) (xs ++ news) → w.grownBy w' v.ownBlock → (v.ownBlock = some g ∨ g = w.heap.size) → K (a.put o.dst (.slice (some ⟨g, off, none⟩) (n + m) cap)) w') : o.wp P a w K Q := by
  obtain ⟨g, off, cap, w', hr, h2, h3, h4⟩ := run_append_row (P := P) t o.type i z bytes ht hi hz hsize hby hzs hrow xv m news hs hm h63 hbytes
  unfold Oper.wp execOp
  simp only [ho, resolve, invoke, builtin, Sem.run_bind, Sem.run_pure, Result.andThen_ok, List.map_toArray, List.map_cons, List.map_nil, hv, hxv, hr]
  exact h g off cap w' h2 h3 h4
theorem wpList_append_row {ops : Array Oper} {rest : List Oper} {o : Oper} {a : Act} {Q : Exit → Act → World → Prop} (hgd : o.guard = none) (s x : Operand) (t : TypeId)
    (ho : o.op = .call { callee := .builtin .append, args := #[s, x], argTypes := #[t, t] })
    (i : TypeInfo) (z : Value) (bytes : Nat) (ht : P.underlying t = some (.slice e)) (hi : P.info? e = some i) (hz : i.zero = some z)
    (hsize : i.size = size) (hby : i.bytes = bytes) (hzs : z.cells.size = size) (hv : a.eval s = v) (hrow : Row w e size v n xs) (m : Nat) (news : List Value) (xv : Value) (hxv : a.eval x = xv) (hs : Src P size t xv m news w)
    (hm : 0 < m) (h63 : n + m ≤ maxLen) (hbytes : (n + m) * bytes ≤ 140737488355328)
    (h : ∀ g off cap w', Row w' e size (.slice (some ⟨g, off, none⟩) (n + m) cap) (n + m) (xs ++ news) → w.grownBy w' v.ownBlock → (v.ownBlock = some g ∨ g = w.heap.size) → wpList P ops Q rest (a.put o.dst (.slice (some ⟨g, off, none⟩) (n + m) cap)) w') :
    wpList P ops Q (o :: rest) a w :=
  wpList_plain hgd fun _ hK => wp_append_row s x t ho i z bytes ht hi hz hsize hby hzs hv hrow m news xv hxv hs hm h63 hbytes fun g off cap w' h2 h3 h4 => hK _ _ (h g off cap w' h2 h3 h4)
theorem step_append_row {ops : Array Oper} {o : Oper} {a : Act} {K : Act → World → Prop} {Q : Exit → Act → World → Prop} {E : Prop} (hgd : o.guard = none) (s x : Operand) (t : TypeId)
    (ho : o.op = .call { callee := .builtin .append, args := #[s, x], argTypes := #[t, t] })
    (i : TypeInfo) (z : Value) (bytes : Nat) (ht : P.underlying t = some (.slice e)) (hi : P.info? e = some i) (hz : i.zero = some z)
    (hsize : i.size = size) (hby : i.bytes = bytes) (hzs : z.cells.size = size) (hv : a.eval s = v) (hrow : Row w e size v n xs) (m : Nat) (news : List Value) (xv : Value) (hxv : a.eval x = xv) (hs : Src P size t xv m news w)
    (hm : 0 < m) (h63 : n + m ≤ maxLen) (hbytes : (n + m) * bytes ≤ 140737488355328)
    (h : ∀ g off cap w', Row w' e size (.slice (some ⟨g, off, none⟩) (n + m) cap) (n + m) (xs ++ news) → w.grownBy w' v.ownBlock → (v.ownBlock = some g ∨ g = w.heap.size) → K (a.put o.dst (.slice (some ⟨g, off, none⟩) (n + m) cap)) w') :
    if Region.wanted o (yielded ops a.tmps) = true then Oper.wp P o a w K Q else E := by
  have hw : Region.wanted o (yielded ops a.tmps) = true := by simp [Region.wanted, hgd]
  rw [if_pos hw]
  exact wp_append_row s x t ho i z bytes ht hi hz hsize hby hzs hv hrow m news xv hxv hs hm h63 hbytes h
end
end Go.Proofs.YtbgfannlfagoiaaDoor

namespace Go.Proofs.YtbgfannlfagoiaaDoor
open Go.RowKit
set_option linter.unusedVariables false

section
variable {P : Program} {w : World} {e : TypeId} {size : Nat}
/-- append where there is room: the cells, in their place. -/
theorem wpList_append_in {ops : Array Oper} {rest : List Oper} {o : Oper} {a : Act} {Q : Exit → Act → World → Prop} (hgd : o.guard = none) (s x : Operand) (t : TypeId)
    (ho : o.op = .call { callee := .builtin .append, args := #[s, x], argTypes := #[t, t] })
    (i : TypeInfo) (ht : P.underlying t = some (.slice e)) (hi : P.info? e = some i) (hsize : i.size = size)
    (g off n cap : Nat) (hv : a.eval s = .slice (some ⟨g, off, none⟩) n cap) (cur : Array Value) (hg : w.heap[g]? = some (.cells cur e (0, 0))) (hcs : off + cap * size ≤ cur.size)
    (m : Nat) (news : List Value) (xv : Value) (hxv : a.eval x = xv) (hs : Src P size t xv m news w) (hroom : n + m ≤ cap)
    (h : wpList P ops Q rest (a.put o.dst (.slice (some ⟨g, off, none⟩) (n + m) cap)) (w.setCells g (off + n * size) news)) :
    wpList P ops Q (o :: rest) a w := by
  refine wpList_plain hgd fun K hK => ?_
  subst hsize
  have hmul : n * i.size + m * i.size ≤ cap * i.size := by rw [← Nat.add_mul]; exact Nat.mul_le_mul_right _ hroom
  have hnl := hs.newsLen
  have hr := run_append_room_src (P := P) w t t o.type e i ht hi g off n cap xv m news hs hroom
    (fun j hj => by rw [cell_of_row w g _ _ _ _ hg]; simp; omega) (fun j hj => frozen_of_row w g _ _ _ hg)
  unfold Oper.wp execOp
  simp only [ho, resolve, invoke, builtin, Sem.run_bind, Sem.run_pure, Result.andThen_ok, List.map_toArray, List.map_cons, List.map_nil, hv, hxv, hr]
  exact hK _ _ h

theorem step_append_in {ops : Array Oper} {o : Oper} {a : Act} {K : Act → World → Prop} {Q : Exit → Act → World → Prop} {E : Prop} (hgd : o.guard = none) (s x : Operand) (t : TypeId)
    (ho : o.op = .call { callee := .builtin .append, args := #[s, x], argTypes := #[t, t] })
    (i : TypeInfo) (ht : P.underlying t = some (.slice e)) (hi : P.info? e = some i) (hsize : i.size = size)
    (g off n cap : Nat) (hv : a.eval s = .slice (some ⟨g, off, none⟩) n cap) (cur : Array Value) (hg : w.heap[g]? = some (.cells cur e (0, 0))) (hcs : off + cap * size ≤ cur.size)
    (m : Nat) (news : List Value) (xv : Value) (hxv : a.eval x = xv) (hs : Src P size t xv m news w) (hroom : n + m ≤ cap)
    (h : K (a.put o.dst (.slice (some ⟨g, off, none⟩) (n + m) cap)) (w.setCells g (off + n * size) news)) :
    if Region.wanted o (yielded ops a.tmps) = true then Oper.wp P o a w K Q else E := by
  have hw : Region.wanted o (yielded ops a.tmps) = true := by simp [Region.wanted, hgd]
  rw [if_pos hw]
  subst hsize
  have hmul : n * i.size + m * i.size ≤ cap * i.size := by rw [← Nat.add_mul]; exact Nat.mul_le_mul_right _ hroom
  have hnl := hs.newsLen
  have hr := run_append_room_src (P := P) w t t o.type e i ht hi g off n cap xv m news hs hroom
    (fun j hj => by rw [cell_of_row w g _ _ _ _ hg]; simp; omega) (fun j hj => frozen_of_row w g _ _ _ hg)
  unfold Oper.wp execOp
  simp only [ho, resolve, invoke, builtin, Sem.run_bind, Sem.run_pure, Result.andThen_ok, List.map_toArray, List.map_cons, List.map_nil, hv, hxv, hr]
  exact h

/-- The front of a row cut off: the rest moved ahead, what is behind it zeroed. -/
theorem row_cut {g off cap m : Nat} {cur : Array Value} {news zs : List Value} (hg : w.heap[g]? = some (.cells cur e (0, 0))) (hcs : off + cap * size ≤ cur.size) (hcm : cap ≤ maxLen) (hm : m ≤ cap) (hnl : news.length = m * size) (hz : m * size + zs.length ≤ cap * size) :
    Row ((w.setCells g off news).setCells g (off + m * size) zs) e size (.slice (some ⟨g, off, none⟩) m cap) m news := by
  have hlt : off + cap * size ≤ cur.toList.length := by simpa using hcs
  have h1 := heap_setCells_same g e news off w cur.toList (by simpa using hg) (by omega)
  have hA : (cur.toList.take off).length = off := by rw [List.length_take]; omega
  have hB : (cur.toList.take off ++ news).length = off + m * size := by rw [List.length_append, hA, hnl]
  have h2 := heap_setCells_same g e zs (off + m * size) _ _ h1 (by rw [List.length_append, hB, List.length_drop]; omega)
  rw [List.take_left' hB] at h2
  refine ⟨hnl, Or.inr ⟨g, off, cap, _, rfl, h2, hm, hcm, ?_, ?_⟩⟩
  · simp only [List.size_toArray, List.length_append, List.length_drop, hA, hnl]
    omega
  · show List.take (m * size) (List.drop off ((cur.toList.take off ++ news) ++ zs ++ _)) = news
    rw [List.append_assoc, List.append_assoc, List.drop_left' hA, List.take_left' hnl]

theorem zeroCells_one {z : Array Value} (hone : ∀ u ∈ z.toList, u.oneCell' = true) (n : Nat) : ∀ u ∈ (Builtin.zeroCells z n).toList, u.oneCell' = true := by
  intro u hu
  simp only [Builtin.zeroCells, Array.toList_map, List.mem_map, Array.toList_range, List.mem_range] at hu
  obtain ⟨i, hi, rfl⟩ := hu
  have hp : 0 < z.size := by
    rcases Nat.eq_zero_or_pos z.size with h | h
    · rw [h] at hi; omega
    · exact h
  have hlt : i % z.size < z.size := Nat.mod_lt _ hp
  rw [getElem!_pos z (i % z.size) hlt]
  exact hone _ (by simp)

/-- clear of a slice. -/
theorem run_clear_cells (t ty : TypeId) (z : Value) (ht : P.underlying t = some (.slice e)) (hz : (zeroValue e).run P w = .ok z w) (hone : ∀ u ∈ z.cells.toList, u.oneCell' = true) (hzs : z.cells.size = size)
    (g off n c : Nat) (cur : Array Value) (hg : w.heap[g]? = some (.cells cur e (0, 0))) (hcs : off + n * size ≤ cur.size) :
    (Builtin.clear_ #[t] ty #[.slice (some ⟨g, off, none⟩) n c]).run P w = .ok (.tuple #[]) (w.setCells g off (Builtin.zeroCells z.cells n).toList) := by
  cases n with
  | zero =>
    have : (Builtin.zeroCells z.cells 0).toList = [] := by
      apply List.eq_nil_of_length_eq_zero
      rw [Array.length_toList, size_zeroCells]
      simp
    rw [this]
    simp [Builtin.clear_, run_underlying ht, World.setCells]
  | succ n =>
    have hlen : (Builtin.zeroCells z.cells (n + 1)).toList.length = (n + 1) * size := by rw [Array.length_toList, size_zeroCells, hzs]
    have hst := run_storeCells_cells (P := P) g off (Builtin.zeroCells z.cells (n + 1)).toList 0 w (fun j hj => by rw [hlen] at hj; simp only [Nat.add_zero]; rw [cell_of_row w g _ _ _ _ hg]; simp; omega) (fun j hj => frozen_of_row w g _ _ _ hg) (fun u hu => zeroCells_one hone _ u hu)
    simp only [Nat.add_zero] at hst
    simp [Builtin.clear_, run_underlying ht, hz, hst]
end
end Go.Proofs.YtbgfannlfagoiaaDoor

namespace Go.Proofs.YtbgfannlfagoiaaDoor
open Go.RowKit
theorem run_eql_nil_ptr {P : Program} {tp te : TypeId} (w : World) (a : Addr) (hp : P.underlying tp = some (.pointer te)) :
    (binOp .eql tp (.pointer none) (.pointer (some a))).run P w = .ok (.bool false) w := by
  have h : ∀ d : Nat, (Op.equalIn (d + 1) tp (.pointer none) (.pointer (some a))).run P w = .ok false w := fun d => by
    simp [Op.equalIn, run_underlying hp]
  simp only [binOp]
  simp [Op.equal, Op.maxDepth, h 9999]


theorem made_nil (w : World) :
    Calls Tryd.prog 41 #[.pointer none] w fun e w' => e = .returned (.bool false) ∧ w' = w := by
  go_enter Tryd.func41, Tryd.ntmps41
  go_wp2
  go_ret
  exact ⟨rfl, rfl⟩

theorem made_zero (b : Nat) (w : World) (h : w.cell? ⟨b, 0, none⟩ = some (.pointer none)) :
    Calls Tryd.prog 41 #[.pointer (some ⟨b, 0, none⟩)] w fun e w' => e = .returned (.bool false) ∧ w' = w := by
  have hq := fun w a => run_eql_nil_ptr (P := Tryd.prog) (tp := 35) w a Tryd.underlying35
  go_enter Tryd.func41, Tryd.ntmps41
  go_wp2
  go_ret
  exact ⟨rfl, rfl⟩

theorem made_yes (b : Nat) (w : World) (h : w.cell? ⟨b, 0, none⟩ = some (.pointer (some ⟨b, 0, none⟩))) :
    Calls Tryd.prog 41 #[.pointer (some ⟨b, 0, none⟩)] w fun e w' => e = .returned (.bool true) ∧ w' = w := by
  obtain ⟨j, hj⟩ : ∃ j, Tryd.prog.info? 43 = some j := Option.isSome_iff_exists.1 (by kernel_rfl)
  have hq := fun w a => run_eql_ptr_same (P := Tryd.prog) (tp := 35) w a Tryd.underlying35 hj
  clear hj
  go_enter Tryd.func41, Tryd.ntmps41
  go_wp2
  go_ret
  exact ⟨rfl, rfl⟩
end Go.Proofs.YtbgfannlfagoiaaDoor

namespace Go.Proofs.YtbgfannlfagoiaaDoor
open Go.RowKit
set_option linter.unusedVariables false

set_option maxHeartbeats 400000 in
theorem mayHave_yes (n : Int) (w : World) (h1 : 1 ≤ n) (h2 : n ≤ 8) :
    Calls Tryd.prog 54 #[.int .i64 n] w fun e w' => e = .returned (.bool true) ∧ w' = w := by
  go_enter Tryd.func54, Tryd.ntmps54
  go_wp2
  go_ret
  exact ⟨rfl, rfl⟩
set_option maxHeartbeats 400000 in
theorem mayHave_no (n : Int) (w : World) (h : n < 1 ∨ 8 < n) :
    Calls Tryd.prog 54 #[.int .i64 n] w fun e w' => e = .returned (.bool false) ∧ w' = w := by
  by_cases h1 : n < 1
  · clear h
    go_enter Tryd.func54, Tryd.ntmps54
    go_wp2
    go_ret
    exact ⟨rfl, rfl⟩
  · have h2 : ¬ n ≤ 8 := by omega
    clear h
    go_enter Tryd.func54, Tryd.ntmps54
    go_wp2
    go_ret
    exact ⟨by simp, rfl⟩
end Go.Proofs.YtbgfannlfagoiaaDoor
