import Derived.Test.YtbgfannlfagoiaaGreatDoorZ06
import Derived.Deep.AppendSrc
import Derived.Deep.Upon
import Derived.Lib.SliceRun
import Derived.BigFrame
import Derived.Test.YtbgfannlfagoiaaGreatDoorZ10
import Derived.BigRegion
import Derived.Laws.IdiomStrings
namespace Go.Proofs.YtbgfannlfagoiaaGreatDoor
open Go.RowKit
set_option linter.unusedVariables false

theorem heap_setCells_same (g : Nat) (e : TypeId) : ∀ (vs : List Value) (o : Nat) (w : World) (cur : List Value), w.heap[g]? = some (.cells cur.toArray e (0, 0)) → o + vs.length ≤ cur.length →
    (w.setCells g o vs).heap[g]? = some (.cells (cur.take o ++ vs ++ cur.drop (o + vs.length)).toArray e (0, 0))
  | [], o, w, cur, h, _ => by simpa [World.setCells] using h
  | v :: r, o, w, cur, h, hl => by
    rw [World.setCells]
    simp only [List.length_cons] at hl
    have h1 : (w.setCell ⟨g, o, none⟩ v).heap[g]? = some (.cells (cur.set o v).toArray e (0, 0)) := by
      rw [heap_setCell_same w g o _ _ _ h]
      simp
    rw [heap_setCells_same g e r (o + 1) _ (cur.set o v) h1 (by simp; omega)]
    congr 3
    have h2 : (cur.set o v).take (o + 1) = cur.take o ++ [v] := by
      rw [List.take_succ_eq_append_getElem (by simp; omega), List.take_set_of_le (Nat.le_refl _)]
      simp
    have h3 : (cur.set o v).drop (o + 1 + r.length) = cur.drop (o + (v :: r).length) := by
      rw [List.drop_set_of_lt (by omega)]
      congr 1
      simp; omega
    rw [h2, h3]
    simp

theorem setCells_size (g : Nat) : ∀ (vs : List Value) (o : Nat) (w : World), (w.setCells g o vs).heap.size = w.heap.size
  | [], o, w => rfl
  | v :: r, o, w => by rw [World.setCells, setCells_size g r]; simp [World.setCell]
theorem setCells_other (g : Nat) {k : Nat} (hk : k ≠ g) : ∀ (vs : List Value) (o : Nat) (w : World), (w.setCells g o vs).heap[k]? = w.heap[k]?
  | [], o, w => rfl
  | v :: r, o, w => by rw [World.setCells, setCells_other g hk r, Below.heap_setCell _ _ _ _ (by simpa using hk)]
theorem setCells_os (g : Nat) : ∀ (vs : List Value) (o : Nat) (w : World), (w.setCells g o vs).os = w.os ∧ (w.setCells g o vs).tape = w.tape ∧ (w.setCells g o vs).output = w.output
  | [], o, w => ⟨rfl, rfl, rfl⟩
  | v :: r, o, w => by rw [World.setCells]; exact setCells_os g r (o + 1) _
theorem Fr.setCells {F : List Nat} {a w : World} (h : Fr F a w) {g : Nat} (hp : g ∈ F ∨ a.heap.size ≤ g) (o : Nat) (vs : List Value) : Fr F a (w.setCells g o vs) :=
  ⟨(setCells_os g vs o w).1.trans h.os, (setCells_os g vs o w).2.1.trans h.tape, (setCells_os g vs o w).2.2.trans h.output, by rw [setCells_size]; exact h.size,
    fun k hk hn => (setCells_other g (fun e => by subst e; exact hp.elim hn (fun hl => absurd hk (Nat.not_lt.2 hl))) vs o w).trans (h.block k hk hn)⟩

/-- A slice's elements in memory, from whatever place of its block on. -/
def Row (w : World) (e : TypeId) (size : Nat) (v : Value) (n : Nat) (xs : List Value) : Prop :=
  xs.length = n * size ∧
  ((v = .slice none 0 0 ∧ n = 0) ∨
   ∃ g off cap cur, v = .slice (some ⟨g, off, none⟩) n cap ∧ w.heap[g]? = some (.cells cur e (0, 0)) ∧ n ≤ cap ∧ cap ≤ maxLen ∧ off + cap * size ≤ cur.size ∧ (cur.toList.drop off).take (n * size) = xs)

section
variable {P : Program} {w w' : World} {e : TypeId} {size : Nat} {v : Value} {n : Nat} {xs : List Value}
theorem Row.of_own {base : Nat} (h : w.ownsRow base e size v n xs) : Row w e size v n xs := by
  refine ⟨h.1, h.2.imp id ?_⟩
  rintro ⟨g, cap, cur, h1, _, h3, h4, h5, h6, h7⟩
  exact ⟨g, 0, cap, cur, h1, h3, h4, h5, by omega, by simpa using h7⟩
theorem Row.fr {F : List Nat} (h : Fr F w w') (ho : Row w e size v n xs) (hn : ∀ k, v.ownBlock = some k → k ∉ F) : Row w' e size v n xs := by
  refine ⟨ho.1, ho.2.imp id ?_⟩
  rintro ⟨g, off, cap, cur, h1, h3, h4⟩
  exact ⟨g, off, cap, cur, h1, by rw [h.block g (lt_of_block h3) (hn g (by rw [h1]; rfl))]; exact h3, h4⟩
theorem Row.same (ho : Row w e size v n xs) (hn : ∀ k, v.ownBlock = some k → w'.heap[k]? = w.heap[k]?) : Row w' e size v n xs := by
  refine ⟨ho.1, ho.2.imp id ?_⟩
  rintro ⟨g, off, cap, cur, h1, h3, h4⟩
  exact ⟨g, off, cap, cur, h1, by rw [hn g (by rw [h1]; rfl)]; exact h3, h4⟩
theorem Row.form (h : Row w e size v n xs) : ∃ a cap, v = .slice a n cap ∧ n ≤ cap := by
  rcases h.2 with ⟨h, h0⟩ | ⟨g, off, cp, cur, h, _, h2, _⟩
  · exact ⟨_, _, h0 ▸ h, by omega⟩
  · exact ⟨_, _, h, h2⟩
theorem Row.lt (h : Row w e size v n xs) : ∀ k, v.ownBlock = some k → k < w.heap.size := by
  intro k hk
  rcases h.2 with ⟨e, _⟩ | ⟨g, off, cap, cur, e, h3, _⟩
  · rw [e] at hk; cases hk
  · rw [e] at hk; cases hk; exact lt_of_block h3
theorem Row.ne {t : TypeId} {rb : Nat} {cs : Array Value} {fr : Nat × Nat} (h : Row w e size v n xs) (hb : w.heap[rb]? = some (.cells cs t fr)) (hne : e ≠ t) : v.ownBlock ≠ some rb := by
  intro hk
  rcases h.2 with ⟨e, _⟩ | ⟨g, off, cap, cur, e, h3, _⟩
  · rw [e] at hk; cases hk
  · rw [e] at hk; cases hk; rw [h3] at hb; cases hb; exact hne rfl
theorem Row.cell {g off cap : Nat} (h : Row w e size (.slice (some ⟨g, off, none⟩) n cap) n xs) (j : Nat) (hj : j < n * size) : w.cell? ⟨g, off + j, none⟩ = xs[j]? := by
  rcases h.2 with ⟨e, _⟩ | ⟨g', off', cap', cur, e1, h3, h4, h5, h6, h7⟩
  · cases e
  · cases e1
    rw [cell_of_row w g (off + j) _ _ _ h3, ← h7, List.getElem?_take_of_lt hj, List.getElem?_drop, Array.getElem?_toList]

/-- append onto such a slice. -/
theorem run_append_row (t ty : TypeId) (i : TypeInfo) (z : Value) (bytes : Nat) (ht : P.underlying t = some (.slice e)) (hi : P.info? e = some i) (hz : i.zero = some z)
    (hsize : i.size = size) (hby : i.bytes = bytes) (hzs : z.cells.size = size) (hrow : Row w e size v n xs) (x : Value) (m : Nat) (news : List Value) (hs : Src P size t x m news w)
    (hm : 0 < m) (h63 : n + m ≤ maxLen) (hbytes : (n + m) * bytes ≤ 140737488355328) :
    ∃ g off cap w', (Builtin.append_ #[t, t] ty #[v, x]).run P w = .ok (.slice (some ⟨g, off, none⟩) (n + m) cap) w' ∧
      Row w' e size (.slice (some ⟨g, off, none⟩) (n + m) cap) (n + m) (xs ++ news) ∧ w.grownBy w' v.ownBlock ∧ (v.ownBlock = some g ∨ g = w.heap.size) := by
  subst hsize
  subst hby
  have hlen : (xs ++ news).length = (n + m) * i.size := by rw [List.length_append, hrow.1, hs.newsLen, Nat.add_mul]
  have hsmall : ((n + m : Nat) : Int) ≤ 9223372036854775807 := by simp only [maxLen] at h63; omega
  have grown : ∀ (old : Nat), old < n + m →
      Row (w.drew.alloc (.cells ((xs ++ news).toArray ++ Builtin.zeroCells z.cells (grownCap w (n + m) old e - (n + m))) e)) e i.size
        (.slice (some ⟨w.heap.size, 0, none⟩) (n + m) (grownCap w (n + m) old e)) (n + m) (xs ++ news) ∧
      w.grownBy (w.drew.alloc (.cells ((xs ++ news).toArray ++ Builtin.zeroCells z.cells (grownCap w (n + m) old e - (n + m))) e)) v.ownBlock := by
    intro old ho
    have hge := grownCap_ge w (n + m) old e
    have hcm : grownCap w (n + m) old e ≤ maxLen := grownCap_le_maxLen w (n + m) old e h63
    refine ⟨⟨hlen, .inr ⟨w.heap.size, 0, _, _, rfl, heap_alloc_new w.drew _, hge, hcm, ?_, ?_⟩⟩, ⟨rfl, rfl, rfl, by simp, fun k hk _ => Below.heap_alloc w.drew _ k hk⟩⟩
    · simp only [Array.size_append, List.size_toArray, size_zeroCells, hzs, hlen, Nat.zero_add, ← Nat.add_mul]
      refine Nat.mul_le_mul_right _ ?_
      omega
    · rw [List.drop_zero, Array.toList_append, ← hlen]
      exact List.take_left
  rcases hrow.2 with ⟨rfl, rfl⟩ | ⟨g, off, cap, cur, rfl, hg, hnc, hcm, hcs, htake⟩
  · have hx : xs = [] := List.eq_nil_of_length_eq_zero (by simpa using hrow.1)
    subst hx
    have hr := run_append_grow_src (P := P) w t t ty e i z ht hi hz none 0 0 [] (run_firstCells_none w.drew i.size 0 0 0) x m news hs (by omega) hsmall (growslice_fits (by omega) hbytes)
    have hgr := grown 0 (by omega)
    exact ⟨_, _, _, _, hr, hgr.1, hgr.2, Or.inr rfl⟩
  · by_cases hroom : n + m ≤ cap
    · have hmul : n * i.size + m * i.size ≤ cap * i.size := by rw [← Nat.add_mul]; exact Nat.mul_le_mul_right _ hroom
      have hnl := hs.newsLen
      have hr := run_append_room_src (P := P) w t t ty e i ht hi g off n cap x m news hs hroom
        (fun j hj => by rw [cell_of_row w g _ _ _ _ hg]; simp; omega) (fun j hj => frozen_of_row w g _ _ _ hg)
      have hh := heap_setCells_same g e news (off + n * i.size) w cur.toList (by simpa using hg) (by simp; omega)
      refine ⟨g, off, cap, _, hr, ⟨hlen, .inr ⟨g, off, cap, _, rfl, hh, hroom, hcm, ?_, ?_⟩⟩, ⟨(setCells_os g _ _ w).1, (setCells_os g _ _ w).2.1, (setCells_os g _ _ w).2.2, by rw [setCells_size]; exact Nat.le_refl _, fun k _ hk => setCells_other g (fun e => hk (by simp [Value.ownBlock, e])) _ _ w⟩, Or.inl rfl⟩
      · simp only [List.size_toArray, List.length_append, List.length_take, List.length_drop, Array.length_toList]
        omega
      · have h0 : (cur.toList.take (off + n * i.size)).drop off = xs := by rw [← htake, List.drop_take]; congr 1; omega
        have hlt : off ≤ (cur.toList.take (off + n * i.size)).length := by simp; omega
        show List.take _ (List.drop off (cur.toList.take (off + n * i.size) ++ news ++ _)) = _
        rw [List.append_assoc, List.drop_append_of_le_length hlt, h0, ← List.append_assoc, ← hlen]
        exact List.take_left
    · have holds : ∀ j u, xs[j]? = some u → w.drew.cell? ((⟨g, off, none⟩ : Addr).add j) = some u := by
        intro j u hu
        have hj : j < n * i.size := by rw [← hrow.1]; exact (List.getElem?_eq_some_iff.1 hu).1
        have := hrow.cell j hj
        rw [hu] at this
        rw [Go.WideShapes.add_plain]
        exact this
      have hr := run_append_grow_src (P := P) w t t ty e i z ht hi hz (some ⟨g, off, none⟩) n cap xs (run_firstCells_some w.drew i.size n ⟨g, off, none⟩ n cap xs hrow.1 holds) x m news hs (by omega) hsmall (growslice_fits (by omega) hbytes)
      have hgr := grown cap (by omega)
      exact ⟨_, _, _, _, hr, hgr.1, hgr.2, Or.inr rfl⟩

/-- At the operation. -/
theorem wp_append_row {o : Oper} {a : Act} {K : Act → World → Prop} {Q : Exit → Act → World → Prop} (s x : Operand) (t : TypeId)
    (ho : o.op = .call { callee := .builtin .append, args := #[s, x], argTypes := #[t, t] })
    (i : TypeInfo) (z : Value) (bytes : Nat) (ht : P.underlying t = some (.slice e)) (hi : P.info? e = some i) (hz : i.zero = some z)
    (hsize : i.size = size) (hby : i.bytes = bytes) (hzs : z.cells.size = size) (hv : a.eval s = v) (hrow : Row w e size v n xs) (m : Nat) (news : List Value) (xv : Value) (hxv : a.eval x = xv) (hs : Src P size t xv m news w)
    (hm : 0 < m) (h63 : n + m ≤ maxLen) (hbytes : (n + m) * bytes ≤ 140737488355328)
    (h : ∀ g off cap w', Row w' e size (.slice (some ⟨g, off, none⟩) (n + m) cap) (n + m) (xs ++ news) → w.grownBy w' v.ownBlock → (v.ownBlock = some g ∨ g = w.heap.size) → K (a.put o.dst (.slice (some ⟨g, off, none⟩) (n + m) cap)) w') : o.wp P a w K Q := by
  obtain ⟨g, off, cap, w', hr, h2, h3, h4⟩ := run_append_row (P := P) t o.type i z bytes ht hi hz hsize hby hzs hrow xv m news hs hm h63 hbytes
  unfold Oper.wp execOp
  simp only [ho, resolve, invoke, builtin, Sem.run_bind, Sem.run_pure, Result.andThen_ok, List.map_toArray, List.map_cons, List.map_nil, hv, hxv, hr]
  exact h g off cap w' h2 h3 h4
theorem wpList_append_row {ops : Array Oper} {rest : List Oper} {o : Oper} {a : Act} {Q : Exit → Act → World → Prop} (hgd : o.guard = none) (s x : Operand) (t : TypeId)
    (ho : o.op = .call { callee := .builtin .append, args := #[s, x], argTypes := #[t, t] })
    (i : TypeInfo) (z : Value) (bytes : Nat) (ht : P.underlying t = some (.slice e)) (hi : P.info? e = some i) (hz : i.zero = some z)
    (hsize : i.size = size) (hby : i.bytes = bytes) (hzs : z.cells.size = size) (hv : a.eval s = v) (hrow : Row w e size v n xs) (m : Nat) (news : List Value) (xv : Value) (hxv : a.eval x = xv) (hs : Src P size t xv m news w)
    (hm : 0 < m) (h63 : n + m ≤ maxLen) (hbytes : (n + m) * bytes ≤ 140737488355328)
    (h : ∀ g off cap w', Row w' e size (.slice (some ⟨g, off, none⟩) (n + m) cap) (n + m) (xs ++ news) → w.grownBy w' v.ownBlock → (v.ownBlock = some g ∨ g = w.heap.size) → wpList P ops Q rest (a.put o.dst (.slice (some ⟨g, off, none⟩) (n + m) cap)) w') :
    wpList P ops Q (o :: rest) a w :=
  wpList_plain hgd fun _ hK => wp_append_row s x t ho i z bytes ht hi hz hsize hby hzs hv hrow m news xv hxv hs hm h63 hbytes fun g off cap w' h2 h3 h4 => hK _ _ (h g off cap w' h2 h3 h4)
theorem step_append_row {ops : Array Oper} {o : Oper} {a : Act} {K : Act → World → Prop} {Q : Exit → Act → World → Prop} {E : Prop} (hgd : o.guard = none) (s x : Operand) (t : TypeId)
    (ho : o.op = .call { callee := .builtin .append, args := #[s, x], argTypes := #[t, t] })
    (i : TypeInfo) (z : Value) (bytes : Nat) (ht : P.underlying t = some (.slice e)) (hi : P.info? e = some i) (hz : i.zero = some z)
    (hsize : i.size = size) (hby : i.bytes = bytes) (hzs : z.cells.size = size) (hv : a.eval s = v) (hrow : Row w e size v n xs) (m : Nat) (news : List Value) (xv : Value) (hxv : a.eval x = xv) (hs : Src P size t xv m news w)
    (hm : 0 < m) (h63 : n + m ≤ maxLen) (hbytes : (n + m) * bytes ≤ 140737488355328)
    (h : ∀ g off cap w', Row w' e size (.slice (some ⟨g, off, none⟩) (n + m) cap) (n + m) (xs ++ news) → w.grownBy w' v.ownBlock → (v.ownBlock = some g ∨ g = w.heap.size) → K (a.put o.dst (.slice (some ⟨g, off, none⟩) (n + m) cap)) w') :
    if Region.wanted o (yielded ops a.tmps) = true then Oper.wp P o a w K Q else E := by
  have hw : Region.wanted o (yielded ops a.tmps) = true := by simp [Region.wanted, hgd]
  rw [if_pos hw]
  exact wp_append_row s x t ho i z bytes ht hi hz hsize hby hzs hv hrow m news xv hxv hs hm h63 hbytes h
end
end Go.Proofs.YtbgfannlfagoiaaGreatDoor

namespace Go.Proofs.YtbgfannlfagoiaaGreatDoor
open Go.RowKit
set_option linter.unusedVariables false

section
variable {P : Program} {w : World} {e : TypeId} {size : Nat}
/-- append where there is room: the cells, in their place. -/
theorem wpList_append_in {ops : Array Oper} {rest : List Oper} {o : Oper} {a : Act} {Q : Exit → Act → World → Prop} (hgd : o.guard = none) (s x : Operand) (t : TypeId)
  (ho : o.op = .call { callee := .builtin .append, args := #[s, x], argTypes := #[t, t] })
  (i : TypeInfo) (ht : P.underlying t = some (.slice e)) (hi : P.info? e = some i) (hsize : i.size = size)
  (g off n cap : Nat) (hv : a.eval s = .slice (some ⟨g, off, none⟩) n cap) (cur : Array Value) (hg : w.heap[g]? = some (.cells cur e (0, 0))) (hcs : off + cap * size ≤ cur.size)
  (m : Nat) (news : List Value) (xv : Value) (hxv : a.eval x = xv) (hs : Src P size t xv m news w) (hroom : n + m ≤ cap)
  (h : wpList P ops Q rest (a.put o.dst (.slice (some ⟨g, off, none⟩) (n + m) cap)) (w.setCells g (off + n * size) news)) :
  wpList P ops Q (o :: rest) a w := by
 refine wpList_plain hgd fun K hK => ?_
 subst hsize
 have hmul : n * i.size + m * i.size ≤ cap * i.size := by rw [← Nat.add_mul]; exact Nat.mul_le_mul_right _ hroom
 have hnl := hs.newsLen
 have hr := run_append_room_src (P := P) w t t o.type e i ht hi g off n cap xv m news hs hroom
  (fun j hj => by rw [cell_of_row w g _ _ _ _ hg]; simp; omega) (fun j hj => frozen_of_row w g _ _ _ hg)
 unfold Oper.wp execOp
 simp only [ho, resolve, invoke, builtin, Sem.run_bind, Sem.run_pure, Result.andThen_ok, List.map_toArray, List.map_cons, List.map_nil, hv, hxv, hr]
 exact hK _ _ h

theorem step_append_in {ops : Array Oper} {o : Oper} {a : Act} {K : Act → World → Prop} {Q : Exit → Act → World → Prop} {E : Prop} (hgd : o.guard = none) (s x : Operand) (t : TypeId)
  (ho : o.op = .call { callee := .builtin .append, args := #[s, x], argTypes := #[t, t] })
  (i : TypeInfo) (ht : P.underlying t = some (.slice e)) (hi : P.info? e = some i) (hsize : i.size = size)
  (g off n cap : Nat) (hv : a.eval s = .slice (some ⟨g, off, none⟩) n cap) (cur : Array Value) (hg : w.heap[g]? = some (.cells cur e (0, 0))) (hcs : off + cap * size ≤ cur.size)
  (m : Nat) (news : List Value) (xv : Value) (hxv : a.eval x = xv) (hs : Src P size t xv m news w) (hroom : n + m ≤ cap)
  (h : K (a.put o.dst (.slice (some ⟨g, off, none⟩) (n + m) cap)) (w.setCells g (off + n * size) news)) :
  if Region.wanted o (yielded ops a.tmps) = true then Oper.wp P o a w K Q else E := by
 have hw : Region.wanted o (yielded ops a.tmps) = true := by simp [Region.wanted, hgd]
 rw [if_pos hw]
 subst hsize
 have hmul : n * i.size + m * i.size ≤ cap * i.size := by rw [← Nat.add_mul]; exact Nat.mul_le_mul_right _ hroom
 have hnl := hs.newsLen
 have hr := run_append_room_src (P := P) w t t o.type e i ht hi g off n cap xv m news hs hroom
  (fun j hj => by rw [cell_of_row w g _ _ _ _ hg]; simp; omega) (fun j hj => frozen_of_row w g _ _ _ hg)
 unfold Oper.wp execOp
 simp only [ho, resolve, invoke, builtin, Sem.run_bind, Sem.run_pure, Result.andThen_ok, List.map_toArray, List.map_cons, List.map_nil, hv, hxv, hr]
 exact h

/-- The front of a row cut off: the rest moved ahead, what is behind it zeroed. -/
theorem row_cut {g off cap m : Nat} {cur : Array Value} {news zs : List Value} (hg : w.heap[g]? = some (.cells cur e (0, 0))) (hcs : off + cap * size ≤ cur.size) (hcm : cap ≤ maxLen) (hm : m ≤ cap) (hnl : news.length = m * size) (hz : m * size + zs.length ≤ cap * size) :
  Row ((w.setCells g off news).setCells g (off + m * size) zs) e size (.slice (some ⟨g, off, none⟩) m cap) m news := by
 have hlt : off + cap * size ≤ cur.toList.length := by simpa using hcs
 have h1 := heap_setCells_same g e news off w cur.toList (by simpa using hg) (by omega)
 have hA : (cur.toList.take off).length = off := by rw [List.length_take]; omega
 have hB : (cur.toList.take off ++ news).length = off + m * size := by rw [List.length_append, hA, hnl]
 have h2 := heap_setCells_same g e zs (off + m * size) _ _ h1 (by rw [List.length_append, hB, List.length_drop]; omega)
 rw [List.take_left' hB] at h2
 refine ⟨hnl, Or.inr ⟨g, off, cap, _, rfl, h2, hm, hcm, ?_, ?_⟩⟩
 ·simp only [List.size_toArray, List.length_append, List.length_drop, hA, hnl]
  omega
 ·show List.take (m * size) (List.drop off ((cur.toList.take off ++ news) ++ zs ++ _)) = news
  rw [List.append_assoc, List.append_assoc, List.drop_left' hA, List.take_left' hnl]

theorem zeroCells_one {z : Array Value} (hone : ∀ u ∈ z.toList, u.oneCell' = true) (n : Nat) : ∀ u ∈ (Builtin.zeroCells z n).toList, u.oneCell' = true := by
 intro u hu
 simp only [Builtin.zeroCells, Array.toList_map, List.mem_map, Array.toList_range, List.mem_range] at hu
 obtain ⟨i, hi, rfl⟩ := hu
 have hp : 0 < z.size := by
  rcases Nat.eq_zero_or_pos z.size with h | h
  ·rw [h] at hi; omega
  ·exact h
 have hlt : i % z.size < z.size := Nat.mod_lt _ hp
 rw [getElem!_pos z (i % z.size) hlt]
 exact hone _ (by simp)

/-- clear of a slice. -/
theorem run_clear_cells (t ty : TypeId) (z : Value) (ht : P.underlying t = some (.slice e)) (hz : (zeroValue e).run P w = .ok z w) (hone : ∀ u ∈ z.cells.toList, u.oneCell' = true) (hzs : z.cells.size = size)
  (g off n c : Nat) (cur : Array Value) (hg : w.heap[g]? = some (.cells cur e (0, 0))) (hcs : off + n * size ≤ cur.size) :
  (Builtin.clear_ #[t] ty #[.slice (some ⟨g, off, none⟩) n c]).run P w = .ok (.tuple #[]) (w.setCells g off (Builtin.zeroCells z.cells n).toList) := by
 cases n with
 | zero =>
  have : (Builtin.zeroCells z.cells 0).toList = [] := by
   apply List.eq_nil_of_length_eq_zero
   rw [Array.length_toList, size_zeroCells]
   simp
  rw [this]
  simp [Builtin.clear_, run_underlying ht, World.setCells]
 | succ n =>
  have hlen : (Builtin.zeroCells z.cells (n + 1)).toList.length = (n + 1) * size := by rw [Array.length_toList, size_zeroCells, hzs]
  have hst := run_storeCells_cells (P := P) g off (Builtin.zeroCells z.cells (n + 1)).toList 0 w (fun j hj => by rw [hlen] at hj; simp only [Nat.add_zero]; rw [cell_of_row w g _ _ _ _ hg]; simp; omega) (fun j hj => frozen_of_row w g _ _ _ hg) (fun u hu => zeroCells_one hone _ u hu)
  simp only [Nat.add_zero] at hst
  simp [Builtin.clear_, run_underlying ht, hz, hst]
end
end Go.Proofs.YtbgfannlfagoiaaGreatDoor

namespace Go.Proofs.YtbgfannlfagoiaaGreatDoor
open Go.RowKit Go.Lull
set_option linter.unusedVariables false

theorem Tryz.infoIt : (Tryz.prog.info? 178).map (fun i => (i.zero, i.size, i.bytes)) = some (some (.agg #[.int .i64 0, .int .i64 0, .slice none 0 0, .bool false, .int .i64 0]), 5, 56) := by kernel_rfl
def itL (x : It × Value) : List Value := [.int .i64 x.1.m.q, .int .i64 x.1.m.cl, x.2, .bool x.1.late, .int .i64 x.1.place]
theorem five_at (w : World) (a b c d e : Value) (T n : Nat) (hn : n = w.heap.size) : ∀ j u, [a, b, c, d, e][j]? = some u → (w.alloc (.cells #[a, b, c, d, e] T)).cell? ((⟨n, 0, none⟩ : Addr).add j) = some u := by
 subst hn
 intro j u hj
 match j, hj with
 | 0, hj => simp at hj; subst hj; simp [Addr.add]
 | 1, hj => simp at hj; subst hj; simp [Addr.add]
 | 2, hj => simp at hj; subst hj; simp [Addr.add]
 | 3, hj => simp at hj; subst hj; simp [Addr.add]
 | 4, hj => simp at hj; subst hj; simp [Addr.add]
 | j + 5, hj => simp at hj
/-- append of one item that was just made. -/
theorem append_it (w : World) {p0 p1 p2 p3 p4 : Value} {ops : Array Oper} {rest : List Oper} {o : Oper} {a : Act} {Q : Exit → Act → World → Prop} (hgd : o.guard = none) (s x : Operand)
  (ho : o.op = .call { callee := .builtin .append, args := #[s, x], argTypes := #[171, 171] })
  (v : Value) (n : Nat) (xs : List Value) (hv : a.eval s = v) (hrow : Row w 178 5 v n xs)
  (N : Nat) (hN : N = w.heap.size) (hxv : a.eval x = .slice (some ⟨N, 0, none⟩) 1 1) (hone : ∀ u ∈ [p0, p1, p2, p3, p4], u.oneCell' = true) (hn : n ≤ 1000000)
  (h : ∀ g off cap w', Row w' 178 5 (.slice (some ⟨g, off, none⟩) (n + 1) cap) (n + 1) (xs ++ [p0, p1, p2, p3, p4]) → (w.alloc (.cells #[p0, p1, p2, p3, p4] 178)).grownBy w' v.ownBlock → (v.ownBlock = some g ∨ g = w.heap.size + 1) → wpList Tryz.prog ops Q rest (a.put o.dst (.slice (some ⟨g, off, none⟩) (n + 1) cap)) w') :
  wpList Tryz.prog ops Q (o :: rest) a (w.alloc (.cells #[p0, p1, p2, p3, p4] 178)) := by
 subst hN
 obtain ⟨i0, hi, hz0, hz1, hz2⟩ := info_parts Tryz.infoIt
 refine wpList_append_row hgd s x 171 ho i0 _ 56 Tryz.underlying171 hi hz0 hz1 hz2 rfl hv (hrow.same (fun k hk => Below.heap_alloc _ _ _ (hrow.lt k hk))) 1 [p0, p1, p2, p3, p4] _ hxv (Src.ofSlice _ Tryz.underlying171 _ 1 1 _ rfl (five_at w _ _ _ _ _ _ _ rfl) hone) (by omega) (by unfold maxLen; omega) (by omega) ?_
 intro g off cap w' g1 g2 g3
 exact h g off cap w' g1 g2 (g3.imp id (fun h => by rw [h]; simp))
/-- Items in memory, each with its events. -/
structure IS (w0 w : World) (v : Value) (L : List (It × Value)) : Prop where
 below : Below w0.heap.size w0 w
 row : Row w 178 5 v L.length (L.flatMap itL)
 ev : ∀ x ∈ L, Row w 75 4 x.2 x.1.m.evs.length (x.1.m.evs.flatMap evC)
 new : ∀ b, v.ownBlock = some b → w0.heap.size ≤ b
 evn : ∀ x ∈ L, ∀ b, x.2.ownBlock = some b → w0.heap.size ≤ b ∧ v.ownBlock ≠ some b
theorem IS.nil (w : World) : IS w w (.slice none 0 0) [] := ⟨Below.refl _ _, ⟨rfl, Or.inl ⟨rfl, rfl⟩⟩, by simp, fun b hb => (by cases hb), by simp⟩
theorem IS.then {w0 w w' : World} {v : Value} {L : List (It × Value)} (h : IS w0 w v L) (hb : Below w.heap.size w w') : IS w0 w' v L :=
 ⟨h.below.trans (hb.mono h.below.size), h.row.same (fun b hb' => hb.block b (h.row.lt b hb')), fun x hx => (h.ev x hx).same (fun b hb' => hb.block b ((h.ev x hx).lt b hb')), h.new, h.evn⟩
theorem IS.push {w0 wr w' : World} {v ev : Value} {L : List (It × Value)} {x : It} {g off cap : Nat} {o : Obj} (h : IS w0 wr v L) (hev : Row wr 75 4 ev x.m.evs.length (x.m.evs.flatMap evC)) (hen : ∀ b, ev.ownBlock = some b → w0.heap.size ≤ b ∧ v.ownBlock ≠ some b)
  (hrow : Row w' 178 5 (.slice (some ⟨g, off, none⟩) (L.length + 1) cap) (L.length + 1) (L.flatMap itL ++ itL (x, ev))) (hg : (wr.alloc o).grownBy w' v.ownBlock) (hat : v.ownBlock = some g ∨ g = wr.heap.size + 1) :
  IS w0 w' (.slice (some ⟨g, off, none⟩) (L.length + 1) cap) (L ++ [(x, ev)]) := by
 have hsz := h.below.size
 have hB : Below w0.heap.size w0 w' := (h.below.alloc hsz o).grown hg (by simp; omega) h.new
 have hsame : ∀ (b : Nat), b < wr.heap.size → v.ownBlock ≠ some b → w'.heap[b]? = wr.heap[b]? := fun b hl hne => by
  rw [hg.block b (by simp; omega) (fun e => hne e.symm), Below.heap_alloc _ _ _ hl]
 have hgg : ∀ b : Nat, (Value.slice (some ⟨g, off, none⟩) (L.length + 1) cap).ownBlock = some b → b = g := fun b hb => (Option.some.inj hb).symm
 refine ⟨hB, by rw [List.length_append, List.flatMap_append]; simpa using hrow, ?_, ?_, ?_⟩
 ·intro y hy
  rcases List.mem_append.1 hy with hy | hy
  ·exact (h.ev y hy).same (fun b hb => hsame b ((h.ev y hy).lt b hb) (h.evn y hy b hb).2)
  ·rw [List.mem_singleton] at hy; subst hy
   exact hev.same (fun b hb => hsame b (hev.lt b hb) (hen b hb).2)
 ·intro b hb
  have := hgg b hb
  subst this
  rcases hat with h1 | h1
  ·exact h.new b h1
  ·omega
 ·have key : ∀ (u : Value) (hr : ∀ b, u.ownBlock = some b → w0.heap.size ≤ b ∧ v.ownBlock ≠ some b) (hl : ∀ b, u.ownBlock = some b → b < wr.heap.size), ∀ b, u.ownBlock = some b → w0.heap.size ≤ b ∧ (Value.slice (some ⟨g, off, none⟩) (L.length + 1) cap).ownBlock ≠ some b := by
   intro u hr hl b hb
   refine ⟨(hr b hb).1, fun e => ?_⟩
   have := hgg b e
   subst this
   rcases hat with h1 | h1
   ·exact (hr b hb).2 h1
   ·have := hl b hb; omega
  intro y hy
  rcases List.mem_append.1 hy with hy | hy
  ·exact key y.2 (h.evn y hy) (fun b hb => (h.ev y hy).lt b hb)
  ·rw [List.mem_singleton] at hy; subst hy
   exact key ev hen (fun b hb => hev.lt b hb)
end Go.Proofs.YtbgfannlfagoiaaGreatDoor

namespace Go.Proofs.YtbgfannlfagoiaaGreatDoor
open Go.RowKit Go.Lull
set_option linter.unusedVariables false

/-- Which of n things a raw number speaks of. -/
def absI (c : Int) : Int := if c < 0 then -(c + 1) else c
def pickI (c n : Int) : Int := absI c % n
theorem absI_nn (c : Int) : 0 ≤ absI c := by unfold absI; split <;> omega
theorem pickI_nn (c n : Int) (h : 0 < n) : 0 ≤ pickI c n ∧ pickI c n < n := ⟨Int.emod_nonneg _ (by omega), Int.emod_lt_of_pos _ h⟩

def I64 (c : Int) : Prop := -9223372036854775808 ≤ c ∧ c ≤ 9223372036854775807

set_option maxHeartbeats 400000 in
theorem pick_any (c n : Int) (w : World) (hc : I64 c) (h0 : 0 < n) (h1 : n ≤ 1099511627776) :
  Calls Tryz.prog 34 #[.int .i64 c, .int .i64 n] w fun e w' => e = .returned (.int .i64 (pickI c n)) ∧ w' = w := by
 obtain ⟨hc1, hc2⟩ := hc
 by_cases h : c < 0
 ·have hp : pickI c n = (-(c + 1)) % n := by simp [pickI, absI, h]
  rw [hp]
  have h3 : 0 ≤ -(c + 1) := by omega
  have h4 : -(c + 1) ≤ 9223372036854775807 := by omega
  clear hp
  go_enter Tryz.func34, Tryz.ntmps34
  go_wp2
  go_ret
  exact ⟨ret_i (by rw [← Int.neg_tmod, Int.tmod_eq_emod_of_nonneg h3]), rfl⟩
 ·have hp : pickI c n = c % n := by simp [pickI, absI, h]
  rw [hp]
  have h3 : 0 ≤ c := by omega
  clear hp
  go_enter Tryz.func34, Tryz.ntmps34
  go_wp2
  go_ret
  exact ⟨rfl, rfl⟩

def digB (n : Nat) : UInt8 := UInt8.ofNat (48 + n)
def numS (n : Nat) : List UInt8 := if n < 10 then [digB n] else [digB (n / 10), digB (n % 10)]

theorem conv_one (w : World) (z : Int) (o : Obj) (N c : Nat) (hN : N = w.heap.size) (ho : o = .cells #[.int .u8 z] 5) :
  (convert 90 9 (.slice (some ⟨N, 0, none⟩) 1 c)).run Tryz.prog (w.alloc o) = .ok (.string ⟨#[UInt8.ofNat z.toNat]⟩) (w.alloc o) := by
 subst hN ho
 rw [run_convert_bytes_string _ 90 9 5 _ _ _ Tryz.underlying90 Tryz.underlying5 Tryz.underlying9]
 have hl := run_loadCells_list (P := Tryz.prog) (w.alloc (.cells #[.int .u8 z] 5)) ⟨w.heap.size, 0, none⟩ ([z].map (Value.int .u8)) (fun j v hj => by
  match j, hj with
  | 0, hj => simp at hj; subst hj; simp [Addr.add]
  | j + 1, hj => simp at hj)
 simp only [List.length_map, List.length_cons, List.length_nil] at hl
 rw [run_bytesToString _ _ 1 c _ hl]
 rfl

set_option maxHeartbeats 400000 in
theorem keepNum_one (n : Nat) (w : World) (h : n < 10) :
  Calls Tryz.prog 38 #[.int .i64 n] w fun e w' => e = .returned (.string ⟨(numS n).toArray⟩) ∧ ∃ q os, w' = Go.Sort.grow (w.drewN q) os := by
 have hn : numS n = [digB n] := by simp [numS, h]
 rw [hn]
 clear hn
 have hcv := fun z => conv_one w z (.cells #[.int .u8 z] 5) w.heap.size 1 rfl rfl
 go_enter Tryz.func38, Tryz.ntmps38
 go_wp2
 go_ret
 refine ⟨?_, 0, _, alloc_is_grow _ _⟩
 simp [digB]

theorem grow_two (w : World) (q q' : Nat) (os os' : Array Obj) : Go.Sort.grow ((Go.Sort.grow (w.drewN q) os).drewN q') os' = Go.Sort.grow (w.drewN (q + q')) (os ++ os') := by
 show Go.Sort.grow (Go.Sort.grow ((w.drewN q).drewN q') os) os' = _
 rw [Go.Sort.grow_grow, World.drewN_drewN]

set_option maxHeartbeats 400000 in
theorem keepNum_any (n : Nat) (w : World) (h : n < 100) :
  Calls Tryz.prog 38 #[.int .i64 n] w fun e w' => e = .returned (.string ⟨(numS n).toArray⟩) ∧ ∃ q os, w' = Go.Sort.grow (w.drewN q) os := by
 by_cases h1 : n < 10
 ·exact keepNum_one n w h1
 ·have hn : numS n = [digB (n / 10), digB (n % 10)] := by simp [numS, h1]
  have hd : numS (n / 10) = [digB (n / 10)] := by simp [numS]; omega
  have hm : numS (n % 10) = [digB (n % 10)] := by simp [numS]; omega
  have c1 := fun W => keepNum_one (n / 10) W (by omega)
  have c2 := fun W => keepNum_one (n % 10) W (by omega)
  rw [hd] at c1
  rw [hm] at c2
  rw [hn]
  have C1 : Hid (∀ (z : Int) W, z = ((n / 10 : Nat) : Int) → Calls Tryz.prog 38 #[.int .i64 z] W fun e w' => e = .returned (.string ⟨#[digB (n / 10)]⟩) ∧ ∃ q os, w' = Go.Sort.grow (W.drewN q) os) := fun z W hz => by rw [hz]; exact c1 W
  have C2 : Hid (∀ (z : Int) W, z = ((n % 10 : Nat) : Int) → Calls Tryz.prog 38 #[.int .i64 z] W fun e w' => e = .returned (.string ⟨#[digB (n % 10)]⟩) ∧ ∃ q os, w' = Go.Sort.grow (W.drewN q) os) := fun z W hz => by rw [hz]; exact c2 W
  clear hn hd hm c1 c2
  have hr : Hid (∀ p q : UInt8, (⟨#[p]⟩ : ByteArray) ++ ⟨#[q]⟩ = ⟨#[p, q]⟩) := fun p q => by rfl
  go_enter Tryz.func38, Tryz.ntmps38
  go_wp2_with (first | (go_at_call 38; refine (C1.out _ _ (by omega)).mono ?_; rintro e w1 ⟨rfl, q1, os1, rfl⟩) | (go_at_call 38; refine (C2.out _ _ (by omega)).mono ?_; rintro e w2 ⟨rfl, q2, os2, rfl⟩))
  go_ret
  exact ⟨by rw [← hr.out]; rfl, q1 + q2, _, grow_two _ _ _ _ _⟩
end Go.Proofs.YtbgfannlfagoiaaGreatDoor

namespace Go.Proofs.YtbgfannlfagoiaaGreatDoor
open Go.RowKit Go.Lull
set_option linter.unusedVariables false

/-- A list of raw numbers that came in. -/
structure RAW (w : World) (v : Value) (l : List Int) : Prop where
 ex : ∃ a b off cap, v = .slice a l.length cap ∧ l.length ≤ cap ∧ (l ≠ [] → a = some ⟨b, off, none⟩ ∧ b < w.heap.size) ∧ ∀ k, (h : k < l.length) → w.cell? ⟨b, off + k, none⟩ = some (.int .i64 l[k])
 fits : ∀ c ∈ l, I64 c
 len : l.length ≤ maxLen
theorem RAW.below {w w' : World} {v : Value} {l : List Int} {B : Nat} (h : RAW w v l) (hb : Below B w w') (hB : ∀ b, v.ownBlock = some b → b < B) : RAW w' v l := by
 obtain ⟨a, b, off, cap, rfl, hc, h1, h2⟩ := h.ex
 refine ⟨⟨a, b, off, cap, rfl, hc, fun hn => ⟨(h1 hn).1, Nat.lt_of_lt_of_le (h1 hn).2 hb.size⟩, fun k hk => ?_⟩, h.fits, h.len⟩
 have hn : l ≠ [] := fun e => by rw [e] at hk; cases hk
 rw [hb.cell (p := ⟨b, off + k, none⟩) (hB b (by rw [(h1 hn).1]; rfl))]
 exact h2 k hk

/-- An event by a raw number. -/
def evP (p : Int) : Ev := (p % 3, 1 + p / 9 % 60, UInt8.ofNat (97 + (p / 3 % 3).toNat), p / 540 % 5 - 2)
def evsB (raw : List Int) : List Ev := (raw.take 40).map (fun c => evP (pickI c 1099511627776))
theorem evsB_len (raw : List Int) : (evsB raw).length ≤ 40 := by simp [evsB]; omega
theorem evsB_snoc (raw : List Int) (k : Nat) (hk : k < raw.length) (h40 : k < 40) : evsB (raw.take (k + 1)) = evsB (raw.take k) ++ [evP (pickI raw[k] 1099511627776)] := by
 unfold evsB
 rw [List.take_take, List.take_take, Nat.min_eq_right (by omega), Nat.min_eq_right (by omega), List.take_succ_eq_append_getElem hk, List.map_append]
 rfl
theorem evsB_take (raw : List Int) (k : Nat) (h : raw.length ≤ k ∨ 40 ≤ k) : evsB (raw.take k) = evsB raw := by
 unfold evsB
 rcases h with h | h
 ·rw [List.take_of_length_le h]
 ·rw [List.take_take, Nat.min_eq_left h]

theorem Tryz.infoEv2 : (Tryz.prog.info? 75).map (fun i => (i.zero, i.size, i.bytes)) = some (some (.agg #[.int .i64 0, .int .i64 0, .int .u8 0, .int .i64 0]), 4, 32) := by kernel_rfl

/-- append of one event that was just made. -/
theorem append_ev1 (w : World) {ops : Array Oper} {rest : List Oper} {o : Oper} {a : Act} {Q : Exit → Act → World → Prop} (hgd : o.guard = none) (s x : Operand)
  (ho : o.op = .call { callee := .builtin .append, args := #[s, x], argTypes := #[39, 39] })
  (v : Value) (n : Nat) (xs : List Value) (p0 p1 p2 p3 : Value) (hone : ∀ u ∈ [p0, p1, p2, p3], u.oneCell' = true) (hv : a.eval s = v) (hrow : Row w 75 4 v n xs)
  (hxv : a.eval x = .slice (some ⟨w.heap.size, 0, none⟩) 1 1) (hn : n ≤ 100000)
  (h : ∀ g off cap w', Row w' 75 4 (.slice (some ⟨g, off, none⟩) (n + 1) cap) (n + 1) (xs ++ [p0, p1, p2, p3]) → (w.alloc (.cells #[p0, p1, p2, p3] 75)).grownBy w' v.ownBlock → (v.ownBlock = some g ∨ g = w.heap.size + 1) → wpList Tryz.prog ops Q rest (a.put o.dst (.slice (some ⟨g, off, none⟩) (n + 1) cap)) w') :
  wpList Tryz.prog ops Q (o :: rest) a (w.alloc (.cells #[p0, p1, p2, p3] 75)) := by
 obtain ⟨i0, hi, hz0, hz1, hz2⟩ := info_parts Tryz.infoEv2
 refine wpList_append_row hgd s x 39 ho i0 _ 32 Tryz.underlying39 hi hz0 hz1 hz2 rfl hv (hrow.same (fun k hk => Below.heap_alloc _ _ _ (hrow.lt k hk))) 1 [p0, p1, p2, p3] _ hxv (Src.ofSlice _ Tryz.underlying39 _ 1 1 _ rfl ?_ hone) (by omega) (by unfold maxLen; omega) (by omega) ?_
 ·intro j u hj
  match j, hj with
  | 0, hj => simp at hj; subst hj; simp [Addr.add]
  | 1, hj => simp at hj; subst hj; simp [Addr.add]
  | 2, hj => simp at hj; subst hj; simp [Addr.add]
  | 3, hj => simp at hj; subst hj; simp [Addr.add]
  | j + 4, hj => simp at hj
 ·intro g off cap w' h1 h2 h3
  exact h g off cap w' h1 h2 (h3.imp id (fun h => by rw [h]; simp))

/-- A new list of events. -/
structure NewEv (w w' : World) (v : Value) (l : List Ev) : Prop where
 below : Below w.heap.size w w'
 row : Row w' 75 4 v l.length (l.flatMap evC)
 new : ∀ b, v.ownBlock = some b → w.heap.size ≤ b
theorem NewEv.nil (w : World) : NewEv w w (.slice none 0 0) [] := ⟨Below.refl _ _, ⟨rfl, Or.inl ⟨rfl, rfl⟩⟩, fun b hb => by cases hb⟩
theorem NewEv.then {w w1 w2 : World} {v : Value} {l : List Ev} (h : NewEv w w1 v l) (hb : Below w1.heap.size w1 w2) : NewEv w w2 v l :=
 ⟨h.below.trans (hb.mono h.below.size), h.row.same (fun k hk => hb.block k (h.row.lt k hk)), h.new⟩

set_option maxRecDepth 8000 in
set_option maxHeartbeats 1000000 in
theorem events_any (w : World) (v : Value) (raw : List Int) (h : RAW w v raw) :
  Calls Tryz.prog 11 #[v] w fun e w' => ∃ v', e = .returned v' ∧ NewEv w w' v' (evsB raw) := by
 obtain ⟨a, b, off, cap, rfl, hcap, hat, hcell⟩ := h.ex
 have hfit := h.fits
 have hlen := h.len
 have hml : raw.length ≤ 9223372036854775807 := by unfold maxLen at hlen; omega
 have HC := Hid.mk' hcell
 have HA := Hid.mk' hat
 have HF := Hid.mk' hfit
 clear h hcell hat hfit
 go_enter Tryz.func11, Tryz.ntmps11
 go_wp2
 go_loopw [3, 4] (fun lv i wr => ∃ (k : Nat), i = .int .i64 k ∧ k ≤ raw.length ∧ k ≤ 40 ∧ Hid (NewEv w wr lv (evsB (raw.take k)))) (fun _ i _ => 40 - (intOf i).toNat)
 case atStart => exact ⟨0, rfl, Nat.zero_le _, Nat.zero_le _, Hid.mk' (by simpa [evsB] using NewEv.nil w)⟩
 case round =>
  obtain ⟨k, rfl, hk, hk40, hN⟩ := hrel
  obtain ⟨la, lcap, hlv, _⟩ := hN.out.row.form
  subst hlv
  have hel : (evsB (raw.take k)).length = k := by simp [evsB]; omega
  have hR : Hid (Row wr 75 4 (.slice la k lcap) k ((evsB (raw.take k)).flatMap evC)) := by have := hN.out.row; rw [hel] at this; exact this
  rw [hel] at hN ⊢
  clear hel
  by_cases hlt : k < raw.length
  ·by_cases h40 : k < 40
   ·have hne : raw ≠ [] := fun e => by rw [e] at hlt; cases hlt
    obtain ⟨rfl, hbl⟩ := HA.out hne
    obtain ⟨c, hc⟩ : ∃ c, raw[k] = c := ⟨_, rfl⟩
    have hcc : wr.cell? ⟨b, off + k, none⟩ = some (.int .i64 c) := by
     rw [hN.out.below.cell (p := ⟨b, off + k, none⟩) hbl, HC.out k hlt, hc]
    have hpick := pick_any c 1099511627776 wr (HF.out c (by rw [← hc]; exact List.getElem_mem hlt)) (by omega) (by omega)
    obtain ⟨p, hp⟩ : ∃ p, pickI c 1099511627776 = p := ⟨_, rfl⟩
    have hp0 := (pickI_nn c 1099511627776 (by omega))
    rw [hp] at hpick hp0
    obtain ⟨hp1, hp2⟩ := hp0
    have HX : Hid (evsB (raw.take (k + 1)) = evsB (raw.take k) ++ [evP p]) := by
     unfold Hid; rw [evsB_snoc raw k hlt h40, hc, hp]
    clear hc hp
    have h40' : (k : Int) < 40 := by omega
    go_wp2_with (first | (go_at_call 34; refine hpick.mono ?_; rintro e w' ⟨rfl, rfl⟩) | (at_builtin; refine append_ev1 _ rfl _ _ rfl (.slice la k lcap) k _ _ _ _ _ (by simp [Value.oneCell']) rfl hR.out rfl (by omega) ?_))
    intro g2 off2 cap2 w3 hrow3 hgrow3 hor3
    have hN3 : NewEv w w3 (.slice (some ⟨g2, off2, none⟩) (k + 1) cap2) (evsB (raw.take (k + 1))) := by
     have hsz := hN.out.below.size
     have hb3 : Below w.heap.size w w3 := (hN.out.below.alloc hsz _).grown hgrow3 (by simp; omega) hN.out.new
     refine ⟨hb3, ?_, ?_⟩
     ·rw [HX.out]
      have e1 : (evsB (raw.take k) ++ [evP p]).length = k + 1 := by simp [evsB]; omega
      rw [e1, List.flatMap_append]
      have e2 : [evP p].flatMap evC = [.int .i64 (p % 3), .int .i64 (1 + p / 9 % 60), .int .u8 (97 + p / 3 % 3), .int .i64 (p / 540 % 5 - 2)] := by
       have e3 : ((UInt8.ofNat (97 + (p / 3 % 3).toNat)).toNat : Int) = 97 + p / 3 % 3 := by
        have := Int.emod_nonneg (p / 3) (show (3 : Int) ≠ 0 by omega)
        have := Int.emod_lt_of_pos (p / 3) (show (0 : Int) < 3 by omega)
        simp only [UInt8.toNat_ofNat']
        omega
       simp only [List.flatMap_cons, List.flatMap_nil, List.append_nil, evC, evP, e3]
      rw [e2]
      exact hrow3
     ·intro x hx
      rcases hor3 with h | h
      ·exact hN.out.new x (by rw [h]; exact hx)
      ·have hx' : g2 = x := Option.some.inj hx
       omega
    have HN3 := Hid.mk' hN3
    clear hN3 hrow3 hgrow3 hor3
    go_wp2
    go_roundw
    case rel => exact ⟨k + 1, by go_num, by omega, by omega, HN3⟩
    case measure => simp [intOf]; omega
   ·have h40' : ¬ (k : Int) < 40 := by omega
    go_wp2
    go_ret
    exact ⟨_, rfl, by rw [← evsB_take raw k (Or.inr (by omega))]; exact hN.out⟩
  ·go_wp2
   go_ret
   exact ⟨_, rfl, by rw [← evsB_take raw k (Or.inl (by omega))]; exact hN.out⟩
end Go.Proofs.YtbgfannlfagoiaaGreatDoor
