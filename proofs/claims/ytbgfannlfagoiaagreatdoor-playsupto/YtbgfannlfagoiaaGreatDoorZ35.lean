import Derived.Test.YtbgfannlfagoiaaGreatDoorZ34
namespace Go.Proofs.YtbgfannlfagoiaaGreatDoor
open Go.RowKit Go.Lull
set_option linter.unusedVariables false

/-- Its own block is written: next, served, row. -/
theorem RE.touch {w w' : World} {rb : Nat} {c : RC} (h : RE w rb c) (n : Nat) (s : Int) (r : Nat) (hz : w.heap.size ≤ w'.heap.size) (hs : ∀ b ∈ c.blocks rb, b ≠ rb → w'.heap[b]? = w.heap[b]?) (hb : w'.heap[rb]? = some (.cells (rCells { c with next := n, served := s, row := r }) 107 (0, 0))) : RE w' rb { c with next := n, served := s, row := r } := by
  have hnr := (List.nodup_cons.1 h.nd).1
  have hw : ∀ b ∈ c.mg :: (c.qv.ownBlock.toList ++ c.cs.flatMap CR.blk), w'.heap[b]? = w.heap[b]? := fun b hm => hs b (List.mem_append_left _ (List.mem_cons_of_mem _ hm)) (fun e => hnr (by rw [← e]; exact hm))
  have hr : ∀ b ∈ c.rd, w'.heap[b]? = w.heap[b]? := fun b hm => hs b (List.mem_append_right _ hm) (fun e => h.ap b hm (by rw [e]; exact List.mem_cons_self))
  refine ⟨hb, by rw [hw c.mg List.mem_cons_self]; exact h.marks, h.waits.same (fun b hm => hr b (by simp [RC.rd, hm])), h.qrow.same (fun b hm => hw b (by simp [hm])), fun x hx => (h.qs x hx).same hz (fun b hm => ?_), h.nd, h.ap⟩
  rcases List.mem_append.1 hm with h1 | h1
  · exact hw b (List.mem_cons_of_mem _ (List.mem_append_right _ (List.mem_flatMap.2 ⟨x, hx, h1⟩)))
  · rw [List.mem_singleton] at h1; subst h1; exact hr _ (mem_rd hx)
theorem RE.setRow {w : World} {rb : Nat} {c : RC} (h : RE w rb c) (r : Nat) : RE (w.setCell ⟨rb, 5, none⟩ (.int .i64 r)) rb { c with row := r } :=
  h.touch c.next c.served r (by simp) (fun b _ hne => Below.heap_setCell _ _ _ _ hne) (by rw [heap_setCell_same w rb 5 _ _ _ h.blk]; rfl)
theorem RE.setServed {w : World} {rb : Nat} {c : RC} (h : RE w rb c) (s : Int) : RE (w.setCell ⟨rb, 4, none⟩ (.int .i64 s)) rb { c with served := s } :=
  h.touch c.next s c.row (by simp) (fun b _ hne => Below.heap_setCell _ _ _ _ hne) (by rw [heap_setCell_same w rb 4 _ _ _ h.blk]; rfl)
theorem has_len {M : Int} {q : RQ} : hasB M q = decide (0 < (qOf M q).found.length) := by
  unfold hasB
  cases (qOf M q).found <;> simp
/-- What serve does. -/
def ServeR (w : World) (rb : Nat) (c : RC) (e : Ending) (w' : World) : Prop :=
  (∃ x ∈ c.cs, lastR c.abs = some x.q ∧ e = .returned (.pointer (some ⟨x.qb, 0, none⟩)) ∧ RE w' rb { c with row := c.row + 1 } ∧ Fr [rb] w w') ∨
  (lastR c.abs = none ∧ ∃ x ∈ c.cs, nextR c.abs = some x.q ∧ e = .returned (.pointer (some ⟨x.qb, 0, none⟩)) ∧ RE w' rb { c with served := x.q.id, row := 1 } ∧ Fr [rb] w w') ∨
  (lastR c.abs = none ∧ nextR c.abs = none ∧ e = .returned (.pointer none) ∧ RE w' rb c ∧ Fr [rb] w w')
theorem cs_uniq {n : Nat} {c : RC} (hr : RSok n c.abs) {x : CR} (hx : x ∈ c.cs) : c.cs.find? (fun y => (y.q.id : Int) == (x.q.id : Int)) = some x := by
  have hp : c.cs.Pairwise (fun a b => a.q.id < b.q.id) := by have := hr.nr; unfold RC.abs at this; rwa [List.pairwise_map] at this
  clear hr
  generalize c.cs = l at hx hp
  induction l with
  | nil => cases hx
  | cons a l ih =>
    have hc := List.pairwise_cons.1 hp
    rw [List.find?_cons]
    rcases List.mem_cons.1 hx with rfl | hx
    · simp
    · have := hc.1 x hx
      have hne : ((a.q.id : Int) == (x.q.id : Int)) = false := by simp; omega
      rw [hne]
      exact ih hx hc.2

set_option maxRecDepth 8000 in
set_option maxHeartbeats 4000000 in
theorem serve_any' {w : World} {rb n : Nat} {c : RC} (h : RE w rb c) (hr : RSok n c.abs) (hn : n ≤ 1000000) :
    Calls Tryz.prog 78 #[.pointer (some ⟨rb, 0, none⟩)] w (ServeR w rb c) := by
  have hcl : c.cs.length ≤ 10 := by have := hr.ql; simpa [RC.abs] using this
  obtain ⟨N, hN⟩ : ∃ N : CR → Nat, ∀ x, N x = (qOf (markB c.marks) x.q).found.length := ⟨_, fun _ => rfl⟩
  have hNl : ∀ x ∈ c.cs, N x ≤ 1000000 := by
    intro x hx
    have h1 := all_len x.q (markB c.marks)
    have h2 := (hr.qs x.q (List.mem_map.2 ⟨x, hx, rfl⟩)).2
    rw [hN]
    show ((x.q.all (markB c.marks)).found.drop x.q.gone).length ≤ _
    rw [List.length_drop]
    omega
  have hcnt : Hid (∀ W x, x ∈ c.cs → Below w.heap.size w W → Calls Tryz.prog 75 #[.pointer (some ⟨rb, 0, none⟩), .int .i64 (x.q.id : Int)] W fun e w' => ∃ r : Int, e = .returned (.tuple #[.int .i64 (N x : Int), .int .i64 r]) ∧ Hid (Below w.heap.size w w')) := by
    intro W x hx hb
    refine (count_any (h.below hb) hr hn (x.q.id : Int)).mono ?_
    rintro e w' ⟨rfl, hb2⟩
    refine ⟨(runsE (eOf c.abs) (x.q.id : Int) : Int), ?_, hb.trans (hb2.mono hb.size)⟩
    have : waitE (eOf c.abs) (x.q.id : Int) = N x := by
      rw [wait_sim, find_abs, cs_uniq hr hx, hN]
      simp only [Option.map_some]
      show _ = ((x.q.all (markB c.marks)).found.drop x.q.gone).length
      rw [List.length_drop]; rfl
    rw [this]
  have hfind := Hid.mk' (find_any h c.served (by omega))
  have hhas : ∀ x, hasB (markB c.marks) x.q = decide (0 < N x) := fun x => by rw [has_len, hN]
  have hlast : Hid (lastR c.abs = if c.row < 2 then (match c.cs.find? (fun x => (x.q.id : Int) == c.served) with | some x => (if 0 < N x then some x.q else none) | none => none) else none) := by
    unfold Hid lastR
    show (if c.row < 2 then _ else none) = _
    have hfa := find_abs c c.served
    show (if c.row < 2 then (match c.abs.qs.find? (fun q => (q.id : Int) == c.served) with | some q => _ | none => none) else none) = _
    rw [hfa]
    by_cases h2 : c.row < 2
    · rw [if_pos h2, if_pos h2]
      cases c.cs.find? (fun x => (x.q.id : Int) == c.served) with
      | none => rfl
      | some x =>
        simp only [Option.map_some]
        show (if hasB (markB c.marks) x.q = true then _ else _) = _
        rw [hhas]; simp
    · rw [if_neg h2, if_neg h2]
  have hnext : Hid (nextR c.abs = (match c.cs.find? (fun x => decide (0 < N x) && decide (c.served < (x.q.id : Int))) with | some x => some x.q | none => (c.cs.find? (fun x => decide (0 < N x))).map (fun x : CR => x.q))) := by
    unfold Hid nextR
    show (match (c.cs.map (fun x : CR => x.q)).find? (fun q => hasB (markB c.marks) q && decide (c.served < (q.id : Int))) with | some q => some q | none => (c.cs.map (fun x : CR => x.q)).find? (hasB (markB c.marks))) = _
    rw [List.find?_map, List.find?_map]
    have e1 : ((fun q => hasB (markB c.marks) q && decide (c.served < (q.id : Int))) ∘ fun x : CR => x.q) = fun x => decide (0 < N x) && decide (c.served < (x.q.id : Int)) := by funext x; simp [hhas]
    have e2 : ((hasB (markB c.marks)) ∘ fun x : CR => x.q) = fun x => decide (0 < N x) := by funext x; simp [hhas]
    rw [e1, e2]
    cases c.cs.find? (fun x => decide (0 < N x) && decide (c.served < (x.q.id : Int))) <;> rfl
  obtain ⟨qa, qc, hqv, hqc⟩ := h.qrow.form
  have HRE := Hid.mk' (fun W (hb : Below w.heap.size w W) => h.below hb)
  have hcell : Hid (∀ W, Below w.heap.size w W → W.cell? ⟨rb, 2, none⟩ = some (.slice qa c.cs.length qc) ∧ W.cell? ⟨rb, 4, none⟩ = some (.int .i64 c.served) ∧ W.cell? ⟨rb, 5, none⟩ = some (.int .i64 c.row) ∧ W.frozen? ⟨rb, 4, none⟩ = false ∧ W.frozen? ⟨rb, 5, none⟩ = false) := by
    intro W hb
    have hB := (h.below hb).blk
    refine ⟨?_, ?_, ?_, frozen_of_row W rb 4 _ _ hB, frozen_of_row W rb 5 _ _ hB⟩
    · rw [cell_of_row W rb 2 _ _ _ hB]; simp [rCells, hqv]
    · rw [cell_of_row W rb 4 _ _ _ hB]; rfl
    · rw [cell_of_row W rb 5 _ _ _ hB]; rfl
  have hqcell : Hid (∀ W k, Below w.heap.size w W → (hk : k < c.cs.length) → ∃ g off, qa = some ⟨g, off, none⟩ ∧ W.cell? ⟨g, off + k, none⟩ = some (.pointer (some ⟨c.cs[k].qb, 0, none⟩)) ∧ W.cell? ⟨c.cs[k].qb, 0, none⟩ = some (.int .i64 c.cs[k].q.id) ∧ g ≠ rb ∧ c.cs[k].qb ≠ rb) := by
    intro W k hb hk
    have hW := h.below hb
    have hrr := hW.qrow
    obtain ⟨g, off, cap, hv, _⟩ := row_some hrr (by omega)
    have hnr := (List.nodup_cons.1 h.nd).1
    rw [hv] at hrr hqv
    refine ⟨g, off, (Value.slice.inj hqv).1.symm, ?_, ?_, ?_, ?_⟩
    · rw [hrr.cell k (by omega)]; simp [hk]
    · rw [cell_of_row W _ 0 _ _ _ (hW.qs _ (List.getElem_mem hk)).blk]; rfl
    · intro e
      refine hnr (List.mem_cons_of_mem _ (List.mem_append_left _ ?_))
      rw [hv, ← e]; simp [Value.ownBlock]
    · intro e
      exact hnr (List.mem_cons_of_mem _ (List.mem_append_right _ (List.mem_flatMap.2 ⟨_, List.getElem_mem hk, by rw [← e]; simp [CR.blk]⟩)))
  have hrow2 : c.row ≤ 2 := by rcases hr.turn with ⟨_, h2⟩ | ⟨_, _, h2⟩ <;> (have h3 : c.row = c.abs.row := rfl) <;> omega
  obtain ⟨b2, b4, b5, f4, f5⟩ := hcell.out w (Below.refl _ _)
  have hfin1 : Hid (∀ W, Below w.heap.size w W → RE (W.setCell ⟨rb, 5, none⟩ (.int .i64 ((c.row : Int) + 1))) rb { c with row := c.row + 1 } ∧ Fr [rb] w (W.setCell ⟨rb, 5, none⟩ (.int .i64 ((c.row : Int) + 1)))) := by
    intro W hb
    have e : (((c.row + 1 : Nat)) : Int) = (c.row : Int) + 1 := by omega
    rw [← e]
    exact ⟨(h.below hb).setRow (c.row + 1), (Fr.of_below _ hb).setCell (Or.inl (by simp)) _⟩
  have hfin2 : Hid (∀ W (x : CR), Below w.heap.size w W → RE ((W.setCell ⟨rb, 4, none⟩ (.int .i64 (x.q.id : Int))).setCell ⟨rb, 5, none⟩ (.int .i64 1)) rb { c with served := x.q.id, row := 1 } ∧ Fr [rb] w ((W.setCell ⟨rb, 4, none⟩ (.int .i64 (x.q.id : Int))).setCell ⟨rb, 5, none⟩ (.int .i64 1))) := by
    intro W x hb
    exact ⟨((h.below hb).setServed (x.q.id : Int)).setRow 1, ((Fr.of_below _ hb).setCell (Or.inl (by simp)) _).setCell (Or.inl (by simp)) _⟩
  have hmemf : ∀ x0, c.cs.find? (fun x => (x.q.id : Int) == c.served) = some x0 → x0 ∈ c.cs := fun x0 h => List.mem_of_find?_eq_some h
  clear h hr hqv hhas hN
  by_cases hA : ∃ x0, c.cs.find? (fun x => (x.q.id : Int) == c.served) = some x0 ∧ c.row < 2 ∧ 0 < N x0
  · obtain ⟨x0, hx0, hr2, hN0⟩ := hA
    have hxm := hmemf x0 hx0
    have hNx := hNl x0 hxm
    rw [hx0] at hfind
    simp only [Option.map_some] at hfind
    have hl := hlast.out
    rw [if_pos hr2, hx0] at hl
    simp only [if_pos hN0] at hl
    have HL := Hid.mk' hl
    obtain ⟨k0, hk0, hkx⟩ := List.getElem_of_mem hxm
    obtain ⟨_, _, _, _, i0, _, _⟩ := hqcell.out w k0 (Below.refl _ _) hk0
    rw [hkx] at i0
    have hc0 := Hid.mk' (hcnt.out w x0 hxm (Below.refl _ _))
    have HX := Hid.mk' hxm
    have hr2' : (c.row : Int) < 2 := by omega
    have hN0' : (0 : Int) < (N x0 : Int) := by omega
    clear hlast hnext hcnt hl hx0 hkx hxm
    go_enter Tryz.func78, Tryz.ntmps78
    go_wp2_with (first
      | (go_at_call 95; with_reducible refine hfind.out.mono ?_; rintro e w' ⟨rfl, hw⟩; replace hw := hw.symm; subst hw)
      | (go_at_call 75; with_reducible refine hc0.out.mono ?_; rintro e w1 ⟨r, rfl, hB1⟩; obtain ⟨d2, d4, d5, g4, g5⟩ := hcell.out w1 hB1.out))
    go_ret
    exact Or.inl ⟨x0, HX.out, HL.out, rfl, hfin1.out w1 hB1.out⟩
  · have hl : Hid (lastR c.abs = none) := by
      unfold Hid
      rw [hlast.out]
      split
      · rename_i hr2
        cases hx0 : c.cs.find? (fun x => (x.q.id : Int) == c.served) with
        | none => rfl
        | some x0 =>
          simp only
          rw [if_neg (fun hN0 => hA ⟨x0, hx0, hr2, hN0⟩)]
      · rfl
    have hway : (c.cs.find? (fun x => (x.q.id : Int) == c.served) = none) ∨ (∃ x0, c.cs.find? (fun x => (x.q.id : Int) == c.served) = some x0 ∧ ¬ c.row < 2) ∨ (∃ x0, c.cs.find? (fun x => (x.q.id : Int) == c.served) = some x0 ∧ c.row < 2 ∧ N x0 = 0) := by
      cases hx0 : c.cs.find? (fun x => (x.q.id : Int) == c.served) with
      | none => exact Or.inl rfl
      | some x0 =>
        by_cases hr2 : c.row < 2
        · refine Or.inr (Or.inr ⟨x0, rfl, hr2, ?_⟩)
          rcases Nat.eq_zero_or_pos (N x0) with h | h
          · exact h
          · exact absurd ⟨x0, hx0, hr2, h⟩ hA
        · exact Or.inr (Or.inl ⟨x0, rfl, hr2⟩)
    clear hA hlast
    have hBc : Hid (Below w.heap.size w w) := Hid.mk' (Below.refl _ _)
    go_enter Tryz.func78, Tryz.ntmps78
    rcases hway with hx0 | ⟨x0, hx0, hr2⟩ | ⟨x0, hx0, hr2, hN0⟩
    case inl =>
      rw [hx0] at hfind
      simp only [Option.map_none] at hfind
      clear hx0
      go_wp2_with (go_at_call 95; with_reducible refine hfind.out.mono ?_; rintro e w' ⟨rfl, hw⟩; replace hw := hw.symm; subst hw)
      go_loopw [6] (fun tv wr => ∃ (t : Nat) (z : Int), z = t ∧ tv = .int .i64 z ∧ t ≤ 2 ∧ Hid (1 ≤ t → ∀ x ∈ c.cs, 0 < N x → ¬ c.served < (x.q.id : Int)) ∧ Hid (2 ≤ t → ∀ x ∈ c.cs, ¬ 0 < N x) ∧ Hid (Below w.heap.size w wr)) (fun tv _ => 2 - (intOf tv).toNat)
      case atStart => exact ⟨0, 0, rfl, rfl, by omega, Hid.mk' (fun h => by omega), Hid.mk' (fun h => by omega), hBc⟩
      case round =>
        obtain ⟨t, z, rfl, rfl, ht, h1, h2, hB⟩ := hrel
        by_cases ht2 : t < 2
        · have ht2' : (t : Int) < 2 := by omega
          go_wp2
          obtain ⟨wo, rfl⟩ : ∃ wo, wo = wr := ⟨wr, rfl⟩
          go_loopw [7] (fun iv wr => ∃ (i : Nat) (z : Int), z = i ∧ iv = .int .i64 z ∧ i ≤ c.cs.length ∧ Hid (∀ j, (hj : j < c.cs.length) → j < i → 0 < N c.cs[j] → ¬ (t = 1 ∨ c.served < (c.cs[j].q.id : Int))) ∧ Hid (Below w.heap.size w wr)) (fun iv _ => c.cs.length - (intOf iv).toNat)
          case atStart => exact ⟨0, 0, rfl, rfl, Nat.zero_le _, Hid.mk' (fun j hj h => by omega), hB⟩
          case round =>
            obtain ⟨i, z, rfl, rfl, hi, hm, hBi⟩ := hrel
            obtain ⟨d2, d4, d5, g4, g5⟩ := hcell.out wr hBi.out
            by_cases hlt : i < c.cs.length
            · obtain ⟨g, off, hqa, e0, e1, hg, hqb⟩ := hqcell.out wr i hBi.out hlt
              have hqc2 : Hid (∀ W, Below w.heap.size w W → W.cell? ⟨g, off + i, none⟩ = some (.pointer (some ⟨c.cs[i].qb, 0, none⟩)) ∧ W.cell? ⟨c.cs[i].qb, 0, none⟩ = some (.int .i64 c.cs[i].q.id)) := by
                intro W hb
                obtain ⟨g', off', hq', e0', e1', _⟩ := hqcell.out W i hb hlt
                rw [hqa] at hq'
                cases hq'
                exact ⟨e0', e1'⟩
              subst hqa
              have hxm : c.cs[i] ∈ c.cs := List.getElem_mem hlt
              have hcx := Hid.mk' (hcnt.out wr c.cs[i] hxm hBi.out)
              have hno : Hid (¬ (0 < N c.cs[i] ∧ (t = 1 ∨ c.served < (c.cs[i].q.id : Int))) → ∀ j, (hj : j < c.cs.length) → j < i + 1 → 0 < N c.cs[j] → ¬ (t = 1 ∨ c.served < (c.cs[j].q.id : Int))) := by
                intro h0 j hj hji hp
                rcases Nat.lt_or_ge j i with h3 | h3
                · exact hm.out j hj h3 hp
                · obtain rfl : j = i := by omega
                  exact fun h4 => h0 ⟨hp, h4⟩
              have hyes : Hid (0 < N c.cs[i] → (t = 1 ∨ c.served < (c.cs[i].q.id : Int)) → nextR c.abs = some c.cs[i].q) := by
                intro hp hor
                rw [hnext.out]
                rcases (show t = 0 ∨ t = 1 by omega) with ht0 | ht1
                · have hlt3 : c.served < (c.cs[i].q.id : Int) := by rcases hor with h | h; omega; exact h
                  have hf : c.cs.find? (fun x => decide (0 < N x) && decide (c.served < (x.q.id : Int))) = some c.cs[i] := by
                    rw [List.find?_eq_some_iff_getElem]
                    refine ⟨by simp [hp, hlt3], i, hlt, rfl, fun j hj => ?_⟩
                    by_cases hNj : 0 < N c.cs[j]
                    · have := hm.out j (by omega) hj hNj
                      have h5 : ¬ c.served < (c.cs[j].q.id : Int) := fun h => this (Or.inr h)
                      simp [h5]
                    · simp [hNj]
                  rw [hf]
                · have hf : c.cs.find? (fun x => decide (0 < N x) && decide (c.served < (x.q.id : Int))) = none := by
                    rw [List.find?_eq_none]
                    intro x hx
                    by_cases hNj : 0 < N x
                    · have := h1.out (by omega) x hx hNj
                      simp [this]
                    · simp [hNj]
                  have hf2 : c.cs.find? (fun x => decide (0 < N x)) = some c.cs[i] := by
                    rw [List.find?_eq_some_iff_getElem]
                    refine ⟨by simp [hp], i, hlt, rfl, fun j hj => ?_⟩
                    by_cases hNj : 0 < N c.cs[j]
                    · exact absurd (Or.inl ht1) (hm.out j (by omega) hj hNj)
                    · simp [hNj]
                  rw [hf, hf2]; rfl
              have hNx := hNl c.cs[i] hxm
              obtain ⟨x, hx⟩ : ∃ x, c.cs[i] = x := ⟨_, rfl⟩
              rw [hx] at e0 e1 hqb hcx hno hyes hqc2 hNx hxm
              have HX := Hid.mk' hxm
              clear hx hxm
              obtain ⟨nx, hnx⟩ : ∃ nx, N x = nx := ⟨_, rfl⟩
              rw [hnx] at hcx hno hyes hNx
              clear hnx
              rcases Nat.eq_zero_or_pos nx with hz | hz
              · subst hz
                have hm2 := Hid.mk' (hno.out (fun h => by omega))
                clear hno hyes
                go_wp2_with (go_at_call 75; with_reducible refine hcx.out.mono ?_; rintro e w1 ⟨r, rfl, hB1⟩; obtain ⟨d2', d4', d5', g4', g5'⟩ := hcell.out w1 hB1.out; obtain ⟨e0', e1'⟩ := hqc2.out w1 hB1.out)
                go_quiet (fail)
                go_wp2
                go_roundw
                case rel => exact ⟨i + 1, (i : Int) + 1, by omega, rfl, by omega, hm2, Hid.mk' (below_drewN hB1.out nq)⟩
                case measure => simp [intOf]; omega
              · have hz' : (0 : Int) < (nx : Int) := by omega
                rcases (show t = 0 ∨ t = 1 by omega) with ht0 | ht1
                · have ht0a : ((t : Int) == 1) = false := by simp; omega
                  have ht0b : ¬ (t : Int) = 1 := by omega
                  have ht0c : decide ((t : Int) = 1) = false := by simpa using ht0b
                  have HT0 := Hid.mk' ht0
                  clear ht0
                  by_cases hsv : c.served < (x.q.id : Int)
                  · have hy := Hid.mk' (hyes.out hz (Or.inr hsv))
                    clear hno hyes
                    go_wp2_with (go_at_call 75; with_reducible refine hcx.out.mono ?_; rintro e w1 ⟨r, rfl, hB1⟩; obtain ⟨d2', d4', d5', g4', g5'⟩ := hcell.out w1 hB1.out; obtain ⟨e0', e1'⟩ := hqc2.out w1 hB1.out)
                    go_quiet (fail)
                    go_wp2
                    go_ret
                    exact Or.inr (Or.inl ⟨hl.out, x, HX.out, hy.out, rfl, hfin2.out (w1.drewN nq) x (below_drewN hB1.out nq)⟩)
                  · have hm2 := Hid.mk' (hno.out (fun h => by have := HT0.out; rcases h.2 with h | h; omega; exact hsv h))
                    have hsv2 : decide (c.served < (x.q.id : Int)) = false := by simpa using hsv
                    clear hno hyes
                    go_wp2_with (go_at_call 75; with_reducible refine hcx.out.mono ?_; rintro e w1 ⟨r, rfl, hB1⟩; obtain ⟨d2', d4', d5', g4', g5'⟩ := hcell.out w1 hB1.out; obtain ⟨e0', e1'⟩ := hqc2.out w1 hB1.out)
                    go_quiet (fail)
                    go_wp2
                    go_roundw
                    case rel => exact ⟨i + 1, (i : Int) + 1, by omega, rfl, by omega, hm2, Hid.mk' (below_drewN hB1.out nq)⟩
                    case measure => simp [intOf]; omega
                · subst ht1
                  have hy := Hid.mk' (hyes.out hz (Or.inl rfl))
                  clear hno hyes
                  go_wp2_with (go_at_call 75; with_reducible refine hcx.out.mono ?_; rintro e w1 ⟨r, rfl, hB1⟩; obtain ⟨d2', d4', d5', g4', g5'⟩ := hcell.out w1 hB1.out; obtain ⟨e0', e1'⟩ := hqc2.out w1 hB1.out)
                  go_quiet (fail)
                  go_wp2
                  go_ret
                  exact Or.inr (Or.inl ⟨hl.out, x, HX.out, hy.out, rfl, hfin2.out (w1.drewN nq) x (below_drewN hB1.out nq)⟩)
            · have h1' : Hid (1 ≤ t + 1 → ∀ x ∈ c.cs, 0 < N x → ¬ c.served < (x.q.id : Int)) := by
                intro _ x hx hp hs
                obtain ⟨j, hj, rfl⟩ := List.getElem_of_mem hx
                exact hm.out j hj (by omega) hp (Or.inr hs)
              have h2' : Hid (2 ≤ t + 1 → ∀ x ∈ c.cs, ¬ 0 < N x) := by
                intro h3 x hx hp
                obtain ⟨j, hj, rfl⟩ := List.getElem_of_mem hx
                exact hm.out j hj (by omega) hp (Or.inl (by omega))
              clear h1 h2 hm
              go_wp2
              first
                | (refine ⟨⟨t + 1, (t : Int) + 1, by omega, rfl, by omega, h1', h2', hBi⟩, ?_⟩
                   simp [intOf]; omega)
                | (go_roundw
                   case rel => exact ⟨t + 1, (t : Int) + 1, by omega, rfl, by omega, h1', h2', hBi⟩
                   case measure => simp [intOf]; omega)
        · have ht2' : ¬ (t : Int) < 2 := by omega
          have hnn : nextR c.abs = none := by
            have hall := h2.out (by omega)
            rw [hnext.out]
            have hf : c.cs.find? (fun x => decide (0 < N x) && decide (c.served < (x.q.id : Int))) = none := by
              rw [List.find?_eq_none]
              intro x hx
              have := hall x hx
              simp [this]
            have hf2 : c.cs.find? (fun x => decide (0 < N x)) = none := by
              rw [List.find?_eq_none]
              intro x hx
              have := hall x hx
              simp [this]
            rw [hf, hf2]; rfl
          have HN := Hid.mk' hnn
          clear hnn
          go_wp2
          go_ret
          exact Or.inr (Or.inr ⟨hl.out, HN.out, rfl, HRE.out wr hB.out, Fr.of_below _ hB.out⟩)
    case inr.inl =>
      rw [hx0] at hfind
      simp only [Option.map_some] at hfind
      have hr2' : ¬ (c.row : Int) < 2 := by omega
      clear hx0
      go_wp2_with (go_at_call 95; with_reducible refine hfind.out.mono ?_; rintro e w' ⟨rfl, hw⟩; replace hw := hw.symm; subst hw)
      go_loopw [6] (fun tv wr => ∃ (t : Nat) (z : Int), z = t ∧ tv = .int .i64 z ∧ t ≤ 2 ∧ Hid (1 ≤ t → ∀ x ∈ c.cs, 0 < N x → ¬ c.served < (x.q.id : Int)) ∧ Hid (2 ≤ t → ∀ x ∈ c.cs, ¬ 0 < N x) ∧ Hid (Below w.heap.size w wr)) (fun tv _ => 2 - (intOf tv).toNat)
      case atStart => exact ⟨0, 0, rfl, rfl, by omega, Hid.mk' (fun h => by omega), Hid.mk' (fun h => by omega), hBc⟩
      case round =>
        obtain ⟨t, z, rfl, rfl, ht, h1, h2, hB⟩ := hrel
        by_cases ht2 : t < 2
        · have ht2' : (t : Int) < 2 := by omega
          go_wp2
          obtain ⟨wo, rfl⟩ : ∃ wo, wo = wr := ⟨wr, rfl⟩
          go_loopw [7] (fun iv wr => ∃ (i : Nat) (z : Int), z = i ∧ iv = .int .i64 z ∧ i ≤ c.cs.length ∧ Hid (∀ j, (hj : j < c.cs.length) → j < i → 0 < N c.cs[j] → ¬ (t = 1 ∨ c.served < (c.cs[j].q.id : Int))) ∧ Hid (Below w.heap.size w wr)) (fun iv _ => c.cs.length - (intOf iv).toNat)
          case atStart => exact ⟨0, 0, rfl, rfl, Nat.zero_le _, Hid.mk' (fun j hj h => by omega), hB⟩
          case round =>
            obtain ⟨i, z, rfl, rfl, hi, hm, hBi⟩ := hrel
            obtain ⟨d2, d4, d5, g4, g5⟩ := hcell.out wr hBi.out
            by_cases hlt : i < c.cs.length
            · obtain ⟨g, off, hqa, e0, e1, hg, hqb⟩ := hqcell.out wr i hBi.out hlt
              have hqc2 : Hid (∀ W, Below w.heap.size w W → W.cell? ⟨g, off + i, none⟩ = some (.pointer (some ⟨c.cs[i].qb, 0, none⟩)) ∧ W.cell? ⟨c.cs[i].qb, 0, none⟩ = some (.int .i64 c.cs[i].q.id)) := by
                intro W hb
                obtain ⟨g', off', hq', e0', e1', _⟩ := hqcell.out W i hb hlt
                rw [hqa] at hq'
                cases hq'
                exact ⟨e0', e1'⟩
              subst hqa
              have hxm : c.cs[i] ∈ c.cs := List.getElem_mem hlt
              have hcx := Hid.mk' (hcnt.out wr c.cs[i] hxm hBi.out)
              have hno : Hid (¬ (0 < N c.cs[i] ∧ (t = 1 ∨ c.served < (c.cs[i].q.id : Int))) → ∀ j, (hj : j < c.cs.length) → j < i + 1 → 0 < N c.cs[j] → ¬ (t = 1 ∨ c.served < (c.cs[j].q.id : Int))) := by
                intro h0 j hj hji hp
                rcases Nat.lt_or_ge j i with h3 | h3
                · exact hm.out j hj h3 hp
                · obtain rfl : j = i := by omega
                  exact fun h4 => h0 ⟨hp, h4⟩
              have hyes : Hid (0 < N c.cs[i] → (t = 1 ∨ c.served < (c.cs[i].q.id : Int)) → nextR c.abs = some c.cs[i].q) := by
                intro hp hor
                rw [hnext.out]
                rcases (show t = 0 ∨ t = 1 by omega) with ht0 | ht1
                · have hlt3 : c.served < (c.cs[i].q.id : Int) := by rcases hor with h | h; omega; exact h
                  have hf : c.cs.find? (fun x => decide (0 < N x) && decide (c.served < (x.q.id : Int))) = some c.cs[i] := by
                    rw [List.find?_eq_some_iff_getElem]
                    refine ⟨by simp [hp, hlt3], i, hlt, rfl, fun j hj => ?_⟩
                    by_cases hNj : 0 < N c.cs[j]
                    · have := hm.out j (by omega) hj hNj
                      have h5 : ¬ c.served < (c.cs[j].q.id : Int) := fun h => this (Or.inr h)
                      simp [h5]
                    · simp [hNj]
                  rw [hf]
                · have hf : c.cs.find? (fun x => decide (0 < N x) && decide (c.served < (x.q.id : Int))) = none := by
                    rw [List.find?_eq_none]
                    intro x hx
                    by_cases hNj : 0 < N x
                    · have := h1.out (by omega) x hx hNj
                      simp [this]
                    · simp [hNj]
                  have hf2 : c.cs.find? (fun x => decide (0 < N x)) = some c.cs[i] := by
                    rw [List.find?_eq_some_iff_getElem]
                    refine ⟨by simp [hp], i, hlt, rfl, fun j hj => ?_⟩
                    by_cases hNj : 0 < N c.cs[j]
                    · exact absurd (Or.inl ht1) (hm.out j (by omega) hj hNj)
                    · simp [hNj]
                  rw [hf, hf2]; rfl
              have hNx := hNl c.cs[i] hxm
              obtain ⟨x, hx⟩ : ∃ x, c.cs[i] = x := ⟨_, rfl⟩
              rw [hx] at e0 e1 hqb hcx hno hyes hqc2 hNx hxm
              have HX := Hid.mk' hxm
              clear hx hxm
              obtain ⟨nx, hnx⟩ : ∃ nx, N x = nx := ⟨_, rfl⟩
              rw [hnx] at hcx hno hyes hNx
              clear hnx
              rcases Nat.eq_zero_or_pos nx with hz | hz
              · subst hz
                have hm2 := Hid.mk' (hno.out (fun h => by omega))
                clear hno hyes
                go_wp2_with (go_at_call 75; with_reducible refine hcx.out.mono ?_; rintro e w1 ⟨r, rfl, hB1⟩; obtain ⟨d2', d4', d5', g4', g5'⟩ := hcell.out w1 hB1.out; obtain ⟨e0', e1'⟩ := hqc2.out w1 hB1.out)
                go_quiet (fail)
                go_wp2
                go_roundw
                case rel => exact ⟨i + 1, (i : Int) + 1, by omega, rfl, by omega, hm2, Hid.mk' (below_drewN hB1.out nq)⟩
                case measure => simp [intOf]; omega
              · have hz' : (0 : Int) < (nx : Int) := by omega
                rcases (show t = 0 ∨ t = 1 by omega) with ht0 | ht1
                · have ht0a : ((t : Int) == 1) = false := by simp; omega
                  have ht0b : ¬ (t : Int) = 1 := by omega
                  have ht0c : decide ((t : Int) = 1) = false := by simpa using ht0b
                  have HT0 := Hid.mk' ht0
                  clear ht0
                  by_cases hsv : c.served < (x.q.id : Int)
                  · have hy := Hid.mk' (hyes.out hz (Or.inr hsv))
                    clear hno hyes
                    go_wp2_with (go_at_call 75; with_reducible refine hcx.out.mono ?_; rintro e w1 ⟨r, rfl, hB1⟩; obtain ⟨d2', d4', d5', g4', g5'⟩ := hcell.out w1 hB1.out; obtain ⟨e0', e1'⟩ := hqc2.out w1 hB1.out)
                    go_quiet (fail)
                    go_wp2
                    go_ret
                    exact Or.inr (Or.inl ⟨hl.out, x, HX.out, hy.out, rfl, hfin2.out (w1.drewN nq) x (below_drewN hB1.out nq)⟩)
                  · have hm2 := Hid.mk' (hno.out (fun h => by have := HT0.out; rcases h.2 with h | h; omega; exact hsv h))
                    have hsv2 : decide (c.served < (x.q.id : Int)) = false := by simpa using hsv
                    clear hno hyes
                    go_wp2_with (go_at_call 75; with_reducible refine hcx.out.mono ?_; rintro e w1 ⟨r, rfl, hB1⟩; obtain ⟨d2', d4', d5', g4', g5'⟩ := hcell.out w1 hB1.out; obtain ⟨e0', e1'⟩ := hqc2.out w1 hB1.out)
                    go_quiet (fail)
                    go_wp2
                    go_roundw
                    case rel => exact ⟨i + 1, (i : Int) + 1, by omega, rfl, by omega, hm2, Hid.mk' (below_drewN hB1.out nq)⟩
                    case measure => simp [intOf]; omega
                · subst ht1
                  have hy := Hid.mk' (hyes.out hz (Or.inl rfl))
                  clear hno hyes
                  go_wp2_with (go_at_call 75; with_reducible refine hcx.out.mono ?_; rintro e w1 ⟨r, rfl, hB1⟩; obtain ⟨d2', d4', d5', g4', g5'⟩ := hcell.out w1 hB1.out; obtain ⟨e0', e1'⟩ := hqc2.out w1 hB1.out)
                  go_quiet (fail)
                  go_wp2
                  go_ret
                  exact Or.inr (Or.inl ⟨hl.out, x, HX.out, hy.out, rfl, hfin2.out (w1.drewN nq) x (below_drewN hB1.out nq)⟩)
            · have h1' : Hid (1 ≤ t + 1 → ∀ x ∈ c.cs, 0 < N x → ¬ c.served < (x.q.id : Int)) := by
                intro _ x hx hp hs
                obtain ⟨j, hj, rfl⟩ := List.getElem_of_mem hx
                exact hm.out j hj (by omega) hp (Or.inr hs)
              have h2' : Hid (2 ≤ t + 1 → ∀ x ∈ c.cs, ¬ 0 < N x) := by
                intro h3 x hx hp
                obtain ⟨j, hj, rfl⟩ := List.getElem_of_mem hx
                exact hm.out j hj (by omega) hp (Or.inl (by omega))
              clear h1 h2 hm
              go_wp2
              first
                | (refine ⟨⟨t + 1, (t : Int) + 1, by omega, rfl, by omega, h1', h2', hBi⟩, ?_⟩
                   simp [intOf]; omega)
                | (go_roundw
                   case rel => exact ⟨t + 1, (t : Int) + 1, by omega, rfl, by omega, h1', h2', hBi⟩
                   case measure => simp [intOf]; omega)
        · have ht2' : ¬ (t : Int) < 2 := by omega
          have hnn : nextR c.abs = none := by
            have hall := h2.out (by omega)
            rw [hnext.out]
            have hf : c.cs.find? (fun x => decide (0 < N x) && decide (c.served < (x.q.id : Int))) = none := by
              rw [List.find?_eq_none]
              intro x hx
              have := hall x hx
              simp [this]
            have hf2 : c.cs.find? (fun x => decide (0 < N x)) = none := by
              rw [List.find?_eq_none]
              intro x hx
              have := hall x hx
              simp [this]
            rw [hf, hf2]; rfl
          have HN := Hid.mk' hnn
          clear hnn
          go_wp2
          go_ret
          exact Or.inr (Or.inr ⟨hl.out, HN.out, rfl, HRE.out wr hB.out, Fr.of_below _ hB.out⟩)
    case inr.inr =>
      have hxm := hmemf x0 hx0
      rw [hx0] at hfind
      simp only [Option.map_some] at hfind
      have i0 : w.cell? ⟨x0.qb, 0, none⟩ = some (.int .i64 x0.q.id) := by
        obtain ⟨k0, hk0, hkx⟩ := List.getElem_of_mem hxm
        obtain ⟨_, _, _, _, i0, _, _⟩ := hqcell.out w k0 (Below.refl _ _) hk0
        rw [hkx] at i0
        exact i0
      have hc0 := Hid.mk' (hcnt.out w x0 hxm (Below.refl _ _))
      rw [hN0] at hc0
      have hr2' : (c.row : Int) < 2 := by omega
      clear hx0 hxm
      go_wp2_with (first
        | (go_at_call 95; with_reducible refine hfind.out.mono ?_; rintro e w' ⟨rfl, hw⟩; replace hw := hw.symm; subst hw)
        | (go_at_call 75; with_reducible refine hc0.out.mono ?_; rintro e w1 ⟨r, rfl, hBc⟩))
      go_loopw [6] (fun tv wr => ∃ (t : Nat) (z : Int), z = t ∧ tv = .int .i64 z ∧ t ≤ 2 ∧ Hid (1 ≤ t → ∀ x ∈ c.cs, 0 < N x → ¬ c.served < (x.q.id : Int)) ∧ Hid (2 ≤ t → ∀ x ∈ c.cs, ¬ 0 < N x) ∧ Hid (Below w.heap.size w wr)) (fun tv _ => 2 - (intOf tv).toNat)
      case atStart => exact ⟨0, 0, rfl, rfl, by omega, Hid.mk' (fun h => by omega), Hid.mk' (fun h => by omega), hBc⟩
      case round =>
        obtain ⟨t, z, rfl, rfl, ht, h1, h2, hB⟩ := hrel
        by_cases ht2 : t < 2
        · have ht2' : (t : Int) < 2 := by omega
          go_wp2
          obtain ⟨wo, rfl⟩ : ∃ wo, wo = wr := ⟨wr, rfl⟩
          go_loopw [7] (fun iv wr => ∃ (i : Nat) (z : Int), z = i ∧ iv = .int .i64 z ∧ i ≤ c.cs.length ∧ Hid (∀ j, (hj : j < c.cs.length) → j < i → 0 < N c.cs[j] → ¬ (t = 1 ∨ c.served < (c.cs[j].q.id : Int))) ∧ Hid (Below w.heap.size w wr)) (fun iv _ => c.cs.length - (intOf iv).toNat)
          case atStart => exact ⟨0, 0, rfl, rfl, Nat.zero_le _, Hid.mk' (fun j hj h => by omega), hB⟩
          case round =>
            obtain ⟨i, z, rfl, rfl, hi, hm, hBi⟩ := hrel
            obtain ⟨d2, d4, d5, g4, g5⟩ := hcell.out wr hBi.out
            by_cases hlt : i < c.cs.length
            · obtain ⟨g, off, hqa, e0, e1, hg, hqb⟩ := hqcell.out wr i hBi.out hlt
              have hqc2 : Hid (∀ W, Below w.heap.size w W → W.cell? ⟨g, off + i, none⟩ = some (.pointer (some ⟨c.cs[i].qb, 0, none⟩)) ∧ W.cell? ⟨c.cs[i].qb, 0, none⟩ = some (.int .i64 c.cs[i].q.id)) := by
                intro W hb
                obtain ⟨g', off', hq', e0', e1', _⟩ := hqcell.out W i hb hlt
                rw [hqa] at hq'
                cases hq'
                exact ⟨e0', e1'⟩
              subst hqa
              have hxm : c.cs[i] ∈ c.cs := List.getElem_mem hlt
              have hcx := Hid.mk' (hcnt.out wr c.cs[i] hxm hBi.out)
              have hno : Hid (¬ (0 < N c.cs[i] ∧ (t = 1 ∨ c.served < (c.cs[i].q.id : Int))) → ∀ j, (hj : j < c.cs.length) → j < i + 1 → 0 < N c.cs[j] → ¬ (t = 1 ∨ c.served < (c.cs[j].q.id : Int))) := by
                intro h0 j hj hji hp
                rcases Nat.lt_or_ge j i with h3 | h3
                · exact hm.out j hj h3 hp
                · obtain rfl : j = i := by omega
                  exact fun h4 => h0 ⟨hp, h4⟩
              have hyes : Hid (0 < N c.cs[i] → (t = 1 ∨ c.served < (c.cs[i].q.id : Int)) → nextR c.abs = some c.cs[i].q) := by
                intro hp hor
                rw [hnext.out]
                rcases (show t = 0 ∨ t = 1 by omega) with ht0 | ht1
                · have hlt3 : c.served < (c.cs[i].q.id : Int) := by rcases hor with h | h; omega; exact h
                  have hf : c.cs.find? (fun x => decide (0 < N x) && decide (c.served < (x.q.id : Int))) = some c.cs[i] := by
                    rw [List.find?_eq_some_iff_getElem]
                    refine ⟨by simp [hp, hlt3], i, hlt, rfl, fun j hj => ?_⟩
                    by_cases hNj : 0 < N c.cs[j]
                    · have := hm.out j (by omega) hj hNj
                      have h5 : ¬ c.served < (c.cs[j].q.id : Int) := fun h => this (Or.inr h)
                      simp [h5]
                    · simp [hNj]
                  rw [hf]
                · have hf : c.cs.find? (fun x => decide (0 < N x) && decide (c.served < (x.q.id : Int))) = none := by
                    rw [List.find?_eq_none]
                    intro x hx
                    by_cases hNj : 0 < N x
                    · have := h1.out (by omega) x hx hNj
                      simp [this]
                    · simp [hNj]
                  have hf2 : c.cs.find? (fun x => decide (0 < N x)) = some c.cs[i] := by
                    rw [List.find?_eq_some_iff_getElem]
                    refine ⟨by simp [hp], i, hlt, rfl, fun j hj => ?_⟩
                    by_cases hNj : 0 < N c.cs[j]
                    · exact absurd (Or.inl ht1) (hm.out j (by omega) hj hNj)
                    · simp [hNj]
                  rw [hf, hf2]; rfl
              have hNx := hNl c.cs[i] hxm
              obtain ⟨x, hx⟩ : ∃ x, c.cs[i] = x := ⟨_, rfl⟩
              rw [hx] at e0 e1 hqb hcx hno hyes hqc2 hNx hxm
              have HX := Hid.mk' hxm
              clear hx hxm
              obtain ⟨nx, hnx⟩ : ∃ nx, N x = nx := ⟨_, rfl⟩
              rw [hnx] at hcx hno hyes hNx
              clear hnx
              rcases Nat.eq_zero_or_pos nx with hz | hz
              · subst hz
                have hm2 := Hid.mk' (hno.out (fun h => by omega))
                clear hno hyes
                go_wp2_with (go_at_call 75; with_reducible refine hcx.out.mono ?_; rintro e w1 ⟨r, rfl, hB1⟩; obtain ⟨d2', d4', d5', g4', g5'⟩ := hcell.out w1 hB1.out; obtain ⟨e0', e1'⟩ := hqc2.out w1 hB1.out)
                go_quiet (fail)
                go_wp2
                go_roundw
                case rel => exact ⟨i + 1, (i : Int) + 1, by omega, rfl, by omega, hm2, Hid.mk' (below_drewN hB1.out nq)⟩
                case measure => simp [intOf]; omega
              · have hz' : (0 : Int) < (nx : Int) := by omega
                rcases (show t = 0 ∨ t = 1 by omega) with ht0 | ht1
                · have ht0a : ((t : Int) == 1) = false := by simp; omega
                  have ht0b : ¬ (t : Int) = 1 := by omega
                  have ht0c : decide ((t : Int) = 1) = false := by simpa using ht0b
                  have HT0 := Hid.mk' ht0
                  clear ht0
                  by_cases hsv : c.served < (x.q.id : Int)
                  · have hy := Hid.mk' (hyes.out hz (Or.inr hsv))
                    clear hno hyes
                    go_wp2_with (go_at_call 75; with_reducible refine hcx.out.mono ?_; rintro e w1 ⟨r, rfl, hB1⟩; obtain ⟨d2', d4', d5', g4', g5'⟩ := hcell.out w1 hB1.out; obtain ⟨e0', e1'⟩ := hqc2.out w1 hB1.out)
                    go_quiet (fail)
                    go_wp2
                    go_ret
                    exact Or.inr (Or.inl ⟨hl.out, x, HX.out, hy.out, rfl, hfin2.out (w1.drewN nq) x (below_drewN hB1.out nq)⟩)
                  · have hm2 := Hid.mk' (hno.out (fun h => by have := HT0.out; rcases h.2 with h | h; omega; exact hsv h))
                    have hsv2 : decide (c.served < (x.q.id : Int)) = false := by simpa using hsv
                    clear hno hyes
                    go_wp2_with (go_at_call 75; with_reducible refine hcx.out.mono ?_; rintro e w1 ⟨r, rfl, hB1⟩; obtain ⟨d2', d4', d5', g4', g5'⟩ := hcell.out w1 hB1.out; obtain ⟨e0', e1'⟩ := hqc2.out w1 hB1.out)
                    go_quiet (fail)
                    go_wp2
                    go_roundw
                    case rel => exact ⟨i + 1, (i : Int) + 1, by omega, rfl, by omega, hm2, Hid.mk' (below_drewN hB1.out nq)⟩
                    case measure => simp [intOf]; omega
                · subst ht1
                  have hy := Hid.mk' (hyes.out hz (Or.inl rfl))
                  clear hno hyes
                  go_wp2_with (go_at_call 75; with_reducible refine hcx.out.mono ?_; rintro e w1 ⟨r, rfl, hB1⟩; obtain ⟨d2', d4', d5', g4', g5'⟩ := hcell.out w1 hB1.out; obtain ⟨e0', e1'⟩ := hqc2.out w1 hB1.out)
                  go_quiet (fail)
                  go_wp2
                  go_ret
                  exact Or.inr (Or.inl ⟨hl.out, x, HX.out, hy.out, rfl, hfin2.out (w1.drewN nq) x (below_drewN hB1.out nq)⟩)
            · have h1' : Hid (1 ≤ t + 1 → ∀ x ∈ c.cs, 0 < N x → ¬ c.served < (x.q.id : Int)) := by
                intro _ x hx hp hs
                obtain ⟨j, hj, rfl⟩ := List.getElem_of_mem hx
                exact hm.out j hj (by omega) hp (Or.inr hs)
              have h2' : Hid (2 ≤ t + 1 → ∀ x ∈ c.cs, ¬ 0 < N x) := by
                intro h3 x hx hp
                obtain ⟨j, hj, rfl⟩ := List.getElem_of_mem hx
                exact hm.out j hj (by omega) hp (Or.inl (by omega))
              clear h1 h2 hm
              go_wp2
              first
                | (refine ⟨⟨t + 1, (t : Int) + 1, by omega, rfl, by omega, h1', h2', hBi⟩, ?_⟩
                   simp [intOf]; omega)
                | (go_roundw
                   case rel => exact ⟨t + 1, (t : Int) + 1, by omega, rfl, by omega, h1', h2', hBi⟩
                   case measure => simp [intOf]; omega)
        · have ht2' : ¬ (t : Int) < 2 := by omega
          have hnn : nextR c.abs = none := by
            have hall := h2.out (by omega)
            rw [hnext.out]
            have hf : c.cs.find? (fun x => decide (0 < N x) && decide (c.served < (x.q.id : Int))) = none := by
              rw [List.find?_eq_none]
              intro x hx
              have := hall x hx
              simp [this]
            have hf2 : c.cs.find? (fun x => decide (0 < N x)) = none := by
              rw [List.find?_eq_none]
              intro x hx
              have := hall x hx
              simp [this]
            rw [hf, hf2]; rfl
          have HN := Hid.mk' hnn
          clear hnn
          go_wp2
          go_ret
          exact Or.inr (Or.inr ⟨hl.out, HN.out, rfl, HRE.out wr hB.out, Fr.of_below _ hB.out⟩)
end Go.Proofs.YtbgfannlfagoiaaGreatDoor
