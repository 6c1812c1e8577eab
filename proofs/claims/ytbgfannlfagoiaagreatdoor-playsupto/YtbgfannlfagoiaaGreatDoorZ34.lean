import Derived.Test.YtbgfannlfagoiaaGreatDoorZ32
import Derived.Test.YtbgfannlfagoiaaGreatDoorZ33
namespace Go.Proofs.YtbgfannlfagoiaaGreatDoor
open Go.RowKit Go.Lull
set_option linter.unusedVariables false

/-- What All hands back. -/
def RAllPost (w : World) (q : RQ) (M : Int) (e : Ending) (w' : World) : Prop :=
 ∃ a c O, e = .returned (.tuple #[.slice a O.length c, .int .i64 ((q.all M).runs.length : Int)]) ∧ O.map Prod.fst = (q.all M).found ∧ Below w.heap.size w w' ∧ MS w' (.slice a O.length c) O ∧ (∀ b ∈ (Value.slice a O.length c).ownBlock.toList ++ eblk (O.map fp), w.heap.size ≤ b) ∧ (∀ b, (Value.slice a O.length c).ownBlock = some b → b ∉ eblk (O.map fp))
set_option maxHeartbeats 1000000 in
theorem all_nil {w : World} {qb sb sc lc : Nat} {sa : Option Addr} {q : RQ} {M : Int} (h : QM w qb sb sc lc sa q) (h0 : q.seen = []) :
  Calls Tryz.prog 79 #[.pointer (some ⟨qb, 0, none⟩), .int .i64 M] w (RAllPost w q M) := by
 have c3 : w.cell? ⟨qb, 3, none⟩ = some (.slice sa 0 lc) := by rw [cell_of_row w qb 3 _ _ _ h.blk, h0]; rfl
 have hall : q.all M = ⟨q.id, q.st, q.wn, [], []⟩ := by unfold RQ.all; rw [h0]; exact passQ_nil M _ rfl
 have hfin : Hid (RAllPost w q M (.returned (.tuple #[.slice none 0 0, .int .i64 0])) w) := by
  unfold Hid RAllPost
  rw [hall]
  exact ⟨none, 0, [], rfl, rfl, Below.refl _ _, ⟨⟨rfl, Or.inl ⟨rfl, rfl⟩⟩, by simp⟩, by simp [eblk, Value.ownBlock], fun b hb => (by cases hb)⟩
 clear h h0 hall
 go_enter Tryz.func79, Tryz.ntmps79
 go_wp2
 refine wp_loop_rounds 1 ?_
 rw [rounds_succ]
 go_wp2
 refine wp_loop_rounds 1 ?_
 rw [rounds_succ]
 go_wp2
 go_ret2
 exact hfin.out
theorem all_any {w : World} {x : CR} {M : Int} (h : QR w x) (hq : RQok M x.q) (hlen : x.q.seen.length ≤ 1000000) :
  Calls Tryz.prog 79 #[.pointer (some ⟨x.qb, 0, none⟩), .int .i64 M] w (RAllPost w x.q M) := by
 by_cases h0 : x.q.seen = []
 ·exact all_nil h.qm h0
 ·have hm := h.qm
  obtain ⟨lb, e1, _⟩ := hm.seen 0 (List.length_pos_iff.2 h0)
  rw [e1] at hm
  exact all_loop hm hq hlen
set_option maxHeartbeats 1000000 in
theorem find_any {w : World} {rb : Nat} {c : RC} (h : RE w rb c) (n : Int) (hl : c.cs.length ≤ 1000) :
  Calls Tryz.prog 95 #[.pointer (some ⟨rb, 0, none⟩), .int .i64 n] w fun e w' => e = .returned (.pointer ((c.cs.find? (fun x => (x.q.id : Int) == n)).map (fun x => (⟨x.qb, 0, none⟩ : Addr)))) ∧ w' = w := by
 obtain ⟨qa, qc, hqv, _⟩ := h.qrow.form
 have c2 : w.cell? ⟨rb, 2, none⟩ = some (.slice qa c.cs.length qc) := by rw [cell_of_row w rb 2 _ _ _ h.blk]; simp [rCells, hqv]
 have hcell : Hid (∀ k, (hk : k < c.cs.length) → ∃ g off, qa = some ⟨g, off, none⟩ ∧ w.cell? ⟨g, off + k, none⟩ = some (.pointer (some ⟨c.cs[k].qb, 0, none⟩)) ∧ w.cell? ⟨c.cs[k].qb, 0, none⟩ = some (.int .i64 c.cs[k].q.id)) := by
  intro k hk
  have hr := h.qrow
  obtain ⟨g, off, cap, hv, _⟩ := row_some hr (by omega)
  rw [hv] at hr hqv
  refine ⟨g, off, (Value.slice.inj hqv).1.symm, ?_, ?_⟩
  ·rw [hr.cell k (by omega)]; simp [hk]
  ·rw [cell_of_row w _ 0 _ _ _ (h.qs _ (List.getElem_mem hk)).blk]; rfl
 have hyes : Hid (∀ k, (hk : k < c.cs.length) → (∀ j, (hj : j < c.cs.length) → j < k → (c.cs[j].q.id : Int) ≠ n) → (c.cs[k].q.id : Int) = n → c.cs.find? (fun x => (x.q.id : Int) == n) = some c.cs[k]) := by
  intro k hk h1 h2
  rw [List.find?_eq_some_iff_getElem]
  refine ⟨by simpa using h2, k, hk, rfl, fun j hj => ?_⟩
  have := h1 j (by omega) hj
  simpa using this
 have hno : Hid ((∀ j, (hj : j < c.cs.length) → (c.cs[j].q.id : Int) ≠ n) → c.cs.find? (fun x => (x.q.id : Int) == n) = none) := by
  intro h1
  rw [List.find?_eq_none]
  intro x hx
  obtain ⟨j, hj, rfl⟩ := List.getElem_of_mem hx
  have := h1 j hj
  simpa using this
 clear h hqv
 go_enter Tryz.func95, Tryz.ntmps95
 go_wp2
 go_loop [5] (fun iv => ∃ (k : Nat) (z : Int), z = k ∧ iv = .int .i64 z ∧ k ≤ c.cs.length ∧ Hid (∀ j, (hj : j < c.cs.length) → j < k → (c.cs[j].q.id : Int) ≠ n)) (fun iv => c.cs.length - (intOf iv).toNat)
 case atStart => exact ⟨0, 0, rfl, rfl, Nat.zero_le _, Hid.mk' (fun j hj h => by omega)⟩
 case round =>
  obtain ⟨k, z, rfl, rfl, hk, hmiss⟩ := hrel
  by_cases hlt : k < c.cs.length
  ·obtain ⟨g, off, rfl, d0, d1⟩ := hcell.out k hlt
   obtain ⟨x, hx⟩ : ∃ x, c.cs[k] = x := ⟨_, rfl⟩
   have hy := Hid.mk' (hyes.out k hlt hmiss.out)
   rw [hx] at d0 d1 hy
   have hm2 : Hid ((x.q.id : Int) ≠ n → ∀ j, (hj : j < c.cs.length) → j < k + 1 → (c.cs[j].q.id : Int) ≠ n) := by
    intro h0 j hj h1
    rcases Nat.lt_or_ge j k with h2 | h2
    ·exact hmiss.out j hj h2
    ·obtain rfl : j = k := by omega
     rw [hx]; exact h0
   clear hx
   by_cases hid : (x.q.id : Int) = n
   ·have hf := Hid.mk' (hy.out hid)
    clear hy hm2
    subst hid
    go_wp2
    go_ret
    rw [hf.out]
    exact ⟨rfl, rfl⟩
   ·have hn2 : ((x.q.id : Int) == n) = false := by simpa using hid
    have hm3 := Hid.mk' (hm2.out hid)
    clear hy hm2
    go_wp2
    go_round
    case rel => exact ⟨k + 1, (k : Int) + 1, by omega, rfl, by omega, hm3⟩
    case measure => simp [intOf]; omega
  ·have hf := Hid.mk' (hno.out (fun j hj => hmiss.out j hj (by omega)))
   go_wp2
   go_ret
   rw [hf.out]
   exact ⟨rfl, rfl⟩
end Go.Proofs.YtbgfannlfagoiaaGreatDoor

namespace Go.Proofs.YtbgfannlfagoiaaGreatDoor
open Go.RowKit Go.Lull
set_option linter.unusedVariables false

theorem find_abs (c : RC) (n : Int) : c.abs.qs.find? (fun q => (q.id : Int) == n) = (c.cs.find? (fun x => (x.q.id : Int) == n)).map (·.q) := by
 show (c.cs.map (·.q)).find? _ = _
 rw [List.find?_map]
 rfl
theorem all_len (q : RQ) (M : Int) : (q.all M).found.length + (q.all M).runs.length ≤ q.seen.length := by
 have h := SZk.pass (N := q.seen.length) (s := (q.seen, [(⟨q.id, q.st, q.wn, [], []⟩ : Qy)])) (wm := M) (by intro x hx; simp at hx; subst hx; simp)
 have h2 := h (q.all M) (by rw [pass_one]; simp [RQ.all])
 omega
set_option maxHeartbeats 1000000 in
theorem count_any {w : World} {rb n : Nat} {c : RC} (h : RE w rb c) (hr : RSok n c.abs) (hn : n ≤ 1000000) (k : Int) :
  Calls Tryz.prog 75 #[.pointer (some ⟨rb, 0, none⟩), .int .i64 k] w fun e w' => e = .returned (.tuple #[.int .i64 (waitE (eOf c.abs) k : Int), .int .i64 (runsE (eOf c.abs) k : Int)]) ∧ Below w.heap.size w w' := by
 have hcl : c.cs.length ≤ 10 := by have := hr.ql; simpa [RC.abs] using this
 have hf := find_any h k (by omega)
 have hmk := re_mark h hr.mne hr.m8
 rw [wait_sim, runs_sim, find_abs]
 cases hx : c.cs.find? (fun x => (x.q.id : Int) == k) with
 | none =>
  rw [hx] at hf
  simp only [Option.map_none] at hf ⊢
  have hf' := Hid.mk' hf
  clear h hr hf hmk hx
  go_enter Tryz.func75, Tryz.ntmps75
  go_wp2_with (go_at_call 95; with_reducible refine hf'.out.mono ?_; rintro e w' ⟨rfl, hw⟩; replace hw := hw.symm; subst hw)
  go_ret2
  exact ⟨rfl, Below.refl _ _⟩
 | some x =>
  rw [hx] at hf
  simp only [Option.map_some] at hf ⊢
  have hxm := List.mem_of_find?_eq_some hx
  have hq : RQok (markB c.marks) x.q := (hr.qs x.q (List.mem_map.2 ⟨x, hxm, rfl⟩)).1
  have hsl : x.q.seen.length ≤ 1000000 := by have := (hr.qs x.q (List.mem_map.2 ⟨x, hxm, rfl⟩)).2; omega
  have hall := Hid.mk' (all_any (h.qs x hxm) hq hsl)
  have hg : Hid (∀ w', Below w.heap.size w w' → w'.cell? ⟨x.qb, 4, none⟩ = some (.int .i64 x.q.gone)) := fun w' hb => by
   rw [cell_of_row w' _ 4 _ _ _ ((h.below hb).qs x hxm).blk]; rfl
  have hgone := hq.gone
  have hf' := Hid.mk' hf
  have hmk' := Hid.mk' hmk
  have habs : c.abs.marks = c.marks := rfl
  rw [habs]
  obtain ⟨FL, hFL⟩ : ∃ FL, (x.q.all (markB c.marks)).found = FL := ⟨_, rfl⟩
  obtain ⟨RL, hRL⟩ : ∃ RL, (x.q.all (markB c.marks)).runs.length = RL := ⟨_, rfl⟩
  have hcall : Hid (Calls Tryz.prog 79 #[.pointer (some ⟨x.qb, 0, none⟩), .int .i64 (markB c.marks)] w fun e w' => ∃ a cc, e = .returned (.tuple #[.slice a FL.length cc, .int .i64 (RL : Int)]) ∧ Hid (Below w.heap.size w w') ∧ w'.cell? ⟨x.qb, 4, none⟩ = some (.int .i64 x.q.gone)) := by
   refine hall.out.mono ?_
   rintro e w' ⟨a, cc, O, rfl, hO, hb, _⟩
   refine ⟨a, cc, ?_, hb, hg.out w' hb⟩
   rw [← hFL, ← hRL, ← hO]
   simp
  rw [hFL] at hgone ⊢
  rw [hRL]
  have hlen : FL.length ≤ 1000000 := by
   have h1 := all_len x.q (markB c.marks)
   rw [hFL] at h1
   omega
  have hsub : ((FL.length - x.q.gone : Nat) : Int) = (FL.length : Int) - (x.q.gone : Int) := by omega
  rw [hsub]
  clear h hr hf hmk hx hxm hq hall hg hFL hRL habs hsl
  go_enter Tryz.func75, Tryz.ntmps75
  go_wp2_with (first
   | (go_at_call 95; with_reducible refine hf'.out.mono ?_; rintro e w' ⟨rfl, hw⟩; replace hw := hw.symm; subst hw)
   | (go_at_call 74; with_reducible refine hmk'.out.mono ?_; rintro e w' ⟨rfl, hw⟩; replace hw := hw.symm; subst hw)
   | (go_at_call 79; with_reducible refine hcall.out.mono ?_; rintro e w1 ⟨a, cc, rfl, hb, hgc⟩))
  go_ret2
  exact ⟨rfl, hb.out⟩
end Go.Proofs.YtbgfannlfagoiaaGreatDoor
