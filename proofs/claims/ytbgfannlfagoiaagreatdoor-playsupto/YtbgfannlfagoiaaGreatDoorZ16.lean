import Derived.Test.YtbgfannlfagoiaaGreatDoorZ15
namespace Go.Proofs.YtbgfannlfagoiaaGreatDoor
open Go.RowKit Go.Lull
set_option linter.unusedVariables false

set_option maxHeartbeats 400000 in
theorem min_any (mb c : Nat) (ms : List Int) (w : World) (hn : 0 < ms.length) (hn8 : ms.length ≤ 8) (hc : ms.length ≤ c) (hm : ∀ i : Nat, (h : i < ms.length) → w.cell? ⟨mb, i, none⟩ = some (.int .i64 ms[i])) :
  Calls Tryz.prog 64 #[.slice (some ⟨mb, 0, none⟩) ms.length c] w fun e w' => e = .returned (.int .i64 (markB ms)) ∧ w' = w := by
 have hm0 := hm 0 hn
 have HM := Hid.mk' hm
 clear hm
 have h1 : Hid (markB (ms.take 1) = ms[0]) := by
  unfold Hid
  cases ms with
  | nil => cases hn
  | cons m r => rfl
 have hn1 : ¬ ms.length < 1 := by omega
 have hn2 : ¬ (ms.length : Int) < 1 := by omega
 go_enter Tryz.func64, Tryz.ntmps64
 go_wp2
 go_loop [3, 4] (fun m i => ∃ (k : Nat) (z : Int), 1 ≤ k ∧ k ≤ ms.length ∧ m = .int .i64 z ∧ Hid (z = markB (ms.take k)) ∧ i = .int .i64 k) (fun _ i => ms.length - (intOf i).toNat)
 case atStart => exact ⟨1, ms[0], Nat.le_refl _, hn, rfl, h1.out.symm, rfl⟩
 case round =>
  obtain ⟨k, z, hk1, hk, rfl, hz, rfl⟩ := hrel
  by_cases hlt : k < ms.length
  ·have hmk := HM.out k hlt
   have hs : Hid (markB (ms.take (k + 1)) = lessI z ms[k]) := by
    unfold Hid
    rw [List.take_succ_eq_append_getElem hlt, markB_snoc _ _ (by intro e; have := congrArg List.length e; rw [List.length_take] at this; simp only [List.length_nil] at this; omega), hz.out]
   by_cases hless : ms[k] < z
   ·have hs2 : Hid (ms[k] = markB (ms.take (k + 1))) := by unfold Hid; rw [hs.out, lessI, if_pos hless]
    have hnle : ¬ z ≤ ms[k] := by omega
    clear hs hz
    go_wp2
    go_round
    case rel => exact ⟨k + 1, ms[k], by omega, by omega, rfl, hs2, by go_num⟩
    case measure => simp [intOf]; omega
   ·have hs2 : Hid (z = markB (ms.take (k + 1))) := by unfold Hid; rw [hs.out, lessI, if_neg hless]
    have hle : z ≤ ms[k] := by omega
    clear hs hz
    go_wp2
    go_round
    case rel => exact ⟨k + 1, z, by omega, by omega, rfl, hs2, by go_num⟩
    case measure => simp [intOf]; omega
  ·have hz2 : Hid (z = markB ms) := by unfold Hid; rw [hz.out, List.take_of_length_le (by omega)]
   clear hz
   go_wp2
   go_ret
   exact ⟨ret_i hz2.out, rfl⟩

set_option maxHeartbeats 400000 in
theorem watermark_any (eb mb c : Nat) (ms : List Int) (w : World) (hs : w.cell? ⟨eb, 0, none⟩ = some (.pointer (some ⟨eb, 0, none⟩))) (h1 : w.cell? ⟨eb, 1, none⟩ = some (.slice (some ⟨mb, 0, none⟩) ms.length c)) (hn : 0 < ms.length) (hn8 : ms.length ≤ 8) (hc : ms.length ≤ c) (hm : ∀ i : Nat, (h : i < ms.length) → w.cell? ⟨mb, i, none⟩ = some (.int .i64 ms[i])) :
  Calls Tryz.prog 33 #[.pointer (some ⟨eb, 0, none⟩)] w fun e w' => e = .returned (.int .i64 (markB ms)) ∧ w' = w := by
 have hmade := made_yes eb w hs
 have hmin := min_any mb c ms w hn hn8 hc hm
 clear hm hs
 go_enter Tryz.func33, Tryz.ntmps33
 go_wp2_with (first | (go_at_call 39; refine hmade.mono ?_; rintro e w' ⟨rfl, rfl⟩) | (go_at_call 64; refine hmin.mono ?_; rintro e w' ⟨rfl, rfl⟩))
 go_ret
 exact ⟨rfl, rfl⟩
end Go.Proofs.YtbgfannlfagoiaaGreatDoor

namespace Go.Proofs.YtbgfannlfagoiaaGreatDoor
open Go.RowKit Go.Lull
set_option linter.unusedVariables false

set_option maxHeartbeats 400000 in
theorem find1_any (w : World) (qb nb : Nat) (c : CQ) (n : Int) (hQ : QY w qb c) (hb : w.cell? ⟨nb, 0, none⟩ = some (.int .i64 n)) :
  Calls Tryz.prog 92 #[.pointer (some ⟨qb, 0, none⟩), .pointer (some ⟨nb, 0, none⟩)] w fun e w' => e = .returned (.bool ((c.num : Int) == n)) ∧ ∃ k, w' = w.drewN k := by
 have hnum := Hid.mk' (fun k => number_any (w.drewN k) qb c (hQ.same (Nat.le_refl _) (fun _ _ => rfl)))
 clear hQ
 go_enter Tryz.func92, Tryz.ntmps92
 go_wp2
 go_quiet (first | (go_at_call 70; exact Calls.quiet_of_same (hnum.out _)))
 go_wp2
 go_ret
 exact ⟨rfl, nq, rfl⟩

def idxQ (n : Int) : List Nat → Nat → Int
 | [], _ => -1
 | x :: r, i => if ((x : Int) == n) = true then (i : Int) else idxQ n r (i + 1)

theorem idxQ_hit {n : Int} {x : Nat} {r : List Nat} {i : Nat} (h : ((x : Int) == n) = true) : idxQ n (x :: r) i = i := by simp only [idxQ, h, if_true]
theorem idxQ_miss {n : Int} {x : Nat} {r : List Nat} {i : Nat} (h : ((x : Int) == n) = false) : idxQ n (x :: r) i = idxQ n r (i + 1) := by simp [idxQ, h]

def ptrV (x : Nat × CQ) : Value := .pointer (some ⟨x.1, 0, none⟩)
theorem ptr_cell {w : World} {T g off cap : Nat} {qs : List (Nat × CQ)} (h : Row w T 1 (.slice (some ⟨g, off, none⟩) qs.length cap) qs.length (qs.map ptrV)) (k : Nat) (hk : k < qs.length) : w.cell? ⟨g, off + k, none⟩ = some (ptrV qs[k]) := by
 rw [h.cell k (by omega), List.getElem?_map]
 simp [hk]

set_option maxHeartbeats 1000000 in
theorem indexFunc_any (w : World) (v : Value) (nb : Nat) (qs : List (Nat × CQ)) (n : Int) (hq : ∀ x ∈ qs, QY w x.1 x.2) (hrow : Row w 122 1 v qs.length (qs.map ptrV)) (hn : qs.length ≤ 1000) (hb : w.cell? ⟨nb, 0, none⟩ = some (.int .i64 n)) :
  Calls Tryz.prog 91 #[v, .func (.func 92) #[] #[.pointer (some ⟨nb, 0, none⟩)]] w fun e w' => e = .returned (.int .i64 (idxQ n (qs.map (·.2.num)) 0)) ∧ ∃ k, w' = w.drewN k := by
 obtain ⟨va, vcap, rfl, hvc⟩ := hrow.form
 obtain ⟨R, hR⟩ : ∃ R, idxQ n (qs.map (·.2.num)) 0 = R := ⟨_, rfl⟩
 rw [hR]
 have h0 : Hid (R = idxQ n ((qs.map (·.2.num)).drop 0) 0) := hR.symm
 have HQ := Hid.mk' hq
 have HR := Hid.mk' hrow
 clear hq hrow hR
 go_enter Tryz.func91, Tryz.ntmps91
 go_wp2
 go_loopw [8] (fun i wr => ∃ (k q : Nat), i = .int .i64 k ∧ k ≤ qs.length ∧ Hid (R = idxQ n ((qs.map (·.2.num)).drop k) k) ∧ wr = w.drewN q) (fun i _ => qs.length - (intOf i).toNat)
 case atStart => exact ⟨0, 0, rfl, Nat.zero_le _, h0, rfl⟩
 case round =>
  obtain ⟨k, q, rfl, hk, hS, rfl⟩ := hrel
  by_cases hlt : k < qs.length
  ·obtain ⟨g, off, hva⟩ : ∃ g off, va = some ⟨g, off, none⟩ := by
    rcases HR.out.2 with ⟨e, h0⟩ | ⟨g, off, cap, cur, e, _⟩
    ·omega
    ·cases e; exact ⟨g, off, rfl⟩
   subst hva
   have hc : (w.drewN q).cell? ⟨g, off + k, none⟩ = some (.pointer (some ⟨qs[k].1, 0, none⟩)) := ptr_cell HR.out k hlt
   have hdrop : (qs.map (·.2.num)).drop k = qs[k].2.num :: (qs.map (·.2.num)).drop (k + 1) := by
    rw [List.drop_eq_getElem_cons (by simpa using hlt)]; simp
   rw [hdrop] at hS
   have hcall := Hid.mk' (find1_any (w.drewN q) qs[k].1 nb qs[k].2 n ((HQ.out qs[k] (List.getElem_mem hlt)).same (Nat.le_refl _) (fun _ _ => rfl)) hb)
   cases hh : ((qs[k].2.num : Int) == n) with
   | true =>
    rw [hh] at hcall
    have hS2 : Hid (R = k) := by unfold Hid; rw [hS.out, idxQ_hit hh]
    clear hS hh
    go_wp2_with (go_at_call 92; refine hcall.out.mono ?_; rintro e w2 ⟨rfl, q2, rfl⟩)
    go_ret
    exact ⟨ret_i hS2.out.symm, q + q2, by first | rfl | rw [World.drewN_drewN]⟩
   | false =>
    rw [hh] at hcall
    have hS2 : Hid (R = idxQ n ((qs.map (·.2.num)).drop (k + 1)) (k + 1)) := by unfold Hid; rw [hS.out, idxQ_miss hh]
    clear hS hh
    go_wp2_with (go_at_call 92; refine hcall.out.mono ?_; rintro e w2 ⟨rfl, q2, rfl⟩)
    go_roundw
    case rel => exact ⟨k + 1, q + q2, by go_num, by omega, hS2, by first | rfl | rw [World.drewN_drewN]⟩
    case measure => simp [intOf]; omega
  ·have hS2 : Hid (R = -1) := by
    unfold Hid
    rw [hS.out, List.drop_of_length_le (by simp; omega)]
    rfl
   clear hS
   go_wp2
   go_ret
   exact ⟨ret_i hS2.out.symm, q, rfl⟩
end Go.Proofs.YtbgfannlfagoiaaGreatDoor

namespace Go.Proofs.YtbgfannlfagoiaaGreatDoor
open Go.RowKit Go.Lull
set_option linter.unusedVariables false

/-- An Engine as it lies in memory. -/
structure CE where
 marks : List Int
 mg : Nat
 mc : Nat
 bv : Value
 buf : List Ev
 qv : Value
 qs : List (Nat × CQ)
 next : Nat
 tq : Nat
 tr : Nat
def CE.abs (c : CE) : En := ⟨c.marks, c.buf, c.qs.map (·.2.abs), c.next, c.tq, c.tr⟩
def eCells (eb : Nat) (c : CE) : Array Value := #[.pointer (some ⟨eb, 0, none⟩), .slice (some ⟨c.mg, 0, none⟩) c.marks.length c.mc, c.bv, c.qv, .int .i64 c.next, .int .i64 c.tq, .int .i64 c.tr]
def qsb (qs : List (Nat × CQ)) : List Nat := qs.flatMap (fun x => x.2.blocks x.1)
def CE.base (c : CE) (eb : Nat) : List Nat := c.bv.ownBlock.toList ++ (c.qv.ownBlock.toList ++ [eb, c.mg])
def CE.blocks (c : CE) (eb : Nat) : List Nat := c.base eb ++ qsb c.qs
structure EG (w : World) (eb : Nat) (c : CE) : Prop where
 blk : w.heap[eb]? = some (.cells (eCells eb c) 104 (0, 0))
 marks : w.ownsRow 0 3 1 (.slice (some ⟨c.mg, 0, none⟩) c.marks.length c.mc) c.marks.length (c.marks.map (fun m => Value.int .i64 m))
 m1 : 0 < c.marks.length
 m8 : c.marks.length ≤ 8
 buf : Row w 75 4 c.bv c.buf.length (c.buf.flatMap evC)
 qrow : Row w 122 1 c.qv c.qs.length (c.qs.map ptrV)
 qy : ∀ x ∈ c.qs, QY w x.1 x.2
 nd : (c.blocks eb).Nodup
 q10 : c.qs.length ≤ 10
 b60 : c.buf.length ≤ 60

section
variable {w w' : World} {eb : Nat} {c : CE}
theorem EG.lt (h : EG w eb c) : ∀ b ∈ c.blocks eb, b < w.heap.size := by
 intro b hb
 rcases List.mem_append.1 hb with hb | hb
 ·simp only [CE.base, List.mem_append, Option.mem_toList, List.mem_cons, List.not_mem_nil, or_false] at hb
  rcases hb with hb | hb | rfl | rfl
  ·exact h.buf.lt b hb
  ·exact h.qrow.lt b hb
  ·exact lt_of_block h.blk
  ·exact own_lt h.marks _ rfl
 ·obtain ⟨x, hx, hb⟩ := List.mem_flatMap.1 hb
  exact (h.qy x hx).lt b hb
theorem mem_qsb {qs : List (Nat × CQ)} {x : Nat × CQ} (hx : x ∈ qs) {b : Nat} (hb : b ∈ x.2.blocks x.1) : b ∈ qsb qs := List.mem_flatMap.2 ⟨x, hx, hb⟩
theorem EG.same (h : EG w eb c) (hz : w.heap.size ≤ w'.heap.size) (he : ∀ b ∈ c.blocks eb, w'.heap[b]? = w.heap[b]?) : EG w' eb c := by
 have hb : ∀ b ∈ c.base eb, w'.heap[b]? = w.heap[b]? := fun b hb => he b (List.mem_append_left _ hb)
 refine ⟨by rw [hb eb (by simp [CE.base])]; exact h.blk, ?_, h.m1, h.m8, h.buf.same (fun k hk => hb k (by simp [CE.base, hk])), h.qrow.same (fun k hk => hb k (by simp [CE.base, hk])), fun x hx => (h.qy x hx).same hz (fun b hb' => he b (List.mem_append_right _ (mem_qsb hx hb'))), h.nd, h.q10, h.b60⟩
 refine ⟨h.marks.1, ?_⟩
 rcases h.marks.2 with h2 | ⟨g, cap, cur, h1, h2, h3, h4⟩
 ·exact Or.inl h2
 ·refine Or.inr ⟨g, cap, cur, h1, h2, ?_, h4⟩
  cases h1
  rw [hb c.mg (by simp [CE.base])]; exact h3
theorem EG.fr {F : List Nat} (h : EG w eb c) (hf : Fr F w w') (hn : ∀ b ∈ F, b ∉ c.blocks eb) : EG w' eb c :=
 h.same hf.size (fun b hb => hf.block b (h.lt b hb) (fun hF => hn b hF hb))
theorem EG.below (h : EG w eb c) (hb : Below w.heap.size w w') : EG w' eb c := h.fr (Fr.of_below [] hb) (by simp)
theorem EG.drewN (h : EG w eb c) (q : Nat) : EG (w.drewN q) eb c := h.same (Nat.le_refl _) (fun _ _ => rfl)
theorem EG.self (h : EG w eb c) : w.cell? ⟨eb, 0, none⟩ = some (.pointer (some ⟨eb, 0, none⟩)) := by
 rw [cell_of_row w eb 0 _ _ _ h.blk]; rfl
theorem EG.mark (h : EG w eb c) : ∀ i : Nat, (hi : i < c.marks.length) → w.cell? ⟨c.mg, i, none⟩ = some (.int .i64 c.marks[i]) := by
 intro i hi
 rw [h.marks.cellAt i (by omega), List.getElem?_map]
 simp [hi]
theorem EG.mcap (h : EG w eb c) : c.marks.length ≤ c.mc := by
 rcases h.marks.2 with ⟨h, _⟩ | ⟨g, cap, cur, h1, _, _, h4, _⟩
 ·cases h
 ·cases h1; exact h4
end

theorem wm_eg (w : World) (eb : Nat) (c : CE) (h : EG w eb c) :
  Calls Tryz.prog 33 #[.pointer (some ⟨eb, 0, none⟩)] w fun e w' => e = .returned (.int .i64 (markB c.marks)) ∧ w' = w :=
 watermark_any eb c.mg c.mc c.marks w h.self (by rw [cell_of_row w eb 1 _ _ _ h.blk]; rfl) h.m1 h.m8 h.mcap h.mark

set_option maxHeartbeats 400000 in
theorem find_eg (w : World) (eb : Nat) (c : CE) (n : Int) (h : EG w eb c) :
  Calls Tryz.prog 62 #[.pointer (some ⟨eb, 0, none⟩), .int .i64 n] w fun e w' => e = .returned (.int .i64 (idxQ n (c.qs.map (·.2.num)) 0)) ∧ Below w.heap.size w w' := by
 have e3 := cell_of_row w eb 3 _ _ _ h.blk
 obtain ⟨a, cap, hv, _⟩ := h.qrow.form
 simp [eCells, hv] at e3
 have hb : Below w.heap.size w (w.alloc (.cells #[.int .i64 n] 3)) := (Below.refl _ _).alloc (Nat.le_refl _) _
 have h1 := h.below hb
 have hix := Hid.mk' (indexFunc_any (w.alloc (.cells #[.int .i64 n] 3)) _ w.heap.size c.qs n h1.qy h1.qrow (by have := h.q10; omega) (by rw [cell_of_row _ _ 0 _ _ _ (heap_alloc_new _ _)]; rfl))
 rw [hv] at hix
 have HB := Hid.mk' hb
 have hebl := lt_of_block h.blk
 clear h h1 hb hv
 go_enter Tryz.func62, Tryz.ntmps62
 go_wp2_with (go_at_call 91; refine hix.out.mono ?_; rintro e w' ⟨rfl, k, rfl⟩)
 go_ret
 exact ⟨rfl, below_drewN HB.out k⟩

/-- The place of a number. -/
def posQ (n : Int) : List (Nat × CQ) → Option Nat
 | [] => none
 | x :: r => if ((x.2.num : Int) == n) = true then some 0 else (posQ n r).map (· + 1)
theorem idxQ_pos (n : Int) : ∀ (qs : List (Nat × CQ)) (i : Nat), idxQ n (qs.map (·.2.num)) i = match posQ n qs with | none => -1 | some k => ((i + k : Nat) : Int)
 | [], i => rfl
 | x :: r, i => by
  rw [List.map_cons]
  cases hx : ((x.2.num : Int) == n) with
  | true => rw [idxQ_hit hx]; simp [posQ, hx]
  | false =>
   rw [idxQ_miss hx, idxQ_pos n r (i + 1)]
   simp only [posQ, hx, Bool.false_eq_true, if_false]
   cases posQ n r with
   | none => rfl
   | some k => show ((i + 1 + k : Nat) : Int) = ((i + (k + 1) : Nat) : Int); congr 1; omega
theorem posQ_lt {n : Int} : ∀ {qs : List (Nat × CQ)} {k : Nat}, posQ n qs = some k → k < qs.length
 | [], k, h => by cases h
 | x :: r, k, h => by
  unfold posQ at h
  split at h
  ·cases h; simp
  ·cases hr : posQ n r with
   | none => rw [hr] at h; cases h
   | some j => rw [hr] at h; cases h; have := posQ_lt hr; simp; omega
theorem find_pos (n : Int) : ∀ (qs : List (Nat × CQ)), (qs.map (·.2.abs)).find? (fun q => (q.num : Int) == n) = match posQ n qs with | none => none | some k => (qs[k]?).map (·.2.abs)
 | [] => rfl
 | x :: r => by
  rw [List.map_cons]
  cases hx : ((x.2.num : Int) == n) with
  | true =>
   rw [List.find?_cons_of_pos (by exact hx)]; simp [posQ, hx]
  | false =>
   rw [List.find?_cons_of_neg (by simpa [CQ.abs] using hx), find_pos n r]
   simp only [posQ, hx, Bool.false_eq_true, if_false]
   cases posQ n r with
   | none => rfl
   | some k => simp
theorem findE_pos (c : CE) (n : Int) : findE c.abs n = match posQ n c.qs with | none => none | some k => (c.qs[k]?).map (·.2.abs) := find_pos n c.qs

set_option maxHeartbeats 400000 in
theorem query_no (w : World) (eb : Nat) (c : CE) (n : Int) (h : EG w eb c) (hp : posQ n c.qs = none) :
  Calls Tryz.prog 67 #[.pointer (some ⟨eb, 0, none⟩), .int .i64 n] w fun e w' => e = .returned (.pointer none) ∧ Below w.heap.size w w' := by
 have hmade := made_yes eb w h.self
 have hfind := find_eg w eb c n h
 rw [idxQ_pos, hp] at hfind
 clear h hp
 go_enter Tryz.func67, Tryz.ntmps67
 go_wp2_with (first | (go_at_call 39; refine hmade.mono ?_; rintro e w' ⟨rfl, rfl⟩) | (go_at_call 62; refine hfind.mono ?_; rintro e w1 ⟨rfl, hb⟩))
 go_ret
 exact ⟨rfl, hb⟩
set_option maxHeartbeats 400000 in
theorem query_at (w : World) (eb : Nat) (c : CE) (n : Int) (k : Nat) (h : EG w eb c) (hp : posQ n c.qs = some k) (hk' : k < c.qs.length) :
  Calls Tryz.prog 67 #[.pointer (some ⟨eb, 0, none⟩), .int .i64 n] w fun e w' => e = .returned (.pointer (some ⟨c.qs[k].1, 0, none⟩)) ∧ Below w.heap.size w w' := by
 have hmade := made_yes eb w h.self
 have hfind := find_eg w eb c n h
 rw [idxQ_pos, hp] at hfind
 simp only [Nat.zero_add] at hfind
 obtain ⟨a, cap, hv, _⟩ := h.qrow.form
 have HE := Hid.mk' h
 have hq10 := h.q10
 obtain ⟨g, off, hva⟩ : ∃ g off, a = some ⟨g, off, none⟩ := by
  rcases h.qrow.2 with ⟨_, h0⟩ | ⟨g, off, cap, cur, e, _⟩
  ·omega
  ·rw [hv] at e; cases e; exact ⟨g, off, rfl⟩
 subst hva
 obtain ⟨qb, hqb⟩ : ∃ qb, c.qs[k].1 = qb := ⟨_, rfl⟩
 rw [hqb]
 have hcells : Hid (∀ w1, Below w.heap.size w w1 → w1.cell? ⟨eb, 3, none⟩ = some (.slice (some ⟨g, off, none⟩) c.qs.length cap) ∧ w1.cell? ⟨g, off + k, none⟩ = some (.pointer (some ⟨qb, 0, none⟩))) := by
  intro w1 hb
  have h4 := HE.out.below hb
  have e3 := cell_of_row w1 eb 3 _ _ _ h4.blk
  simp [eCells, hv] at e3
  have hr := h4.qrow
  rw [hv] at hr
  have := ptr_cell hr k hk'
  rw [ptrV, hqb] at this
  exact ⟨e3, this⟩
 have hge2 : (0 : Int) ≤ (k : Int) := by omega
 clear h hp hv HE hqb
 go_enter Tryz.func67, Tryz.ntmps67
 go_wp2_with (first | (go_at_call 39; refine hmade.mono ?_; rintro e w' ⟨rfl, rfl⟩) | (go_at_call 62; refine hfind.mono ?_; rintro e w1 ⟨rfl, hb⟩; obtain ⟨k1, k2⟩ := hcells.out w1 hb))
 go_ret
 exact ⟨rfl, hb⟩

set_option maxHeartbeats 400000 in
theorem runs_eg (w : World) (eb : Nat) (c : CE) (n : Int) (h : EG w eb c) :
  Calls Tryz.prog 76 #[.pointer (some ⟨eb, 0, none⟩), .int .i64 n] w fun e w' => e = .returned (.int .i64 (runsE c.abs n)) ∧ Below w.heap.size w w' := by
 unfold runsE
 rw [findE_pos]
 cases hp : posQ n c.qs with
 | none =>
  have hq := query_no w eb c n h hp
  clear h hp
  go_enter Tryz.func76, Tryz.ntmps76
  go_wp2_with (go_at_call 67; refine hq.mono ?_; rintro e w1 ⟨rfl, hb⟩)
  go_ret
  exact ⟨rfl, hb⟩
 | some k =>
  have hk := posQ_lt hp
  have hq := query_at w eb c n k h hp hk
  have hr := Hid.mk' (fun w1 (hb : Below w.heap.size w w1) => qruns_any w1 _ _ ((h.below hb).qy c.qs[k] (List.getElem_mem hk)))
  simp only [List.getElem?_eq_getElem hk, Option.map_some, CQ.abs, List.length_map]
  clear h hp
  go_enter Tryz.func76, Tryz.ntmps76
  go_wp2_with (first | (go_at_call 67; refine hq.mono ?_; rintro e w1 ⟨rfl, hb⟩) | (go_at_call 96; refine (hr.out _ hb).mono ?_; rintro e w2 ⟨rfl, rfl⟩))
  go_ret
  exact ⟨rfl, hb⟩
set_option maxHeartbeats 400000 in
theorem waiting_eg (w : World) (eb : Nat) (c : CE) (n : Int) (h : EG w eb c) :
  Calls Tryz.prog 77 #[.pointer (some ⟨eb, 0, none⟩), .int .i64 n] w fun e w' => e = .returned (.int .i64 (waitE c.abs n)) ∧ Below w.heap.size w w' := by
 unfold waitE
 rw [findE_pos]
 cases hp : posQ n c.qs with
 | none =>
  have hq := query_no w eb c n h hp
  clear h hp
  go_enter Tryz.func77, Tryz.ntmps77
  go_wp2_with (go_at_call 67; refine hq.mono ?_; rintro e w1 ⟨rfl, hb⟩)
  go_ret
  exact ⟨rfl, hb⟩
 | some k =>
  have hk := posQ_lt hp
  have hq := query_at w eb c n k h hp hk
  have hr := Hid.mk' (fun w1 (hb : Below w.heap.size w w1) => qwaiting_any w1 _ _ ((h.below hb).qy c.qs[k] (List.getElem_mem hk)))
  simp only [List.getElem?_eq_getElem hk, Option.map_some, CQ.abs, List.length_map]
  clear h hp
  go_enter Tryz.func77, Tryz.ntmps77
  go_wp2_with (first | (go_at_call 67; refine hq.mono ?_; rintro e w1 ⟨rfl, hb⟩) | (go_at_call 97; refine (hr.out _ hb).mono ?_; rintro e w2 ⟨rfl, rfl⟩))
  go_ret
  exact ⟨rfl, hb⟩
end Go.Proofs.YtbgfannlfagoiaaGreatDoor

namespace Go.Proofs.YtbgfannlfagoiaaGreatDoor
open Go.RowKit Go.Lull
set_option linter.unusedVariables false

theorem Tryz.infoPtr : (Tryz.prog.info? 122).map (fun i => (i.zero, i.size, i.bytes)) = some (some (.pointer none), 1, 8) := by kernel_rfl

/-- append of one pointer. -/
theorem append_ptr (w : World) {ops : Array Oper} {rest : List Oper} {o : Oper} {a : Act} {Q : Exit → Act → World → Prop} (hgd : o.guard = none) (s x : Operand)
  (ho : o.op = .call { callee := .builtin .append, args := #[s, x], argTypes := #[100, 100] })
  (v : Value) (n : Nat) (xs : List Value) (p : Option Addr) (hv : a.eval s = v) (hrow : Row w 122 1 v n xs)
  (hxv : a.eval x = .slice (some ⟨w.heap.size, 0, none⟩) 1 1) (hn : n ≤ 1000)
  (h : ∀ g off cap w', Row w' 122 1 (.slice (some ⟨g, off, none⟩) (n + 1) cap) (n + 1) (xs ++ [.pointer p]) → (w.alloc (.cells #[.pointer p] 122)).grownBy w' v.ownBlock → (v.ownBlock = some g ∨ g = w.heap.size + 1) → wpList Tryz.prog ops Q rest (a.put o.dst (.slice (some ⟨g, off, none⟩) (n + 1) cap)) w') :
  wpList Tryz.prog ops Q (o :: rest) a (w.alloc (.cells #[.pointer p] 122)) := by
 obtain ⟨i0, hi, hz0, hz1, hz2⟩ := info_parts Tryz.infoPtr
 refine wpList_append_row hgd s x 100 ho i0 _ 8 Tryz.underlying100 hi hz0 hz1 hz2 rfl hv (hrow.same (fun k hk => Below.heap_alloc _ _ _ (hrow.lt k hk))) 1 [.pointer p] _ hxv (Src.ofSlice _ Tryz.underlying100 _ 1 1 _ rfl ?_ (by simp [Value.oneCell'])) (by omega) (by unfold maxLen; omega) (by omega) ?_
 ·intro j u hj
  match j, hj with
  | 0, hj => simp at hj; subst hj; simp [Addr.add]
  | j + 1, hj => simp at hj
 ·intro g off cap w' h1 h2 h3
  exact h g off cap w' h1 h2 (h3.imp id (fun h => by rw [h]; simp))

/-- append of some pointers. -/
theorem append_ptrs (w : World) {ops : Array Oper} {rest : List Oper} {o : Oper} {a : Act} {Q : Exit → Act → World → Prop} (hgd : o.guard = none) (s x : Operand)
  (ho : o.op = .call { callee := .builtin .append, args := #[s, x], argTypes := #[100, 100] })
  (v : Value) (n : Nat) (xs : List Value) (hv : a.eval s = v) (hrow : Row w 122 1 v n xs) (xv : Value) (m : Nat) (news : List Value)
  (hxv : a.eval x = xv) (hs : Src Tryz.prog 1 100 xv m news w) (hm : 0 < m) (hn : n + m ≤ 1000)
  (h : ∀ g off cap w', Row w' 122 1 (.slice (some ⟨g, off, none⟩) (n + m) cap) (n + m) (xs ++ news) → w.grownBy w' v.ownBlock → (v.ownBlock = some g ∨ g = w.heap.size) → wpList Tryz.prog ops Q rest (a.put o.dst (.slice (some ⟨g, off, none⟩) (n + m) cap)) w') :
  wpList Tryz.prog ops Q (o :: rest) a w := by
 obtain ⟨i0, hi, hz0, hz1, hz2⟩ := info_parts Tryz.infoPtr
 exact wpList_append_row hgd s x 100 ho i0 _ 8 Tryz.underlying100 hi hz0 hz1 hz2 rfl hv hrow m news _ hxv hs hm (by unfold maxLen; omega) (by omega) h

theorem append_same (w : World) {ops : Array Oper} {rest : List Oper} {o : Oper} {a : Act} {Q : Exit → Act → World → Prop} (hgd : o.guard = none) (s x : Operand) (t : TypeId)
  (ho : o.op = .call { callee := .builtin .append, args := #[s, x], argTypes := #[t, t] }) (v xv : Value) (hv : a.eval s = v) (hxv : a.eval x = xv)
  (hr : ∀ ty, (Builtin.append_ #[t, t] ty #[v, xv]).run Tryz.prog w = .ok v w) (h : wpList Tryz.prog ops Q rest (a.put o.dst v) w) : wpList Tryz.prog ops Q (o :: rest) a w := by
 refine wpList_plain hgd fun K hK => ?_
 unfold Oper.wp execOp
 simp only [ho, resolve, invoke, builtin, Sem.run_bind, Sem.run_pure, Result.andThen_ok, List.map_toArray, List.map_cons, List.map_nil, hv, hxv, hr]
 exact hK _ _ h

def greatQ (n : Int) (x : Nat × CQ) : Bool := decide (n < (x.2.num : Int))
def orderQ (n : Int) (qs : List (Nat × CQ)) : List (Nat × CQ) := qs.filter (greatQ n) ++ qs.filter (fun x => !greatQ n x)

set_option maxRecDepth 8000 in
set_option maxHeartbeats 1000000 in
theorem behind_eg (w : World) (eb : Nat) (c : CE) (n : Int) (h : EG w eb c) :
  Calls Tryz.prog 69 #[.pointer (some ⟨eb, 0, none⟩), .int .i64 n] w fun e w' => ∃ v, e = .returned v ∧ Below w.heap.size w w' ∧ Row w' 122 1 v (orderQ n c.qs).length ((orderQ n c.qs).map ptrV) := by
 have e3 := cell_of_row w eb 3 _ _ _ h.blk
 obtain ⟨va, vcap, hv, _⟩ := h.qrow.form
 simp [eCells, hv] at e3
 have hq10 := h.q10
 have HE := Hid.mk' h
 have hebl := lt_of_block h.blk
 clear h
 go_enter Tryz.func69, Tryz.ntmps69
 go_wp2
 go_loopw [5, 6, 14] (fun gv ov i wr => ∃ (k : Nat) (gs os : List (Nat × CQ)), i = .int .i64 k ∧ k ≤ c.qs.length ∧ gs.length ≤ k ∧ os.length ≤ k ∧ Hid (gs = (c.qs.take k).filter (greatQ n)) ∧ Hid (os = (c.qs.take k).filter (fun x => !greatQ n x)) ∧ Hid (Below w.heap.size w wr) ∧ Hid (Row wr 122 1 gv gs.length (gs.map ptrV)) ∧ Hid (Row wr 122 1 ov os.length (os.map ptrV)) ∧ Hid (∀ b, gv.ownBlock = some b → w.heap.size ≤ b ∧ ov.ownBlock ≠ some b) ∧ Hid (∀ b, ov.ownBlock = some b → w.heap.size ≤ b)) (fun _ _ i _ => c.qs.length - (intOf i).toNat)
 case atStart => exact ⟨0, [], [], rfl, Nat.zero_le _, Nat.le_refl _, Nat.le_refl _, rfl, rfl, Below.refl _ _, ⟨rfl, Or.inl ⟨rfl, rfl⟩⟩, ⟨rfl, Or.inl ⟨rfl, rfl⟩⟩, (fun b hb => by cases hb), (fun b hb => by cases hb)⟩
 case round =>
  obtain ⟨k, gs, os, rfl, hk, hgl, hol, Hgs, Hos, HB, HG, HO, HGO, HOO⟩ := hrel
  by_cases hlt : k < c.qs.length
  ·obtain ⟨g, off, hva⟩ : ∃ g off, va = some ⟨g, off, none⟩ := by
    rcases HE.out.qrow.2 with ⟨_, h0⟩ | ⟨g, off, cap, cur, e, _⟩
    ·omega
    ·rw [hv] at e; cases e; exact ⟨g, off, rfl⟩
   subst hva
   have hEr := HE.out.below HB.out
   obtain ⟨⟨qb, cq⟩, hx⟩ : ∃ x, c.qs[k] = x := ⟨_, rfl⟩
   have hck : wr.cell? ⟨g, off + k, none⟩ = some (.pointer (some ⟨qb, 0, none⟩)) := by
    have hr := hEr.qrow
    rw [hv] at hr
    have := ptr_cell hr k hlt
    rw [hx] at this
    exact this
   have hnum : Hid (Calls Tryz.prog 70 #[.pointer (some ⟨qb, 0, none⟩)] wr fun e w' => e = .returned (.int .i64 cq.num) ∧ w' = wr) := by
    have := hEr.qy c.qs[k] (List.getElem_mem hlt)
    rw [hx] at this
    exact number_any wr qb cq this
   have htk : c.qs.take (k + 1) = c.qs.take k ++ [(qb, cq)] := by rw [List.take_succ_eq_append_getElem hlt, hx]
   obtain ⟨ga, gc, hgv, _⟩ := HG.out.form
   obtain ⟨oa, oc, hov, _⟩ := HO.out.form
   subst hgv
   subst hov
   have hsz := HB.out.size
   clear hEr
   by_cases hgt : n < (cq.num : Int)
   ·have hgr : greatQ n (qb, cq) = true := by simp [greatQ, hgt]
    have Hgs2 : Hid (gs ++ [(qb, cq)] = (c.qs.take (k + 1)).filter (greatQ n)) := by unfold Hid; rw [htk, List.filter_append, ← Hgs.out]; simp [hgr]
    have Hos2 : Hid (os = (c.qs.take (k + 1)).filter (fun x => !greatQ n x)) := by unfold Hid; rw [htk, List.filter_append, ← Hos.out]; simp [hgr]
    clear htk hgr
    go_wp2_with (first | (go_at_call 70; refine hnum.out.mono ?_; rintro e w2 ⟨rfl, rfl⟩) | (at_builtin; refine append_ptr _ rfl _ _ rfl (.slice ga gs.length gc) _ _ (some ⟨qb, 0, none⟩) rfl HG.out rfl (by omega) ?_))
    intro g2 off2 cap2 w2 h1 h2 h3
    have hB2 : Hid (Below w.heap.size w w2) := (HB.out.alloc hsz _).grown h2 (by simp; omega) (fun b hb => (HGO.out b hb).1)
    have hO2 : Hid (Row w2 122 1 (.slice oa os.length oc) os.length (os.map ptrV)) := HO.out.same (fun b hb => by
     rw [h2.block b (by have := HO.out.lt b hb; simp; omega) (fun e => (HGO.out b e.symm).2 hb)]
     exact Below.heap_alloc _ _ _ (HO.out.lt b hb))
    have hGO2 : Hid (∀ b, (Value.slice (some ⟨g2, off2, none⟩) (gs.length + 1) cap2).ownBlock = some b → w.heap.size ≤ b ∧ (Value.slice oa os.length oc).ownBlock ≠ some b) := by
     intro b hb
     obtain rfl : g2 = b := Option.some.inj hb
     rcases h3 with h3 | h3
     ·exact HGO.out g2 h3
     ·refine ⟨by omega, fun e => ?_⟩
      have := HO.out.lt g2 e
      omega
    have hG2 : Hid (Row w2 122 1 (.slice (some ⟨g2, off2, none⟩) (gs.length + 1) cap2) (gs ++ [(qb, cq)]).length ((gs ++ [(qb, cq)]).map ptrV)) := by
     unfold Hid
     rw [List.length_append, List.map_append]
     exact h1
    clear h1 h2 h3
    go_wp2
    go_roundw
    case rel => exact ⟨k + 1, gs ++ [(qb, cq)], os, by go_num, by omega, by simp; omega, by omega, Hgs2, Hos2, hB2, hG2, hO2, hGO2, HOO⟩
    case measure => simp [intOf]; omega
   ·have hgr : greatQ n (qb, cq) = false := by simp [greatQ]; omega
    have Hgs2 : Hid (gs = (c.qs.take (k + 1)).filter (greatQ n)) := by unfold Hid; rw [htk, List.filter_append, ← Hgs.out]; simp [hgr]
    have Hos2 : Hid (os ++ [(qb, cq)] = (c.qs.take (k + 1)).filter (fun x => !greatQ n x)) := by unfold Hid; rw [htk, List.filter_append, ← Hos.out]; simp [hgr]
    clear htk hgr
    go_wp2_with (first | (go_at_call 70; refine hnum.out.mono ?_; rintro e w2 ⟨rfl, rfl⟩) | (at_builtin; refine append_ptr _ rfl _ _ rfl (.slice oa os.length oc) _ _ (some ⟨qb, 0, none⟩) rfl HO.out rfl (by omega) ?_))
    intro g2 off2 cap2 w2 h1 h2 h3
    have hB2 : Hid (Below w.heap.size w w2) := (HB.out.alloc hsz _).grown h2 (by simp; omega) (fun b hb => HOO.out b hb)
    have hG2 : Hid (Row w2 122 1 (.slice ga gs.length gc) gs.length (gs.map ptrV)) := HG.out.same (fun b hb => by
     rw [h2.block b (by have := HG.out.lt b hb; simp; omega) (fun e => (HGO.out b hb).2 e.symm)]
     exact Below.heap_alloc _ _ _ (HG.out.lt b hb))
    have hGO2 : Hid (∀ b, (Value.slice ga gs.length gc).ownBlock = some b → w.heap.size ≤ b ∧ (Value.slice (some ⟨g2, off2, none⟩) (os.length + 1) cap2).ownBlock ≠ some b) := by
     intro b hb
     refine ⟨(HGO.out b hb).1, fun e => ?_⟩
     obtain rfl : g2 = b := Option.some.inj e
     rcases h3 with h3 | h3
     ·exact (HGO.out g2 hb).2 h3
     ·have := HG.out.lt g2 hb
      omega
    have hOO2 : Hid (∀ b, (Value.slice (some ⟨g2, off2, none⟩) (os.length + 1) cap2).ownBlock = some b → w.heap.size ≤ b) := by
     intro b hb
     obtain rfl : g2 = b := Option.some.inj hb
     rcases h3 with h3 | h3
     ·exact HOO.out g2 h3
     ·omega
    have hO2 : Hid (Row w2 122 1 (.slice (some ⟨g2, off2, none⟩) (os.length + 1) cap2) (os ++ [(qb, cq)]).length ((os ++ [(qb, cq)]).map ptrV)) := by
     unfold Hid
     rw [List.length_append, List.map_append]
     exact h1
    clear h1 h2 h3
    go_wp2
    go_roundw
    case rel => exact ⟨k + 1, gs, os ++ [(qb, cq)], by go_num, by omega, by omega, by simp; omega, Hgs2, Hos2, hB2, hG2, hO2, hGO2, hOO2⟩
    case measure => simp [intOf]; omega
  ·have hk2 : k = c.qs.length := by omega
   have Hgs2 : Hid (c.qs.filter (greatQ n) = gs) := by unfold Hid; rw [Hgs.out, List.take_of_length_le (by omega)]
   have Hos2 : Hid (c.qs.filter (fun x => !greatQ n x) = os) := by unfold Hid; rw [Hos.out, List.take_of_length_le (by omega)]
   have hord : Hid (orderQ n c.qs = gs ++ os) := by unfold Hid orderQ; rw [Hgs2.out, Hos2.out]
   obtain ⟨ga, gc, hgv, _⟩ := HG.out.form
   obtain ⟨oa, oc, hov, _⟩ := HO.out.form
   subst hgv
   subst hov
   by_cases ho0 : os = []
   ·subst ho0
    have hrun : ∀ ty, (Builtin.append_ #[100, 100] ty #[.slice ga gs.length gc, .slice oa 0 oc]).run Tryz.prog wr = .ok (.slice ga gs.length gc) wr := by
     intro ty
     obtain ⟨i0, hi, _, hz1, _⟩ := info_parts Tryz.infoPtr
     refine run_append_nothing wr 100 100 ty 122 i0 Tryz.underlying100 hi ga gs.length gc (by assumption) _ ?_
     rcases HO.out.2 with ⟨e, _⟩ | ⟨g, off, cap, cur, e, _⟩
     ·cases e; exact Src.ofNil _ Tryz.underlying100 _
     ·cases e; exact Src.ofSlice _ Tryz.underlying100 _ 0 _ [] (by simp) (by simp) (by simp)
    have hfin : Hid (Row wr 122 1 (.slice ga gs.length gc) (orderQ n c.qs).length ((orderQ n c.qs).map ptrV)) := by
     unfold Hid; rw [hord.out]; simpa using HG.out
    have HRUN := Hid.mk' hrun
    clear hrun
    go_wp2_with (at_builtin; refine append_same _ rfl _ _ _ rfl (.slice ga gs.length gc) (.slice oa 0 oc) rfl rfl HRUN.out ?_)
    go_ret
    exact ⟨_, rfl, HB.out, hfin.out⟩
   ·have hop : 0 < os.length := List.length_pos_iff.2 ho0
    obtain ⟨g, off, hoa⟩ : ∃ g off, oa = some ⟨g, off, none⟩ := by
     rcases HO.out.2 with ⟨_, h0⟩ | ⟨g, off, cap, cur, e, _⟩
     ·omega
     ·cases e; exact ⟨g, off, rfl⟩
    subst hoa
    have hsrc : Hid (Src Tryz.prog 1 100 (.slice (some ⟨g, off, none⟩) os.length oc) os.length (os.map ptrV) wr) := by
     refine Src.ofSlice _ Tryz.underlying100 _ _ _ _ (by simp) ?_ ?_
     ·intro j u hj
      rw [Go.WideShapes.add_plain]
      have hjl : j < os.length := by have := (List.getElem?_eq_some_iff.1 hj).1; simpa using this
      rw [ptr_cell HO.out j hjl]
      rw [List.getElem?_map, List.getElem?_eq_getElem hjl] at hj
      exact hj
     ·intro u hu
      obtain ⟨x, _, rfl⟩ := List.mem_map.1 hu
      rfl
    go_wp2_with (at_builtin; refine append_ptrs _ rfl _ _ rfl (.slice ga gs.length gc) gs.length _ rfl HG.out _ os.length _ rfl hsrc.out hop (by omega) ?_)
    intro g2 off2 cap2 w2 h1 h2 h3
    have hfin : Hid (Row w2 122 1 (.slice (some ⟨g2, off2, none⟩) (gs.length + os.length) cap2) (orderQ n c.qs).length ((orderQ n c.qs).map ptrV)) := by
     unfold Hid; rw [hord.out, List.length_append, List.map_append]; exact h1
    have hB2 : Hid (Below w.heap.size w w2) := HB.out.grown h2 HB.out.size (fun b hb => (HGO.out b hb).1)
    clear h1 h2 h3
    go_wp2
    go_ret
    exact ⟨_, rfl, hB2.out, hfin.out⟩
end Go.Proofs.YtbgfannlfagoiaaGreatDoor
