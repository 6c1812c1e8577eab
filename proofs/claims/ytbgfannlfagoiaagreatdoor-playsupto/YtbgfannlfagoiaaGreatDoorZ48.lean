import Derived.Test.YtbgfannlfagoiaaGreatDoorZ46
import Derived.Test.YtbgfannlfagoiaaGreatDoorZ47
namespace Go.Proofs.YtbgfannlfagoiaaGreatDoor
open Go.RowKit Go.Lull
set_option linter.unusedVariables false

/-- A step of a script, and where its lists lie. -/
structure OpD where
 kind : Int
 k : Int
 a : Int
 b : Int
 tad : Option Addr
 tb : Nat
 toff : Nat
 tcap : Nat
 ss : List ByteArray
 ea : Option Addr
 ecap : Nat
 l : List Ev
def OpD.cells (o : OpD) : Array Value := #[.int .i64 o.kind, .int .i64 o.k, .int .i64 o.a, .int .i64 o.b, .slice o.tad o.ss.length o.tcap, .slice o.ea o.l.length o.ecap]
structure OpOK (w0 : World) (o : OpD) : Prop where
 tx : TX w0 o.tad o.tb o.toff o.ss
 tl : o.ss.length ≤ 1048576
 tc : o.ss.length ≤ o.tcap
 row : ES w0 (.slice o.ea o.l.length o.ecap) o.l
/-- What a step leaves. -/
def StepPost (N bb eb rb n : Nat) (w0 : World) (c : RC) (e : Ending) (w' : World) : Prop := e = .returned (.bool true) ∧ ∃ ck, BO N bb eb rb n w0 ck w' ∧ ck.next ≤ c.next + 10
section
variable {N bb eb rb n : Nat} {w0 w : World} {c : RC} {kk a b : Int} {tad ea : Option Addr} {tcap ecap tn en : Nat}
/-- Behind the box. -/
theorem BO.box (h : BO N bb eb rb n w0 c w) (hN : N = w0.heap.size) (o : Obj) : BO N bb eb rb n w0 c (w.alloc o) ∧ At N eb w0 (eOf c.abs) (bb :: c.blocks rb ++ [w.heap.size]) (w.alloc o) ∧ w.heap.size ∉ c.blocks rb := by
 have hN' : N ≤ w0.heap.size := by omega
 have hb : Below w.heap.size w (w.alloc o) := (Below.refl _ _).alloc (Nat.le_refl _) _
 exact ⟨h.then hN' hb, (h.at_.new (G := [w.heap.size]) hN' hb (by simp)).1, fun hm => by have := h.re.lt _ hm; omega⟩
set_option maxHeartbeats 1000000 in
theorem step_1 (h : BO N bb eb rb n w0 c w) (hN : N = w0.heap.size) {m : Int} (hm : w0.cell? ⟨0, 0, none⟩ = some (.int .i64 m)) {tb toff : Nat} {ss : List ByteArray} (hX : TX w0 tad tb toff ss) (hlen : ss.length ≤ 1048576) (hcap : ss.length ≤ tcap) (hnx : c.next ≤ 1000000000) :
  Calls Tryz.prog 19 #[.pointer (some ⟨bb, 0, none⟩), .agg #[.int .i64 1, .int .i64 kk, .int .i64 a, .int .i64 b, .slice tad ss.length tcap, .slice ea en ecap]] w (StepPost N bb eb rb n w0 c) := by
 have hcall : Hid (∀ W, Below w.heap.size w W → Calls Tryz.prog 41 #[.pointer (some ⟨bb, 0, none⟩), .slice tad ss.length tcap] W fun e W' => ∃ v, e = .returned (.tuple #[v, .bool true]) ∧ Hid (∃ ck, BO N bb eb rb n w0 ck W' ∧ ck.next ≤ c.next + 10)) := fun W hb => registered_bo (h.then (by omega) hb) hN hm hX hlen hcap hnx
 clear h hX hm
 go_enter Tryz.func19, Tryz.ntmps19
 go_wp2_with (go_at_call 41; refine (hcall.out _ (by repeat (first | exact Below.refl _ _ | refine Below.alloc ?_ (by simp) _ | apply Below.drew))).mono ?_; rintro e w1 ⟨v, rfl, hB⟩)
 go_ret
 exact ⟨rfl, hB.out⟩
set_option maxHeartbeats 1000000 in
theorem step_3 (h : BO N bb eb rb n w0 c w) (hN : N = w0.heap.size) {l : List Ev} (hrow : ES w0 (.slice ea l.length ecap) l) (hl : l.length ≤ 1000000) :
  Calls Tryz.prog 19 #[.pointer (some ⟨bb, 0, none⟩), .agg #[.int .i64 3, .int .i64 kk, .int .i64 a, .int .i64 b, .slice tad tn tcap, .slice ea l.length ecap]] w (StepPost N bb eb rb (n + l.length) w0 c) := by
 have hcall : Hid (∀ W, Below w.heap.size w W → Calls Tryz.prog 43 #[.pointer (some ⟨bb, 0, none⟩), .slice ea l.length ecap] W fun e W' => e = .returned (.bool true) ∧ Hid (∃ ck, BO N bb eb rb (n + l.length) w0 ck W' ∧ ck.next = c.next)) := fun W hb => offered_bo (h.then (by omega) hb) hN hrow hl
 clear h hrow
 go_enter Tryz.func19, Tryz.ntmps19
 go_wp2_with (go_at_call 43; refine (hcall.out _ (by repeat (first | exact Below.refl _ _ | refine Below.alloc ?_ (by simp) _ | apply Below.drew))).mono ?_; rintro e w1 ⟨rfl, hB⟩)
 go_ret
 obtain ⟨ck, h1, h2⟩ := hB.out
 exact ⟨rfl, ck, h1, by omega⟩
set_option maxHeartbeats 1000000 in
theorem step_5 (h : BO N bb eb rb n w0 c w) (hN : N = w0.heap.size) (hn : n ≤ 1000000) :
  Calls Tryz.prog 19 #[.pointer (some ⟨bb, 0, none⟩), .agg #[.int .i64 5, .int .i64 kk, .int .i64 a, .int .i64 b, .slice tad tn tcap, .slice ea en ecap]] w (StepPost N bb eb rb n w0 c) := by
 have hcall : Hid (∀ W, Below w.heap.size w W → Calls Tryz.prog 20 #[.pointer (some ⟨bb, 0, none⟩), .int .i64 a] W fun e W' => ∃ v, e = .returned (.tuple #[v, .bool true]) ∧ Hid (∃ ck, BO N bb eb rb n w0 ck W' ∧ ck.next = c.next)) := fun W hb => drained_bo (h.then (by omega) hb) hN hn a
 clear h
 go_enter Tryz.func19, Tryz.ntmps19
 go_wp2_with (go_at_call 20; refine (hcall.out _ (by repeat (first | exact Below.refl _ _ | refine Below.alloc ?_ (by simp) _ | apply Below.drew))).mono ?_; rintro e w1 ⟨v, rfl, hB⟩)
 go_ret
 obtain ⟨ck, h1, h2⟩ := hB.out
 exact ⟨rfl, ck, h1, by omega⟩
set_option maxHeartbeats 1000000 in
theorem step_6 (h : BO N bb eb rb n w0 c w) (hN : N = w0.heap.size) (hn : n ≤ 1000000) :
  Calls Tryz.prog 19 #[.pointer (some ⟨bb, 0, none⟩), .agg #[.int .i64 6, .int .i64 kk, .int .i64 a, .int .i64 b, .slice tad tn tcap, .slice ea en ecap]] w (StepPost N bb eb rb n w0 c) := by
 have hcall : Hid (∀ W, Below w.heap.size w W → Calls Tryz.prog 45 #[.pointer (some ⟨bb, 0, none⟩), .int .i64 a] W fun e W' => e = .returned (.bool true) ∧ Hid (BO N bb eb rb n w0 c W')) := fun W hb => counted_bo (h.then (by omega) hb) hN hn a
 clear h
 go_enter Tryz.func19, Tryz.ntmps19
 go_wp2_with (go_at_call 45; refine (hcall.out _ (by repeat (first | exact Below.refl _ _ | refine Below.alloc ?_ (by simp) _ | apply Below.drew))).mono ?_; rintro e w1 ⟨rfl, hB⟩)
 go_ret
 exact ⟨rfl, c, hB.out, by omega⟩
set_option maxHeartbeats 1000000 in
theorem step_else (h : BO N bb eb rb n w0 c w) (hN : N = w0.heap.size) (z : Int) (h1 : z ≠ 1) (h2 : z ≠ 2) (h3 : z ≠ 3) (h4 : z ≠ 4) (h5 : z ≠ 5) (h6 : z ≠ 6) :
  Calls Tryz.prog 19 #[.pointer (some ⟨bb, 0, none⟩), .agg #[.int .i64 z, .int .i64 kk, .int .i64 a, .int .i64 b, .slice tad tn tcap, .slice ea en ecap]] w (StepPost N bb eb rb n w0 c) := by
 have hfin := Hid.mk' (fun o => (h.box hN o).1)
 clear h
 go_enter Tryz.func19, Tryz.ntmps19
 go_wp2
 go_ret
 exact ⟨rfl, c, hfin.out _, by omega⟩
set_option maxRecDepth 8000 in
set_option maxHeartbeats 2000000 in
theorem step_2 (h : BO N bb eb rb n w0 c w) (hN : N = w0.heap.size) :
  Calls Tryz.prog 19 #[.pointer (some ⟨bb, 0, none⟩), .agg #[.int .i64 2, .int .i64 kk, .int .i64 a, .int .i64 b, .slice tad tn tcap, .slice ea en ecap]] w (StepPost N bb eb rb n w0 c) := by
 have hN' : N ≤ w0.heap.size := by omega
 obtain ⟨W0, hW0⟩ : ∃ W0, w.alloc (.cells #[.int .i64 2, .int .i64 kk, .int .i64 a, .int .i64 b, .slice tad tn tcap, .slice ea en ecap] 41) = W0 := ⟨_, rfl⟩
 obtain ⟨ob, hob⟩ : ∃ ob, w.heap.size = ob := ⟨_, rfl⟩
 have hbx : W0.heap[ob]? = some (.cells #[.int .i64 2, .int .i64 kk, .int .i64 a, .int .i64 b, .slice tad tn tcap, .slice ea en ecap] 41 (0, 0)) := by rw [← hW0, ← hob]; exact heap_alloc_new _ _
 obtain ⟨hB0, hA0, hobn⟩ := h.box hN (.cells #[.int .i64 2, .int .i64 kk, .int .i64 a, .int .i64 b, .slice tad tn tcap, .slice ea en ecap] 41)
 rw [hW0] at hB0
 rw [hW0, hob] at hA0
 rw [hob] at hobn
 have hcells : Hid (∀ W, Same (bb :: c.blocks rb ++ [ob]) W0 W → W.cell? ⟨bb, 0, none⟩ = some (.pointer (some ⟨eb, 0, none⟩)) ∧ W.cell? ⟨bb, 1, none⟩ = some (.pointer (some ⟨rb, 0, none⟩)) ∧ W.cell? ⟨ob, 2, none⟩ = some (.int .i64 a)) := by
  intro W hS
  have e1 : W.heap[bb]? = _ := (hS.2 bb (by simp)).trans hB0.both
  have e2 : W.heap[ob]? = _ := (hS.2 ob (by simp)).trans hbx
  exact ⟨by rw [cell_of_row W bb 0 _ _ _ e1]; rfl, by rw [cell_of_row W bb 1 _ _ _ e1]; rfl, by rw [cell_of_row W ob 2 _ _ _ e2]; rfl⟩
 obtain ⟨X, hX⟩ : ∃ X, (removeE (eOf c.abs) a).1 = X := ⟨_, rfl⟩
 have h1 : Hid (∀ W, Below W0.heap.size W0 W → Calls Tryz.prog 32 #[.pointer (some ⟨eb, 0, none⟩), .int .i64 a] W fun e W1 => e = .returned (.int .i64 (X : Int)) ∧ Hid (At N eb w0 (removeE (eOf c.abs) a).2 (bb :: c.blocks rb ++ [ob]) W1 ∧ Same (bb :: c.blocks rb ++ [ob]) W0 W1) ∧ W1.cell? ⟨bb, 0, none⟩ = some (.pointer (some ⟨eb, 0, none⟩)) ∧ W1.cell? ⟨bb, 1, none⟩ = some (.pointer (some ⟨rb, 0, none⟩)) ∧ W1.cell? ⟨ob, 2, none⟩ = some (.int .i64 a)) := by
  intro W hb
  obtain ⟨g1, g2⟩ := hA0.then hN' hb
  refine (at_remove g1 hN' (rok_nr hB0.ok)).mono ?_
  rintro e W1 ⟨rfl, g3, g4⟩
  exact ⟨by rw [hX], ⟨g3, g2.trans g4⟩, hcells.out W1 (g2.trans g4)⟩
 have h2 : Hid (∀ W1 W, (At N eb w0 (removeE (eOf c.abs) a).2 (bb :: c.blocks rb ++ [ob]) W1 ∧ Same (bb :: c.blocks rb ++ [ob]) W0 W1) → Below W1.heap.size W1 W → Calls Tryz.prog 42 #[.pointer (some ⟨rb, 0, none⟩), .int .i64 a] W fun e W2 => e = .returned (.int .i64 (X : Int)) ∧ Hid (∃ ck, BO N bb eb rb n w0 ck W2 ∧ ck.next ≤ c.next + 10) ∧ W2.cell? ⟨bb, 1, none⟩ = some (.pointer (some ⟨rb, 0, none⟩)) ∧ W2.cell? ⟨ob, 2, none⟩ = some (.int .i64 a)) := by
  rintro W1 W ⟨g1, g2⟩ hb
  obtain ⟨g3, g4⟩ := g1.then hN' hb
  have g5 := g2.trans g4
  have g6 : Same (bb :: c.blocks rb) W0 W := g5.sub (fun x hx => List.mem_append_left _ hx)
  refine (rremove_any (hB0.mid g6).1 hB0.ok a).mono ?_
  rintro e W2 ⟨ck, rfl, k1, k2, k3, k4⟩
  obtain ⟨hB, hK⟩ := hB0.next hN' g3 g6 (by simpa using hobn) k2 k4 k1 k3
  have e2 : W2.heap[ob]? = _ := (hK ob (by simp)).1.trans ((g5.2 ob (by simp)).trans hbx)
  refine ⟨by rw [hX], ⟨ck, hB, ?_⟩, hB.c1, by rw [cell_of_row W2 ob 2 _ _ _ e2]; rfl⟩
  have := remove_next (eOf c.abs) a
  rw [k1] at this
  have e3 : ck.next = c.next := this
  omega
 obtain ⟨d0, d1, d2⟩ := hcells.out W0 ⟨Nat.le_refl _, fun b hb => rfl⟩
 have dk : W0.cell? ⟨ob, 0, none⟩ = some (.int .i64 2) := by rw [cell_of_row W0 ob 0 _ _ _ hbx]; rfl
 have HB0 : Below W0.heap.size W0 W0 := Below.refl _ _
 clear h hX hbx hB0 hA0 hobn hcells
 go_enter Tryz.func19, Tryz.ntmps19
 go_wp2
 clear hW0 hob dk
 go_region_held3 (fun w' => w'.cell? ⟨bb, 0, none⟩ = some (.pointer (some ⟨eb, 0, none⟩)) ∧ w'.cell? ⟨ob, 2, none⟩ = some (.int .i64 a))
  (first | (refine ⟨?_, ?_⟩ <;> (repeat (first | assumption | apply drew_keep | apply alloc_keep))) | go_keep)
  (first | (go_at_call 32; refine (h1.out _ (by repeat (first | exact HB0 | apply Below.drew))).mono ?_; rintro e w1 ⟨rfl, hA1, c0, c1, c2⟩))
 clear d0 d1 d2 h1
 go_wp2
 go_region_held3 (fun w' => w'.cell? ⟨bb, 1, none⟩ = some (.pointer (some ⟨rb, 0, none⟩)) ∧ w'.cell? ⟨ob, 2, none⟩ = some (.int .i64 a))
  (first | (refine ⟨?_, ?_⟩ <;> (repeat (first | assumption | apply drew_keep | apply alloc_keep))) | go_keep)
  (first | (go_at_call 42; refine (h2.out w1 _ hA1.out (by repeat (first | exact Below.refl _ _ | apply Below.drew))).mono ?_; rintro e w2 ⟨rfl, hB2, e1, e2⟩))
 go_wp2_with go_in
 go_ret
 exact ⟨rfl, hB2.out⟩
set_option maxRecDepth 8000 in
set_option maxHeartbeats 2000000 in
theorem step_4 (h : BO N bb eb rb n w0 c w) (hN : N = w0.heap.size) (hn : n ≤ 1000000) :
  Calls Tryz.prog 19 #[.pointer (some ⟨bb, 0, none⟩), .agg #[.int .i64 4, .int .i64 kk, .int .i64 a, .int .i64 b, .slice tad tn tcap, .slice ea en ecap]] w (StepPost N bb eb rb n w0 c) := by
 have hN' : N ≤ w0.heap.size := by omega
 obtain ⟨W0, hW0⟩ : ∃ W0, w.alloc (.cells #[.int .i64 4, .int .i64 kk, .int .i64 a, .int .i64 b, .slice tad tn tcap, .slice ea en ecap] 41) = W0 := ⟨_, rfl⟩
 obtain ⟨ob, hob⟩ : ∃ ob, w.heap.size = ob := ⟨_, rfl⟩
 have hbx : W0.heap[ob]? = some (.cells #[.int .i64 4, .int .i64 kk, .int .i64 a, .int .i64 b, .slice tad tn tcap, .slice ea en ecap] 41 (0, 0)) := by rw [← hW0, ← hob]; exact heap_alloc_new _ _
 obtain ⟨hB0, hA0, hobn⟩ := h.box hN (.cells #[.int .i64 4, .int .i64 kk, .int .i64 a, .int .i64 b, .slice tad tn tcap, .slice ea en ecap] 41)
 rw [hW0] at hB0
 rw [hW0, hob] at hA0
 rw [hob] at hobn
 have hcells : Hid (∀ W, Same (bb :: c.blocks rb ++ [ob]) W0 W → W.cell? ⟨bb, 0, none⟩ = some (.pointer (some ⟨eb, 0, none⟩)) ∧ W.cell? ⟨bb, 1, none⟩ = some (.pointer (some ⟨rb, 0, none⟩)) ∧ W.cell? ⟨ob, 2, none⟩ = some (.int .i64 a) ∧ W.cell? ⟨ob, 3, none⟩ = some (.int .i64 b)) := by
  intro W hS
  have e1 : W.heap[bb]? = _ := (hS.2 bb (by simp)).trans hB0.both
  have e2 : W.heap[ob]? = _ := (hS.2 ob (by simp)).trans hbx
  exact ⟨by rw [cell_of_row W bb 0 _ _ _ e1]; rfl, by rw [cell_of_row W bb 1 _ _ _ e1]; rfl, by rw [cell_of_row W ob 2 _ _ _ e2]; rfl, by rw [cell_of_row W ob 3 _ _ _ e2]; rfl⟩
 obtain ⟨X, hX⟩ : ∃ X, (beatE (eOf c.abs) a b).1 = X := ⟨_, rfl⟩
 have h1 : Hid (∀ W, Below W0.heap.size W0 W → Calls Tryz.prog 31 #[.pointer (some ⟨eb, 0, none⟩), .int .i64 a, .int .i64 b] W fun e W1 => e = .returned (.int .i64 (X : Int)) ∧ Hid (At N eb w0 (beatE (eOf c.abs) a b).2 (bb :: c.blocks rb ++ [ob]) W1 ∧ Same (bb :: c.blocks rb ++ [ob]) W0 W1) ∧ W1.cell? ⟨bb, 0, none⟩ = some (.pointer (some ⟨eb, 0, none⟩)) ∧ W1.cell? ⟨bb, 1, none⟩ = some (.pointer (some ⟨rb, 0, none⟩)) ∧ W1.cell? ⟨ob, 2, none⟩ = some (.int .i64 a) ∧ W1.cell? ⟨ob, 3, none⟩ = some (.int .i64 b)) := by
  intro W hb
  obtain ⟨g1, g2⟩ := hA0.then hN' hb
  refine (at_beat g1 hN' (rok_tm hB0.ok) (rok_sz hB0.ok hn)).mono ?_
  rintro e W1 ⟨rfl, g3, g4⟩
  exact ⟨by rw [hX], ⟨g3, g2.trans g4⟩, hcells.out W1 (g2.trans g4)⟩
 have h2 : Hid (∀ W1 W, (At N eb w0 (beatE (eOf c.abs) a b).2 (bb :: c.blocks rb ++ [ob]) W1 ∧ Same (bb :: c.blocks rb ++ [ob]) W0 W1) → Below W1.heap.size W1 W → Calls Tryz.prog 44 #[.pointer (some ⟨rb, 0, none⟩), .int .i64 a, .int .i64 b] W fun e W2 => e = .returned (.int .i64 (X : Int)) ∧ Hid (∃ ck, BO N bb eb rb n w0 ck W2 ∧ ck.next ≤ c.next + 10) ∧ W2.cell? ⟨bb, 1, none⟩ = some (.pointer (some ⟨rb, 0, none⟩)) ∧ W2.cell? ⟨ob, 2, none⟩ = some (.int .i64 a) ∧ W2.cell? ⟨ob, 3, none⟩ = some (.int .i64 b)) := by
  rintro W1 W ⟨g1, g2⟩ hb
  obtain ⟨g3, g4⟩ := g1.then hN' hb
  have g5 := g2.trans g4
  have g6 : Same (bb :: c.blocks rb) W0 W := g5.sub (fun x hx => List.mem_append_left _ hx)
  refine (rbeat_any (hB0.mid g6).1 hB0.ok hn a b).mono ?_
  rintro e W2 ⟨ck, rfl, k1, k2, k3, k4⟩
  obtain ⟨hB, hK⟩ := hB0.next hN' g3 g6 (by simpa using hobn) k2 k4 k1 k3
  have e2 : W2.heap[ob]? = _ := (hK ob (by simp)).1.trans ((g5.2 ob (by simp)).trans hbx)
  refine ⟨by rw [hX], ⟨ck, hB, ?_⟩, hB.c1, by rw [cell_of_row W2 ob 2 _ _ _ e2]; rfl, by rw [cell_of_row W2 ob 3 _ _ _ e2]; rfl⟩
  have := beat_next (eOf c.abs) a b
  rw [k1] at this
  have e3 : ck.next = c.next := this
  omega
 obtain ⟨d0, d1, d2, d3⟩ := hcells.out W0 ⟨Nat.le_refl _, fun b hb => rfl⟩
 have dk : W0.cell? ⟨ob, 0, none⟩ = some (.int .i64 4) := by rw [cell_of_row W0 ob 0 _ _ _ hbx]; rfl
 have HB0 : Below W0.heap.size W0 W0 := Below.refl _ _
 clear h hX hbx hB0 hA0 hobn hcells
 go_enter Tryz.func19, Tryz.ntmps19
 go_wp2
 clear hW0 hob dk
 go_region_held3 (fun w' => w'.cell? ⟨bb, 0, none⟩ = some (.pointer (some ⟨eb, 0, none⟩)) ∧ w'.cell? ⟨ob, 2, none⟩ = some (.int .i64 a) ∧ w'.cell? ⟨ob, 3, none⟩ = some (.int .i64 b))
  (first | (refine ⟨?_, ?_, ?_⟩ <;> (repeat (first | assumption | apply drew_keep | apply alloc_keep))) | go_keep)
  (first | (go_at_call 31; refine (h1.out _ (by repeat (first | exact HB0 | apply Below.drew))).mono ?_; rintro e w1 ⟨rfl, hA1, c0, c1, c2, c3⟩))
 clear d0 d1 d2 d3 h1
 go_wp2
 go_region_held3 (fun w' => w'.cell? ⟨bb, 1, none⟩ = some (.pointer (some ⟨rb, 0, none⟩)) ∧ w'.cell? ⟨ob, 2, none⟩ = some (.int .i64 a) ∧ w'.cell? ⟨ob, 3, none⟩ = some (.int .i64 b))
  (first | (refine ⟨?_, ?_, ?_⟩ <;> (repeat (first | assumption | apply drew_keep | apply alloc_keep))) | go_keep)
  (first | (go_at_call 44; refine (h2.out w1 _ hA1.out (by repeat (first | exact Below.refl _ _ | apply Below.drew))).mono ?_; rintro e w2 ⟨rfl, hB2, e1, e2, e3⟩))
 go_wp2_with go_in
 go_ret
 exact ⟨rfl, hB2.out⟩
end
theorem step_bo {N bb eb rb n : Nat} {w0 w : World} {c : RC} (h : BO N bb eb rb n w0 c w) (hN : N = w0.heap.size) {m : Int} (hm : w0.cell? ⟨0, 0, none⟩ = some (.int .i64 m)) {o : OpD} (ho : OpOK w0 o) (hn : n + o.l.length ≤ 1000000) (hnx : c.next ≤ 1000000000) :
  Calls Tryz.prog 19 #[.pointer (some ⟨bb, 0, none⟩), .agg o.cells] w (StepPost N bb eb rb (n + o.l.length) w0 c) := by
 have hmono : ∀ e w', StepPost N bb eb rb n w0 c e w' → StepPost N bb eb rb (n + o.l.length) w0 c e w' := by
  rintro e w' ⟨rfl, ck, h1, h2⟩
  exact ⟨rfl, ck, h1.mono (by omega), h2⟩
 obtain ⟨kind, k, a, b, tad, tb, toff, tcap, ss, ea, ecap, l⟩ := o
 obtain ⟨tx, tl, tc, row⟩ := ho
 simp only at tx tl tc row hn hmono
 by_cases h1 : kind = 1
 ·subst h1; exact (step_1 h hN hm tx tl tc hnx).mono hmono
 ·by_cases h2 : kind = 2
  ·subst h2; exact (step_2 h hN).mono hmono
  ·by_cases h3 : kind = 3
   ·subst h3; exact step_3 (l := l) h hN row (by omega)
   ·by_cases h4 : kind = 4
    ·subst h4; exact (step_4 h hN (by omega)).mono hmono
    ·by_cases h5 : kind = 5
     ·subst h5; exact (step_5 h hN (by omega)).mono hmono
     ·by_cases h6 : kind = 6
      ·subst h6; exact (step_6 h hN (by omega)).mono hmono
      ·exact (step_else h hN kind h1 h2 h3 h4 h5 h6).mono hmono
end Go.Proofs.YtbgfannlfagoiaaGreatDoor

namespace Go.Proofs.YtbgfannlfagoiaaGreatDoor
open Go.RowKit Go.Lull
set_option linter.unusedVariables false

/-- A script in memory. -/
structure SCR (w : World) (v : Value) (L : List OpD) : Prop where
 form : ∃ a cap, v = .slice a L.length cap ∧ L.length ≤ cap
 some_ : 0 < L.length → ∃ g off cap, v = .slice (some ⟨g, off, none⟩) L.length cap ∧ L.length ≤ cap
 cells : ∀ g off cap, v = .slice (some ⟨g, off, none⟩) L.length cap → ∀ i, (hi : i < L.length) → w.cell? ⟨g, off + i * 6, none⟩ = some (.int .i64 L[i].kind) ∧ w.cell? ⟨g, off + i * 6 + 1, none⟩ = some (.int .i64 L[i].k) ∧ w.cell? ⟨g, off + i * 6 + 2, none⟩ = some (.int .i64 L[i].a) ∧ w.cell? ⟨g, off + i * 6 + 3, none⟩ = some (.int .i64 L[i].b) ∧
  w.cell? ⟨g, off + i * 6 + 4, none⟩ = some (.slice L[i].tad L[i].ss.length L[i].tcap) ∧ w.cell? ⟨g, off + i * 6 + 5, none⟩ = some (.slice L[i].ea L[i].l.length L[i].ecap)
 ok : ∀ o ∈ L, OpOK w o
def evSum (L : List OpD) : Nat := (L.map (·.l.length)).sum
theorem evSum_take (L : List OpD) (i : Nat) (hi : i < L.length) : evSum (L.take (i + 1)) = evSum (L.take i) + L[i].l.length := by
 unfold evSum
 rw [List.take_succ_eq_append_getElem hi, List.map_append, List.sum_append]
 simp
theorem evSum_le (L : List OpD) (i : Nat) : evSum (L.take i) ≤ evSum L := by
 unfold evSum
 conv => rhs; rw [← List.take_append_drop i L, List.map_append, List.sum_append]
 omega
set_option maxRecDepth 8000 in
set_option maxHeartbeats 2000000 in
theorem play_good (n : Nat) (w : World) (v : Value) (L : List OpD) (h0 : 0 < n) (h8 : n ≤ 8) {m : Int} (hm : w.cell? ⟨0, 0, none⟩ = some (.int .i64 m)) (hS : SCR w v L) (hL : L.length ≤ 1048576) (hsum : evSum L ≤ 1000000) :
  Calls Tryz.prog 6 #[.int .i64 n, v, .int .i64 6] w fun e w' => e = .returned (.bool true) ∧ Below w.heap.size w w' := by
 have hbeg := Hid.mk' (begun_bo n w h0 h8)
 obtain ⟨va, vcap, rfl, hvc⟩ := hS.form
 have HS := Hid.mk' hS
 have HM := Hid.mk' hm
 have HSUM := Hid.mk' hsum
 clear hS hm hsum
 go_enter Tryz.func6, Tryz.ntmps6
 go_wp2_with (go_at_call 7; with_reducible refine hbeg.out.mono ?_; rintro e w1 ⟨bb, eb, rb, mb, rfl, hB⟩)
 go_loopw [8, 9] (fun kv iv wr => ∃ (i t : Nat) (z : Int) (c : RC), z = i ∧ kv = .bool true ∧ iv = .int .i64 z ∧ i ≤ L.length ∧ Hid (BO w.heap.size bb eb rb t w c wr ∧ t ≤ evSum (L.take i) ∧ c.next ≤ 10 * i)) (fun _ iv _ => L.length - (intOf iv).toNat)
 case atStart => exact ⟨0, 0, 0, _, rfl, rfl, rfl, Nat.zero_le _, hB.out, Nat.zero_le _, Nat.zero_le _⟩
 case round =>
  obtain ⟨i, t, z, c, rfl, rfl, rfl, hi, hC⟩ := hrel
  obtain ⟨hBO, ht, hnx⟩ := hC.out
  by_cases hlt : i < L.length
  ·obtain ⟨g, off, cap', hva, _⟩ := HS.out.some_ (by omega)
   obtain ⟨rfl, _, rfl⟩ := Value.slice.inj hva
   clear hva
   obtain ⟨o, ho⟩ : ∃ o, L[i] = o := ⟨_, rfl⟩
   have hom : o ∈ L := by rw [← ho]; exact List.getElem_mem hlt
   have hok := HS.out.ok o hom
   have hcs := HS.out.cells g off vcap rfl i hlt
   rw [ho] at hcs
   have hgl : g < w.heap.size := block_lt_of_cell hcs.1
   have hlow : ∀ j, wr.cell? ⟨g, j, none⟩ = w.cell? ⟨g, j, none⟩ := fun j => hBO.below.cell (p := ⟨g, j, none⟩) hgl
   obtain ⟨y0, y1, y2, y3, y4, y5⟩ := hcs
   rw [← hlow] at y0 y1 y2 y3 y4 y5
   have hsm := evSum_take L i hlt
   rw [ho] at hsm
   have hle := evSum_le L (i + 1)
   have hs1 : t + o.l.length ≤ 1000000 := by have := HSUM.out; omega
   have hstep := Hid.mk' (step_bo hBO rfl HM.out hok hs1 (by omega))
   have hskip : Hid (BO w.heap.size bb eb rb t w c wr ∧ t ≤ evSum (L.take (i + 1)) ∧ c.next ≤ 10 * (i + 1)) := ⟨hBO, by omega, by omega⟩
   have hnext : Hid (∀ e w', StepPost w.heap.size bb eb rb (t + o.l.length) w c e w' → e = .returned (.bool true) ∧ Hid (∃ ck, BO w.heap.size bb eb rb (t + o.l.length) w ck w' ∧ t + o.l.length ≤ evSum (L.take (i + 1)) ∧ ck.next ≤ 10 * (i + 1))) := by
    rintro e w' ⟨rfl, ck, h1, h2⟩
    exact ⟨rfl, ck, h1, by omega, by omega⟩
   obtain ⟨kind, k, a, b, tad, tb, toff, tcap, ss, ea, ecap, l⟩ := o
   simp only [OpD.cells] at y0 y1 y2 y3 y4 y5 hstep hnext
   clear hC hBO ht hnx ho hom hok hlow hsm hle hs1
   by_cases hk : 6 < kind
   ·go_wp2
    go_roundw
    case rel => exact ⟨i + 1, t, (i : Int) + 1, c, by omega, rfl, rfl, by omega, hskip⟩
    case measure => simp [intOf]; omega
   ·go_wp2_with (go_at_call 19; refine hstep.out.mono ?_; intro e w2 hp; obtain ⟨rfl, hN⟩ := hnext.out e w2 hp; clear hp)
    obtain ⟨ck, hN2⟩ := hN.out
    have HN2 := Hid.mk' hN2
    clear hN2 hN
    go_roundw
    case rel => exact ⟨i + 1, _, (i : Int) + 1, ck, by omega, rfl, rfl, by omega, HN2⟩
    case measure => simp [intOf]; omega
  ·have hil : i = L.length := by omega
   have ht1 : t ≤ 1000000 := by have := HSUM.out; have := evSum_le L i; omega
   have hdr : Hid (Calls Tryz.prog 20 #[.pointer (some ⟨bb, 0, none⟩), .int .i64 1000] wr fun e w' => ∃ v, e = .returned (.tuple #[v, .bool true]) ∧ Hid (Below w.heap.size w w')) := by
    refine (drained_bo hBO rfl ht1 1000).mono ?_
    rintro e w' ⟨v, rfl, ck, h1, _⟩
    exact ⟨v, rfl, h1.below⟩
   clear hC hBO ht hnx
   go_wp2_with (go_at_call 20; refine hdr.out.mono ?_; rintro e w2 ⟨v, rfl, hb⟩)
   go_ret
   exact ⟨rfl, hb.out⟩
set_option maxHeartbeats 400000 in
theorem play_bad (z : Int) (w : World) (va : Option Addr) (vn vcap : Nat) (h : z < 1 ∨ 8 < z) :
  Calls Tryz.prog 6 #[.int .i64 z, .slice va vn vcap, .int .i64 6] w fun e w' => e = .returned (.bool true) ∧ Below w.heap.size w w' := by
 have hbeg := Hid.mk' (begun_no z w h)
 clear h
 go_enter Tryz.func6, Tryz.ntmps6
 go_wp2_with (go_at_call 7; with_reducible refine hbeg.out.mono ?_; rintro e w1 ⟨rfl, hB⟩)
 go_ret
 exact ⟨rfl, hB⟩
set_option maxHeartbeats 400000 in
theorem plays_any (z : Int) (w : World) (v : Value) (L : List OpD) {m : Int} (hm : w.cell? ⟨0, 0, none⟩ = some (.int .i64 m)) (hS : SCR w v L) (hL : L.length ≤ 1048576) (hsum : evSum L ≤ 1000000) :
  Calls Tryz.prog 3 #[.int .i64 z, v] w fun e w' => e = .returned (.bool true) ∧ Below w.heap.size w w' := by
 have hcall : Hid (Calls Tryz.prog 6 #[.int .i64 z, v, .int .i64 6] w fun e w' => e = .returned (.bool true) ∧ Below w.heap.size w w') := by
  by_cases h : z < 1 ∨ 8 < z
  ·obtain ⟨va, vcap, rfl, _⟩ := hS.form
   exact play_bad z w va _ vcap h
  ·obtain ⟨k, rfl⟩ : ∃ k : Nat, z = (k : Int) := ⟨z.toNat, by omega⟩
   exact play_good k w v L (by omega) (by omega) hm hS hL hsum
 obtain ⟨va, vcap, rfl, _⟩ := hS.form
 clear hS hm
 go_enter Tryz.func3, Tryz.ntmps3
 go_wp2_with (go_at_call 6; with_reducible refine hcall.out.mono ?_; rintro e w1 ⟨rfl, hB⟩)
 go_ret
 exact ⟨rfl, hB⟩
end Go.Proofs.YtbgfannlfagoiaaGreatDoor
