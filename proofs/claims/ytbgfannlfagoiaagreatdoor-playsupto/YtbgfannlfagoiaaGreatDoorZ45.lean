import Derived.Test.YtbgfannlfagoiaaGreatDoorZ41
import Derived.Test.YtbgfannlfagoiaaGreatDoorZ44
import Derived.Test.YtbgfannlfagoiaaGreatDoorZ32
import Derived.Deep.OwnRows
import Derived.Test.YtbgfannlfagoiaaGreatDoorZ40
import Derived.Deep.RegionHeld3
import Derived.Deep.QuietTactic
import Derived.BigQuiet
namespace Go.Lull
set_option linter.unusedVariables false
/-! ### What is so of the program's state, where the document's is the same -/
theorem rok_nr {n : Nat} {r : RS} (hr : RSok n r) : NR (eOf r).qs := by
 unfold NR eOf
 simp only
 rw [List.pairwise_map]
 exact hr.nr.imp (fun h => by rw [qOf_num, qOf_num]; exact h)
theorem rok_sz {n : Nat} {r : RS} (hr : RSok n r) (hn : n ≤ 1000000) : SZ ((eOf r).buf, (eOf r).qs) := by
 intro q hq
 obtain ⟨x, hx, rfl⟩ := List.mem_map.1 hq
 have h1 := (hr.qs x hx).2
 have h2 := SZk.pass (N := x.seen.length) (s := (x.seen, [(⟨x.id, x.st, x.wn, [], []⟩ : Qy)])) (wm := markB r.marks) (by intro y hy; simp at hy; subst hy; simp)
 have h3 := h2 (x.all (markB r.marks)) (by rw [pass_one]; simp [RQ.all])
 show ((x.all (markB r.marks)).found.drop x.gone).length + (x.all (markB r.marks)).runs.length + r.waits.length ≤ 536870912
 rw [List.length_drop]
 omega
theorem rok_tm {n : Nat} {r : RS} (hr : RSok n r) : TM (eOf r).buf := hr.tm
theorem rok_sb {n : Nat} {r : RS} (hr : RSok n r) : SB (eOf r).buf := hr.sb
theorem rok_tot {n : Nat} {r : RS} (hr : RSok n r) (hn : n ≤ 1000000) : totF (eOf r).qs ≤ 1073741824 := by
 have := tot_eOf hr; omega
end Go.Lull
namespace Go.Proofs.YtbgfannlfagoiaaGreatDoor
open Go.RowKit Go.Lull
set_option linter.unusedVariables false

/-- What the document's Engine does leaves the program's as it was. -/
theorem At.ref {N eb bb : Nat} {w0 w w' : World} {s : En} {B B' G : List Nat} (h : At N eb w0 s (bb :: B ++ G) w) (hN : N ≤ w0.heap.size) (hx : Ext w B w' B') (hBN : ∀ b ∈ B, N ≤ b) (hbb : bb ∉ B) (hG : ∀ b ∈ G, b ∉ B) (hlt : ∀ b ∈ B', b < w'.heap.size) :
  At N eb w0 s (bb :: B' ++ G) w' ∧ w'.heap[bb]? = w.heap[bb]? ∧ bb ∉ B' ∧ (∀ b ∈ B', N ≤ b) ∧ (∀ b ∈ G, w'.heap[b]? = w.heap[b]? ∧ b ∉ B') := by
 obtain ⟨c, hc, ha, hF⟩ := h
 obtain ⟨hb1, hl1⟩ := hF bb (by simp)
 have hlow := hx.low hBN (Nat.le_trans hN hc.below.size)
 have hbbk := hx.keep hb1 hbb
 have hdis : ∀ b ∈ B, b ∉ c.blocks eb := fun b hb => (hF b (by simp [hb])).2
 refine ⟨⟨c, ⟨hc.eg.fr hx.fr hdis, hc.below.trans hlow.1, hc.new⟩, ha, fun b hb => ?_⟩, hbbk.1, hbbk.2, hlow.2, fun b hb => hx.keep (hF b (by simp [hb])).1 (hG b hb)⟩
 rcases List.mem_append.1 hb with hb | hb
 ·rcases List.mem_cons.1 hb with rfl | hb
  ·exact ⟨Nat.lt_of_lt_of_le hb1 hx.fr.size, hl1⟩
  ·refine ⟨hlt b hb, fun hm => ?_⟩
   rcases hx.sub b hb with h2 | h2
   ·exact hdis b h2 hm
   ·have := hc.eg.lt b hm; omega
 ·exact ⟨Nat.lt_of_lt_of_le (hF b (by simp [hb])).1 hx.fr.size, (hF b (by simp [hb])).2⟩
/-- Blocks that were there before the Engine. -/
theorem At.old {N eb : Nat} {w0 w : World} {s : En} {F : List Nat} (h : At N eb w0 s F w) (hN : N ≤ w0.heap.size) {G : List Nat} (hG : ∀ b ∈ G, b < N) : At N eb w0 s (F ++ G) w := by
 obtain ⟨c, hc, ha, hF⟩ := h
 refine ⟨c, hc, ha, fun b hb => ?_⟩
 rcases List.mem_append.1 hb with h1 | h1
 ·exact hF b h1
 ·have h2 := hG b h1
  exact ⟨Nat.lt_of_lt_of_le h2 (Nat.le_trans hN hc.below.size), fun hm => by have := hc.new b hm; omega⟩
/-- An Engine of the program beside the document's, both in the same state. -/
structure BO (N bb eb rb n : Nat) (w0 : World) (c : RC) (w : World) : Prop where
 at_ : At N eb w0 (eOf c.abs) (bb :: c.blocks rb) w
 re : RE w rb c
 ok : RSok n c.abs
 both : w.heap[bb]? = some (.cells #[.pointer (some ⟨eb, 0, none⟩), .pointer (some ⟨rb, 0, none⟩)] 70 (0, 0))
 bbn : bb ∉ c.blocks rb
 new : ∀ b ∈ c.blocks rb, N ≤ b
section
variable {N bb eb rb n : Nat} {w0 w w1 w2 : World} {c ck : RC} {s : En} {G : List Nat}
theorem BO.below (h : BO N bb eb rb n w0 c w) : Below N w0 w := h.at_.below
theorem BO.mono {m : Nat} (h : BO N bb eb rb n w0 c w) (hm : n ≤ m) : BO N bb eb rb m w0 c w := ⟨h.at_, h.re, h.ok.mono hm, h.both, h.bbn, h.new⟩
theorem BO.c0 (h : BO N bb eb rb n w0 c w) : w.cell? ⟨bb, 0, none⟩ = some (.pointer (some ⟨eb, 0, none⟩)) := by rw [cell_of_row w bb 0 _ _ _ h.both]; rfl
theorem BO.c1 (h : BO N bb eb rb n w0 c w) : w.cell? ⟨bb, 1, none⟩ = some (.pointer (some ⟨rb, 0, none⟩)) := by rw [cell_of_row w bb 1 _ _ _ h.both]; rfl
/-- Behind a call of the program's. -/
theorem BO.mid (h : BO N bb eb rb n w0 c w) (hS : Same (bb :: c.blocks rb) w w1) : RE w1 rb c ∧ w1.heap[bb]? = some (.cells #[.pointer (some ⟨eb, 0, none⟩), .pointer (some ⟨rb, 0, none⟩)] 70 (0, 0)) ∧ w1.cell? ⟨bb, 1, none⟩ = some (.pointer (some ⟨rb, 0, none⟩)) := by
 have hb : w1.heap[bb]? = some (.cells #[.pointer (some ⟨eb, 0, none⟩), .pointer (some ⟨rb, 0, none⟩)] 70 (0, 0)) := (hS.2 bb List.mem_cons_self).trans h.both
 exact ⟨h.re.same hS.1 (fun b hb => hS.2 b (List.mem_cons_of_mem _ hb)), hb, by rw [cell_of_row w1 bb 1 _ _ _ hb]; rfl⟩
/-- Behind the document's. -/
theorem BO.next (h : BO N bb eb rb n w0 c w) (hN : N ≤ w0.heap.size) (hA : At N eb w0 s (bb :: c.blocks rb ++ G) w1) (hS : Same (bb :: c.blocks rb) w w1) (hG : ∀ b ∈ G, b ∉ c.blocks rb) (hre : RE w2 rb ck) (hx : Ext w1 (c.blocks rb) w2 (ck.blocks rb)) (hs : s = eOf ck.abs) {m : Nat} (hok : RSok m ck.abs) :
  BO N bb eb rb m w0 ck w2 ∧ (∀ b ∈ G, w2.heap[b]? = w1.heap[b]? ∧ b ∉ ck.blocks rb) := by
 obtain ⟨h1, h2, h3, h4, h5⟩ := hA.ref hN hx h.new h.bbn hG hre.lt
 exact ⟨⟨hs ▸ h1.sub (fun x hx => List.mem_append_left _ hx), hre, hok, h2.trans (h.mid hS).2.1, h3, h4⟩, h5⟩
theorem BO.then (h : BO N bb eb rb n w0 c w) (hN : N ≤ w0.heap.size) (hb : Below w.heap.size w w1) : BO N bb eb rb n w0 c w1 := by
 obtain ⟨h1, h2⟩ := h.at_.then hN hb
 obtain ⟨h3, h4, _⟩ := h.mid h2
 exact ⟨h1, h3, h.ok, h4, h.bbn, h.new⟩
end
/-- Offer of events that are only read. -/
theorem at_offer_es {N eb : Nat} {w0 w : World} {s : En} {F : List Nat} {l : List Ev} {v : Value} (h : At N eb w0 s F w) (hN : N ≤ w0.heap.size) (hs : SB s.buf) (hl : l.length ≤ 1000000000) (hrow : ES w v l) (hv : 0 < l.length → ∀ b, v.ownBlock = some b → b ∈ F) :
  Calls Tryz.prog 30 #[.pointer (some ⟨eb, 0, none⟩), v] w fun e w' => e = .returned (.tuple #[.int .i64 (offerE s l).1, .int .i64 (offerE s l).2.1]) ∧ At N eb w0 (offerE s l).2.2 F w' ∧ Same F w w' := by
 obtain ⟨c, hc, rfl, hF⟩ := h
 refine (offer_es w eb c v l hc.eg hs hl hrow (fun hp b hb => (hF b (hv hp b hb)).2)).mono ?_
 rintro e w' ⟨rfl, c', g1, g2, g3⟩
 exact ⟨rfl, At.ext hc hF hN g1 g3 g2⟩
theorem ES.low {N : Nat} {w0 w : World} {v : Value} {l : List Ev} (h : ES w0 v l) (hN : N = w0.heap.size) (hb : Below N w0 w) : ES w v l :=
 h.same (fun b hb' hp => hb.block b (by rw [hN]; exact h.lt hp b hb'))
theorem Row.low {N : Nat} {w0 w : World} {e : TypeId} {size n : Nat} {v : Value} {xs : List Value} (h : Row w0 e size v n xs) (hN : N = w0.heap.size) (hb : Below N w0 w) : Row w e size v n xs :=
 h.same (fun b hb' => hb.block b (by rw [hN]; exact h.lt b hb'))
theorem TX.low {N : Nat} {w0 w : World} {ad : Option Addr} {b off : Nat} {ss : List ByteArray} (h : TX w0 ad b off ss) (hN : N = w0.heap.size) (hB : Below N w0 w) : TX w ad b off ss :=
 ⟨h.at_, fun hne => Nat.lt_of_lt_of_le (h.lt hne) (by rw [← hN]; exact Nat.le_trans (by omega) hB.size), fun k hk => by
  have hne : ss ≠ [] := fun e => by rw [e] at hk; cases hk
  rw [hB.cell (p := ⟨b, off + k, none⟩) (by rw [hN]; exact h.lt hne)]
  exact h.cell k hk⟩
end Go.Proofs.YtbgfannlfagoiaaGreatDoor

namespace Go.Proofs.YtbgfannlfagoiaaGreatDoor
open Go.RowKit Go.Lull
set_option linter.unusedVariables false

def newRC (n mb : Nat) : RC := ⟨mb, .slice none 0 0, .slice none 0 0, [], List.replicate n 0, [], 0, -1, 0⟩
theorem newRC_ok (n mb : Nat) (h0 : 0 < n) (h8 : n ≤ 8) : RSok 0 (newRC n mb).abs := by
 refine ⟨?_, by simpa [newRC, RC.abs] using h8, List.Pairwise.nil, ?_, ?_, ?_, Nat.le_refl _, List.Pairwise.nil, ?_, Nat.zero_le _, Or.inl ⟨rfl, rfl⟩⟩
 ·simp [newRC, RC.abs]; omega
 ·intro e he; cases he
 ·intro e he; cases he
 ·intro q hq; cases hq
 ·intro q hq; cases hq
theorem made_marks (n : Nat) : madeCells #[Value.int .i64 0] n = ((List.replicate n (0 : Int)).map (fun m => Value.int .i64 m)).toArray := by
 apply Array.ext
 ·simp [madeCells]
 ·intro i h1 h2
  simp [madeCells, Nat.mod_one]
set_option maxHeartbeats 1000000 in
theorem begun_bo (n : Nat) (w : World) (h0 : 0 < n) (h8 : n ≤ 8) :
  Calls Tryz.prog 7 #[.int .i64 n] w fun e w' => ∃ bb eb rb mb, e = .returned (.tuple #[.pointer (some ⟨bb, 0, none⟩), .bool true]) ∧ Hid (BO w.heap.size bb eb rb 0 w (newRC n mb) w') := by
 have hmk := run_make_row' (P := Tryz.prog) 44 3 (.int .i64 0) 8 Tryz.underlying44 Tryz.infoI3 rfl .i64 .i64 n (by omega) (by omega)
 obtain ⟨eb, heb⟩ : ∃ eb, w.heap.size + 1 = eb := ⟨_, rfl⟩
 have hnew : Hid (Calls Tryz.prog 21 #[.int .i64 n] w fun e w1 => e = .returned (.tuple #[.pointer (some ⟨eb, 0, none⟩), .int .i64 0]) ∧ Hid (At w.heap.size eb w (newE n w.heap.size).abs [] w1)) := by
  rw [← heb]
  refine (new_eg n w (by omega) (by omega)).mono ?_
  rintro e w1 ⟨rfl, hb, hE⟩
  refine ⟨rfl, newE n w.heap.size, ⟨hE, hb, ?_⟩, rfl, by simp⟩
  intro b hb
  simp [newE, CE.blocks, CE.base, qsb, Value.ownBlock] at hb
  omega
 have hok := newRC_ok n
 clear heb
 have hn1 : (1 : Int) ≤ (n : Int) := by omega
 have hn8 : (n : Int) ≤ 8 := by omega
 go_enter Tryz.func7, Tryz.ntmps7
 go_wp2_with (first | (go_at_call 21; with_reducible refine hnew.out.mono ?_; rintro e w1 ⟨rfl, hA⟩) | go_in)
 go_ret2
 have hb1 : Below w1.heap.size w1 (((w1.alloc (.cells (madeCells #[.int .i64 0] n) 3)).alloc (.cells #[.slice (some ⟨w1.heap.size, 0, none⟩) n n, .slice none 0 0, .slice none 0 0, .int .i64 0, .int .i64 (-1), .int .i64 0] 107)).alloc (.cells #[.pointer (some ⟨eb, 0, none⟩), .pointer (some ⟨w1.heap.size + 1, 0, none⟩)] 70)) := (((Below.refl _ _).alloc (Nat.le_refl _) _).alloc (by simp) _).alloc (by simp; omega) _
 have hblk : (newRC n w1.heap.size).blocks (w1.heap.size + 1) = [w1.heap.size + 1, w1.heap.size] := by simp [newRC, RC.blocks, RC.wr, RC.rd, Value.ownBlock]
 have hA1 := (hA.out.new (G := [w1.heap.size + 2, w1.heap.size + 1, w1.heap.size]) (Nat.le_refl _) hb1 (by intro b hb; simp at hb; rcases hb with rfl | rfl | rfl <;> simp <;> omega)).1
 have hbel := hA.out.below.size
 refine ⟨w1.heap.size + 2, eb, w1.heap.size + 1, w1.heap.size, rfl, ?_, ⟨?_, ?_, ⟨rfl, Or.inl ⟨rfl, rfl⟩⟩, ⟨rfl, Or.inl ⟨rfl, rfl⟩⟩, (fun x hx => by cases hx), ?_, ?_⟩, hok _ h0 h8, ?_, ?_, ?_⟩
 ·rw [hblk]; exact hA1
 ·rw [Below.heap_alloc _ _ _ (by simp)]
  have := heap_alloc_new (w1.alloc (.cells (madeCells #[.int .i64 0] n) 3)) (.cells #[.slice (some ⟨w1.heap.size, 0, none⟩) n n, .slice none 0 0, .slice none 0 0, .int .i64 0, .int .i64 (-1), .int .i64 0] 107)
  simpa [rCells, newRC] using this
 ·show (World.alloc _ _).heap[w1.heap.size]? = some (.cells ((List.replicate n (0 : Int)).map (fun m => Value.int .i64 m)).toArray 3 (0, 0))
  rw [Below.heap_alloc _ _ _ (by simp; omega), Below.heap_alloc _ _ _ (by simp), ← made_marks]
  exact heap_alloc_new w1 (.cells (madeCells #[.int .i64 0] n) 3)
 ·simp [newRC, RC.wr, Value.ownBlock]
 ·intro b hb; simp [newRC, RC.rd, Value.ownBlock] at hb
 ·have := heap_alloc_new ((w1.alloc (.cells (madeCells #[.int .i64 0] n) 3)).alloc (.cells #[.slice (some ⟨w1.heap.size, 0, none⟩) n n, .slice none 0 0, .slice none 0 0, .int .i64 0, .int .i64 (-1), .int .i64 0] 107)) (.cells #[.pointer (some ⟨eb, 0, none⟩), .pointer (some ⟨w1.heap.size + 1, 0, none⟩)] 70)
  simpa using this
 ·rw [hblk]; simp
 ·rw [hblk]; intro b hb; simp at hb; rcases hb with rfl | rfl <;> omega
set_option maxRecDepth 8000 in
set_option maxHeartbeats 1000000 in
theorem begun_no (z : Int) (w : World) (h : z < 1 ∨ 8 < z) :
  Calls Tryz.prog 7 #[.int .i64 z] w fun e w' => e = .returned (.tuple #[.pointer none, .bool true]) ∧ Below w.heap.size w w' := by
 by_cases h1 : z < 1
 ·clear h
  go_enter Tryz.func7, Tryz.ntmps7
  go_wp2
  go_ret2
  exact ⟨rfl, by repeat (first | exact Below.refl _ _ | refine Below.alloc ?_ (by simp; try omega) _ | apply Below.drew)⟩
 ·have h2 : 1 ≤ z := by omega
  have h3 : ¬ z ≤ 8 := by omega
  clear h h1
  go_enter Tryz.func7, Tryz.ntmps7
  go_wp2
  go_ret2
  exact ⟨rfl, by repeat (first | exact Below.refl _ _ | refine Below.alloc ?_ (by simp; try omega) _ | apply Below.drew)⟩
end Go.Proofs.YtbgfannlfagoiaaGreatDoor

namespace Go.Proofs.YtbgfannlfagoiaaGreatDoor
open Go.RowKit Go.Lull
set_option linter.unusedVariables false

theorem nums_row {w : World} {g off cap n a : Nat} (h : Row w 3 1 (.slice (some ⟨g, off, none⟩) n cap) n (numsV a n)) (k : Nat) (hk : k < n) : w.cell? ⟨g, off + k, none⟩ = some (.int .i64 ((a + k : Nat) : Int)) := by
 rw [h.cell k (by omega)]
 simp [numsV, hk]
set_option maxHeartbeats 1000000 in
theorem sameInts_two (w : World) (va vb : Value) (a n : Nat) (hn : n ≤ 10) (h1 : Row w 3 1 va n (numsV a n)) (h2 : Row w 3 1 vb n (numsV a n)) :
  Calls Tryz.prog 72 #[va, vb] w fun e w' => e = .returned (.bool true) ∧ ∃ q, w' = w.drewN q := by
 obtain ⟨a1, ca, rfl, _⟩ := h1.form
 obtain ⟨a2, cc, rfl, _⟩ := h2.form
 have H1 := Hid.mk' h1
 have H2 := Hid.mk' h2
 clear h1 h2
 go_enter Tryz.func72, Tryz.ntmps72
 go_wp2
 go_loopw [5] (fun i wr => ∃ k q : Nat, k ≤ n ∧ i = .int .i64 k ∧ wr = w.drewN q) (fun i _ => n - (intOf i).toNat)
 case atStart => exact ⟨0, 0, Nat.zero_le _, rfl, rfl⟩
 case round =>
  obtain ⟨k, q, hk, rfl, hw⟩ := hrel
  subst hw
  by_cases hlt : k < n
  ·obtain ⟨g1, o1, c1, e1, _⟩ := row_some H1.out (by omega)
   obtain ⟨g2, o2, c2, e2, _⟩ := row_some H2.out (by omega)
   obtain ⟨rfl, _, rfl⟩ := Value.slice.inj e1
   obtain ⟨rfl, _, rfl⟩ := Value.slice.inj e2
   clear e1 e2
   have x1 := nums_row H1.out k hlt
   have x2 := nums_row H2.out k hlt
   generalize ((a + k : Nat) : Int) = z at x1 x2
   go_wp2
   go_quiet (fail)
   go_wp2
   go_roundw
   case rel => exact ⟨k + 1, q + nq, by omega, by go_num, rfl⟩
   case measure => simp [intOf]; omega
  ·go_wp2
   go_ret
   exact ⟨rfl, q, rfl⟩
set_option maxHeartbeats 1000000 in
theorem sameEvent_yes (w : World) (x0 x1 x2 x3 : Value) (a b c d : Int) (h0 : x0 = .int .i64 a) (h1 : x1 = .int .i64 b) (h2 : x2 = .int .u8 c) (h3 : x3 = .int .i64 d) :
  Calls Tryz.prog 102 #[.agg #[x0, x1, x2, x3], .agg #[x0, x1, x2, x3]] w fun e w' => e = .returned (.bool true) ∧ Below w.heap.size w w' := by
 subst h0 h1 h2 h3
 go_enter Tryz.func102, Tryz.ntmps102
 go_wp2
 go_ret
 exact ⟨rfl, by repeat (first | exact Below.refl _ _ | refine Below.alloc ?_ (by simp) _ | apply Below.drew)⟩
set_option maxRecDepth 8000 in
set_option maxHeartbeats 4000000 in
theorem sameEvents_yes (w : World) (va vb : Value) (l : List Ev) (ha : Row w 75 4 va l.length (l.flatMap evC)) (hb : Row w 75 4 vb l.length (l.flatMap evC)) :
  Calls Tryz.prog 80 #[va, vb] w fun e w' => e = .returned (.bool true) ∧ Below w.heap.size w w' := by
 have hl := row_le ha
 obtain ⟨aa, ca, rfl, hca⟩ := ha.form
 obtain ⟨ab, cb, rfl, hcb⟩ := hb.form
 have HA := Hid.mk' ha
 have HB := Hid.mk' hb
 clear ha hb
 go_enter Tryz.func80, Tryz.ntmps80
 go_wp2
 go_loopw [5] (fun i wr => ∃ (k : Nat) (z : Int), z = k ∧ k ≤ l.length ∧ i = .int .i64 z ∧ Hid (Below w.heap.size w wr)) (fun i _ => l.length - (intOf i).toNat)
 case atStart => exact ⟨0, 0, rfl, Nat.zero_le _, rfl, Below.refl _ _⟩
 case round =>
  obtain ⟨k, z, rfl, hk, rfl, hB⟩ := hrel
  by_cases hlt : k < l.length
  ·obtain ⟨g1, o1, c1, e1, _⟩ := row_some HA.out (by omega)
   obtain ⟨g2, o2, c2, e2, _⟩ := row_some HB.out (by omega)
   obtain ⟨rfl, _, rfl⟩ := Value.slice.inj e1
   obtain ⟨rfl, _, rfl⟩ := Value.slice.inj e2
   clear e1 e2
   obtain ⟨x, hx⟩ : ∃ x, l[k] = x := ⟨_, rfl⟩
   have hcells : Hid (∀ W, Below w.heap.size w W → (W.cell? ⟨g1, o1 + k * 4, none⟩ = some (.int .i64 x.1) ∧ W.cell? ⟨g1, o1 + k * 4 + 1, none⟩ = some (.int .i64 x.2.1) ∧ W.cell? ⟨g1, o1 + k * 4 + 2, none⟩ = some (.int .u8 x.2.2.1.toNat) ∧ W.cell? ⟨g1, o1 + k * 4 + 3, none⟩ = some (.int .i64 x.2.2.2)) ∧ (W.cell? ⟨g2, o2 + k * 4, none⟩ = some (.int .i64 x.1) ∧ W.cell? ⟨g2, o2 + k * 4 + 1, none⟩ = some (.int .i64 x.2.1) ∧ W.cell? ⟨g2, o2 + k * 4 + 2, none⟩ = some (.int .u8 x.2.2.1.toNat) ∧ W.cell? ⟨g2, o2 + k * 4 + 3, none⟩ = some (.int .i64 x.2.2.2))) := by
    intro W hb
    have h1 := ev_at (HA.out.same (fun b hb' => hb.block b (HA.out.lt b hb'))) k hlt
    have h2 := ev_at (HB.out.same (fun b hb' => hb.block b (HB.out.lt b hb'))) k hlt
    rw [hx] at h1 h2
    exact ⟨h1, h2⟩
   have hcall : Hid (∀ W, Below w.heap.size w W → Calls Tryz.prog 102 #[.agg #[.int .i64 x.1, .int .i64 x.2.1, .int .u8 x.2.2.1.toNat, .int .i64 x.2.2.2], .agg #[.int .i64 x.1, .int .i64 x.2.1, .int .u8 x.2.2.1.toNat, .int .i64 x.2.2.2]] W fun e W1 => e = .returned (.bool true) ∧ Hid (Below w.heap.size w W1) ∧ (W1.cell? ⟨g1, o1 + k * 4, none⟩ = some (.int .i64 x.1) ∧ W1.cell? ⟨g1, o1 + k * 4 + 1, none⟩ = some (.int .i64 x.2.1) ∧ W1.cell? ⟨g1, o1 + k * 4 + 2, none⟩ = some (.int .u8 x.2.2.1.toNat) ∧ W1.cell? ⟨g1, o1 + k * 4 + 3, none⟩ = some (.int .i64 x.2.2.2)) ∧ (W1.cell? ⟨g2, o2 + k * 4, none⟩ = some (.int .i64 x.1) ∧ W1.cell? ⟨g2, o2 + k * 4 + 1, none⟩ = some (.int .i64 x.2.1) ∧ W1.cell? ⟨g2, o2 + k * 4 + 2, none⟩ = some (.int .u8 x.2.2.1.toNat) ∧ W1.cell? ⟨g2, o2 + k * 4 + 3, none⟩ = some (.int .i64 x.2.2.2))) := by
    intro W hb
    refine (sameEvent_yes W _ _ _ _ _ _ _ _ rfl rfl rfl rfl).mono ?_
    rintro e W1 ⟨rfl, hb1⟩
    have hb2 : Below w.heap.size w W1 := hb.trans (hb1.mono hb.size)
    exact ⟨rfl, hb2, hcells.out W1 hb2⟩
   obtain ⟨⟨p0, p1, p2, p3⟩, ⟨q0, q1, q2, q3⟩⟩ := hcells.out wr hB.out
   have HBB : Below w.heap.size w wr := hB.out
   clear hcells hx
   obtain ⟨s, t, kk, v⟩ := x
   simp only at p0 p1 p2 p3 q0 q1 q2 q3 hcall
   go_wp2
   go_region_held3 (fun w' => w'.cell? ⟨g1, o1 + k * 4, none⟩ = some (.int .i64 s) ∧ w'.cell? ⟨g1, o1 + k * 4 + 1, none⟩ = some (.int .i64 t) ∧ w'.cell? ⟨g1, o1 + k * 4 + 2, none⟩ = some (.int .u8 kk.toNat) ∧ w'.cell? ⟨g1, o1 + k * 4 + 3, none⟩ = some (.int .i64 v) ∧ w'.cell? ⟨g2, o2 + k * 4, none⟩ = some (.int .i64 s) ∧ w'.cell? ⟨g2, o2 + k * 4 + 1, none⟩ = some (.int .i64 t) ∧ w'.cell? ⟨g2, o2 + k * 4 + 2, none⟩ = some (.int .u8 kk.toNat) ∧ w'.cell? ⟨g2, o2 + k * 4 + 3, none⟩ = some (.int .i64 v))
    (first | (refine ⟨?_, ?_, ?_, ?_, ?_, ?_, ?_, ?_⟩ <;> (repeat (first | assumption | apply drew_keep | apply alloc_keep))) | go_keep)
    (first | (go_at_call 102; refine (hcall.out _ (by repeat (first | exact HBB | apply Below.drew))).mono ?_; rintro e w1 ⟨rfl, hB1, ⟨j0, j1, j2, j3⟩, ⟨k0, k1, k2, k3⟩⟩))
   clear p0 p1 p2 p3 q0 q1 q2 q3 hcall HBB j0 j1 j2 j3 k0 k1 k2 k3
   go_wp2
   go_roundw
   case rel => exact ⟨k + 1, (k : Int) + 1, by omega, by omega, rfl, hB1⟩
   case measure => simp [intOf]; omega
  ·go_wp2
   go_ret
   exact ⟨rfl, hB.out⟩
set_option maxRecDepth 8000 in
set_option maxHeartbeats 4000000 in
theorem sameMatches_yes (w : World) (va vb : Value) (LA LB : List (Mt × Value)) (ha : MS w va LA) (hb : MS w vb LB) (heq : LA.map Prod.fst = LB.map Prod.fst) (hn : LA.length ≤ 1000000000) :
  Calls Tryz.prog 47 #[va, vb] w fun e w' => e = .returned (.bool true) ∧ Below w.heap.size w w' := by
 have hl : LB.length = LA.length := by have := congrArg List.length heq; simpa using this.symm
 obtain ⟨aa, ca, rfl, hca⟩ := ha.row.form
 obtain ⟨ab, cb, rfl, hcb⟩ := hb.row.form
 have HA := Hid.mk' ha
 have HB := Hid.mk' hb
 have HE := Hid.mk' heq
 have HL := Hid.mk' hl
 rw [hl]
 rw [hl] at hcb
 have hbelA : Hid (∀ W, Below w.heap.size w W → MS W (.slice aa LA.length ca) LA) := fun W hb => ⟨HA.out.row.same (fun b hb' => hb.block b (HA.out.row.lt b hb')), fun x hx => (HA.out.ev x hx).same (fun b hb' => hb.block b ((HA.out.ev x hx).lt b hb'))⟩
 have hbelB : Hid (∀ W, Below w.heap.size w W → MS W (.slice ab LB.length cb) LB) := fun W hb => ⟨HB.out.row.same (fun b hb' => hb.block b (HB.out.row.lt b hb')), fun x hx => (HB.out.ev x hx).same (fun b hb' => hb.block b ((HB.out.ev x hx).lt b hb'))⟩
 clear ha hb heq hl
 go_enter Tryz.func47, Tryz.ntmps47
 go_wp2
 go_loopw [5] (fun i wr => ∃ (k : Nat) (z : Int), z = k ∧ k ≤ LA.length ∧ i = .int .i64 z ∧ Hid (Below w.heap.size w wr)) (fun i _ => LA.length - (intOf i).toNat)
 case atStart => exact ⟨0, 0, rfl, Nat.zero_le _, rfl, Below.refl _ _⟩
 case round =>
  obtain ⟨k, z, rfl, hk, rfl, hB⟩ := hrel
  by_cases hlt : k < LA.length
  ·have hkb : k < LB.length := by rw [HL.out]; exact hlt
   obtain ⟨ga, oa, ca', hva, _⟩ := row_some HA.out.row (by omega)
   obtain ⟨gb, ob, cb', hvb, _⟩ := row_some HB.out.row (by omega)
   obtain ⟨rfl, _, rfl⟩ := Value.slice.inj hva
   obtain ⟨rfl, _, rfl⟩ := Value.slice.inj hvb
   clear hva hvb
   have hab : LB[k].1 = LA[k].1 := by
    have h1 : (LA.map Prod.fst)[k]? = (LB.map Prod.fst)[k]? := by rw [HE.out]
    simpa [hlt, hkb] using h1.symm
   obtain ⟨m, hm⟩ : ∃ m, LA[k].1 = m := ⟨_, rfl⟩
   obtain ⟨ua, hua⟩ : ∃ ua, LA[k].2 = ua := ⟨_, rfl⟩
   obtain ⟨ub, hub⟩ : ∃ ub, LB[k].2 = ub := ⟨_, rfl⟩
   rw [hm] at hab
   have hcells : Hid (∀ W, Below w.heap.size w W → (W.cell? ⟨ga, oa + k * 3, none⟩ = some (.int .i64 m.q) ∧ W.cell? ⟨ga, oa + k * 3 + 1, none⟩ = some (.int .i64 m.cl) ∧ W.cell? ⟨ga, oa + k * 3 + 2, none⟩ = some ua) ∧ (W.cell? ⟨gb, ob + k * 3, none⟩ = some (.int .i64 m.q) ∧ W.cell? ⟨gb, ob + k * 3 + 1, none⟩ = some (.int .i64 m.cl) ∧ W.cell? ⟨gb, ob + k * 3 + 2, none⟩ = some ub)) := by
    intro W hb
    have h1 := (hbelA.out W hb).at_ k hlt
    have h2 := MS.at_ (L := LB) (by have := hbelB.out W hb; exact this) k hkb
    rw [hm, hua] at h1
    rw [hab, hub] at h2
    exact ⟨h1, h2⟩
   have hcall : Hid (∀ W, Below w.heap.size w W → Calls Tryz.prog 80 #[ua, ub] W fun e W1 => e = .returned (.bool true) ∧ Hid (Below w.heap.size w W1) ∧ W1.cell? ⟨ga, oa + k * 3 + 2, none⟩ = some ua ∧ W1.cell? ⟨gb, ob + k * 3 + 2, none⟩ = some ub) := by
    intro W hb
    have r1 := (hbelA.out W hb).ev LA[k] (List.getElem_mem hlt)
    have r2 := (hbelB.out W hb).ev LB[k] (List.getElem_mem hkb)
    rw [hm, hua] at r1
    rw [hab, hub] at r2
    refine (sameEvents_yes W ua ub m.evs r1 r2).mono ?_
    rintro e W1 ⟨rfl, hb1⟩
    have hb2 : Below w.heap.size w W1 := hb.trans (hb1.mono hb.size)
    have h3 := hcells.out W1 hb2
    exact ⟨rfl, hb2, h3.1.2.2, h3.2.2.2⟩
   obtain ⟨ea, ecap, rfl, _⟩ : ∃ a c, ua = .slice a m.evs.length c ∧ True := by
    have r1 := HA.out.ev LA[k] (List.getElem_mem hlt)
    rw [hm, hua] at r1
    obtain ⟨a, c, h, _⟩ := r1.form
    exact ⟨a, c, h, trivial⟩
   obtain ⟨eb, fcap, rfl, _⟩ : ∃ a c, ub = .slice a m.evs.length c ∧ True := by
    have r1 := HB.out.ev LB[k] (List.getElem_mem hkb)
    rw [hab, hub] at r1
    obtain ⟨a, c, h, _⟩ := r1.form
    exact ⟨a, c, h, trivial⟩
   obtain ⟨⟨_, _, p2⟩, ⟨_, _, q2⟩⟩ := hcells.out wr hB.out
   have HBB : Below w.heap.size w wr := hB.out
   clear hm hua hub hab
   go_wp2
   go_region_held3 (fun w' => w'.cell? ⟨ga, oa + k * 3 + 2, none⟩ = some (.slice ea m.evs.length ecap) ∧ w'.cell? ⟨gb, ob + k * 3 + 2, none⟩ = some (.slice eb m.evs.length fcap))
    (first | (refine ⟨?_, ?_⟩ <;> (repeat (first | assumption | apply drew_keep | apply alloc_keep))) | go_keep)
    (first | (go_at_call 80; refine (hcall.out _ (by repeat (first | exact HBB | apply Below.drew))).mono ?_; rintro e w1 ⟨rfl, hB1, j2, k2⟩))
   clear p2 q2 hcall HBB j2 k2
   obtain ⟨⟨p0, p1, _⟩, ⟨q0, q1, _⟩⟩ := hcells.out w1 hB1.out
   clear hcells
   go_wp2
   go_quiet (fail)
   go_wp2
   go_roundw
   case rel => exact ⟨k + 1, (k : Int) + 1, by omega, by omega, rfl, below_drewN hB1.out nq⟩
   case measure => simp [intOf]; omega
  ·go_wp2
   go_ret
   exact ⟨rfl, hB.out⟩
end Go.Proofs.YtbgfannlfagoiaaGreatDoor
