import Derived.Test.YtbgfannlfagoiaaGreatDoorRows
import Derived.Test.YtbgfannlfagoiaaGreatDoorZ48
import Derived.ProofKit
import Derived.OpenShut
import Derived.Deep.Slices
import Derived.SliceStrings
import Derived.Conc.Holds
import Derived.Leaving
import Derived.SevenTiedAt
import Derived.JoinedCond
namespace Go.Proofs.YtbgfannlfagoiaaGreatDoor
open Go.ChangeShapes Go.WideShapes Go.ChangeAt Go.RowKit Go.Lull
set_option linter.unusedVariables false

/-! ### Bulk -/
theorem bulk_all {H : Type} (k : Nat) (l : List (DataW H)) (h : ∀ d ∈ l, k ≤ Rows.uptoBulk d) : k * l.length ≤ Rows.uptoBulkAll l := by
 induction l with
 | nil => simp [Rows.uptoBulkAll]
 | cons x r ih =>
  have h1 := h x List.mem_cons_self
  have h2 := ih (fun d hd => h d (List.mem_cons_of_mem _ hd))
  simp only [Rows.uptoBulkAll, List.length_cons, Nat.mul_add, Nat.mul_one]
  omega
theorem bulk_one {H : Type} (d : DataW H) : 1 ≤ Rows.uptoBulk d := by
 cases d with
 | lit l => cases l <;> simp [Rows.uptoBulk]
 | nil => simp [Rows.uptoBulk]
 | ptr d => simp [Rows.uptoBulk]
 | slice elems spare => simp [Rows.uptoBulk]
 | agg parts => simp [Rows.uptoBulk]
 | iface t d => simp [Rows.uptoBulk]
 | map entries => simp [Rows.uptoBulk]
 | held h => simp [Rows.uptoBulk]
/-! ### Cells -/
theorem cells_get {w : World} {a : Addr} {n : Nat} {cs : List Value} (h : w.cells? 0 a n = some cs) : cs.length = n ∧ ∀ j, j < n → w.cell? (a.add j) = cs[j]? := by
 unfold World.cells? at h
 rw [if_pos (Nat.zero_le _)] at h
 refine ⟨by simpa using mapM_some_length h, fun j hj => ?_⟩
 exact mapM_some_get h j j (by simp [hj])
theorem take_one {cs : List Value} {i n : Nat} (hl : cs.length = n) (hi : i < n) : (cs.drop i).take 1 = [cs[i]] := by
 rw [List.drop_eq_getElem_cons (by omega)]
 rfl
section
variable {H : Type} {enc : TypeId × Value → H} {W : World}
theorem Tryz.cellsEv : Tryz.prog.cellsOf 75 = 4 := by kernel_rfl
theorem Tryz.cellsOp : Tryz.prog.cellsOf 41 = 6 := by kernel_rfl
theorem Tryz.cellsI : Tryz.prog.cellsOf 3 = 1 := by kernel_rfl
theorem Tryz.cellsU : Tryz.prog.cellsOf 5 = 1 := by kernel_rfl
theorem Tryz.cellsSt : Tryz.prog.cellsOf 9 = 1 := by kernel_rfl
theorem Tryz.cellsSs : Tryz.prog.cellsOf 38 = 1 := by kernel_rfl
theorem Tryz.cellsEs : Tryz.prog.cellsOf 39 = 1 := by kernel_rfl
/-- A field of one cell, a number. -/
theorem field_int {n i N : Nat} {cs : List Value} {y : DataW H × List MemPlace} (hl : cs.length = N) (hi : i < N) (h : DataW.trod enc Tryz.prog W 0 (fun _ => true) true n 3 ((cs.drop i).take (Tryz.prog.cellsOf 3)) = some y) : ∃ z : Int, cs[i]? = some (.int .i64 z) := by
 rw [Tryz.cellsI, take_one hl hi] at h
 obtain ⟨z, h1, _⟩ := DataW.trod_int Tryz.underlying3 h
 exact ⟨z, by rw [List.getElem?_eq_getElem (by omega)]; simpa using h1⟩
set_option maxRecDepth 100000 in
/-- An event. -/
theorem open_event {fuel : Nat} {cs : List Value} {x : DataW H × List MemPlace} (h : DataW.trod enc Tryz.prog W 0 (fun _ => true) true fuel 75 cs = some x) : ∃ e : Ev, cs = [.int .i64 e.1, .int .i64 e.2.1, .int .u8 e.2.2.1.toNat, .int .i64 e.2.2.2] ∧ 5 ≤ Rows.uptoBulk x.1 := by
 obtain ⟨xs, n, _, rfl, hl, hlen, hf⟩ := DataW.trod_struct Tryz.underlying75 h
 rw [Tryz.cellsEv] at hl
 have hlen4 : xs.length = 4 := hlen
 have hx : ∀ i, i < 4 → ∃ y, xs[i]? = some y := fun i hi => ⟨_, List.getElem?_eq_getElem (by omega)⟩
 obtain ⟨y0, hy0⟩ := hx 0 (by omega)
 obtain ⟨y1, hy1⟩ := hx 1 (by omega)
 obtain ⟨y2, hy2⟩ := hx 2 (by omega)
 obtain ⟨y3, hy3⟩ := hx 3 (by omega)
 obtain ⟨s, hs⟩ := field_int (i := 0) hl (by omega) ((hf 0 _ rfl).trans hy0)
 obtain ⟨t, ht⟩ := field_int (i := 1) hl (by omega) ((hf 1 _ rfl).trans hy1)
 obtain ⟨v, hv⟩ := field_int (i := 3) hl (by omega) ((hf 3 _ rfl).trans hy3)
 have h2 : DataW.trod enc Tryz.prog W 0 (fun _ => true) true n 5 ((cs.drop 2).take (Tryz.prog.cellsOf 5)) = some y2 := (hf 2 _ rfl).trans hy2
 rw [Tryz.cellsU, take_one hl (by omega)] at h2
 obtain ⟨k, hk, _, hwf⟩ := DataW.trod_int Tryz.underlying5 h2
 have e1 : IntKind.u8.min = 0 := rfl
 have e2 : IntKind.u8.max = 255 := rfl
 simp [Lit.wf, e1, e2] at hwf
 have hkk : ((UInt8.ofNat k.toNat).toNat : Int) = k := by
  rw [UInt8.toNat_ofNat']
  omega
 refine ⟨(s, t, UInt8.ofNat k.toNat, v), ?_, ?_⟩
 ·match cs, hl with
  | [c0, c1, c2, c3], _ =>
   simp only [List.getElem?_cons_zero, List.getElem?_cons_succ, Option.some.injEq] at hs ht hv
   simp only [List.getElem_cons_succ, List.getElem_cons_zero, List.cons.injEq, and_true] at hk
   rw [hs, ht, hk, hv, hkk]
 ·have := bulk_all 1 (xs.map (·.1)) (fun d _ => bulk_one d)
  simp only [List.length_map, hlen4] at this
  simp only [Rows.uptoBulk]
  omega
/-- Events among the arguments. -/
theorem open_events {fuel : Nat} {v : Value} {x : DataW H × List MemPlace} (h : DataW.trod enc Tryz.prog W 0 (fun _ => true) true fuel 39 [v] = some x) : ∃ (ea : Option Addr) (ecap : Nat) (l : List Ev), v = .slice ea l.length ecap ∧ ES W v l ∧ 5 * l.length ≤ Rows.uptoBulk x.1 := by
 rcases Go.Deep.open_slice Tryz.underlying39 h with ⟨hc, hx⟩ | ⟨a, len, cap, m, n, D, Pl, hc, hb, hl, hm, hmm, hx, hall⟩
 ·simp only [List.cons.injEq, and_true] at hc
  subst hc
  exact ⟨none, 0, [], rfl, ⟨⟨none, 0, rfl, Nat.le_refl _⟩, fun h => absurd h (by simp), fun g off cap _ i hi => absurd hi (by simp)⟩, by simp⟩
 ·simp only [List.cons.injEq, and_true] at hc
  subst hc
  simp only [if_true] at hmm
  subst hmm
  have hev : ∀ i, i < m → ∃ e : Ev, (∀ j, j < 4 → W.cell? ((a.add (i * 4)).add j) = [Value.int .i64 e.1, .int .i64 e.2.1, .int .u8 e.2.2.1.toNat, .int .i64 e.2.2.2][j]?) ∧ 5 ≤ Rows.uptoBulk (D i) := by
   intro i hi
   obtain ⟨cs, h1, h2⟩ := hall i hi
   rw [Tryz.cellsEv] at h1
   obtain ⟨e, rfl, hbk⟩ := open_event h2
   exact ⟨e, (cells_get h1).2, hbk⟩
  obtain ⟨f, hf⟩ := Go.Deep.choose_lt (α := Ev) hev
  obtain ⟨g, off, spot⟩ := a
  have hsp0 : 0 < m → spot = none := fun hp => by
   have := World.cell?_spot (((hf 0 hp).1 0 (by omega)).trans (List.getElem?_cons_zero))
   simpa [Addr.add] using this
  have hcell : ∀ i, i < m → ∀ j, j < 4 → W.cell? ⟨g, off + i * 4 + j, none⟩ = [Value.int .i64 (f i).1, .int .i64 (f i).2.1, .int .u8 (f i).2.2.1.toNat, .int .i64 (f i).2.2.2][j]? := by
   intro i hi j hj
   have h1 := (hf i hi).1 j hj
   have hs := hsp0 (by omega)
   rw [hs, Go.WideShapes.add_plain, Go.WideShapes.add_plain] at h1
   exact h1
  refine ⟨some ⟨g, off, spot⟩, m, (List.range len).map f, by simp, ⟨⟨some ⟨g, off, spot⟩, m, by simp, by simpa using hl⟩, fun hn => ?_, fun g' off' cap' hv i hi => ?_⟩, ?_⟩
  ·simp at hn
   have hsp := hsp0 (by omega)
   subst hsp
   exact ⟨g, off, m, by simp, by simpa using hl⟩
  ·simp at hi
   have hsp := hsp0 (by omega)
   subst hsp
   obtain ⟨e1, _, _⟩ := Value.slice.inj hv
   cases e1
   have hg : ((List.range len).map f)[i]'(by simpa using hi) = f i := by simp
   rw [hg]
   have := fun j hj => hcell i (by omega) j hj
   exact ⟨this 0 (by omega), this 1 (by omega), this 2 (by omega), this 3 (by omega)⟩
  ·have hx1 : x.1 = .slice ((List.range len).map D) ((List.range (m - len)).map fun j => D (len + j)) := by rw [hx]
   rw [hx1]
   have := bulk_all 5 ((List.range len).map D) (fun d hd => by
    obtain ⟨i, hi, rfl⟩ := List.mem_map.1 hd
    have hi' := List.mem_range.1 hi
    exact (hf i (by omega)).2)
   simp only [List.length_map, List.length_range] at this
   simp only [Rows.uptoBulk, List.length_map, List.length_range]
   omega
/-- Texts among the arguments. -/
theorem open_texts {fuel : Nat} {v : Value} {x : DataW H × List MemPlace} (h : DataW.trod enc Tryz.prog W 0 (fun _ => true) true fuel 38 [v] = some x) : ∃ (tad : Option Addr) (tb toff tcap : Nat) (ss : List ByteArray), v = .slice tad ss.length tcap ∧ TX W tad tb toff ss ∧ ss.length ≤ tcap ∧ ss.length ≤ Rows.uptoBulk x.1 := by
 rcases open_strings Tryz.underlying38 Tryz.underlying9 Tryz.cellsSt h with ⟨hcs, _⟩ | ⟨a, len, cap, ss, hcs, _, hl, hmx, hz, hx, hcell, hws⟩
 ·simp only [List.cons.injEq, and_true] at hcs
  subst hcs
  exact ⟨none, 0, 0, 0, [], rfl, ⟨fun h => absurd rfl h, fun h => absurd rfl h, fun k hk => by cases hk⟩, Nat.le_refl _, Nat.zero_le _⟩
 ·simp only [List.cons.injEq, and_true] at hcs
  subst hcs
  have hss : ss.length = cap := by simpa using hz
  have hlt : (ss.take len).length = len := by rw [List.length_take]; omega
  obtain ⟨b, off, spot⟩ := a
  refine ⟨some ⟨b, off, spot⟩, b, off, cap, ss.take len, by rw [hlt], ?_, by rw [hlt]; exact hl, ?_⟩
  ·have hspot : ss.take len ≠ [] → spot = none := fun he => by
    have hp : 0 < (ss.take len).length := List.length_pos_iff.2 he
    have := World.cell?_spot (hcell 0 (by omega))
    simpa [Addr.add] using this
   refine ⟨fun he => by rw [hspot he], fun he => ?_, fun k hk => ?_⟩
   ·have hp : 0 < (ss.take len).length := List.length_pos_iff.2 he
    have := block_lt_of_cell (hcell 0 (by omega))
    simpa [Addr.add] using this
   ·have he : ss.take len ≠ [] := fun e => by rw [e] at hk; cases hk
    have hsp := hspot he
    subst hsp
    have hk2 : k < ss.length := by rw [hlt] at hk; omega
    have := hcell k hk2
    rw [Go.WideShapes.add_plain] at this
    rw [this]
    simp [hk2]
  ·have hx1 : x.1 = .slice (strs (ss.take len)) (strs (ss.drop len)) := by rw [hx]
   rw [hx1]
   have := bulk_all (H := H) 1 (strs (ss.take len)) (fun d _ => bulk_one d)
   have e1 : (strs (H := H) (ss.take len)).length = (ss.take len).length := by simp [strs]
   rw [e1] at this
   simp only [Rows.uptoBulk]
   omega
set_option maxRecDepth 100000 in
/-- A step of a script. -/
theorem open_op {fuel : Nat} {cs : List Value} {x : DataW H × List MemPlace} (h : DataW.trod enc Tryz.prog W 0 (fun _ => true) true fuel 41 cs = some x) (hbk : Rows.uptoBulk x.1 ≤ 1048576) : ∃ o : OpD, cs = [.int .i64 o.kind, .int .i64 o.k, .int .i64 o.a, .int .i64 o.b, .slice o.tad o.ss.length o.tcap, .slice o.ea o.l.length o.ecap] ∧ OpOK W o ∧ 5 * o.l.length + 1 ≤ Rows.uptoBulk x.1 := by
 obtain ⟨xs, n, _, rfl, hl, hlen, hf⟩ := DataW.trod_struct Tryz.underlying41 h
 rw [Tryz.cellsOp] at hl
 have hlen6 : xs.length = 6 := hlen
 match xs, hlen6 with
 | [y0, y1, y2, y3, y4, y5], _ =>
  obtain ⟨z0, h0⟩ := field_int (i := 0) hl (by omega) ((hf 0 _ rfl).trans rfl)
  obtain ⟨z1, h1⟩ := field_int (i := 1) hl (by omega) ((hf 1 _ rfl).trans rfl)
  obtain ⟨z2, h2⟩ := field_int (i := 2) hl (by omega) ((hf 2 _ rfl).trans rfl)
  obtain ⟨z3, h3⟩ := field_int (i := 3) hl (by omega) ((hf 3 _ rfl).trans rfl)
  have h4 : DataW.trod enc Tryz.prog W 0 (fun _ => true) true n 38 ((cs.drop 4).take (Tryz.prog.cellsOf 38)) = some y4 := hf 4 _ rfl
  have h5 : DataW.trod enc Tryz.prog W 0 (fun _ => true) true n 39 ((cs.drop 5).take (Tryz.prog.cellsOf 39)) = some y5 := hf 5 _ rfl
  rw [Tryz.cellsSs, take_one hl (by omega)] at h4
  rw [Tryz.cellsEs, take_one hl (by omega)] at h5
  match cs, hl with
  | [c0, c1, c2, c3, c4, c5], _ =>
   simp only [List.getElem?_cons_zero, List.getElem?_cons_succ, Option.some.injEq] at h0 h1 h2 h3
   have h4' : DataW.trod enc Tryz.prog W 0 (fun _ => true) true n 38 [c4] = some y4 := h4
   have h5' : DataW.trod enc Tryz.prog W 0 (fun _ => true) true n 39 [c5] = some y5 := h5
   obtain ⟨tad, tb, toff, tcap, ss, e4, hX, hc, hb4⟩ := open_texts h4'
   obtain ⟨ea, ecap, l, e5, hES, hb5⟩ := open_events h5'
   have hbulk : Rows.uptoBulk (DataW.agg ([y0, y1, y2, y3, y4, y5].map (·.1))) = Rows.uptoBulk y0.1 + (Rows.uptoBulk y1.1 + (Rows.uptoBulk y2.1 + (Rows.uptoBulk y3.1 + (Rows.uptoBulk y4.1 + (Rows.uptoBulk y5.1 + 0))))) + 1 := by
    simp only [List.map_cons, List.map_nil, Rows.uptoBulk, Rows.uptoBulkAll]
   rw [hbulk] at hbk ⊢
   refine ⟨⟨z0, z1, z2, z3, tad, tb, toff, tcap, ss, ea, ecap, l⟩, ?_, ⟨hX, by show ss.length ≤ 1048576; omega, hc, by show ES W (.slice ea l.length ecap) l; rw [← e5]; exact hES⟩, by show 5 * l.length + 1 ≤ _; omega⟩
   rw [h0, h1, h2, h3, e4, e5]
/-- A script among the arguments. -/
theorem open_script {fuel : Nat} {v : Value} {x : DataW H × List MemPlace} (h : DataW.trod enc Tryz.prog W 0 (fun _ => true) true fuel 22 [v] = some x) (hbk : Rows.uptoBulk x.1 ≤ 1048576) : ∃ L : List OpD, SCR W v L ∧ L.length ≤ 1048576 ∧ evSum L ≤ 1000000 := by
 rcases Go.Deep.open_slice Tryz.underlying22 h with ⟨hc, hx⟩ | ⟨a, len, cap, m, n, D, Pl, hc, hb, hl, hm, hmm, hx, hall⟩
 ·simp only [List.cons.injEq, and_true] at hc
  subst hc
  exact ⟨[], ⟨⟨none, 0, rfl, Nat.le_refl _⟩, fun h => absurd h (by simp), fun g off cap _ i hi => absurd hi (by simp), fun o ho => by cases ho⟩, Nat.zero_le _, Nat.zero_le _⟩
 ·simp only [List.cons.injEq, and_true] at hc
  subst hc
  simp only [if_true] at hmm
  subst hmm
  have hx1 : x.1 = .slice ((List.range len).map D) ((List.range (m - len)).map fun j => D (len + j)) := by rw [hx]
  rw [hx1] at hbk
  simp only [Rows.uptoBulk] at hbk
  have hDle : ∀ i, i < len → Rows.uptoBulk (D i) ≤ Rows.uptoBulkAll ((List.range len).map D) := by
   intro i hi
   have key : ∀ (l : List (DataW H)) (d : DataW H), d ∈ l → Rows.uptoBulk d ≤ Rows.uptoBulkAll l := by
    intro l
    induction l with
    | nil => intro d hd; cases hd
    | cons y r ih =>
     intro d hd
     simp only [Rows.uptoBulkAll]
     rcases List.mem_cons.1 hd with rfl | hd
     ·omega
     ·have := ih d hd; omega
   exact key _ _ (List.mem_map.2 ⟨i, List.mem_range.2 hi, rfl⟩)
  have hop : ∀ i, i < len → ∃ o : OpD, (∀ j, j < 6 → W.cell? ((a.add (i * 6)).add j) = [Value.int .i64 o.kind, .int .i64 o.k, .int .i64 o.a, .int .i64 o.b, .slice o.tad o.ss.length o.tcap, .slice o.ea o.l.length o.ecap][j]?) ∧ OpOK W o ∧ 5 * o.l.length + 1 ≤ Rows.uptoBulk (D i) := by
   intro i hi
   obtain ⟨cs, h1, h2⟩ := hall i (by omega)
   rw [Tryz.cellsOp] at h1
   obtain ⟨o, rfl, ho, hbo⟩ := open_op h2 (by have := hDle i hi; simp only; omega)
   exact ⟨o, (cells_get h1).2, ho, hbo⟩
  haveI : Inhabited OpD := ⟨⟨0, 0, 0, 0, none, 0, 0, 0, [], none, 0, []⟩⟩
  obtain ⟨f, hf⟩ := Go.Deep.choose_lt (α := OpD) hop
  obtain ⟨g, off, spot⟩ := a
  have hsp0 : 0 < len → spot = none := fun hp => by
   have := World.cell?_spot (((hf 0 hp).1 0 (by omega)).trans (List.getElem?_cons_zero))
   simpa [Addr.add] using this
  have hcell : ∀ i, i < len → ∀ j, j < 6 → W.cell? ⟨g, off + i * 6 + j, none⟩ = [Value.int .i64 (f i).kind, .int .i64 (f i).k, .int .i64 (f i).a, .int .i64 (f i).b, .slice (f i).tad (f i).ss.length (f i).tcap, .slice (f i).ea (f i).l.length (f i).ecap][j]? := by
   intro i hi j hj
   have h1 := (hf i hi).1 j hj
   have hs := hsp0 (by omega)
   rw [hs, Go.WideShapes.add_plain, Go.WideShapes.add_plain] at h1
   exact h1
  have hsumle : ∀ k, k ≤ len → 5 * evSum ((List.range k).map f) + k ≤ Rows.uptoBulkAll ((List.range k).map D) := by
   intro k
   induction k with
   | zero => intro _; simp [evSum, Rows.uptoBulkAll]
   | succ k ih =>
    intro hk
    have h1 := ih (by omega)
    have h2 := (hf k (by omega)).2.2
    have happ : ∀ (l r : List (DataW H)), Rows.uptoBulkAll (l ++ r) = Rows.uptoBulkAll l + Rows.uptoBulkAll r := by
     intro l r
     induction l with
     | nil => simp [Rows.uptoBulkAll]
     | cons y l ih => simp only [List.cons_append, Rows.uptoBulkAll, ih]; omega
    rw [List.range_succ, List.map_append, List.map_append, happ]
    unfold evSum at h1 ⊢
    rw [List.map_append, List.sum_append]
    simp only [List.map_cons, List.map_nil, List.sum_cons, List.sum_nil, Rows.uptoBulkAll]
    omega
  have hs := hsumle len (Nat.le_refl _)
  refine ⟨(List.range len).map f, ⟨⟨some ⟨g, off, spot⟩, m, by simp, by simpa using hl⟩, fun hn => ?_, fun g' off' cap' hv i hi => ?_, fun o ho => ?_⟩, by simp; omega, by omega⟩
  ·simp at hn
   have hsp := hsp0 (by omega)
   subst hsp
   exact ⟨g, off, m, by simp, by simpa using hl⟩
  ·simp at hi
   have hsp := hsp0 (by omega)
   subst hsp
   obtain ⟨e1, _, _⟩ := Value.slice.inj hv
   cases e1
   have hg : ((List.range len).map f)[i]'(by simpa using hi) = f i := by simp
   rw [hg]
   have := fun j hj => hcell i (by omega) j hj
   exact ⟨this 0 (by omega), this 1 (by omega), this 2 (by omega), this 3 (by omega), this 4 (by omega), this 5 (by omega)⟩
  ·obtain ⟨i, hi, rfl⟩ := List.mem_map.1 ho
   exact (hf i (List.mem_range.1 hi)).2.1
end
end Go.Proofs.YtbgfannlfagoiaaGreatDoor

namespace Go.Proofs.YtbgfannlfagoiaaGreatDoor
open Go

/-- A call behind which nobody else is there: 'leaving' says less. -/
theorem leaving_of_handed {a : Assume} {C : Checked} {os : Os} {f : FuncId} {r : Reach} {Pre : World → Array Value → Prop} {Post : World → Array Value → Value → World → Prop} (h : ReturnsInHanded a C os f r Pre Post) : ReturnsInLeavingWide a C os f r Pre Post := fun enter => by
 obtain ⟨h0, h1, h2, h3, h4⟩ := h enter
 refine ⟨h0, h1, h2, h3, fun w tape i hf => ?_⟩
 obtain ⟨n, v, w', hn, hc, hr, hp, ⟨j, last, hj, hs, hq, hh, he⟩, ha⟩ := h4 w tape i hf
 exact ⟨n, v, w', hn, hc, hr, hp, ⟨j, last, hj, hs, hh, onlyLeaving_of_quiet hq, he⟩, ha⟩

/-- A tied card of a row that can start goroutines, or not: as its text says. -/
theorem tied_goes (g : Bool) (Lk : Looks) {p : Pinned} {s : OpenSpec} {c : OpenClaim} (kinds : List LaidKind) (tests : Bool) (har : Bool × String) (lk : Bool)
  (hc : c.holds p s) (hw : c.wfByText s = true) (htie : c.laidByTextAt Lk p kinds tests)
  (hst : c.start = .entering) (hnb : c.noBlocks = false ∧ c.again = false) (hm : p.checked.prog.mainIs = some (har.1, har.2.toList)) (hn : (!har.1 && har.2.isEmpty && !lk) = false)
  (hl : ∀ f fn, p.checked.prog.funcNamed c.func = some f → p.checked.prog.funcs[f]? = some fn → lk = p.checked.prog.looks [] ∧ ∀ (j : Nat) t, fn.params[j]? = some t → p.checked.prog.wantsStandIn t = false)
  (hg : g = c.goesBy p.checked.prog) :
  Claim7.holds p (.plain s) { stood := { row := c, standIns := [], harness := har, looks := lk }, kinds := [], alts := [], goes := g, laidByText := true, laidKinds := kinds, laidTests := tests, laidLooks := Lk } := by
 have h6 : Claim7.isSixth { stood := { row := c, standIns := [], harness := har, looks := lk }, kinds := [] } = false := by simpa [Claim7.isSixth] using hn
 exact ⟨Claim7.tied_new_at Lk kinds tests (Claim7.new_of_sixth hc har lk hst hnb hm h6 hl) hw, fun D hD => (by cases hD), htie, (fun h => by cases h), hg⟩
end Go.Proofs.YtbgfannlfagoiaaGreatDoor

namespace Go.Proofs.YtbgfannlfagoiaaGreatDoor
open Go

/-- A row that says 'leaving' asks less than the same row without it. -/
theorem holds_leaving {p : Pinned} {s : OpenSpec} {c : OpenClaim} (hstart : c.start = .entering) (hstops : c.stops = []) (hlv : c.leaving = true) (hwf : c.wf s = true) (h : OpenClaim.holds p s { c with leaving := false }) : c.holds p s := by
 obtain ⟨_, a2, a3, a4, a5, a6, a7, a8, f, fn, b1, b2, b3, b4, b5, b6, b7, b8, b9, b10, b11, b12, b13, b14, b15, b16, b17, b18, b19, b20, b21, L, hL, hall⟩ := h
 refine ⟨hwf, a2, a3, a4, a5, a6, a7, a8, f, fn, b1, b2, b3, b4, b5, b6, b7, b8, b9, b10, b11, b12, b13, b14, b15, b16, b17, b18, b19, b20, b21, L, hL, fun os st q H enc inj => ?_⟩
 have hf := hall os st q H enc inj
 unfold OpenClaim.form at hf ⊢
 rw [show ({ c with leaving := false } : OpenClaim).start = .entering from hstart, show ({ c with leaving := false } : OpenClaim).stops = [] from hstops] at hf
 rw [hstart, hstops]
 intro F
 obtain ⟨h0, h1, h2, h3, h4⟩ := hf F
 refine ⟨h0, h1, h2, h3, fun w tape i hh => ?_⟩
 obtain ⟨n, v, w', hn, hc, hr, hp, ⟨j, last, hj, hs, hq, hh2, he⟩, ha⟩ := h4 w tape i hh
 refine ⟨n, v, w', hn, hc, hr, hp, ⟨j, last, hj, hs, ?_⟩, ha⟩
 unfold OpenClaim.atReturn
 rw [hlv]
 exact ⟨hh2, onlyLeaving_of_quiet hq, he⟩
end Go.Proofs.YtbgfannlfagoiaaGreatDoor
