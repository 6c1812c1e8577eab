import Derived.Test.YtbgfannlfagoiaaGreatDoorZ32
namespace Go.Proofs.YtbgfannlfagoiaaGreatDoor
open Go.RowKit Go.Lull
set_option linter.unusedVariables false

/-- The cells of a query that All reads. -/
structure QC (W : World) (qb sb sc lc lb : Nat) (q : RQ) (k : Nat) : Prop where
 q0 : W.cell? ⟨qb, 0, none⟩ = some (.int .i64 q.id)
 q1 : W.cell? ⟨qb, 1, none⟩ = some (.slice (some ⟨sb, 0, none⟩) q.st.length sc)
 q2 : W.cell? ⟨qb, 2, none⟩ = some (.int .i64 q.wn)
 q3 : W.cell? ⟨qb, 3, none⟩ = some (.slice (some ⟨lb, 0, none⟩) q.seen.length lc)
 s0 : W.cell? ⟨sb, 0, none⟩ = some (.bool (q.st.getD 0 noStep).1)
 s1 : W.cell? ⟨sb, 1, none⟩ = some (.int .u8 (q.st.getD 0 noStep).2.1.toNat)
 s2 : W.cell? ⟨sb, 2, none⟩ = some (.int .u8 (q.st.getD 0 noStep).2.2.1.toNat)
 s3 : W.cell? ⟨sb, 3, none⟩ = some (.int .i64 (q.st.getD 0 noStep).2.2.2)
 e0 : W.cell? ⟨lb, k * 4, none⟩ = some (.int .i64 (q.seen.getD k noEv).1)
 e1 : W.cell? ⟨lb, k * 4 + 1, none⟩ = some (.int .i64 (q.seen.getD k noEv).2.1)
 e2 : W.cell? ⟨lb, k * 4 + 2, none⟩ = some (.int .u8 (q.seen.getD k noEv).2.2.1.toNat)
 e3 : W.cell? ⟨lb, k * 4 + 3, none⟩ = some (.int .i64 (q.seen.getD k noEv).2.2.2)
 sl : W.cell? ⟨sb, (q.st.length - 1) * 4, none⟩ = some (.bool (lateB q.st))
theorem QM.qc {W : World} {qb sb sc lc lb : Nat} {q : RQ} (h : QM W qb sb sc lc (some ⟨lb, 0, none⟩) q) (hne : q.st ≠ []) (k : Nat) (hk : k < q.seen.length) : QC W qb sb sc lc lb q k := by
 obtain ⟨lb', e1, hE⟩ := h.seen k hk
 obtain rfl : lb = lb' := by simpa using e1
 have hl := List.length_pos_iff.2 hne
 refine ⟨?_, ?_, ?_, ?_, ?_, ?_, ?_, ?_, hE.c0 k hk, hE.c1 k hk, hE.c2 k hk, hE.c3 k hk, h.st.c0 (q.st.length - 1) (by omega)⟩
 ·rw [cell_of_row W qb 0 _ _ _ h.blk]; rfl
 ·rw [cell_of_row W qb 1 _ _ _ h.blk]; rfl
 ·rw [cell_of_row W qb 2 _ _ _ h.blk]; rfl
 ·rw [cell_of_row W qb 3 _ _ _ h.blk]; rfl
 ·simpa using h.st.c0 0 hl
 ·simpa using h.st.c1 0 hl
 ·simpa using h.st.c2 0 hl
 ·simpa using h.st.c3 0 hl

theorem items_succ (st : List Stp) (w : Int) (q : Nat) (S : List Ev) (M : Int) (k : Nat) : itemsB st w q S M (k + 1) = itemsB st w q S M k ++ (itemB st w q S M k).toList := by
 unfold itemsB
 rw [List.range_succ, List.filterMap_append]
 cases h : itemB st w q S M k <;> simp [h]
theorem runs_succ (st : List Stp) (w : Int) (S : List Ev) (M : Int) (k : Nat) : runsB st w S M (k + 1) = runsB st w S M k + (if (firstF1 st S k && !(pathB st w S k M).2.2.2) = true then 1 else 0) := by
 unfold runsB
 rw [List.range_succ, List.filter_append, List.length_append]
 congr 1
 rw [List.filter_cons, List.filter_nil]
 split <;> rfl
theorem closeJ_le (st : List Stp) (w : Int) (S : List Ev) (M : Int) (i n : Nat) : closeJ st w S M i n ≤ S.length := by
 unfold closeJ
 cases h : (List.range S.length).find? (hitB st w S M i n) with
 | none => exact Nat.le_refl _
 | some j => exact Nat.le_of_lt (List.mem_range.1 (List.mem_of_find?_eq_some h))
theorem below_drew {w W : World} (h : Below w.drew.heap.size w.drew W) : Below w.heap.size w W := ⟨h.os, h.tape, h.output, h.size, h.block⟩

set_option maxRecDepth 8000 in
set_option maxHeartbeats 8000000 in
theorem all_loop {w : World} {qb sb sc lc lb : Nat} {q : RQ} {M : Int} (h : QM w qb sb sc lc (some ⟨lb, 0, none⟩) q) (hq : RQok M q) (hlen : q.seen.length ≤ 1000000) :
  Calls Tryz.prog 79 #[.pointer (some ⟨qb, 0, none⟩), .int .i64 M] w fun e w' => ∃ a c O, e = .returned (.tuple #[.slice a O.length c, .int .i64 ((q.all M).runs.length : Int)]) ∧ O.map Prod.fst = (q.all M).found ∧ Below w.heap.size w w' ∧ MS w' (.slice a O.length c) O ∧ (∀ b ∈ (Value.slice a O.length c).ownBlock.toList ++ eblk (O.map fp), w.heap.size ≤ b) ∧ (∀ b, (Value.slice a O.length c).ownBlock = some b → b ∉ eblk (O.map fp)) := by
 have hne := hq.vp.ne
 have hl0 := List.length_pos_iff.2 hne
 have hl8 := hq.len
 have hlc := h.lc
 have HC : Hid (∀ W k, Below w.heap.size w W → k < q.seen.length → QC W qb sb sc lc lb q k) := fun W k hb hk => (h.below hb).qc hne k hk
 have hfits : Hid (∀ W k, Below w.heap.size w W → k < q.seen.length → Calls Tryz.prog 98 #[.agg #[.bool (q.st.getD 0 noStep).1, .int .u8 (q.st.getD 0 noStep).2.1.toNat, .int .u8 (q.st.getD 0 noStep).2.2.1.toNat, .int .i64 (q.st.getD 0 noStep).2.2.2], .agg #[.int .i64 (q.seen.getD k noEv).1, .int .i64 (q.seen.getD k noEv).2.1, .int .u8 (q.seen.getD k noEv).2.2.1.toNat, .int .i64 (q.seen.getD k noEv).2.2.2]] W fun e w' => e = .returned (.bool (firstF1 q.st q.seen k)) ∧ Hid (Below w.heap.size w w' ∧ Below W.heap.size W w') ∧ w'.cell? ⟨qb, 1, none⟩ = some (.slice (some ⟨sb, 0, none⟩) q.st.length sc) ∧ w'.cell? ⟨qb, 3, none⟩ = some (.slice (some ⟨lb, 0, none⟩) q.seen.length lc) ∧ w'.cell? ⟨sb, 0, none⟩ = some (.bool (q.st.getD 0 noStep).1) ∧ w'.cell? ⟨sb, 1, none⟩ = some (.int .u8 (q.st.getD 0 noStep).2.1.toNat) ∧ w'.cell? ⟨sb, 2, none⟩ = some (.int .u8 (q.st.getD 0 noStep).2.2.1.toNat) ∧ w'.cell? ⟨sb, 3, none⟩ = some (.int .i64 (q.st.getD 0 noStep).2.2.2) ∧ w'.cell? ⟨lb, k * 4, none⟩ = some (.int .i64 (q.seen.getD k noEv).1) ∧ w'.cell? ⟨lb, k * 4 + 1, none⟩ = some (.int .i64 (q.seen.getD k noEv).2.1) ∧ w'.cell? ⟨lb, k * 4 + 2, none⟩ = some (.int .u8 (q.seen.getD k noEv).2.2.1.toNat) ∧ w'.cell? ⟨lb, k * 4 + 3, none⟩ = some (.int .i64 (q.seen.getD k noEv).2.2.2)) := by
  intro W k hb hk
  refine (fits_any (q.st.getD 0 noStep) (q.seen.getD k noEv) W).mono ?_
  rintro e w' ⟨rfl, rfl⟩
  have hb2 : Below W.heap.size W ((W.alloc (stepObj (q.st.getD 0 noStep))).alloc (evObj (q.seen.getD k noEv))) := ((Below.refl _ _).alloc (Nat.le_refl _) _).alloc (by simp) _
  have hB : Below w.heap.size w ((W.alloc (stepObj (q.st.getD 0 noStep))).alloc (evObj (q.seen.getD k noEv))) := hb.trans (hb2.mono hb.size)
  obtain ⟨z0, z1, z2, z3, y0, y1, y2, y3, x0, x1, x2, x3, _⟩ := HC.out _ k hB hk
  exact ⟨rfl, ⟨hB, hb2⟩, z1, z3, y0, y1, y2, y3, x0, x1, x2, x3⟩
 have hpath : Hid (∀ W k, Below w.heap.size w W → k < q.seen.length → Calls Tryz.prog 99 #[.agg #[.slice (some ⟨sb, 0, none⟩) q.st.length sc, .int .i64 q.wn], .slice (some ⟨lb, 0, none⟩) q.seen.length lc, .int .i64 k, .int .i64 M] W fun e w' => ∃ a c, e = .returned (.tuple #[.slice a (pathB q.st q.wn q.seen k M).1.length c, .int .i64 (pathB q.st q.wn q.seen k M).2.1, .bool (pathB q.st q.wn q.seen k M).2.2.1, .bool (pathB q.st q.wn q.seen k M).2.2.2]) ∧ Hid (Below w.heap.size w w' ∧ Below W.heap.size W w' ∧ w'.ownsRow W.heap.size 75 4 (.slice a (pathB q.st q.wn q.seen k M).1.length c) (pathB q.st q.wn q.seen k M).1.length ((pathB q.st q.wn q.seen k M).1.flatMap evC)) ∧ w'.cell? ⟨qb, 1, none⟩ = some (.slice (some ⟨sb, 0, none⟩) q.st.length sc) ∧ w'.cell? ⟨qb, 2, none⟩ = some (.int .i64 q.wn) ∧ w'.cell? ⟨qb, 3, none⟩ = some (.slice (some ⟨lb, 0, none⟩) q.seen.length lc)) := by
  intro W k hb hk
  have := path_of (h.below hb) hq hlen M k hk q.seen.length lc hk (Nat.le_refl _) hlc
  rw [List.take_length] at this
  refine this.mono ?_
  rintro e w' ⟨a, c, rfl, hb2, ho⟩
  have hB : Below w.heap.size w w' := hb.trans (hb2.mono hb.size)
  obtain ⟨z0, z1, z2, z3, _⟩ := HC.out _ k hB hk
  exact ⟨a, c, rfl, ⟨hB, hb2, ho⟩, z1, z2, z3⟩
 have hat : Hid (∀ W (i n : Nat), Below w.heap.size w W → i < q.seen.length → Calls Tryz.prog 100 #[.pointer (some ⟨qb, 0, none⟩), .int .i64 i, .int .i64 n, .int .i64 M] W fun e w' => e = .returned (.int .i64 (closeJ q.st q.wn q.seen M i n : Int)) ∧ Hid (Below W.heap.size W w')) := fun W i n hb hi => at_any (h.below hb) hq hlen M i n hi
 have HB0 : Hid (q.seen.length ≤ lc) := h.lc
 have hc0 : Hid (∀ W, Below w.heap.size w W → W.cell? ⟨qb, 3, none⟩ = some (.slice (some ⟨lb, 0, none⟩) q.seen.length lc)) := fun W hb => by rw [cell_of_row W qb 3 _ _ _ (h.below hb).blk]; rfl
 have hall := all_ref hq hlen
 have hnd := Hid.mk' (items_nodup q.st q.wn q.id q.seen M hlen q.seen.length (Nat.le_refl _))
 obtain ⟨⟨T0, t1, t2, t3⟩, hruns⟩ := hall
 have HT := Hid.mk' (And.intro t1 (And.intro t2 (And.intro t3 hruns)))
 obtain ⟨FO, hFO⟩ : ∃ FO, (q.all M).found = FO := ⟨_, rfl⟩
 obtain ⟨RN, hRN⟩ : ∃ RN, (q.all M).runs.length = RN := ⟨_, rfl⟩
 rw [hFO, hRN] at HT
 rw [hFO, hRN]
 clear h hq t1 t2 t3 hruns hFO hRN
 go_enter Tryz.func79, Tryz.ntmps79
 go_wp2
 go_loopw [6, 7, 8] (fun lv rv iv wr => ∃ (k rr : Nat) (L : List (It × Value)) (la : Option Addr) (lcp : Nat) (z zr : Int), z = k ∧ iv = .int .i64 z ∧ zr = rr ∧ rv = .int .i64 zr ∧ k ≤ q.seen.length ∧ rr ≤ k ∧ L.length ≤ k ∧ lv = .slice la L.length lcp ∧ Hid (L.map Prod.fst = itemsB q.st q.wn q.id q.seen M k ∧ rr = runsB q.st q.wn q.seen M k) ∧ Hid (IS w wr (.slice la L.length lcp) L)) (fun _ _ iv _ => q.seen.length - (intOf iv).toNat)
 case atStart => exact ⟨0, 0, [], none, 0, 0, 0, rfl, rfl, rfl, rfl, Nat.zero_le _, Nat.zero_le _, Nat.zero_le _, rfl, ⟨rfl, rfl⟩, Hid.mk' (IS.nil w)⟩
 case round =>
  obtain ⟨k, rr, L, la, lcp, z, zr, rfl, rfl, rfl, rfl, hk, hrr, hLk, rfl, hit, hI⟩ := hrel
  have c3 := hc0.out wr hI.out.below
  by_cases hlt : k < q.seen.length
  ·obtain ⟨z0, z1, z2, z3, y0, y1, y2, y3, x0, x1, x2, x3, x4⟩ := HC.out wr k hI.out.below hlt
   have HB := hI.out.below
   obtain ⟨t0, ht0⟩ : ∃ t0, q.st.getD 0 noStep = t0 := ⟨_, rfl⟩
   obtain ⟨ee, hee⟩ : ∃ ee, q.seen.getD k noEv = ee := ⟨_, rfl⟩
   have hf := Hid.mk' (fun W hb => hfits.out W k hb hlt)
   rw [ht0, hee] at hf
   rw [ht0] at y0 y1 y2 y3
   rw [hee] at x0 x1 x2 x3
   obtain ⟨t1, t2, t3, t4⟩ := t0
   obtain ⟨es, et, ek, ev⟩ := ee
   simp only at y0 y1 y2 y3 x0 x1 x2 x3 hf
   clear ht0 hee c3
   go_wp2
   go_region_held3 (fun w' => w'.cell? ⟨qb, 1, none⟩ = some (.slice (some ⟨sb, 0, none⟩) q.st.length sc) ∧ w'.cell? ⟨qb, 3, none⟩ = some (.slice (some ⟨lb, 0, none⟩) q.seen.length lc) ∧ w'.cell? ⟨sb, 0, none⟩ = some (.bool t1) ∧ w'.cell? ⟨sb, 1, none⟩ = some (.int .u8 t2.toNat) ∧ w'.cell? ⟨sb, 2, none⟩ = some (.int .u8 t3.toNat) ∧ w'.cell? ⟨sb, 3, none⟩ = some (.int .i64 t4) ∧ w'.cell? ⟨lb, k * 4, none⟩ = some (.int .i64 es) ∧ w'.cell? ⟨lb, k * 4 + 1, none⟩ = some (.int .i64 et) ∧ w'.cell? ⟨lb, k * 4 + 2, none⟩ = some (.int .u8 ek.toNat) ∧ w'.cell? ⟨lb, k * 4 + 3, none⟩ = some (.int .i64 ev))
    (first | (refine ⟨?_, ?_, ?_, ?_, ?_, ?_, ?_, ?_, ?_, ?_⟩ <;> (repeat (first | assumption | apply drew_keep | apply alloc_keep))) | go_keep)
    (first | (go_at_call 98; refine (hf.out _ (by repeat (first | exact HB | apply Below.drew))).mono ?_; rintro e w1 ⟨rfl, hB1, k1, k2, k3, k4, k5, k6, k7, k8, k9, k10⟩))
   have hnx := Hid.mk' (And.intro (items_succ q.st q.wn q.id q.seen M k) (runs_succ q.st q.wn q.seen M k))
   obtain ⟨R, hR⟩ : ∃ R, pathB q.st q.wn q.seen k M = R := ⟨_, rfl⟩
   have hpk := Hid.mk' (fun W hb => hpath.out W k hb hlt)
   have hib : Hid (itemB q.st q.wn q.id q.seen M k = if firstF1 q.st q.seen k = true ∧ R.2.2.1 = true then some ⟨⟨q.id, R.2.1, R.1⟩, lateB q.st, if lateB q.st = true then (k : Int) else (closeJ q.st q.wn q.seen M k R.1.length : Int) * 1000000 + k⟩ else none) := by
    unfold Hid itemB; rw [hR]
   rw [hR] at hpk hnx
   have hI1 := Hid.mk' (hI.out.then (below_drew hB1.out.2))
   have HB1 := hB1.out.1
   clear z0 z1 z2 z3 y0 y1 y2 y3 x0 x1 x2 x3 x4 k3 k4 k5 k6 k7 k8 k9 k10 hR hf
   cases hff : firstF1 q.st q.seen k with
   | false =>
    rw [hff] at hib hnx
    have hit2 : Hid (L.map Prod.fst = itemsB q.st q.wn q.id q.seen M (k + 1) ∧ rr = runsB q.st q.wn q.seen M (k + 1)) := by
     unfold Hid
     rw [hnx.out.1, hnx.out.2, hib.out, if_neg (fun h => by cases h.1), ← hit.out.1, ← hit.out.2]
     simp
    clear hib hnx
    go_wp2
    go_roundw
    case rel => exact ⟨k + 1, rr, L, la, lcp, (k : Int) + 1, (rr : Int), by omega, rfl, rfl, rfl, by omega, by omega, by omega, rfl, hit2, hI1⟩
    case measure => simp [intOf]; omega
   | true =>
    rw [hff] at hib hnx
    obtain ⟨tk, cl, ok, ov⟩ := R
    simp only at hib hnx hpk
    obtain ⟨z0, z1, z2, z3, y0, y1, y2, y3, x0, x1, x2, x3, x4⟩ := HC.out w1 k HB1 hlt
    clear y0 y1 y2 y3 x0 x1 x2 x3 x4
    go_wp2
    go_region_held3 (fun w' => w'.cell? ⟨qb, 1, none⟩ = some (.slice (some ⟨sb, 0, none⟩) q.st.length sc) ∧ w'.cell? ⟨qb, 2, none⟩ = some (.int .i64 q.wn) ∧ w'.cell? ⟨qb, 3, none⟩ = some (.slice (some ⟨lb, 0, none⟩) q.seen.length lc))
     (first | (refine ⟨?_, ?_, ?_⟩ <;> (repeat (first | assumption | apply drew_keep | apply alloc_keep))) | go_keep)
     (first | (go_at_call 99; refine (hpk.out _ (by repeat (first | exact HB1 | apply Below.drew))).mono ?_; rintro e w2 ⟨pa, pc, rfl, hB2, m1, m2, m3⟩))
    have hI2 := Hid.mk' (hI1.out.then (below_drew hB2.out.2.1))
    have HB2 := hB2.out.1
    obtain ⟨z0, z1, z2, z3, y0, y1, y2, y3, x0, x1, x2, x3, x4⟩ := HC.out w2 k HB2 hlt
    clear y0 y1 y2 y3 x0 x1 x2 x3 m1 m2 m3
    obtain ⟨st1, hst1⟩ : ∃ n1 : Nat, q.st.length = n1 + 1 := ⟨q.st.length - 1, by omega⟩
    have hix : (q.st.length : Int) - 1 = (st1 : Int) := by omega
    rw [show q.st.length - 1 = st1 by omega] at x4
    have hw1 : IntKind.i64.wrap (st1 : Int) = (st1 : Int) := IntWalk.i64_in _ (by omega)
    have hst2 : (st1 : Int) < (st1 : Int) + 1 := by omega
    have hst3 : (0 : Int) ≤ (st1 : Int) := by omega
    have hqbl : qb < w2.heap.size := block_lt_of_cell z0
    have hsbl : sb < w2.heap.size := block_lt_of_cell x4
    have a0 := (((Below.refl w2.heap.size w2).alloc (Nat.le_refl _) (.cells #[.int .i64 0, .int .i64 0, .slice none 0 0, .bool false, .int .i64 0] 178)).cell (p := ⟨qb, 0, none⟩) hqbl).trans z0
    have a1 := (((Below.refl w2.heap.size w2).alloc (Nat.le_refl _) (.cells #[.int .i64 0, .int .i64 0, .slice none 0 0, .bool false, .int .i64 0] 178)).cell (p := ⟨qb, 1, none⟩) hqbl).trans z1
    have a4 := (((Below.refl w2.heap.size w2).alloc (Nat.le_refl _) (.cells #[.int .i64 0, .int .i64 0, .slice none 0 0, .bool false, .int .i64 0] 178)).cell (p := ⟨sb, st1 * 4, none⟩) hsbl).trans x4
    rw [hst1] at z1 a1
    cases ok with
    | false =>
     have hit2 : Hid (L.map Prod.fst = itemsB q.st q.wn q.id q.seen M (k + 1) ∧ (if ov = true then rr else rr + 1) = runsB q.st q.wn q.seen M (k + 1)) := by
      unfold Hid
      rw [hnx.out.1, hnx.out.2, hib.out, if_neg (fun h => by cases h.2), ← hit.out.1, ← hit.out.2]
      cases ov <;> simp
     clear hib hnx
     cases ov with
     | true =>
      go_wp2
      go_roundw
      case rel => exact ⟨k + 1, rr, L, la, lcp, (k : Int) + 1, (rr : Int), by omega, rfl, rfl, rfl, by omega, by omega, by omega, rfl, hit2, hI2⟩
      case measure => simp [intOf]; omega
     | false =>
      go_wp2
      go_roundw
      case rel => exact ⟨k + 1, rr + 1, L, la, lcp, (k : Int) + 1, (rr : Int) + 1, by omega, rfl, by omega, rfl, by omega, by omega, by omega, rfl, hit2, hI2⟩
      case measure => simp [intOf]; omega
    | true =>
     obtain ⟨r2, hr2⟩ : ∃ r2 : Nat, r2 = (if ov = true then rr else rr + 1) := ⟨_, rfl⟩
     have hr2k : r2 ≤ k + 1 := by rw [hr2]; split <;> omega
     have hcj := closeJ_le q.st q.wn q.seen M k tk.length
     obtain ⟨cj, hcje⟩ : ∃ cj, closeJ q.st q.wn q.seen M k tk.length = cj := ⟨_, rfl⟩
     have hatk := Hid.mk' (fun W hb => hat.out W k tk.length hb hlt)
     rw [hcje] at hib hatk hcj
     have hrow2 : Hid (Row w2 75 4 (.slice pa tk.length pc) tk.length (tk.flatMap evC) ∧ ∀ b, (Value.slice pa tk.length pc).ownBlock = some b → w.heap.size ≤ b ∧ (Value.slice la L.length lcp).ownBlock ≠ some b) := by
      have ho := hB2.out.2.2
      refine ⟨Row.of_own ho, fun b hb => ?_⟩
      have h1 : w1.heap.size ≤ b := own_row ho b hb
      have h2 := HB1.size
      exact ⟨by omega, fun e => by have := hI1.out.row.lt b e; omega⟩
     clear hcje hB2 hB1
     cases ov
     all_goals
      simp only [if_true, if_false, Bool.false_eq_true] at hr2
      have hit2 : Hid (∀ x : It, itemB q.st q.wn q.id q.seen M k = some x → L.map Prod.fst ++ [x] = itemsB q.st q.wn q.id q.seen M (k + 1) ∧ r2 = runsB q.st q.wn q.seen M (k + 1)) := by
       intro x hx
       rw [hnx.out.1, hnx.out.2, hx, ← hit.out.1, ← hit.out.2, hr2]
       simp
      clear hnx
      go_wp2
      go_region
      obtain ⟨W3, hW3⟩ : ∃ W3, (w2.alloc (.cells #[.int .i64 q.id, .int .i64 cl, .slice pa tk.length pc, .bool (lateB q.st), .int .i64 k] 178)).drew = W3 := ⟨_, rfl⟩
      have hb3 : Below w2.heap.size w2 W3 := by rw [← hW3]; exact ((Below.refl _ _).alloc (Nat.le_refl _) _).drew
      have hblk3 : W3.heap[w2.heap.size]? = some (.cells #[.int .i64 q.id, .int .i64 cl, .slice pa tk.length pc, .bool (lateB q.st), .int .i64 k] 178 (0, 0)) := by rw [← hW3]; exact heap_alloc_new _ _
      rw [hW3]
      have hI3 := Hid.mk' (hI2.out.then hb3)
      have hrow3 := Hid.mk' (hrow2.out.1.same (w' := W3) (fun b hb => hb3.block b (hrow2.out.1.lt b hb)))
      have g0 : W3.cell? ⟨w2.heap.size, 0, none⟩ = some (.int .i64 q.id) := by rw [cell_of_row W3 w2.heap.size 0 _ _ _ hblk3]; rfl
      have g1 : W3.cell? ⟨w2.heap.size, 1, none⟩ = some (.int .i64 cl) := by rw [cell_of_row W3 w2.heap.size 1 _ _ _ hblk3]; rfl
      have g2 : W3.cell? ⟨w2.heap.size, 2, none⟩ = some (.slice pa tk.length pc) := by rw [cell_of_row W3 w2.heap.size 2 _ _ _ hblk3]; rfl
      have g3 : W3.cell? ⟨w2.heap.size, 3, none⟩ = some (.bool (lateB q.st)) := by rw [cell_of_row W3 w2.heap.size 3 _ _ _ hblk3]; rfl
      have g4 : W3.cell? ⟨w2.heap.size, 4, none⟩ = some (.int .i64 k) := by rw [cell_of_row W3 w2.heap.size 4 _ _ _ hblk3]; rfl
      have hbx : w2.heap.size < W3.heap.size := lt_of_block hblk3
      have HBLK := Hid.mk' hblk3
      clear hW3 z0 z1 z2 z3 x4 a0 a1 a4 hblk3
      cases hlt2 : lateB q.st with
      | true =>
       rw [hlt2] at g3 hib
       have hit3 := Hid.mk' (hit2.out ⟨⟨q.id, cl, tk⟩, true, (k : Int)⟩ (by rw [hib.out]; simp))
       clear hit2 hib
       go_wp2_with (at_builtin; refine append_it W3 rfl _ _ rfl (.slice la L.length lcp) L.length (L.flatMap itL) rfl hI3.out.row W3.heap.size rfl rfl (by simp [Value.oneCell']) (by omega) ?_)
       intro gg go_ gc w5 r5 g5 b5
       have hI5 : Hid (IS w w5 (.slice (some ⟨gg, go_, none⟩) (L ++ [((⟨⟨q.id, cl, tk⟩, true, (k : Int)⟩ : It), Value.slice pa tk.length pc)]).length gc) (L ++ [((⟨⟨q.id, cl, tk⟩, true, (k : Int)⟩ : It), Value.slice pa tk.length pc)])) := by
        have := IS.push (x := ⟨⟨q.id, cl, tk⟩, true, (k : Int)⟩) (ev := .slice pa tk.length pc) hI3.out hrow3.out hrow2.out.2 r5 g5 b5
        unfold Hid
        rw [List.length_append]
        exact this
       clear r5 g5 b5
       go_wp2
       go_roundw
       case rel => exact ⟨k + 1, r2, _, some ⟨gg, go_, none⟩, gc, (k : Int) + 1, _, by omega, rfl, by omega, rfl, by omega, by omega, by simp; omega, by simp, ⟨by simpa using hit3.out.1, hit3.out.2⟩, hI5⟩
       case measure => simp [intOf]; omega
      | false =>
       rw [hlt2] at g3 hib
       have hit3 := Hid.mk' (hit2.out ⟨⟨q.id, cl, tk⟩, false, (cj : Int) * 1000000 + k⟩ (by rw [hib.out]; simp))
       have hbx4 : Hid (∀ w4, Below W3.heap.size W3 w4 → w4.heap[w2.heap.size]? = some (.cells #[.int .i64 q.id, .int .i64 cl, .slice pa tk.length pc, .bool false, .int .i64 k] 178 (0, 0))) := fun w4 hb => by
        rw [hb.block w2.heap.size hbx, HBLK.out, hlt2]
       have hI5r : Hid (∀ w4, Below W3.heap.size W3 w4 → IS w (w4.setCell ⟨w2.heap.size, 4, none⟩ (.int .i64 ((cj : Int) * 1000000 + (k : Int)))) (.slice la L.length lcp) L ∧ Row (w4.setCell ⟨w2.heap.size, 4, none⟩ (.int .i64 ((cj : Int) * 1000000 + (k : Int)))) 75 4 (.slice pa tk.length pc) tk.length (tk.flatMap evC)) := by
        intro w4 hb
        have hB : Below w2.heap.size w2 (w4.setCell ⟨w2.heap.size, 4, none⟩ (.int .i64 ((cj : Int) * 1000000 + (k : Int)))) := (hb3.trans (hb.mono hb3.size)).setCell (Nat.le_refl _) _
        exact ⟨hI2.out.then hB, hrow2.out.1.same (fun b hb' => hB.block b (hrow2.out.1.lt b hb'))⟩
       clear hit2 hib
       have hlen6 : cj ≤ 1000000 := by omega
       have hk6 : k ≤ 1000000 := by omega
       go_wp2_with (first
        | (at_builtin; refine append_it (w4.setCell ⟨w2.heap.size, 4, none⟩ (.int .i64 ((cj : Int) * 1000000 + (k : Int)))) rfl _ _ rfl (.slice la L.length lcp) L.length (L.flatMap itL) rfl (hI5r.out w4 hb4.out).1.row w4.heap.size (by simp) rfl (by simp [Value.oneCell']) (by omega) ?_)
        | (go_at_call 100; refine (hatk.out W3 hI3.out.below).mono ?_; rintro e w4 ⟨rfl, hb4⟩; have hk4 := hbx4.out w4 hb4.out; have f4 := frozen_of_row w4 w2.heap.size 4 _ _ hk4; have j0 : w4.cell? ⟨w2.heap.size, 0, none⟩ = some (.int .i64 q.id) := (by rw [cell_of_row w4 w2.heap.size 0 _ _ _ hk4]; rfl); have j1 : w4.cell? ⟨w2.heap.size, 1, none⟩ = some (.int .i64 cl) := (by rw [cell_of_row w4 w2.heap.size 1 _ _ _ hk4]; rfl); have j2 : w4.cell? ⟨w2.heap.size, 2, none⟩ = some (.slice pa tk.length pc) := (by rw [cell_of_row w4 w2.heap.size 2 _ _ _ hk4]; rfl); have j3 : w4.cell? ⟨w2.heap.size, 3, none⟩ = some (.bool false) := (by rw [cell_of_row w4 w2.heap.size 3 _ _ _ hk4]; rfl); have j4 : w4.cell? ⟨w2.heap.size, 4, none⟩ = some (.int .i64 k) := (by rw [cell_of_row w4 w2.heap.size 4 _ _ _ hk4]; rfl); clear hk4))
       intro gg go_ gc w5 r5 g5 b5
       have hI5 : Hid (IS w w5 (.slice (some ⟨gg, go_, none⟩) (L ++ [((⟨⟨q.id, cl, tk⟩, false, (cj : Int) * 1000000 + (k : Int)⟩ : It), Value.slice pa tk.length pc)]).length gc) (L ++ [((⟨⟨q.id, cl, tk⟩, false, (cj : Int) * 1000000 + (k : Int)⟩ : It), Value.slice pa tk.length pc)])) := by
        have := IS.push (x := ⟨⟨q.id, cl, tk⟩, false, (cj : Int) * 1000000 + (k : Int)⟩) (ev := .slice pa tk.length pc) (hI5r.out w4 hb4.out).1 (hI5r.out w4 hb4.out).2 hrow2.out.2 r5 g5 (b5.imp id (fun h => by rw [h]; simp))
        unfold Hid
        rw [List.length_append]
        exact this
       clear r5 g5 b5
       go_wp2
       go_roundw
       case rel => exact ⟨k + 1, r2, _, some ⟨gg, go_, none⟩, gc, (k : Int) + 1, _, by omega, rfl, by omega, rfl, by omega, by omega, by simp; omega, by simp, ⟨by simpa using hit3.out.1, hit3.out.2⟩, hI5⟩
       case measure => simp [intOf]; omega
  ·have hkl : k = q.seen.length := by omega
   subst hkl
   clear hfits hpath hat hc0 HC
   obtain ⟨u1, u2, u3, u4⟩ := HT.out
   obtain ⟨i1, i2⟩ := hit.out
   have hrr2 : rr = RN := by rw [i2]; exact u4
   have hnd2 := hnd.out
   rw [← i1] at u2 hnd2
   obtain ⟨T, hTm, hSS⟩ := SS.start (V := Value) hnd2 u1 u2
   have hst : Hid (SS L T ∧ T.map (fun x => x.1.m) = FO) := by
    refine ⟨hSS, ?_⟩
    rw [← u3, ← hTm, List.map_map]
    rfl
   subst hrr2
   clear u1 u2 u3 u4 i1 i2 hnd2 hTm hSS hit HT hnd
   have hone : ∀ x ∈ L, x.2.oneCell' = true := fun x hx => by
    obtain ⟨va, cap, hv, _⟩ := (hI.out.ev x hx).form
    rw [hv]; rfl
   have hS0 : Hid (S2 w wr (.slice la L.length lcp) L (.slice none 0 0) []) := ⟨hI.out, ⟨⟨rfl, Or.inl ⟨rfl, rfl⟩⟩, by simp⟩, fun b hb => (by cases hb), by simp, hone⟩
   clear hI hone
   go_wp2
   go_loopw [6, 15] (fun lv ov wr => ∃ (L T : List (It × Value)) (O : List (Mt × Value)) (la oa : Option Addr) (lcp ocp : Nat), lv = .slice la L.length lcp ∧ ov = .slice oa O.length ocp ∧ L.length + O.length ≤ q.seen.length ∧ Hid (SS L T ∧ O.map Prod.fst ++ T.map (fun x => x.1.m) = FO) ∧ Hid (S2 w wr (.slice la L.length lcp) L (.slice oa O.length ocp) O)) (fun lv _ _ => slen lv)
   case atStart => exact ⟨L, T, [], la, none, lcp, 0, rfl, rfl, by simp; omega, hst, hS0⟩
   case round =>
    clear hst hS0
    obtain ⟨L, T, O, la, oa, lcp, ocp, rfl, rfl, hLO, hst, hS⟩ := hrel
    by_cases hpos : 0 < L.length
    ·obtain ⟨gl, ol, lcp', hla, hlcp⟩ := row_some hS.out.is.row hpos
     obtain ⟨rfl, _, rfl⟩ := Value.slice.inj hla
     clear hla
     obtain ⟨wo, rfl⟩ : ∃ wo, wo = wr := ⟨wr, rfl⟩
     go_wp2
     go_loopw [16, 17] (fun kv iv W => ∃ (kk i : Nat) (zk zi : Int), zk = kk ∧ kv = .int .i64 zk ∧ zi = i ∧ iv = .int .i64 zi ∧ kk < i ∧ i ≤ L.length ∧ Hid (∀ j, (hj : j < L.length) → (hk : kk < L.length) → j < i → aheadB L[j].1 L[kk].1 = false) ∧ Hid (Below wo.heap.size wo W)) (fun _ iv _ => L.length - (intOf iv).toNat)
     case atStart => exact ⟨0, 1, 0, 1, rfl, rfl, rfl, rfl, by omega, by omega, Hid.mk' (fun j hj hk h1 => by obtain rfl : j = 0 := (by omega); exact ahead_irrefl _), Hid.mk' (Below.refl _ _)⟩
     case round =>
      obtain ⟨kk, i, zk, zi, rfl, rfl, rfl, rfl, hki, hil, hmin, hBW⟩ := hrel
      have hkl : kk < L.length := by omega
      have hSW := Hid.mk' (hS.out.then hBW.out)
      by_cases hlt2 : i < L.length
      ·obtain ⟨xi, hxi⟩ : ∃ xi, L[i] = xi := ⟨_, rfl⟩
       obtain ⟨xk, hxk⟩ : ∃ xk, L[kk] = xk := ⟨_, rfl⟩
       have hcell : Hid (∀ W, Below wo.heap.size wo W → (W.cell? ⟨gl, ol + i * 5, none⟩ = some (.int .i64 xi.1.m.q) ∧ W.cell? ⟨gl, ol + i * 5 + 1, none⟩ = some (.int .i64 xi.1.m.cl) ∧ W.cell? ⟨gl, ol + i * 5 + 2, none⟩ = some xi.2 ∧ W.cell? ⟨gl, ol + i * 5 + 3, none⟩ = some (.bool xi.1.late) ∧ W.cell? ⟨gl, ol + i * 5 + 4, none⟩ = some (.int .i64 xi.1.place)) ∧ (W.cell? ⟨gl, ol + kk * 5, none⟩ = some (.int .i64 xk.1.m.q) ∧ W.cell? ⟨gl, ol + kk * 5 + 1, none⟩ = some (.int .i64 xk.1.m.cl) ∧ W.cell? ⟨gl, ol + kk * 5 + 2, none⟩ = some xk.2 ∧ W.cell? ⟨gl, ol + kk * 5 + 3, none⟩ = some (.bool xk.1.late) ∧ W.cell? ⟨gl, ol + kk * 5 + 4, none⟩ = some (.int .i64 xk.1.place))) := by
        intro W hb
        have hr := (hS.out.then hb).is.row
        have a := it_at hr i hlt2
        have b := it_at hr kk hkl
        rw [hxi] at a
        rw [hxk] at b
        exact ⟨a, b⟩
       have hah : Hid (∀ W, Below wo.heap.size wo W → Calls Tryz.prog 101 #[.agg (itC xi.1 xi.2), .agg (itC xk.1 xk.2)] W fun e w' => e = .returned (.bool (aheadB xi.1 xk.1)) ∧ Hid (Below wo.heap.size wo w') ∧ (w'.cell? ⟨gl, ol + i * 5, none⟩ = some (.int .i64 xi.1.m.q) ∧ w'.cell? ⟨gl, ol + i * 5 + 1, none⟩ = some (.int .i64 xi.1.m.cl) ∧ w'.cell? ⟨gl, ol + i * 5 + 2, none⟩ = some xi.2 ∧ w'.cell? ⟨gl, ol + i * 5 + 3, none⟩ = some (.bool xi.1.late) ∧ w'.cell? ⟨gl, ol + i * 5 + 4, none⟩ = some (.int .i64 xi.1.place)) ∧ (w'.cell? ⟨gl, ol + kk * 5, none⟩ = some (.int .i64 xk.1.m.q) ∧ w'.cell? ⟨gl, ol + kk * 5 + 1, none⟩ = some (.int .i64 xk.1.m.cl) ∧ w'.cell? ⟨gl, ol + kk * 5 + 2, none⟩ = some xk.2 ∧ w'.cell? ⟨gl, ol + kk * 5 + 3, none⟩ = some (.bool xk.1.late) ∧ w'.cell? ⟨gl, ol + kk * 5 + 4, none⟩ = some (.int .i64 xk.1.place))) := by
        intro W hb
        refine (ahead_any xi.1 xk.1 xi.2 xk.2 W).mono ?_
        rintro e w' ⟨rfl, o1, o2, rfl⟩
        have hb2 : Below wo.heap.size wo ((W.alloc o1).alloc o2) := (hb.alloc hb.size _).alloc (by have := hb.size; simp; omega) _
        exact ⟨rfl, hb2, hcell.out _ hb2⟩
       have hnext : Hid (aheadB xi.1 xk.1 = true → ∀ j, (hj : j < L.length) → (hk : i < L.length) → j < i + 1 → aheadB L[j].1 L[i].1 = false) := by
        intro h1 j hj hk hji
        rcases Nat.lt_or_ge j i with h2 | h2
        ·cases h3 : aheadB L[j].1 L[i].1 with
         | false => rfl
         | true =>
          rw [hxi] at h3
          have := ahead_trans h3 h1
          rw [← hxk, hmin.out j hj hkl h2] at this; cases this
        ·obtain rfl : j = i := by omega
         exact ahead_irrefl _
       have hstay : Hid (aheadB xi.1 xk.1 = false → ∀ j, (hj : j < L.length) → (hk : kk < L.length) → j < i + 1 → aheadB L[j].1 L[kk].1 = false) := by
        intro h1 j hj hk hji
        rcases Nat.lt_or_ge j i with h2 | h2
        ·exact hmin.out j hj hk h2
        ·obtain rfl : j = i := by omega
         rw [hxi, hxk]; exact h1
       obtain ⟨⟨p0, p1, p2, p3, p4⟩, ⟨r0, r1, r2, r3, r4⟩⟩ := hcell.out _ hBW.out
       clear hxi hxk
       obtain ⟨⟨⟨iq, ic, ie⟩, il, ip⟩, iv⟩ := xi
       obtain ⟨⟨⟨kq, kc, ke⟩, kl, kp⟩, kv⟩ := xk
       simp only [itC] at p0 p1 p2 p3 p4 r0 r1 r2 r3 r4 hah hcell
       have HBW := hBW.out
       clear hcell hSW
       go_wp2
       go_region_held3 (fun w' => w'.cell? ⟨gl, ol + i * 5, none⟩ = some (.int .i64 iq) ∧ w'.cell? ⟨gl, ol + i * 5 + 1, none⟩ = some (.int .i64 ic) ∧ w'.cell? ⟨gl, ol + i * 5 + 2, none⟩ = some iv ∧ w'.cell? ⟨gl, ol + i * 5 + 3, none⟩ = some (.bool il) ∧ w'.cell? ⟨gl, ol + i * 5 + 4, none⟩ = some (.int .i64 ip) ∧ w'.cell? ⟨gl, ol + kk * 5, none⟩ = some (.int .i64 kq) ∧ w'.cell? ⟨gl, ol + kk * 5 + 1, none⟩ = some (.int .i64 kc) ∧ w'.cell? ⟨gl, ol + kk * 5 + 2, none⟩ = some kv ∧ w'.cell? ⟨gl, ol + kk * 5 + 3, none⟩ = some (.bool kl) ∧ w'.cell? ⟨gl, ol + kk * 5 + 4, none⟩ = some (.int .i64 kp))
        (first | (refine ⟨?_, ?_, ?_, ?_, ?_, ?_, ?_, ?_, ?_, ?_⟩ <;> (repeat (first | assumption | apply drew_keep | apply alloc_keep))) | go_keep)
        (first | (go_at_call 101; refine (hah.out _ (by repeat (first | exact HBW | apply Below.drew))).mono ?_; rintro e w1 ⟨rfl, hB1, ⟨k1, k2, k3, k4, k5⟩, ⟨k6, k7, k8, k9, k10⟩⟩))
       clear k1 k2 k3 k4 k5 k6 k7 k8 k9 k10 p0 p1 p2 p3 p4 r0 r1 r2 r3 r4
       cases hab : aheadB ⟨⟨iq, ic, ie⟩, il, ip⟩ ⟨⟨kq, kc, ke⟩, kl, kp⟩ with
       | true =>
        have hm2 := Hid.mk' (hnext.out hab)
        clear hnext hstay hah
        go_wp2
        go_roundw
        case rel => exact ⟨i, i + 1, (i : Int), (i : Int) + 1, rfl, rfl, by omega, rfl, by omega, by omega, hm2, hB1⟩
        case measure => simp [intOf]; omega
       | false =>
        have hm2 := Hid.mk' (hstay.out hab)
        clear hnext hstay hah
        go_wp2
        go_roundw
        case rel => exact ⟨kk, i + 1, (kk : Int), (i : Int) + 1, rfl, rfl, by omega, rfl, by omega, by omega, hm2, hB1⟩
        case measure => simp [intOf]; omega
      ·have hii : i = L.length := by omega
       obtain ⟨T', hTT, hSS2⟩ := hst.out.1.step hkl (fun j hj => hmin.out j hj hkl (by omega))
       obtain ⟨x, hx⟩ : ∃ x, L[kk] = x := ⟨_, rfl⟩
       have hxm : x ∈ L := by rw [← hx]; exact List.getElem_mem hkl
       obtain ⟨p0, p1, p2, p3, p4⟩ := it_at hSW.out.is.row kk hkl
       rw [hx] at p0 p1 p2
       have hxone := hSW.out.one x hxm
       have hst2 : Hid (SS (L.take kk ++ L.drop (kk + 1)) T' ∧ (O ++ [(x.1.m, x.2)]).map Prod.fst ++ T'.map (fun x => x.1.m) = FO) := by
        refine ⟨hSS2, ?_⟩
        have h := hst.out.2
        rw [hTT, hx] at h
        simpa using h
       have hlen2 : (L.take kk ++ L.drop (kk + 1)).length = kk + (L.length - (kk + 1)) := by simp; omega
       have HXM := Hid.mk' hxm
       clear hst hTT hSS2 hx hmin p3 p4 hxm
       obtain ⟨⟨⟨xq, xc, xe⟩, xl, xp⟩, xv⟩ := x
       simp only at p0 p1 p2 hxone
       have hbL : (kk : Int) ≤ (lcp : Int) := by omega
       have hbL2 : kk ≤ lcp := by omega
       go_wp2_with (at_builtin; refine append_mt wr rfl _ _ rfl (.slice oa O.length ocp) O.length (O.flatMap matC) rfl hSW.out.out.row wr.heap.size rfl rfl rfl rfl hxone (by omega) ?_)
       intro g5 o5 c5 w5 r5 gr5 b5
       have hS5 := Hid.mk' (hSW.out.push (x := (⟨⟨xq, xc, xe⟩, xl, xp⟩, xv)) HXM.out r5 gr5 b5)
       clear r5 gr5 b5 p0 p1 p2
       have hsrc1 : Hid (Src Tryz.prog 5 171 (.slice (some ⟨gl, ol, none⟩) kk lcp) kk ((L.take kk).flatMap itL) w5) := by
        have := it_piece hS5.out.one hS5.out.is.row 0 kk (Nat.zero_le _) (by omega) ol lcp (by omega)
        unfold Hid
        simpa using this
       go_wp2_with (at_builtin; refine append_its0 w5 rfl _ _ rfl (.slice none 0 0) 0 [] rfl ⟨rfl, Or.inl ⟨rfl, rfl⟩⟩ (.slice (some ⟨gl, ol, none⟩) kk lcp) kk _ rfl hsrc1.out (by omega) ?_)
       intro va6 c6 w6 r6 gr6 b6
       have R6 : Hid (Row w6 178 5 (.slice va6 kk c6) kk ((L.take kk).flatMap itL)) := by unfold Hid; simpa using r6
       have hb56 : Below w5.heap.size w5 w6 := (Below.refl _ _).grown gr6 (Nat.le_refl _) (fun b hb => by cases hb)
       have hS6 := Hid.mk' (hS5.out.then hb56)
       have G6 := Hid.mk' gr6
       have B6 : Hid (∀ b, (Value.slice va6 kk c6).ownBlock = some b → b = w5.heap.size) := fun b hb => by
        rcases b6 b (by simpa using hb) with h | h
        ·cases h
        ·exact h
       clear r6 gr6 b6 hb56 hsrc1
       have hfin : Hid (∀ va7 c7 w7, Row w7 178 5 (.slice va7 (kk + (L.length - (kk + 1))) c7) (kk + (L.length - (kk + 1))) ((L.take kk).flatMap itL ++ (L.drop (kk + 1)).flatMap itL) → w6.grownBy w7 (Value.slice va6 kk c6).ownBlock → (∀ b, (Value.slice va7 (kk + (L.length - (kk + 1))) c7).ownBlock = some b → (Value.slice va6 kk c6).ownBlock = some b ∨ b = w6.heap.size) → S2 w w7 (.slice va7 (L.take kk ++ L.drop (kk + 1)).length c7) (L.take kk ++ L.drop (kk + 1)) (.slice (some ⟨g5, o5, none⟩) (O ++ [((⟨xq, xc, xe⟩ : Mt), xv)]).length c5) (O ++ [((⟨xq, xc, xe⟩ : Mt), xv)])) := by
        intro va7 c7 w7 r7 gr7 b7
        rw [hlen2]
        refine S2.rest (v1 := .slice va6 kk c6) hS5.out (fun y hy => ?_) G6.out B6.out gr7 b7 ?_
        ·rcases List.mem_append.1 hy with h | h
         ·exact List.mem_of_mem_take h
         ·exact List.mem_of_mem_drop h
        ·rw [hlen2, List.flatMap_append]; exact r7
       have hi64 : IntKind.i64.wrap ((kk : Int) + 1) = (kk : Int) + 1 := IntWalk.i64_in _ (by omega)
       have hb8 : (0 : Int) ≤ (kk : Int) + 1 := by omega
       have hb9 : (kk : Int) + 1 ≤ (L.length : Int) := by omega
       by_cases hcj : lcp = kk + 1
       ·have hLl : L.length = kk + 1 := by omega
        have hsr : Hid (Src Tryz.prog 5 171 (.slice (some ⟨gl, ol, none⟩) 0 0) 0 ((L.drop (kk + 1)).flatMap itL) w6) := by
         unfold Hid
         rw [List.drop_eq_nil_of_le (by omega)]
         exact Src.ofSlice _ Tryz.underlying171 _ 0 _ [] (by simp) (by simp) (by simp)
        have hz0 : L.length - (kk + 1) = 0 := by omega
        rw [hz0] at hfin
        have HLl := Hid.mk' hLl
        have hst3 := hst2
        rw [hLl] at hb9 ⊢
        clear hz0 hlen2
        subst hcj
        clear hLl
        go_wp2_with (at_builtin; refine append_its0 w6 rfl _ _ rfl (.slice va6 kk c6) kk _ rfl R6.out (.slice (some ⟨gl, ol, none⟩) 0 0) 0 _ rfl hsr.out (by omega) ?_)
        intro va7 c7 w7 r7 gr7 b7
        have hS7 := Hid.mk' (hfin.out va7 c7 w7 r7 gr7 b7)
        clear r7 gr7 b7 hfin
        go_wp2
        go_roundw
        case rel => exact ⟨L.take kk ++ L.drop (kk + 1), T', _, va7, some ⟨g5, o5, none⟩, c7, c5, by have := HLl.out; simp; omega, by simp, by have := HLl.out; simp; omega, hst3, hS7⟩
        case measure => have := HLl.out; simp [slen]; omega
       ·have hsr : Hid (Src Tryz.prog 5 171 (.slice (some ⟨gl, ol + (kk + 1) * 5, none⟩) (L.length - (kk + 1)) (lcp - (kk + 1))) (L.length - (kk + 1)) ((L.drop (kk + 1)).flatMap itL) w6) := by
         have := it_piece hS6.out.one hS6.out.is.row (kk + 1) L.length (by omega) (Nat.le_refl _) (ol + (kk + 1) * 5) (lcp - (kk + 1)) rfl
         rw [List.take_of_length_le (by simp)] at this
         exact this
        go_wp2_with (at_builtin; refine append_its0 w6 rfl _ _ rfl (.slice va6 kk c6) kk _ rfl R6.out (.slice (some ⟨gl, ol + (kk + 1) * 5, none⟩) (L.length - (kk + 1)) (lcp - (kk + 1))) (L.length - (kk + 1)) _ rfl hsr.out (by omega) ?_)
        intro va7 c7 w7 r7 gr7 b7
        have hS7 := Hid.mk' (hfin.out va7 c7 w7 r7 gr7 b7)
        clear r7 gr7 b7 hfin
        go_wp2
        go_roundw
        case rel => exact ⟨L.take kk ++ L.drop (kk + 1), T', _, va7, some ⟨g5, o5, none⟩, c7, c5, by rw [hlen2], by simp, by rw [hlen2]; simp; omega, hst2, hS7⟩
        case measure => simp [slen]; omega
    ·have hL0 : L = [] := List.eq_nil_of_length_eq_zero (by omega)
     subst hL0
     have hT0 : T = [] := by
      cases T with
      | nil => rfl
      | cons a b => exact absurd ((hst.out.1.me a).1 List.mem_cons_self) (by simp)
     subst hT0
     have hfo : O.map Prod.fst = FO := by have h := hst.out.2; simpa using h
     have hres : Hid (Below w.heap.size w wr ∧ MS wr (.slice oa O.length ocp) O ∧ (∀ b ∈ (Value.slice oa O.length ocp).ownBlock.toList ++ eblk (O.map fp), w.heap.size ≤ b) ∧ (∀ b, (Value.slice oa O.length ocp).ownBlock = some b → b ∉ eblk (O.map fp))) := by
      refine ⟨hS.out.is.below, hS.out.out, ?_, ?_⟩
      ·intro b hb
       rcases List.mem_append.1 hb with h1 | h1
       ·exact (hS.out.onew b (by simpa using h1)).1
       ·obtain ⟨x, hx, hxb⟩ := mem_eblk.1 h1
        obtain ⟨y, hy, rfl⟩ := List.mem_map.1 hx
        exact hS.out.oev y hy b hxb
      ·intro b hb hm
       obtain ⟨x, hx, hxb⟩ := mem_eblk.1 hm
       obtain ⟨y, hy, rfl⟩ := List.mem_map.1 hx
       exact (hS.out.onew b hb).2.2.2 y hy hxb
     clear hst hS
     go_wp2
     go_ret2
     exact ⟨oa, ocp, O, rfl, hfo, hres.out⟩
end Go.Proofs.YtbgfannlfagoiaaGreatDoor
