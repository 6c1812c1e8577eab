import Derived.Test.YtbgfannlfagoiaaDoorSa
import Derived.Test.YtbgfannlfagoiaaDoorPfa
import Derived.Deep.RegionLaw
namespace Go.Proofs.YtbgfannlfagoiaaDoor
open Go.RowKit Go.Lull
set_option linter.unusedVariables false

theorem flat3_drop {α : Type} (f : α → List Value) (hf : ∀ x, (f x).length = 3) : ∀ (L : List α) (i : Nat), (L.flatMap f).drop (i * 3) = (L.drop i).flatMap f
  | L, 0 => by simp
  | [], i + 1 => by simp
  | x :: L, i + 1 => by
    rw [List.flatMap_cons, List.drop_succ_cons, ← flat3_drop f hf L i, show (i + 1) * 3 = (f x).length + i * 3 by rw [hf]; omega, List.drop_append]
    simp
/-- One match of a row of matches. -/
theorem MS.piece {w : World} {g off cap : Nat} {L : List (Mt × Value)} (h : MS w (.slice (some ⟨g, off, none⟩) L.length cap) L) (i : Nat) (hi : i < L.length) : MS w (.slice (some ⟨g, off + i * 3, none⟩) 1 (cap - i)) [L[i]] := by
  refine ⟨⟨rfl, ?_⟩, fun x hx => by rw [List.mem_singleton] at hx; subst hx; exact h.ev _ (List.getElem_mem hi)⟩
  rcases h.row.2 with ⟨h1, h2⟩ | ⟨g', off', cap', cur, h1, h2, h3, h4, h5, h6⟩
  · omega
  · obtain ⟨e1, _, rfl⟩ := Value.slice.inj h1
    cases e1
    refine Or.inr ⟨g, off + i * 3, cap - i, cur, rfl, h2, by simp; omega, by omega, by omega, ?_⟩
    have h7 : ((L.flatMap matC).drop (i * 3)).take 3 = matC L[i] := by
      rw [flat3_drop matC (fun _ => rfl), List.drop_eq_getElem_cons hi, List.flatMap_cons]
      simp [matC]
    rw [show [L[i]].flatMap matC = matC L[i] by simp, ← h7, ← h6, List.drop_take, List.take_take, List.drop_drop]
    rw [Nat.min_eq_left (by omega)]
    rfl

set_option maxRecDepth 8000 in
set_option maxHeartbeats 1000000 in
theorem ofKind_any (w : World) (v : Value) (l : List Ev) (hrow : Row w 56 4 v l.length (l.flatMap evC)) (hl : l.length ≤ 1000) :
    Calls Tryd.prog 28 #[v, .int .u8 97] w fun e w' => ∃ v', e = .returned v' ∧ NewEv w w' v' (l.filter (isK 97)) := by
  obtain ⟨va, vcap, rfl, hvc⟩ := hrow.form
  have HR := Hid.mk' hrow
  clear hrow
  go_enter Tryd.func28, Tryd.ntmps28
  go_wp2
  go_loopw [5, 6] (fun ov i wr => ∃ (k : Nat) (z : Int), z = k ∧ i = .int .i64 z ∧ k ≤ l.length ∧ Hid (NewEv w wr ov ((l.take k).filter (isK 97)))) (fun _ i _ => l.length - (intOf i).toNat)
  case atStart => exact ⟨0, 0, rfl, rfl, Nat.zero_le _, Hid.mk' (by simpa using NewEv.nil w)⟩
  case round =>
    obtain ⟨k, z, rfl, rfl, hk, hN⟩ := hrel
    obtain ⟨out, hout⟩ : ∃ out, (l.take k).filter (isK 97) = out := ⟨_, rfl⟩
    have hol : out.length ≤ k := by rw [← hout]; exact Nat.le_trans (List.length_filter_le _ _) (by simp; omega)
    rw [hout] at hN
    obtain ⟨oa, ocap, rfl, hoc⟩ := hN.out.row.form
    by_cases hlt : k < l.length
    · obtain ⟨x, hx⟩ : ∃ x, l[k] = x := ⟨_, rfl⟩
      have hnext : (l.take (k + 1)).filter (isK 97) = out ++ (if isK 97 x = true then [x] else []) := by
        rw [List.take_succ_eq_append_getElem hlt, List.filter_append, hout, hx]
        by_cases h : isK 97 x = true
        · simp [h]
        · simp [h]
      obtain ⟨g, off, vcap', hva, _⟩ := row_some HR.out (by omega)
      obtain ⟨rfl, _, rfl⟩ := Value.slice.inj hva
      clear hva hout
      have hr : Row wr 56 4 (.slice (some ⟨g, off, none⟩) l.length vcap) l.length (l.flatMap evC) := HR.out.same (fun b hb' => hN.out.below.block b (HR.out.lt b hb'))
      obtain ⟨y0, y1, y2, y3⟩ := ev_at hr k hlt
      rw [hx] at y0 y1 y2 y3
      clear hr hx
      have hR := Hid.mk' hN.out.row
      obtain ⟨x0, x1, x2, x3⟩ := x
      simp only at y0 y1 y2 y3
      by_cases hA : (x2.toNat : Int) = 97
      · have hkA : isK 97 (x0, x1, x2, x3) = true := by rw [isK_nat]; simpa using hA
        rw [if_pos hkA] at hnext
        have H97 := Hid.mk' hA
        rw [hA] at y2
        have HX := Hid.mk' hnext
        clear hnext hkA hA
        go_wp2_with (at_builtin; refine append_ev1 wr rfl _ _ rfl (.slice oa out.length ocap) out.length _ _ _ _ _ (by simp [Value.oneCell']) rfl hR.out rfl (by omega) ?_)
        intro g2 o2 c2 w2 r2 g2' b2
        have hN2 : Hid (NewEv w w2 (.slice (some ⟨g2, o2, none⟩) (out.length + 1) c2) ((l.take (k + 1)).filter (isK 97))) := by
          have hsz := hN.out.below.size
          have hb3 : Below w.heap.size w w2 := (hN.out.below.alloc hsz _).grown g2' (by simp; omega) hN.out.new
          refine ⟨hb3, ?_, ?_⟩
          · rw [HX.out, List.flatMap_append, List.length_append]
            have e2 : [((x0, x1, x2, x3) : Ev)].flatMap evC = [.int .i64 x0, .int .i64 x1, .int .u8 97, .int .i64 x3] := by simp [evC, H97.out]
            rw [e2]
            exact r2
          · intro b hb
            rcases b2 with h | h
            · exact hN.out.new b (by rw [h]; exact hb)
            · have hb' : g2 = b := Option.some.inj hb
              omega
        clear r2 g2' b2
        go_wp2
        go_roundw
        case rel => exact ⟨k + 1, (k : Int) + 1, by omega, rfl, by omega, hN2⟩
        case measure => simp [intOf]; omega
      · have hkA : ¬ isK 97 (x0, x1, x2, x3) = true := by rw [isK_nat]; simpa using hA
        rw [if_neg hkA, List.append_nil] at hnext
        have HN2 : Hid (NewEv w wr (.slice oa out.length ocap) ((l.take (k + 1)).filter (isK 97))) := by unfold Hid; rw [hnext]; exact hN.out
        clear hnext hkA
        go_wp2
        go_roundw
        case rel => exact ⟨k + 1, (k : Int) + 1, by omega, rfl, by omega, HN2⟩
        case measure => simp [intOf]; omega
    · have hkl : k = l.length := by omega
      subst hkl
      clear hlt
      go_wp2
      go_ret
      exact ⟨_, rfl, by rw [List.take_length] at hout; rw [hout]; exact hN.out⟩

/-- append of one match that was just made, in a region that draws. -/
theorem step_append_mt (w : World) {p q r : Value} {ops : Array Oper} {o : Oper} {a : Act} {K : Act → World → Prop} {Q : Exit → Act → World → Prop} {E : Prop} (hgd : o.guard = none) (s x : Operand)
    (ho : o.op = .call { callee := .builtin .append, args := #[s, x], argTypes := #[58, 58] })
    (v : Value) (n : Nat) (xs : List Value) (hv : a.eval s = v) (hrow : Row w 60 3 v n xs)
    (N : Nat) (hN : N = w.heap.size) (hxv : a.eval x = .slice (some ⟨N, 0, none⟩) 1 1) (h1 : p.oneCell' = true) (h2 : q.oneCell' = true) (h3 : r.oneCell' = true) (hn : n ≤ 1073741824)
    (h : ∀ g off cap w', Row w' 60 3 (.slice (some ⟨g, off, none⟩) (n + 1) cap) (n + 1) (xs ++ [p, q, r]) → (w.alloc (.cells #[p, q, r] 60)).grownBy w' v.ownBlock → (v.ownBlock = some g ∨ g = w.heap.size + 1) → K (a.put o.dst (.slice (some ⟨g, off, none⟩) (n + 1) cap)) w') :
    if Region.wanted o (yielded ops a.tmps) = true then Oper.wp Tryd.prog o a (w.alloc (.cells #[p, q, r] 60)) K Q else E := by
  subst hN
  obtain ⟨i0, hi, hz0, hz1, hz2⟩ := info_parts Tryd.infoMt
  refine step_append_row hgd s x 58 ho i0 _ 40 Tryd.underlying58 hi hz0 hz1 hz2 rfl hv (hrow.same (fun k hk => Below.heap_alloc _ _ _ (hrow.lt k hk))) 1 [p, q, r] _ hxv (Src.ofSlice _ Tryd.underlying58 _ 1 1 _ rfl (three_at w _ _ _ _ _ rfl) (by simp [h1, h2, h3])) (by omega) (by unfold maxLen; omega) (by omega) ?_
  intro g off cap w' g1 g2 g3
  exact h g off cap w' g1 ⟨g2.os, g2.tape, g2.output, g2.size, g2.block⟩ (g3.imp id (fun h => by rw [h]; simp))

theorem SW.then {w0 wr w' : World} {eb : Nat} {s : En} {lv sv : Value} {l : List Ev} {LS : List (Mt × Value)} (h : SW w0 wr eb s lv l sv LS) (hb : Below wr.heap.size wr w') : SW w0 w' eb s lv l sv LS := by
  obtain ⟨h1, h2⟩ := h.at_.then (Nat.le_refl _) hb
  exact ⟨h1, h.row.same (fun b hb => h2.2 b (List.mem_append_left _ (by simp [hb]))), h.ls.same (fun b hb => h2.2 b (List.mem_append_right _ hb)), h.ne⟩
/-- What Follows looks at in the end. -/
structure FE (w0 wr : World) (gv : Value) (L : List (Mt × Value)) (sv : Value) (LS : List (Mt × Value)) (av : Value) (al : List Ev) : Prop where
  below : Below w0.heap.size w0 wr
  l : MS wr gv L
  ls : MS wr sv LS
  asl : Row wr 56 4 av al.length (al.flatMap evC)
theorem FE.drewN {w0 wr : World} {gv sv av : Value} {L LS : List (Mt × Value)} {al : List Ev} (h : FE w0 wr gv L sv LS av al) (q : Nat) : FE w0 (wr.drewN q) gv L sv LS av al :=
  ⟨below_drewN h.below q, h.l.same (fun b hb => by simp), h.ls.same (fun b hb => by simp), h.asl.same (fun b hb => by simp)⟩
/-- Follows' end: who is alone, what waits, what comes out. -/
theorem fw_end {w0 wr : World} {eb : Nat} {s : En} {lv sv : Value} {l : List Ev} {LS : List (Mt × Value)} {n k : Nat} {rs : List Rn} (h : SW w0 wr eb s lv l sv LS) (hl : l.length ≤ 40) (hq : s.qs = [⟨1, stFol, (n : Int), rs, wantF n 1 [] l⟩, ⟨2, stAl, (n : Int), [], (l.filter (isK 97)).map aloM⟩]) (hw : LS.map Prod.fst = wantF n 1 [] l) (hso : SO k s) (hk : k ≤ 300) :
    Calls Tryd.prog 28 #[lv, .int .u8 97] wr fun e w1 => ∃ aa ac, e = .returned (.slice aa (l.filter (isK 97)).length ac) ∧ Hid (Calls Tryd.prog 23 #[.pointer (some ⟨eb, 0, none⟩), .int .i64 1] w1 fun e w2 => e = .returned (.int .i64 (LS.length : Int)) ∧ Hid (Calls Tryd.prog 23 #[.pointer (some ⟨eb, 0, none⟩), .int .i64 2] w2 fun e w3 => e = .returned (.int .i64 ((l.filter (isK 97)).length : Int)) ∧ Hid (Calls Tryd.prog 25 #[.pointer (some ⟨eb, 0, none⟩), .int .i64 1000] w3 fun e w4 => ∃ ga gc L, e = .returned (.slice ga L.length gc) ∧ Hid (L.map Prod.fst = (drainE 1000 s).1) ∧ Hid (FE w0 w4 (.slice ga L.length gc) L sv LS (.slice aa (l.filter (isK 97)).length ac) (l.filter (isK 97)))))) := by
  have ht := hso.tot
  have hfd1 : findE s 1 = some ⟨1, stFol, (n : Int), rs, wantF n 1 [] l⟩ := by unfold findE; rw [hq]; rfl
  have hfd2 : findE s 2 = some ⟨2, stAl, (n : Int), [], (l.filter (isK 97)).map aloM⟩ := by unfold findE; rw [hq]; rfl
  have hwt1 : waitE s 1 = LS.length := by unfold waitE; rw [hfd1]; show (wantF (n : Int) 1 [] l).length = _; rw [← hw]; simp
  have hwt2 : waitE s 2 = (l.filter (isK 97)).length := by unfold waitE; rw [hfd2]; simp
  refine (ofKind_any wr lv l h.row (by omega)).mono ?_
  rintro e w1 ⟨av, rfl, hN⟩
  obtain ⟨aa, ac, rfl, _⟩ := hN.row.form
  refine ⟨aa, ac, rfl, ?_⟩
  obtain ⟨hA1, hS1⟩ := h.at_.new (G := (Value.slice aa (l.filter (isK 97)).length ac).ownBlock.toList) (Nat.le_refl _) hN.below (fun x hx => ⟨hN.new x (by simpa using hx), hN.row.lt x (by simpa using hx)⟩)
  refine (at_waiting (n := 1) hA1 (Nat.le_refl _)).mono ?_
  rw [hwt1]
  rintro e w2 ⟨rfl, hA2, hS2⟩
  refine ⟨rfl, ?_⟩
  refine (at_waiting (n := 2) hA2 (Nat.le_refl _)).mono ?_
  rw [hwt2]
  rintro e w3 ⟨rfl, hA3, hS3⟩
  refine ⟨rfl, ?_⟩
  refine (at_drain (n := 1000) hA3 (Nat.le_refl _) hso.nr (by omega)).mono ?_
  rintro e w4 ⟨gv, L, rfl, hL, hM, hA4, hS4, hF4⟩
  obtain ⟨ga, gc, rfl, _⟩ := hM.row.form
  have hS := (hS2.trans hS3).trans hS4
  refine ⟨ga, gc, L, rfl, hL, hA4.below, hM, ?_, hN.row.same (fun b hb => hS.2 b (List.mem_append_right _ (by simp [hb])))⟩
  exact h.ls.same (fun b hb => (hS.2 b (List.mem_append_left _ (List.mem_append_right _ hb))).trans (hS1.2 b (List.mem_append_right _ hb)))
end Go.Proofs.YtbgfannlfagoiaaDoor
