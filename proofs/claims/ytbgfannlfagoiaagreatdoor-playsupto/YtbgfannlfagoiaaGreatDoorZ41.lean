import Derived.Test.YtbgfannlfagoiaaGreatDoorZ40
namespace Go.Proofs.YtbgfannlfagoiaaGreatDoor
open Go.RowKit Go.Lull
set_option linter.unusedVariables false

set_option maxRecDepth 8000 in
set_option maxHeartbeats 8000000 in
theorem roffer_any {w : World} {rb n : Nat} {c : RC} {v : Value} {l : List Ev} (h : RE w rb c) (hr : RSok n c.abs) (hrow : ES w v l) (hv : 0 < l.length → ∀ b, v.ownBlock = some b → b ∉ c.blocks rb) (hl : l.length ≤ 1000000) :
  Calls Tryz.prog 73 #[.pointer (some ⟨rb, 0, none⟩), v] w (OfferR w rb n c l) := by
 obtain ⟨va, vc, rfl, hvc⟩ := hrow.form
 have H0 : Hid (OFR w w rb n c c (.slice va l.length vc) l 0) := ⟨h, by simpa using hr, Ext.refl _ _, hrow, by simp⟩
 have HVL : Hid (∀ b, (Value.slice va l.length vc).ownBlock = some b → 0 < l.length → b < w.heap.size ∧ b ∉ c.blocks rb) := fun b hb hp => ⟨hrow.lt hp b hb, hv hp b hb⟩
 clear h hr hrow hv
 go_enter Tryz.func73, Tryz.ntmps73
 go_wp2
 go_loopw [6] (fun iv wr => ∃ (i : Nat) (z : Int) (ck : RC), z = i ∧ iv = .int .i64 z ∧ i ≤ l.length ∧ Hid (OFR w wr rb n c ck (.slice va l.length vc) l i)) (fun iv _ => l.length - (intOf iv).toNat)
 case atStart => exact ⟨0, 0, c, rfl, rfl, Nat.zero_le _, H0⟩
 case round =>
  clear H0
  obtain ⟨i, z, ck, rfl, rfl, hi, hO⟩ := hrel
  by_cases hlt : i < l.length
  ·obtain ⟨x, hx⟩ : ∃ x, l[i] = x := ⟨_, rfl⟩
   obtain ⟨g, off, vc', hva, _⟩ := hO.out.row.some_ (by omega)
   obtain ⟨rfl, _, rfl⟩ := Value.slice.inj hva
   clear hva
   obtain ⟨y0, y1, y2, y3⟩ := hO.out.row.at4 i hlt
   rw [hx] at y0 y1 y2 y3
   have HX := Hid.mk' hx
   clear hx
   have hml : ck.marks.length ≤ 8 := hO.out.ok.m8
   have hprop : Hid (∀ W, Below wr.heap.size wr W → Calls Tryz.prog 94 #[.agg #[.int .i64 x.1, .int .i64 x.2.1, .int .u8 x.2.2.1.toNat, .int .i64 x.2.2.2], .int .i64 (ck.marks.length : Int)] W fun e w' => e = .returned (.bool (properB ck.marks.length x)) ∧ Hid (Below wr.heap.size wr w' ∧ Below W.heap.size W w')) := by
    intro W hb
    refine (rproper_any W ck.marks.length x).mono ?_
    rintro e w' ⟨rfl, q, os, rfl⟩
    have hb2 := grown_is_below' W q os
    exact ⟨rfl, hb.trans (hb2.mono hb.size), hb2⟩
   obtain ⟨qa, qc, hwv, hqc⟩ := hO.out.re.waits.form
   have hcell : Hid (∀ W, Below wr.heap.size wr W → W.cell? ⟨rb, 0, none⟩ = some (.slice (some ⟨ck.mg, 0, none⟩) ck.marks.length ck.marks.length) ∧ W.cell? ⟨rb, 1, none⟩ = some (.slice qa ck.waits.length qc) ∧ W.frozen? ⟨rb, 1, none⟩ = false) := by
    intro W hb
    have hB := (hO.out.re.below hb).blk
    exact ⟨by rw [cell_of_row W rb 0 _ _ _ hB]; rfl, by rw [cell_of_row W rb 1 _ _ _ hB]; simp [rCells, hwv], frozen_of_row W rb 1 _ _ hB⟩
   have hmark : Hid (∀ W, Below wr.heap.size wr W → Calls Tryz.prog 74 #[.pointer (some ⟨rb, 0, none⟩)] W fun e w' => e = .returned (.int .i64 (Go.Lull.markB ck.marks)) ∧ w' = W) := fun W hb => re_mark (hO.out.re.below hb) hO.out.ok.mne hO.out.ok.m8
   have hno : Hid (∀ W k, Below wr.heap.size wr W → k ≠ 0 → takeE (eOf ck.abs) x = (k, eOf ck.abs) → OfferR w rb n c l (.returned (.tuple #[.int .i64 (i : Int), .int .i64 (k : Int)])) W) := fun W k hb hk ht => hO.out.no hlt HX.out hb k hk ht
   have htk := Hid.mk' (take_eOf ck.abs x)
   obtain ⟨d0, d1, fz⟩ := hcell.out wr (Below.refl _ _)
   obtain ⟨x0, xt, x2, x3⟩ := x
   simp only at y0 y1 y2 y3 hprop
   go_wp2
   obtain ⟨W0, hW0⟩ : ∃ W0, wr.alloc (.cells #[.int .i64 x0, .int .i64 xt, .int .u8 x2.toNat, .int .i64 x3] 75) = W0 := ⟨_, rfl⟩
   obtain ⟨bx, hbx⟩ : ∃ bx, wr.heap.size = bx := ⟨_, rfl⟩
   have hB0 : Below wr.heap.size wr W0 := by rw [← hW0]; exact (Below.refl _ _).alloc (Nat.le_refl _) _
   have hblk0 : W0.heap[bx]? = some (.cells #[.int .i64 x0, .int .i64 xt, .int .u8 x2.toNat, .int .i64 x3] 75 (0, 0)) := by rw [← hW0, ← hbx]; exact heap_alloc_new _ _
   have hbox : Hid (∀ W, Below W0.heap.size W0 W → W.cell? ⟨bx, 0, none⟩ = some (.int .i64 x0) ∧ W.cell? ⟨bx, 1, none⟩ = some (.int .i64 xt) ∧ W.cell? ⟨bx, 2, none⟩ = some (.int .u8 x2.toNat) ∧ W.cell? ⟨bx, 3, none⟩ = some (.int .i64 x3)) := by
    intro W hb
    have hk : W.heap[bx]? = _ := (hb.block bx (lt_of_block hblk0)).trans hblk0
    exact ⟨by rw [cell_of_row W bx 0 _ _ _ hk]; rfl, by rw [cell_of_row W bx 1 _ _ _ hk]; rfl, by rw [cell_of_row W bx 2 _ _ _ hk]; rfl, by rw [cell_of_row W bx 3 _ _ _ hk]; rfl⟩
   have hp2 : Hid (∀ W, Below W0.heap.size W0 W → Calls Tryz.prog 94 #[.agg #[.int .i64 x0, .int .i64 xt, .int .u8 x2.toNat, .int .i64 x3], .int .i64 (ck.marks.length : Int)] W fun e w' => e = .returned (.bool (properB ck.marks.length (x0, xt, x2, x3))) ∧ Hid (Below wr.heap.size wr w' ∧ Below W0.heap.size W0 w') ∧ w'.cell? ⟨bx, 0, none⟩ = some (.int .i64 x0) ∧ w'.cell? ⟨bx, 1, none⟩ = some (.int .i64 xt) ∧ w'.cell? ⟨bx, 2, none⟩ = some (.int .u8 x2.toNat) ∧ w'.cell? ⟨bx, 3, none⟩ = some (.int .i64 x3) ∧ w'.cell? ⟨rb, 0, none⟩ = some (.slice (some ⟨ck.mg, 0, none⟩) ck.marks.length ck.marks.length)) := by
    intro W hb
    refine (hprop.out W (hB0.trans (hb.mono hB0.size))).mono ?_
    rintro e w' ⟨rfl, hb1, hb2⟩
    have hb3 : Below W0.heap.size W0 w' := hb.trans (hb2.mono hb.size)
    obtain ⟨k0, k1, k2, k3⟩ := hbox.out w' hb3
    exact ⟨rfl, ⟨hb1, hb3⟩, k0, k1, k2, k3, (hcell.out w' hb1).1⟩
   rw [hW0, hbx]
   obtain ⟨k0, k1, k2, k3⟩ := hbox.out W0 (Below.refl _ _)
   obtain ⟨e0, e1, _⟩ := hcell.out W0 hB0
   have HB0 : Below W0.heap.size W0 W0 := Below.refl _ _
   have HBX := Hid.mk' hbx
   have HB00 := Hid.mk' hB0
   clear hW0 hbx hblk0 d0 d1 fz y0 y1 y2 y3 hprop hB0
   go_wp2
   go_region_held3 (fun w' => w'.cell? ⟨bx, 0, none⟩ = some (.int .i64 x0) ∧ w'.cell? ⟨bx, 1, none⟩ = some (.int .i64 xt) ∧ w'.cell? ⟨bx, 2, none⟩ = some (.int .u8 x2.toNat) ∧ w'.cell? ⟨bx, 3, none⟩ = some (.int .i64 x3) ∧ w'.cell? ⟨rb, 0, none⟩ = some (.slice (some ⟨ck.mg, 0, none⟩) ck.marks.length ck.marks.length))
    (first | (refine ⟨?_, ?_, ?_, ?_, ?_⟩ <;> (repeat (first | assumption | apply drew_keep | apply alloc_keep))) | go_keep)
    (first | (go_at_call 94; refine (hp2.out _ (by repeat (first | exact HB0 | apply Below.drew))).mono ?_; rintro e w1 ⟨rfl, hB1, j0, j1, j2, j3, j4⟩))
   clear k0 k1 k2 k3 e0 e1 hp2
   obtain ⟨_, d1, fz⟩ := hcell.out w1 hB1.out.1
   have hwl : ck.waits.length ≤ 1000000 + n + i := by have := hO.out.ok.wl; show ck.abs.waits.length ≤ _; omega
   cases hpr : properB ck.marks.length (x0, xt, x2, x3) with
   | false =>
    have hx1 := Hid.mk' (hno.out w1 1 hB1.out.1 (by omega) (by rw [htk.out]; show (if properB ck.marks.length (x0, xt, x2, x3) = true then _ else _) = _; rw [hpr]; rfl))
    go_wp2
    go_ret2
    exact hx1.out
   | true =>
    by_cases hlate : xt < Go.Lull.markB ck.marks
    ·have hx1 := Hid.mk' (fun q => hno.out (w1.drewN q) 5 (below_drewN hB1.out.1 q) (by omega) (by rw [htk.out]; show (if properB ck.marks.length (x0, xt, x2, x3) = true then (if xt < Go.Lull.markB ck.marks then _ else _) else _) = _; rw [hpr, if_pos rfl, if_pos hlate]))
     go_wp2
     go_quiet ((go_at_call 74; exact Calls.quiet_of_same (hmark.out _ (below_drewN hB1.out.1 _))))
     go_wp2
     go_ret2
     exact hx1.out nq
    ·go_wp2
     go_quiet ((go_at_call 74; exact Calls.quiet_of_same (hmark.out _ (below_drewN hB1.out.1 _))))
     by_cases hfull : 60 ≤ ck.waits.length
     ·have hx1 := Hid.mk' (hno.out (w1.drewN nq) 6 (below_drewN hB1.out.1 nq) (by omega) (by rw [htk.out]; show (if properB ck.marks.length (x0, xt, x2, x3) = true then (if xt < Go.Lull.markB ck.marks then _ else if 60 ≤ ck.waits.length then _ else _) else _) = _; rw [hpr, if_pos rfl, if_neg (by omega), if_pos hfull]))
      have hfull' : (60 : Int) ≤ (ck.waits.length : Int) := by omega
      go_wp2
      go_ret2
      exact hx1.out
     ·have hfull' : ¬ (60 : Int) ≤ (ck.waits.length : Int) := by omega
      go_wp2
      obtain ⟨wb, hwb⟩ : ∃ wb, w1.drewN nq = wb := ⟨_, rfl⟩
      have hBb1 : Below W0.heap.size W0 wb := by rw [← hwb]; exact below_drewN hB1.out.2 nq
      have hBb : Below wr.heap.size wr wb := by rw [← hwb]; exact below_drewN hB1.out.1 nq
      rw [hwb]
      have hall : Hid (∀ W, Below wb.heap.size wb W → (W.cell? ⟨bx, 0, none⟩ = some (.int .i64 x0) ∧ W.cell? ⟨bx, 1, none⟩ = some (.int .i64 xt) ∧ W.cell? ⟨bx, 2, none⟩ = some (.int .u8 x2.toNat) ∧ W.cell? ⟨bx, 3, none⟩ = some (.int .i64 x3)) ∧ W.cell? ⟨rb, 1, none⟩ = some (.slice qa ck.waits.length qc) ∧ W.frozen? ⟨rb, 1, none⟩ = false) := by
       intro W hb
       exact ⟨hbox.out W (hBb1.trans (hb.mono hBb1.size)), (hcell.out W (hBb.trans (hb.mono hBb.size))).2⟩
      have hput : Hid (∀ w3 v3, NewEv wb w3 v3 (putB ck.waits (x0, xt, x2, x3)) → OFR w (w3.setCell ⟨rb, 1, none⟩ v3) rb n c { ck with wv := v3, waits := putB ck.waits (x0, xt, x2, x3) } (.slice (some ⟨g, off, none⟩) l.length vc) l (i + 1)) := by
       intro w3 v3 hN
       have hO' := hO.out
       have hB3 : Below wr.heap.size wr w3 := hBb.trans (hN.below.mono hBb.size)
       have hre3 := hO'.re.below hB3
       have hp8 : 0 ≤ xt ∧ xt ≤ 1000000 := by
        unfold properB at hpr
        simp at hpr
        omega
       refine ⟨hre3.setWaits hN.row (fun b hb hm => ?_), ?_, ⟨?_, ?_⟩, ?_, ?_⟩
       ·have h1 := hN.new b hb
        have h2 := hO'.re.lt b (List.mem_append_left _ hm)
        have := hBb.size
        omega
       ·have := put_rok hO'.ok (e := (x0, xt, x2, x3)) (by show Go.Lull.markB ck.marks ≤ xt; omega) hp8.1 hp8.2
        exact this
       ·have hrbm : rb ∈ ck.blocks rb := List.mem_append_left _ List.mem_cons_self
        refine (hO'.ext.fr.trans (Fr.of_below _ ⟨hB3.os, hB3.tape, hB3.output, hB3.size, hB3.block⟩)).setCell (p := ⟨rb, 1, none⟩) ?_ _
        exact hO'.ext.sub rb hrbm
       ·intro b hb
        rcases List.mem_append.1 hb with h1 | h1
        ·exact hO'.ext.sub b (List.mem_append_left _ h1)
        ·rcases List.mem_append.1 h1 with h2 | h2
         ·right
          have h3 := hN.new b (by simpa using h2)
          have h4 := hO'.ext.fr.size
          have := hBb.size
          omega
         ·exact hO'.ext.sub b (List.mem_append_right _ (List.mem_append_right _ h2))
       ·refine hO'.row.same (fun b hb hp => ?_)
        obtain ⟨h1, h2⟩ := HVL.out b hb hp
        have h3 := (hO'.ext.keep h1 h2).2
        have h4 : b ≠ rb := fun e => h3 (by rw [e]; exact List.mem_append_left _ List.mem_cons_self)
        rw [Below.heap_setCell _ _ _ _ h4, hB3.block b (hO'.row.lt hp b hb)]
       ·have he := hO'.eq
        have htk0 : takeE (eOf ck.abs) (x0, xt, x2, x3) = (0, eOf { ck.abs with waits := putB ck.waits (x0, xt, x2, x3) }) := by
         rw [htk.out]
         show (if properB ck.marks.length (x0, xt, x2, x3) = true then (if xt < Go.Lull.markB ck.marks then _ else if 60 ≤ ck.waits.length then _ else _) else _) = _
         rw [hpr, if_pos rfl, if_neg (by omega), if_neg hfull]
         rfl
        rw [List.drop_eq_getElem_cons hlt, HX.out, offer_yes (by rw [htk0]), htk0] at he
        rw [he]
        show (_ + 1 + i, _) = (_ + (i + 1), _)
        rw [Nat.add_assoc, Nat.add_comm 1 i]
        rfl
      have hRW : Hid (Row wb 75 4 (.slice qa ck.waits.length qc) ck.waits.length (ck.waits.flatMap evC)) := by
       have h1 := hO.out.re.waits
       rw [hwv] at h1
       exact h1.same (fun b hb => hBb.block b (h1.lt b hb))
      have hsb : Hid (SB ck.waits) := hO.out.ok.sb
      obtain ⟨out, hout⟩ : ∃ out, ck.waits = out := ⟨_, rfl⟩
      rw [hout] at hall hput hRW hsb hfull hqc
      rw [hout]
      obtain ⟨k, hk⟩ : ∃ k, out.length = k := ⟨_, rfl⟩
      rw [hk] at hall hRW hfull hqc
      rw [hk]
      have HOL := Hid.mk' hk
      clear hno htk hmark hcell hbox hO HX HVL hwv hBb hBb1 hwb hout hk hB1 hwl hfull' j0 j1 j2 j3 j4 d1 fz hpr HB0 HB00
      have hfin : Hid (∀ w3 v3, NewEv wb w3 v3 (putB out (x0, xt, x2, x3)) → ∃ ck', OFR w (w3.setCell ⟨rb, 1, none⟩ v3) rb n c ck' (.slice (some ⟨g, off, none⟩) l.length vc) l (i + 1)) := fun w3 v3 hN => ⟨_, hput.out w3 v3 hN⟩
      clear hput
      obtain ⟨ei, rfl⟩ : ∃ ei, ei = i := ⟨i, rfl⟩
      rcases Nat.eq_zero_or_pos k with hkz | hkz
      ·subst hkz
       have hon : out = [] := List.eq_nil_of_length_eq_zero HOL.out
       have hpl : Hid (putB out (x0, xt, x2, x3) = [(x0, xt, x2, x3)]) := by unfold Hid; rw [hon]; rfl
       clear hon
       have hqa : (qa = none ∧ qc = 0) ∨ ∃ g1 o1, qa = some ⟨g1, o1, none⟩ := by
        rcases hRW.out.2 with ⟨h1, _⟩ | ⟨g1, o1, cp, cur, h1, _⟩
        ·obtain ⟨e1, _, e2⟩ := Value.slice.inj h1
         exact Or.inl ⟨e1, e2⟩
        ·obtain ⟨e1, _, e2⟩ := Value.slice.inj h1
         exact Or.inr ⟨g1, o1, e1⟩
       have hsr0 : Hid (∀ W, Src Tryz.prog 4 39 (.slice qa 0 qc) 0 [] W) := by
        intro W
        rcases hqa with ⟨rfl, rfl⟩ | ⟨g1, o1, rfl⟩
        ·exact Src.ofNil _ Tryz.underlying39 _
        ·exact Src.ofSlice _ Tryz.underlying39 _ 0 _ [] (by simp) (by simp) (by simp)
       rcases hqa with ⟨rfl, rfl⟩ | ⟨g1, o1, rfl⟩
       all_goals
        obtain ⟨⟨b0, b1, b2, b3⟩, r1c, fz1⟩ := hall.out wb (Below.refl _ _)
        go_loopw [9] (fun a W => ∃ (q : Nat) (z : Int), z = 0 ∧ a = .int .i64 z ∧ W = wb.drewN q) (fun a _ => (intOf a).toNat)
        case atStart => exact ⟨0, 0, rfl, rfl, rfl⟩
        case round =>
         obtain ⟨q, z, rfl, rfl, hW⟩ := hrel
         subst hW
         go_wp2
         go_quiet (fail)
         go_wp2_with (at_builtin; refine append_ev1 (wb.drewN (q + nq)) rfl _ _ rfl (.slice none 0 0) 0 [] _ _ _ _ (by simp [Value.oneCell']) rfl ⟨rfl, Or.inl ⟨rfl, rfl⟩⟩ rfl (by omega) ?_)
         intro g2 o2 c2 w2 r2 gr2 b2'
         have hN2 : NewEv wb w2 (.slice (some ⟨g2, o2, none⟩) 1 c2) (putB out (x0, xt, x2, x3)) := by
          rw [hpl.out]
          have hs2 := gr2.size
          simp at hs2
          refine ⟨((below_drewN (Below.refl wb.heap.size wb) (q + nq)).alloc (Nat.le_refl _) _).grown gr2 (by simp) (fun b hb => by cases hb), by simpa [evC] using r2, fun b hb => ?_⟩
          have hb' : g2 = b := Option.some.inj hb
          rcases b2' with h1 | h1
          ·cases h1
          ·have h1' : g2 = wb.heap.size + 1 := h1
           omega
         obtain ⟨_, r1d, fz2⟩ := hall.out w2 hN2.below
         have R2 := Hid.mk' r2
         have N2 := Hid.mk' hN2
         have hsr := Hid.mk' (hsr0.out w2)
         clear r2 gr2 b2' hN2
         go_wp2_with (at_builtin; refine append_evs0 w2 rfl _ _ rfl (.slice (some ⟨g2, o2, none⟩) 1 c2) 1 _ rfl R2.out _ 0 _ rfl hsr.out (by omega) ?_)
         intro va3 c3 w3 r3 gr3 b3
         have hN3 : NewEv wb w3 (.slice va3 1 c3) (putB out (x0, xt, x2, x3)) := by
          have hs3 := N2.out.below.size
          refine ⟨N2.out.below.grown gr3 hs3 (fun b hb => N2.out.new b hb), ?_, fun b hb => ?_⟩
          ·rw [hpl.out]; simpa [evC] using r3
          ·rcases b3 b hb with h1 | h1
           ·exact N2.out.new b h1
           ·omega
         obtain ⟨ck', hck⟩ := hfin.out w3 _ hN3
         obtain ⟨_, r1e, fz3⟩ := hall.out w3 hN3.below
         have HCK := Hid.mk' hck
         clear r3 gr3 b3 hck hN3
         go_wp2
         go_roundw
         case rel => exact ⟨ei + 1, (ei : Int) + 1, ck', by omega, rfl, by omega, HCK⟩
         case measure => simp [intOf]; omega
      ·obtain ⟨go_, oo, oc', hoa, _⟩ := row_some hRW.out (by omega)
       obtain ⟨rfl, _, rfl⟩ := Value.slice.inj hoa
       clear hoa
       have hB : Hid (Below wb.heap.size wb wb) := Hid.mk' (Below.refl _ _)
       have hR := hRW
       have hR0 : Hid (∀ W : World, W.heap = wb.heap → ∀ j, j ≤ k → 0 < k → ∀ g1 o1, some (⟨go_, oo, none⟩ : Addr) = some ⟨g1, o1, none⟩ → (∀ c', Src Tryz.prog 4 39 (.slice (some ⟨g1, o1, none⟩) j c') j ((out.take j).flatMap evC) W)) := by
        intro W hW j hj hk1 g1 o1 ha c'
        have hr : Row W 75 4 (.slice (some ⟨g1, o1, none⟩) out.length qc) out.length (out.flatMap evC) := by rw [← ha, HOL.out]; exact hR.out.same (fun b _ => by rw [hW])
        have := ev_piece hr 0 j (Nat.zero_le _) (by rw [HOL.out]; exact hj) o1 c' (by omega)
        simpa using this
       have hR1 : Hid (∀ W : World, (∀ b, (Value.slice (some ⟨go_, oo, none⟩) k qc).ownBlock = some b → W.heap[b]? = wb.heap[b]?) → ∀ j, j ≤ k → 0 < k → ∀ g1 o1, some (⟨go_, oo, none⟩ : Addr) = some ⟨g1, o1, none⟩ → ∀ ad c', (k - j = 0 ∨ ad = ⟨g1, o1 + j * 4, none⟩) → Src Tryz.prog 4 39 (.slice (some ad) (k - j) c') (k - j) ((out.drop j).flatMap evC) W) := by
        intro W hW j hj hk1 g1 o1 ha ad c' had
        rcases had with h0 | rfl
        ·have : out.drop j = [] := List.drop_eq_nil_of_le (by rw [HOL.out]; omega)
         rw [this, h0]
         exact Src.ofSlice _ Tryz.underlying39 _ 0 _ [] (by simp) (by simp) (by simp)
        ·have hr : Row W 75 4 (.slice (some ⟨g1, o1, none⟩) out.length qc) out.length (out.flatMap evC) := by rw [← ha, HOL.out]; exact hR.out.same (fun b hb => hW b hb)
         have := ev_piece hr j k hj (by rw [HOL.out]; exact Nat.le_refl _) (o1 + j * 4) c' rfl
         rw [List.take_of_length_le (by simp [HOL.out])] at this
         exact this
       go_loopw [9] (fun a W => ∃ (j q : Nat) (z : Int), z = j ∧ a = .int .i64 z ∧ j ≤ k ∧ W = wb.drewN q ∧ Hid (∀ i, (h : i < out.length) → j ≤ i → after out[i] (x0, xt, x2, x3) = true)) (fun a _ => (intOf a).toNat)
       case atStart => exact ⟨k, 0, k, rfl, rfl, Nat.le_refl _, rfl, Hid.mk' (fun i h hi => by have := HOL.out; omega)⟩
       case round =>
        obtain ⟨j, q, z, rfl, rfl, hj, hW, hafter⟩ := hrel
        subst hW
        obtain ⟨⟨y0, y1, y2, y3⟩, r1c, fz1⟩ := hall.out wb (Below.refl _ _)
        have hplace : Hid (0 < j → ∀ h : j - 1 < out.length, after out[j - 1] (x0, xt, x2, x3) = false) → Hid (placeB out (x0, xt, x2, x3) = j) := fun hh => Hid.mk' (place_scan hsb.out j (by have := HOL.out; omega) hafter.out (fun h hp => hh.out hp h))
        have hdec : (j = 0 ∨ ∃ i y, j = i + 1 ∧ i < out.length ∧ out[i]? = some y ∧ after y (x0, xt, x2, x3) = false) ∨ ∃ i y, j = i + 1 ∧ i < out.length ∧ out[i]? = some y ∧ after y (x0, xt, x2, x3) = true := by
         rcases Nat.eq_zero_or_pos j with hj0 | hj0
         ·exact Or.inl (Or.inl hj0)
         ·have hl := HOL.out
          cases ha : after (out[j - 1]'(by omega)) (x0, xt, x2, x3) with
          | false => exact Or.inl (Or.inr ⟨j - 1, _, by omega, by omega, List.getElem?_eq_getElem (by omega), ha⟩)
          | true => exact Or.inr ⟨j - 1, _, by omega, by omega, List.getElem?_eq_getElem (by omega), ha⟩
        have hnext2 : Hid (∀ (W w1 w2 w3 : World) (v1 v2 v3 : Value) (o : Obj), placeB out (x0, xt, x2, x3) = j → W = wb.drewN q ∨ (∃ q', W = (wb.drewN q).drewN q') → W.grownBy w1 none → (∀ b, v1.ownBlock = some b → b = W.heap.size) → (w1.alloc o).grownBy w2 v1.ownBlock → (∀ b, v2.ownBlock = some b → v1.ownBlock = some b ∨ b = w1.heap.size + 1) → w2.grownBy w3 v2.ownBlock → (∀ b, v3.ownBlock = some b → v2.ownBlock = some b ∨ b = w2.heap.size) → Row w3 75 4 v3 (j + 1 + (k - j)) (((out.take j).flatMap evC ++ evC (x0, xt, x2, x3)) ++ (out.drop j).flatMap evC) → NewEv wb w3 v3 (putB out (x0, xt, x2, x3))) := by
         intro W w1 w2 w3 v1 v2 v3 o hp hW g1 b1 g2 b2 g3 b3 r3
         have hBW : Below wb.heap.size wb W := by
          rcases hW with rfl | ⟨q', rfl⟩
          ·exact below_drewN hB.out q
          ·exact below_drewN (below_drewN hB.out q) q'
         have s1 := g1.size
         have s2 := g2.size
         simp at s2
         have hl := HOL.out
         refine sort_fin (oa := v1) (n1 := 0) hBW g1 (fun b hb => by have := b1 b hb; omega) g2 (fun b hb => (b2 b hb).imp id (fun h => by omega)) g3 (fun b hb => (b3 b hb).imp id (fun h => by omega)) ?_ (by omega) hp
         rw [hl]; exact r3
        rcases hdec with hdec | ⟨i, y, rfl, hio, hy, ha⟩
        ·have hwalk : Hid (placeB out (x0, xt, x2, x3) = j) := by
          refine hplace (Hid.mk' (fun hp h => ?_))
          rcases hdec with h0 | ⟨i, y, rfl, hio, hy, ha⟩
          ·omega
          ·have hy' : out[i] = y := by rw [List.getElem?_eq_getElem hio] at hy; exact Option.some.inj hy
           simp only [Nat.add_sub_cancel]
           rw [hy']; exact ha
         have hjk : (j : Int) ≤ (qc : Int) := by omega
         have hjk2 : j ≤ qc := by omega
         have hexit : (j = 0) ∨ (∃ (i : Nat) (y : Ev), j = i + 1 ∧ wb.cell? ⟨go_, oo + i * 4, none⟩ = some (.int .i64 y.1) ∧ wb.cell? ⟨go_, oo + i * 4 + 1, none⟩ = some (.int .i64 y.2.1) ∧ (¬ xt < y.2.1 ∧ ¬ y.2.1 = xt)) ∨ (∃ (i : Nat) (y : Ev), j = i + 1 ∧ wb.cell? ⟨go_, oo + i * 4, none⟩ = some (.int .i64 y.1) ∧ wb.cell? ⟨go_, oo + i * 4 + 1, none⟩ = some (.int .i64 y.2.1) ∧ y.2.1 = xt ∧ ¬ x0 < y.1) := by
          rcases hdec with h0 | ⟨i, y, hji, hio, hy, ha⟩
          ·exact Or.inl h0
          ·have hy' : out[i] = y := by rw [List.getElem?_eq_getElem hio] at hy; exact Option.some.inj hy
           have hRo : Row wb 75 4 (.slice (some ⟨go_, oo, none⟩) out.length qc) out.length (out.flatMap evC) := by rw [HOL.out]; exact hR.out
           obtain ⟨u0, u1, u2, u3⟩ := ev_at hRo i hio
           rw [hy'] at u0 u1 u2 u3
           have hna : ¬ (xt < y.2.1 ∨ (y.2.1 = xt ∧ x0 < y.1)) := fun h => by have h2 := (after_iff y (x0, xt, x2, x3)).2 h; rw [ha] at h2; cases h2
           by_cases he : y.2.1 = xt
           ·exact Or.inr (Or.inr ⟨i, y, hji, u0, u1, he, fun h => hna (Or.inr ⟨he, h⟩)⟩)
           ·exact Or.inr (Or.inl ⟨i, y, hji, u0, u1, fun h => hna (Or.inl h), he⟩)
         clear hplace hdec hafter
         rcases hexit with h0 | ⟨i, y, hji, u0, u1, hn1, hn2⟩ | ⟨i, y, hji, u0, u1, hn1, hn2⟩
         ·subst h0
          go_wp2
          go_quiet (fail)
          go_wp2_with (at_builtin; refine append_ev1 (wb.drewN (q + nq)) rfl _ _ rfl (.slice none 0 0) 0 [] _ _ _ _ (by simp [Value.oneCell']) rfl ⟨rfl, Or.inl ⟨rfl, rfl⟩⟩ rfl (by omega) ?_)
          intro g2 o2 c2 w2 r2 g2' b2
          have r2' : Row w2 75 4 (.slice (some ⟨g2, o2, none⟩) 1 c2) 1 (evC (x0, xt, x2, x3)) := r2
          clear r2
          have r2 := r2'
          clear r2'
          have hg2 : (wb.alloc (.cells #[.int .i64 x0, .int .i64 xt, .int .u8 x2.toNat, .int .i64 x3] 75)).grownBy w2 none := ⟨g2'.os, g2'.tape, g2'.output, g2'.size, g2'.block⟩
          have hsrc := Hid.mk' (hR1.out w2 (fun b hb => by rw [hg2.block b (by have := hR.out.lt b hb; simp; omega) (fun e => by cases e), Below.heap_alloc _ _ _ (hR.out.lt b hb)]) 0 (by omega) hkz go_ oo rfl ⟨go_, oo, none⟩ qc (Or.inr (by simp)))
          have R2 := Hid.mk' r2
          have G2 := Hid.mk' g2'
          have B2 := Hid.mk' b2
          have hBw2 : Below wb.heap.size wb w2 := ((Below.refl _ _).alloc (Nat.le_refl _) _).grown hg2 (by simp) (fun b hb => by cases hb)
          obtain ⟨_, r1f, fzf⟩ := hall.out w2 hBw2
          clear r2 g2' b2 hg2 hBw2
          simp only [Nat.sub_zero] at hsrc
          go_wp2_with (at_builtin; go_loud (refine append_evs0 _ rfl _ _ rfl (.slice (some ⟨g2, o2, none⟩) 1 c2) 1 _ rfl R2.out (.slice (some ⟨go_, oo, none⟩) k qc) k _ rfl hsrc.out (by omega) ?_))
          intro va3 c3 w3 r3 g3 b3
          have hN3 := (hnext2.out (wb.drewN q) (wb.drewN q) w2 w3 (.slice none 0 0) _ _ _ hwalk.out (Or.inl rfl) ⟨rfl, rfl, rfl, Nat.le_refl _, fun _ _ _ => rfl⟩ (fun b hb => by cases hb) ⟨G2.out.os, G2.out.tape, G2.out.output, G2.out.size, G2.out.block⟩ (fun b hb => by have hb' : g2 = b := Option.some.inj hb; rcases B2.out with h | h; exact absurd h (by simp [Value.ownBlock]); exact Or.inr (by rw [← hb', h]; rfl)) g3 b3 (by simpa [evC] using r3))
          obtain ⟨ck', hck⟩ := hfin.out w3 _ hN3
          obtain ⟨_, r1e, fz3⟩ := hall.out w3 hN3.below
          have HCK := Hid.mk' hck
          clear r3 g3 b3 hck hN3
          go_wp2
          go_roundw
          case rel => exact ⟨ei + 1, (ei : Int) + 1, ck', by omega, rfl, by omega, HCK⟩
          case measure => simp [intOf]; omega
         all_goals
          subst hji
          have hgt : (0 : Int) < (i : Int) + 1 := by omega
          have w1 : IntKind.i64.wrap ((i : Int) + 1 - 1) = i := by rw [IntWalk.i64_in _ (by omega)]; omega
          have w2 : IntKind.i64.wrap (i : Int) = i := IntWalk.i64_in _ (by omega)
          have hik : i < k := by omega
          have hik' : (i : Int) < (k : Int) := by omega
          have hjk3 : (i : Int) + 1 ≤ (qc : Int) := by omega
          have hjk4 : i + 1 ≤ qc := by omega
          have hjk5 : i < qc := by omega
          have hjk6 : (0 : Int) ≤ (i : Int) + 1 := by omega
          have hjk7 : i + 1 ≤ k := by omega
          have hjk8 : (i : Int) + 1 ≤ (k : Int) := by omega
          first | (have ht2 : ¬ xt < y.2.1 := hn1) | (have ht2 : ¬ xt < y.2.1 := by omega)
          go_wp2
          go_quiet (fail)
          go_wp2_with (at_builtin; refine append_evs0 _ rfl _ _ rfl (.slice none 0 0) 0 [] rfl ⟨rfl, Or.inl ⟨rfl, rfl⟩⟩ (.slice (some ⟨go_, oo, none⟩) (i + 1) qc) (i + 1) _ rfl (hR0.out (wb.drewN (q + nq)) rfl (i + 1) (by omega) hkz go_ oo rfl qc) (by omega) ?_)
          intro va1 c1 w1' r1 g1 b1
          have g1' : wb.grownBy w1' none := ⟨g1.os, g1.tape, g1.output, g1.size, g1.block⟩
          have hBw1 : Below wb.heap.size wb w1' := hB.out.grown g1' hB.out.size (fun b hb => by cases hb)
          obtain ⟨⟨y0', y1', y2', y3'⟩, r1c', fz1'⟩ := hall.out w1' hBw1
          have hsz1 : wb.heap.size ≤ w1'.heap.size := g1'.size
          have hkeep1 : Hid (∀ b, (Value.slice (some ⟨go_, oo, none⟩) k qc).ownBlock = some b → w1'.heap[b]? = wb.heap[b]? ∧ b < wb.heap.size) := fun b hb => ⟨g1'.block b (hR.out.lt b hb) (fun e => by cases e), hR.out.lt b hb⟩
          have R1 : Hid (Row w1' 75 4 (.slice va1 (i + 1) c1) (i + 1) ((out.take (i + 1)).flatMap evC)) := r1
          have G1 := Hid.mk' g1
          have B1 := Hid.mk' b1
          have HBW1 := Hid.mk' hBw1
          clear r1 g1 b1 hBw1 g1'
          go_wp2_with (at_builtin; refine append_ev1 _ rfl _ _ rfl (.slice va1 (i + 1) c1) (i + 1) _ _ _ _ _ (by simp [Value.oneCell']) rfl R1.out rfl (by omega) ?_)
          intro g2 o2 c2 w2' r2 g2' b2
          have hva1 : ∀ b, (Value.slice va1 (i + 1) c1).ownBlock = some b → wb.heap.size ≤ b := fun b hb => by
           rcases B1.out b hb with h | h
           ·cases h
           ·have : b = wb.heap.size := h
            omega
          have hBw2 : Below wb.heap.size wb w2' := (HBW1.out.alloc HBW1.out.size _).grown g2' (by have := HBW1.out.size; simp; omega) hva1
          obtain ⟨_, r1f, fzf⟩ := hall.out w2' hBw2
          clear hBw2
          have hsrc : Hid (∀ ad c', (k - (i + 1) = 0 ∨ ad = ⟨go_, oo + (i + 1) * 4, none⟩) → Src Tryz.prog 4 39 (.slice (some ad) (k - (i + 1)) c') (k - (i + 1)) ((out.drop (i + 1)).flatMap evC) w2') := fun ad c' had =>
           hR1.out w2' (fun b hb => by
            obtain ⟨e1, e2⟩ := hkeep1.out b hb
            rw [g2'.block b (by simp; omega) (fun e => by have := hva1 b e.symm; omega), Below.heap_alloc _ _ _ (by omega), e1]) (i + 1) (by omega) hkz go_ oo rfl ad c' had
          have R2 : Hid (Row w2' 75 4 (.slice (some ⟨g2, o2, none⟩) (i + 1 + 1) c2) (i + 1 + 1) ((out.take (i + 1)).flatMap evC ++ evC (x0, xt, x2, x3))) := r2
          have G2 := Hid.mk' g2'
          have B2 := Hid.mk' b2
          clear r2 g2' b2 hva1 y0' y1' y2' y3'
          have hfinK : Hid (∀ va3 c3 w3, Row w3 75 4 (.slice va3 (i + 1 + 1 + (k - (i + 1))) c3) (i + 1 + 1 + (k - (i + 1))) (((out.take (i + 1)).flatMap evC ++ evC (x0, xt, x2, x3)) ++ (out.drop (i + 1)).flatMap evC) → w2'.grownBy w3 (Value.slice (some ⟨g2, o2, none⟩) (i + 1 + 1) c2).ownBlock → (∀ b, (Value.slice va3 (i + 1 + 1 + (k - (i + 1))) c3).ownBlock = some b → (Value.slice (some ⟨g2, o2, none⟩) (i + 1 + 1) c2).ownBlock = some b ∨ b = w2'.heap.size) → NewEv wb w3 (.slice va3 (i + 1 + 1 + (k - (i + 1))) c3) (putB out (x0, xt, x2, x3))) := by
           intro va3 c3 w3 r3 g3 b3
           refine hnext2.out ((wb.drewN q).drewN nq) w1' w2' w3 (.slice va1 (i + 1) c1) (.slice (some ⟨g2, o2, none⟩) (i + 1 + 1) c2) _ _ hwalk.out (Or.inr ⟨nq, rfl⟩) ⟨G1.out.os, G1.out.tape, G1.out.output, G1.out.size, G1.out.block⟩ (fun b hb => ?_) G2.out (fun b hb => ?_) g3 b3 r3
           ·rcases B1.out b hb with h | h
            ·cases h
            ·exact h
           ·have hb' : g2 = b := Option.some.inj hb
            rcases B2.out with h | h
            ·exact Or.inl (by rw [← hb']; exact h)
            ·exact Or.inr (by rw [← hb']; exact h)
          by_cases hcj : qc = i + 1
          ·have hki : k = i + 1 := by omega
           have hsr := Hid.mk' (hsrc.out ⟨go_, oo, none⟩ 0 (Or.inl (by omega)))
           have hz0 : k - (i + 1) = 0 := by omega
           rw [hz0] at hsr hfinK
           subst hki
           subst hcj
           go_wp2_with (at_builtin; refine append_evs0 _ rfl _ _ rfl (.slice (some ⟨g2, o2, none⟩) (i + 1 + 1) c2) (i + 1 + 1) _ rfl R2.out (.slice (some ⟨go_, oo, none⟩) 0 0) 0 _ rfl hsr.out (by omega) ?_)
           intro va3 c3 w3 r3 g3 b3
           have hN3 := (hfinK.out va3 c3 w3 (by rw [List.append_assoc]; exact r3) g3 b3)
           obtain ⟨ck', hck⟩ := hfin.out w3 _ hN3
           obtain ⟨_, r1e, fz3⟩ := hall.out w3 hN3.below
           have HCK := Hid.mk' hck
           clear r3 g3 b3 hck hN3
           go_wp2
           go_roundw
           case rel => exact ⟨ei + 1, (ei : Int) + 1, ck', by omega, rfl, by omega, HCK⟩
           case measure => simp [intOf]; omega
          ·have hsr := Hid.mk' (hsrc.out ⟨go_, oo + (i + 1) * 4, none⟩ (qc - (i + 1)) (Or.inr rfl))
           go_wp2_with (at_builtin; refine append_evs0 _ rfl _ _ rfl (.slice (some ⟨g2, o2, none⟩) (i + 1 + 1) c2) (i + 1 + 1) _ rfl R2.out (.slice (some ⟨go_, oo + (i + 1) * 4, none⟩) (k - (i + 1)) (qc - (i + 1))) (k - (i + 1)) _ rfl hsr.out (by omega) ?_)
           intro va3 c3 w3 r3 g3 b3
           have hN3 := (hfinK.out va3 c3 w3 (by rw [List.append_assoc]; exact r3) g3 b3)
           obtain ⟨ck', hck⟩ := hfin.out w3 _ hN3
           obtain ⟨_, r1e, fz3⟩ := hall.out w3 hN3.below
           have HCK := Hid.mk' hck
           clear r3 g3 b3 hck hN3
           go_wp2
           go_roundw
           case rel => exact ⟨ei + 1, (ei : Int) + 1, ck', by omega, rfl, by omega, HCK⟩
           case measure => simp [intOf]; omega
        ·have hy' : out[i] = y := by rw [List.getElem?_eq_getElem hio] at hy; exact Option.some.inj hy
         have hRo : Row wb 75 4 (.slice (some ⟨go_, oo, none⟩) out.length qc) out.length (out.flatMap evC) := by rw [HOL.out]; exact hR.out
         obtain ⟨u0, u1, u2, u3⟩ := ev_at hRo i hio
         rw [hy'] at u0 u1 u2 u3
         clear hRo
         have hgt : (0 : Int) < (i : Int) + 1 := by omega
         have w1 : IntKind.i64.wrap ((i : Int) + 1 - 1) = i := by rw [IntWalk.i64_in _ (by omega)]; omega
         have w2 : IntKind.i64.wrap (i : Int) = i := IntWalk.i64_in _ (by omega)
         have hik : i < k := by omega
         have hik' : (i : Int) < (k : Int) := by omega
         have hall : Hid (∀ i', (h : i' < out.length) → i ≤ i' → after out[i'] (x0, xt, x2, x3) = true) := by
          intro i' h hi'
          rcases Nat.lt_or_ge i i' with h1 | h1
          ·exact hafter.out i' h (by omega)
          ·obtain rfl : i' = i := by omega
           rw [hy']; exact ha
         rw [after_iff] at ha
         simp only at ha
         clear hplace hnext2 hy hy' hafter
         rcases ha with ht | ⟨ht, hs⟩
         ·go_wp2
          go_quiet (fail)
          go_wp2
          go_roundw
          case rel => exact ⟨i, q + nq, i, rfl, rfl, by omega, by first | rfl | exact (World.drewN_drewN _ _ _), hall⟩
          case measure => simp [intOf]
         ·have ht2 : ¬ xt < y.2.1 := by omega
          go_wp2
          go_quiet (fail)
          go_wp2
          go_roundw
          case rel => exact ⟨i, q + nq, i, rfl, rfl, by omega, by first | rfl | exact (World.drewN_drewN _ _ _), hall⟩
          case measure => simp [intOf]
  ·have hil : i = l.length := by omega
   subst hil
   have hfin : Hid (OfferR w rb n c l (.returned (.tuple #[.int .i64 (l.length : Int), .int .i64 0])) wr) := by
    have he := hO.out.eq
    rw [List.drop_length] at he
    have h0 : offerE (eOf ck.abs) [] = (0, 0, eOf ck.abs) := rfl
    rw [h0] at he
    refine ⟨ck, ?_, by rw [he], hO.out.re, hO.out.ok, hO.out.ext⟩
    rw [he]; simp
   clear hO
   go_wp2
   go_ret2
   exact hfin.out
end Go.Proofs.YtbgfannlfagoiaaGreatDoor
