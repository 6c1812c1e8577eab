import Derived.Test.YtbgfannlfagoiaaDoorGa
namespace Go.Proofs.YtbgfannlfagoiaaDoor
open Go.RowKit Go.Lull
set_option linter.unusedVariables false

theorem Tryd.infoEv : (Tryd.prog.info? 56).map (fun i => (i.zero, i.size, i.bytes)) = some (some (.agg #[.int .i64 0, .int .i64 0, .int .u8 0, .int .i64 0]), 4, 32) := by kernel_rfl
theorem evC_at' (w : World) (s t v : Int) (k : UInt8) (T n : Nat) (hn : n = w.heap.size) : ∀ j u, [Value.int .i64 s, .int .i64 t, .int .u8 k.toNat, .int .i64 v][j]? = some u → (w.alloc (.cells #[.int .i64 s, .int .i64 t, .int .u8 k.toNat, .int .i64 v] T)).cell? ((⟨n, 0, none⟩ : Addr).add j) = some u := by
  intro j u h
  subst hn
  match j, h with
  | 0, h => simp at h; subst h; simp [Addr.add]
  | 1, h => simp at h; subst h; simp [Addr.add]
  | 2, h => simp at h; subst h; simp [Addr.add]
  | 3, h => simp at h; subst h; simp [Addr.add]
  | j + 4, h => simp at h

/-- What see hands back. -/
def SeePost (w : World) (rb pg k c : Nat) (dl : Int) (l : List Stp) (tk : List Ev) (tv : Value) (ev : Ev) (s : SeeR) (e : Ending) (w' : World) : Prop :=
  match s with
  | .fails => e = .returned (.int .i64 1) ∧ Below w.heap.size w w'
  | .on => e = .returned (.int .i64 0) ∧ Below w.heap.size w w'
  | .took j => ∃ tv' lp ln lc, e = .returned (.int .i64 (if l.length ≤ j then 2 else 0)) ∧ w'.heap[rb]? = some (.cells #[.int .i64 dl, tv', .slice lp ln lc] 177 (0, 0)) ∧ (j < l.length → lp = some ⟨pg, k + j, none⟩ ∧ ln = l.length - j ∧ lc = c - j) ∧
      w'.ownsRow 0 56 4 tv' (tk.length + 1) (tk.flatMap evC ++ evC ev) ∧ Fr (rb :: tv.ownBlock.toList) w w' ∧ (∀ b, tv'.ownBlock = some b → tv.ownBlock = some b ∨ w.heap.size ≤ b)

set_option maxRecDepth 8000 in
set_option maxHeartbeats 1000000 in
theorem see_any (rb pg k c : Nat) (dl : Int) (l : List Stp) (tk : List Ev) (tv : Value) (ev : Ev) (w : World) (hl : l.length ≤ 8) (hcap : l.length ≤ c) (htk : tk.length ≤ 8)
    (hblk : w.heap[rb]? = some (.cells #[.int .i64 dl, tv, .slice (some ⟨pg, k, none⟩) l.length c] 177 (0, 0))) (hs : ST w pg k l) (hpg : pg < w.heap.size) (hpr : pg ≠ rb)
    (hown : w.ownsRow 0 56 4 tv tk.length (tk.flatMap evC)) (hne : tv.ownBlock ≠ some rb) :
    Calls Tryd.prog 147 #[.pointer (some ⟨rb, 0, none⟩), .agg #[.int .i64 ev.1, .int .i64 ev.2.1, .int .u8 ev.2.2.1.toNat, .int .i64 ev.2.2.2]] w (SeePost w rb pg k c dl l tk tv ev (seeL ev l 0)) := by
  have t1 := must_must
  have t2 := not_must
  have t3 := not_not
  have t4 := must_not
  have m1 := must_m
  have m2 := not_m
  have m3 := must_n
  have m4 := not_n
  have hrb := lt_of_block hblk
  obtain ⟨S, hS⟩ : ∃ S, seeL ev l 0 = S := ⟨_, rfl⟩
  rw [hS]
  have hst : Hid (S = seeL ev (l.drop 0) 0) := hS.symm
  obtain ⟨ta, tc, rfl⟩ := own_form hown
  have HB := Hid.mk' hblk
  have HS := Hid.mk' hs
  have HO := Hid.mk' hown
  have c2 := cell_of_row w rb 2 _ _ _ hblk
  simp at c2
  clear hblk hs hown hS
  obtain ⟨es, et, ek, evv⟩ := ev
  simp only
  go_enter Tryd.func147, Tryd.ntmps147
  go_wp2
  obtain ⟨w0, hw0⟩ : ∃ w0, w.alloc (.cells #[.int .i64 es, .int .i64 et, .int .u8 ek.toNat, .int .i64 evv] 56) = w0 := ⟨_, rfl⟩
  rw [hw0]
  have hB0 : Below w.heap.size w w0 := by rw [← hw0]; exact (Below.refl _ _).alloc (Nat.le_refl _) _
  have hev : w0.heap[w.heap.size]? = some (.cells #[.int .i64 es, .int .i64 et, .int .u8 ek.toNat, .int .i64 evv] 56 (0, 0)) := by rw [← hw0]; exact heap_alloc_new _ _
  have hz0 : w0.heap.size = w.heap.size + 1 := by rw [← hw0]; simp
  have HEV := Hid.mk' hev
  have HZ := Hid.mk' hz0
  clear hw0 hev hz0
  go_loopw [12] (fun i wr => ∃ j : Nat, j ≤ l.length ∧ i = .int .i64 j ∧ Hid (S = seeL (es, et, ek, evv) (l.drop j) j) ∧ Hid (Below w0.heap.size w0 wr)) (fun i _ => l.length - (intOf i).toNat)
  case atStart => exact ⟨0, Nat.zero_le _, rfl, hst, Below.refl _ _⟩
  case round =>
    obtain ⟨j, hj, rfl, hS, hB⟩ := hrel
    have HBw : Hid (Below w.heap.size w wr) := hB0.trans (hB.out.mono (by rw [HZ.out]; omega))
    have Hsz : Hid (w.heap.size ≤ wr.heap.size) := HBw.out.size
    by_cases hlt : j < l.length
    · have hcj : wr.cell? ⟨pg, k + j, none⟩ = some (stepV l[j]) := by
        rw [(hB.out.mono (B' := w.heap.size) (by rw [HZ.out]; omega)).cell (p := ⟨pg, k + j, none⟩) hpg, hB0.cell (p := ⟨pg, k + j, none⟩) hpg]
        exact HS.out j hlt
      have hdrop : l.drop j = l[j] :: l.drop (j + 1) := List.drop_eq_getElem_cons hlt
      have hevw : wr.heap[w.heap.size]? = some (.cells #[.int .i64 es, .int .i64 et, .int .u8 ek.toNat, .int .i64 evv] 56 (0, 0)) := by
        rw [hB.out.block _ (by rw [HZ.out]; omega)]; exact HEV.out
      have e0 := cell_of_row wr w.heap.size 0 _ _ _ hevw
      have e1 := cell_of_row wr w.heap.size 1 _ _ _ hevw
      have e2 := cell_of_row wr w.heap.size 2 _ _ _ hevw
      have e3 := cell_of_row wr w.heap.size 3 _ _ _ hevw
      simp at e0 e1 e2 e3
      rw [hdrop] at hS
      have hM := fun W => matches_any l[j].2 l[j].1 (es, et, ek, evv) W
      generalize hx : l[j] = x at *
      obtain ⟨xn, xk, xg, xv⟩ := x
      cases xn with
      | true =>
        have hcj' : wr.cell? ⟨pg, k + j, none⟩ = some (.iface 206 (.agg #[.int .u8 xk.toNat, .int .u8 xg.toNat, .int .i64 xv])) := hcj
        cases hf : fitsB (true, xk, xg, xv) (es, et, ek, evv) with
        | true =>
          have hS2 : Hid (S = .fails) := by unfold Hid; rw [hS.out, seeL_not rfl hf]
          have hM2 : ∀ W, Calls Tryd.prog 157 #[.agg #[.int .u8 xk.toNat, .int .u8 xg.toNat, .int .i64 xv], .agg #[.int .i64 es, .int .i64 et, .int .u8 ek.toNat, .int .i64 evv]] W fun e w' => e = .returned (.bool true) ∧ Below W.heap.size W w' := by
            intro W
            have := hM W
            simp only [hf] at this
            exact this
          clear hM hS hcj hdrop hf hevw hx
          go_wp2_with (go_at_call 157; refine (hM2 _).mono ?_; rintro e w1 ⟨rfl, hb⟩)
          go_ret
          rw [hS2.out]
          exact ⟨rfl, HBw.out.trans (hb.mono Hsz.out)⟩
        | false =>
          have hS2 : Hid (S = seeL (es, et, ek, evv) (l.drop (j + 1)) (j + 1)) := by unfold Hid; rw [hS.out, seeL_pass rfl hf]
          have hM2 : ∀ W, Calls Tryd.prog 157 #[.agg #[.int .u8 xk.toNat, .int .u8 xg.toNat, .int .i64 xv], .agg #[.int .i64 es, .int .i64 et, .int .u8 ek.toNat, .int .i64 evv]] W fun e w' => e = .returned (.bool false) ∧ Below W.heap.size W w' := by
            intro W
            have := hM W
            simp only [hf] at this
            exact this
          clear hM hS hcj hdrop hf hevw hx
          go_wp2_with (go_at_call 157; refine (hM2 _).mono ?_; rintro e w1 ⟨rfl, hb⟩)
          go_roundw
          case rel => exact ⟨j + 1, by omega, by go_num, hS2, hB.out.trans (hb.mono hB.out.size)⟩
          case measure => simp [intOf]; omega
      | false =>
        have hcj' : wr.cell? ⟨pg, k + j, none⟩ = some (.iface 207 (.agg #[.int .u8 xk.toNat, .int .u8 xg.toNat, .int .i64 xv])) := hcj
        cases hf : fitsB (false, xk, xg, xv) (es, et, ek, evv) with
        | true =>
          have hS2 : Hid (S = .took (j + 1)) := by unfold Hid; rw [hS.out, seeL_take rfl hf]
          have hM2 : ∀ W, Calls Tryd.prog 157 #[.agg #[.int .u8 xk.toNat, .int .u8 xg.toNat, .int .i64 xv], .agg #[.int .i64 es, .int .i64 et, .int .u8 ek.toNat, .int .i64 evv]] W fun e w' => e = .returned (.bool true) ∧ Below W.heap.size W w' := by
            intro W
            have := hM W
            simp only [hf] at this
            exact this
          clear hM hS hcj hdrop hf hx
          have HEW := Hid.mk' hevw
          clear hevw
          go_wp2_with (go_at_call 157; refine (hM2 _).mono ?_; rintro e w1 ⟨rfl, hb⟩)
          have hsz : w.heap.size + 1 ≤ wr.heap.size := by have := hB.out.size; rw [HZ.out] at this; exact this
          have HB1 : Hid (Below w.heap.size w w1) := HBw.out.trans (hb.mono Hsz.out)
          have hev1 : w1.heap[w.heap.size]? = some (.cells #[.int .i64 es, .int .i64 et, .int .u8 ek.toNat, .int .i64 evv] 56 (0, 0)) := by
            rw [hb.block _ (by omega)]; exact HEW.out
          have e0 := cell_of_row w1 w.heap.size 0 _ _ _ hev1
          have e1 := cell_of_row w1 w.heap.size 1 _ _ _ hev1
          have e2 := cell_of_row w1 w.heap.size 2 _ _ _ hev1
          have e3 := cell_of_row w1 w.heap.size 3 _ _ _ hev1
          simp at e0 e1 e2 e3
          have hblk1 : w1.heap[rb]? = some (.cells #[.int .i64 dl, .slice ta tk.length tc, .slice (some ⟨pg, k, none⟩) l.length c] 177 (0, 0)) := by
            rw [HB1.out.block rb hrb]; exact HB.out
          have r1 := cell_of_row w1 rb 1 _ _ _ hblk1
          have r2 := cell_of_row w1 rb 2 _ _ _ hblk1
          have f1 := frozen_of_row w1 rb 1 _ _ hblk1
          simp at r1 r2
          have HO1 : Hid (w1.ownsRow 0 56 4 (.slice ta tk.length tc) tk.length (tk.flatMap evC)) := by
            exact own_below HO.out ⟨HB1.out.os, HB1.out.tape, HB1.out.output, HB1.out.size, fun k hk => HB1.out.block k hk⟩
          have HK1 := Hid.mk' hblk1
          have hafter : Hid (∀ (w2 : World) (o : Obj), ((w1.alloc o).drew).grownBy w2 (Value.slice ta tk.length tc).ownBlock → w2.heap[rb]? = some (.cells #[.int .i64 dl, .slice ta tk.length tc, .slice (some ⟨pg, k, none⟩) l.length c] 177 (0, 0)) ∧ Fr (rb :: (Value.slice ta tk.length tc).ownBlock.toList) w w2) := by
            intro w2 o hg
            have hlt1 : rb < w1.heap.size := lt_of_block HK1.out
            refine ⟨?_, ?_⟩
            · rw [hg.block rb (by simp; omega) (fun e => hne e.symm)]
              show (w1.alloc o).heap[rb]? = _
              rw [Below.heap_alloc _ _ _ hlt1]
              exact HK1.out
            · exact (((Fr.of_below _ HB1.out).alloc o).drew).grown hg (fun k hk => Or.inl (by rw [hk]; simp))
          have hrow : Hid (∀ b, (Value.slice ta tk.length tc).ownBlock = some b → b < w.heap.size) := own_lt HO.out
          have r1a := alloc_keep (.cells #[.int .i64 es, .int .i64 et, .int .u8 ek.toNat, .int .i64 evv] 56) r1
          clear hev1 hblk1 hb HEW
          obtain ⟨i0, hi0, hz0, hz1, hz2⟩ := info_parts Tryd.infoEv
          go_region_law (refine step_append_lies _ (by rfl) _ _ _ (by rfl) 0 56 i0 _ 4 32 Tryd.underlying30 hi0 hz0 hz1 hz2 rfl (by omega) (.slice ta tk.length tc) tk.length (tk.flatMap evC) (by rfl) ((HO1.out.alloc _).drew) ⟨w1.heap.size, 0, none⟩ 1 1 [.int .i64 es, .int .i64 et, .int .u8 ek.toNat, .int .i64 evv] (by rfl) (by rfl) (evC_at' _ es et evv ek _ _ (by simp)) (by simp [Value.oneCell']) (by omega) (by unfold maxLen; omega) (by omega) (by simp) (w1.heap.size + 1) (by simp) ?_; intro g2 cap2 w2 hown2 hgrow hat hlt2; obtain ⟨hbk2, hfr2⟩ := hafter.out w2 _ hgrow; have r12 := cell_of_row w2 rb 1 _ _ _ hbk2; have f12 := frozen_of_row w2 rb 1 _ _ hbk2; simp at r12)
          all_goals
            clear r12 f12 hi0 hz0 hz1 hz2 r1 r1a f1 e0 e1 e2 e3 hgrow
            have HAT := Hid.mk' hat
            clear hat
            have m1 : (w2.setCell ⟨rb, 1, none⟩ (.slice (some ⟨g2, 0, none⟩) (tk.length + 1) cap2)).heap[rb]? = some (.cells #[.int .i64 dl, .slice (some ⟨g2, 0, none⟩) (tk.length + 1) cap2, .slice (some ⟨pg, k, none⟩) l.length c] 177 (0, 0)) := by
              rw [heap_setCell_same w2 rb 1 _ _ _ hbk2]; rfl
            obtain ⟨W, hW⟩ : ∃ W, w2.setCell ⟨rb, 1, none⟩ (.slice (some ⟨g2, 0, none⟩) (tk.length + 1) cap2) = W := ⟨_, rfl⟩
            rw [hW] at m1 ⊢
            have s2 := cell_of_row W rb 2 _ _ _ m1
            have f2 := frozen_of_row W rb 2 _ _ m1
            simp at s2
            have M1 := Hid.mk' m1
            have HW := Hid.mk' hW
            have HF2 := Hid.mk' hfr2
            have HO2 := Hid.mk' hown2
            have HL2 := Hid.mk' hlt2
            have HK2 := Hid.mk' hbk2
            clear m1 hW hfr2 hown2 hlt2 hbk2 r2
            have hfin : Hid (∀ (lp : Option Addr) (ln lc : Nat) (r : Int), r = (if l.length ≤ j + 1 then 2 else 0) → (j + 1 < l.length → lp = some ⟨pg, k + (j + 1), none⟩ ∧ ln = l.length - (j + 1) ∧ lc = c - (j + 1)) → SeePost w rb pg k c dl l tk (.slice ta tk.length tc) (es, et, ek, evv) S (.returned (.int .i64 r)) (W.setCell ⟨rb, 2, none⟩ (.slice lp ln lc))) := by
              intro lp ln lc r hr hlv
              rw [hS2.out]
              refine ⟨.slice (some ⟨g2, 0, none⟩) (tk.length + 1) cap2, lp, ln, lc, ret_i hr, by rw [heap_setCell_same W rb 2 _ _ _ M1.out]; rfl, hlv, ?_, ?_, ?_⟩
              · rw [← HW.out]
                have hx := own_ne HO2.out HK2.out (by decide)
                exact own_setCell (own_setCell HO2.out hx _) hx _
              · rw [← HW.out]
                exact (HF2.out.setCell (Or.inl (by simp)) _).setCell (Or.inl (by simp)) _
              · intro b hb
                obtain rfl : g2 = b := Option.some.inj hb
                exact HAT.out.imp id (fun h => by have := HB1.out.size; omega)
            by_cases hd : l.length ≤ j + 1
            · have hd0 : l.length - (j + 1) = 0 := by omega
              go_wp2
              all_goals
                go_ret
                first
                  | exact hfin.out _ _ _ _ (by rw [if_pos hd]) (fun h => by exfalso; omega)
                  | (have hcc : c = j + 1 := by omega
                     have hfin2 := hfin.out
                     rw [hcc] at hfin2
                     exact hfin2 _ _ _ _ (by rw [if_pos hd]) (fun h => by exfalso; omega))
            · have hd0 : (((l.length - (j + 1) : Nat) : Int) == 0) = false := by simp; omega
              have hd1 : ¬ ((l.length - (j + 1) : Nat) : Int) = 0 := by omega
              have hd2 : ¬ l.length - (j + 1) = 0 := by omega
              have hd3 : ¬ c = j + 1 := by omega
              go_wp2
              go_ret
              exact hfin.out _ _ _ _ (by rw [if_neg hd]) (fun h => ⟨rfl, rfl, rfl⟩)
        | false =>
          have hS2 : Hid (S = .on) := by unfold Hid; rw [hS.out, seeL_miss rfl hf]
          have hM2 : ∀ W, Calls Tryd.prog 157 #[.agg #[.int .u8 xk.toNat, .int .u8 xg.toNat, .int .i64 xv], .agg #[.int .i64 es, .int .i64 et, .int .u8 ek.toNat, .int .i64 evv]] W fun e w' => e = .returned (.bool false) ∧ Below W.heap.size W w' := by
            intro W
            have := hM W
            simp only [hf] at this
            exact this
          have hn0 : ¬ l.length = 0 := by omega
          have hAO : ∀ W : World, Below w.heap.size w W → Calls Tryd.prog 151 #[.pointer (some ⟨rb, 0, none⟩)] W fun e w' => e = .returned (.int .i64 0) ∧ w' = W := by
            intro W hW
            have := atOnce_any rb l.length c (some ⟨pg, k, none⟩) W (by rw [hW.cell (p := ⟨rb, 2, none⟩) hrb]; exact c2)
            simp only [hn0, if_false] at this
            exact this
          have HAO := Hid.mk' hAO
          clear hM hS hcj hdrop hf hevw hx hAO
          go_wp2_with (first | (go_at_call 157; refine (hM2 _).mono ?_; rintro e w1 ⟨rfl, hb⟩) | (go_at_call 151; refine (HAO.out _ (HBw.out.trans (hb.mono Hsz.out))).mono ?_; rintro e w2 ⟨rfl, rfl⟩))
          go_ret
          rw [hS2.out]
          exact ⟨rfl, HBw.out.trans (hb.mono Hsz.out)⟩
    · have hS2 : Hid (S = .on) := by
        unfold Hid
        rw [hS.out, List.drop_of_length_le (by omega)]
        rfl
      clear hS
      go_wp2
      go_ret
      rw [hS2.out]
      exact ⟨rfl, HBw.out⟩
end Go.Proofs.YtbgfannlfagoiaaDoor
