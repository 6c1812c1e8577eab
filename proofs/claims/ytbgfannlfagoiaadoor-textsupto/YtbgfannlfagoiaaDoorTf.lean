import Derived.Test.YtbgfannlfagoiaaDoorTe
import Derived.Deep.RegionLaw
namespace Go.Proofs.YtbgfannlfagoiaaDoor
open Go.RowKit Go.Lull
set_option linter.unusedVariables false

set_option maxRecDepth 8000 in
set_option maxHeartbeats 4000000 in
theorem rregister_any (w : World) (rb : Nat) (s0 s1 s4 s5 : Value) (ad : Option Addr) (b off cap : Nat) (ss : List ByteArray) (h : TX w ad b off ss) (hlen : ss.length ≤ 1048576) (hcap : ss.length ≤ cap)
    (hE : w.heap[rb]? = some (.cells #[s0, s1, .slice none 0 0, .int .i64 0, s4, s5] 108 (0, 0))) :
    Calls Tryd.prog 36 #[.pointer (some ⟨rb, 0, none⟩), .slice ad ss.length cap] w (RegPostR w rb (regB (ss.map (·.data.toList)))) := by
  have hz : rb < w.heap.size := lt_of_block hE
  have HLs : Hid ((ss.map (·.data.toList)).length = ss.length) := Hid.mk' (by simp)
  obtain ⟨B, hB0⟩ : ∃ B, badB (ss.map (·.data.toList)) = B := ⟨_, rfl⟩
  have hst : Hid (B = badB ((ss.map (·.data.toList)).drop 0)) := hB0.symm
  have hbad : Hid (∀ p, B = some p → regB (ss.map (·.data.toList)) = (2, (p : Int), 0)) := fun p h => regB_bad (hB0.trans h)
  have hmany : Hid (B = none → 10 < ss.length → regB (ss.map (·.data.toList)) = (3, 0, 0)) := fun h h2 => regB_many (hB0.trans h) (by rw [HLs.out]; exact h2)
  have hok : Hid (B = none → ¬ 10 < ss.length → regB (ss.map (·.data.toList)) = (0, 0, ss.length)) := fun h h2 => by rw [regB_ok (hB0.trans h) (by rw [HLs.out]; exact h2), HLs.out]
  clear hB0
  generalize regB (ss.map (·.data.toList)) = RB at hbad hmany hok ⊢
  have HX := Hid.mk' h
  have HE := Hid.mk' hE
  clear h hE
  go_enter Tryd.func36, Tryd.ntmps36
  go_wp2
  go_loopw [7, 8] (fun v i wr => ∃ (k : Nat) (pats : List Pat), k ≤ ss.length ∧ i = .int .i64 k ∧ wr.ownsRow w.heap.size 112 2 v k (pats.flatMap patC) ∧ pats.length = k ∧ Below w.heap.size w wr ∧ Hid (B = badB ((ss.map (·.data.toList)).drop k))) (fun _ i _ => ss.length - (intOf i).toNat)
  case atStart => exact ⟨0, [], Nat.zero_le _, rfl, World.ownsRow_nil _ _ _ _, rfl, Below.refl _ _, hst⟩
  case round =>
    obtain ⟨k, pats, hk, rfl, hown, hpl, hB, HB⟩ := hrel
    have HO := Hid.mk' hown
    have HP := Hid.mk' hpl
    clear hown hpl
    have hsz := hB.size
    by_cases hlt : k < ss.length
    · have hne : ss ≠ [] := fun e => by rw [e] at hlt; cases hlt
      obtain rfl := HX.out.at_ hne
      obtain ⟨t, ht⟩ : ∃ t, ss[k] = t := ⟨_, rfl⟩
      have hc : wr.cell? ⟨b, off + k, none⟩ = some (.string t) := by
        rw [hB.cell (p := ⟨b, off + k, none⟩) (HX.out.lt hne), HX.out.cell k hlt, ht]
      have HE2 : Hid (B = badB (t.data.toList :: (ss.map (·.data.toList)).drop (k + 1))) := by
        have := HB.out
        rw [List.drop_eq_getElem_cons (by simpa using hlt)] at this
        exact Hid.mk' (by simpa [ht] using this)
      clear HB ht hne
      cases ho : resB t.data.toList with
      | inl p =>
        have hcall := rparse_bad t wr p ho
        have hBp : Hid (RB = (2, (p : Int), 0)) := hbad.out p (by rw [HE2.out, badB_bad ho])
        clear HE2 ho
        go_wp2_with (go_at_call 55; refine hcall.mono ?_; rintro e w1 ⟨a, n, cp, wn, rfl, hb⟩)
        go_ret3
        rw [hBp.out]
        exact ⟨none, 0, rfl, nil_owns _, BB.of_below ((hB.trans (hb.mono hsz)).alloc (by have := hb.size; omega) _) (Nat.le_of_lt hz)⟩
      | inr st =>
        have hcall := rparse_good t wr st ho
        have HE3 : Hid (B = badB ((ss.map (·.data.toList)).drop (k + 1))) := by unfold Hid; rw [HE2.out, badB_good ho]
        clear HE2 ho
        go_wp2_with (first | (go_at_call 55; refine hcall.mono ?_; rintro e w1 ⟨a, n, cp, wn, rfl, hb⟩) | (at_builtin; refine append_rpat _ rfl _ _ rfl w.heap.size _ _ _ rfl (((own_below HO.out hb).alloc _).alloc _) _ (patC (a, n, cp, wn)) rfl rfl (patC_at _ (a, n, cp, wn) _ _ (by simp)) (patC_one _) (by omega) (by have := hb.size; simp; omega) ?_))
        intro g2 cap2 w3 hown hgrow
        have hB3 : Below w.heap.size w w3 := (((hB.trans (hb.mono hsz)).alloc (by have := hb.size; omega) _).alloc (by have := hb.size; simp; omega) _).grown hgrow (by have := hb.size; simp; omega) (own_row HO.out)
        have HB3 := Hid.mk' hB3
        have HO3 := Hid.mk' hown
        clear hB3 hown hgrow hcall hb hc
        go_wp2
        go_roundw
        case rel => exact ⟨k + 1, pats ++ [(a, n, cp, wn)], by omega, by go_num, by simpa [List.flatMap_append] using HO3.out, by simp [HP.out], HB3.out, HE3⟩
        case measure => simp [intOf]; omega
    · have hk2 : k = ss.length := by omega
      have hBn : Hid (B = none) := by unfold Hid; rw [HB.out, List.drop_of_length_le (by simp; omega)]; rfl
      have hv : ∃ a cp, u7 = .slice a k cp := by
        rcases HO.out.2 with ⟨h, h0⟩ | ⟨g, cp, cur, h, _⟩
        · exact ⟨_, _, h0 ▸ h⟩
        · exact ⟨_, _, h⟩
      obtain ⟨a, cp, hv⟩ := hv
      subst hv
      clear HB
      have hE2 := hB.block rb hz
      have hblk0 : wr.heap[rb]? = some (.cells #[s0, s1, .slice none 0 0, .int .i64 0, s4, s5] 108 (0, 0)) := by rw [hE2]; exact HE.out
      have HK := Hid.mk' hblk0
      have c2 := cell_of_row wr rb 2 _ _ _ hblk0
      simp at c2
      clear hE2 hblk0
      subst hk2
      by_cases h10 : 10 < ss.length
      · have hRB : RB = (3, 0, 0) := hmany.out hBn.out h10
        subst hRB
        clear hbad hmany hok
        go_wp2
        go_ret3
        exact ⟨none, 0, rfl, nil_owns _, BB.of_below hB (Nat.le_of_lt hz)⟩
      · have hRB : RB = (0, 0, ss.length) := hok.out hBn.out h10
        subst hRB
        clear hbad hmany hok
        obtain ⟨wm, rfl⟩ : ∃ wm, wm = wr := ⟨wr, rfl⟩
        have hezm : rb < wm.heap.size := by omega
        go_wp2
        go_loopw [11, 12] (fun v i wr => ∃ (k : Nat) (vq : Value) (qs : List Value), k ≤ ss.length ∧ i = .int .i64 k ∧ wr.ownsRow wm.heap.size 3 1 v k (rangeV k) ∧ wr.heap[rb]? = some (.cells #[s0, s1, vq, .int .i64 k, s4, s5] 108 (0, 0)) ∧ wr.ownsRow wm.heap.size 115 1 vq k qs ∧ BB wm.heap.size rb wm wr) (fun _ i _ => ss.length - (intOf i).toNat)
        case atStart => exact ⟨0, _, [], Nat.zero_le _, rfl, World.ownsRow_nil _ _ _ _, HK.out, World.ownsRow_nil _ _ _ _, BB.refl _ _ _⟩
        case round =>
          obtain ⟨k, vq, qs, hk, rfl, hI, hblk, hQ, hBB⟩ := hrel
          by_cases hlt : k < ss.length
          · obtain ⟨g, ha, hgm, hgr⟩ : ∃ g, a = some ⟨g, 0, none⟩ ∧ g < wm.heap.size ∧ g ≠ rb := by
              rcases HO.out.2 with ⟨_, h0⟩ | ⟨g, cp', cur, h1, _, h3, _⟩
              · omega
              · refine ⟨g, (Value.slice.inj h1).1, lt_of_block h3, fun e => ?_⟩
                rw [e, HK.out] at h3
                cases h3
            subst ha
            obtain ⟨p, hp0, hp1⟩ := rpat_cells HP.out HO.out k hlt
            have hcell : ∀ j, wr.cell? ⟨g, j, none⟩ = wm.cell? ⟨g, j, none⟩ := by
              intro j
              by_cases hgl : g < rb
              · exact hBB.low.cell (p := ⟨g, j, none⟩) hgl
              · exact hBB.cell (p := ⟨g, j, none⟩) (by simp; omega) hgm
            have hp0' : wr.cell? ⟨g, k * 2, none⟩ = some (.slice p.1 p.2.1 p.2.2.1) := (hcell _).trans hp0
            have hp1' : wr.cell? ⟨g, k * 2 + 1, none⟩ = some (.int .i64 p.2.2.2) := (hcell _).trans hp1
            clear hp0 hp1 hcell
            have hsz2 : wm.heap.size ≤ wr.heap.size := hBB.low.size
            obtain ⟨aq, cq, hvq⟩ : ∃ aq cq, vq = .slice aq k cq := by
              rcases hQ.2 with ⟨h, h0⟩ | ⟨g, cp, cur, h, _⟩
              · exact ⟨_, _, h0 ▸ h⟩
              · exact ⟨_, _, h⟩
            subst hvq
            have c2 := cell_of_row wr rb 2 _ _ _ hblk
            have c3 := cell_of_row wr rb 3 _ _ _ hblk
            have f2 := frozen_of_row wr rb 2 _ _ hblk
            simp at c2 c3
            have hI' := Hid.mk' hI
            have hQ' := Hid.mk' hQ
            have hblk' := Hid.mk' hblk
            clear hI hQ hblk
            obtain ⟨pa, pn, pc, pw⟩ := p
            have hez2 : rb < wr.heap.size := by omega
            have hgz2 : g < wr.heap.size := by omega
            have hk10 : k ≤ 10 := by omega
            have hafter : Hid (∀ (w1 : World) (o1 o2 : Obj), ((wr.alloc o1).alloc o2).drew.grownBy w1 (Value.slice aq k cq).ownBlock → w1.cell? ⟨rb, 2, none⟩ = some (.slice aq k cq) ∧ w1.cell? ⟨rb, 3, none⟩ = some (.int .i64 k) ∧ w1.frozen? ⟨rb, 2, none⟩ = false) := by
              intro w1 o1 o2 hgw
              have hg2 : ((wr.alloc o1).alloc o2).grownBy w1 (Value.slice aq k cq).ownBlock := ⟨hgw.os, hgw.tape, hgw.output, hgw.size, hgw.block⟩
              have hB1 : Below wm.heap.size wr w1 := (((Below.refl _ wr).alloc hsz2 _).alloc (by simp; omega) _).grown hg2 (by simp; omega) (own_row hQ'.out)
              have hb1 : w1.heap[rb]? = some (.cells #[s0, s1, .slice aq k cq, .int .i64 k, s4, s5] 108 (0, 0)) := by rw [hB1.block rb hezm]; exact hblk'.out
              refine ⟨?_, ?_, frozen_of_row w1 rb 2 _ _ hb1⟩
              · rw [cell_of_row w1 rb 2 _ _ _ hb1]; rfl
              · rw [cell_of_row w1 rb 3 _ _ _ hb1]; rfl
            have hnew : Hid (∀ (W : World) (T : Nat), W.heap.size = wr.heap.size + 1 → ∀ j u, [Value.pointer (some ⟨wr.heap.size, 0, none⟩)][j]? = some u → (W.alloc (.cells #[.pointer (some ⟨wr.heap.size, 0, none⟩)] T)).cell? ((⟨wr.heap.size + 1, 0, none⟩ : Addr).add j) = some u) := by
              intro W T hW
              rw [← hW]
              exact cell_one_new _ _ _
            go_wp2
            obtain ⟨i0, hi0, hz0, hz1, hz2⟩ := info_parts Tryd.infoRQ
            go_region_law (refine step_append_lies _ (by rfl) _ _ _ (by rfl) wm.heap.size 115 i0 _ 1 8 Tryd.underlying106 hi0 hz0 hz1 hz2 rfl (by omega) (.slice aq k cq) k qs (by rfl) (((hQ'.out.alloc _).alloc _).drew) ⟨wr.heap.size + 1, 0, none⟩ 1 1 [.pointer (some ⟨wr.heap.size, 0, none⟩)] (by rfl) (by rfl) (hnew.out _ _ (by simp)) (by simp [Value.oneCell']) (by omega) (by unfold maxLen; omega) (by omega) (by simp; omega) (wr.heap.size + 1 + 1) (by simp) ?_; intro g2 cap2 w1 hown1 hgrow hat hlt2; obtain ⟨k2, k3, fr2⟩ := hafter.out w1 _ _ hgrow)
            all_goals
              clear hi0 hz0 hz1 hz2 k2 fr2 hat hlt2
              have hg2 : ((wr.alloc (.cells #[.int .i64 k, .slice pa pn pc, .int .i64 pw, .slice none 0 0, .int .i64 0] 117)).alloc (.cells #[.pointer (some ⟨wr.heap.size, 0, none⟩)] 115)).grownBy w1 (Value.slice aq k cq).ownBlock := ⟨hgrow.os, hgrow.tape, hgrow.output, hgrow.size, hgrow.block⟩
              obtain ⟨m1, m2, m3, m4, m5⟩ := radd_first hblk'.out hQ'.out hI'.out hBB hezm hsz2 hg2 hown1
              have d3 := cell_of_row _ rb 3 _ _ _ m1
              simp at d3
              have M1 := Hid.mk' m1
              have M2 := Hid.mk' m2
              have M3 := Hid.mk' m3
              have M4 := Hid.mk' m4
              have M5 := Hid.mk' m5
              clear m1 m2 m3 m4 m5 hg2 hgrow hown1 hp0' hp1' c2 c3 f2 k3
              go_wp2_with (at_builtin; refine append_intR _ rfl _ _ rfl wm.heap.size _ _ _ rfl (M3.out.alloc _) _ k rfl (int_at _ _ _ _ (by simp)) (by omega) (by have := M5.out; simp at this; simp; omega) ?_)
              intro g3 cap3 w2 hown2 hgrow2
              obtain ⟨e3, f3, n1, n2, n3, n4⟩ := radd_second M1.out M2.out M3.out M4.out hezm M5.out hgrow2 hown2
              have N1 := Hid.mk' n1
              have N2 := Hid.mk' n2
              have N3 := Hid.mk' n3
              have N4 := Hid.mk' n4
              clear n1 n2 n3 n4 hown2 hgrow2 d3
              go_wp2
              go_roundw
              case rel => exact ⟨k + 1, _, _, by omega, by go_num, by rw [rangeV_succ]; exact N3.out, by simpa using N1.out, N2.out, N4.out⟩
              case measure => simp [intOf]; omega
          · have hk2 : k = ss.length := by omega
            obtain ⟨a5, c5, hv⟩ : ∃ a5 c5, u11 = .slice a5 k c5 := by
              rcases hI.2 with ⟨h, h0⟩ | ⟨g, cp, cur, h, _⟩
              · exact ⟨_, _, h0 ▸ h⟩
              · exact ⟨_, _, h⟩
            subst hv
            have hI' := Hid.mk' hI
            clear hI hQ hblk
            go_wp2
            go_ret3
            subst hk2
            exact ⟨a5, c5, rfl, ⟨_, hI'.out⟩, (BB.of_below hB (Nat.le_of_lt hz)).trans ⟨hBB.low, fun x h1 h2 => hBB.mid x h1 (Nat.lt_of_lt_of_le h2 hsz)⟩⟩
end Go.Proofs.YtbgfannlfagoiaaDoor
