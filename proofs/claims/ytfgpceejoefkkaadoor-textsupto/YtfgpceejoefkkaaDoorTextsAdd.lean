import Derived.Test.YtfgpceejoefkkaaDoorTextsAddA
namespace Go.Proofs.YtfgpceejoefkkaaDoor
open Go.RowKit Go.Lull
set_option linter.unusedVariables false

set_option maxRecDepth 8000 in
set_option maxHeartbeats 4000000 in
theorem add_any (w : World) (eb base pb : Nat) (s0 s1 : Value) (g cap n : Nat) (pats : List Pat) (hn : n ≤ 10) (hpl : pats.length = n) (hE : EN w eb base s0 s1 (.slice none 0 0) 0 0 []) (hP : w.ownsRow pb 80 2 (.slice (some ⟨g, 0, none⟩) n cap) n (pats.flatMap patC)) (hcap : n ≤ cap) (hge : g ≠ eb) :
    Calls Tryd.prog 23 #[.pointer (some ⟨eb, 0, none⟩), .slice (some ⟨g, 0, none⟩) n cap] w fun e w' => ∃ a c, e = .returned (.slice a n c) ∧ w'.ownsRow w.heap.size 3 1 (.slice a n c) n (rangeV n) ∧ BB w.heap.size eb w w' := by
  have hgz : g < w.heap.size := by
    rcases hP.2 with ⟨h, _⟩ | ⟨g', c', cur, h, _, h3, _⟩
    · cases h
    · cases h; exact lt_of_block h3
  have hez := lt_of_block hE.blk
  have HE := Hid.mk' hE
  have HP := Hid.mk' hP
  have HL := Hid.mk' hpl
  clear hE hP hpl
  go_enter Tryd.func23, Tryd.ntmps23
  go_wp2
  go_loopw [5, 10] (fun v i wr => ∃ (k : Nat) (vq : Value) (qs : List Value), k ≤ n ∧ i = .int .i64 k ∧ wr.ownsRow w.heap.size 3 1 v k (rangeV k) ∧ wr.heap[eb]? = some (.cells #[s0, s1, vq, .int .i64 k] 34 (0, 0)) ∧ wr.ownsRow w.heap.size 82 3 vq k qs ∧ BB w.heap.size eb w wr) (fun _ i _ => n - (intOf i).toNat)
  case atStart => exact ⟨0, _, [], Nat.zero_le _, rfl, World.ownsRow_nil _ _ _ _, HE.out.blk, World.ownsRow_nil _ _ _ _, BB.refl _ _ _⟩
  case round =>
    obtain ⟨k, vq, qs, hk, rfl, hI, hblk, hQ, hBB⟩ := hrel
    by_cases hlt : k < n
    · obtain ⟨p, hp0, hp1⟩ := pat_cells HL.out HP.out k hlt
      have hcell : ∀ j, wr.cell? ⟨g, j, none⟩ = w.cell? ⟨g, j, none⟩ := by
        intro j
        by_cases hgl : g < eb
        · exact hBB.low.cell (p := ⟨g, j, none⟩) hgl
        · exact hBB.cell (p := ⟨g, j, none⟩) (by simp; omega) hgz
      have hp0' : wr.cell? ⟨g, k * 2, none⟩ = some (.slice p.1 p.2.1 p.2.2.1) := (hcell _).trans hp0
      have hp1' : wr.cell? ⟨g, k * 2 + 1, none⟩ = some (.int .i64 p.2.2.2) := (hcell _).trans hp1
      clear hp0 hp1 hcell
      have hsz : w.heap.size ≤ wr.heap.size := hBB.low.size
      obtain ⟨aq, cq, hvq⟩ : ∃ aq cq, vq = .slice aq k cq := by
        rcases hQ.2 with ⟨h, h0⟩ | ⟨g, cp, cur, h, _⟩
        · exact ⟨_, _, h0 ▸ h⟩
        · exact ⟨_, _, h⟩
      subst hvq
      have c2 := cell_of_row wr eb 2 _ _ _ hblk
      have c3 := cell_of_row wr eb 3 _ _ _ hblk
      have f2 := frozen_of_row wr eb 2 _ _ hblk
      have f3 := frozen_of_row wr eb 3 _ _ hblk
      simp at c2 c3
      have hI' := Hid.mk' hI
      have hQ' := Hid.mk' hQ
      have hblk' := Hid.mk' hblk
      clear hI hQ hblk
      obtain ⟨pa, pn, pc, pw⟩ := p
      have hez2 : eb < wr.heap.size := by omega
      have hrow : Hid (∀ x, (Value.slice aq k cq).ownBlock = some x → w.heap.size ≤ x) := own_row hQ'.out
      have hnew : Hid (∀ W : World, ∀ T, W.heap.size = wr.heap.size + 1 → ∀ j u, [Value.int .i64 (k : Int), .slice pa pn pc, .int .i64 pw][j]? = some u → (W.alloc (.cells #[.int .i64 k, .slice pa pn pc, .int .i64 pw] T)).cell? ((⟨wr.heap.size + 1, 0, none⟩ : Addr).add j) = some u) := by
        intro W T hW j u h
        rw [← hW]
        match j, h with
        | 0, h => simp at h; subst h; simp [Addr.add]
        | 1, h => simp at h; subst h; simp [Addr.add]
        | 2, h => simp at h; subst h; simp [Addr.add]
        | j + 3, h => simp at h
      have hafter : Hid (∀ (w1 : World) (o2 : Obj), ((wr.alloc (.cells #[.slice pa pn pc, .int .i64 pw] 80)).alloc o2).drew.grownBy w1 (Value.slice aq k cq).ownBlock → w1.cell? ⟨eb, 2, none⟩ = some (.slice aq k cq) ∧ w1.cell? ⟨eb, 3, none⟩ = some (.int .i64 k) ∧ w1.cell? ⟨wr.heap.size, 0, none⟩ = some (.slice pa pn pc) ∧ w1.cell? ⟨wr.heap.size, 1, none⟩ = some (.int .i64 pw) ∧ w1.frozen? ⟨eb, 2, none⟩ = false) := by
        intro w1 o2 hgw
        have hg2 : ((wr.alloc (.cells #[.slice pa pn pc, .int .i64 pw] 80)).alloc o2).grownBy w1 (Value.slice aq k cq).ownBlock := ⟨hgw.os, hgw.tape, hgw.output, hgw.size, hgw.block⟩
        have hB1 : Below w.heap.size wr w1 := (((Below.refl _ wr).alloc hsz _).alloc (by simp; omega) _).grown hg2 (by simp; omega) (own_row hQ'.out)
        have hb1 : w1.heap[eb]? = some (.cells #[s0, s1, .slice aq k cq, .int .i64 k] 34 (0, 0)) := by rw [hB1.block eb hez]; exact hblk'.out
        have hnb : some wr.heap.size ≠ (Value.slice aq k cq).ownBlock := by
          intro e
          rcases hQ'.out.2 with ⟨h, _⟩ | ⟨gg, cp, cur, h, _, h3, _⟩
          · rw [h] at e; cases e
          · have h4 := lt_of_block h3
            rw [h] at e
            have h5 : wr.heap.size = gg := Option.some.inj e
            omega
        have hb2 : w1.heap[wr.heap.size]? = some (.cells #[.slice pa pn pc, .int .i64 pw] 80 (0, 0)) := by
          rw [hg2.block _ (by simp; omega) hnb, Below.heap_alloc _ _ _ (by simp), heap_alloc_new]
        refine ⟨?_, ?_, ?_, ?_, frozen_of_row w1 eb 2 _ _ hb1⟩
        · rw [cell_of_row w1 eb 2 _ _ _ hb1]; rfl
        · rw [cell_of_row w1 eb 3 _ _ _ hb1]; rfl
        · rw [cell_of_row w1 wr.heap.size 0 _ _ _ hb2]; rfl
        · rw [cell_of_row w1 wr.heap.size 1 _ _ _ hb2]; rfl
      go_wp2
      obtain ⟨i0, hi0, hz0, hz1, hz2⟩ := info_parts Tryd.infoQ
      go_region_law (refine step_append_lies _ (by rfl) _ _ _ (by rfl) w.heap.size 82 i0 _ 3 40 Tryd.underlying32 hi0 hz0 hz1 hz2 rfl (by omega) (.slice aq k cq) k qs (by rfl) (((hQ'.out.alloc _).alloc _).drew) ⟨wr.heap.size + 1, 0, none⟩ 1 1 [.int .i64 k, .slice pa pn pc, .int .i64 pw] (by rfl) (by rfl) (hnew.out _ _ (by simp)) (by simp [Value.oneCell']) (by omega) (by unfold maxLen; omega) (by omega) (by simp; omega) (wr.heap.size + 1 + 1) (by simp) ?_; intro g2 cap2 w1 hown1 hgrow hat hlt; obtain ⟨k2, k3, k4, k5, fr2⟩ := hafter.out w1 _ hgrow)
      all_goals
        clear hi0 hz0 hz1 hz2 k2 k4 k5 fr2 hat hlt
        have hg2 : ((wr.alloc (.cells #[.slice pa pn pc, .int .i64 pw] 80)).alloc (.cells #[.int .i64 k, .slice pa pn pc, .int .i64 pw] 82)).grownBy w1 (Value.slice aq k cq).ownBlock := ⟨hgrow.os, hgrow.tape, hgrow.output, hgrow.size, hgrow.block⟩
        obtain ⟨m1, m2, m3, m4, m5⟩ := add_first hblk'.out hQ'.out hI'.out hBB hez hsz hg2 hown1
        have d3 := cell_of_row _ eb 3 _ _ _ m1
        simp at d3
        have M1 := Hid.mk' m1
        have M2 := Hid.mk' m2
        have M3 := Hid.mk' m3
        have M4 := Hid.mk' m4
        have M5 := Hid.mk' m5
        clear m1 m2 m3 m4 m5 hg2 hgrow hown1 hp0' hp1' c2 c3 f2 f3 k3
        go_wp2_with (at_builtin; refine append_int _ rfl _ _ rfl w.heap.size _ _ _ rfl (M3.out.alloc _) _ k rfl (int_at _ _ _ _ (by simp)) (by omega) (by have := M5.out; simp at this; simp; omega) ?_)
        intro g3 cap3 w2 hown2 hgrow2
        obtain ⟨e3, f3, n1, n2, n3, n4⟩ := add_second M1.out M2.out M3.out M4.out hez M5.out hgrow2 hown2
        have N1 := Hid.mk' n1
        have N2 := Hid.mk' n2
        have N3 := Hid.mk' n3
        have N4 := Hid.mk' n4
        clear n1 n2 n3 n4 hown2 hgrow2 d3
        go_wp2
        go_roundw
        case rel => exact ⟨k + 1, _, _, by omega, by go_num, by rw [rangeV_succ]; exact N3.out, by simpa using N1.out, N2.out, N4.out⟩
        case measure => simp [intOf]; omega
    · have hk2 : k = n := by omega
      obtain ⟨a5, c5, hv⟩ : ∃ a5 c5, u5 = .slice a5 k c5 := by
        rcases hI.2 with ⟨h, h0⟩ | ⟨g, cp, cur, h, _⟩
        · exact ⟨_, _, h0 ▸ h⟩
        · exact ⟨_, _, h⟩
      subst hv
      have hI' := Hid.mk' hI
      clear hI hQ hblk
      go_wp2
      go_ret
      subst hk2
      exact ⟨a5, c5, rfl, hI'.out, hBB⟩
end Go.Proofs.YtfgpceejoefkkaaDoor
