import Derived.Test.YtbgfannlfagoiaaDoorGb
import Derived.Test.YtbgfannlfagoiaaDoorKit
import Derived.Deep.RegionWith
namespace Go.Proofs.YtbgfannlfagoiaaDoor
open Go.RowKit Go.Lull
set_option linter.unusedVariables false

theorem Tryd.infoMt : (Tryd.prog.info? 60).map (fun i => (i.zero, i.size, i.bytes)) = some (some (.agg #[.int .i64 0, .int .i64 0, .slice none 0 0]), 3, 40) := by kernel_rfl
theorem Tryd.infoRn : (Tryd.prog.info? 177).map (fun i => (i.zero, i.size, i.bytes)) = some (some (.agg #[.int .i64 0, .slice none 0 0, .slice none 0 0]), 3, 56) := by kernel_rfl
theorem three_at (w : World) (a b c : Value) (T n : Nat) (hn : n = w.heap.size) : ∀ j u, [a, b, c][j]? = some u → (w.alloc (.cells #[a, b, c] T)).cell? ((⟨n, 0, none⟩ : Addr).add j) = some u := by
  intro j u h
  subst hn
  match j, h with
  | 0, h => simp at h; subst h; simp [Addr.add]
  | 1, h => simp at h; subst h; simp [Addr.add]
  | 2, h => simp at h; subst h; simp [Addr.add]
  | j + 3, h => simp at h

set_option maxRecDepth 8000 in
set_option maxHeartbeats 1000000 in
theorem tell_any (w : World) (qb m : Nat) (num t dl : Int) (sv wv vr vf ta lv : Value) (tn tc : Nat) (tp : Option Addr) (xs : List Value) (hm : m ≤ 1073741824) (hta : ta = .slice tp tn tc) (hlv : ∃ a b c, lv = .slice a b c)
    (hblk : w.heap[qb]? = some (.cells #[.int .i64 num, sv, wv, vr, vf] 143 (0, 0))) (hrow : Row w 60 3 vf m xs) :
    Calls Tryd.prog 148 #[.pointer (some ⟨qb, 0, none⟩), .agg #[.int .i64 dl, ta, lv], .int .i64 t] w fun e w' => e = .returned (.tuple #[]) ∧ ∃ vf', w'.heap[qb]? = some (.cells #[.int .i64 num, sv, wv, vr, vf'] 143 (0, 0)) ∧
      Row w' 60 3 vf' (m + 1) (xs ++ [.int .i64 num, .int .i64 t, ta]) ∧ Fr (qb :: vf.ownBlock.toList) w w' ∧ (∀ b, vf'.ownBlock = some b → vf.ownBlock = some b ∨ w.heap.size ≤ b) := by
  obtain ⟨fa, fc, rfl, hfc⟩ := hrow.form
  subst hta
  obtain ⟨la, lb, lc, rfl⟩ := hlv
  have hqb := lt_of_block hblk
  have hne : (Value.slice fa m fc).ownBlock ≠ some qb := hrow.ne hblk (by decide)
  have HB := Hid.mk' hblk
  have HR := Hid.mk' hrow
  clear hblk hrow
  go_enter Tryd.func148, Tryd.ntmps148
  go_wp2
  obtain ⟨w1, hw1⟩ : ∃ w1, w.alloc (.cells #[.int .i64 dl, .slice tp tn tc, .slice la lb lc] 177) = w1 := ⟨_, rfl⟩
  rw [hw1]
  have hz1 : w1.heap.size = w.heap.size + 1 := by rw [← hw1]; simp
  have hb1 : w1.heap[w.heap.size]? = some (.cells #[.int .i64 dl, .slice tp tn tc, .slice la lb lc] 177 (0, 0)) := by rw [← hw1]; exact heap_alloc_new _ _
  have hq1 : w1.heap[qb]? = some (.cells #[.int .i64 num, sv, wv, vr, .slice fa m fc] 143 (0, 0)) := by rw [← hw1, Below.heap_alloc _ _ _ hqb]; exact HB.out
  have hF1 : Fr (qb :: (Value.slice fa m fc).ownBlock.toList) w w1 := by rw [← hw1]; exact (Fr.refl _ _).alloc _
  have hR1 : Row w1 60 3 (.slice fa m fc) m xs := HR.out.same (fun k hk => by rw [← hw1]; exact Below.heap_alloc _ _ _ (HR.out.lt k hk))
  clear hw1
  have b1 := cell_of_row w1 w.heap.size 1 _ _ _ hb1
  have q0 := cell_of_row w1 qb 0 _ _ _ hq1
  have q4 := cell_of_row w1 qb 4 _ _ _ hq1
  simp at b1 q0 q4
  have f4 := frozen_of_row w1 qb 4 _ _ hq1
  have a0 := alloc_keep (.cells #[.int .i64 num, .int .i64 t, .slice tp tn tc] 60) q0
  have a4 := alloc_keep (.cells #[.int .i64 num, .int .i64 t, .slice tp tn tc] 60) q4
  have HQ1 := Hid.mk' hq1
  have HF1 := Hid.mk' hF1
  have HR1 := Hid.mk' hR1
  have HZ1 := Hid.mk' hz1
  have hafter : Hid (∀ (w2 : World) (o : Obj), ((w1.alloc o).drew).grownBy w2 (Value.slice fa m fc).ownBlock → w2.heap[qb]? = some (.cells #[.int .i64 num, sv, wv, vr, .slice fa m fc] 143 (0, 0)) ∧ Fr (qb :: (Value.slice fa m fc).ownBlock.toList) w w2) := by
    intro w2 o hg
    have hlt1 : qb < w1.heap.size := lt_of_block HQ1.out
    refine ⟨?_, ?_⟩
    · rw [hg.block qb (by simp; omega) (fun e => hne e.symm)]
      show (w1.alloc o).heap[qb]? = _
      rw [Below.heap_alloc _ _ _ hlt1]
      exact HQ1.out
    · exact ((HF1.out.alloc o).drew).grown hg (fun k hk => Or.inl (by rw [hk]; simp))
  have hsrc : Hid (∀ T, Src Tryd.prog 3 58 (.slice (some ⟨w1.heap.size, 0, none⟩) 1 1) 1 [.int .i64 num, .int .i64 t, .slice tp tn tc] ((w1.alloc (.cells #[.int .i64 num, .int .i64 t, .slice tp tn tc] T)).drew)) := by
    intro T
    exact Src.ofSlice _ Tryd.underlying58 _ 1 1 _ rfl (three_at w1 _ _ _ T _ rfl) (by simp [Value.oneCell'])
  have hRD : Hid (∀ o, Row ((w1.alloc o).drew) 60 3 (.slice fa m fc) m xs) := by
    intro o
    exact HR1.out.same (fun k hk => Below.heap_alloc _ _ _ (HR1.out.lt k hk))
  clear hb1 hq1 hF1 hR1 hz1
  obtain ⟨i0, hi0, hz0, hz1, hz2⟩ := info_parts Tryd.infoMt
  go_region_law (refine step_append_row (by rfl) _ _ _ (by rfl) i0 _ 40 Tryd.underlying58 hi0 hz0 hz1 hz2 rfl (by rfl) (hRD.out _) 1 [.int .i64 num, .int .i64 t, .slice tp tn tc] (.slice (some ⟨w1.heap.size, 0, none⟩) 1 1) (by rfl) (hsrc.out _) (by omega) (by unfold maxLen; omega) (by omega) ?_; intro g2 off2 cap2 w2 hrow2 hgrow hat; obtain ⟨hbk2, hfr2⟩ := hafter.out w2 _ hgrow; have r12 := cell_of_row w2 qb 4 _ _ _ hbk2; have f12 := frozen_of_row w2 qb 4 _ _ hbk2; simp at r12)
  all_goals
    go_end0
    refine ⟨rfl, .slice (some ⟨g2, off2, none⟩) (m + 1) cap2, by rw [heap_setCell_same w2 qb 4 _ _ _ hbk2]; rfl, ?_, hfr2.setCell (Or.inl (by simp)) _, ?_⟩
    · have hx := hrow2.ne hbk2 (by decide)
      exact hrow2.same (fun k hk => Below.heap_setCell _ _ _ _ (fun e => by subst e; exact hx hk))
    · intro b hb
      obtain rfl : g2 = b := Option.some.inj hb
      exact hat.imp id (fun h => by have := HZ1.out; rw [h]; simp; omega)
end Go.Proofs.YtbgfannlfagoiaaDoor

namespace Go.Proofs.YtbgfannlfagoiaaDoor
open Go.RowKit Go.Lull
set_option linter.unusedVariables false

set_option maxRecDepth 8000 in
set_option maxHeartbeats 1000000 in
theorem begin_any (w : World) (pg n c : Nat) (wn : Int) (ev : Ev) (hn : 1 ≤ n) (hn8 : n ≤ 8) (hc : n ≤ c) (hw0 : 0 ≤ wn) (hw1 : wn ≤ 1000) (ht0 : 0 ≤ ev.2.1) (ht1 : ev.2.1 ≤ 1000000) :
    Calls Tryd.prog 150 #[.agg #[.slice (some ⟨pg, 0, none⟩) n c, .int .i64 wn], .agg #[.int .i64 ev.1, .int .i64 ev.2.1, .int .u8 ev.2.2.1.toNat, .int .i64 ev.2.2.2]] w fun e w' => ∃ g lp lc, e = .returned (.agg #[.int .i64 (ev.2.1 + wn), .slice (some ⟨g, 0, none⟩) 1 1, .slice lp (n - 1) lc]) ∧ Below w.heap.size w w' ∧ w.heap.size ≤ g ∧
      w'.heap[g]? = some (.cells #[.int .i64 ev.1, .int .i64 ev.2.1, .int .u8 ev.2.2.1.toNat, .int .i64 ev.2.2.2] 56 (0, 0)) ∧ (1 < n → lp = some ⟨pg, 1, none⟩ ∧ lc = c - 1) := by
  obtain ⟨es, et, ek, evv⟩ := ev
  simp only at ht0 ht1 ⊢
  go_enter Tryd.func150, Tryd.ntmps150
  go_wp2
  go_region
  go_wp2
  · have hn1 : n = 1 := by omega
    subst hn1
    refine bodyPost_ret (v := .agg #[.int .i64 (et + wn), .slice (some ⟨w.heap.size + 1 + 1 + 1, 0, none⟩) 1 1, .slice (some ⟨pg, 0, none⟩) (1 - 1) 0]) (by simp [results, Tryd.results150, go_sem]) rfl ⟨w.heap.size + 1 + 1 + 1, _, _, rfl, ?_, by omega, ?_, fun h => absurd h (by omega)⟩
    · exact (((((Below.refl _ _).alloc (Nat.le_refl _) _).alloc (by simp) _).alloc (by simp; omega) _).alloc (by simp; omega) _).drew
    · exact heap_alloc_at _ _ _ (by simp)
  · refine bodyPost_ret (v := .agg #[.int .i64 (et + wn), .slice (some ⟨w.heap.size + 1 + 1 + 1, 0, none⟩) 1 1, .slice (some ⟨pg, 1, none⟩) (n - 1) (c - 1)]) (by simp [results, Tryd.results150, go_sem]) rfl ⟨w.heap.size + 1 + 1 + 1, _, _, rfl, ?_, by omega, ?_, fun h => ⟨rfl, rfl⟩⟩
    · exact (((((Below.refl _ _).alloc (Nat.le_refl _) _).alloc (by simp) _).alloc (by simp; omega) _).alloc (by simp; omega) _).drew
    · exact heap_alloc_at _ _ _ (by simp)
end Go.Proofs.YtbgfannlfagoiaaDoor

namespace Go.Proofs.YtbgfannlfagoiaaDoor
open Go.RowKit Go.Lull
set_option linter.unusedVariables false

set_option maxRecDepth 8000 in
set_option maxHeartbeats 1000000 in
theorem addr_more (w : World) (qb m : Nat) (dl : Int) (nv sv wv vr vf : Value) (tn tc : Nat) (tp : Option Addr) (ln lc : Nat) (lp : Option Addr) (xs : List Value) (hm : m ≤ 1073741824) (hl : ¬ ln = 0)
    (hblk : w.heap[qb]? = some (.cells #[nv, sv, wv, vr, vf] 143 (0, 0))) (hrow : Row w 177 3 vr m xs) :
    Calls Tryd.prog 149 #[.pointer (some ⟨qb, 0, none⟩), .agg #[.int .i64 dl, .slice tp tn tc, .slice lp ln lc]] w fun e w' => e = .returned (.tuple #[]) ∧ ∃ vr', w'.heap[qb]? = some (.cells #[nv, sv, wv, vr', vf] 143 (0, 0)) ∧
      Row w' 177 3 vr' (m + 1) (xs ++ [.int .i64 dl, .slice tp tn tc, .slice lp ln lc]) ∧ Fr (qb :: vr.ownBlock.toList) w w' ∧ (∀ b, vr'.ownBlock = some b → vr.ownBlock = some b ∨ w.heap.size ≤ b) := by
  obtain ⟨fa, fc, rfl, hfc⟩ := hrow.form
  have hqb := lt_of_block hblk
  have hne : (Value.slice fa m fc).ownBlock ≠ some qb := hrow.ne hblk (by decide)
  have hl1 : ((ln : Int) == 0) = false := by simp; omega
  have HB := Hid.mk' hblk
  have HR := Hid.mk' hrow
  clear hblk hrow
  go_enter Tryd.func149, Tryd.ntmps149
  go_wp2_with (go_in)
  obtain ⟨w1, hw1⟩ : ∃ w1, w.alloc (.cells #[.int .i64 dl, .slice tp tn tc, .slice lp ln lc] 177) = w1 := ⟨_, rfl⟩
  rw [hw1]
  have hz1 : w1.heap.size = w.heap.size + 1 := by rw [← hw1]; simp
  have hb1 : w1.heap[w.heap.size]? = some (.cells #[.int .i64 dl, .slice tp tn tc, .slice lp ln lc] 177 (0, 0)) := by rw [← hw1]; exact heap_alloc_new _ _
  have hq1 : w1.heap[qb]? = some (.cells #[nv, sv, wv, .slice fa m fc, vf] 143 (0, 0)) := by rw [← hw1, Below.heap_alloc _ _ _ hqb]; exact HB.out
  have hF1 : Fr (qb :: (Value.slice fa m fc).ownBlock.toList) w w1 := by rw [← hw1]; exact (Fr.refl _ _).alloc _
  have hR1 : Row w1 177 3 (.slice fa m fc) m xs := HR.out.same (fun k hk => by rw [← hw1]; exact Below.heap_alloc _ _ _ (HR.out.lt k hk))
  clear hw1
  have b0 := cell_of_row w1 w.heap.size 0 _ _ _ hb1
  have b1 := cell_of_row w1 w.heap.size 1 _ _ _ hb1
  have b2 := cell_of_row w1 w.heap.size 2 _ _ _ hb1
  have q3 := cell_of_row w1 qb 3 _ _ _ hq1
  simp at b0 b1 b2 q3
  have f3 := frozen_of_row w1 qb 3 _ _ hq1
  have a3 := alloc_keep (.cells #[.int .i64 dl, .slice tp tn tc, .slice lp ln lc] 177) q3
  have HQ1 := Hid.mk' hq1
  have HF1 := Hid.mk' hF1
  have HR1 := Hid.mk' hR1
  have HZ1 := Hid.mk' hz1
  have hafter : Hid (∀ (w2 : World) (o : Obj), ((w1.alloc o).drew).grownBy w2 (Value.slice fa m fc).ownBlock → w2.heap[qb]? = some (.cells #[nv, sv, wv, .slice fa m fc, vf] 143 (0, 0)) ∧ Fr (qb :: (Value.slice fa m fc).ownBlock.toList) w w2) := by
    intro w2 o hg
    have hlt1 : qb < w1.heap.size := lt_of_block HQ1.out
    refine ⟨?_, ?_⟩
    · rw [hg.block qb (by simp; omega) (fun e => hne e.symm)]
      show (w1.alloc o).heap[qb]? = _
      rw [Below.heap_alloc _ _ _ hlt1]
      exact HQ1.out
    · exact ((HF1.out.alloc o).drew).grown hg (fun k hk => Or.inl (by rw [hk]; simp))
  have hsrc : Hid (∀ T, Src Tryd.prog 3 141 (.slice (some ⟨w1.heap.size, 0, none⟩) 1 1) 1 [.int .i64 dl, .slice tp tn tc, .slice lp ln lc] ((w1.alloc (.cells #[.int .i64 dl, .slice tp tn tc, .slice lp ln lc] T)).drew)) := by
    intro T
    exact Src.ofSlice _ Tryd.underlying141 _ 1 1 _ rfl (three_at w1 _ _ _ T _ rfl) (by simp [Value.oneCell'])
  have hRD : Hid (∀ o, Row ((w1.alloc o).drew) 177 3 (.slice fa m fc) m xs) := by
    intro o
    exact HR1.out.same (fun k hk => Below.heap_alloc _ _ _ (HR1.out.lt k hk))
  clear hb1 hq1 hF1 hR1 hz1
  obtain ⟨i0, hi0, hz0, hz1, hz2⟩ := info_parts Tryd.infoRn
  go_region_law (refine step_append_row (by rfl) _ _ _ (by rfl) i0 _ 56 Tryd.underlying141 hi0 hz0 hz1 hz2 rfl (by rfl) (hRD.out _) 1 [.int .i64 dl, .slice tp tn tc, .slice lp ln lc] (.slice (some ⟨w1.heap.size, 0, none⟩) 1 1) (by rfl) (hsrc.out _) (by omega) (by unfold maxLen; omega) (by omega) ?_; intro g2 off2 cap2 w2 hrow2 hgrow hat; obtain ⟨hbk2, hfr2⟩ := hafter.out w2 _ hgrow; have r12 := cell_of_row w2 qb 3 _ _ _ hbk2; have f12 := frozen_of_row w2 qb 3 _ _ hbk2; simp at r12)
  all_goals
    go_end0
    refine ⟨rfl, .slice (some ⟨g2, off2, none⟩) (m + 1) cap2, by rw [heap_setCell_same w2 qb 3 _ _ _ hbk2]; rfl, ?_, hfr2.setCell (Or.inl (by simp)) _, ?_⟩
    · have hx := hrow2.ne hbk2 (by decide)
      exact hrow2.same (fun k hk => Below.heap_setCell _ _ _ _ (fun e => by subst e; exact hx hk))
    · intro b hb
      obtain rfl : g2 = b := Option.some.inj hb
      exact hat.imp id (fun h => by have := HZ1.out; rw [h]; simp; omega)

set_option maxRecDepth 8000 in
set_option maxHeartbeats 1000000 in
theorem addr_tell (w : World) (qb m : Nat) (num dl t : Int) (sv wv vr vf : Value) (tg tn tc : Nat) (lc : Nat) (lp : Option Addr) (xs : List Value) (hm : m ≤ 1073741824) (htn : 0 < tn) (htg : tg < w.heap.size)
    (hblk : w.heap[qb]? = some (.cells #[.int .i64 num, sv, wv, vr, vf] 143 (0, 0))) (hrow : Row w 60 3 vf m xs) (ht : w.cell? ⟨tg, 1, none⟩ = some (.int .i64 t)) :
    Calls Tryd.prog 149 #[.pointer (some ⟨qb, 0, none⟩), .agg #[.int .i64 dl, .slice (some ⟨tg, 0, none⟩) tn tc, .slice lp 0 lc]] w fun e w' => e = .returned (.tuple #[]) ∧ ∃ vf', w'.heap[qb]? = some (.cells #[.int .i64 num, sv, wv, vr, vf'] 143 (0, 0)) ∧
      Row w' 60 3 vf' (m + 1) (xs ++ [.int .i64 num, .int .i64 t, .slice (some ⟨tg, 0, none⟩) tn tc]) ∧ Fr (qb :: vf.ownBlock.toList) w w' ∧ (∀ b, vf'.ownBlock = some b → vf.ownBlock = some b ∨ w.heap.size ≤ b) := by
  have hqb := lt_of_block hblk
  have HB := Hid.mk' hblk
  have HR := Hid.mk' hrow
  clear hblk hrow
  go_enter Tryd.func149, Tryd.ntmps149
  go_wp2_with (go_at_call 151; go_in)
  obtain ⟨w1, hw1⟩ : ∃ w1, w.alloc (.cells #[.int .i64 dl, .slice (some ⟨tg, 0, none⟩) tn tc, .slice lp 0 lc] 177) = w1 := ⟨_, rfl⟩
  rw [hw1]
  have hz1 : w1.heap.size = w.heap.size + 1 := by rw [← hw1]; simp
  have hb1 : w1.heap[w.heap.size]? = some (.cells #[.int .i64 dl, .slice (some ⟨tg, 0, none⟩) tn tc, .slice lp 0 lc] 177 (0, 0)) := by rw [← hw1]; exact heap_alloc_new _ _
  have hq1 : w1.heap[qb]? = some (.cells #[.int .i64 num, sv, wv, vr, vf] 143 (0, 0)) := by rw [← hw1, Below.heap_alloc _ _ _ hqb]; exact HB.out
  have hF1 : Fr (qb :: vf.ownBlock.toList) w w1 := by rw [← hw1]; exact (Fr.refl _ _).alloc _
  have hR1 : Row w1 60 3 vf m xs := HR.out.same (fun k hk => by rw [← hw1]; exact Below.heap_alloc _ _ _ (HR.out.lt k hk))
  have ht1 : w1.cell? ⟨tg, 1, none⟩ = some (.int .i64 t) := by rw [← hw1]; exact alloc_keep _ ht
  clear hw1
  have b0 := cell_of_row w1 w.heap.size 0 _ _ _ hb1
  have b1 := cell_of_row w1 w.heap.size 1 _ _ _ hb1
  have b2 := cell_of_row w1 w.heap.size 2 _ _ _ hb1
  simp at b0 b1 b2
  have htell := Hid.mk' (fun q => tell_any (w1.drewN q) qb m num t dl sv wv vr vf _ _ tn tc (some ⟨tg, 0, none⟩) xs hm rfl ⟨lp, 0, lc, rfl⟩ hq1 (hR1.same (fun k hk => rfl)))
  have HF1 := Hid.mk' hF1
  have HZ1 := Hid.mk' hz1
  clear hb1 hq1 hF1 hR1 hz1
  go_region_with (go_at_call 148; refine (htell.out 1).mono ?_; rintro e w2 ⟨rfl, vf', h1, h2, h3, h4⟩)
  all_goals
    go_wp2
    refine bodyPost_ret (results_none rfl _ _ _) rfl ⟨rfl, vf', h1, h2, HF1.out.trans ?_, fun b hb => (h4 b hb).imp id (fun h => ?_)⟩
    · exact ⟨h3.os, h3.tape, h3.output, h3.size, h3.block⟩
    · have : w1.heap.size ≤ b := h
      have := HZ1.out
      omega
end Go.Proofs.YtbgfannlfagoiaaDoor
