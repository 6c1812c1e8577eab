import Derived.Test.YtbgfannlfagoiaaGreatDoorZ06
import Derived.Test.YtbgfannlfagoiaaGreatDoorZ11
import Derived.Deep.RegionWith
namespace Go.Proofs.YtbgfannlfagoiaaGreatDoor
open Go.RowKit Go.Lull
set_option linter.unusedVariables false

theorem Tryz.infoMt : (Tryz.prog.info? 58).map (fun i => (i.zero, i.size, i.bytes)) = some (some (.agg #[.int .i64 0, .int .i64 0, .slice none 0 0]), 3, 40) := by kernel_rfl
theorem Tryz.infoRn : (Tryz.prog.info? 193).map (fun i => (i.zero, i.size, i.bytes)) = some (some (.agg #[.int .i64 0, .slice none 0 0, .slice none 0 0]), 3, 56) := by kernel_rfl
theorem three_at (w : World) (a b c : Value) (T n : Nat) (hn : n = w.heap.size) : ∀ j u, [a, b, c][j]? = some u → (w.alloc (.cells #[a, b, c] T)).cell? ((⟨n, 0, none⟩ : Addr).add j) = some u := by
 intro j u h
 subst hn
 match j, h with
 | 0, h => simp at h; subst h; simp [Addr.add]
 | 1, h => simp at h; subst h; simp [Addr.add]
 | 2, h => simp at h; subst h; simp [Addr.add]
 | j + 3, h => simp at h

set_option maxRecDepth 8000 in
set_option maxHeartbeats 1000000 in
theorem tell_any (w : World) (qb m : Nat) (num t dl : Int) (sv wv vr vf ta lv : Value) (tn tc : Nat) (tp : Option Addr) (xs : List Value) (hm : m ≤ 1073741824) (hta : ta = .slice tp tn tc) (hlv : ∃ a b c, lv = .slice a b c)
  (hblk : w.heap[qb]? = some (.cells #[.int .i64 num, sv, wv, vr, vf] 166 (0, 0))) (hrow : Row w 58 3 vf m xs) :
  Calls Tryz.prog 168 #[.pointer (some ⟨qb, 0, none⟩), .agg #[.int .i64 dl, ta, lv], .int .i64 t] w fun e w' => e = .returned (.tuple #[]) ∧ ∃ vf', w'.heap[qb]? = some (.cells #[.int .i64 num, sv, wv, vr, vf'] 166 (0, 0)) ∧
   Row w' 58 3 vf' (m + 1) (xs ++ [.int .i64 num, .int .i64 t, ta]) ∧ Fr (qb :: vf.ownBlock.toList) w w' ∧ (∀ b, vf'.ownBlock = some b → vf.ownBlock = some b ∨ w.heap.size ≤ b) := by
 obtain ⟨fa, fc, rfl, hfc⟩ := hrow.form
 subst hta
 obtain ⟨la, lb, lc, rfl⟩ := hlv
 have hqb := lt_of_block hblk
 have hne : (Value.slice fa m fc).ownBlock ≠ some qb := hrow.ne hblk (by decide)
 have HB := Hid.mk' hblk
 have HR := Hid.mk' hrow
 clear hblk hrow
 go_enter Tryz.func168, Tryz.ntmps168
 go_wp2
 obtain ⟨w1, hw1⟩ : ∃ w1, w.alloc (.cells #[.int .i64 dl, .slice tp tn tc, .slice la lb lc] 193) = w1 := ⟨_, rfl⟩
 rw [hw1]
 have hz1 : w1.heap.size = w.heap.size + 1 := by rw [← hw1]; simp
 have hb1 : w1.heap[w.heap.size]? = some (.cells #[.int .i64 dl, .slice tp tn tc, .slice la lb lc] 193 (0, 0)) := by rw [← hw1]; exact heap_alloc_new _ _
 have hq1 : w1.heap[qb]? = some (.cells #[.int .i64 num, sv, wv, vr, .slice fa m fc] 166 (0, 0)) := by rw [← hw1, Below.heap_alloc _ _ _ hqb]; exact HB.out
 have hF1 : Fr (qb :: (Value.slice fa m fc).ownBlock.toList) w w1 := by rw [← hw1]; exact (Fr.refl _ _).alloc _
 have hR1 : Row w1 58 3 (.slice fa m fc) m xs := HR.out.same (fun k hk => by rw [← hw1]; exact Below.heap_alloc _ _ _ (HR.out.lt k hk))
 clear hw1
 have b1 := cell_of_row w1 w.heap.size 1 _ _ _ hb1
 have q0 := cell_of_row w1 qb 0 _ _ _ hq1
 have q4 := cell_of_row w1 qb 4 _ _ _ hq1
 simp at b1 q0 q4
 have f4 := frozen_of_row w1 qb 4 _ _ hq1
 have a0 := alloc_keep (.cells #[.int .i64 num, .int .i64 t, .slice tp tn tc] 58) q0
 have a4 := alloc_keep (.cells #[.int .i64 num, .int .i64 t, .slice tp tn tc] 58) q4
 have HQ1 := Hid.mk' hq1
 have HF1 := Hid.mk' hF1
 have HR1 := Hid.mk' hR1
 have HZ1 := Hid.mk' hz1
 have hafter : Hid (∀ (w2 : World) (o : Obj), ((w1.alloc o).drew).grownBy w2 (Value.slice fa m fc).ownBlock → w2.heap[qb]? = some (.cells #[.int .i64 num, sv, wv, vr, .slice fa m fc] 166 (0, 0)) ∧ Fr (qb :: (Value.slice fa m fc).ownBlock.toList) w w2) := by
  intro w2 o hg
  have hlt1 : qb < w1.heap.size := lt_of_block HQ1.out
  refine ⟨?_, ?_⟩
  ·rw [hg.block qb (by simp; omega) (fun e => hne e.symm)]
   show (w1.alloc o).heap[qb]? = _
   rw [Below.heap_alloc _ _ _ hlt1]
   exact HQ1.out
  ·exact ((HF1.out.alloc o).drew).grown hg (fun k hk => Or.inl (by rw [hk]; simp))
 have hsrc : Hid (∀ T, Src Tryz.prog 3 55 (.slice (some ⟨w1.heap.size, 0, none⟩) 1 1) 1 [.int .i64 num, .int .i64 t, .slice tp tn tc] ((w1.alloc (.cells #[.int .i64 num, .int .i64 t, .slice tp tn tc] T)).drew)) := by
  intro T
  exact Src.ofSlice _ Tryz.underlying55 _ 1 1 _ rfl (three_at w1 _ _ _ T _ rfl) (by simp [Value.oneCell'])
 have hRD : Hid (∀ o, Row ((w1.alloc o).drew) 58 3 (.slice fa m fc) m xs) := by
  intro o
  exact HR1.out.same (fun k hk => Below.heap_alloc _ _ _ (HR1.out.lt k hk))
 clear hb1 hq1 hF1 hR1 hz1
 obtain ⟨i0, hi0, hz0, hz1, hz2⟩ := info_parts Tryz.infoMt
 go_region_law (refine step_append_row (by rfl) _ _ _ (by rfl) i0 _ 40 Tryz.underlying55 hi0 hz0 hz1 hz2 rfl (by rfl) (hRD.out _) 1 [.int .i64 num, .int .i64 t, .slice tp tn tc] (.slice (some ⟨w1.heap.size, 0, none⟩) 1 1) (by rfl) (hsrc.out _) (by omega) (by unfold maxLen; omega) (by omega) ?_; intro g2 off2 cap2 w2 hrow2 hgrow hat; obtain ⟨hbk2, hfr2⟩ := hafter.out w2 _ hgrow; have r12 := cell_of_row w2 qb 4 _ _ _ hbk2; have f12 := frozen_of_row w2 qb 4 _ _ hbk2; simp at r12)
 all_goals
  go_end0
  refine ⟨rfl, .slice (some ⟨g2, off2, none⟩) (m + 1) cap2, by rw [heap_setCell_same w2 qb 4 _ _ _ hbk2]; rfl, ?_, hfr2.setCell (Or.inl (by simp)) _, ?_⟩
  ·have hx := hrow2.ne hbk2 (by decide)
   exact hrow2.same (fun k hk => Below.heap_setCell _ _ _ _ (fun e => by subst e; exact hx hk))
  ·intro b hb
   obtain rfl : g2 = b := Option.some.inj hb
   exact hat.imp id (fun h => by have := HZ1.out; rw [h]; simp; omega)
end Go.Proofs.YtbgfannlfagoiaaGreatDoor

namespace Go.Proofs.YtbgfannlfagoiaaGreatDoor
open Go.RowKit Go.Lull
set_option linter.unusedVariables false

set_option maxRecDepth 8000 in
set_option maxHeartbeats 1000000 in
theorem begin_any (w : World) (pg n c : Nat) (wn : Int) (ev : Ev) (hn : 1 ≤ n) (hn8 : n ≤ 8) (hc : n ≤ c) (hw0 : 0 ≤ wn) (hw1 : wn ≤ 1000) (ht0 : 0 ≤ ev.2.1) (ht1 : ev.2.1 ≤ 1000000) :
  Calls Tryz.prog 170 #[.agg #[.slice (some ⟨pg, 0, none⟩) n c, .int .i64 wn], .agg #[.int .i64 ev.1, .int .i64 ev.2.1, .int .u8 ev.2.2.1.toNat, .int .i64 ev.2.2.2]] w fun e w' => ∃ g lp lc, e = .returned (.agg #[.int .i64 (ev.2.1 + wn), .slice (some ⟨g, 0, none⟩) 1 1, .slice lp (n - 1) lc]) ∧ Below w.heap.size w w' ∧ w.heap.size ≤ g ∧
   w'.heap[g]? = some (.cells #[.int .i64 ev.1, .int .i64 ev.2.1, .int .u8 ev.2.2.1.toNat, .int .i64 ev.2.2.2] 75 (0, 0)) ∧ (1 < n → lp = some ⟨pg, 1, none⟩ ∧ lc = c - 1) := by
 obtain ⟨es, et, ek, evv⟩ := ev
 simp only at ht0 ht1 ⊢
 go_enter Tryz.func170, Tryz.ntmps170
 go_wp2
 go_region
 go_wp2
 ·have hn1 : n = 1 := by omega
  subst hn1
  refine bodyPost_ret (v := .agg #[.int .i64 (et + wn), .slice (some ⟨w.heap.size + 1 + 1 + 1, 0, none⟩) 1 1, .slice (some ⟨pg, 0, none⟩) (1 - 1) 0]) (by simp [results, Tryz.results170, go_sem]) rfl ⟨w.heap.size + 1 + 1 + 1, _, _, rfl, ?_, by omega, ?_, fun h => absurd h (by omega)⟩
  ·exact (((((Below.refl _ _).alloc (Nat.le_refl _) _).alloc (by simp) _).alloc (by simp; omega) _).alloc (by simp; omega) _).drew
  ·exact heap_alloc_at _ _ _ (by simp)
 ·refine bodyPost_ret (v := .agg #[.int .i64 (et + wn), .slice (some ⟨w.heap.size + 1 + 1 + 1, 0, none⟩) 1 1, .slice (some ⟨pg, 1, none⟩) (n - 1) (c - 1)]) (by simp [results, Tryz.results170, go_sem]) rfl ⟨w.heap.size + 1 + 1 + 1, _, _, rfl, ?_, by omega, ?_, fun h => ⟨rfl, rfl⟩⟩
  ·exact (((((Below.refl _ _).alloc (Nat.le_refl _) _).alloc (by simp) _).alloc (by simp; omega) _).alloc (by simp; omega) _).drew
  ·exact heap_alloc_at _ _ _ (by simp)
end Go.Proofs.YtbgfannlfagoiaaGreatDoor

namespace Go.Proofs.YtbgfannlfagoiaaGreatDoor
open Go.RowKit Go.Lull
set_option linter.unusedVariables false

set_option maxRecDepth 8000 in
set_option maxHeartbeats 1000000 in
theorem addr_more (w : World) (qb m : Nat) (dl : Int) (nv sv wv vr vf : Value) (tn tc : Nat) (tp : Option Addr) (ln lc : Nat) (lp : Option Addr) (xs : List Value) (hm : m ≤ 1073741824) (hl : ¬ ln = 0)
  (hblk : w.heap[qb]? = some (.cells #[nv, sv, wv, vr, vf] 166 (0, 0))) (hrow : Row w 193 3 vr m xs) :
  Calls Tryz.prog 169 #[.pointer (some ⟨qb, 0, none⟩), .agg #[.int .i64 dl, .slice tp tn tc, .slice lp ln lc]] w fun e w' => e = .returned (.tuple #[]) ∧ ∃ vr', w'.heap[qb]? = some (.cells #[nv, sv, wv, vr', vf] 166 (0, 0)) ∧
   Row w' 193 3 vr' (m + 1) (xs ++ [.int .i64 dl, .slice tp tn tc, .slice lp ln lc]) ∧ Fr (qb :: vr.ownBlock.toList) w w' ∧ (∀ b, vr'.ownBlock = some b → vr.ownBlock = some b ∨ w.heap.size ≤ b) := by
 obtain ⟨fa, fc, rfl, hfc⟩ := hrow.form
 have hqb := lt_of_block hblk
 have hne : (Value.slice fa m fc).ownBlock ≠ some qb := hrow.ne hblk (by decide)
 have hl1 : ((ln : Int) == 0) = false := by simp; omega
 have HB := Hid.mk' hblk
 have HR := Hid.mk' hrow
 clear hblk hrow
 go_enter Tryz.func169, Tryz.ntmps169
 go_wp2_with (go_in)
 obtain ⟨w1, hw1⟩ : ∃ w1, w.alloc (.cells #[.int .i64 dl, .slice tp tn tc, .slice lp ln lc] 193) = w1 := ⟨_, rfl⟩
 rw [hw1]
 have hz1 : w1.heap.size = w.heap.size + 1 := by rw [← hw1]; simp
 have hb1 : w1.heap[w.heap.size]? = some (.cells #[.int .i64 dl, .slice tp tn tc, .slice lp ln lc] 193 (0, 0)) := by rw [← hw1]; exact heap_alloc_new _ _
 have hq1 : w1.heap[qb]? = some (.cells #[nv, sv, wv, .slice fa m fc, vf] 166 (0, 0)) := by rw [← hw1, Below.heap_alloc _ _ _ hqb]; exact HB.out
 have hF1 : Fr (qb :: (Value.slice fa m fc).ownBlock.toList) w w1 := by rw [← hw1]; exact (Fr.refl _ _).alloc _
 have hR1 : Row w1 193 3 (.slice fa m fc) m xs := HR.out.same (fun k hk => by rw [← hw1]; exact Below.heap_alloc _ _ _ (HR.out.lt k hk))
 clear hw1
 have b0 := cell_of_row w1 w.heap.size 0 _ _ _ hb1
 have b1 := cell_of_row w1 w.heap.size 1 _ _ _ hb1
 have b2 := cell_of_row w1 w.heap.size 2 _ _ _ hb1
 have q3 := cell_of_row w1 qb 3 _ _ _ hq1
 simp at b0 b1 b2 q3
 have f3 := frozen_of_row w1 qb 3 _ _ hq1
 have a3 := alloc_keep (.cells #[.int .i64 dl, .slice tp tn tc, .slice lp ln lc] 193) q3
 have HQ1 := Hid.mk' hq1
 have HF1 := Hid.mk' hF1
 have HR1 := Hid.mk' hR1
 have HZ1 := Hid.mk' hz1
 have hafter : Hid (∀ (w2 : World) (o : Obj), ((w1.alloc o).drew).grownBy w2 (Value.slice fa m fc).ownBlock → w2.heap[qb]? = some (.cells #[nv, sv, wv, .slice fa m fc, vf] 166 (0, 0)) ∧ Fr (qb :: (Value.slice fa m fc).ownBlock.toList) w w2) := by
  intro w2 o hg
  have hlt1 : qb < w1.heap.size := lt_of_block HQ1.out
  refine ⟨?_, ?_⟩
  ·rw [hg.block qb (by simp; omega) (fun e => hne e.symm)]
   show (w1.alloc o).heap[qb]? = _
   rw [Below.heap_alloc _ _ _ hlt1]
   exact HQ1.out
  ·exact ((HF1.out.alloc o).drew).grown hg (fun k hk => Or.inl (by rw [hk]; simp))
 have hsrc : Hid (∀ T, Src Tryz.prog 3 164 (.slice (some ⟨w1.heap.size, 0, none⟩) 1 1) 1 [.int .i64 dl, .slice tp tn tc, .slice lp ln lc] ((w1.alloc (.cells #[.int .i64 dl, .slice tp tn tc, .slice lp ln lc] T)).drew)) := by
  intro T
  exact Src.ofSlice _ Tryz.underlying164 _ 1 1 _ rfl (three_at w1 _ _ _ T _ rfl) (by simp [Value.oneCell'])
 have hRD : Hid (∀ o, Row ((w1.alloc o).drew) 193 3 (.slice fa m fc) m xs) := by
  intro o
  exact HR1.out.same (fun k hk => Below.heap_alloc _ _ _ (HR1.out.lt k hk))
 clear hb1 hq1 hF1 hR1 hz1
 obtain ⟨i0, hi0, hz0, hz1, hz2⟩ := info_parts Tryz.infoRn
 go_region_law (refine step_append_row (by rfl) _ _ _ (by rfl) i0 _ 56 Tryz.underlying164 hi0 hz0 hz1 hz2 rfl (by rfl) (hRD.out _) 1 [.int .i64 dl, .slice tp tn tc, .slice lp ln lc] (.slice (some ⟨w1.heap.size, 0, none⟩) 1 1) (by rfl) (hsrc.out _) (by omega) (by unfold maxLen; omega) (by omega) ?_; intro g2 off2 cap2 w2 hrow2 hgrow hat; obtain ⟨hbk2, hfr2⟩ := hafter.out w2 _ hgrow; have r12 := cell_of_row w2 qb 3 _ _ _ hbk2; have f12 := frozen_of_row w2 qb 3 _ _ hbk2; simp at r12)
 all_goals
  go_end0
  refine ⟨rfl, .slice (some ⟨g2, off2, none⟩) (m + 1) cap2, by rw [heap_setCell_same w2 qb 3 _ _ _ hbk2]; rfl, ?_, hfr2.setCell (Or.inl (by simp)) _, ?_⟩
  ·have hx := hrow2.ne hbk2 (by decide)
   exact hrow2.same (fun k hk => Below.heap_setCell _ _ _ _ (fun e => by subst e; exact hx hk))
  ·intro b hb
   obtain rfl : g2 = b := Option.some.inj hb
   exact hat.imp id (fun h => by have := HZ1.out; rw [h]; simp; omega)

set_option maxRecDepth 8000 in
set_option maxHeartbeats 1000000 in
theorem addr_tell (w : World) (qb m : Nat) (num dl t : Int) (sv wv vr vf : Value) (tg tn tc : Nat) (lc : Nat) (lp : Option Addr) (xs : List Value) (hm : m ≤ 1073741824) (htn : 0 < tn) (htg : tg < w.heap.size)
  (hblk : w.heap[qb]? = some (.cells #[.int .i64 num, sv, wv, vr, vf] 166 (0, 0))) (hrow : Row w 58 3 vf m xs) (ht : w.cell? ⟨tg, 1, none⟩ = some (.int .i64 t)) :
  Calls Tryz.prog 169 #[.pointer (some ⟨qb, 0, none⟩), .agg #[.int .i64 dl, .slice (some ⟨tg, 0, none⟩) tn tc, .slice lp 0 lc]] w fun e w' => e = .returned (.tuple #[]) ∧ ∃ vf', w'.heap[qb]? = some (.cells #[.int .i64 num, sv, wv, vr, vf'] 166 (0, 0)) ∧
   Row w' 58 3 vf' (m + 1) (xs ++ [.int .i64 num, .int .i64 t, .slice (some ⟨tg, 0, none⟩) tn tc]) ∧ Fr (qb :: vf.ownBlock.toList) w w' ∧ (∀ b, vf'.ownBlock = some b → vf.ownBlock = some b ∨ w.heap.size ≤ b) := by
 have hqb := lt_of_block hblk
 have HB := Hid.mk' hblk
 have HR := Hid.mk' hrow
 clear hblk hrow
 go_enter Tryz.func169, Tryz.ntmps169
 go_wp2_with (go_at_call 171; go_in)
 obtain ⟨w1, hw1⟩ : ∃ w1, w.alloc (.cells #[.int .i64 dl, .slice (some ⟨tg, 0, none⟩) tn tc, .slice lp 0 lc] 193) = w1 := ⟨_, rfl⟩
 rw [hw1]
 have hz1 : w1.heap.size = w.heap.size + 1 := by rw [← hw1]; simp
 have hb1 : w1.heap[w.heap.size]? = some (.cells #[.int .i64 dl, .slice (some ⟨tg, 0, none⟩) tn tc, .slice lp 0 lc] 193 (0, 0)) := by rw [← hw1]; exact heap_alloc_new _ _
 have hq1 : w1.heap[qb]? = some (.cells #[.int .i64 num, sv, wv, vr, vf] 166 (0, 0)) := by rw [← hw1, Below.heap_alloc _ _ _ hqb]; exact HB.out
 have hF1 : Fr (qb :: vf.ownBlock.toList) w w1 := by rw [← hw1]; exact (Fr.refl _ _).alloc _
 have hR1 : Row w1 58 3 vf m xs := HR.out.same (fun k hk => by rw [← hw1]; exact Below.heap_alloc _ _ _ (HR.out.lt k hk))
 have ht1 : w1.cell? ⟨tg, 1, none⟩ = some (.int .i64 t) := by rw [← hw1]; exact alloc_keep _ ht
 clear hw1
 have b0 := cell_of_row w1 w.heap.size 0 _ _ _ hb1
 have b1 := cell_of_row w1 w.heap.size 1 _ _ _ hb1
 have b2 := cell_of_row w1 w.heap.size 2 _ _ _ hb1
 simp at b0 b1 b2
 have htell := Hid.mk' (fun q => tell_any (w1.drewN q) qb m num t dl sv wv vr vf _ _ tn tc (some ⟨tg, 0, none⟩) xs hm rfl ⟨lp, 0, lc, rfl⟩ hq1 (hR1.same (fun k hk => rfl)))
 have HF1 := Hid.mk' hF1
 have HZ1 := Hid.mk' hz1
 clear hb1 hq1 hF1 hR1 hz1
 go_region_with (go_at_call 168; refine (htell.out 1).mono ?_; rintro e w2 ⟨rfl, vf', h1, h2, h3, h4⟩)
 all_goals
  go_wp2
  refine bodyPost_ret (results_none rfl _ _ _) rfl ⟨rfl, vf', h1, h2, HF1.out.trans ?_, fun b hb => (h4 b hb).imp id (fun h => ?_)⟩
  ·exact ⟨h3.os, h3.tape, h3.output, h3.size, h3.block⟩
  ·have : w1.heap.size ≤ b := h
   have := HZ1.out
   omega
end Go.Proofs.YtbgfannlfagoiaaGreatDoor

namespace Go.Proofs.YtbgfannlfagoiaaGreatDoor
open Go.RowKit Go.Lull
set_option linter.unusedVariables false

/-- Events in memory, in a block of their own. -/
def EvR (w : World) (v : Value) (l : List Ev) : Prop := w.ownsRow 0 75 4 v l.length (l.flatMap evC)

abbrev EL := List (List Ev × Value)
def eblk (l : EL) : List Nat := l.flatMap (fun x => x.2.ownBlock.toList)

/-- Blocks B, and lists of events, each in a block of its own. -/
structure OWN (w : World) (B : List Nat) (l : EL) : Prop where
 ev : ∀ x ∈ l, EvR w x.2 x.1
 nd : (B ++ eblk l).Nodup
 lt : ∀ b ∈ B, b < w.heap.size

section
variable {w w' : World} {B B' F : List Nat} {l l' : EL} {x y : List Ev × Value}
theorem mem_eblk {b : Nat} : b ∈ eblk l ↔ ∃ x ∈ l, x.2.ownBlock = some b := by
 simp [eblk, List.mem_flatMap]
theorem eblk_perm (h : l.Perm l') : (eblk l).Perm (eblk l') := List.Perm.flatMap_right _ h
theorem eblk_cons : eblk (x :: l) = x.2.ownBlock.toList ++ eblk l := by simp [eblk]
theorem eblk_append : eblk (l ++ l') = eblk l ++ eblk l' := by simp [eblk]
theorem eblk_sub (h : l'.Sublist l) : (eblk l').Sublist (eblk l) := by
 induction h with
 | slnil => exact List.Sublist.refl _
 | cons a h ih => rw [eblk_cons]; exact ih.trans (List.sublist_append_right _ _)
 | cons_cons a h ih => rw [eblk_cons, eblk_cons]; exact List.Sublist.append (List.Sublist.refl _) ih
theorem OWN.perm (h : OWN w B l) (hp : l.Perm l') : OWN w B l' :=
 ⟨fun x hx => h.ev x (hp.mem_iff.2 hx), (List.Perm.append_left B (eblk_perm hp)).nodup_iff.1 h.nd, h.lt⟩
theorem OWN.baseperm (h : OWN w B l) (hp : B.Perm B') : OWN w B' l :=
 ⟨h.ev, (List.Perm.append_right _ hp).nodup_iff.1 h.nd, fun b hb => h.lt b (hp.mem_iff.2 hb)⟩
theorem OWN.sub (h : OWN w B l) (hs : l'.Sublist l) : OWN w B l' :=
 ⟨fun x hx => h.ev x (hs.subset hx), h.nd.sublist (List.Sublist.append (List.Sublist.refl _) (eblk_sub hs)), h.lt⟩
theorem OWN.tail (h : OWN w B (x :: l)) : OWN w B l := h.sub (List.sublist_cons_self _ _)
theorem OWN.elt (h : OWN w B l) {b : Nat} (hb : b ∈ eblk l) : b < w.heap.size := by
 obtain ⟨x, hx, e⟩ := mem_eblk.1 hb
 exact own_lt (h.ev x hx) b e
theorem OWN.disj (h : OWN w B l) {b : Nat} (hb : b ∈ B) (hb' : b ∈ eblk l) : False := by
 have := List.nodup_append.1 h.nd
 exact this.2.2 b hb b hb' rfl
/-- Other blocks changed. -/
theorem OWN.fr (h : OWN w B l) (hf : Fr F w w') (hn : ∀ b ∈ F, b ∉ eblk l) : OWN w' B l :=
 ⟨fun x hx => hf.own (h.ev x hx) (fun k hk hF => hn k hF (mem_eblk.2 ⟨x, hx, hk⟩)), h.nd, fun b hb => Nat.lt_of_lt_of_le (h.lt b hb) hf.size⟩
theorem OWN.same (h : OWN w B l) (hz : w.heap.size ≤ w'.heap.size) (he : ∀ b ∈ eblk l, w'.heap[b]? = w.heap[b]?) : OWN w' B l :=
 ⟨fun x hx => by
  have h1 := h.ev x hx
  refine ⟨h1.1, ?_⟩
  rcases h1.2 with h2 | ⟨g, cap, cur, e1, e2, e3, e4⟩
  ·exact Or.inl h2
  ·exact Or.inr ⟨g, cap, cur, e1, e2, by rw [he g (mem_eblk.2 ⟨x, hx, by rw [e1]; rfl⟩)]; exact e3, e4⟩, h.nd, fun b hb => Nat.lt_of_lt_of_le (h.lt b hb) hz⟩
/-- The first list of events has changed. -/
theorem OWN.replace (h : OWN w B (x :: l)) (hf : Fr F w w') (hn : ∀ b ∈ F, b ∉ B ∧ b ∉ eblk l) (hy : EvR w' y.2 y.1) (hb : ∀ b, y.2.ownBlock = some b → x.2.ownBlock = some b ∨ w.heap.size ≤ b) : OWN w' B (y :: l) := by
 have ht := h.tail.fr hf (fun b hb => (hn b hb).2)
 refine ⟨fun z hz => ?_, ?_, ht.lt⟩
 ·rcases List.mem_cons.1 hz with rfl | hz
  ·exact hy
  ·exact ht.ev z hz
 ·have h1 := h.nd
  rw [eblk_cons] at h1 ⊢
  have ht2 := h.tail.nd
  cases hyb : y.2.ownBlock with
  | none => simpa using ht2
  | some b =>
   have hnew : b ∉ B ∧ b ∉ eblk l := by
    rcases hb b hyb with hx | hx
    ·rw [hx] at h1
     simp only [Option.toList_some] at h1
     have h2 := (List.perm_middle (a := b) (l₁ := B) (l₂ := eblk l)).nodup_iff.1 (by simpa using h1)
     have := List.nodup_cons.1 h2
     exact ⟨fun hm => this.1 (List.mem_append_left _ hm), fun hm => this.1 (List.mem_append_right _ hm)⟩
    ·exact ⟨fun hm => absurd (h.lt b hm) (Nat.not_lt.2 hx), fun hm => absurd (h.tail.elt hm) (Nat.not_lt.2 hx)⟩
   refine (List.perm_middle (a := b) (l₁ := B) (l₂ := eblk l)).nodup_iff.2 (List.nodup_cons.2 ⟨?_, ht2⟩)
   intro hm
   rcases List.mem_append.1 hm with hm | hm
   ·exact hnew.1 hm
   ·exact hnew.2 hm
/-- A new list of events. -/
theorem OWN.cons (h : OWN w B l) (hy : EvR w y.2 y.1) (hb : ∀ b, y.2.ownBlock = some b → b ∉ B ∧ b ∉ eblk l) : OWN w B (y :: l) := by
 refine ⟨fun z hz => ?_, ?_, h.lt⟩
 ·rcases List.mem_cons.1 hz with rfl | hz
  ·exact hy
  ·exact h.ev z hz
 ·rw [eblk_cons]
  cases hyb : y.2.ownBlock with
  | none => simpa using h.nd
  | some b =>
   refine (List.perm_middle (a := b) (l₁ := B) (l₂ := eblk l)).nodup_iff.2 (List.nodup_cons.2 ⟨?_, h.nd⟩)
   intro hm
   rcases List.mem_append.1 hm with hm | hm
   ·exact (hb b hyb).1 hm
   ·exact (hb b hyb).2 hm
/-- One of the blocks has moved. -/
theorem OWN.move {v v' : Value} (h : OWN w (v.ownBlock.toList ++ B) l) (hb : ∀ b, v'.ownBlock = some b → v.ownBlock = some b ∨ w.heap.size ≤ b) (hlt : ∀ b, v'.ownBlock = some b → b < w'.heap.size) (hF : Fr F w w') (hn : ∀ b ∈ F, b ∉ eblk l) : OWN w' (v'.ownBlock.toList ++ B) l := by
 have h0 : OWN w B l := ⟨h.ev, h.nd.sublist (List.Sublist.append (List.sublist_append_right _ _) (List.Sublist.refl _)), fun b hb => h.lt b (List.mem_append_right _ hb)⟩
 have h1 := h0.fr hF hn
 refine ⟨h1.ev, ?_, fun b hb => ?_⟩
 ·cases hv : v'.ownBlock with
  | none => simpa using h0.nd
  | some b =>
   simp only [Option.toList_some, List.cons_append, List.nil_append]
   refine List.nodup_cons.2 ⟨?_, h0.nd⟩
   rcases hb b hv with hx | hx
   ·have h2 := h.nd
    rw [hx] at h2
    simp only [Option.toList_some, List.cons_append, List.nil_append] at h2
    exact (List.nodup_cons.1 h2).1
   ·intro hm
    rcases List.mem_append.1 hm with hm | hm
    ·exact absurd (h0.lt b hm) (Nat.not_lt.2 hx)
    ·exact absurd (h0.elt hm) (Nat.not_lt.2 hx)
 ·rcases List.mem_append.1 hb with hm | hm
  ·exact hlt b (by simpa using hm)
  ·exact h1.lt b hm
end
end Go.Proofs.YtbgfannlfagoiaaGreatDoor
