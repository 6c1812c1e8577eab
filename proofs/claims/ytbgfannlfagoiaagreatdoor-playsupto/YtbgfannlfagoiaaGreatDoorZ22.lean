import Derived.Test.YtbgfannlfagoiaaGreatDoorZ13
import Derived.Test.YtbgfannlfagoiaaGreatDoorZ11
import Derived.Test.YtbgfannlfagoiaaGreatDoorZ19
import Derived.Test.YtbgfannlfagoiaaGreatDoorZ21
namespace Go.Proofs.YtbgfannlfagoiaaGreatDoor
open Go.RowKit Go.Lull
set_option linter.unusedVariables false

set_option maxRecDepth 8000 in
set_option maxHeartbeats 1000000 in
theorem delete_ev (w : World) (v : Value) (n j : Nat) (xs : List Value) (hrow : Row w 75 4 v n xs) (hj : j ≤ n) (hn : n ≤ 1073741824) (hone : ∀ u ∈ xs, u.oneCell' = true) :
  Calls Tryz.prog 166 #[v, .int .i64 0, .int .i64 j] w fun e w' => ∃ v', e = .returned v' ∧ Row w' 75 4 v' (n - j) (xs.drop (j * 4)) ∧ Fr v.ownBlock.toList w w' ∧ v'.ownBlock = v.ownBlock := by
 by_cases h0 : j = 0
 ·subst h0
  obtain ⟨a, cap, rfl, hnc⟩ := hrow.form
  have HR := Hid.mk' hrow
  clear hrow hone
  go_enter Tryz.func166, Tryz.ntmps166
  go_wp2
  go_ret
  exact ⟨_, rfl, by simpa using HR.out, Fr.refl _ _, rfl⟩
 ·obtain ⟨g, off, cap, cur, rfl, hg, hnc, hcm, hcs, htake⟩ : ∃ g off cap cur, v = .slice (some ⟨g, off, none⟩) n cap ∧ w.heap[g]? = some (.cells cur 75 (0, 0)) ∧ n ≤ cap ∧ cap ≤ maxLen ∧ off + cap * 4 ≤ cur.size ∧ (cur.toList.drop off).take (n * 4) = xs := by
   rcases hrow.2 with ⟨_, h1⟩ | h1
   ·omega
   ·exact h1
  have hxl := hrow.1
  have hcell := fun k (hk : k < n * 4) => hrow.cell k hk
  have hnl : (xs.drop (j * 4)).length = (n - j) * 4 := by rw [List.length_drop, hxl]; omega
  obtain ⟨m, hm⟩ : ∃ m, n - j = m := ⟨_, rfl⟩
  rw [hm] at hnl ⊢
  obtain ⟨news, hnews⟩ : ∃ news, xs.drop (j * 4) = news := ⟨_, rfl⟩
  rw [hnews] at hnl ⊢
  have hsrc : Hid (∀ (p : Addr) (c : Nat), (p = ⟨g, off + j * 4, none⟩ ∨ m = 0) → Src Tryz.prog 4 39 (.slice (some p) m c) m news w.drew) := by
   intro p c hp
   refine Src.ofSlice _ Tryz.underlying39 p m c news hnl ?_ (fun u hu => hone u (by rw [← hnews] at hu; exact List.mem_of_mem_drop hu))
   intro k u hu
   have hk : k < m * 4 := by rw [← hnl]; exact (List.getElem?_eq_some_iff.1 hu).1
   rcases hp with rfl | hp
   ·rw [Go.WideShapes.add_plain]
    have h1 := hcell (j * 4 + k) (by omega)
    rw [← hnews, List.getElem?_drop] at hu
    rw [show off + j * 4 + k = off + (j * 4 + k) by omega]
    show w.cell? _ = _
    rw [h1, hu]
   ·rw [hp] at hk; omega
  have HG : Hid (w.drew.heap[g]? = some (.cells cur 75 (0, 0))) := hg
  obtain ⟨W1, hW1⟩ : ∃ W1, w.drew.setCells g (off + 0 * 4) news = W1 := ⟨_, rfl⟩
  have hW1' : w.drew.setCells g off news = W1 := by rw [← hW1]; simp
  have hg1 := heap_setCells_same g 75 news off w.drew cur.toList (by simpa using HG.out) (by rw [hnl]; simp; omega)
  rw [hW1'] at hg1
  have hcl : ∀ ty c', (Builtin.clear_ #[39] ty #[.slice (some ⟨g, off + m * 4, none⟩) (n - m) c']).run Tryz.prog W1 = .ok (.tuple #[]) (W1.setCells g (off + m * 4) (Builtin.zeroCells #[Value.int .i64 0, .int .i64 0, .int .u8 0, .int .i64 0] (n - m)).toList) := by
   intro ty c'
   exact run_clear_cells (size := 4) 39 ty (.agg #[Value.int .i64 0, .int .i64 0, .int .u8 0, .int .i64 0]) Tryz.underlying39 (by kernel_rfl) (by simp [Value.cells, Value.oneCell']) rfl g (off + m * 4) (n - m) c' _ hg1 (by simp; omega)
  have hzl : (Builtin.zeroCells #[Value.int .i64 0, .int .i64 0, .int .u8 0, .int .i64 0] (n - m)).toList.length = j * 4 := by
   rw [Array.length_toList, size_zeroCells]
   show (n - m) * 4 = _
   omega
  obtain ⟨zs, hzs⟩ : ∃ zs, (Builtin.zeroCells #[Value.int .i64 0, .int .i64 0, .int .u8 0, .int .i64 0] (n - m)).toList = zs := ⟨_, rfl⟩
  rw [hzs] at hzl
  simp only [hzs] at hcl
  have hfin := row_cut (w := w.drew) (zs := zs) HG.out hcs hcm (by omega) hnl (by rw [hzl]; omega)
  rw [hW1'] at hfin
  have hfr : Fr (Value.slice (some ⟨g, off, none⟩) n cap).ownBlock.toList w (W1.setCells g (off + m * 4) zs) := by
   rw [← hW1]
   exact (((Fr.refl _ w).drew).setCells (Or.inl (by simp [Value.ownBlock])) _ _).setCells (Or.inl (by simp [Value.ownBlock])) _ _
  have HFIN := Hid.mk' hfin
  have HFR := Hid.mk' hfr
  have HW1 := Hid.mk' hW1
  have hcs' : Hid (off + cap * 4 ≤ cur.size) := by unfold Hid; omega
  have hjn : ¬ (0 : Int) = (j : Int) := by omega
  have hjb : ((0 : Int) == (j : Int)) = false := by simp; omega
  have hmi : Hid ((n : Int) - j = m) := by unfold Hid; omega
  clear hcell htake hg hrow hnews hone hxl hW1 hW1' hg1 hfin hfr hzl hzs hcs hnl
  obtain ⟨i0, hi0, hz0, hz1, hz2⟩ := info_parts Tryz.infoEv
  have HI := Hid.mk' hi0
  have HI1 := Hid.mk' hz1
  clear hi0 hz0 hz1 hz2
  go_enter Tryz.func166, Tryz.ntmps166
  by_cases hcj : cap = j
  ·obtain rfl : m = 0 := by omega
   have hnj : n = j := by omega
   subst hcj
   subst hnj
   go_wp2
   go_region_law (refine step_append_in (by rfl) _ _ _ (by rfl) i0 Tryz.underlying39 HI.out HI1.out g off 0 _ (by rfl) cur HG.out hcs'.out 0 news (.slice (some ⟨g, off, none⟩) 0 0) (by rfl) (hsrc.out _ _ (Or.inr (by trivial))) (by omega) ?_; rw [HW1.out])
   all_goals
    have hcl2 := hcl
    simp only [Nat.zero_mul, Nat.add_zero, Nat.sub_zero] at hcl2
    go_wp2_with (simp only [hcl2])
    go_ret
    exact ⟨_, rfl, HFIN.out, HFR.out, rfl⟩
  ·go_wp2
   go_region_law (refine step_append_in (by rfl) _ _ _ (by rfl) i0 Tryz.underlying39 HI.out HI1.out g off 0 cap (by rfl) cur HG.out hcs'.out m news (.slice (some ⟨g, off + j * 4, none⟩) m (cap - j)) (by rfl) (hsrc.out _ _ (Or.inl rfl)) (by omega) ?_; rw [HW1.out])
   all_goals
    have hmc : ¬ cap = m := by omega
    go_wp2_with (simp only [hcl])
    go_ret
    exact ⟨_, rfl, HFIN.out, HFR.out, rfl⟩
end Go.Proofs.YtbgfannlfagoiaaGreatDoor

namespace Go.Proofs.YtbgfannlfagoiaaGreatDoor
open Go.RowKit Go.Lull
set_option linter.unusedVariables false

section
variable {w w1 : World} {eb : Nat} {c : CE}
/-- The events that wait have changed. -/
theorem EG.setBuf {bv' : Value} {l : List Ev} (h : EG w eb c) (hf : Fr c.bv.ownBlock.toList w w1) (hr : Row w1 75 4 bv' l.length (l.flatMap evC)) (hv : ∀ b, bv'.ownBlock = some b → c.bv.ownBlock = some b ∨ w.heap.size ≤ b) (hl : l.length ≤ 60) :
  EG (w1.setCell ⟨eb, 2, none⟩ bv') eb { c with bv := bv', buf := l } ∧ Ext w (c.blocks eb) (w1.setCell ⟨eb, 2, none⟩ bv') (CE.blocks { c with bv := bv', buf := l } eb) := by
 have hnd := h.nd
 obtain ⟨R, hR⟩ : ∃ R, c.qv.ownBlock.toList ++ [eb, c.mg] ++ qsb c.qs = R := ⟨_, rfl⟩
 have hbl : c.blocks eb = c.bv.ownBlock.toList ++ R := by rw [← hR]; simp [CE.blocks, CE.base]
 have hbl2 : CE.blocks { c with bv := bv', buf := l } eb = bv'.ownBlock.toList ++ R := by rw [← hR]; simp [CE.blocks, CE.base]
 rw [hbl] at hnd
 have hRl : ∀ b ∈ R, b < w.heap.size := fun b hb => h.lt b (by rw [hbl]; exact List.mem_append_right _ hb)
 have hkeep : ∀ b ∈ R, w1.heap[b]? = w.heap[b]? := fun b hb => hf.block b (hRl b hb) (fun hm => (List.nodup_append.1 hnd).2.2 b hm b hb rfl)
 have hebR : eb ∈ R := by rw [← hR]; simp
 have hbe : ∀ b, bv'.ownBlock = some b → b ≠ eb := by
  intro b hb e
  subst e
  rcases hv b hb with h1 | h1
  ·exact (List.nodup_append.1 hnd).2.2 b (by simp [h1]) b hebR rfl
  ·have := hRl b hebR; omega
 have hp : R.Perm (eb :: (c.qv.ownBlock.toList ++ [c.mg] ++ qsb c.qs)) := by
  rw [← hR, ← List.cons_append]
  exact List.Perm.append_right _ List.perm_middle
 have hndR : R.Nodup := (List.nodup_append.1 hnd).2.1
 have hne : ∀ b ∈ c.qv.ownBlock.toList ++ [c.mg] ++ qsb c.qs, b ≠ eb := fun b hb e => by
  subst e
  exact (List.nodup_cons.1 (hp.nodup_iff.1 hndR)).1 hb
 have hkeep2 : ∀ b ∈ c.qv.ownBlock.toList ++ [c.mg] ++ qsb c.qs, (w1.setCell ⟨eb, 2, none⟩ bv').heap[b]? = w.heap[b]? := fun b hb => by
  rw [Below.heap_setCell _ _ _ _ (by simpa using hne b hb)]
  exact hkeep b (hp.mem_iff.2 (List.mem_cons_of_mem _ hb))
 have hsz : w.heap.size ≤ (w1.setCell ⟨eb, 2, none⟩ bv').heap.size := by simpa [World.setCell] using hf.size
 refine ⟨⟨?_, ?_, h.m1, h.m8, hr.same (fun b hb => Below.heap_setCell _ _ _ _ (by simpa using hbe b hb)), h.qrow.same (fun b hb => hkeep2 b (by simp [hb])), fun x hx => (h.qy x hx).same hsz (fun b hb => hkeep2 b (List.mem_append_right _ (mem_qsb hx hb))), ?_, h.q10, hl⟩, ⟨?_, ?_⟩⟩
 ·have hb1 : w1.heap[eb]? = some (.cells (eCells eb c) 104 (0, 0)) := by rw [hkeep eb hebR]; exact h.blk
  rw [heap_setCell_same w1 eb 2 _ _ _ hb1]
  rfl
 ·refine ⟨h.marks.1, ?_⟩
  rcases h.marks.2 with h2 | ⟨g, cap, cur, h1, h2, h3, h4⟩
  ·exact Or.inl h2
  ·refine Or.inr ⟨g, cap, cur, h1, h2, ?_, h4⟩
   cases h1
   show (w1.setCell ⟨eb, 2, none⟩ bv').heap[c.mg]? = _
   rw [hkeep2 c.mg (by simp)]; exact h3
 ·rw [hbl2]
  refine nodup_swap (n := w.heap.size) hnd ?_ (fun b hb => (hv b (by simpa using hb)).imp (fun h => by simp [h]) id) hRl
  cases bv'.ownBlock <;> simp
 ·refine (hf.mono (fun b hb => Or.inl (by rw [hbl]; exact List.mem_append_left _ hb))).setCell (Or.inl (by rw [hbl]; exact List.mem_append_right _ hebR)) _
 ·intro b hb
  rw [hbl2] at hb
  rw [hbl]
  rcases List.mem_append.1 hb with hb | hb
  ·exact (hv b (by simpa using hb)).imp (fun h => List.mem_append_left _ (by simp [h])) id
  ·exact Or.inl (List.mem_append_right _ hb)
end

theorem evC_one' (l : List Ev) : ∀ u ∈ l.flatMap evC, u.oneCell' = true := by
 intro u hu
 obtain ⟨x, _, hu⟩ := List.mem_flatMap.1 hu
 simp [evC] at hu
 rcases hu with rfl | rfl | rfl | rfl <;> rfl

/-- What a call leaves that changes the Engine and hands nothing back. -/
def EPost (w : World) (eb : Nat) (c : CE) (P : CE → Prop) (e : Ending) (w' : World) : Prop :=
 e = .returned (.tuple #[]) ∧ ∃ c', EG w' eb c' ∧ P c' ∧ Ext w (c.blocks eb) w' (c'.blocks eb)

set_option maxHeartbeats 400000 in
theorem dropFirst_eg (w : World) (eb : Nat) (c : CE) (h : EG w eb c) (e0 : Ev) (r : List Ev) (hb : c.buf = e0 :: r) :
  Calls Tryz.prog 162 #[.pointer (some ⟨eb, 2, none⟩)] w (EPost w eb c (fun c' => ∃ bv', c' = { c with bv := bv', buf := r })) := by
 have e2 := cell_of_row w eb 2 _ _ _ h.blk
 obtain ⟨a, cap, hv, _⟩ := h.buf.form
 simp [eCells, hv] at e2
 have hb60 := h.b60
 have hdel : Hid (∀ W, W = w → Calls Tryz.prog 166 #[.slice a c.buf.length cap, .int .i64 0, .int .i64 1] W fun e w1 => ∃ bv', e = .returned bv' ∧ w1.cell? ⟨eb, 2, none⟩ = some (.slice a c.buf.length cap) ∧ w1.frozen? ⟨eb, 2, none⟩ = false ∧ Hid (EPost w eb c (fun c' => ∃ bv', c' = { c with bv := bv', buf := r }) (.returned (.tuple #[])) (w1.setCell ⟨eb, 2, none⟩ bv')) ∧ ∃ x y z, bv' = .slice x y z) := by
  rintro W rfl
  refine (delete_ev W (.slice a c.buf.length cap) c.buf.length 1 _ (by rw [← hv]; exact h.buf) (by rw [hb]; simp) (by omega) (evC_one' c.buf)).mono ?_
  rintro e w1 ⟨bv', rfl, h1, h2, h3⟩
  rw [← hv] at h2 h3
  have hebn : eb ∉ c.bv.ownBlock.toList := fun hm => by
   have := h.nd
   unfold CE.blocks CE.base at this
   exact (List.nodup_append.1 (List.nodup_append.1 this).1).2.2 eb hm eb (by simp) rfl
  have hb1 : w1.heap[eb]? = W.heap[eb]? := h2.block eb (lt_of_block h.blk) hebn
  have hr' : Row w1 75 4 bv' r.length (r.flatMap evC) := by
   have : c.buf.length - 1 = r.length := by rw [hb]; simp
   rw [this, hb, List.flatMap_cons, List.drop_left' (show (evC e0).length = 1 * 4 from rfl)] at h1
   exact h1
  obtain ⟨g1, g2⟩ := h.setBuf h2 hr' (fun b hb' => by rw [h3] at hb'; exact Or.inl hb') (by rw [hb] at hb60; simp at hb60; omega)
  obtain ⟨x, y, e, _⟩ := hr'.form
  refine ⟨bv', rfl, by rw [World.cell?_of_block (a := ⟨eb, 2, none⟩) hb1]; exact e2, by rw [World.frozen?_of_block (a := ⟨eb, 2, none⟩) hb1]; exact frozen_of_row _ eb 2 _ _ h.blk, ⟨rfl, _, g1, ⟨bv', rfl⟩, g2⟩, ⟨x, _, y, e⟩⟩
 clear h hb hv
 go_enter Tryz.func162, Tryz.ntmps162
 go_wp2_with (go_at_call 166; refine (hdel.out _ rfl).mono ?_; rintro e w1 ⟨bv', rfl, k1, k2, hP, x, y, z, rfl⟩)
 go_end0
 exact hP.out
end Go.Proofs.YtbgfannlfagoiaaGreatDoor

namespace Go.Proofs.YtbgfannlfagoiaaGreatDoor
open Go.RowKit Go.Lull
set_option linter.unusedVariables false

theorem row_cutAt {w : World} {e : TypeId} {g off cap m i : Nat} {cur : Array Value} {news zs : List Value} (hg : w.heap[g]? = some (.cells cur e (0, 0))) (hcs : off + cap ≤ cur.size) (hcm : cap ≤ maxLen) (hm : m ≤ cap) (hnl : i + news.length = m) (hz : m + zs.length ≤ cap) :
  Row ((w.setCells g (off + i) news).setCells g (off + m) zs) e 1 (.slice (some ⟨g, off, none⟩) m cap) m ((cur.toList.drop off).take i ++ news) := by
 have hlt : off + cap ≤ cur.toList.length := by simpa using hcs
 have h1 := heap_setCells_same g e news (off + i) w cur.toList (by simpa using hg) (by omega)
 have hA : (cur.toList.take (off + i)).length = off + i := by rw [List.length_take]; omega
 have hB : (cur.toList.take (off + i) ++ news).length = off + m := by rw [List.length_append, hA]; omega
 have h2 := heap_setCells_same g e zs (off + m) _ _ h1 (by rw [List.length_append, hB, List.length_drop]; omega)
 rw [List.take_left' hB] at h2
 have hT : (cur.toList.drop off).take i = (cur.toList.take (off + i)).drop off := by rw [List.drop_take]; congr 1; omega
 have hO : (cur.toList.take off).length = off := by rw [List.length_take]; omega
 have hsp : cur.toList.take (off + i) = cur.toList.take off ++ (cur.toList.drop off).take i := List.take_add
 refine ⟨by simp; omega, Or.inr ⟨g, off, cap, _, rfl, h2, hm, hcm, ?_, ?_⟩⟩
 ·simp only [List.size_toArray, List.length_append, List.length_drop, hA]
  omega
 ·show List.take (m * 1) (List.drop off ((cur.toList.take (off + i) ++ news) ++ zs ++ _)) = _
  rw [hsp, List.append_assoc, List.append_assoc, List.append_assoc, List.drop_left' hO, ← List.append_assoc]
  exact List.take_left' (by simp; omega)

theorem Tryz.infoPq : (Tryz.prog.info? 122).map (fun i => (i.zero, i.size, i.bytes)) = some (some (.pointer none), 1, 8) := by kernel_rfl

set_option maxRecDepth 8000 in
set_option maxHeartbeats 1000000 in
/-- slices.Delete of one pointer, at any place. -/
theorem delete_ptr (w : World) (v : Value) (n i : Nat) (xs : List Value) (hrow : Row w 122 1 v n xs) (hi : i < n) (hn : n ≤ 10) (hone : ∀ u ∈ xs, u.oneCell' = true) :
  Calls Tryz.prog 63 #[v, .int .i64 i, .int .i64 ((i : Int) + 1)] w fun e w' => ∃ v', e = .returned v' ∧ Row w' 122 1 v' (n - 1) (xs.take i ++ xs.drop (i + 1)) ∧ Fr v.ownBlock.toList w w' ∧ v'.ownBlock = v.ownBlock := by
 obtain ⟨g, off, cap, cur, rfl, hg, hnc, hcm, hcs, htake⟩ : ∃ g off cap cur, v = .slice (some ⟨g, off, none⟩) n cap ∧ w.heap[g]? = some (.cells cur 122 (0, 0)) ∧ n ≤ cap ∧ cap ≤ maxLen ∧ off + cap * 1 ≤ cur.size ∧ (cur.toList.drop off).take (n * 1) = xs := by
  rcases hrow.2 with ⟨_, h1⟩ | h1
  ·omega
  ·exact h1
 have hxl := hrow.1
 have hcell := fun k (hk : k < n * 1) => hrow.cell k hk
 have hnl : (xs.drop (i + 1)).length = n - (i + 1) := by rw [List.length_drop, hxl]; omega
 obtain ⟨m, hm⟩ : ∃ m, n - 1 = m := ⟨_, rfl⟩
 obtain ⟨q, hq⟩ : ∃ q, n - (i + 1) = q := ⟨_, rfl⟩
 have hti : xs.take i = (cur.toList.drop off).take i := by rw [← htake, List.take_take, Nat.min_eq_left (by omega)]
 rw [hm, hti]
 rw [hq] at hnl
 obtain ⟨news, hnews⟩ : ∃ news, xs.drop (i + 1) = news := ⟨_, rfl⟩
 rw [hnews] at hnl ⊢
 have hsrc : Hid (∀ (p : Addr) (c : Nat), (p = ⟨g, off + (i + 1), none⟩ ∨ q = 0) → Src Tryz.prog 1 100 (.slice (some p) q c) q news w.drew) := by
  intro p c hp
  refine Src.ofSlice _ Tryz.underlying100 p q c news (by rw [hnl]; simp) ?_ (fun u hu => hone u (by rw [← hnews] at hu; exact List.mem_of_mem_drop hu))
  intro k u hu
  have hk : k < q := by rw [← hnl]; exact (List.getElem?_eq_some_iff.1 hu).1
  rcases hp with rfl | hp
  ·rw [Go.WideShapes.add_plain]
   have h1 := hcell (i + 1 + k) (by omega)
   rw [← hnews, List.getElem?_drop] at hu
   rw [show off + (i + 1) + k = off + (i + 1 + k) by omega]
   show w.cell? _ = _
   rw [h1, hu]
  ·omega
 have HG : Hid (w.drew.heap[g]? = some (.cells cur 122 (0, 0))) := hg
 obtain ⟨W1, hW1⟩ : ∃ W1, w.drew.setCells g (off + i * 1) news = W1 := ⟨_, rfl⟩
 have hW1' : w.drew.setCells g (off + i) news = W1 := by rw [← hW1]; simp
 have hg1 := heap_setCells_same g 122 news (off + i) w.drew cur.toList (by simpa using HG.out) (by rw [hnl]; simp; omega)
 rw [hW1'] at hg1
 have hcl : ∀ ty c', (Builtin.clear_ #[100] ty #[.slice (some ⟨g, off + m, none⟩) 1 c']).run Tryz.prog W1 = .ok (.tuple #[]) (W1.setCells g (off + m) [.pointer none]) := by
  intro ty c'
  have hz : (Builtin.zeroCells (Value.pointer none).cells 1).toList = [.pointer none] := by simp [Builtin.zeroCells, Value.cells]
  rw [← hz]
  exact run_clear_cells (size := 1) 100 ty (.pointer none) Tryz.underlying100 (by kernel_rfl) (by simp [Value.cells, Value.oneCell']) rfl g (off + m) 1 c' _ hg1 (by simp [hnl]; omega)
 have hfin := row_cutAt (w := w.drew) (news := news) (zs := [.pointer none]) (off := off) (i := i) (m := m) HG.out (by omega) hcm (by omega) (by omega) (by simp; omega)
 rw [hW1'] at hfin
 have hfr : Fr (Value.slice (some ⟨g, off, none⟩) n cap).ownBlock.toList w (W1.setCells g (off + m) [.pointer none]) := by
  rw [← hW1]
  exact (((Fr.refl _ w).drew).setCells (Or.inl (by simp [Value.ownBlock])) _ _).setCells (Or.inl (by simp [Value.ownBlock])) _ _
 have HFIN := Hid.mk' hfin
 have HFR := Hid.mk' hfr
 have HW1 := Hid.mk' hW1
 have hcs' : Hid (off + cap * 1 ≤ cur.size) := by unfold Hid; omega
 have hqi : Hid (i + q = m ∧ n = m + 1) := by unfold Hid; omega
 obtain ⟨i0, hi0, hz0, hz1, hz2⟩ := info_parts Tryz.infoPq
 have HI := Hid.mk' hi0
 have HI1 := Hid.mk' hz1
 have hne : ((i : Int) == (i : Int) + 1) = false := by simp; omega
 clear hcell htake hg hrow hnews hone hxl hW1 hW1' hg1 hfin hfr hcs hnl hti hi0 hz0 hz1 hz2
 go_enter Tryz.func63, Tryz.ntmps63
 by_cases hcj : cap = i + 1
 ·obtain rfl : q = 0 := by omega
  obtain rfl : n = i + 1 := by omega
  obtain rfl : m = i := by omega
  subst hcj
  have hmm : (m : Int) ≤ (m : Int) + 1 := by omega
  have hmm2 : (0 : Int) ≤ (m : Int) + 1 := by omega
  go_wp2
  go_region_law (refine step_append_in (by rfl) _ _ _ (by rfl) i0 Tryz.underlying100 HI.out HI1.out g off m (m + 1) (by rfl) cur HG.out hcs'.out 0 news (.slice (some ⟨g, off, none⟩) 0 0) (by rfl) (hsrc.out _ _ (Or.inr (by trivial))) (by omega) ?_; rw [HW1.out])
  all_goals
   go_wp2_with (simp only [hcl])
   go_ret
   exact ⟨_, rfl, HFIN.out, HFR.out, rfl⟩
 ·have hm1 : n = m + 1 := hqi.out.2
  have him : i + q = m := hqi.out.1
  obtain rfl : q = m - i := by omega
  have him2 : i ≤ m := by omega
  have hi0 : (0 : Int) ≤ (i : Int) + 1 := by omega
  have hic : i ≤ cap := by omega
  have hic2 : i + 1 ≤ cap := by omega
  have hic3 : (i : Int) ≤ (cap : Int) := by omega
  have hic4 : (i : Int) + 1 ≤ (cap : Int) := by omega
  go_wp2
  go_region_law (refine step_append_in (by rfl) _ _ _ (by rfl) i0 Tryz.underlying100 HI.out HI1.out g off i cap (by rfl) cur HG.out hcs'.out (m - i) news (.slice (some ⟨g, off + (i + 1), none⟩) (m - i) (cap - (i + 1))) (by rfl) (hsrc.out _ _ (Or.inl rfl)) (by omega) ?_; rw [HW1.out])
  all_goals
   have hmc : ¬ cap = m := by omega
   go_wp2_with (simp only [hcl])
   go_ret
   exact ⟨_, rfl, HFIN.out, HFR.out, rfl⟩
end Go.Proofs.YtbgfannlfagoiaaGreatDoor

namespace Go.Proofs.YtbgfannlfagoiaaGreatDoor
open Go.RowKit Go.Lull
set_option linter.unusedVariables false

/-- A deed, as the program holds it. -/
def deedV : Option Deed → Value
 | none => .nilIface
 | some (.rel e) => .iface 191 (.agg #[.int .i64 e.1, .int .i64 e.2.1, .int .u8 e.2.2.1.toNat, .int .i64 e.2.2.2])
 | some (.fin t) => .iface 195 (.agg #[.int .i64 t])

theorem rel_m (W : World) (a b c d : Value) : (method 364 191 (.agg #[a, b, c, d]) "lull/watch.time").run Tryz.prog W = .ok (164, .agg #[a, b, c, d]) W := by kernel_rfl
theorem fin_m (W : World) (a : Value) : (method 364 195 (.agg #[a]) "lull/watch.time").run Tryz.prog W = .ok (173, .agg #[a]) W := by kernel_rfl
theorem rel_n (W : World) (a b c d : Value) : (nilAhead 364 191 (.agg #[a, b, c, d]) "lull/watch.time").run Tryz.prog W = .ok (some false) W := by kernel_rfl
theorem fin_n (W : World) (a : Value) : (nilAhead 364 195 (.agg #[a]) "lull/watch.time").run Tryz.prog W = .ok (some false) W := by kernel_rfl
theorem rel_d (W : World) (a b c d : Value) : (method 364 191 (.agg #[a, b, c, d]) "lull/watch.do").run Tryz.prog W = .ok (163, .agg #[a, b, c, d]) W := by kernel_rfl
theorem fin_d (W : World) (a : Value) : (method 364 195 (.agg #[a]) "lull/watch.do").run Tryz.prog W = .ok (172, .agg #[a]) W := by kernel_rfl
theorem rel_dn (W : World) (a b c d : Value) : (nilAhead 364 191 (.agg #[a, b, c, d]) "lull/watch.do").run Tryz.prog W = .ok (some false) W := by kernel_rfl
theorem fin_dn (W : World) (a : Value) : (nilAhead 364 195 (.agg #[a]) "lull/watch.do").run Tryz.prog W = .ok (some false) W := by kernel_rfl
theorem nil_nil (W : World) : (binOp .eql 158 .nilIface .nilIface).run Tryz.prog W = .ok (.bool true) W := by kernel_rfl
theorem ifc_nil (W : World) (t : TypeId) (v : Value) : (binOp .eql 158 (.iface t v) .nilIface).run Tryz.prog W = .ok (.bool false) W := by kernel_rfl
theorem nil_nil' (W : World) : (binOp .neq 158 .nilIface .nilIface).run Tryz.prog W = .ok (.bool false) W := by kernel_rfl
theorem ifc_nil' (W : World) (t : TypeId) (v : Value) : (binOp .neq 158 (.iface t v) .nilIface).run Tryz.prog W = .ok (.bool true) W := by kernel_rfl

set_option maxHeartbeats 400000 in
theorem relTime (a d : Int) (t : Int) (k : UInt8) (w : World) :
  Calls Tryz.prog 164 #[.agg #[.int .i64 a, .int .i64 t, .int .u8 k.toNat, .int .i64 d]] w fun e w' => e = .returned (.int .i64 t) ∧ ∃ q os, w' = Go.Sort.grow (w.drewN q) os := by
 go_enter Tryz.func164, Tryz.ntmps164
 go_wp2
 go_ret
 exact ⟨rfl, 0, _, alloc_is_grow _ _⟩
set_option maxHeartbeats 400000 in
theorem finTime (t : Int) (w : World) :
  Calls Tryz.prog 173 #[.agg #[.int .i64 t]] w fun e w' => e = .returned (.int .i64 t) ∧ ∃ q os, w' = Go.Sort.grow (w.drewN q) os := by
 go_enter Tryz.func173, Tryz.ntmps173
 go_wp2
 go_ret
 exact ⟨rfl, 0, _, alloc_is_grow _ _⟩
end Go.Proofs.YtbgfannlfagoiaaGreatDoor
