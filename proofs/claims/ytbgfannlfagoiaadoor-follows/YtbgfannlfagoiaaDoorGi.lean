import Derived.Test.YtbgfannlfagoiaaDoorGd
import Derived.Deep.RegionWith
import Derived.Test.YtbgfannlfagoiaaDoorKit
namespace Go.Proofs.YtbgfannlfagoiaaDoor
open Go.RowKit Go.Lull
set_option linter.unusedVariables false

set_option maxHeartbeats 400000 in
theorem number_any (w : World) (qb : Nat) (c : CQ) (hQ : QY w qb c) :
    Calls Tryd.prog 70 #[.pointer (some ⟨qb, 0, none⟩)] w fun e w' => e = .returned (.int .i64 c.num) ∧ w' = w := by
  have q0 := cell_of_row w qb 0 _ _ _ hQ.blk
  simp [qCells] at q0
  clear hQ
  go_enter Tryd.func70, Tryd.ntmps70
  go_wp2
  go_ret
  exact ⟨rfl, rfl⟩
set_option maxHeartbeats 400000 in
theorem qruns_any (w : World) (qb : Nat) (c : CQ) (hQ : QY w qb c) :
    Calls Tryd.prog 48 #[.pointer (some ⟨qb, 0, none⟩)] w fun e w' => e = .returned (.int .i64 c.rs.length) ∧ w' = w := by
  have q3 := cell_of_row w qb 3 _ _ _ hQ.blk
  obtain ⟨a, cap, hv, _⟩ := hQ.runs.form
  simp [qCells, hv] at q3
  clear hQ
  go_enter Tryd.func48, Tryd.ntmps48
  go_wp2
  go_ret
  exact ⟨rfl, rfl⟩
set_option maxHeartbeats 400000 in
theorem qwaiting_any (w : World) (qb : Nat) (c : CQ) (hQ : QY w qb c) :
    Calls Tryd.prog 47 #[.pointer (some ⟨qb, 0, none⟩)] w fun e w' => e = .returned (.int .i64 c.fs.length) ∧ w' = w := by
  have q4 := cell_of_row w qb 4 _ _ _ hQ.blk
  obtain ⟨a, cap, hv, _⟩ := hQ.found.form
  simp [qCells, hv] at q4
  clear hQ
  go_enter Tryd.func47, Tryd.ntmps47
  go_wp2
  go_ret
  exact ⟨rfl, rfl⟩

set_option maxHeartbeats 400000 in
theorem newQuery_any (w : World) (num : Nat) (st : List Stp) (wn : Int) (pg pc : Nat) (hst : ST w pg 0 st) (hpg : pg < w.heap.size) (s1 : 1 ≤ st.length) (s8 : st.length ≤ 8) (hpc : st.length ≤ pc) (alt : altB st) (w0 : 0 ≤ wn) (w1 : wn ≤ 1000) :
    Calls Tryd.prog 63 #[.int .i64 num, .agg #[.slice (some ⟨pg, 0, none⟩) st.length pc, .int .i64 wn]] w fun e w' => ∃ nb, e = .returned (.pointer (some ⟨nb, 0, none⟩)) ∧ w.heap.size ≤ nb ∧ nb < w'.heap.size ∧ Below w.heap.size w w' ∧ QY w' nb ⟨num, st, wn, pg, pc, .slice none 0 0, [], .slice none 0 0, []⟩ := by
  have HS := Hid.mk' hst
  have HA := Hid.mk' alt
  clear hst alt
  go_enter Tryd.func63, Tryd.ntmps63
  go_wp2
  go_ret
  refine ⟨w.heap.size + 1, rfl, by omega, by simp, ((Below.refl _ _).alloc (Nat.le_refl _) _).alloc (by simp) _, ?_⟩
  have hb : Below w.heap.size w ((w.alloc (.cells #[.slice (some ⟨pg, 0, none⟩) st.length pc, .int .i64 wn] 130)).alloc (.cells #[.int .i64 num, .slice (some ⟨pg, 0, none⟩) st.length pc, .int .i64 wn, .slice none 0 0, .slice none 0 0] 143)) := ((Below.refl _ _).alloc (Nat.le_refl _) _).alloc (by simp) _
  refine ⟨heap_alloc_at _ _ _ (by simp), HS.out.same (hb.block pg hpg), ⟨rfl, Or.inl ⟨rfl, rfl⟩⟩, ⟨rfl, Or.inl ⟨rfl, rfl⟩⟩, ⟨by simp [CQ.evl], ?_, ?_⟩, ⟨s1, s8, hpc, HA.out, w0, w1, by simp⟩⟩
  · simp [CQ.base, CQ.evl, eblk, Value.ownBlock]; omega
  · intro b hb'
    simp [CQ.base, Value.ownBlock] at hb'
    rcases hb' with rfl | rfl
    · simp
    · simp; omega
end Go.Proofs.YtbgfannlfagoiaaDoor

namespace Go.Proofs.YtbgfannlfagoiaaDoor
open Go.RowKit Go.Lull
set_option linter.unusedVariables false

set_option maxHeartbeats 400000 in
theorem take_none (w : World) (qb : Nat) (c : CQ) (hQ : QY w qb c) (h0 : c.fs = []) :
    Calls Tryd.prog 68 #[.pointer (some ⟨qb, 0, none⟩)] w fun e w' => e = .returned (.tuple #[.agg #[.int .i64 0, .int .i64 0, .slice none 0 0], .bool false]) ∧ Below w.heap.size w w' := by
  have q4 := cell_of_row w qb 4 _ _ _ hQ.blk
  obtain ⟨a, cap, hv, _⟩ := hQ.found.form
  simp [qCells, hv, h0] at q4
  have hqb := lt_of_block hQ.blk
  clear hQ hv
  go_enter Tryd.func68, Tryd.ntmps68
  go_wp2
  refine bodyPost_ret (v := .tuple #[.agg #[.int .i64 0, .int .i64 0, .slice none 0 0], .bool false]) (by simp [results, Tryd.results68, go_sem]) rfl ⟨rfl, ?_⟩
  exact (Below.refl _ _).alloc (Nat.le_refl _) _

/-- What Take leaves. -/
theorem take_after {w : World} {qb g off cap off' cap' : Nat} {c : CQ} {x : Mt × Value} {fs : List (Mt × Value)} {cur : Array Value} {a b d : Value} (hQ : QY w qb c) (hx : c.fs = x :: fs) (hv : c.vf = .slice (some ⟨g, off, none⟩) c.fs.length cap) (hg : w.heap[g]? = some (.cells cur 60 (0, 0)))
    (hnc : c.fs.length ≤ cap) (hcm : cap ≤ maxLen) (hcs : off + cap * 3 ≤ cur.size) (htake : (cur.toList.drop off).take (c.fs.length * 3) = c.fs.flatMap matC) (hgq : g ≠ qb)
    (ho : (off' = off + 3 ∧ cap' = cap - 1) ∨ (off' = off ∧ cap' = 0 ∧ fs = [])) (o1 o2 : Obj) :
    let W := ((((((w.setCell ⟨g, off, none⟩ a).setCell ⟨g, off + 1, none⟩ b).setCell ⟨g, off + 2, none⟩ d).setCell ⟨qb, 4, none⟩ (.slice (some ⟨g, off', none⟩) fs.length cap')).alloc o1).alloc o2)
    QY W qb { c with vf := .slice (some ⟨g, off', none⟩) fs.length cap', fs := fs } ∧ Fr (c.blocks qb) w W ∧ EvR W x.2 x.1.evs := by
  intro W
  have hlen : c.fs.length = fs.length + 1 := by rw [hx]; rfl
  obtain ⟨W1, hW1⟩ : ∃ W1, w.setCells g off [a, b, d] = W1 := ⟨_, rfl⟩
  have hW1' : ((w.setCell ⟨g, off, none⟩ a).setCell ⟨g, off + 1, none⟩ b).setCell ⟨g, off + 2, none⟩ d = W1 := hW1
  obtain ⟨W2, hW2⟩ : ∃ W2, W1.setCell ⟨qb, 4, none⟩ (.slice (some ⟨g, off', none⟩) fs.length cap') = W2 := ⟨_, rfl⟩
  have hWW : W = (W2.alloc o1).alloc o2 := by
    show ((((((w.setCell ⟨g, off, none⟩ a).setCell ⟨g, off + 1, none⟩ b).setCell ⟨g, off + 2, none⟩ d).setCell ⟨qb, 4, none⟩ (.slice (some ⟨g, off', none⟩) fs.length cap')).alloc o1).alloc o2) = _
    rw [hW1', hW2]
  have hgb : g ∈ c.base qb := by simp [CQ.base, hv, Value.ownBlock]
  have hqb : qb ∈ c.base qb := by simp [CQ.base]
  have hg1 := heap_setCells_same g 60 [a, b, d] off w cur.toList (by simpa using hg) (by simp; omega)
  rw [hW1] at hg1
  have hoth : ∀ k, k ≠ g → k ≠ qb → W2.heap[k]? = w.heap[k]? := fun k h1 h2 => by
    rw [← hW2, Below.heap_setCell _ _ _ _ (by simpa using h2), ← hW1, setCells_other g h1]
  have hg2 : W2.heap[g]? = some (.cells (cur.toList.take off ++ [a, b, d] ++ cur.toList.drop (off + [a, b, d].length)).toArray 60 (0, 0)) := by
    rw [← hW2, Below.heap_setCell _ _ _ _ (by simpa using hgq)]; exact hg1
  have hsz : W2.heap.size = w.heap.size := by rw [← hW2, ← hW1]; simp [World.setCell, setCells_size]
  have hnd := (List.nodup_append.1 hQ.own.nd).1
  have hne : ∀ k, k ∈ c.vr.ownBlock.toList ++ [c.pg] → k ≠ g ∧ k ≠ qb := by
    intro k hk
    have hp : (c.base qb).Perm ([g, qb] ++ (c.vr.ownBlock.toList ++ [c.pg])) := by
      have h0 : c.base qb = [g] ++ (c.vr.ownBlock.toList ++ [qb, c.pg]) := by simp [CQ.base, hv, Value.ownBlock]
      rw [h0]
      exact List.Perm.cons g List.perm_middle
    have h2 := (List.nodup_append.1 (hp.nodup_iff.1 hnd)).2.2
    exact ⟨fun e => h2 g (by simp) k hk e.symm, fun e => h2 qb (by simp) k hk e.symm⟩
  have hev : ∀ k, k ∈ eblk c.evl → k ≠ g ∧ k ≠ qb := fun k hk => ⟨fun e => by subst e; exact hQ.own.disj hgb hk, fun e => by subst e; exact hQ.own.disj hqb hk⟩
  have hsub : (c.rs.map rp ++ fs.map fp).Sublist c.evl := by
    unfold CQ.evl
    rw [hx]
    exact List.Sublist.append (List.Sublist.refl _) (List.sublist_cons_self _ _)
  have hvb : (Value.slice (some ⟨g, off', none⟩) fs.length cap').ownBlock = c.vf.ownBlock := by rw [hv]; rfl
  have hQ2 : QY W2 qb { c with vf := .slice (some ⟨g, off', none⟩) fs.length cap', fs := fs } := by
    refine ⟨?_, hQ.stp.same (hoth c.pg (hne c.pg (by simp)).1 (hne c.pg (by simp)).2), hQ.runs.same (fun k hk => hoth k (hne k (by simp [hk])).1 (hne k (by simp [hk])).2), ?_, ?_, ⟨hQ.ok.s1, hQ.ok.s8, hQ.ok.pc, hQ.ok.alt, hQ.ok.w0, hQ.ok.w1, hQ.ok.rok⟩⟩
    · have hb : W1.heap[qb]? = some (.cells (qCells c c.vr c.vf) 143 (0, 0)) := by rw [← hW1, setCells_other g hgq.symm]; exact hQ.blk
      rw [← hW2, heap_setCell_same W1 qb 4 _ _ _ hb]
      rfl
    · refine ⟨matC_len _, Or.inr ⟨g, off', cap', _, rfl, hg2, ?_, ?_, ?_, ?_⟩⟩
      · rcases ho with ⟨_, h⟩ | ⟨_, h, h2⟩
        · rw [h]; show fs.length ≤ cap - 1; omega
        · show fs.length ≤ cap'; rw [h2]; exact Nat.zero_le _
      · rcases ho with ⟨_, h⟩ | ⟨_, h, _⟩ <;> omega
      · simp only [List.size_toArray, List.length_append, List.length_take, List.length_drop, Array.length_toList, List.length_cons, List.length_nil]
        rcases ho with ⟨h1, h2⟩ | ⟨h1, h2, _⟩ <;> omega
      · show List.take (fs.length * 3) (List.drop off' (cur.toList.take off ++ [a, b, d] ++ cur.toList.drop (off + 3))) = fs.flatMap matC
        rcases ho with ⟨h1, _⟩ | ⟨_, _, h2⟩
        · have hA : (cur.toList.take off ++ [a, b, d]).length = off + 3 := by simp; omega
          rw [h1, List.drop_left' hA]
          have h3 := congrArg (List.drop 3) htake
          rw [hx, List.flatMap_cons, List.drop_left' (show (matC x).length = 3 from rfl), List.drop_take, List.drop_drop] at h3
          rw [← h3]
          congr 1
          simp; omega
        · rw [h2]; simp
    · show OWN W2 ((Value.slice (some ⟨g, off', none⟩) fs.length cap').ownBlock.toList ++ (c.vr.ownBlock.toList ++ [qb, c.pg])) (c.rs.map rp ++ fs.map fp)
      rw [hvb]
      exact (hQ.own.same (by rw [hsz]; exact Nat.le_refl _) (fun k hk => hoth k (hev k hk).1 (hev k hk).2)).sub hsub
  have hF2 : Fr (c.blocks qb) w W2 := by
    rw [← hW2, ← hW1]
    exact ((Fr.refl _ w).setCells (Or.inl (List.mem_append_left _ hgb)) _ _).setCell (Or.inl (List.mem_append_left _ hqb)) _
  have hE2 : EvR W2 x.2 x.1.evs := by
    have h1 := hQ.own.same (w' := W2) (by rw [hsz]; exact Nat.le_refl _) (fun k hk => hoth k (hev k hk).1 (hev k hk).2)
    exact h1.ev (fp x) (by simp [CQ.evl, hx])
  rw [hWW]
  refine ⟨hQ2.same (by simp; omega) (fun k hk => ?_), (hF2.alloc _).alloc _, ?_⟩
  · have := hQ2.lt k hk
    rw [Below.heap_alloc _ _ _ (by simp; omega), Below.heap_alloc _ _ _ this]
  · exact (((Fr.refl [] W2).alloc o1).alloc o2).own hE2 (by simp)

set_option maxRecDepth 8000 in
set_option maxHeartbeats 1000000 in
theorem take_some (w : World) (qb : Nat) (c : CQ) (x : Mt × Value) (fs : List (Mt × Value)) (hQ : QY w qb c) (hx : c.fs = x :: fs) (hn : c.fs.length ≤ 1073741824) :
    Calls Tryd.prog 68 #[.pointer (some ⟨qb, 0, none⟩)] w fun e w' => e = .returned (.tuple #[.agg #[.int .i64 x.1.q, .int .i64 x.1.cl, x.2], .bool true]) ∧ ∃ vf', QY w' qb { c with vf := vf', fs := fs } ∧ Fr (c.blocks qb) w w' ∧ EvR w' x.2 x.1.evs ∧ vf'.ownBlock = c.vf.ownBlock := by
  obtain ⟨g, off, cap, cur, hv, hg, hnc, hcm, hcs, htake⟩ : ∃ g off cap cur, c.vf = .slice (some ⟨g, off, none⟩) c.fs.length cap ∧ w.heap[g]? = some (.cells cur 60 (0, 0)) ∧ c.fs.length ≤ cap ∧ cap ≤ maxLen ∧ off + cap * 3 ≤ cur.size ∧ (cur.toList.drop off).take (c.fs.length * 3) = c.fs.flatMap matC := by
    rcases hQ.found.2 with ⟨_, h1⟩ | h1
    · rw [hx] at h1; simp at h1
    · exact h1
  have hlen : c.fs.length = fs.length + 1 := by rw [hx]; rfl
  have hev : EvR w x.2 x.1.evs := hQ.own.ev (fp x) (by simp [CQ.evl, hx])
  obtain ⟨ta, tc, htv⟩ := own_form hev
  obtain ⟨⟨mq, mc, me⟩, xv⟩ := x
  simp only at htv hev
  subst htv
  have hrow := hQ.found
  rw [hv] at hrow
  have m0 := hrow.cell 0 (by omega)
  have m1 := hrow.cell 1 (by omega)
  have m2 := hrow.cell 2 (by omega)
  simp [hx, matC] at m0 m1 m2
  have q4 := cell_of_row w qb 4 _ _ _ hQ.blk
  have f4 := frozen_of_row w qb 4 _ _ hQ.blk
  simp [qCells, hv] at q4
  have z0 := frozen_of_row w g off _ _ hg
  have z1 := frozen_of_row w g (off + 1) _ _ hg
  have z2 := frozen_of_row w g (off + 2) _ _ hg
  have hqb := lt_of_block hQ.blk
  have hgl := lt_of_block hg
  have hgq : g ≠ qb := by
    intro e
    rw [e, hQ.blk] at hg
    injection hg with h2
    injection h2 with _ h3
    exact absurd h3 (by decide)
  have HQ := Hid.mk' hQ
  have HG := Hid.mk' hg
  have HEV := Hid.mk' hev
  have HX := Hid.mk' hx
  have HV := Hid.mk' hv
  have HT := Hid.mk' htake
  have HCS := Hid.mk' hcs
  have HL := Hid.mk' hlen
  have hpos : ((c.fs.length : Int) == 0) = false := beq_eq_false_iff_ne.2 (by omega)
  have hpos2 : 0 < c.fs.length := by omega
  clear hQ hg hev hx hv htake hcs hrow hlen
  go_enter Tryd.func68, Tryd.ntmps68
  by_cases hc1 : cap = 1
  · have hfn : c.fs.length = 1 := by omega
    have hf0 : fs = [] := List.eq_nil_of_length_eq_zero (by have := HL.out; omega)
    go_wp2
    refine bodyPost_ret (v := .tuple #[.agg #[.int .i64 mq, .int .i64 mc, .slice ta me.length tc], .bool true]) (by simp [results, Tryd.results68, go_sem]) rfl ⟨rfl, ?_⟩
    have h1 := take_after (off' := off) (cap' := 0) (a := .int .i64 0) (b := .int .i64 0) (d := .slice none 0 0) HQ.out HX.out HV.out HG.out hnc hcm HCS.out HT.out hgq (Or.inr ⟨rfl, rfl, hf0⟩) (.cells #[.int .i64 mq, .int .i64 mc, .slice ta me.length tc] 60) (.cells #[.int .i64 mq, .int .i64 mc, .slice ta me.length tc] 60)
    rw [hf0] at h1 ⊢
    exact ⟨_, h1.1, h1.2.1, h1.2.2, by rw [HV.out]; rfl⟩
  · have hfl : c.fs.length - 1 = fs.length := by have := HL.out; omega
    go_wp2
    refine bodyPost_ret (v := .tuple #[.agg #[.int .i64 mq, .int .i64 mc, .slice ta me.length tc], .bool true]) (by simp [results, Tryd.results68, go_sem]) rfl ⟨rfl, ?_⟩
    have h1 := take_after (off' := off + 3) (cap' := cap - 1) (a := .int .i64 0) (b := .int .i64 0) (d := .slice none 0 0) HQ.out HX.out HV.out HG.out hnc hcm HCS.out HT.out hgq (Or.inl ⟨rfl, rfl⟩) (.cells #[.int .i64 mq, .int .i64 mc, .slice ta me.length tc] 60) (.cells #[.int .i64 mq, .int .i64 mc, .slice ta me.length tc] 60)
    exact ⟨_, h1.1, h1.2.1, h1.2.2, by rw [HV.out]; rfl⟩
end Go.Proofs.YtbgfannlfagoiaaDoor

namespace Go.Proofs.YtbgfannlfagoiaaDoor
open Go.RowKit Go.Lull
set_option linter.unusedVariables false

set_option maxHeartbeats 400000 in
theorem min_any (mb c : Nat) (ms : List Int) (w : World) (hn : 0 < ms.length) (hn8 : ms.length ≤ 8) (hc : ms.length ≤ c) (hm : ∀ i : Nat, (h : i < ms.length) → w.cell? ⟨mb, i, none⟩ = some (.int .i64 ms[i])) :
    Calls Tryd.prog 51 #[.slice (some ⟨mb, 0, none⟩) ms.length c] w fun e w' => e = .returned (.int .i64 (markB ms)) ∧ w' = w := by
  have hm0 := hm 0 hn
  have HM := Hid.mk' hm
  clear hm
  have h1 : Hid (markB (ms.take 1) = ms[0]) := by
    unfold Hid
    cases ms with
    | nil => cases hn
    | cons m r => rfl
  have hn1 : ¬ ms.length < 1 := by omega
  have hn2 : ¬ (ms.length : Int) < 1 := by omega
  go_enter Tryd.func51, Tryd.ntmps51
  go_wp2
  go_loop [3, 4] (fun m i => ∃ (k : Nat) (z : Int), 1 ≤ k ∧ k ≤ ms.length ∧ m = .int .i64 z ∧ Hid (z = markB (ms.take k)) ∧ i = .int .i64 k) (fun _ i => ms.length - (intOf i).toNat)
  case atStart => exact ⟨1, ms[0], Nat.le_refl _, hn, rfl, h1.out.symm, rfl⟩
  case round =>
    obtain ⟨k, z, hk1, hk, rfl, hz, rfl⟩ := hrel
    by_cases hlt : k < ms.length
    · have hmk := HM.out k hlt
      have hs : Hid (markB (ms.take (k + 1)) = lessI z ms[k]) := by
        unfold Hid
        rw [List.take_succ_eq_append_getElem hlt, markB_snoc _ _ (by intro e; have := congrArg List.length e; rw [List.length_take] at this; simp only [List.length_nil] at this; omega), hz.out]
      by_cases hless : ms[k] < z
      · have hs2 : Hid (ms[k] = markB (ms.take (k + 1))) := by unfold Hid; rw [hs.out, lessI, if_pos hless]
        have hnle : ¬ z ≤ ms[k] := by omega
        clear hs hz
        go_wp2
        go_round
        case rel => exact ⟨k + 1, ms[k], by omega, by omega, rfl, hs2, by go_num⟩
        case measure => simp [intOf]; omega
      · have hs2 : Hid (z = markB (ms.take (k + 1))) := by unfold Hid; rw [hs.out, lessI, if_neg hless]
        have hle : z ≤ ms[k] := by omega
        clear hs hz
        go_wp2
        go_round
        case rel => exact ⟨k + 1, z, by omega, by omega, rfl, hs2, by go_num⟩
        case measure => simp [intOf]; omega
    · have hz2 : Hid (z = markB ms) := by unfold Hid; rw [hz.out, List.take_of_length_le (by omega)]
      clear hz
      go_wp2
      go_ret
      exact ⟨ret_i hz2.out, rfl⟩

set_option maxHeartbeats 400000 in
theorem watermark_any (eb mb c : Nat) (ms : List Int) (w : World) (hs : w.cell? ⟨eb, 0, none⟩ = some (.pointer (some ⟨eb, 0, none⟩))) (h1 : w.cell? ⟨eb, 1, none⟩ = some (.slice (some ⟨mb, 0, none⟩) ms.length c)) (hn : 0 < ms.length) (hn8 : ms.length ≤ 8) (hc : ms.length ≤ c) (hm : ∀ i : Nat, (h : i < ms.length) → w.cell? ⟨mb, i, none⟩ = some (.int .i64 ms[i])) :
    Calls Tryd.prog 31 #[.pointer (some ⟨eb, 0, none⟩)] w fun e w' => e = .returned (.int .i64 (markB ms)) ∧ w' = w := by
  have hmade := made_yes eb w hs
  have hmin := min_any mb c ms w hn hn8 hc hm
  clear hm hs
  go_enter Tryd.func31, Tryd.ntmps31
  go_wp2_with (first | (go_at_call 41; refine hmade.mono ?_; rintro e w' ⟨rfl, rfl⟩) | (go_at_call 51; refine hmin.mono ?_; rintro e w' ⟨rfl, rfl⟩))
  go_ret
  exact ⟨rfl, rfl⟩
end Go.Proofs.YtbgfannlfagoiaaDoor

namespace Go.Proofs.YtbgfannlfagoiaaDoor
open Go.RowKit Go.Lull
set_option linter.unusedVariables false

set_option maxHeartbeats 400000 in
theorem find1_any (w : World) (qb nb : Nat) (c : CQ) (n : Int) (hQ : QY w qb c) (hb : w.cell? ⟨nb, 0, none⟩ = some (.int .i64 n)) :
    Calls Tryd.prog 72 #[.pointer (some ⟨qb, 0, none⟩), .pointer (some ⟨nb, 0, none⟩)] w fun e w' => e = .returned (.bool ((c.num : Int) == n)) ∧ ∃ k, w' = w.drewN k := by
  have hnum := Hid.mk' (fun k => number_any (w.drewN k) qb c (hQ.same (Nat.le_refl _) (fun _ _ => rfl)))
  clear hQ
  go_enter Tryd.func72, Tryd.ntmps72
  go_wp2
  go_quiet (first | (go_at_call 70; exact Calls.quiet_of_same (hnum.out _)))
  go_wp2
  go_ret
  exact ⟨rfl, nq, rfl⟩

def idxQ (n : Int) : List Nat → Nat → Int
  | [], _ => -1
  | x :: r, i => if ((x : Int) == n) = true then (i : Int) else idxQ n r (i + 1)

theorem idxQ_hit {n : Int} {x : Nat} {r : List Nat} {i : Nat} (h : ((x : Int) == n) = true) : idxQ n (x :: r) i = i := by simp only [idxQ, h, if_true]
theorem idxQ_miss {n : Int} {x : Nat} {r : List Nat} {i : Nat} (h : ((x : Int) == n) = false) : idxQ n (x :: r) i = idxQ n r (i + 1) := by simp [idxQ, h]

def ptrV (x : Nat × CQ) : Value := .pointer (some ⟨x.1, 0, none⟩)
theorem ptr_cell {w : World} {T g off cap : Nat} {qs : List (Nat × CQ)} (h : Row w T 1 (.slice (some ⟨g, off, none⟩) qs.length cap) qs.length (qs.map ptrV)) (k : Nat) (hk : k < qs.length) : w.cell? ⟨g, off + k, none⟩ = some (ptrV qs[k]) := by
  rw [h.cell k (by omega), List.getElem?_map]
  simp [hk]

set_option maxHeartbeats 1000000 in
theorem indexFunc_any (w : World) (v : Value) (nb : Nat) (qs : List (Nat × CQ)) (n : Int) (hq : ∀ x ∈ qs, QY w x.1 x.2) (hrow : Row w 98 1 v qs.length (qs.map ptrV)) (hn : qs.length ≤ 1000) (hb : w.cell? ⟨nb, 0, none⟩ = some (.int .i64 n)) :
    Calls Tryd.prog 71 #[v, .func (.func 72) #[] #[.pointer (some ⟨nb, 0, none⟩)]] w fun e w' => e = .returned (.int .i64 (idxQ n (qs.map (·.2.num)) 0)) ∧ ∃ k, w' = w.drewN k := by
  obtain ⟨va, vcap, rfl, hvc⟩ := hrow.form
  obtain ⟨R, hR⟩ : ∃ R, idxQ n (qs.map (·.2.num)) 0 = R := ⟨_, rfl⟩
  rw [hR]
  have h0 : Hid (R = idxQ n ((qs.map (·.2.num)).drop 0) 0) := hR.symm
  have HQ := Hid.mk' hq
  have HR := Hid.mk' hrow
  clear hq hrow hR
  go_enter Tryd.func71, Tryd.ntmps71
  go_wp2
  go_loopw [8] (fun i wr => ∃ (k q : Nat), i = .int .i64 k ∧ k ≤ qs.length ∧ Hid (R = idxQ n ((qs.map (·.2.num)).drop k) k) ∧ wr = w.drewN q) (fun i _ => qs.length - (intOf i).toNat)
  case atStart => exact ⟨0, 0, rfl, Nat.zero_le _, h0, rfl⟩
  case round =>
    obtain ⟨k, q, rfl, hk, hS, rfl⟩ := hrel
    by_cases hlt : k < qs.length
    · obtain ⟨g, off, hva⟩ : ∃ g off, va = some ⟨g, off, none⟩ := by
        rcases HR.out.2 with ⟨e, h0⟩ | ⟨g, off, cap, cur, e, _⟩
        · omega
        · cases e; exact ⟨g, off, rfl⟩
      subst hva
      have hc : (w.drewN q).cell? ⟨g, off + k, none⟩ = some (.pointer (some ⟨qs[k].1, 0, none⟩)) := ptr_cell HR.out k hlt
      have hdrop : (qs.map (·.2.num)).drop k = qs[k].2.num :: (qs.map (·.2.num)).drop (k + 1) := by
        rw [List.drop_eq_getElem_cons (by simpa using hlt)]; simp
      rw [hdrop] at hS
      have hcall := Hid.mk' (find1_any (w.drewN q) qs[k].1 nb qs[k].2 n ((HQ.out qs[k] (List.getElem_mem hlt)).same (Nat.le_refl _) (fun _ _ => rfl)) hb)
      cases hh : ((qs[k].2.num : Int) == n) with
      | true =>
        rw [hh] at hcall
        have hS2 : Hid (R = k) := by unfold Hid; rw [hS.out, idxQ_hit hh]
        clear hS hh
        go_wp2_with (go_at_call 72; refine hcall.out.mono ?_; rintro e w2 ⟨rfl, q2, rfl⟩)
        go_ret
        exact ⟨ret_i hS2.out.symm, q + q2, by first | rfl | rw [World.drewN_drewN]⟩
      | false =>
        rw [hh] at hcall
        have hS2 : Hid (R = idxQ n ((qs.map (·.2.num)).drop (k + 1)) (k + 1)) := by unfold Hid; rw [hS.out, idxQ_miss hh]
        clear hS hh
        go_wp2_with (go_at_call 72; refine hcall.out.mono ?_; rintro e w2 ⟨rfl, q2, rfl⟩)
        go_roundw
        case rel => exact ⟨k + 1, q + q2, by go_num, by omega, hS2, by first | rfl | rw [World.drewN_drewN]⟩
        case measure => simp [intOf]; omega
    · have hS2 : Hid (R = -1) := by
        unfold Hid
        rw [hS.out, List.drop_of_length_le (by simp; omega)]
        rfl
      clear hS
      go_wp2
      go_ret
      exact ⟨ret_i hS2.out.symm, q, rfl⟩
end Go.Proofs.YtbgfannlfagoiaaDoor

namespace Go.Proofs.YtbgfannlfagoiaaDoor
open Go.RowKit Go.Lull
set_option linter.unusedVariables false

/-- An Engine as it lies in memory. -/
structure CE where
  marks : List Int
  mg : Nat
  mc : Nat
  bv : Value
  buf : List Ev
  qv : Value
  qs : List (Nat × CQ)
  next : Nat
  tq : Nat
  tr : Nat
def CE.abs (c : CE) : En := ⟨c.marks, c.buf, c.qs.map (·.2.abs), c.next, c.tq, c.tr⟩
def eCells (eb : Nat) (c : CE) : Array Value := #[.pointer (some ⟨eb, 0, none⟩), .slice (some ⟨c.mg, 0, none⟩) c.marks.length c.mc, c.bv, c.qv, .int .i64 c.next, .int .i64 c.tq, .int .i64 c.tr]
def qsb (qs : List (Nat × CQ)) : List Nat := qs.flatMap (fun x => x.2.blocks x.1)
def CE.base (c : CE) (eb : Nat) : List Nat := c.bv.ownBlock.toList ++ (c.qv.ownBlock.toList ++ [eb, c.mg])
def CE.blocks (c : CE) (eb : Nat) : List Nat := c.base eb ++ qsb c.qs
structure EG (w : World) (eb : Nat) (c : CE) : Prop where
  blk : w.heap[eb]? = some (.cells (eCells eb c) 43 (0, 0))
  marks : w.ownsRow 0 3 1 (.slice (some ⟨c.mg, 0, none⟩) c.marks.length c.mc) c.marks.length (c.marks.map (fun m => Value.int .i64 m))
  m1 : 0 < c.marks.length
  m8 : c.marks.length ≤ 8
  buf : Row w 56 4 c.bv c.buf.length (c.buf.flatMap evC)
  qrow : Row w 98 1 c.qv c.qs.length (c.qs.map ptrV)
  qy : ∀ x ∈ c.qs, QY w x.1 x.2
  nd : (c.blocks eb).Nodup
  q10 : c.qs.length ≤ 10
  b60 : c.buf.length ≤ 60

section
variable {w w' : World} {eb : Nat} {c : CE}
theorem EG.lt (h : EG w eb c) : ∀ b ∈ c.blocks eb, b < w.heap.size := by
  intro b hb
  rcases List.mem_append.1 hb with hb | hb
  · simp only [CE.base, List.mem_append, Option.mem_toList, List.mem_cons, List.not_mem_nil, or_false] at hb
    rcases hb with hb | hb | rfl | rfl
    · exact h.buf.lt b hb
    · exact h.qrow.lt b hb
    · exact lt_of_block h.blk
    · exact own_lt h.marks _ rfl
  · obtain ⟨x, hx, hb⟩ := List.mem_flatMap.1 hb
    exact (h.qy x hx).lt b hb
theorem mem_qsb {qs : List (Nat × CQ)} {x : Nat × CQ} (hx : x ∈ qs) {b : Nat} (hb : b ∈ x.2.blocks x.1) : b ∈ qsb qs := List.mem_flatMap.2 ⟨x, hx, hb⟩
theorem EG.same (h : EG w eb c) (hz : w.heap.size ≤ w'.heap.size) (he : ∀ b ∈ c.blocks eb, w'.heap[b]? = w.heap[b]?) : EG w' eb c := by
  have hb : ∀ b ∈ c.base eb, w'.heap[b]? = w.heap[b]? := fun b hb => he b (List.mem_append_left _ hb)
  refine ⟨by rw [hb eb (by simp [CE.base])]; exact h.blk, ?_, h.m1, h.m8, h.buf.same (fun k hk => hb k (by simp [CE.base, hk])), h.qrow.same (fun k hk => hb k (by simp [CE.base, hk])), fun x hx => (h.qy x hx).same hz (fun b hb' => he b (List.mem_append_right _ (mem_qsb hx hb'))), h.nd, h.q10, h.b60⟩
  refine ⟨h.marks.1, ?_⟩
  rcases h.marks.2 with h2 | ⟨g, cap, cur, h1, h2, h3, h4⟩
  · exact Or.inl h2
  · refine Or.inr ⟨g, cap, cur, h1, h2, ?_, h4⟩
    cases h1
    rw [hb c.mg (by simp [CE.base])]; exact h3
theorem EG.fr {F : List Nat} (h : EG w eb c) (hf : Fr F w w') (hn : ∀ b ∈ F, b ∉ c.blocks eb) : EG w' eb c :=
  h.same hf.size (fun b hb => hf.block b (h.lt b hb) (fun hF => hn b hF hb))
theorem EG.below (h : EG w eb c) (hb : Below w.heap.size w w') : EG w' eb c := h.fr (Fr.of_below [] hb) (by simp)
theorem EG.drewN (h : EG w eb c) (q : Nat) : EG (w.drewN q) eb c := h.same (Nat.le_refl _) (fun _ _ => rfl)
theorem EG.self (h : EG w eb c) : w.cell? ⟨eb, 0, none⟩ = some (.pointer (some ⟨eb, 0, none⟩)) := by
  rw [cell_of_row w eb 0 _ _ _ h.blk]; rfl
theorem EG.mark (h : EG w eb c) : ∀ i : Nat, (hi : i < c.marks.length) → w.cell? ⟨c.mg, i, none⟩ = some (.int .i64 c.marks[i]) := by
  intro i hi
  rw [h.marks.cellAt i (by omega), List.getElem?_map]
  simp [hi]
theorem EG.mcap (h : EG w eb c) : c.marks.length ≤ c.mc := by
  rcases h.marks.2 with ⟨h, _⟩ | ⟨g, cap, cur, h1, _, _, h4, _⟩
  · cases h
  · cases h1; exact h4
end

theorem wm_eg (w : World) (eb : Nat) (c : CE) (h : EG w eb c) :
    Calls Tryd.prog 31 #[.pointer (some ⟨eb, 0, none⟩)] w fun e w' => e = .returned (.int .i64 (markB c.marks)) ∧ w' = w :=
  watermark_any eb c.mg c.mc c.marks w h.self (by rw [cell_of_row w eb 1 _ _ _ h.blk]; rfl) h.m1 h.m8 h.mcap h.mark

set_option maxHeartbeats 400000 in
theorem find_eg (w : World) (eb : Nat) (c : CE) (n : Int) (h : EG w eb c) :
    Calls Tryd.prog 52 #[.pointer (some ⟨eb, 0, none⟩), .int .i64 n] w fun e w' => e = .returned (.int .i64 (idxQ n (c.qs.map (·.2.num)) 0)) ∧ Below w.heap.size w w' := by
  have e3 := cell_of_row w eb 3 _ _ _ h.blk
  obtain ⟨a, cap, hv, _⟩ := h.qrow.form
  simp [eCells, hv] at e3
  have hb : Below w.heap.size w (w.alloc (.cells #[.int .i64 n] 3)) := (Below.refl _ _).alloc (Nat.le_refl _) _
  have h1 := h.below hb
  have hix := Hid.mk' (indexFunc_any (w.alloc (.cells #[.int .i64 n] 3)) _ w.heap.size c.qs n h1.qy h1.qrow (by have := h.q10; omega) (by rw [cell_of_row _ _ 0 _ _ _ (heap_alloc_new _ _)]; rfl))
  rw [hv] at hix
  have HB := Hid.mk' hb
  have hebl := lt_of_block h.blk
  clear h h1 hb hv
  go_enter Tryd.func52, Tryd.ntmps52
  go_wp2_with (go_at_call 71; refine hix.out.mono ?_; rintro e w' ⟨rfl, k, rfl⟩)
  go_ret
  exact ⟨rfl, below_drewN HB.out k⟩

/-- The place of a number. -/
def posQ (n : Int) : List (Nat × CQ) → Option Nat
  | [] => none
  | x :: r => if ((x.2.num : Int) == n) = true then some 0 else (posQ n r).map (· + 1)
theorem idxQ_pos (n : Int) : ∀ (qs : List (Nat × CQ)) (i : Nat), idxQ n (qs.map (·.2.num)) i = match posQ n qs with | none => -1 | some k => ((i + k : Nat) : Int)
  | [], i => rfl
  | x :: r, i => by
    rw [List.map_cons]
    cases hx : ((x.2.num : Int) == n) with
    | true => rw [idxQ_hit hx]; simp [posQ, hx]
    | false =>
      rw [idxQ_miss hx, idxQ_pos n r (i + 1)]
      simp only [posQ, hx, Bool.false_eq_true, if_false]
      cases posQ n r with
      | none => rfl
      | some k => show ((i + 1 + k : Nat) : Int) = ((i + (k + 1) : Nat) : Int); congr 1; omega
theorem posQ_lt {n : Int} : ∀ {qs : List (Nat × CQ)} {k : Nat}, posQ n qs = some k → k < qs.length
  | [], k, h => by cases h
  | x :: r, k, h => by
    unfold posQ at h
    split at h
    · cases h; simp
    · cases hr : posQ n r with
      | none => rw [hr] at h; cases h
      | some j => rw [hr] at h; cases h; have := posQ_lt hr; simp; omega
theorem find_pos (n : Int) : ∀ (qs : List (Nat × CQ)), (qs.map (·.2.abs)).find? (fun q => (q.num : Int) == n) = match posQ n qs with | none => none | some k => (qs[k]?).map (·.2.abs)
  | [] => rfl
  | x :: r => by
    rw [List.map_cons]
    cases hx : ((x.2.num : Int) == n) with
    | true =>
      rw [List.find?_cons_of_pos (by exact hx)]; simp [posQ, hx]
    | false =>
      rw [List.find?_cons_of_neg (by simpa [CQ.abs] using hx), find_pos n r]
      simp only [posQ, hx, Bool.false_eq_true, if_false]
      cases posQ n r with
      | none => rfl
      | some k => simp
theorem findE_pos (c : CE) (n : Int) : findE c.abs n = match posQ n c.qs with | none => none | some k => (c.qs[k]?).map (·.2.abs) := find_pos n c.qs

set_option maxHeartbeats 400000 in
theorem query_no (w : World) (eb : Nat) (c : CE) (n : Int) (h : EG w eb c) (hp : posQ n c.qs = none) :
    Calls Tryd.prog 46 #[.pointer (some ⟨eb, 0, none⟩), .int .i64 n] w fun e w' => e = .returned (.pointer none) ∧ Below w.heap.size w w' := by
  have hmade := made_yes eb w h.self
  have hfind := find_eg w eb c n h
  rw [idxQ_pos, hp] at hfind
  clear h hp
  go_enter Tryd.func46, Tryd.ntmps46
  go_wp2_with (first | (go_at_call 41; refine hmade.mono ?_; rintro e w' ⟨rfl, rfl⟩) | (go_at_call 52; refine hfind.mono ?_; rintro e w1 ⟨rfl, hb⟩))
  go_ret
  exact ⟨rfl, hb⟩
set_option maxHeartbeats 400000 in
theorem query_at (w : World) (eb : Nat) (c : CE) (n : Int) (k : Nat) (h : EG w eb c) (hp : posQ n c.qs = some k) (hk' : k < c.qs.length) :
    Calls Tryd.prog 46 #[.pointer (some ⟨eb, 0, none⟩), .int .i64 n] w fun e w' => e = .returned (.pointer (some ⟨c.qs[k].1, 0, none⟩)) ∧ Below w.heap.size w w' := by
  have hmade := made_yes eb w h.self
  have hfind := find_eg w eb c n h
  rw [idxQ_pos, hp] at hfind
  simp only [Nat.zero_add] at hfind
  obtain ⟨a, cap, hv, _⟩ := h.qrow.form
  have HE := Hid.mk' h
  have hq10 := h.q10
  obtain ⟨g, off, hva⟩ : ∃ g off, a = some ⟨g, off, none⟩ := by
    rcases h.qrow.2 with ⟨_, h0⟩ | ⟨g, off, cap, cur, e, _⟩
    · omega
    · rw [hv] at e; cases e; exact ⟨g, off, rfl⟩
  subst hva
  obtain ⟨qb, hqb⟩ : ∃ qb, c.qs[k].1 = qb := ⟨_, rfl⟩
  rw [hqb]
  have hcells : Hid (∀ w1, Below w.heap.size w w1 → w1.cell? ⟨eb, 3, none⟩ = some (.slice (some ⟨g, off, none⟩) c.qs.length cap) ∧ w1.cell? ⟨g, off + k, none⟩ = some (.pointer (some ⟨qb, 0, none⟩))) := by
    intro w1 hb
    have h4 := HE.out.below hb
    have e3 := cell_of_row w1 eb 3 _ _ _ h4.blk
    simp [eCells, hv] at e3
    have hr := h4.qrow
    rw [hv] at hr
    have := ptr_cell hr k hk'
    rw [ptrV, hqb] at this
    exact ⟨e3, this⟩
  have hge2 : (0 : Int) ≤ (k : Int) := by omega
  clear h hp hv HE hqb
  go_enter Tryd.func46, Tryd.ntmps46
  go_wp2_with (first | (go_at_call 41; refine hmade.mono ?_; rintro e w' ⟨rfl, rfl⟩) | (go_at_call 52; refine hfind.mono ?_; rintro e w1 ⟨rfl, hb⟩; obtain ⟨k1, k2⟩ := hcells.out w1 hb))
  go_ret
  exact ⟨rfl, hb⟩

set_option maxHeartbeats 400000 in
theorem runs_eg (w : World) (eb : Nat) (c : CE) (n : Int) (h : EG w eb c) :
    Calls Tryd.prog 24 #[.pointer (some ⟨eb, 0, none⟩), .int .i64 n] w fun e w' => e = .returned (.int .i64 (runsE c.abs n)) ∧ Below w.heap.size w w' := by
  unfold runsE
  rw [findE_pos]
  cases hp : posQ n c.qs with
  | none =>
    have hq := query_no w eb c n h hp
    clear h hp
    go_enter Tryd.func24, Tryd.ntmps24
    go_wp2_with (go_at_call 46; refine hq.mono ?_; rintro e w1 ⟨rfl, hb⟩)
    go_ret
    exact ⟨rfl, hb⟩
  | some k =>
    have hk := posQ_lt hp
    have hq := query_at w eb c n k h hp hk
    have hr := Hid.mk' (fun w1 (hb : Below w.heap.size w w1) => qruns_any w1 _ _ ((h.below hb).qy c.qs[k] (List.getElem_mem hk)))
    simp only [List.getElem?_eq_getElem hk, Option.map_some, CQ.abs, List.length_map]
    clear h hp
    go_enter Tryd.func24, Tryd.ntmps24
    go_wp2_with (first | (go_at_call 46; refine hq.mono ?_; rintro e w1 ⟨rfl, hb⟩) | (go_at_call 48; refine (hr.out _ hb).mono ?_; rintro e w2 ⟨rfl, rfl⟩))
    go_ret
    exact ⟨rfl, hb⟩
set_option maxHeartbeats 400000 in
theorem waiting_eg (w : World) (eb : Nat) (c : CE) (n : Int) (h : EG w eb c) :
    Calls Tryd.prog 23 #[.pointer (some ⟨eb, 0, none⟩), .int .i64 n] w fun e w' => e = .returned (.int .i64 (waitE c.abs n)) ∧ Below w.heap.size w w' := by
  unfold waitE
  rw [findE_pos]
  cases hp : posQ n c.qs with
  | none =>
    have hq := query_no w eb c n h hp
    clear h hp
    go_enter Tryd.func23, Tryd.ntmps23
    go_wp2_with (go_at_call 46; refine hq.mono ?_; rintro e w1 ⟨rfl, hb⟩)
    go_ret
    exact ⟨rfl, hb⟩
  | some k =>
    have hk := posQ_lt hp
    have hq := query_at w eb c n k h hp hk
    have hr := Hid.mk' (fun w1 (hb : Below w.heap.size w w1) => qwaiting_any w1 _ _ ((h.below hb).qy c.qs[k] (List.getElem_mem hk)))
    simp only [List.getElem?_eq_getElem hk, Option.map_some, CQ.abs, List.length_map]
    clear h hp
    go_enter Tryd.func23, Tryd.ntmps23
    go_wp2_with (first | (go_at_call 46; refine hq.mono ?_; rintro e w1 ⟨rfl, hb⟩) | (go_at_call 47; refine (hr.out _ hb).mono ?_; rintro e w2 ⟨rfl, rfl⟩))
    go_ret
    exact ⟨rfl, hb⟩
end Go.Proofs.YtbgfannlfagoiaaDoor
