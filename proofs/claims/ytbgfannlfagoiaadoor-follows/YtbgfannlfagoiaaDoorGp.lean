import Derived.Test.YtbgfannlfagoiaaDoorGo
import Derived.Laws.IdiomCopy
import Derived.Lib.Overlaps
import Derived.Lib.AppendZerosOnto
import Derived.Laws.NewBlocks
import Derived.Test.YtbgfannlfagoiaaDoorPure
namespace Go.Proofs.YtbgfannlfagoiaaDoor
open Go.RowKit Go.Lull
set_option linter.unusedVariables false

/-- copy, of elements of any size: all is read before anything is written. -/
theorem run_copy_sized {P : Program} (w : World) (dT sT ty elem : TypeId) (size b o dLen dCap : Nat) (a : Addr) (sLen sCap : Nat) (cs : List Value) (m : Nat)
    (hu : P.underlying dT = some (.slice elem)) (hs : (P.info? elem).map (·.size) = some size) (hm : Nat.min sLen dLen = m) (hn : cs.length = m * size)
    (hsrc : ∀ j v, cs[j]? = some v → w.cell? (a.add j) = some v) (hc : ∀ j, j < cs.length → (w.cell? ⟨b, o + j, none⟩).isSome = true) (hf : ∀ j, j < cs.length → w.frozen? ⟨b, o + j, none⟩ = false) (h1 : ∀ v ∈ cs, v.oneCell' = true) :
    (Builtin.copy_ #[dT, sT] ty #[.slice (some ⟨b, o, none⟩) dLen dCap, .slice (some a) sLen sCap]).run P w = .ok (goInt m) (w.setCells b o cs) := by
  have hl := run_loadCells_list (P := P) w a cs hsrc
  have hst := run_storeCells_cells (P := P) b o cs 0 w (by simpa using hc) (by simpa using hf) h1
  cases hq : P.info? elem with
  | none => simp [hq] at hs
  | some i =>
    have hi : i.size = size := by simpa [hq] using hs
    simp [Builtin.copy_, run_underlying hu, Builtin.lenOf, Builtin.firstCells, sizeOf, typeInfo, hq, hi, hm, ← hn, hl, hst]

theorem wpList_copy_sized {P : Program} (w : World) {ops : Array Oper} {rest : List Oper} {o : Oper} {a : Act} {Q : Exit → Act → World → Prop} (hgd : o.guard = none) (d s : Operand) (t t' : TypeId)
    (ho : o.op = .call { callee := .builtin .copy, args := #[d, s], argTypes := #[t, t'] }) (v u : Value) (hd : a.eval d = v) (hs : a.eval s = u) {v' : Value} {w' : World}
    (hr : (Builtin.copy_ #[t, t'] o.type #[v, u]).run P w = .ok v' w') (h : wpList P ops Q rest (a.put o.dst v') w') : wpList P ops Q (o :: rest) a w :=
  wpList_plain hgd fun _ hK => by
    unfold Oper.wp execOp
    simp only [ho, resolve, invoke, builtin, Sem.run_bind, Sem.run_pure, Result.andThen_ok, List.map_toArray, List.map_cons, List.map_nil, hd, hs, hr]
    exact hK _ _ h

theorem step_copy_sized {P : Program} {ops : Array Oper} {o : Oper} {a : Act} {w : World} {K : Act → World → Prop} {Q : Exit → Act → World → Prop} {E : Prop}
    (hg : o.guard = none) (d x : Operand) (dT sT : TypeId) (hop : o.op = Op.call { callee := Callee.builtin Builtin.copy, args := #[d, x], argTypes := #[dT, sT] })
    (v u : Value) (hd : a.eval d = v) (hx : a.eval x = u) {v' : Value} {w' : World} (hr : (Builtin.copy_ #[dT, sT] o.type #[v, u]).run P w = .ok v' w') (hK : K (a.put o.dst v') w') :
    if Region.wanted o (yielded ops a.tmps) = true then Oper.wp P o a w K Q else E := by
  have hw : Region.wanted o (yielded ops a.tmps) = true := by simp [Region.wanted, hg]
  rw [if_pos hw]
  unfold Oper.wp
  simp [execOp, hop, resolve, invoke, builtin, hd, hx, hr, Result.andThen]
  exact hK
end Go.Proofs.YtbgfannlfagoiaaDoor

namespace Go.Proofs.YtbgfannlfagoiaaDoor
open Go.RowKit Go.Lull
set_option linter.unusedVariables false

set_option maxRecDepth 8000 in
set_option maxHeartbeats 1000000 in
/-- There is room, and it is not the end: two copies, in place. -/
theorem ins_room (w : World) (g off n cap i vb vc : Nat) (cur : Array Value) (news : List Value) (hn : n ≤ 60) (hi : i < n) (hroom : n < cap) (hcm : cap ≤ maxLen) (hvb : vb ≠ g)
    (hg : w.heap[g]? = some (.cells cur 56 (0, 0))) (hcs : off + cap * 4 ≤ cur.size)
    (hv : w.heap[vb]? = some (.cells news.toArray 56 (0, 0))) (hnl : news.length = 4) (hone : ∀ u ∈ news, u.oneCell' = true) (honc : ∀ u ∈ (cur.toList.drop (off + i * 4)).take ((n - i) * 4), u.oneCell' = true) :
    Calls Tryd.prog 90 #[.slice (some ⟨g, off, none⟩) n cap, .int .i64 i, .slice (some ⟨vb, 0, none⟩) 1 vc] w fun e w' =>
      e = .returned (.slice (some ⟨g, off, none⟩) (n + 1) cap) ∧ w' = (w.drew.setCells g (off + (i + 1) * 4) ((cur.toList.drop (off + i * 4)).take ((n - i) * 4))).setCells g (off + i * 4) news := by
  have hcm2 : cap ≤ 9223372036854775807 := hcm
  go_enter Tryd.func90, Tryd.ntmps90
  have hz2 : ¬ ((i : Int) = (n : Int)) := by omega
  have hw1 : IntKind.i64.wrap ((i : Int) + 1) = (i : Int) + 1 := by rw [IntKind.wrap_i64]; omega
  have htn : ((i : Int) + 1).toNat = i + 1 := by omega
  have hb2 : ¬ (cap = i + 1) := by omega
  have hb4 : ¬ (cap = i) := by omega
  have hb1 : (0 : Int) ≤ (i : Int) + 1 := by omega
  have hin : i ≤ n := by omega
  have hb3 : (i : Int) ≤ (n : Int) + 1 := by omega
  obtain ⟨i0, hi0, hz0, hz1, hzb⟩ := info_parts Tryd.infoEv
  have hsz : (Tryd.prog.info? 56).map (·.size) = some 4 := by rw [hi0]; simp [hz1]
  have hov : ∀ lb cb, (callFunc 97 #[.slice (some ⟨vb, 0, none⟩) 1 vc, .slice (some ⟨g, off + (i + 1) * 4, none⟩) lb cb]).run Tryd.prog w = .ok (.value (.bool false)) w := fun lb cb => by
    rw [run_callFunc_extern Tryd.func97 (by kernel_rfl) (by kernel_rfl) (by kernel_rfl) (e := Extern.SlicesOverlaps.overlaps #[30, 30] #[4]) (by kernel_rfl),
      Lib.run_overlaps_apart w 30 4 56 Tryd.underlying30 4 (fun w => by simp [sizeOf, typeInfo, hi0, hz1]) ⟨vb, 0, none⟩ ⟨g, off + (i + 1) * 4, none⟩ 1 vc lb cb hvb 56 56 4 cur.size (by simp [World.shape?, hv, hnl]) (by simp [World.shape?, hg]) (by omega) (frozen_of_row _ vb 0 _ _ hv) (frozen_of_row _ vb 4 _ _ hv)]
    rfl
  obtain ⟨xd, hxd⟩ : ∃ xd, (cur.toList.drop (off + i * 4)).take ((n - i) * 4) = xd := ⟨_, rfl⟩
  have hxl : xd.length = (n - i) * 4 := by rw [← hxd, List.length_take, List.length_drop]; simp; omega
  have hcp1 : ∀ ty dc sc, (Builtin.copy_ #[30, 30] ty #[.slice (some ⟨g, off + (i + 1) * 4, none⟩) (n - i) dc, .slice (some ⟨g, off + i * 4, none⟩) (n + 1 - i) sc]).run Tryd.prog w.drew = .ok (goInt ((n - i : Nat) : Int)) (w.drew.setCells g (off + (i + 1) * 4) xd) := fun ty dc sc =>
    run_copy_sized w.drew _ _ ty 56 4 g (off + (i + 1) * 4) (n - i) dc ⟨g, off + i * 4, none⟩ (n + 1 - i) sc xd (n - i) Tryd.underlying30 hsz (by simp only [Nat.min_def]; split <;> omega) hxl
      (fun j v hj => by
        rw [Addr.add_lit]
        show w.cell? _ = _
        rw [cell_of_row w g _ _ _ _ hg]
        have hjl : j < (n - i) * 4 := by
          rw [← hxl]; exact (List.getElem?_eq_some_iff.1 hj).1
        rw [← hxd, List.getElem?_take_of_lt hjl, List.getElem?_drop] at hj
        simpa using hj)
      (fun j hj => by show (w.cell? _).isSome = true; rw [cell_of_row w g _ _ _ _ hg]; simp; omega) (fun j hj => frozen_of_row w g _ _ _ hg)
      (fun v hv => honc v (by rw [hxd]; exact hv))
  obtain ⟨W1, hW1⟩ : ∃ W1, w.drew.setCells g (off + (i + 1) * 4) xd = W1 := ⟨_, rfl⟩
  have hg1 : W1.heap[g]? = some (.cells (cur.toList.take (off + (i + 1) * 4) ++ xd ++ cur.toList.drop (off + (i + 1) * 4 + xd.length)).toArray 56 (0, 0)) := by
    rw [← hW1]
    exact heap_setCells_same g _ xd _ w.drew cur.toList (by simpa using (show w.drew.heap[g]? = some (.cells cur 56 (0, 0)) from hg)) (by rw [hxl]; simp; omega)
  have hv1 : W1.heap[vb]? = some (.cells news.toArray 56 (0, 0)) := by
    rw [← hW1, setCells_other g hvb]; exact hv
  have hcp2 : ∀ ty dc, (Builtin.copy_ #[30, 30] ty #[.slice (some ⟨g, off + i * 4, none⟩) (n + 1 - i) dc, .slice (some ⟨vb, 0, none⟩) 1 vc]).run Tryd.prog W1 = .ok (goInt 1) (W1.setCells g (off + i * 4) news) := fun ty dc =>
    run_copy_sized W1 _ _ ty 56 4 g (off + i * 4) (n + 1 - i) dc ⟨vb, 0, none⟩ 1 vc news 1 Tryd.underlying30 hsz (by simp only [Nat.min_def]; split <;> omega) (by omega)
      (fun j v hj => by
        rw [Addr.add_lit, cell_of_row W1 vb _ _ _ _ hv1]
        simpa using hj)
      (fun j hj => by rw [cell_of_row W1 g _ _ _ _ hg1]; simp [hxl]; omega) (fun j hj => frozen_of_row W1 g _ _ _ hg1) hone
  rw [hW1] at hcp1
  have HW1 := Hid.mk' hW1
  clear hW1
  have HG1 := Hid.mk' hg1
  have HV1 := Hid.mk' hv1
  clear hg1 hv1
  go_wp2_with (simp only [hov])
  go_region_law (refine step_copy_sized rfl _ _ 30 30 rfl _ _ (by simp [Act.eval, Act.put]) (by simp [Act.eval, Act.put]) (hcp1 _ _ _) ?_)
  all_goals
    go_wp2_with (at_builtin; refine wpList_copy_sized _ rfl _ _ 30 30 rfl _ _ rfl rfl (hcp2 _ _) ?_)
    go_ret
    refine ⟨rfl, ?_⟩
    rw [← HW1.out, hxd]

end Go.Proofs.YtbgfannlfagoiaaDoor

namespace Go.Proofs.YtbgfannlfagoiaaDoor
open Go.RowKit Go.Lull
set_option linter.unusedVariables false

set_option maxRecDepth 8000 in
set_option maxHeartbeats 1000000 in
/-- There is no room, and it is not the end: a new row. -/
theorem ins_grow (w : World) (g off n i vb vc : Nat) (cur : Array Value) (news : List Value) (hn : n ≤ 60) (hi : i < n)
    (hg : w.heap[g]? = some (.cells cur 56 (0, 0))) (hcs : off + n * 4 ≤ cur.size)
    (hv : w.heap[vb]? = some (.cells news.toArray 56 (0, 0))) (hnl : news.length = 4) (hone : ∀ u ∈ news, u.oneCell' = true) (honc : ∀ u ∈ (cur.toList.drop (off + i * 4)).take ((n - i) * 4), u.oneCell' = true) :
    Calls Tryd.prog 90 #[.slice (some ⟨g, off, none⟩) n n, .int .i64 i, .slice (some ⟨vb, 0, none⟩) 1 vc] w fun e w' =>
      ∃ G ROW, n + 1 ≤ G ∧ G ≤ maxLen ∧ ROW.size = G * 4 ∧ ROW.toList.take (i * 4) = (cur.toList.drop off).take (i * 4) ∧
      e = .returned (.slice (some ⟨w.heap.size, 0, none⟩) (n + 1) G) ∧
      w' = ((w.drew.alloc (.cells ROW 56)).setCells w.heap.size (i * 4) news).drew.setCells w.heap.size ((i + 1) * 4) ((cur.toList.drop (off + i * 4)).take ((n - i) * 4)) := by
  obtain ⟨i0, hi0, hz0, hz1, hzb⟩ := info_parts Tryd.infoEv
  have hsz : (Tryd.prog.info? 56).map (·.size) = some 4 := by rw [hi0]; simp [hz1]
  have hgw : g < w.heap.size := lt_of_block hg
  have hvw : vb < w.heap.size := lt_of_block hv
  obtain ⟨xt, hxt⟩ : ∃ xt, (cur.toList.drop off).take (i * 4) = xt := ⟨_, rfl⟩
  obtain ⟨xd, hxd⟩ : ∃ xd, (cur.toList.drop (off + i * 4)).take ((n - i) * 4) = xd := ⟨_, rfl⟩
  have hxl : xd.length = (n - i) * 4 := by rw [← hxd, List.length_take, List.length_drop]; simp; omega
  have htl : xt.length = i * 4 := by rw [← hxt, List.length_take, List.length_drop]; simp; omega
  have hkk : (n : Int) + 1 - (i : Int) = ((n + 1 - i : Nat) : Int) := by omega
  have hik : i + (n + 1 - i) = n + 1 := by omega
  have hold : (Builtin.firstCells i0.size i (.slice (some ⟨g, off, none⟩) i n)).run Tryd.prog w.drew = .ok xt.toArray w.drew := by
    rw [hz1]
    exact run_firstCells_some w.drew 4 i ⟨g, off, none⟩ i n xt htl (fun j v hj => by
      rw [Addr.add_lit]
      show w.cell? _ = _
      rw [cell_of_row w g _ _ _ _ hg]
      have hjl : j < i * 4 := by rw [← htl]; exact (List.getElem?_eq_some_iff.1 hj).1
      rw [← hxt, List.getElem?_take_of_lt hjl, List.getElem?_drop] at hj
      simpa using hj)
  obtain ⟨z, hz⟩ : ∃ z : Value, z = .agg #[.int .i64 0, .int .i64 0, .int .u8 0, .int .i64 0] := ⟨_, rfl⟩
  have hzc : z.cells.size = 4 := by rw [hz]; rfl
  rw [← hz] at hz0
  have hrz : ∀ ty, (Builtin.append_ #[30, 3] ty #[.slice (some ⟨g, off, none⟩) i n, .int .i64 ((n : Int) + 1 - (i : Int))]).run Tryd.prog w =
      .ok (.slice (some ⟨w.heap.size, 0, none⟩) (n + 1) (grownCap w (n + 1) n 56)) (w.drew.alloc (.cells (xt.toArray ++ Builtin.zeroCells z.cells (n + 1 - i) ++ Builtin.zeroCells z.cells (grownCap w (n + 1) n 56 - (n + 1))) 56)) := fun ty => by
    have h := Lib.run_append_grow_zeros w 30 3 ty 56 i0 _ .i64 .i64 Tryd.underlying30 Tryd.underlying3 hi0 hz0 (some ⟨g, off, none⟩) i n xt hold (n + 1 - i) (by omega) (by omega) (by omega) (by omega) (by rw [hzb]; omega) (by rw [hzb, hik]; exact growslice_fits (by omega) (by omega))
    rw [hik] at h
    rw [hkk]
    exact h
  obtain ⟨G, hG⟩ : ∃ G, grownCap w (n + 1) n 56 = G := ⟨_, rfl⟩
  have hGn : n + 1 ≤ G := by rw [← hG]; exact grownCap_ge w _ _ _
  have hGm : G ≤ maxLen := by rw [← hG]; exact grownCap_le_maxLen w (n + 1) n _ (by unfold maxLen; omega)
  rw [hG] at hrz
  obtain ⟨ROW, hROW⟩ : ∃ ROW : Array Value, xt.toArray ++ Builtin.zeroCells z.cells (n + 1 - i) ++ Builtin.zeroCells z.cells (G - (n + 1)) = ROW := ⟨_, rfl⟩
  rw [hROW] at hrz
  have hRl : ROW.size = G * 4 := by
    rw [← hROW]
    simp [size_zeroCells, hzc, htl]
    omega
  have hRt : ROW.toList.take (i * 4) = xt := by
    rw [← hROW, Array.toList_append, Array.toList_append, List.append_assoc, List.take_left' (by simpa using htl)]
  obtain ⟨W1, hW1⟩ : ∃ W1, w.drew.alloc (.cells ROW 56) = W1 := ⟨_, rfl⟩
  rw [hW1] at hrz
  obtain ⟨N, hN⟩ : ∃ N, w.heap.size = N := ⟨_, rfl⟩
  have hb1 : W1.heap[N]? = some (.cells ROW.toList.toArray 56 (0, 0)) := by
    rw [← hW1, ← hN]; simpa using heap_alloc_new w.drew (.cells ROW 56)
  have hg1 : W1.heap[g]? = some (.cells cur 56 (0, 0)) := by rw [← hW1, Below.heap_alloc w.drew _ _ hgw]; exact hg
  have hv1 : W1.heap[vb]? = some (.cells news.toArray 56 (0, 0)) := by rw [← hW1, Below.heap_alloc w.drew _ _ hvw]; exact hv
  have hcpA : ∀ ty dc, (Builtin.copy_ #[30, 30] ty #[.slice (some ⟨N, i * 4, none⟩) (n + 1 - i) dc, .slice (some ⟨vb, 0, none⟩) 1 vc]).run Tryd.prog W1 = .ok (goInt ((1 : Nat) : Int)) (W1.setCells N (i * 4) news) := fun ty dc =>
    run_copy_sized W1 _ _ ty 56 4 N (i * 4) (n + 1 - i) dc ⟨vb, 0, none⟩ 1 vc news 1 Tryd.underlying30 hsz (by simp only [Nat.min_def]; split <;> omega) (by omega)
      (fun j v hj => by
        rw [Addr.add_lit, cell_of_row W1 vb _ _ _ _ hv1]
        simpa using hj)
      (fun j hj => by rw [cell_of_row W1 N _ _ _ _ hb1]; simp [hRl]; omega) (fun j hj => frozen_of_row W1 N _ _ _ hb1) hone
  obtain ⟨W2, hW2⟩ : ∃ W2, W1.setCells N (i * 4) news = W2 := ⟨_, rfl⟩
  rw [hW2] at hcpA
  have hb2 := heap_setCells_same N 56 news (i * 4) W1 ROW.toList hb1 (by simp [hRl, hnl]; omega)
  rw [hW2] at hb2
  have hg2 : W2.heap[g]? = some (.cells cur 56 (0, 0)) := by rw [← hW2, setCells_other N (by omega)]; exact hg1
  have hcpB : ∀ ty dc sc, (Builtin.copy_ #[30, 30] ty #[.slice (some ⟨N, (i + 1) * 4, none⟩) (n - i) dc, .slice (some ⟨g, off + i * 4, none⟩) (n - i) sc]).run Tryd.prog W2.drew = .ok (goInt ((n - i : Nat) : Int)) (W2.drew.setCells N ((i + 1) * 4) xd) := fun ty dc sc =>
    run_copy_sized W2.drew _ _ ty 56 4 N ((i + 1) * 4) (n - i) dc ⟨g, off + i * 4, none⟩ (n - i) sc xd (n - i) Tryd.underlying30 hsz (by simp only [Nat.min_def]; split <;> omega) hxl
      (fun j v hj => by
        rw [Addr.add_lit]
        show W2.cell? _ = _
        rw [cell_of_row W2 g _ _ _ _ hg2]
        have hjl : j < (n - i) * 4 := by
          rw [← hxl]; exact (List.getElem?_eq_some_iff.1 hj).1
        rw [← hxd, List.getElem?_take_of_lt hjl, List.getElem?_drop] at hj
        simpa using hj)
      (fun j hj => by show (W2.cell? _).isSome = true; rw [cell_of_row W2 N _ _ _ _ hb2]; simp [hRl, hnl]; omega) (fun j hj => frozen_of_row W2 N _ _ _ hb2)
      (fun v hv => honc v (by rw [hxd]; exact hv))
  have HE : Hid (((w.drew.alloc (.cells ROW 56)).setCells w.heap.size (i * 4) news).drew.setCells w.heap.size ((i + 1) * 4) xd = W2.drew.setCells N ((i + 1) * 4) xd) := Hid.mk' (by rw [hW1, hN, hW2])
  have HRt := Hid.mk' hRt
  have HRl := Hid.mk' hRl
  have HGm := Hid.mk' hGm
  rw [hN] at hrz
  have hG63 : G ≤ 9223372036854775807 := hGm
  have hz2 : ¬ ((i : Int) = (n : Int)) := by omega
  have hz3 : (n : Int) < (n : Int) + 1 := by omega
  have hw1 : IntKind.i64.wrap ((i : Int) + 1) = (i : Int) + 1 := by rw [IntKind.wrap_i64]; omega
  have htn : ((i : Int) + 1).toNat = i + 1 := by omega
  have hGi : ¬ (G = i) := by omega
  have hGim : ¬ (G = i + 1) := by omega
  have hci : ¬ (n = i) := by omega
  have hp1 : (0 : Int) ≤ (i : Int) + 1 := by omega
  have hin : i ≤ n := by omega
  have hb3 : (i : Int) ≤ (n : Int) := by omega
  clear hkk hik hold hROW hG hRl hRt hb1 hg1 hv1 hb2 hg2 hg hv hW1 hW2 hGm
  go_enter Tryd.func90, Tryd.ntmps90
  go_wp2_with (first
    | (at_builtin; refine Lib.wpList_append_run _ rfl _ _ _ _ rfl _ _ rfl rfl _ _ (hrz _) ?_)
    | (at_builtin; refine wpList_copy_sized _ rfl _ _ 30 30 rfl _ _ rfl rfl (hcpA _ _) ?_))
  go_region_law (refine step_copy_sized rfl _ _ 30 30 rfl _ _ (by simp [Act.eval, Act.put]) (by simp [Act.eval, Act.put]) (hcpB _ _ _) ?_)
  all_goals
    go_wp2
    go_ret
    refine ⟨G, ROW, hGn, HGm.out, HRl.out, ?_, ?_, ?_⟩
    · rw [hxt]; exact HRt.out
    · first | rfl | (rw [hN]; first | rfl | trace_state)
    · rw [hxd]; exact HE.out.symm
end Go.Proofs.YtbgfannlfagoiaaDoor

namespace Go.Proofs.YtbgfannlfagoiaaDoor
open Go.RowKit Go.Lull
set_option linter.unusedVariables false

/-- What a row holds, once its end has been moved and the new cells laid in the gap. -/
theorem gap_list (c news : List Value) (off a b k : Nat) (hnl : news.length = k) (hfit : off + a + k + b ≤ c.length) (hab : True) :
    let xd := (c.drop (off + a)).take b
    let c1 := c.take (off + a + k) ++ xd ++ c.drop (off + a + k + xd.length)
    ((c1.take (off + a) ++ news ++ c1.drop (off + a + news.length)).drop off).take (a + k + b) = (c.drop off).take a ++ news ++ xd := by
  intro xd c1
  have hxl : xd.length = b := by simp only [xd, List.length_take, List.length_drop]; omega
  have e1 : c1.take (off + a) = c.take off ++ (c.drop off).take a := by
    simp only [c1]
    rw [List.append_assoc, List.take_append_of_le_length (by rw [List.length_take]; omega), List.take_take, Nat.min_eq_left (by omega), List.take_add]
  have e2 : c1.drop (off + a + news.length) = xd ++ c.drop (off + a + k + xd.length) := by
    simp only [c1]
    rw [List.append_assoc, hnl, List.drop_left' (by rw [List.length_take]; omega)]
  rw [e1, e2, List.append_assoc, List.append_assoc, List.drop_left' (by rw [List.length_take]; omega)]
  rw [show (c.drop off).take a ++ (news ++ (xd ++ c.drop (off + a + k + xd.length))) = ((c.drop off).take a ++ news ++ xd) ++ c.drop (off + a + k + xd.length) by simp]
  exact List.take_left' (by simp [hxl, hnl]; omega)

/-- slices.Insert of one event, at any place. -/
theorem insert_ev (w : World) (bv : Value) (n i vb vc : Nat) (xs news : List Value) (hn : n ≤ 60) (hi : i ≤ n) (hrow : Row w 56 4 bv n xs) (hxo : ∀ u ∈ xs, u.oneCell' = true)
    (hv : w.heap[vb]? = some (.cells news.toArray 56 (0, 0))) (hnl : news.length = 4) (hone : ∀ u ∈ news, u.oneCell' = true) (hne : bv.ownBlock ≠ some vb) :
    Calls Tryd.prog 90 #[bv, .int .i64 i, .slice (some ⟨vb, 0, none⟩) 1 vc] w (InsPost w bv n (xs.take (i * 4) ++ news ++ xs.drop (i * 4))) := by
  have hxl := hrow.1
  rcases Nat.eq_or_lt_of_le hi with he | hlt
  · subst he
    obtain ⟨a, cap, rfl, hc⟩ := hrow.form
    have e1 : xs.take (i * 4) ++ news ++ xs.drop (i * 4) = xs ++ news := by
      rw [List.take_of_length_le (by omega), List.drop_of_length_le (by omega), List.append_nil]
    rw [e1]
    refine ins_end w i cap vb vc a xs news hn hrow ?_
    exact Src.ofSlice _ Tryd.underlying30 _ 1 vc _ (by omega) (fun j u hj => by
      rw [Addr.add_lit, cell_of_row w vb _ _ _ _ hv]
      simpa using hj) hone
  · obtain ⟨_, h0 | ⟨g, off, cap, cur, rfl, hg, hnc, hcm, hcs, hxs⟩⟩ := hrow
    · omega
    · have hgv : vb ≠ g := fun e => hne (by subst e; rfl)
      have hxd : (cur.toList.drop (off + i * 4)).take ((n - i) * 4) = xs.drop (i * 4) := by
        rw [← hxs, List.drop_take, List.drop_drop]
        congr 1
        omega
      have hxt : (cur.toList.drop off).take (i * 4) = xs.take (i * 4) := by
        rw [← hxs, List.take_take, Nat.min_eq_left (by omega)]
      have honc : ∀ u ∈ (cur.toList.drop (off + i * 4)).take ((n - i) * 4), u.oneCell' = true := fun u hu => hxo u (by rw [hxd] at hu; exact List.mem_of_mem_drop hu)
      have hol : (xs.take (i * 4) ++ news ++ xs.drop (i * 4)).length = (n + 1) * 4 := by
        simp [hxl, hnl]; omega
      rcases Nat.lt_or_ge n cap with hroom | hfull
      · refine (ins_room w g off n cap i vb vc cur news hn hlt hroom hcm hgv hg hcs hv hnl hone honc).mono ?_
        rintro e w' ⟨rfl, rfl⟩
        have h1 := heap_setCells_same g 56 ((cur.toList.drop (off + i * 4)).take ((n - i) * 4)) (off + (i + 1) * 4) w.drew cur.toList (by simpa using (show w.drew.heap[g]? = some (.cells cur 56 (0, 0)) from hg)) (by simp; omega)
        have h2 := heap_setCells_same g 56 news (off + i * 4) _ _ h1 (by simp [hnl]; omega)
        refine ⟨_, rfl, ⟨hol, Or.inr ⟨g, off, cap, _, rfl, h2, by omega, hcm, ?_, ?_⟩⟩, ?_, ?_⟩
        · simp [hnl]; omega
        · have hgl := gap_list cur.toList news off (i * 4) ((n - i) * 4) 4 hnl (by simp; omega) trivial
          simp only at hgl
          rw [hxt, hxd, show i * 4 + 4 + (n - i) * 4 = (n + 1) * 4 by omega] at hgl
          rw [← hgl, hxd, show off + (i + 1) * 4 = off + i * 4 + 4 by omega]
        · exact (((Fr.refl _ _).drew).setCells (Or.inl (by simp [Value.ownBlock])) _ _).setCells (Or.inl (by simp [Value.ownBlock])) _ _
        · intro b hb; exact Or.inl hb
      · obtain rfl : cap = n := by omega
        refine (ins_grow w g off cap i vb vc cur news hn hlt hg hcs hv hnl hone honc).mono ?_
        rintro e w' ⟨G, ROW, hG1, hG2, hR1, hR2, rfl, rfl⟩
        have h0 : (w.drew.alloc (.cells ROW 56)).heap[w.heap.size]? = some (.cells ROW.toList.toArray 56 (0, 0)) := by
          simpa using heap_alloc_new w.drew (.cells ROW 56)
        have hRL : ROW.toList.length = G * 4 := by simpa using hR1
        have h1 := heap_setCells_same w.heap.size 56 news (i * 4) _ _ h0 (by rw [hRL, hnl]; omega)
        have hdl : (xs.drop (i * 4)).length = (cap - i) * 4 := by rw [List.length_drop, hxl]; omega
        rw [hxd]
        have h2 := heap_setCells_same w.heap.size 56 (xs.drop (i * 4)) ((i + 1) * 4) ((w.drew.alloc (.cells ROW 56)).setCells w.heap.size (i * 4) news).drew _ h1 (by simp only [List.length_append, List.length_take, List.length_drop, hRL, hnl, hdl]; omega)
        refine ⟨_, rfl, ⟨hol, Or.inr ⟨w.heap.size, 0, G, _, rfl, h2, hG1, hG2, ?_, ?_⟩⟩, ?_, ?_⟩
        · simp only [List.size_toArray, List.length_append, List.length_take, List.length_drop, hRL, hnl, hdl]; omega
        · rw [List.drop_zero]
          have e1 : (ROW.toList.take (i * 4) ++ news ++ ROW.toList.drop (i * 4 + news.length)).take ((i + 1) * 4) = xs.take (i * 4) ++ news := by
            rw [hR2, hxt]
            exact List.take_left' (by simp [hxl, hnl]; omega)
          show List.take ((cap + 1) * 4) (_ ++ _ ++ _) = _
          rw [e1]
          exact List.take_left' hol
        · refine ((((Fr.refl _ _).drew).alloc _).setCells (Or.inr (Nat.le_refl _)) _ _).drew.setCells (Or.inr (Nat.le_refl _)) _ _
        · intro b hb
          obtain rfl : w.heap.size = b := Option.some.inj hb
          exact Or.inr (Nat.le_refl _)
end Go.Proofs.YtbgfannlfagoiaaDoor

namespace Go.Proofs.YtbgfannlfagoiaaDoor
open Go.RowKit Go.Lull
set_option linter.unusedVariables false

theorem orI_after (x y : Ev) : decide (0 < orI (cmpI x.2.1 y.2.1) (cmpI x.1 y.1)) = after x y := by
  rw [Bool.eq_iff_iff, after_iff, decide_eq_true_iff]
  unfold orI cmpI
  by_cases h1 : x.2.1 < y.2.1
  · simp [h1]; omega
  · by_cases h2 : y.2.1 < x.2.1
    · simp [h1, h2]
    · have h3 : x.2.1 = y.2.1 := by omega
      by_cases h4 : x.1 < y.1
      · simp [h3, h4]; omega
      · by_cases h5 : y.1 < x.1
        · simp [h3, h4, h5]
        · simp [h3, h4, h5]
theorem flat_take : ∀ (l : List Ev) (k : Nat), (l.take k).flatMap evC = (l.flatMap evC).take (k * 4) ∧ (l.drop k).flatMap evC = (l.flatMap evC).drop (k * 4)
  | [], k => by simp
  | x :: l, 0 => by simp
  | x :: l, k + 1 => by
    obtain ⟨h1, h2⟩ := flat_take l k
    have hl : (evC x).length = 4 := rfl
    have e : (k + 1) * 4 = (evC x).length + k * 4 := by rw [hl]; omega
    rw [List.take_succ_cons, List.drop_succ_cons, List.flatMap_cons, List.flatMap_cons, e, List.take_length_add_append, List.drop_length_add_append, h1, h2]
    exact ⟨rfl, rfl⟩
theorem put_cells (buf : List Ev) (e : Ev) : (putB buf e).flatMap evC = (buf.flatMap evC).take (placeB buf e * 4) ++ evC e ++ (buf.flatMap evC).drop (placeB buf e * 4) := by
  obtain ⟨h1, h2⟩ := flat_take buf (placeB buf e)
  rw [putB_place, List.flatMap_append, List.flatMap_cons, h1, h2, List.append_assoc]
end Go.Proofs.YtbgfannlfagoiaaDoor
