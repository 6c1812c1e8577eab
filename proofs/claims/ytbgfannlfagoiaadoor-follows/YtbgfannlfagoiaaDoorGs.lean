import Derived.Test.YtbgfannlfagoiaaDoorGk
namespace Go.Proofs.YtbgfannlfagoiaaDoor
open Go.RowKit Go.Lull
set_option linter.unusedVariables false

theorem row_cutAt {w : World} {e : TypeId} {g off cap m i : Nat} {cur : Array Value} {news zs : List Value} (hg : w.heap[g]? = some (.cells cur e (0, 0))) (hcs : off + cap ≤ cur.size) (hcm : cap ≤ maxLen) (hm : m ≤ cap) (hnl : i + news.length = m) (hz : m + zs.length ≤ cap) :
    Row ((w.setCells g (off + i) news).setCells g (off + m) zs) e 1 (.slice (some ⟨g, off, none⟩) m cap) m ((cur.toList.drop off).take i ++ news) := by
  have hlt : off + cap ≤ cur.toList.length := by simpa using hcs
  have h1 := heap_setCells_same g e news (off + i) w cur.toList (by simpa using hg) (by omega)
  have hA : (cur.toList.take (off + i)).length = off + i := by rw [List.length_take]; omega
  have hB : (cur.toList.take (off + i) ++ news).length = off + m := by rw [List.length_append, hA]; omega
  have h2 := heap_setCells_same g e zs (off + m) _ _ h1 (by rw [List.length_append, hB, List.length_drop]; omega)
  rw [List.take_left' hB] at h2
  have hT : (cur.toList.drop off).take i = (cur.toList.take (off + i)).drop off := by rw [List.drop_take]; congr 1; omega
  have hO : (cur.toList.take off).length = off := by rw [List.length_take]; omega
  have hsp : cur.toList.take (off + i) = cur.toList.take off ++ (cur.toList.drop off).take i := List.take_add
  refine ⟨by simp; omega, Or.inr ⟨g, off, cap, _, rfl, h2, hm, hcm, ?_, ?_⟩⟩
  · simp only [List.size_toArray, List.length_append, List.length_drop, hA]
    omega
  · show List.take (m * 1) (List.drop off ((cur.toList.take (off + i) ++ news) ++ zs ++ _)) = _
    rw [hsp, List.append_assoc, List.append_assoc, List.append_assoc, List.drop_left' hO, ← List.append_assoc]
    exact List.take_left' (by simp; omega)

theorem Tryd.infoPq : (Tryd.prog.info? 98).map (fun i => (i.zero, i.size, i.bytes)) = some (some (.pointer none), 1, 8) := by kernel_rfl

set_option maxRecDepth 8000 in
set_option maxHeartbeats 1000000 in
/-- slices.Delete of one pointer, at any place. -/
theorem delete_ptr (w : World) (v : Value) (n i : Nat) (xs : List Value) (hrow : Row w 98 1 v n xs) (hi : i < n) (hn : n ≤ 10) (hone : ∀ u ∈ xs, u.oneCell' = true) :
    Calls Tryd.prog 53 #[v, .int .i64 i, .int .i64 ((i : Int) + 1)] w fun e w' => ∃ v', e = .returned v' ∧ Row w' 98 1 v' (n - 1) (xs.take i ++ xs.drop (i + 1)) ∧ Fr v.ownBlock.toList w w' ∧ v'.ownBlock = v.ownBlock := by
  obtain ⟨g, off, cap, cur, rfl, hg, hnc, hcm, hcs, htake⟩ : ∃ g off cap cur, v = .slice (some ⟨g, off, none⟩) n cap ∧ w.heap[g]? = some (.cells cur 98 (0, 0)) ∧ n ≤ cap ∧ cap ≤ maxLen ∧ off + cap * 1 ≤ cur.size ∧ (cur.toList.drop off).take (n * 1) = xs := by
    rcases hrow.2 with ⟨_, h1⟩ | h1
    · omega
    · exact h1
  have hxl := hrow.1
  have hcell := fun k (hk : k < n * 1) => hrow.cell k hk
  have hnl : (xs.drop (i + 1)).length = n - (i + 1) := by rw [List.length_drop, hxl]; omega
  obtain ⟨m, hm⟩ : ∃ m, n - 1 = m := ⟨_, rfl⟩
  obtain ⟨q, hq⟩ : ∃ q, n - (i + 1) = q := ⟨_, rfl⟩
  have hti : xs.take i = (cur.toList.drop off).take i := by rw [← htake, List.take_take, Nat.min_eq_left (by omega)]
  rw [hm, hti]
  rw [hq] at hnl
  obtain ⟨news, hnews⟩ : ∃ news, xs.drop (i + 1) = news := ⟨_, rfl⟩
  rw [hnews] at hnl ⊢
  have hsrc : Hid (∀ (p : Addr) (c : Nat), (p = ⟨g, off + (i + 1), none⟩ ∨ q = 0) → Src Tryd.prog 1 39 (.slice (some p) q c) q news w.drew) := by
    intro p c hp
    refine Src.ofSlice _ Tryd.underlying39 p q c news (by rw [hnl]; simp) ?_ (fun u hu => hone u (by rw [← hnews] at hu; exact List.mem_of_mem_drop hu))
    intro k u hu
    have hk : k < q := by rw [← hnl]; exact (List.getElem?_eq_some_iff.1 hu).1
    rcases hp with rfl | hp
    · rw [Go.WideShapes.add_plain]
      have h1 := hcell (i + 1 + k) (by omega)
      rw [← hnews, List.getElem?_drop] at hu
      rw [show off + (i + 1) + k = off + (i + 1 + k) by omega]
      show w.cell? _ = _
      rw [h1, hu]
    · omega
  have HG : Hid (w.drew.heap[g]? = some (.cells cur 98 (0, 0))) := hg
  obtain ⟨W1, hW1⟩ : ∃ W1, w.drew.setCells g (off + i * 1) news = W1 := ⟨_, rfl⟩
  have hW1' : w.drew.setCells g (off + i) news = W1 := by rw [← hW1]; simp
  have hg1 := heap_setCells_same g 98 news (off + i) w.drew cur.toList (by simpa using HG.out) (by rw [hnl]; simp; omega)
  rw [hW1'] at hg1
  have hcl : ∀ ty c', (Builtin.clear_ #[39] ty #[.slice (some ⟨g, off + m, none⟩) 1 c']).run Tryd.prog W1 = .ok (.tuple #[]) (W1.setCells g (off + m) [.pointer none]) := by
    intro ty c'
    have hz : (Builtin.zeroCells (Value.pointer none).cells 1).toList = [.pointer none] := by simp [Builtin.zeroCells, Value.cells]
    rw [← hz]
    exact run_clear_cells (size := 1) 39 ty (.pointer none) Tryd.underlying39 (by kernel_rfl) (by simp [Value.cells, Value.oneCell']) rfl g (off + m) 1 c' _ hg1 (by simp [hnl]; omega)
  have hfin := row_cutAt (w := w.drew) (news := news) (zs := [.pointer none]) (off := off) (i := i) (m := m) HG.out (by omega) hcm (by omega) (by omega) (by simp; omega)
  rw [hW1'] at hfin
  have hfr : Fr (Value.slice (some ⟨g, off, none⟩) n cap).ownBlock.toList w (W1.setCells g (off + m) [.pointer none]) := by
    rw [← hW1]
    exact (((Fr.refl _ w).drew).setCells (Or.inl (by simp [Value.ownBlock])) _ _).setCells (Or.inl (by simp [Value.ownBlock])) _ _
  have HFIN := Hid.mk' hfin
  have HFR := Hid.mk' hfr
  have HW1 := Hid.mk' hW1
  have hcs' : Hid (off + cap * 1 ≤ cur.size) := by unfold Hid; omega
  have hqi : Hid (i + q = m ∧ n = m + 1) := by unfold Hid; omega
  obtain ⟨i0, hi0, hz0, hz1, hz2⟩ := info_parts Tryd.infoPq
  have HI := Hid.mk' hi0
  have HI1 := Hid.mk' hz1
  have hne : ((i : Int) == (i : Int) + 1) = false := by simp; omega
  clear hcell htake hg hrow hnews hone hxl hW1 hW1' hg1 hfin hfr hcs hnl hti hi0 hz0 hz1 hz2
  go_enter Tryd.func53, Tryd.ntmps53
  by_cases hcj : cap = i + 1
  · obtain rfl : q = 0 := by omega
    obtain rfl : n = i + 1 := by omega
    obtain rfl : m = i := by omega
    subst hcj
    have hmm : (m : Int) ≤ (m : Int) + 1 := by omega
    have hmm2 : (0 : Int) ≤ (m : Int) + 1 := by omega
    go_wp2
    go_region_law (refine step_append_in (by rfl) _ _ _ (by rfl) i0 Tryd.underlying39 HI.out HI1.out g off m (m + 1) (by rfl) cur HG.out hcs'.out 0 news (.slice (some ⟨g, off, none⟩) 0 0) (by rfl) (hsrc.out _ _ (Or.inr (by trivial))) (by omega) ?_; rw [HW1.out])
    all_goals
      go_wp2_with (simp only [hcl])
      go_ret
      exact ⟨_, rfl, HFIN.out, HFR.out, rfl⟩
  · have hm1 : n = m + 1 := hqi.out.2
    have him : i + q = m := hqi.out.1
    obtain rfl : q = m - i := by omega
    have him2 : i ≤ m := by omega
    have hi0 : (0 : Int) ≤ (i : Int) + 1 := by omega
    have hic : i ≤ cap := by omega
    have hic2 : i + 1 ≤ cap := by omega
    have hic3 : (i : Int) ≤ (cap : Int) := by omega
    have hic4 : (i : Int) + 1 ≤ (cap : Int) := by omega
    go_wp2
    go_region_law (refine step_append_in (by rfl) _ _ _ (by rfl) i0 Tryd.underlying39 HI.out HI1.out g off i cap (by rfl) cur HG.out hcs'.out (m - i) news (.slice (some ⟨g, off + (i + 1), none⟩) (m - i) (cap - (i + 1))) (by rfl) (hsrc.out _ _ (Or.inl rfl)) (by omega) ?_; rw [HW1.out])
    all_goals
      have hmc : ¬ cap = m := by omega
      go_wp2_with (simp only [hcl])
      go_ret
      exact ⟨_, rfl, HFIN.out, HFR.out, rfl⟩
end Go.Proofs.YtbgfannlfagoiaaDoor
