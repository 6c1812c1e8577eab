import Derived.Test.YtbgfannlfagoiaaDoorGd
import Derived.Test.YtbgfannlfagoiaaDoorKit
namespace Go.Proofs.YtbgfannlfagoiaaDoor
open Go.RowKit Go.Lull
set_option linter.unusedVariables false

set_option maxRecDepth 8000 in
set_option maxHeartbeats 1000000 in
theorem delete_run (w : World) (v : Value) (n j : Nat) (xs : List Value) (hrow : Row w 177 3 v n xs) (hj : j ≤ n) (hn : n ≤ 1073741824) (hone : ∀ u ∈ xs, u.oneCell' = true) :
    Calls Tryd.prog 156 #[v, .int .i64 0, .int .i64 j] w fun e w' => ∃ v', e = .returned v' ∧ Row w' 177 3 v' (n - j) (xs.drop (j * 3)) ∧ Fr v.ownBlock.toList w w' ∧ v'.ownBlock = v.ownBlock := by
  by_cases h0 : j = 0
  · subst h0
    obtain ⟨a, cap, rfl, hnc⟩ := hrow.form
    have HR := Hid.mk' hrow
    clear hrow hone
    go_enter Tryd.func156, Tryd.ntmps156
    go_wp2
    go_ret
    exact ⟨_, rfl, by simpa using HR.out, Fr.refl _ _, rfl⟩
  · obtain ⟨g, off, cap, cur, rfl, hg, hnc, hcm, hcs, htake⟩ : ∃ g off cap cur, v = .slice (some ⟨g, off, none⟩) n cap ∧ w.heap[g]? = some (.cells cur 177 (0, 0)) ∧ n ≤ cap ∧ cap ≤ maxLen ∧ off + cap * 3 ≤ cur.size ∧ (cur.toList.drop off).take (n * 3) = xs := by
      rcases hrow.2 with ⟨_, h1⟩ | h1
      · omega
      · exact h1
    have hxl := hrow.1
    have hcell := fun k (hk : k < n * 3) => hrow.cell k hk
    have hnl : (xs.drop (j * 3)).length = (n - j) * 3 := by rw [List.length_drop, hxl]; omega
    obtain ⟨m, hm⟩ : ∃ m, n - j = m := ⟨_, rfl⟩
    rw [hm] at hnl ⊢
    obtain ⟨news, hnews⟩ : ∃ news, xs.drop (j * 3) = news := ⟨_, rfl⟩
    rw [hnews] at hnl ⊢
    have hsrc : Hid (∀ (p : Addr) (c : Nat), (p = ⟨g, off + j * 3, none⟩ ∨ m = 0) → Src Tryd.prog 3 141 (.slice (some p) m c) m news w.drew) := by
      intro p c hp
      refine Src.ofSlice _ Tryd.underlying141 p m c news hnl ?_ (fun u hu => hone u (by rw [← hnews] at hu; exact List.mem_of_mem_drop hu))
      intro k u hu
      have hk : k < m * 3 := by rw [← hnl]; exact (List.getElem?_eq_some_iff.1 hu).1
      rcases hp with rfl | hp
      · rw [Go.WideShapes.add_plain]
        have h1 := hcell (j * 3 + k) (by omega)
        rw [← hnews, List.getElem?_drop] at hu
        rw [show off + j * 3 + k = off + (j * 3 + k) by omega]
        show w.cell? _ = _
        rw [h1, hu]
      · rw [hp] at hk; omega
    have HG : Hid (w.drew.heap[g]? = some (.cells cur 177 (0, 0))) := hg
    obtain ⟨W1, hW1⟩ : ∃ W1, w.drew.setCells g (off + 0 * 3) news = W1 := ⟨_, rfl⟩
    have hW1' : w.drew.setCells g off news = W1 := by rw [← hW1]; simp
    have hg1 := heap_setCells_same g 177 news off w.drew cur.toList (by simpa using HG.out) (by rw [hnl]; simp; omega)
    rw [hW1'] at hg1
    have hcl : ∀ ty c', (Builtin.clear_ #[141] ty #[.slice (some ⟨g, off + m * 3, none⟩) (n - m) c']).run Tryd.prog W1 = .ok (.tuple #[]) (W1.setCells g (off + m * 3) (Builtin.zeroCells #[Value.int .i64 0, .slice none 0 0, .slice none 0 0] (n - m)).toList) := by
      intro ty c'
      exact run_clear_cells (size := 3) 141 ty (.agg #[Value.int .i64 0, .slice none 0 0, .slice none 0 0]) Tryd.underlying141 (by kernel_rfl) (by simp [Value.cells, Value.oneCell']) rfl g (off + m * 3) (n - m) c' _ hg1 (by simp; omega)
    have hzl : (Builtin.zeroCells #[Value.int .i64 0, .slice none 0 0, .slice none 0 0] (n - m)).toList.length = j * 3 := by
      rw [Array.length_toList, size_zeroCells]
      show (n - m) * 3 = _
      omega
    obtain ⟨zs, hzs⟩ : ∃ zs, (Builtin.zeroCells #[Value.int .i64 0, .slice none 0 0, .slice none 0 0] (n - m)).toList = zs := ⟨_, rfl⟩
    rw [hzs] at hzl
    simp only [hzs] at hcl
    have hfin := row_cut (w := w.drew) (zs := zs) HG.out hcs hcm (by omega) hnl (by rw [hzl]; omega)
    rw [hW1'] at hfin
    have hfr : Fr (Value.slice (some ⟨g, off, none⟩) n cap).ownBlock.toList w (W1.setCells g (off + m * 3) zs) := by
      rw [← hW1]
      exact (((Fr.refl _ w).drew).setCells (Or.inl (by simp [Value.ownBlock])) _ _).setCells (Or.inl (by simp [Value.ownBlock])) _ _
    have HFIN := Hid.mk' hfin
    have HFR := Hid.mk' hfr
    have HW1 := Hid.mk' hW1
    have hcs' : Hid (off + cap * 3 ≤ cur.size) := by unfold Hid; omega
    have hjn : ¬ (0 : Int) = (j : Int) := by omega
    have hjb : ((0 : Int) == (j : Int)) = false := by simp; omega
    have hmi : Hid ((n : Int) - j = m) := by unfold Hid; omega
    clear hcell htake hg hrow hnews hone hxl hW1 hW1' hg1 hfin hfr hzl hzs hcs hnl
    obtain ⟨i0, hi0, hz0, hz1, hz2⟩ := info_parts Tryd.infoRn
    have HI := Hid.mk' hi0
    have HI1 := Hid.mk' hz1
    clear hi0 hz0 hz1 hz2
    go_enter Tryd.func156, Tryd.ntmps156
    by_cases hcj : cap = j
    · obtain rfl : m = 0 := by omega
      have hnj : n = j := by omega
      subst hcj
      subst hnj
      go_wp2
      go_region_law (refine step_append_in (by rfl) _ _ _ (by rfl) i0 Tryd.underlying141 HI.out HI1.out g off 0 _ (by rfl) cur HG.out hcs'.out 0 news (.slice (some ⟨g, off, none⟩) 0 0) (by rfl) (hsrc.out _ _ (Or.inr (by trivial))) (by omega) ?_; rw [HW1.out])
      all_goals
        have hcl2 := hcl
        simp only [Nat.zero_mul, Nat.add_zero, Nat.sub_zero] at hcl2
        go_wp2_with (simp only [hcl2])
        go_ret
        exact ⟨_, rfl, HFIN.out, HFR.out, rfl⟩
    · go_wp2
      go_region_law (refine step_append_in (by rfl) _ _ _ (by rfl) i0 Tryd.underlying141 HI.out HI1.out g off 0 cap (by rfl) cur HG.out hcs'.out m news (.slice (some ⟨g, off + j * 3, none⟩) m (cap - j)) (by rfl) (hsrc.out _ _ (Or.inl rfl)) (by omega) ?_; rw [HW1.out])
      all_goals
        have hmc : ¬ cap = m := by omega
        go_wp2_with (simp only [hcl])
        go_ret
        exact ⟨_, rfl, HFIN.out, HFR.out, rfl⟩
end Go.Proofs.YtbgfannlfagoiaaDoor
