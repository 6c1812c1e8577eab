import Derived.Test.YtbgfannlfagoiaaGreatDoorZ38
import Derived.WideShapes
namespace Go.Proofs.YtbgfannlfagoiaaGreatDoor
open Go.RowKit Go.Lull Go.WideShapes
set_option linter.unusedVariables false



set_option maxRecDepth 8000 in
set_option maxHeartbeats 4000000 in
theorem rparse_short (s : ByteArray) (w : World) (hs : s.size ≤ 100) :
  Calls Tryz.prog 93 #[.string s] w (RefParse w (resB s.data.toList)) := by
 have hl : s.data.toList.length = s.size := by simp
 obtain ⟨l, hL⟩ : ∃ l, s.data.toList = l := ⟨_, rfl⟩
 have hword0 := fun a w h => word_any s a w hs h
 rw [hL] at hl hword0
 have hword : Hid (∀ (a : Nat) (w : World), a ≤ s.size → Calls Tryz.prog 109 #[.string s, .int .i64 a] w fun e w' => ∃ t : ByteArray, e = .returned (.string t) ∧ t.data.toList = wordOf (l.drop a) ∧ w' = w) := fun a w h => hword0 a w h
 clear hword0
 rw [hL]
 have hL2 : Hid (s.data.toList = l) := hL
 clear hL
 obtain ⟨R0, hR⟩ : ∃ R0, runW ([], 0, 0) 0 (words l) = R0 := ⟨_, rfl⟩
 have hin : Hid (∀ p, R0 = .inl p → resB l = .inl p) := fun p h => resB_inl (by omega) (hR.trans h)
 have hir : Hid (∀ st, R0 = .inr st → resB l = if st.2.2 = 2 then .inr st else .inl l.length) := fun st h => resB_inr (by omega) (hR.trans h)
 have hst : Hid (R0 = runW ([], 0, 0) 0 (remW l 0)) := by unfold Hid; rw [remW_zero, hR]
 clear hR
 generalize resB l = RES at hin hir ⊢
 obtain ⟨N, hN⟩ : ∃ N, w.heap.size = N := ⟨_, rfl⟩
 obtain ⟨w0, hw0⟩ : ∃ w0, (w.alloc (.cells #[.slice none 0 0, .int .i64 0] 138)).alloc (.cells #[.slice none 0 0, .int .i64 0] 138) = w0 := ⟨_, rfl⟩
 have hl' : Hid (l.length = s.size) := hl
 clear hl
 have hz : w0.heap.size = N + 2 := by rw [← hw0]; simp [hN]
 have hB0 : Below N w w0 := by
  rw [← hw0, ← hN]
  exact ((Below.refl _ _).alloc (Nat.le_refl _) _).alloc (by simp) _
 have hR0 : w0.heap[N]? = some (.cells #[.slice none 0 0, .int .i64 0] 138 (0, 0)) := by
  rw [← hw0, ← hN, Below.heap_alloc _ _ _ (by simp), heap_alloc_new]
 have hRP0 : RP w0 (N + 1) (N + 2) [] 0 (.slice none 0 0) := by
  refine ⟨?_, World.ownsRow_nil _ _ _ _, by omega, by omega⟩
  rw [← hw0, ← hN]
  have := heap_alloc_new (w.alloc (.cells #[.slice none 0 0, .int .i64 0] 138)) (.cells #[.slice none 0 0, .int .i64 0] 138)
  simpa using this
 have hres : Hid (∀ (wr : World), Below (N + 1) w0 wr → wr.heap[N]? = some (.cells #[.slice none 0 0, .int .i64 0] 138 (0, 0))) := fun wr h => (h.block N (by omega)).trans hR0
 have hlow : Hid (∀ (wr : World), Below (N + 1) w0 wr → Below N w wr) := fun wr h => hB0.trans (h.mono (by omega))
 have HW : Hid ((w.alloc (.cells #[.slice none 0 0, .int .i64 0] 138)).alloc (.cells #[.slice none 0 0, .int .i64 0] 138) = w0) := hw0
 clear hw0
 have HN : Hid (w.heap.size = N) := hN
 clear hN
 have hRP0' : Hid (RP w0 (N + 1) (N + 2) [] 0 (.slice none 0 0)) := hRP0
 have hz' : Hid (w0.heap.size = N + 2) := hz
 have hB0' : Hid (Below N w w0) := hB0
 clear hRP0 hz hB0 hR0
 go_enter Tryz.func93, Tryz.ntmps93
 go_wp2
 rw [HW.out]
 simp only [HN.out]
 go_loopw [5] (fun p wr => ∃ (a : Nat) (steps : List Stp) (v : Value), a ≤ s.size + 1 ∧ p = .int .i64 a ∧ RP wr (N + 1) (N + 2) steps 0 v ∧ Below (N + 1) w0 wr ∧ steps.length ≤ 8 ∧ Hid (R0 = runW (steps, 0, 0) a (remW l a))) (fun p _ => s.size + 1 - (intOf p).toNat)
 case atStart => exact ⟨0, [], _, Nat.zero_le _, rfl, hRP0'.out, Below.refl _ _, by simp, hst⟩
 case round =>
  obtain ⟨a, steps, v, ha, rfl, hRP, hB, hn8, HE⟩ := hrel
  obtain ⟨ad, cap, rfl⟩ := hRP.form
  have c0 := hRP.c0
  have c1 := hRP.c1
  have f0 := hRP.fr 0
  have f1 := hRP.fr 1
  have r0 := cell_of_row wr N 0 _ _ _ (hres.out wr hB)
  have r1 := cell_of_row wr N 1 _ _ _ (hres.out wr hB)
  have g0 := frozen_of_row wr N 0 _ _ (hres.out wr hB)
  have g1 := frozen_of_row wr N 1 _ _ (hres.out wr hB)
  simp at r0 r1
  obtain ⟨q0, q1, q2⟩ := two_set (hres.out wr hB) (.slice ad steps.length cap) (.int .i64 0)
  have HRP : Hid (RP wr (N + 1) (N + 2) steps 0 (.slice ad steps.length cap)) := hRP
  clear hRP
  by_cases hend : a = s.size + 1
  ·have hfin : RES = .inl s.size := by
    have := hir.out (steps, 0, 0) (by rw [HE.out, remW_end (by have := hl'.out; omega)]; rfl)
    rw [this, hl'.out]; rfl
   have HQ0 : Hid (((wr.setCell ⟨N, 0, none⟩ (.slice ad steps.length cap)).setCell ⟨N, 1, none⟩ (.int .i64 0)).cell? ⟨N, 0, none⟩ = some (.slice ad steps.length cap)) := q0
   have HQ1 : Hid (((wr.setCell ⟨N, 0, none⟩ (.slice ad steps.length cap)).setCell ⟨N, 1, none⟩ (.int .i64 0)).cell? ⟨N, 1, none⟩ = some (.int .i64 0)) := q1
   clear q0 q1 HE hin hir
   subst hend
   go_wp2
   refine bodyPost_ret (v := .tuple #[.agg #[.slice ad steps.length cap, .int .i64 0], .int .i64 s.size]) (by simp [results, Tryz.results93, go_sem, HQ0.out, HQ1.out]) rfl ⟨ad, steps.length, cap, 0, s.size, rfl, ?_, rfl⟩
   rw [HN.out]; exact (hlow.out wr hB).trans q2
  have ha2 : a ≤ s.size := by omega
  obtain ⟨hrem, hle⟩ := remW_step (l := l) (a := a) (by have := hl'.out; omega)
  rw [hl'.out] at hle
  have HE2 : Hid (R0 = runW (steps, 0, 0) a (wordOf (l.drop a) :: remW l (a + (wordOf (l.drop a)).length + 1))) := by unfold Hid; rw [← hrem]; exact HE
  clear HE hrem
  have HQ0 : Hid (((wr.setCell ⟨N, 0, none⟩ (.slice ad steps.length cap)).setCell ⟨N, 1, none⟩ (.int .i64 0)).cell? ⟨N, 0, none⟩ = some (.slice ad steps.length cap)) := q0
  have HQ1 : Hid (((wr.setCell ⟨N, 0, none⟩ (.slice ad steps.length cap)).setCell ⟨N, 1, none⟩ (.int .i64 0)).cell? ⟨N, 1, none⟩ = some (.int .i64 0)) := q1
  clear q0 q1
  by_cases hz0 : s.size = 0
  ·have hE : s = ByteArray.empty := by simpa using hz0
   have ha0 : a = 0 := by omega
   subst ha0
   have hw0 : wordOf (l.drop 0) = [] := by
    have : l = [] := List.length_eq_zero_iff.1 (by rw [hl'.out]; exact hz0)
    rw [this]; rfl
   have hfin : RES = .inl 0 := hin.out 0 (by rw [HE2.out, hw0]; exact run_no (rtake_none rfl (Or.inl (by decide))))
   subst hfin
   subst hE
   clear HE2 hin hir hend hw0
   go_wp2
   refine bodyPost_ret (v := .tuple #[.agg #[.slice ad steps.length cap, .int .i64 0], .int .i64 0]) (by simp [results, Tryz.results93, go_sem, HQ0.out, HQ1.out]) rfl ⟨ad, steps.length, cap, 0, 0, rfl, ?_, rfl⟩
   rw [HN.out]; exact (hlow.out wr hB).trans q2
  obtain ⟨T, hT⟩ : ∃ T, wordOf (l.drop a) = T := ⟨_, rfl⟩
  rw [hT] at HE2 hle
  obtain ⟨t, ht⟩ : ∃ t : ByteArray, t.data.toList = T := ⟨⟨T.toArray⟩, by simp⟩
  have htz : t.size = T.length := by rw [← ht]; simp
  have hwd : ∀ w, Calls Tryz.prog 109 #[.string s, .int .i64 a] w fun e w' => e = .returned (.string t) ∧ w = w' := by
   intro w
   refine (hword.out a w ha2).mono ?_
   rintro e w' ⟨t', rfl, ht', rfl⟩
   rw [hT, ← ht] at ht'
   rw [bytes_inj ht']
   exact ⟨rfl, rfl⟩
  have htl := toList_data t
  rw [ht] at htl
  have hts : t.size ≤ 100 := by omega
  have hle2 : a + t.size ≤ s.size := by omega
  have HE3 : Hid (R0 = runW (steps, 0, 0) a (T :: remW l (a + t.size + 1))) := by unfold Hid; rw [htz]; exact HE2
  have key : (a < s.size) ∨ (s.size ≤ a ∧ ((a : Int) == 0) = false) := by
   by_cases h : a < s.size
   ·exact Or.inl h
   ·exact Or.inr ⟨by omega, by simp; omega⟩
  have hE : ¬ s = ByteArray.empty := fun e => hz0 (by rw [e]; rfl)
  clear HE2 hle htz hend hz0
  have HT : Hid (t.data.toList = T) := ht
  clear ht
  have HTL : Hid (t.toList = T) := htl
  clear htl
  by_cases hwi : T = [119, 105, 116, 104, 105, 110] ∧ steps ≠ []
  ·obtain ⟨hT6, hne⟩ := hwi
   have hq : (t.toList == [119, 105, 116, 104, 105, 110]) = true := by rw [HTL.out, hT6]; rfl
   have hp : 0 < steps.length := List.length_pos_iff.2 hne
   obtain ⟨b, hb⟩ : ∃ b, a + t.size + 1 = b := ⟨_, rfl⟩
   have hlt6 : T.length = t.size := by rw [← HT.out]; simp
   have HE4 : Hid (R0 = runW (steps, 0, 1) b (remW l b)) := by
    unfold Hid; rw [HE3.out, ← hb, hT6, run_yes (take_word hne), ← hT6, hlt6]
   have hbi : ((a : Int) + (t.size : Int) + 1) = (b : Int) := by omega
   have HBI := Hid.mk' hbi
   have HB := Hid.mk' hb
   have hb3 : a + t.size + 1 ≤ b := by omega
   have hb4 : b ≤ a + t.size + 1 := by omega
   clear HE3 hT6 hne hlt6 hT hbi hb
   by_cases hbs : s.size < b
   ·have hfin : RES = .inl s.size := by
     have := hir.out (steps, 0, 1) (by rw [HE4.out, remW_end (by have := hl'.out; omega)]; rfl)
     rw [this, hl'.out]; rfl
    subst hfin
    clear HE4 hin hir
    rcases key with key | ⟨key, k0⟩
    all_goals
     go_wp2_with (go_at_call 109; refine (hwd _).mono ?_; rintro e w1 ⟨rfl, rfl⟩)
     refine bodyPost_ret (v := .tuple #[.agg #[.slice ad steps.length cap, .int .i64 0], .int .i64 s.size]) (by simp [results, Tryz.results93, go_sem, HQ0.out, HQ1.out]) rfl ⟨ad, steps.length, cap, 0, s.size, rfl, ?_, rfl⟩
     rw [HN.out]; exact (hlow.out wr hB).trans q2
   ·have hb2 : b ≤ s.size := by omega
    obtain ⟨hrem, hle⟩ := remW_step (l := l) (a := b) (by have := hl'.out; omega)
    rw [hl'.out] at hle
    obtain ⟨T2, hT2⟩ : ∃ T2, wordOf (l.drop b) = T2 := ⟨_, rfl⟩
    rw [hT2] at hrem hle
    obtain ⟨t2, ht2⟩ : ∃ t2 : ByteArray, t2.data.toList = T2 := ⟨⟨T2.toArray⟩, by simp⟩
    have htz2 : T2.length = t2.size := by rw [← ht2]; simp
    rw [htz2] at hrem hle
    have hwd2 : ∀ w, Calls Tryz.prog 109 #[.string s, .int .i64 b] w fun e w' => e = .returned (.string t2) ∧ w = w' := by
     intro w
     refine (hword.out b w hb2).mono ?_
     rintro e w' ⟨t', rfl, ht', rfl⟩
     rw [hT2, ← ht2] at ht'
     rw [bytes_inj ht']
     exact ⟨rfl, rfl⟩
    have hwdX : ∀ (w : World) (x : Int), x = a → Calls Tryz.prog 109 #[.string s, .int .i64 x] w fun e w' => e = .returned (.string t) ∧ w = w' := fun w x h => h ▸ hwd w
    have hwd2X : ∀ (w : World) (x : Int), x = b → Calls Tryz.prog 109 #[.string s, .int .i64 x] w fun e w' => e = .returned (.string t2) ∧ w = w' := fun w x h => h ▸ hwd2 w
    clear hwd hwd2
    have hdig := fun w => digits_any t2 w (by omega)
    rw [ht2] at hdig
    have HE5 : Hid (R0 = runW (steps, 0, 1) b (T2 :: remW l (b + t2.size + 1))) := by unfold Hid; rw [← hrem]; exact HE4
    clear HE4 hrem ht2 hT2
    cases ho : numB 1000 T2 with
    | none =>
     rw [ho] at hdig
     have hdig' : ∀ w, Calls Tryz.prog 111 #[.string t2, .int .i64 1000] w fun e w' => e = .returned (.int .i64 (-1)) ∧ w = w' := fun w => (hdig w).mono fun e w' ⟨h1, h2⟩ => ⟨h1, h2.symm⟩
     have hfin : RES = .inl b := hin.out b (by rw [HE5.out]; exact run_no (take_nonum ho))
     subst hfin
     clear HE5 hin hir HQ0 HQ1 q2 ho hdig
     obtain ⟨q0, q1, q2⟩ := two_set (hres.out _ (hB.setCell (p := ⟨N + 1, 1, none⟩) (Nat.le_refl _) (.int .i64 (-1)))) (.slice ad steps.length cap) (.int .i64 (-1))
     have Q0 := Hid.mk' q0
     have Q1 := Hid.mk' q1
     have Q2 := Hid.mk' q2
     clear q0 q1 q2
     go_wp2_with (first | (go_at_call 109; refine (hwdX _ _ (by omega)).mono ?_; rintro e w1 ⟨rfl, rfl⟩) | (go_at_call 109; refine (hwd2X _ _ (by omega)).mono ?_; rintro e w1 ⟨rfl, rfl⟩) | (go_at_call 111; refine (hdig' _).mono ?_; rintro e w1 ⟨rfl, rfl⟩))
     refine bodyPost_ret (v := .tuple #[.agg #[.slice ad steps.length cap, .int .i64 (-1)], .int .i64 (↑a + ↑t.size + 1)]) (by simp [results, Tryz.results93, go_sem, Q0.out, Q1.out]) rfl ⟨ad, steps.length, cap, -1, _, rfl, ?_, HBI.out⟩
     rw [HN.out]; exact (hlow.out _ (hB.setCell (p := ⟨N + 1, 1, none⟩) (Nat.le_refl _) (.int .i64 (-1)))).trans Q2.out
    | some n =>
     have hnle := numB_le ho
     rw [ho] at hdig
     have hdig' : ∀ w, Calls Tryz.prog 111 #[.string t2, .int .i64 1000] w fun e w' => e = .returned (.int .i64 (n : Int)) ∧ w = w' := fun w => (hdig w).mono fun e w' ⟨h1, h2⟩ => ⟨h1, h2.symm⟩
     have HE6 : Hid (R0 = runW (steps, (n : Int), 2) (b + t2.size + 1) (remW l (b + t2.size + 1))) := by unfold Hid; rw [HE5.out, run_yes (take_num ho), htz2]
     clear HE5 HQ0 HQ1 q2 ho hdig htz2
     obtain ⟨q0, q1, q2⟩ := two_set (hres.out _ (hB.setCell (p := ⟨N + 1, 1, none⟩) (Nat.le_refl _) (.int .i64 (n : Int)))) (.slice ad steps.length cap) (.int .i64 (n : Int))
     have Q0 := Hid.mk' q0
     have Q1 := Hid.mk' q1
     have Q2 := Hid.mk' q2
     clear q0 q1 q2
     by_cases hlast : b + t2.size < s.size
     ·have hfin : RES = .inl (b + t2.size + 1) := hin.out _ (by
       obtain ⟨x, r, hx⟩ := remW_cons (l := l) (a := b + t2.size + 1) (by have := hl'.out; omega)
       rw [HE6.out, hx]; exact run_no take_end)
      subst hfin
      clear HE6 hin hir
      go_wp2_with (first | (go_at_call 109; refine (hwdX _ _ (by omega)).mono ?_; rintro e w1 ⟨rfl, rfl⟩) | (go_at_call 109; refine (hwd2X _ _ (by omega)).mono ?_; rintro e w1 ⟨rfl, rfl⟩) | (go_at_call 111; refine (hdig' _).mono ?_; rintro e w1 ⟨rfl, rfl⟩))
      refine bodyPost_ret (v := .tuple #[.agg #[.slice ad steps.length cap, .int .i64 (n : Int)], .int .i64 (↑a + ↑t.size + 1 + ↑t2.size + 1)]) (by simp [results, Tryz.results93, go_sem, Q0.out, Q1.out]) rfl ⟨ad, steps.length, cap, n, _, rfl, ?_, by have := HBI.out; omega⟩
      rw [HN.out]; exact (hlow.out _ (hB.setCell (p := ⟨N + 1, 1, none⟩) (Nat.le_refl _) (.int .i64 (n : Int)))).trans Q2.out
     ·have hfin : RES = .inr (steps, (n : Int), 2) := by
       have := hir.out (steps, (n : Int), 2) (by rw [HE6.out, remW_end (by have := hl'.out; omega)]; rfl)
       rw [this]; rfl
      subst hfin
      clear HE6 hin hir
      go_wp2_with (first | (go_at_call 109; refine (hwdX _ _ (by omega)).mono ?_; rintro e w1 ⟨rfl, rfl⟩) | (go_at_call 109; refine (hwd2X _ _ (by omega)).mono ?_; rintro e w1 ⟨rfl, rfl⟩) | (go_at_call 111; refine (hdig' _).mono ?_; rintro e w1 ⟨rfl, rfl⟩))
      refine bodyPost_ret (v := .tuple #[.agg #[.slice ad steps.length cap, .int .i64 (n : Int)], .int .i64 (-1)]) (by simp [results, Tryz.results93, go_sem, Q0.out, Q1.out]) rfl ⟨ad, steps.length, cap, n, -1, rfl, ?_, rfl, rfl, rfl, ?_⟩
      ·rw [HN.out]; exact (hlow.out _ (hB.setCell (p := ⟨N + 1, 1, none⟩) (Nat.le_refl _) (.int .i64 (n : Int)))).trans Q2.out
      ·rw [HN.out]
       have h0 := (HRP.out.set1 n).own
       have h1 := ownsRow_setCell_below h0 (a := ⟨N, 0, none⟩) (by simp) (.slice ad steps.length cap)
       have h2 := ownsRow_setCell_below h1 (a := ⟨N, 1, none⟩) (by simp) (.int .i64 (n : Int))
       exact ⟨h2.1, h2.2.imp id (fun ⟨g, cap, cur, e1, e2, e3⟩ => ⟨g, cap, cur, e1, by omega, e3⟩)⟩
  ·cases ho : stepB T with
   | none =>
    have hfin : RES = .inl a := hin.out a (by rw [HE3.out]; exact run_no (rtake_none ho (by by_cases e : T = [119, 105, 116, 104, 105, 110]; exact Or.inr (Classical.byContradiction fun h => hwi ⟨e, h⟩); exact Or.inl e)))
    have hstep := fun w => stepOf_no t w hts (by rw [HT.out]; exact ho)
    have hq : ((t.toList == [119, 105, 116, 104, 105, 110]) = false) ∨ ((t.toList == [119, 105, 116, 104, 105, 110]) = true ∧ steps.length ≤ 0) := by
     by_cases e : T = [119, 105, 116, 104, 105, 110]
     ·refine Or.inr ⟨by rw [HTL.out, e]; rfl, ?_⟩
      have : steps = [] := Classical.byContradiction fun h => hwi ⟨e, h⟩
      rw [this]; simp
     ·exact Or.inl (by rw [HTL.out]; exact beq_false_of_ne e)
    subst hfin
    clear hin hir HE3 ho hwi HQ0 HQ1 q2 hT
    rcases key with key | ⟨key, k0⟩
    all_goals
     rcases hq with hq | ⟨hq, hst0⟩
     all_goals
      go_wp2_with (first | (go_at_call 109; refine (hwd _).mono ?_; rintro e w1 ⟨rfl, rfl⟩) | (go_at_call 110; refine (hstep _).mono ?_; rintro e w1 ⟨n, k, g, v, rfl, hb⟩; have d0 := (HRP.out.below hb).c0; have d1 := (HRP.out.below hb).c1; have fr0 := (HRP.out.below hb).fr 0; have s0 := (hb.cell (p := ⟨N, 0, none⟩) (by have := HRP.out.le; simp; omega)).trans r0; have s1 := (hb.cell (p := ⟨N, 1, none⟩) (by have := HRP.out.le; simp; omega)).trans r1; have k0' := (hb.frozen (p := ⟨N, 0, none⟩) (by have := HRP.out.le; simp; omega)).trans g0; have k1' := (hb.frozen (p := ⟨N, 1, none⟩) (by have := HRP.out.le; simp; omega)).trans g1; have nz : N < w1.heap.size := (by have := HRP.out.le; have := hb.size; omega); have nz1 : N + 1 < w1.heap.size := (by have := HRP.out.le; have := hb.size; omega)))
      obtain ⟨q0, q1, q2⟩ := two_set (hres.out w1 (hB.trans (hb.mono (by have := HRP.out.le; omega)))) (.slice ad steps.length cap) (.int .i64 0)
      refine bodyPost_ret (v := .tuple #[.agg #[.slice ad steps.length cap, .int .i64 0], .int .i64 a]) (by simp [results, Tryz.results93, go_sem, fun o => alloc_keep o q0, fun o => alloc_keep o q1]) rfl ⟨ad, steps.length, cap, 0, a, rfl, ?_, rfl⟩
      rw [HN.out]; exact ((hlow.out w1 (hB.trans (hb.mono (by have := HRP.out.le; omega)))).trans q2).alloc (by have := q2.size; omega) _
   | some x =>
    have hstep := fun w => stepOf_yes t x w hts (by rw [HT.out]; exact ho)
    have hwn : T ≠ [119, 105, 116, 104, 105, 110] := fun e => by rw [e, stepB_within] at ho; cases ho
    have hq : (t.toList == [119, 105, 116, 104, 105, 110]) = false := by rw [HTL.out]; exact beq_false_of_ne hwn
    have harm : True := trivial
    cases hm : mayB steps x with
    | false =>
     have hfin : RES = .inl a := hin.out a (by rw [HE3.out]; exact run_no (take_not ho hm))
     subst hfin
     clear hin hir HE3 ho hwi HQ0 HQ1 q2 hT hwn
     obtain ⟨xn, xk, xg, xv⟩ := x
     have hcase : 8 ≤ steps.length ∨ (steps.length < 8 ∧ xn = true ∧ steps = []) ∨ (steps.length < 8 ∧ xn = true ∧ ∃ l' y, steps = l' ++ [y] ∧ y.1 = true) := by
      by_cases h8 : steps.length < 8
      ·cases xn with
       | false => simp [mayB, h8] at hm
       | true =>
        by_cases hs0 : steps = []
        ·exact Or.inr (Or.inl ⟨h8, rfl, hs0⟩)
        ·obtain ⟨l', y, rfl⟩ := last_at steps hs0
         refine Or.inr (Or.inr ⟨h8, rfl, l', y, rfl, ?_⟩)
         rw [mayB, endB_snoc, decide_eq_true h8] at hm
         cases hy : y.1 with
         | true => rfl
         | false => rw [hy] at hm; cases hm
      ·exact Or.inl (by omega)
     clear hm
     rcases hcase with hc | ⟨h8, rfl, rfl⟩ | ⟨h8, rfl, l', y, rfl, hy⟩
     ·rcases key with key | ⟨key, k0⟩
      all_goals
       go_wp2_with (first | (go_at_call 109; refine (hwd _).mono ?_; rintro e w1 ⟨rfl, rfl⟩) | (go_at_call 110; refine (hstep _).mono ?_; rintro e w1 ⟨rfl, hb⟩; have d0 := (HRP.out.below hb).c0; have d1 := (HRP.out.below hb).c1; have fr0 := (HRP.out.below hb).fr 0; have s0 := (hb.cell (p := ⟨N, 0, none⟩) (by have := HRP.out.le; simp; omega)).trans r0; have s1 := (hb.cell (p := ⟨N, 1, none⟩) (by have := HRP.out.le; simp; omega)).trans r1; have k0' := (hb.frozen (p := ⟨N, 0, none⟩) (by have := HRP.out.le; simp; omega)).trans g0; have k1' := (hb.frozen (p := ⟨N, 1, none⟩) (by have := HRP.out.le; simp; omega)).trans g1; have nz : N < w1.heap.size := (by have := HRP.out.le; have := hb.size; omega); have nz1 : N + 1 < w1.heap.size := (by have := HRP.out.le; have := hb.size; omega)))
       obtain ⟨q0, q1, q2⟩ := two_set (hres.out w1 (hB.trans (hb.mono (by have := HRP.out.le; omega)))) (.slice ad steps.length cap) (.int .i64 0)
       refine bodyPost_ret (v := .tuple #[.agg #[.slice ad steps.length cap, .int .i64 0], .int .i64 a]) (by simp [results, Tryz.results93, go_sem, fun o => alloc_keep o q0, fun o => alloc_keep o q1]) rfl ⟨ad, steps.length, cap, 0, a, rfl, ?_, rfl⟩
       rw [HN.out]; exact ((hlow.out w1 (hB.trans (hb.mono (by have := HRP.out.le; omega)))).trans q2).alloc (by have := q2.size; omega) _
     ·rcases key with key | ⟨key, k0⟩
      all_goals
       go_wp2_with (first | (go_at_call 109; refine (hwd _).mono ?_; rintro e w1 ⟨rfl, rfl⟩) | (go_at_call 110; refine (hstep _).mono ?_; rintro e w1 ⟨rfl, hb⟩; have d0 := (HRP.out.below hb).c0; have d1 := (HRP.out.below hb).c1; have fr0 := (HRP.out.below hb).fr 0; have s0 := (hb.cell (p := ⟨N, 0, none⟩) (by have := HRP.out.le; simp; omega)).trans r0; have s1 := (hb.cell (p := ⟨N, 1, none⟩) (by have := HRP.out.le; simp; omega)).trans r1; have k0' := (hb.frozen (p := ⟨N, 0, none⟩) (by have := HRP.out.le; simp; omega)).trans g0; have k1' := (hb.frozen (p := ⟨N, 1, none⟩) (by have := HRP.out.le; simp; omega)).trans g1; have nz : N < w1.heap.size := (by have := HRP.out.le; have := hb.size; omega); have nz1 : N + 1 < w1.heap.size := (by have := HRP.out.le; have := hb.size; omega)))
       obtain ⟨q0, q1, q2⟩ := two_set (hres.out w1 (hB.trans (hb.mono (by have := HRP.out.le; omega)))) (.slice ad 0 cap) (.int .i64 0)
       refine bodyPost_ret (v := .tuple #[.agg #[.slice ad 0 cap, .int .i64 0], .int .i64 a]) (by simp [results, Tryz.results93, go_sem, fun o => alloc_keep o q0, fun o => alloc_keep o q1]) rfl ⟨ad, 0, cap, 0, a, rfl, ?_, rfl⟩
       rw [HN.out]; exact ((hlow.out w1 (hB.trans (hb.mono (by have := HRP.out.le; omega)))).trans q2).alloc (by have := q2.size; omega) _
     ·have eL : (l' ++ [y]).length = l'.length + 1 := by simp
      have hsome : ∃ g, ad = some ⟨g, 0, none⟩ := by
       rcases HRP.out.own.2 with ⟨h, h0⟩ | ⟨g, cap', cur, h, _⟩
       ·rw [eL] at h0; omega
       ·exact ⟨g, (Value.slice.inj h).1⟩
      obtain ⟨g, rfl⟩ := hsome
      have hlast : Hid (∀ w1, Below wr.heap.size wr w1 → w1.cell? ⟨g, l'.length * 4, none⟩ = some (.bool true)) := fun w1 hb => by rw [(HRP.out.below hb).last, hy]
      have hgz : Hid (g < wr.heap.size) := by
       have := HRP.out.last
       exact block_lt_of_cell this
      rw [eL] at c0 hn8 h8
      have HRP2 : Hid (RP wr (N + 1) (N + 2) (l' ++ [y]) 0 (.slice (some ⟨g, 0, none⟩) (l'.length + 1) cap)) := by unfold Hid; rw [← eL]; exact HRP
      clear HRP eL hy
      have HRP := HRP2
      clear HRP2
      rcases key with key | ⟨key, k0⟩
      all_goals
       go_wp2_with (first | (go_at_call 109; refine (hwd _).mono ?_; rintro e w1 ⟨rfl, rfl⟩) | (go_at_call 110; refine (hstep _).mono ?_; rintro e w1 ⟨rfl, hb⟩; have lc := hlast.out w1 hb; have gz : g < w1.heap.size := (by have := hgz.out; have := hb.size; omega); have d0 := (HRP.out.below hb).c0; have d1 := (HRP.out.below hb).c1; have fr0 := (HRP.out.below hb).fr 0; have s0 := (hb.cell (p := ⟨N, 0, none⟩) (by have := HRP.out.le; simp; omega)).trans r0; have s1 := (hb.cell (p := ⟨N, 1, none⟩) (by have := HRP.out.le; simp; omega)).trans r1; have k0' := (hb.frozen (p := ⟨N, 0, none⟩) (by have := HRP.out.le; simp; omega)).trans g0; have k1' := (hb.frozen (p := ⟨N, 1, none⟩) (by have := HRP.out.le; simp; omega)).trans g1; have nz : N < w1.heap.size := (by have := HRP.out.le; have := hb.size; omega); have nz1 : N + 1 < w1.heap.size := (by have := HRP.out.le; have := hb.size; omega)))
       obtain ⟨q0, q1, q2⟩ := two_set (hres.out w1 (hB.trans (hb.mono (by have := HRP.out.le; omega)))) (.slice (some ⟨g, 0, none⟩) (l'.length + 1) cap) (.int .i64 0)
       refine bodyPost_ret (v := .tuple #[.agg #[.slice (some ⟨g, 0, none⟩) (l'.length + 1) cap, .int .i64 0], .int .i64 a]) (by simp [results, Tryz.results93, go_sem, fun o => alloc_keep o q0, fun o => alloc_keep o q1]) rfl ⟨(some ⟨g, 0, none⟩), (l'.length + 1), cap, 0, a, rfl, ?_, rfl⟩
       rw [HN.out]; exact ((hlow.out w1 (hB.trans (hb.mono (by have := HRP.out.le; omega)))).trans q2).alloc (by have := q2.size; omega) _
    | true =>
     have hnx : Hid (R0 = runW (steps ++ [x], 0, 0) (a + t.size + 1) (remW l (a + t.size + 1))) := by
      have hlt : T.length = t.size := by rw [← HT.out]; simp
      unfold Hid; rw [HE3.out, run_yes (take_yes ho hm), hlt]
     have hl9 : (steps ++ [x]).length ≤ 8 := takeB_len (take_yes (wn := 0) ho hm) hn8
     clear hin hir HE3 ho hwi HQ0 HQ1 q2 hT hwn
     obtain ⟨xn, xk, xg, xv⟩ := x
     have hcase : (xn = false ∧ steps.length < 8) ∨ (xn = true ∧ steps.length < 8 ∧ ∃ l' y, steps = l' ++ [y] ∧ y.1 = false) := by
      have h8 : steps.length < 8 := by simp [mayB] at hm; exact hm.1
      cases xn with
      | false => exact Or.inl ⟨rfl, h8⟩
      | true =>
       by_cases hs0 : steps = []
       ·rw [hs0] at hm; simp [mayB, endB] at hm
       ·obtain ⟨l', y, rfl⟩ := last_at steps hs0
        refine Or.inr ⟨rfl, h8, l', y, rfl, ?_⟩
        rw [mayB, endB_snoc, decide_eq_true h8] at hm
        cases hy : y.1 with
        | true => rw [hy] at hm; cases hm
        | false => rfl
     clear hm
     rcases hcase with ⟨rfl, h8⟩ | ⟨rfl, h8, l', y, rfl, hy⟩
     ·rcases key with key | ⟨key, k0⟩
      all_goals
       go_wp2_with (first | (go_at_call 109; refine (hwd _).mono ?_; rintro e w1 ⟨rfl, rfl⟩) | (go_at_call 110; refine (hstep _).mono ?_; rintro e w1 ⟨rfl, hb⟩; have d0 := (HRP.out.below hb).c0; have d1 := (HRP.out.below hb).c1; have fr0 := (HRP.out.below hb).fr 0; have nz : N < w1.heap.size := (by have := HRP.out.le; have := hb.size; omega); have nz1 : N + 1 < w1.heap.size := (by have := HRP.out.le; have := hb.size; omega)) | (at_builtin; refine append_rstep _ rfl _ _ rfl (N + 2) _ _ _ rfl (((HRP.out.below hb).own.alloc _).alloc _) _ (stepC (false, xk, xg, xv)) rfl rfl (stepC_at _ (false, xk, xg, xv) _ _ (by simp)) (stepC_one _) hn8 (by have := (HRP.out.below hb).le; simp; omega) ?_))
       intro g2 cap2 w3 hown hgrow
       obtain ⟨hRP2, hB2, d0', fr0'⟩ := HRP.out.appended (x := (false, xk, xg, xv)) (hb.alloc (by have := hb.size; omega) _) (by simpa using hown) hgrow
       clear hown hgrow d0 d1 fr0 hstep hwd hb c0 c1 f0 f1 g0 g1 r0 r1 hq nz nz1 harm
       have HR2 := Hid.mk' hRP2
       have HB2 := Hid.mk' hB2
       clear hRP2 hB2
       go_wp2
       go_roundw
       case rel => exact ⟨a + t.size + 1, _, _, by omega, by go_num, HR2.out, hB.trans HB2.out, hl9, hnx⟩
       case measure => simp [intOf]; omega
     ·have eL : (l' ++ [y]).length = l'.length + 1 := by simp
      have hsome : ∃ g, ad = some ⟨g, 0, none⟩ := by
       rcases HRP.out.own.2 with ⟨h, h0⟩ | ⟨g, cap', cur, h, _⟩
       ·rw [eL] at h0; omega
       ·exact ⟨g, (Value.slice.inj h).1⟩
      obtain ⟨g, rfl⟩ := hsome
      have hlast : Hid (∀ w1, Below wr.heap.size wr w1 → w1.cell? ⟨g, l'.length * 4, none⟩ = some (.bool false)) := fun w1 hb => by rw [(HRP.out.below hb).last, hy]
      have hgz : Hid (g < wr.heap.size) := by
       have := HRP.out.last
       exact block_lt_of_cell this
      have hown0 : Hid (∀ w1, Below wr.heap.size wr w1 → w1.ownsRow (N + 2) 174 4 (.slice (some ⟨g, 0, none⟩) (l'.length + 1) cap) (l'.length + 1) ((l' ++ [y]).flatMap stepC)) := fun w1 hb => by have := (HRP.out.below hb).own; rwa [eL] at this
      rw [eL] at c0 hn8 h8
      have EL := Hid.mk' eL
      have n0 : ((l'.length : Int) + 1 == 0) = false := by simp; omega
      clear eL
      clear hy
      rcases key with key | ⟨key, k0⟩
      all_goals
       go_wp2_with (first | (go_at_call 109; refine (hwd _).mono ?_; rintro e w1 ⟨rfl, rfl⟩) | (go_at_call 110; refine (hstep _).mono ?_; rintro e w1 ⟨rfl, hb⟩; have lc := hlast.out w1 hb; have gz : g < w1.heap.size := (by have := hgz.out; have := hb.size; omega); have d0 := (HRP.out.below hb).c0; have d1 := (HRP.out.below hb).c1; have fr0 := (HRP.out.below hb).fr 0; have nz : N < w1.heap.size := (by have := HRP.out.le; have := hb.size; omega); have nz1 : N + 1 < w1.heap.size := (by have := HRP.out.le; have := hb.size; omega); rw [EL.out] at d0) | (at_builtin; refine append_rstep _ rfl _ _ rfl (N + 2) _ _ _ rfl (((hown0.out _ hb).alloc _).alloc _) _ (stepC (true, xk, xg, xv)) rfl rfl (stepC_at _ (true, xk, xg, xv) _ _ (by simp)) (stepC_one _) hn8 (by have := (HRP.out.below hb).le; simp; omega) ?_))
       intro g2 cap2 w3 hown hgrow
       obtain ⟨hRP2, hB2, d0', fr0'⟩ := HRP.out.appended (x := (true, xk, xg, xv)) (hb.alloc (by have := hb.size; omega) _) (by rw [EL.out]; simpa [List.flatMap_append] using hown) hgrow
       rw [EL.out] at hRP2 hB2
       clear lc gz hown hgrow d0 d1 fr0 hstep hwd hb c0 c1 f0 f1 g0 g1 r0 r1 hq nz nz1 harm
       have HR2 := Hid.mk' hRP2
       have HB2 := Hid.mk' hB2
       clear hRP2 hB2
       go_wp2
       go_roundw
       case rel => exact ⟨a + t.size + 1, _, _, by omega, by go_num, HR2.out, hB.trans HB2.out, hl9, hnx⟩
       case measure => simp [intOf]; omega
end Go.Proofs.YtbgfannlfagoiaaGreatDoor
