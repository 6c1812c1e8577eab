import Derived.Test.YtfgpceejoefkkaaDoorTextsTake
import Derived.Test.YtfgpceejoefkkaaDoorMade
namespace Go.Proofs.YtfgpceejoefkkaaDoor
open Go.RowKit Go.Lull
set_option linter.unusedVariables false

/-- What Parse hands back. -/
def ParsePost (w : World) (o : Nat ⊕ St) (e : Ending) (w' : World) : Prop :=
  ∃ (a : Option Addr) (n cap : Nat) (wn place : Int) (ok : Bool), e = .returned (.tuple #[.agg #[.slice a n cap, .int .i64 wn], .int .i64 place, .bool ok]) ∧ Below w.heap.size w w' ∧
    (match o with
      | .inl p => place = p ∧ ok = false
      | .inr st => place = 0 ∧ ok = true ∧ n = st.1.length ∧ wn = st.2.1 ∧ w'.ownsRow w.heap.size 103 1 (.slice a n cap) st.1.length (st.1.map stepV))

set_option maxHeartbeats 400000 in
theorem parse_long (s : ByteArray) (w : World) (hs : 100 < s.size) :
    Calls Tryd.prog 27 #[.string s] w (ParsePost w (resB s.data.toList)) := by
  have e : resB s.data.toList = .inl 0 := by unfold resB; rw [if_pos (by simpa using hs)]
  rw [e]
  clear e
  go_enter Tryd.func27, Tryd.ntmps27
  go_wp2
  refine bodyPost_ret (v := .tuple #[.agg #[.slice none 0 0, .int .i64 0], .int .i64 0, .bool false]) (by simp [results, Tryd.results27, go_sem]) rfl ⟨none, 0, 0, 0, 0, false, rfl, ?_, rfl, rfl⟩
  exact (Below.refl _ _).alloc (Nat.le_refl _) _

theorem two_set {w1 : World} {N : Nat} {x y : Value} {T : TypeId} (h : w1.heap[N]? = some (.cells #[x, y] T (0, 0))) (a b : Value) :
    ((w1.setCell ⟨N, 0, none⟩ a).setCell ⟨N, 1, none⟩ b).cell? ⟨N, 0, none⟩ = some a ∧ ((w1.setCell ⟨N, 0, none⟩ a).setCell ⟨N, 1, none⟩ b).cell? ⟨N, 1, none⟩ = some b ∧ Below N w1 ((w1.setCell ⟨N, 0, none⟩ a).setCell ⟨N, 1, none⟩ b) := by
  have h1 : (w1.setCell ⟨N, 0, none⟩ a).heap[N]? = some (.cells #[a, y] T (0, 0)) := by rw [heap_setCell_same w1 N 0 _ _ _ h]; rfl
  have h2 : ((w1.setCell ⟨N, 0, none⟩ a).setCell ⟨N, 1, none⟩ b).heap[N]? = some (.cells #[a, b] T (0, 0)) := by rw [heap_setCell_same _ N 1 _ _ _ h1]; rfl
  refine ⟨?_, ?_, ((Below.refl N w1).setCell (p := ⟨N, 0, none⟩) (Nat.le_refl _) a).setCell (p := ⟨N, 1, none⟩) (Nat.le_refl _) b⟩
  · rw [cell_of_row _ N 0 _ _ _ h2]; rfl
  · rw [cell_of_row _ N 1 _ _ _ h2]; rfl

theorem words_split (s : ByteArray) : (Lib.splitB ⟨#[32]⟩ 0 (Lib.countB s ⟨#[32]⟩) s).map (·.data.toList) = words s.data.toList := by
  rw [Lib.splitB_data]; rfl

set_option maxHeartbeats 400000 in
theorem parse_short (s : ByteArray) (m : Int) (w : World) (hs : s.size ≤ 100) (hm : w.cell? ⟨0, 0, none⟩ = some (.int .i64 m)) :
    Calls Tryd.prog 27 #[.string s] w (ParsePost w (resB s.data.toList)) := by
  obtain ⟨ws, hws⟩ : ∃ ws, Lib.splitB ⟨#[32]⟩ 0 (Lib.countB s ⟨#[32]⟩) s = ws := ⟨_, rfl⟩
  have hlen : Lib.countB s ⟨#[32]⟩ + 1 = ws.length := by rw [← hws]; exact (Lib.splitB_all ⟨#[32]⟩ (by decide) 0 _ s rfl).symm
  have hle : ws.length ≤ 101 := by have := Lib.countB_le ⟨#[32]⟩ (by decide) s.size s (Nat.le_refl _); omega
  have hsplit : ∀ w : World, w.cell? ⟨0, 0, none⟩ = some (.int .i64 m) → Calls Tryd.prog 33 #[.string s, .string ⟨#[32]⟩] w fun e w' => e = .returned (.slice (some ⟨w.heap.size, 0, none⟩) ws.length ws.length) ∧ w' = w.alloc (.cells (ws.map Value.string).toArray 9) := by
    intro w hm
    have h := Go.Proofs.Tryd.strings_Split s ⟨#[32]⟩ m w (by omega) hm (by decide)
    rw [hws, hlen] at h
    exact h
  have hwords : ws.map (·.data.toList) = words s.data.toList := by rw [← hws]; exact words_split s
  have hb := block_lt_of_cell hm
  have hwsz : ∀ k, (hk : k < ws.length) → ws[k].size ≤ 100 := by
    intro k hk
    have h1 : ws[k].data.toList ∈ words s.data.toList := by rw [← hwords]; exact List.mem_map.2 ⟨ws[k], List.getElem_mem hk, rfl⟩
    have h2 := words_le _ _ (Nat.le_refl _) _ h1
    have h3 : ws[k].data.toList.length = ws[k].size := by simp
    have h4 : s.data.toList.length = s.size := by simp
    omega
  clear hws hlen
  obtain ⟨N, hN⟩ : ∃ N, w.heap.size = N := ⟨_, rfl⟩
  obtain ⟨w0, hw0⟩ : ∃ w0, ((w.alloc (.cells #[.slice none 0 0, .int .i64 0] 80)).alloc (.cells #[.slice none 0 0, .int .i64 0, .int .i64 0] 95)).alloc (.cells (ws.map Value.string).toArray 9) = w0 := ⟨_, rfl⟩
  have hz : w0.heap.size = N + 3 := by rw [← hw0]; simp [hN]
  have hB0 : Below N w w0 := by
    rw [← hw0, ← hN]
    exact (((Below.refl _ _).alloc (Nat.le_refl _) _).alloc (by simp) _).alloc (by simp; omega) _
  have hR0 : w0.heap[N]? = some (.cells #[.slice none 0 0, .int .i64 0] 80 (0, 0)) := by
    rw [← hw0, ← hN, Below.heap_alloc _ _ _ (by simp; omega), Below.heap_alloc _ _ _ (by simp), heap_alloc_new]
  have hRD0 : RD w0 (N + 1) (N + 3) [] 0 0 (.slice none 0 0) := by
    refine ⟨?_, World.ownsRow_nil _ _ _ _, by omega, by omega⟩
    rw [← hw0, ← hN, Below.heap_alloc _ _ _ (by simp)]
    have := heap_alloc_new (w.alloc (.cells #[.slice none 0 0, .int .i64 0] 80)) (.cells #[.slice none 0 0, .int .i64 0, .int .i64 0] 95)
    simpa using this
  have hW0 : w0.heap[N + 2]? = some (.cells (ws.map Value.string).toArray 9 (0, 0)) := by
    rw [← hw0, ← hN]
    have := heap_alloc_new ((w.alloc (.cells #[.slice none 0 0, .int .i64 0] 80)).alloc (.cells #[.slice none 0 0, .int .i64 0, .int .i64 0] 95)) (.cells (ws.map Value.string).toArray 9)
    simpa using this
  have hres : ∀ (wr : World), BB (N + 3) (N + 1) w0 wr → wr.heap[N]? = some (.cells #[.slice none 0 0, .int .i64 0] 80 (0, 0)) := fun wr h => (h.low.block N (by omega)).trans hR0
  have hlow : ∀ (wr : World), BB (N + 3) (N + 1) w0 wr → Below N w wr := fun wr h => hB0.trans (h.low.mono (by omega))
  have HW : Hid (((w.alloc (.cells #[.slice none 0 0, .int .i64 0] 80)).alloc (.cells #[.slice none 0 0, .int .i64 0, .int .i64 0] 95)).alloc (.cells (ws.map Value.string).toArray 9) = w0) := hw0
  clear hw0
  have HN : Hid (w.heap.size = N) := hN
  clear hN
  go_enter Tryd.func27, Tryd.ntmps27
  go_wp2_with (go_at_call 33; refine (hsplit _ (alloc_keep _ (alloc_keep _ hm))).mono ?_; rintro e w1 ⟨rfl, rfl⟩)
  rw [HW.out]
  simp only [HN.out]
  go_loopw [3, 15] (fun p i wr => ∃ (k P : Nat) (steps : List Stp) (wn : Int) (aw : Nat) (v : Value), k ≤ ws.length ∧ P ≤ 101 * k ∧ p = .int .i64 P ∧ i = .int .i64 k ∧ RD wr (N + 1) (N + 3) steps wn aw v ∧ BB (N + 3) (N + 1) w0 wr ∧ steps.length ≤ 8 ∧ Hid (runW ([], 0, 0) 0 (words s.data.toList) = runW (steps, wn, aw) P ((ws.map (·.data.toList)).drop k))) (fun _ i _ => ws.length - (intOf i).toNat)
  case atStart => exact ⟨0, 0, [], 0, 0, _, Nat.zero_le _, Nat.zero_le _, rfl, rfl, hRD0, BB.refl _ _ _, by simp, by rw [List.drop_zero, hwords]; exact rfl⟩
  case round =>
    obtain ⟨k, P, steps, wn, aw, v, hk, hP, rfl, rfl, hRD, hBB, hn8, HE⟩ := hrel
    by_cases hlt : k < ws.length
    · obtain ⟨t, ht⟩ : ∃ t, ws[k] = t := ⟨_, rfl⟩
      have htz : t.size ≤ 100 := ht ▸ hwsz k hlt
      have hc : wr.cell? ⟨N + 1 + 1, k, none⟩ = some (.string t) := by
        rw [hBB.cell (p := ⟨N + 1 + 1, k, none⟩) (by simp) (by simp), cell_of_row w0 (N + 2) k _ _ _ hW0]
        simp [hlt, ht]
      have hdrop : (ws.map (·.data.toList)).drop k = t.data.toList :: (ws.map (·.data.toList)).drop (k + 1) := by
        rw [List.drop_eq_getElem_cons (by simpa using hlt)]; simp [ht]
      have htake := take_any t wr (N + 1) (N + 3) steps wn aw v (by omega) hn8 hRD
      have HE2 : Hid (runW ([], 0, 0) 0 (words s.data.toList) = match takeB (steps, wn, aw) t.data.toList with | none => .inl P | some st' => runW st' (P + t.data.toList.length + 1) ((ws.map (·.data.toList)).drop (k + 1))) := by
        have := HE.out; rw [hdrop] at this; exact this
      have hlen8 := fun st' (h : takeB (steps, wn, aw) t.data.toList = some st') => takeB_len h hn8
      have hmono := fun wr' (h : BB (N + 3) (N + 1) wr wr') => hBB.trans h
      clear hdrop ht HE hRD hBB
      cases ho : takeB (steps, wn, aw) t.data.toList with
      | none =>
        rw [ho] at htake HE2
        have hend : Hid (resB s.data.toList = .inl P) := by
          unfold Hid resB; rw [if_neg (by simpa using hs), HE2.out]
        clear HE2 ho hlen8
        go_wp2_with (go_at_call 34; refine htake.mono ?_; rintro e w1 ⟨rfl, hB1, _⟩; have r0 := cell_of_row w1 N 0 _ _ _ (hres w1 (hmono w1 hB1)); have r1 := cell_of_row w1 N 1 _ _ _ (hres w1 (hmono w1 hB1)); have g0 := frozen_of_row w1 N 0 _ _ (hres w1 (hmono w1 hB1)); have g1 := frozen_of_row w1 N 1 _ _ (hres w1 (hmono w1 hB1)); simp at r0 r1)
        obtain ⟨q0, q1, q2⟩ := two_set (hres w1 (hmono w1 hB1)) (.slice none 0 0) (.int .i64 0)
        refine bodyPost_ret (v := .tuple #[.agg #[.slice none 0 0, .int .i64 0], .int .i64 P, .bool false]) (by simp [results, Tryd.results27, go_sem, q0, q1]) rfl ⟨none, 0, 0, 0, P, false, rfl, ?_, ?_⟩
        · rw [HN.out]; exact (hlow w1 (hmono w1 hB1)).trans q2
        · rw [hend.out]; exact ⟨rfl, rfl⟩
      | some st' =>
        rw [ho] at htake HE2
        have hl8 := hlen8 st' ho
        have hlt2 : t.data.toList.length = t.size := by simp
        rw [hlt2] at HE2
        clear ho hlen8 hlt2
        have hcall : Calls Tryd.prog 34 #[.pointer (some ⟨N + 1, 0, none⟩), .string t] wr fun e w' => e = .returned (.bool true) ∧ BB (N + 3) (N + 1) wr w' ∧ ∃ v, RD w' (N + 1) (N + 3) st'.1 st'.2.1 st'.2.2 v := by
          refine htake.mono ?_
          rintro e w' ⟨rfl, hB, hR⟩
          exact ⟨rfl, hB, hR st' rfl⟩
        clear htake
        go_wp2_with (go_at_call 34; refine hcall.mono ?_; rintro e w1 ⟨rfl, hB1, v1, hR1⟩)
        go_roundw
        case rel => exact ⟨k + 1, P + t.size + 1, st'.1, st'.2.1, st'.2.2, v1, by omega, by omega, by go_num, by go_num, hR1, hmono w1 hB1, hl8, HE2⟩
        case measure => simp [intOf]; omega
    · have hk2 : (ws.map (·.data.toList)).drop k = [] := List.drop_of_length_le (by simp; omega)
      have hrun : runW ([], 0, 0) 0 (words s.data.toList) = .inr (steps, wn, aw) := by rw [HE.out, hk2]; rfl
      have c2 := hRD.c2
      have r0 := cell_of_row wr N 0 _ _ _ (hres wr hBB)
      have r1 := cell_of_row wr N 1 _ _ _ (hres wr hBB)
      have g0 := frozen_of_row wr N 0 _ _ (hres wr hBB)
      have g1 := frozen_of_row wr N 1 _ _ (hres wr hBB)
      simp at r0 r1
      by_cases ha : aw = 2
      · subst ha
        have hend : Hid (resB s.data.toList = .inr (steps, wn, 2)) := by
          unfold Hid resB; rw [if_neg (by simpa using hs), hrun]; rfl
        obtain ⟨a, cap, hv⟩ := hRD.form
        subst hv
        have c0 := hRD.c0
        have c1 := hRD.c1
        have hown := hRD.own
        have HO : Hid (wr.ownsRow (N + 3) 103 1 (.slice a steps.length cap) steps.length (steps.map stepV)) := hown
        clear hk2 hrun HE hRD hown
        go_wp2
        obtain ⟨q0, q1, q2⟩ := two_set (hres wr hBB) (.slice a steps.length cap) (.int .i64 wn)
        refine bodyPost_ret (v := .tuple #[.agg #[.slice a steps.length cap, .int .i64 wn], .int .i64 0, .bool true]) (by simp [results, Tryd.results27, go_sem, q0, q1]) rfl ⟨a, steps.length, cap, wn, 0, true, rfl, ?_, ?_⟩
        · rw [HN.out]; exact (hlow wr hBB).trans q2
        · rw [hend.out]
          refine ⟨rfl, rfl, rfl, rfl, ?_⟩
          rw [HN.out]
          have h1 := ownsRow_setCell_below HO.out (a := ⟨N, 0, none⟩) (by simp) (.slice a steps.length cap)
          have h2 := ownsRow_setCell_below h1 (a := ⟨N, 1, none⟩) (by simp) (.int .i64 wn)
          exact ⟨h2.1, h2.2.imp id (fun ⟨g, cap, cur, e1, e2, e3⟩ => ⟨g, cap, cur, e1, by omega, e3⟩)⟩
      · have hend : Hid (resB s.data.toList = .inl s.size) := by
          unfold Hid resB; rw [if_neg (by simpa using hs), hrun]
          simp [ha]
        have hq : ((aw : Int) == 2) = false := by simp; omega
        clear hk2 hrun HE hRD
        go_wp2
        obtain ⟨q0, q1, q2⟩ := two_set (hres wr hBB) (.slice none 0 0) (.int .i64 0)
        refine bodyPost_ret (v := .tuple #[.agg #[.slice none 0 0, .int .i64 0], .int .i64 s.size, .bool false]) (by simp [results, Tryd.results27, go_sem, q0, q1]) rfl ⟨none, 0, 0, 0, s.size, false, rfl, ?_, ?_⟩
        · rw [HN.out]; exact (hlow wr hBB).trans q2
        · rw [hend.out]; exact ⟨rfl, rfl⟩

theorem parse_any (s : ByteArray) (m : Int) (w : World) (hm : w.cell? ⟨0, 0, none⟩ = some (.int .i64 m)) :
    Calls Tryd.prog 27 #[.string s] w (ParsePost w (resB s.data.toList)) := by
  by_cases h : 100 < s.size
  · exact parse_long s w h
  · exact parse_short s m w (by omega) hm
end Go.Proofs.YtfgpceejoefkkaaDoor
