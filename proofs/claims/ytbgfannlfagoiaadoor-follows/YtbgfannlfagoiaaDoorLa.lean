import Derived.Test.YtbgfannlfagoiaaDoorKd
import Derived.Test.YtbgfannlfagoiaaDoorPure
namespace Go.Proofs.YtbgfannlfagoiaaDoor
open Go.RowKit Go.Lull
set_option linter.unusedVariables false

theorem TW.mk' {ex ey : Nat} {w0 w1 w2 : World} {sx sy : En} {F : List Nat} (h1 : At w0.heap.size ex w0 sx F w1) (h2 : At w1.heap.size ey w1 sy [] w2) : TW w0.heap.size ex ey w0 sx sy F w2 := by
  obtain ⟨cx, k1, k2, k3⟩ := h1
  obtain ⟨cy, l1, l2, l3⟩ := h2
  have hs := k1.below.size
  refine ⟨cx, cy, k1.then (Nat.le_refl _) l1.below, ⟨l1.eg, k1.below.trans (l1.below.mono hs), fun b hb => Nat.le_trans hs (l1.new b hb)⟩, k2, l2, fun b hb hm => ?_, fun b hb => ⟨Nat.lt_of_lt_of_le (k3 b hb).1 l1.below.size, (k3 b hb).2, fun hm => ?_⟩⟩
  · have := k1.eg.lt b hb
    have := l1.new b hm
    omega
  · have := (k3 b hb).1
    have := l1.new b hm
    omega
theorem TW.new {N ex ey : Nat} {w0 w w' : World} {sx sy : En} {F G : List Nat} (h : TW N ex ey w0 sx sy F w) (hN : N ≤ w0.heap.size) (hb : Below w.heap.size w w') (hG : ∀ b ∈ G, w.heap.size ≤ b ∧ b < w'.heap.size) : TW N ex ey w0 sx sy (F ++ G) w' := by
  obtain ⟨cx, cy, h1, h2, h3, h4, h5, h6⟩ := h
  refine ⟨cx, cy, h1.then hN hb, h2.then hN hb, h3, h4, h5, fun b hb' => ?_⟩
  rcases List.mem_append.1 hb' with h7 | h7
  · exact ⟨Nat.lt_of_lt_of_le (h6 b h7).1 hb.size, (h6 b h7).2⟩
  · have := hG b h7
    exact ⟨this.2, fun hm => by have := h1.eg.lt b hm; omega, fun hm => by have := h2.eg.lt b hm; omega⟩
theorem TW.then {N ex ey : Nat} {w0 w w' : World} {sx sy : En} {F : List Nat} (h : TW N ex ey w0 sx sy F w) (hN : N ≤ w0.heap.size) (hb : Below w.heap.size w w') : TW N ex ey w0 sx sy F w' := by
  have := h.new (G := []) hN hb (by simp)
  rwa [List.append_nil] at this
theorem MS.same {w w' : World} {v : Value} {L : List (Mt × Value)} (h : MS w v L) (hs : ∀ b ∈ v.ownBlock.toList ++ eblk (L.map fp), w'.heap[b]? = w.heap[b]?) : MS w' v L := by
  refine ⟨h.row.same (fun b hb => hs b (by simp [hb])), fun x hx => (h.ev x hx).same (fun b hb => hs b (List.mem_append_right _ ?_))⟩
  exact mem_eblk.2 ⟨fp x, List.mem_map.2 ⟨x, hx, rfl⟩, hb⟩

theorem evP_ok (p : Int) (h0 : 0 ≤ p) : properB 3 (evP p) = true ∧ 1 ≤ (evP p).2.1 ∧ (evP p).2.1 ≤ 60 := by
  have a1 := Int.emod_nonneg p (show (3 : Int) ≠ 0 by omega)
  have a2 := Int.emod_lt_of_pos p (show (0 : Int) < 3 by omega)
  have b1 := Int.emod_nonneg (p / 9) (show (60 : Int) ≠ 0 by omega)
  have b2 := Int.emod_lt_of_pos (p / 9) (show (0 : Int) < 60 by omega)
  have c1 := Int.emod_nonneg (p / 3) (show (3 : Int) ≠ 0 by omega)
  have c2 := Int.emod_lt_of_pos (p / 3) (show (0 : Int) < 3 by omega)
  have d1 := Int.emod_nonneg (p / 540) (show (5 : Int) ≠ 0 by omega)
  have d2 := Int.emod_lt_of_pos (p / 540) (show (0 : Int) < 5 by omega)
  have e3 : (UInt8.ofNat (97 + (p / 3 % 3).toNat)).toNat = 97 + (p / 3 % 3).toNat := by
    simp only [UInt8.toNat_ofNat']; omega
  refine ⟨?_, by show 1 ≤ 1 + p / 9 % 60; omega, by show 1 + p / 9 % 60 ≤ 60; omega⟩
  unfold properB evP
  simp only [e3, Bool.and_eq_true, decide_eq_true_eq]
  refine ⟨⟨⟨⟨by omega, by omega⟩, by omega, by omega⟩, by omega, by omega⟩, by omega, by omega⟩
theorem evsB_ok (raw : List Int) : ∀ e ∈ evsB raw, properB 3 e = true ∧ 1 ≤ e.2.1 ∧ e.2.1 ≤ 60 := by
  intro e he
  obtain ⟨c, _, rfl⟩ := List.mem_map.1 he
  exact evP_ok _ (pickI_nn c 1099511627776 (by omega)).1
theorem SO.start (a b c : List Int) : SO 0 (qE a b c) := by
  refine ⟨rfl, List.Pairwise.nil, (fun e he => by cases he), ?_, Nat.le_refl _, newQs_nr _ _, by show 3 ≤ 3; omega, ?_⟩
  · intro q hq
    obtain ⟨_, _, h3, h4⟩ := newQs_num _ _ q hq
    show q.found.length + q.runs.length + 0 ≤ 0
    rw [h3, h4]; decide
  · intro q hq m hm
    obtain ⟨_, _, h3, _⟩ := newQs_num _ _ q hq
    rw [h3] at hm; cases hm
end Go.Proofs.YtbgfannlfagoiaaDoor

namespace Go.Proofs.YtbgfannlfagoiaaDoor
open Go.RowKit Go.Lull
set_option linter.unusedVariables false

/-- The two Engines of Late, at one state; the events. -/
structure LT (w0 wr : World) (ex ey : Nat) (s : En) (lv : Value) (l : List Ev) (k : Nat) : Prop where
  tw : TW w0.heap.size ex ey w0 s s lv.ownBlock.toList wr
  so : SO k s
  row : Row wr 56 4 lv l.length (l.flatMap evC)
section
variable {w0 wr : World} {ex ey : Nat} {s : En} {lv : Value} {l : List Ev} {k : Nat}
/-- A call upon the first, then the same upon the second. -/
theorem LT.left (h : LT w0 wr ex ey s lv l k) : ∃ G, At w0.heap.size ex w0 s (G ++ lv.ownBlock.toList) wr ∧ ∀ s' w', At w0.heap.size ex w0 s' (G ++ lv.ownBlock.toList) w' → Same (G ++ lv.ownBlock.toList) wr w' → TW w0.heap.size ex ey w0 s' s lv.ownBlock.toList w' ∧ Row w' 56 4 lv l.length (l.flatMap evC) := by
  obtain ⟨G, h1, h2⟩ := h.tw.left
  refine ⟨G, h1, fun s' w' hA hS => ⟨?_, h.row.same (fun b hb => hS.2 b (List.mem_append_right _ (by simp [hb])))⟩⟩
  have := h2 s' [] w' (by rw [List.append_nil]; exact hA) hS (by simp)
  rwa [List.append_nil] at this
end
/-- The same upon the second: both stand alike. -/
theorem lt_right {w0 w1 : World} {ex ey : Nat} {s s' : En} {lv : Value} {l : List Ev} {k : Nat} (h : TW w0.heap.size ex ey w0 s' s lv.ownBlock.toList w1) (hr : Row w1 56 4 lv l.length (l.flatMap evC)) (hso : SO k s') :
    ∃ G, At w0.heap.size ey w0 s (G ++ lv.ownBlock.toList) w1 ∧ ∀ w', At w0.heap.size ey w0 s' (G ++ lv.ownBlock.toList) w' → Same (G ++ lv.ownBlock.toList) w1 w' → LT w0 w' ex ey s' lv l k := by
  obtain ⟨G, h1, h2⟩ := h.swap.left
  refine ⟨G, h1, fun w' hA hS => ⟨?_, hso, hr.same (fun b hb => hS.2 b (List.mem_append_right _ (by simp [hb])))⟩⟩
  have := h2 s' [] w' (by rw [List.append_nil]; exact hA) hS (by simp)
  rw [List.append_nil] at this
  exact this.swap

section
variable {w0 wr : World} {ex ey : Nat} {s : En} {lv : Value} {l : List Ev} {k : Nat} {x : Ev}
/-- Beat upon both. -/
theorem lt_beats (h : LT w0 wr ex ey s lv l k) (hk : k ≤ 1000) (a t : Int) :
    Calls Tryd.prog 22 #[.pointer (some ⟨ex, 0, none⟩), .int .i64 a, .int .i64 t] wr fun e w1 => e = .returned (.int .i64 (beatE s a t).1) ∧ Hid (Calls Tryd.prog 22 #[.pointer (some ⟨ey, 0, none⟩), .int .i64 a, .int .i64 t] w1 fun e w2 => e = .returned (.int .i64 (beatE s a t).1) ∧ Hid (LT w0 w2 ex ey (beatE s a t).2 lv l k)) := by
  obtain ⟨G, h1, h2⟩ := h.left
  refine (at_beat (src := a) (t := t) h1 (Nat.le_refl _) h.so.tm (h.so.z hk)).mono ?_
  rintro e w1 ⟨rfl, hA, hS⟩
  refine ⟨rfl, ?_⟩
  obtain ⟨k1, k2⟩ := h2 _ w1 hA hS
  obtain ⟨G', l1, l2⟩ := lt_right k1 k2 (h.so.beat a t)
  refine (at_beat (src := a) (t := t) l1 (Nat.le_refl _) h.so.tm (h.so.z hk)).mono ?_
  rintro e w2 ⟨rfl, hA', hS'⟩
  exact ⟨rfl, l2 w2 hA' hS'⟩
/-- An event that is late. -/
theorem lt_late (h : LT w0 wr ex ey s lv l k) (x : Ev) (hp : properB 3 x = true) (hl : x.2.1 < markB s.marks) :
    Calls Tryd.prog 21 #[.pointer (some ⟨ex, 0, none⟩), .slice (some ⟨wr.heap.size, 0, none⟩) 1 1] (wr.alloc (.cells #[.int .i64 x.1, .int .i64 x.2.1, .int .u8 x.2.2.1.toNat, .int .i64 x.2.2.2] 56)) fun e w1 => e = .returned (.tuple #[.int .i64 0, .int .i64 5]) ∧ Hid (LT w0 w1 ex ey s lv l k) := by
  obtain ⟨G, h1, h2⟩ := h.left
  refine (at_offer1 (x := x) h1 (Nat.le_refl _) h.so.sb rfl).mono ?_
  rw [offer_late (by rw [h.so.m3]; exact hp) hl]
  rintro e w1 ⟨rfl, hA, hS⟩
  obtain ⟨k1, k2⟩ := h2 _ w1 hA hS
  exact ⟨rfl, k1, h.so, k2⟩
/-- One that is not. -/
theorem lt_taken (h : LT w0 wr ex ey s lv l k) (hk : k < 60) (x : Ev) (hp : properB 3 x = true) (h0 : 1 ≤ x.2.1) (h60 : x.2.1 ≤ 60) (hl : ¬ x.2.1 < markB s.marks) :
    Calls Tryd.prog 21 #[.pointer (some ⟨ex, 0, none⟩), .slice (some ⟨wr.heap.size, 0, none⟩) 1 1] (wr.alloc (.cells #[.int .i64 x.1, .int .i64 x.2.1, .int .u8 x.2.2.1.toNat, .int .i64 x.2.2.2] 56)) fun e w1 => e = .returned (.tuple #[.int .i64 1, .int .i64 0]) ∧ Hid (TW w0.heap.size ex ey w0 { s with buf := putB s.buf x } s lv.ownBlock.toList w1 ∧ Row w1 56 4 lv l.length (l.flatMap evC)) ∧
      Hid (Calls Tryd.prog 21 #[.pointer (some ⟨ey, 0, none⟩), .slice (some ⟨w1.heap.size, 0, none⟩) 1 1] (w1.alloc (.cells #[.int .i64 x.1, .int .i64 x.2.1, .int .u8 x.2.2.1.toNat, .int .i64 x.2.2.2] 56)) fun e w2 => e = .returned (.tuple #[.int .i64 1, .int .i64 0]) ∧ Hid (LT w0 w2 ex ey { s with buf := putB s.buf x } lv l (k + 1))) := by
  have hb : s.buf.length < 60 := by have := h.so.bl; omega
  have hof := offer_ok (s := s) (e := x) (by rw [h.so.m3]; exact hp) hl hb
  obtain ⟨G, h1, h2⟩ := h.left
  refine (at_offer1 (x := x) h1 (Nat.le_refl _) h.so.sb rfl).mono ?_
  rw [hof]
  rintro e w1 ⟨rfl, hA, hS⟩
  obtain ⟨k1, k2⟩ := h2 _ w1 hA hS
  refine ⟨rfl, ⟨k1, k2⟩, ?_⟩
  obtain ⟨G', l1, l2⟩ := lt_right k1 k2 (h.so.put (by omega) (by omega))
  refine (at_offer1 (x := x) l1 (Nat.le_refl _) h.so.sb rfl).mono ?_
  rw [hof]
  rintro e w2 ⟨rfl, hA', hS'⟩
  exact ⟨rfl, l2 w2 hA' hS'⟩
theorem tw_wm {N : Nat} {sx sy : En} {F : List Nat} (h : TW N ex ey w0 sx sy F wr) : Calls Tryd.prog 31 #[.pointer (some ⟨ex, 0, none⟩)] wr fun e w' => e = .returned (.int .i64 (markB sx.marks)) ∧ w' = wr := by
  obtain ⟨G, h1, _⟩ := h.left
  exact at_wm h1
theorem TW.drewN {N : Nat} {sx sy : En} {F : List Nat} (h : TW N ex ey w0 sx sy F wr) (hN : N ≤ w0.heap.size) (q : Nat) : TW N ex ey w0 sx sy F (wr.drewN q) := h.then hN (below_drewN (Below.refl _ _) q)
/-- The second takes it too. -/
theorem lt_take2 {W : World} (h : TW w0.heap.size ex ey w0 { s with buf := putB s.buf x } s lv.ownBlock.toList W) (hr : Row W 56 4 lv l.length (l.flatMap evC)) (hso : SO k s) (hk : k < 60) (hp : properB 3 x = true) (h0 : 1 ≤ x.2.1) (h60 : x.2.1 ≤ 60) (hl : ¬ x.2.1 < markB s.marks) :
    Calls Tryd.prog 21 #[.pointer (some ⟨ey, 0, none⟩), .slice (some ⟨W.heap.size, 0, none⟩) 1 1] (W.alloc (.cells #[.int .i64 x.1, .int .i64 x.2.1, .int .u8 x.2.2.1.toNat, .int .i64 x.2.2.2] 56)) fun e w2 => e = .returned (.tuple #[.int .i64 1, .int .i64 0]) ∧ Hid (LT w0 w2 ex ey { s with buf := putB s.buf x } lv l (k + 1)) := by
  have hb : s.buf.length < 60 := by have := hso.bl; omega
  have hof := offer_ok (s := s) (e := x) (by rw [hso.m3]; exact hp) hl hb
  obtain ⟨G', l1, l2⟩ := lt_right h hr (hso.put (by omega) (by omega))
  refine (at_offer1 (x := x) l1 (Nat.le_refl _) hso.sb rfl).mono ?_
  rw [hof]
  rintro e w2 ⟨rfl, hA', hS'⟩
  exact ⟨rfl, l2 w2 hA' hS'⟩
/-- Both are drained, and what comes out is the same. -/
theorem tw_same {F : List Nat} (h : TW w0.heap.size ex ey w0 s s F wr) (hso : SO k s) (hk : k ≤ 1000) (n : Int) :
    Calls Tryd.prog 25 #[.pointer (some ⟨ex, 0, none⟩), .int .i64 n] wr fun e w1 => ∃ v1, e = .returned v1 ∧ Hid (Calls Tryd.prog 25 #[.pointer (some ⟨ey, 0, none⟩), .int .i64 n] w1 fun e w2 => ∃ v2, e = .returned v2 ∧ Hid (Calls Tryd.prog 26 #[v1, v2] w2 fun e w3 => e = .returned (.bool true) ∧ Below w0.heap.size w0 w3)) := by
  have ht := hso.tot
  obtain ⟨G, h1, h2⟩ := h.left
  refine (at_drain (n := n) h1 (Nat.le_refl _) hso.nr (by omega)).mono ?_
  rintro e w1 ⟨v1, L1, rfl, hL1, hM1, hA1, hS1, hF1⟩
  refine ⟨v1, rfl, ?_⟩
  have k1 := h2 _ _ w1 hA1 hS1 (fun b hb hm => hF1 b hb (List.mem_append_left _ hm))
  obtain ⟨G', l1, l2⟩ := k1.swap.left
  refine (at_drain (n := n) l1 (Nat.le_refl _) hso.nr (by omega)).mono ?_
  rintro e w2 ⟨v2, L2, rfl, hL2, hM2, hA2, hS2, hF2⟩
  refine ⟨v2, rfl, ?_⟩
  have hM1' : MS w2 v1 L1 := hM1.same (fun b hb => hS2.2 b (List.mem_append_right _ (List.mem_append_right _ hb)))
  have hlen : L1.length ≤ 1000000 := by
    have e1 : L1.length = (drainE n.toNat s).1.length := by rw [← hL1]; simp
    have e2 : ∀ (m : Nat) (s : En), (drainE m s).1.length ≤ totF s.qs := by
      intro m
      induction m with
      | zero => intro s; simp [drainE]
      | succ m ih =>
        intro s
        cases hs : serveE s with
        | none => rw [drainE_none hs]; simp
        | some x =>
          obtain ⟨mt, s'⟩ := x
          rw [drainE_some hs]
          have := (serveE_less hs).1
          have := ih s'
          simp only [List.length_cons]; omega
    have := e2 n.toNat s
    omega
  refine (same_yes w2 v1 v2 L1 L2 hM1' hM2 (hL1.trans hL2.symm) hlen).mono ?_
  rintro e w3 ⟨rfl, q, rfl⟩
  exact ⟨rfl, below_drewN hA2.below q⟩
end
end Go.Proofs.YtbgfannlfagoiaaDoor
