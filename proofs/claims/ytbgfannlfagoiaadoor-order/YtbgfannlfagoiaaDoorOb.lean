import Derived.Test.YtbgfannlfagoiaaDoorOa
namespace Go.Proofs.YtbgfannlfagoiaaDoor
open Go.RowKit Go.Lull
set_option linter.unusedVariables false

/-- Two Engines, and two rows of events that are none of theirs. -/
structure T2 (w0 wr : World) (ex ey : Nat) (sx sy : En) (lv : Value) (l : List Ev) (mv : Value) (T : List Ev) : Prop where
  tw : TW w0.heap.size ex ey w0 sx sy (lv.ownBlock.toList ++ mv.ownBlock.toList) wr
  r1 : Row wr 56 4 lv l.length (l.flatMap evC)
  r2 : Row wr 56 4 mv T.length (T.flatMap evC)
section
variable {w0 wr w' : World} {ex ey : Nat} {sx sy s' : En} {lv mv : Value} {l T : List Ev}
theorem T2.swap (h : T2 w0 wr ex ey sx sy lv l mv T) : T2 w0 wr ey ex sy sx lv l mv T := ⟨h.tw.swap, h.r1, h.r2⟩
theorem T2.left (h : T2 w0 wr ex ey sx sy lv l mv T) : ∃ G, At w0.heap.size ex w0 sx (G ++ (lv.ownBlock.toList ++ mv.ownBlock.toList)) wr ∧ ∀ s' w', At w0.heap.size ex w0 s' (G ++ (lv.ownBlock.toList ++ mv.ownBlock.toList)) w' → Same (G ++ (lv.ownBlock.toList ++ mv.ownBlock.toList)) wr w' → T2 w0 w' ex ey s' sy lv l mv T := by
  obtain ⟨G, h1, h2⟩ := h.tw.left
  refine ⟨G, h1, fun s' w' hA hS => ⟨?_, h.r1.same (fun b hb => hS.2 b (List.mem_append_right _ (List.mem_append_left _ (by simp [hb])))), h.r2.same (fun b hb => hS.2 b (List.mem_append_right _ (List.mem_append_right _ (by simp [hb]))))⟩⟩
  have := h2 s' [] w' (by rw [List.append_nil]; exact hA) hS (by simp)
  rwa [List.append_nil] at this
end
/-- fed, upon an Engine with three queries. -/
theorem at_fed {w0 wr : World} {eb : Nat} {F : List Nat} {lv vb : Value} {l : List Ev} {a b c : List Int} (h : At w0.heap.size eb w0 (qE a b c) F wr) (hrow : Row wr 56 4 lv l.length (l.flatMap evC)) (hv : ∀ k, lv.ownBlock = some k → k ∈ F) (hl : l.length ≤ 40) (hok : ∀ e ∈ l, properB 3 e = true ∧ 1 ≤ e.2.1 ∧ e.2.1 ≤ 60) (beats : List Int) (hb : RAW w0 vb beats) :
    Calls Tryd.prog 27 #[.pointer (some ⟨eb, 0, none⟩), lv, vb] wr fun e w' => e = .returned (.bool true) ∧ At w0.heap.size eb w0 (finE a b c l) F w' ∧ Same F wr w' ∧ SO l.length (finE a b c l) := by
  have hfs : FS (qE a b c).qs ((qE a b c).next, (qE a b c).tq, (qE a b c).tr) l 0 (qE a b c) := FS.start (SO.start a b c) rfl (qE_runs a b c) (fun e he => (hok e he).2.1)
  refine (fed_any (w0 := w0) ⟨h, ⟨Nat.le_refl _, fun _ _ => rfl⟩, hfs⟩ lv vb hrow hv hl hok beats hb).mono ?_
  rintro e w' ⟨rfl, s', hA, hS, p1, p2, p3, p4⟩
  have hs' : s' = finE a b c l := by
    obtain ⟨mk, bf, qs, nx, tq, tr⟩ := s'
    have e1 : bf = (pass 2000000 (putAll [] l, (qE a b c).qs)).1 := congrArg Prod.fst p1
    have e2 : qs = (pass 2000000 (putAll [] l, (qE a b c).qs)).2 := congrArg Prod.snd p1
    have e3 : nx = 4 := congrArg Prod.fst p3
    have e4 : tq = 0 := congrArg (fun z => z.2.1) p3
    have e5 : tr = (qE a b c).tr := congrArg (fun z => z.2.2) p3
    have e6 : mk = [2000000, 2000000, 2000000] := p4
    subst e1 e2 e3 e4 e5 e6
    rfl
  subst hs'
  exact ⟨rfl, hA, hS, p2⟩
theorem finE_eq {a b c : List Int} {l m : List Ev} (h : putAll [] l = putAll [] m) : finE a b c l = finE a b c m := by unfold finE; rw [h]
theorem putAll_twice (l : List Ev) : putAll [] (putAll [] l) = putAll [] l := by
  have := putAll_sorted (putAll [] l) [] (by rw [List.nil_append]; exact SB.putAll _ _ List.Pairwise.nil)
  simpa using this

set_option maxRecDepth 8000 in
set_option maxHeartbeats 4000000 in
theorem ordr_any (w : World) (m : Int) (hm : w.cell? ⟨0, 0, none⟩ = some (.int .i64 m)) (v0 v1 v2 v3 v4 v5 : Value) (raw turn beats a b c : List Int) (h0 : RAW w v0 raw) (h1 : RAW w v1 turn) (h2 : RAW w v2 beats) (h3 : RAW w v3 a) (h4 : RAW w v4 b) (h5 : RAW w v5 c) :
    Calls Tryd.prog 8 #[v0, v1, v2, v3, v4, v5] w fun e w' => e = .returned (.bool true) ∧ Below w.heap.size w w' := by
  have hz0 : 0 < w.heap.size := block_lt_of_cell hm
  have hop1 : Hid (Calls Tryd.prog 15 #[] w fun e w' => ∃ eb, e = .returned (.pointer (some ⟨eb, 0, none⟩)) ∧ Hid (At w.heap.size eb w openE [] w')) := opened_any w m hm
  have hop2 : Hid (∀ ex w1, At w.heap.size ex w openE [] w1 → Calls Tryd.prog 15 #[] w1 fun e w' => ∃ eb, e = .returned (.pointer (some ⟨eb, 0, none⟩)) ∧ Hid (TW w.heap.size ex eb w openE openE [] w')) := by
    intro ex w1 hA
    refine (opened_any w1 m ((hA.below.cell (p := ⟨0, 0, none⟩) hz0).trans hm)).mono ?_
    rintro e w2 ⟨eb, rfl, hB⟩
    exact ⟨eb, rfl, TW.mk' hA hB⟩
  have hev : Hid (∀ ex ey w2, TW w.heap.size ex ey w openE openE [] w2 → Calls Tryd.prog 18 #[v0] w2 fun e w' => ∃ lv, e = .returned lv ∧ Hid (TL w w' ex ey openE openE lv (evsB raw))) := by
    intro ex ey w2 hT
    refine (events_any w2 v0 raw (h0.mono hT.below)).mono ?_
    rintro e w3 ⟨v', rfl, hN⟩
    refine ⟨v', rfl, ?_, hN.row⟩
    have := hT.new (G := v'.ownBlock.toList) (Nat.le_refl _) hN.below (fun x hx => ⟨hN.new x (by simpa using hx), hN.row.lt x (by simpa using hx)⟩)
    rwa [List.nil_append] at this
  have hel := evsB_len raw
  have hevs := evsB_ok raw
  generalize evsB raw = l at hev hel hevs
  have hturn : Hid (∀ ex ey W lv, TL w W ex ey openE openE lv l → Calls Tryd.prog 29 #[lv, v1] W fun e w' => ∃ mv T, e = .returned mv ∧ Hid (putAll [] T = putAll [] l ∧ T.length = l.length ∧ ∀ e ∈ T, e ∈ l) ∧ Hid (T2 w w' ex ey openE openE lv l mv T)) := by
    intro ex ey W lv hT
    refine (turned_any W lv v1 l hT.row (by omega) turn (h1.mono hT.tw.below)).mono ?_
    rintro e w3 ⟨mv, T, rfl, hN, p1, p2, p3⟩
    refine ⟨mv, T, rfl, ⟨p1, p2, p3⟩, ?_, hT.row.same (fun k hk => hN.below.block k (hT.row.lt k hk)), hN.row⟩
    exact hT.tw.new (G := mv.ownBlock.toList) (Nat.le_refl _) hN.below (fun x hx => ⟨hN.new x (by simpa using hx), hN.row.lt x (by simpa using hx)⟩)
  have hq : Hid (∀ ex ey sy W lv mv T, T2 w W ex ey openE sy lv l mv T → Calls Tryd.prog 30 #[.pointer (some ⟨ex, 0, none⟩), v3, v4, v5] W fun e w' => e = .returned (.bool true) ∧ Hid (T2 w w' ex ey (qE a b c) sy lv l mv T)) := by
    intro ex ey sy W lv mv T hT
    obtain ⟨G, k1, k2⟩ := hT.left
    refine (queries_any m hm v3 v4 v5 a b c h3 h4 h5 k1).mono ?_
    rintro e w3 ⟨rfl, hA, hS⟩
    exact ⟨rfl, k2 _ w3 hA hS⟩
  obtain ⟨S, hS⟩ : ∃ S, putAll [] l = S := ⟨_, rfl⟩
  have hSl : S.length ≤ 40 := by rw [← hS, putAll_len]; simpa using hel
  have hSok : ∀ e ∈ S, properB 3 e = true ∧ 1 ≤ e.2.1 ∧ e.2.1 ≤ 60 := fun e he => hevs e (by rw [← hS] at he; exact ((mem_putAll _ _).1 he).elim (fun h => by cases h) id)
  have hsort : Hid (∀ ex ey W lv mv T, T2 w W ex ey (qE a b c) (qE a b c) lv l mv T → Calls Tryd.prog 17 #[lv] W fun e w' => ∃ sv, e = .returned sv ∧ Hid (T2 w w' ex ey (qE a b c) (qE a b c) sv S mv T)) := by
    intro ex ey W lv mv T hT
    refine (sorted_any W lv l hT.r1 (by omega)).mono ?_
    rintro e w3 ⟨sv, rfl, hN⟩
    rw [hS] at hN
    refine ⟨sv, rfl, ?_, hN.row, hT.r2.same (fun k hk => hN.below.block k (hT.r2.lt k hk))⟩
    have := hT.tw.new (G := sv.ownBlock.toList) (Nat.le_refl _) hN.below (fun x hx => ⟨hN.new x (by simpa using hx), hN.row.lt x (by simpa using hx)⟩)
    refine this.sub (fun x hx => ?_)
    rcases List.mem_append.1 hx with h | h
    · exact List.mem_append_right _ h
    · exact List.mem_append_left _ (List.mem_append_right _ h)
  have hf1 : Hid (∀ ex ey W sv mv T, T2 w W ex ey (qE a b c) (qE a b c) sv S mv T → Calls Tryd.prog 27 #[.pointer (some ⟨ex, 0, none⟩), sv, .slice none 0 0] W fun e w' => e = .returned (.bool true) ∧ Hid (T2 w w' ex ey (finE a b c S) (qE a b c) sv S mv T ∧ SO S.length (finE a b c S))) := by
    intro ex ey W sv mv T hT
    obtain ⟨G, k1, k2⟩ := hT.left
    refine (at_fed (vb := .slice none 0 0) k1 hT.r1 (fun k hk => List.mem_append_right _ (List.mem_append_left _ (by simp [hk]))) hSl hSok [] ⟨⟨none, 0, 0, 0, rfl, Nat.le_refl _, fun h => absurd rfl h, (fun k hk => by cases hk)⟩, (fun c hc => by cases hc), Nat.zero_le _⟩).mono ?_
    rintro e w3 ⟨rfl, hA, hS', hso⟩
    exact ⟨rfl, k2 _ w3 hA hS', hso⟩
  have hf2 : Hid (∀ ex ey W sv mv T, (putAll [] T = putAll [] l ∧ T.length = l.length ∧ ∀ e ∈ T, e ∈ l) → T2 w W ex ey (finE a b c S) (qE a b c) sv S mv T → Calls Tryd.prog 27 #[.pointer (some ⟨ey, 0, none⟩), mv, v2] W fun e w' => e = .returned (.bool true) ∧ Hid (T2 w w' ex ey (finE a b c S) (finE a b c S) sv S mv T)) := by
    intro ex ey W sv mv T hp hT
    obtain ⟨G, k1, k2⟩ := hT.swap.left
    have heq : finE a b c T = finE a b c S := finE_eq (by rw [hp.1, ← hS, putAll_twice])
    refine (at_fed (vb := v2) k1 hT.r2 (fun k hk => List.mem_append_right _ (List.mem_append_right _ (by simp [hk]))) (by rw [hp.2.1]; exact hel) (fun e he => hevs e (hp.2.2 e he)) beats h2).mono ?_
    rintro e w3 ⟨rfl, hA, hS', hso⟩
    rw [heq] at hA
    exact ⟨rfl, (k2 _ w3 hA hS').swap⟩
  have hds : Hid (∀ ex ey W sv mv T, T2 w W ex ey (finE a b c S) (finE a b c S) sv S mv T → SO S.length (finE a b c S) → _) := fun ex ey W sv mv T hT hso => tw_same hT.tw hso (by omega) 1000
  clear h0 h1 h2 h3 h4 h5 hm hevs hS hSok
  go_enter Tryd.func8, Tryd.ntmps8
  go_wp2_with (first
    | (go_at_call 15; with_reducible refine hop1.out.mono ?_; rintro e w1 ⟨ex, rfl, hA1⟩)
    | (go_at_call 15; with_reducible refine (hop2.out ex w1 hA1.out).mono ?_; rintro e w2 ⟨ey, rfl, hT2⟩)
    | (go_at_call 18; with_reducible refine (hev.out ex ey w2 hT2.out).mono ?_; rintro e w3 ⟨lv, rfl, hT3⟩)
    | (go_at_call 29; with_reducible refine (hturn.out ex ey w3 lv hT3.out).mono ?_; rintro e w4 ⟨mv, T, rfl, hp, hT4⟩)
    | (go_at_call_of 30 (Value.pointer (some ⟨ex, 0, none⟩)); with_reducible refine (hq.out ex ey _ w4 lv mv T hT4.out).mono ?_; rintro e w5 ⟨rfl, hT5⟩)
    | (go_at_call_of 30 (Value.pointer (some ⟨ey, 0, none⟩)); with_reducible refine (hq.out ey ex _ w5 lv mv T hT5.out.swap).mono ?_; rintro e w6 ⟨rfl, hT6⟩)
    | (go_at_call 17; with_reducible refine (hsort.out ex ey w6 lv mv T hT6.out.swap).mono ?_; rintro e w7 ⟨sv, rfl, hT7⟩)
    | (go_at_call_of 27 (Value.pointer (some ⟨ex, 0, none⟩)); with_reducible refine (hf1.out ex ey w7 sv mv T hT7.out).mono ?_; rintro e w8 ⟨rfl, hT8⟩)
    | (go_at_call_of 27 (Value.pointer (some ⟨ey, 0, none⟩)); with_reducible refine (hf2.out ex ey w8 sv mv T hp.out hT8.out.1).mono ?_; rintro e w9 ⟨rfl, hT9⟩)
    | (go_at_call_of 25 (Value.pointer (some ⟨ex, 0, none⟩)); with_reducible refine (hds.out ex ey w9 sv mv T hT9.out hT8.out.2).mono ?_; rintro e w10 ⟨dv, rfl, hd2⟩)
    | (go_at_call_of 25 (Value.pointer (some ⟨ey, 0, none⟩)); with_reducible refine hd2.out.mono ?_; rintro e w11 ⟨dv2, rfl, hd3⟩)
    | (go_at_call 26; with_reducible refine hd3.out.mono ?_; rintro e w12 ⟨rfl, hB8⟩))
  go_ret
  exact ⟨rfl, hB8⟩
end Go.Proofs.YtbgfannlfagoiaaDoor
