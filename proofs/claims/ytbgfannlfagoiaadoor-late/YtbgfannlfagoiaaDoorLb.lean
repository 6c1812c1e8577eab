import Derived.Test.YtbgfannlfagoiaaDoorLa
namespace Go.Proofs.YtbgfannlfagoiaaDoor
open Go.RowKit Go.Lull
set_option linter.unusedVariables false

theorem so_late {k : Nat} {s : En} (h : SO k s) : SO (k + 1) s := h.mono (by omega)
theorem LT.late {w0 wr : World} {ex ey : Nat} {s : En} {lv : Value} {l : List Ev} {k : Nat} (h : LT w0 wr ex ey s lv l k) : LT w0 wr ex ey s lv l (k + 1) := ⟨h.tw, so_late h.so, h.row⟩
theorem LT.drewN {w0 wr : World} {ex ey : Nat} {s : En} {lv : Value} {l : List Ev} {k : Nat} (h : LT w0 wr ex ey s lv l k) (q : Nat) : LT w0 (wr.drewN q) ex ey s lv l k := ⟨h.tw.drewN (Nat.le_refl _) q, h.so, h.row⟩

theorem i64_tdiv3 (c : Int) (h : I64 c) : I64 (c.tdiv 3) := by
  unfold I64 at *
  by_cases h0 : 0 ≤ c
  · rw [Int.tdiv_eq_ediv_of_nonneg h0]; omega
  · have : c.tdiv 3 = -((-c) / 3) := by
      conv => lhs; rw [show c = -(-c) by omega]
      rw [Int.neg_tdiv, Int.tdiv_eq_ediv_of_nonneg (by omega)]
    rw [this]; omega

set_option maxRecDepth 8000 in
set_option maxHeartbeats 4000000 in
theorem late_any (w : World) (m : Int) (hm : w.cell? ⟨0, 0, none⟩ = some (.int .i64 m)) (v0 v1 v2 v3 v4 : Value) (raw marks a b c : List Int) (h0 : RAW w v0 raw) (h1 : RAW w v1 marks) (h2 : RAW w v2 a) (h3 : RAW w v3 b) (h4 : RAW w v4 c) :
    Calls Tryd.prog 9 #[v0, v1, v2, v3, v4] w fun e w' => e = .returned (.bool true) ∧ Below w.heap.size w w' := by
  have hz0 : 0 < w.heap.size := block_lt_of_cell hm
  have hop1 : Hid (Calls Tryd.prog 15 #[] w fun e w' => ∃ eb, e = .returned (.pointer (some ⟨eb, 0, none⟩)) ∧ Hid (At w.heap.size eb w openE [] w')) := opened_any w m hm
  have hop2 : Hid (∀ ex w1, At w.heap.size ex w openE [] w1 → Calls Tryd.prog 15 #[] w1 fun e w' => ∃ eb, e = .returned (.pointer (some ⟨eb, 0, none⟩)) ∧ Hid (TW w.heap.size ex eb w openE openE [] w')) := by
    intro ex w1 hA
    refine (opened_any w1 m ((hA.below.cell (p := ⟨0, 0, none⟩) hz0).trans hm)).mono ?_
    rintro e w2 ⟨eb, rfl, hB⟩
    exact ⟨eb, rfl, TW.mk' hA hB⟩
  have hq1 : Hid (∀ ex ey w2, TW w.heap.size ex ey w openE openE [] w2 → Calls Tryd.prog 30 #[.pointer (some ⟨ex, 0, none⟩), v2, v3, v4] w2 fun e w' => e = .returned (.bool true) ∧ Hid (TW w.heap.size ex ey w (qE a b c) openE [] w')) := by
    intro ex ey w2 hT
    obtain ⟨G, k1, k2⟩ := hT.left
    refine (queries_any m hm v2 v3 v4 a b c h2 h3 h4 k1).mono ?_
    rintro e w3 ⟨rfl, hA, hS⟩
    exact ⟨rfl, k2 _ [] w3 (by rw [List.append_nil]; exact hA) hS (by simp)⟩
  have hq2 : Hid (∀ ex ey w2, TW w.heap.size ex ey w (qE a b c) openE [] w2 → Calls Tryd.prog 30 #[.pointer (some ⟨ey, 0, none⟩), v2, v3, v4] w2 fun e w' => e = .returned (.bool true) ∧ Hid (TW w.heap.size ex ey w (qE a b c) (qE a b c) [] w')) := by
    intro ex ey w2 hT
    obtain ⟨G, k1, k2⟩ := hT.swap.left
    refine (queries_any m hm v2 v3 v4 a b c h2 h3 h4 k1).mono ?_
    rintro e w3 ⟨rfl, hA, hS⟩
    exact ⟨rfl, (k2 _ [] w3 (by rw [List.append_nil]; exact hA) hS (by simp)).swap⟩
  have hev : Hid (∀ ex ey w2, TW w.heap.size ex ey w (qE a b c) (qE a b c) [] w2 → Calls Tryd.prog 18 #[v0] w2 fun e w' => ∃ la lc, e = .returned (.slice la (evsB raw).length lc) ∧ Hid (LT w w' ex ey (qE a b c) (.slice la (evsB raw).length lc) (evsB raw) 0)) := by
    intro ex ey w2 hT
    refine (events_any w2 v0 raw (h0.mono hT.below)).mono ?_
    rintro e w3 ⟨v', rfl, hN⟩
    obtain ⟨la, lc, rfl, _⟩ := hN.row.form
    refine ⟨la, lc, rfl, ?_, SO.start a b c, hN.row⟩
    have := hT.new (G := (Value.slice la (evsB raw).length lc).ownBlock.toList) (Nat.le_refl _) hN.below (fun x hx => ⟨hN.new x (by simpa using hx), hN.row.lt x (by simpa using hx)⟩)
    rwa [List.nil_append] at this
  have hevs := evsB_ok raw
  have hel := evsB_len raw
  have H1 := Hid.mk' h1
  obtain ⟨ma, mb, moff, mcap, rfl, hmc, hmat, hmcell⟩ := h1.ex
  have hml : marks.length ≤ 9223372036854775807 := by have := h1.len; unfold maxLen at this; omega
  have HMC := Hid.mk' hmcell
  have HMA := Hid.mk' hmat
  have HMF := Hid.mk' h1.fits
  have HEV := Hid.mk' hevs
  generalize evsB raw = l at hev hel HEV
  clear h0 h1 h2 h3 h4 hm hevs hmcell hmat
  go_enter Tryd.func9, Tryd.ntmps9
  go_wp2_with (first
    | (go_at_call 15; with_reducible refine hop1.out.mono ?_; rintro e w1 ⟨ex, rfl, hA1⟩)
    | (go_at_call 15; with_reducible refine (hop2.out ex w1 hA1.out).mono ?_; rintro e w2 ⟨ey, rfl, hT2⟩)
    | (go_at_call_of 30 (Value.pointer (some ⟨ex, 0, none⟩)); with_reducible refine (hq1.out ex ey w2 hT2.out).mono ?_; rintro e w3 ⟨rfl, hT3⟩)
    | (go_at_call_of 30 (Value.pointer (some ⟨ey, 0, none⟩)); with_reducible refine (hq2.out ex ey w3 hT3.out).mono ?_; rintro e w4 ⟨rfl, hT4⟩)
    | (go_at_call 18; with_reducible refine (hev.out ex ey w4 hT4.out).mono ?_; rintro e w5 ⟨la, lc, rfl, hLT⟩))
  clear hop1 hop2 hq1 hq2 hev
  have HB5 := Hid.mk' hLT.out.tw.below
  go_loopw [16] (fun i wr => ∃ (k : Nat) (s : En), i = .int .i64 k ∧ k ≤ l.length ∧ Hid (LT w wr ex ey s (.slice la l.length lc) l k)) (fun i _ => l.length - (intOf i).toNat)
  case atStart => exact ⟨0, qE a b c, rfl, Nat.zero_le _, hLT⟩
  case round =>
    obtain ⟨k, s, rfl, hk, hL⟩ := hrel
    clear hLT
    by_cases hlt : k < l.length
    · obtain ⟨x, hx⟩ : ∃ x, l[k] = x := ⟨_, rfl⟩
      obtain ⟨hp, hx1, hx60⟩ := HEV.out x (by rw [← hx]; exact List.getElem_mem hlt)
      obtain ⟨g, off, lc', hla, _⟩ := row_some hL.out.row (by omega)
      obtain ⟨rfl, _, rfl⟩ := Value.slice.inj hla
      clear hla
      have hcells := Hid.mk' (fun W (hr : Row W 56 4 (.slice (some ⟨g, off, none⟩) l.length lc) l.length (l.flatMap evC)) => ev_at hr k hlt)
      rw [hx] at hcells
      obtain ⟨y0, y1, y2, y3⟩ := hcells.out wr hL.out.row
      clear hx
      have hk60 : k < 60 := by omega
      obtain ⟨MK, hMK⟩ : ∃ MK, markB s.marks = MK := ⟨_, rfl⟩
      have hwm := Hid.mk' (fun W (hT : ∃ sy F, TW w.heap.size ex ey w s sy F W) => tw_wm hT.choose_spec.choose_spec)
      rw [hMK] at hwm
      by_cases hl : x.2.1 < MK
      · have hof := Hid.mk' (lt_late hL.out x hp (by rw [hMK]; exact hl))
        obtain ⟨x0, x1, x2, x3⟩ := x
        simp only at *
        go_wp2_with (go_at_call 21; refine hof.out.mono ?_; rintro e w1 ⟨rfl, hL1⟩; obtain ⟨z0, z1, z2, z3⟩ := hcells.out w1 hL1.out.row)
        have hw1 := Hid.mk' (fun q => hwm.out (w1.drewN q) ⟨_, _, (hL1.out.drewN q).tw⟩)
        go_quiet ((go_at_call 31; exact Calls.quiet_of_same (hw1.out _)))
        have hL2 := Hid.mk' (hL1.out.drewN nq).late
        have hm3 := hL2.out.so.m3
        by_cases hmk : k < marks.length
        · have hmne : marks ≠ [] := fun e => by rw [e] at hmk; cases hmk
          obtain ⟨mk, hmkv⟩ : ∃ mk, marks[k] = mk := ⟨_, rfl⟩
          obtain ⟨rfl, hmbl⟩ := HMA.out hmne
          have hmcl : Hid (∀ W, Below w.heap.size w W → W.cell? ⟨mb, moff + k, none⟩ = some (.int .i64 mk)) := by
            intro W hB
            rw [hB.cell (p := ⟨mb, moff + k, none⟩) hmbl, HMC.out k hmk, hmkv]
          have hmf := HMF.out mk (by rw [← hmkv]; exact List.getElem_mem hmk)
          clear hmkv
          obtain ⟨hm1, hm2⟩ := hmf
          have htd := i64_tdiv3 mk ⟨hm1, hm2⟩
          obtain ⟨pa, hpa⟩ : ∃ pa, pickI mk 3 = pa := ⟨_, rfl⟩
          obtain ⟨pt, hpt⟩ : ∃ pt, pickI (mk.tdiv 3) 60 = pt := ⟨_, rfl⟩
          obtain ⟨pa0, pa1⟩ := pickI_nn mk 3 (by omega)
          obtain ⟨pt0, pt1⟩ := pickI_nn (mk.tdiv 3) 60 (by omega)
          have hpk1 := Hid.mk' (fun W => pick_any mk 3 W ⟨hm1, hm2⟩ (by omega) (by omega))
          have hpk2 := Hid.mk' (fun W => pick_any (mk.tdiv 3) 60 W htd (by omega) (by omega))
          rw [hpa] at hpk1 pa0 pa1
          rw [hpt] at hpk2 pt0 pt1
          have hbt := Hid.mk' (fun W (hT : LT w W ex ey s (.slice (some ⟨g, off, none⟩) l.length lc) l (k + 1)) => lt_beats hT (by omega) pa (1 + pt))
          have hans := beat_ans hm3 pa0 pa1 (show 0 ≤ 1 + pt by omega) (by omega)
          have hwm3 := Hid.mk' (fun W (hT : LT w W ex ey (beatE s pa (1 + pt)).2 (.slice (some ⟨g, off, none⟩) l.length lc) l (k + 1)) => (And.intro (tw_wm hT.tw) (tw_wm hT.tw.swap)))
          clear hpa hpt htd
          rcases hans with hans | hans
          all_goals
            rw [hans] at hbt
            clear hans
            have hmc2 := hmcl.out _ hL2.out.tw.below
            go_wp2_with (first
              | (go_at_call_of 16 (Value.int IntKind.i64 3); with_reducible refine (hpk1.out _).mono ?_; rintro e w' ⟨rfl, rfl⟩)
              | (go_at_call_of 16 (Value.int IntKind.i64 60); with_reducible refine (hpk2.out _).mono ?_; rintro e w' ⟨rfl, rfl⟩)
              | (go_at_call_of 22 (Value.pointer (some ⟨ex, 0, none⟩)); with_reducible refine (hbt.out _ hL2.out).mono ?_; rintro e w3 ⟨rfl, hbt2⟩)
              | (go_at_call_of 22 (Value.pointer (some ⟨ey, 0, none⟩)); with_reducible refine hbt2.out.mono ?_; rintro e w4 ⟨rfl, hL4⟩)
              | (go_at_call_of 31 (Value.pointer (some ⟨ex, 0, none⟩)); with_reducible refine (hwm3.out _ hL4.out).1.mono ?_; rintro e w' ⟨rfl, rfl⟩)
              | (go_at_call_of 31 (Value.pointer (some ⟨ey, 0, none⟩)); with_reducible refine (hwm3.out _ hL4.out).2.mono ?_; rintro e w' ⟨rfl, rfl⟩))
            go_roundw
            case rel => exact ⟨k + 1, _, by go_num, by omega, hL4⟩
            case measure => simp [intOf]; omega
        · go_wp2
          go_roundw
          case rel => exact ⟨k + 1, s, by go_num, by omega, hL2⟩
          case measure => simp [intOf]; omega
      · have hof := Hid.mk' (lt_taken hL.out hk60 x hp hx1 hx60 (by rw [hMK]; exact hl))
        have hso := Hid.mk' hL.out.so
        have hof2 := Hid.mk' (fun (W : World) (hT : TW w.heap.size ex ey w { s with buf := putB s.buf x } s (Value.slice (some ⟨g, off, none⟩) l.length lc).ownBlock.toList W) hr => lt_take2 (l := l) (lv := .slice (some ⟨g, off, none⟩) l.length lc) hT hr hso.out hk60 hp hx1 hx60 (by rw [hMK]; exact hl))
        have hwmx := Hid.mk' (fun (W : World) (hT : TW w.heap.size ex ey w { s with buf := putB s.buf x } s (Value.slice (some ⟨g, off, none⟩) l.length lc).ownBlock.toList W) => tw_wm hT)
        have hMK2 : markB ({ s with buf := putB s.buf x } : En).marks = MK := hMK
        rw [hMK2] at hwmx
        have hof1 : Hid (Calls Tryd.prog 21 #[.pointer (some ⟨ex, 0, none⟩), .slice (some ⟨wr.heap.size, 0, none⟩) 1 1] (wr.alloc (.cells #[.int .i64 x.1, .int .i64 x.2.1, .int .u8 x.2.2.1.toNat, .int .i64 x.2.2.2] 56)) fun e w1 => e = .returned (.tuple #[.int .i64 1, .int .i64 0]) ∧ Hid (TW w.heap.size ex ey w { s with buf := putB s.buf x } s (Value.slice (some ⟨g, off, none⟩) l.length lc).ownBlock.toList w1 ∧ Row w1 56 4 (.slice (some ⟨g, off, none⟩) l.length lc) l.length (l.flatMap evC))) := by
          refine hof.out.mono ?_
          rintro e w1 ⟨rfl, h1, _⟩
          exact ⟨rfl, h1⟩
        clear hof
        obtain ⟨s2, hs2⟩ : ∃ s2, ({ s with buf := putB s.buf x } : En) = s2 := ⟨_, rfl⟩
        rw [hs2] at hof1 hof2 hwmx
        have hm3 : s2.marks.length = 3 := by rw [← hs2]; exact hso.out.m3
        clear hs2 hMK2
        obtain ⟨x0, x1, x2, x3⟩ := x
        simp only at *
        go_wp2_with (go_at_call 21; refine hof1.out.mono ?_; rintro e w1 ⟨rfl, hT1⟩; obtain ⟨z0, z1, z2, z3⟩ := hcells.out w1 hT1.out.2)
        have hw1 := Hid.mk' (fun q => hwmx.out (w1.drewN q) (hT1.out.1.drewN (Nat.le_refl _) q))
        go_quiet ((go_at_call 31; exact Calls.quiet_of_same (hw1.out _)))
        have hdl : decide (x1 < MK) = false := by simp; omega
        have hof3 := Hid.mk' (hof2.out (w1.drewN nq) (hT1.out.1.drewN (Nat.le_refl _) nq) hT1.out.2)
        by_cases hmk : k < marks.length
        · have hmne : marks ≠ [] := fun e => by rw [e] at hmk; cases hmk
          obtain ⟨mk, hmkv⟩ : ∃ mk, marks[k] = mk := ⟨_, rfl⟩
          obtain ⟨rfl, hmbl⟩ := HMA.out hmne
          have hmcl : Hid (∀ W, Below w.heap.size w W → W.cell? ⟨mb, moff + k, none⟩ = some (.int .i64 mk)) := by
            intro W hB
            rw [hB.cell (p := ⟨mb, moff + k, none⟩) hmbl, HMC.out k hmk, hmkv]
          have hmf := HMF.out mk (by rw [← hmkv]; exact List.getElem_mem hmk)
          clear hmkv
          obtain ⟨hm1, hm2⟩ := hmf
          have htd := i64_tdiv3 mk ⟨hm1, hm2⟩
          obtain ⟨pa, hpa⟩ : ∃ pa, pickI mk 3 = pa := ⟨_, rfl⟩
          obtain ⟨pt, hpt⟩ : ∃ pt, pickI (mk.tdiv 3) 60 = pt := ⟨_, rfl⟩
          obtain ⟨pa0, pa1⟩ := pickI_nn mk 3 (by omega)
          obtain ⟨pt0, pt1⟩ := pickI_nn (mk.tdiv 3) 60 (by omega)
          have hpk1 := Hid.mk' (fun W => pick_any mk 3 W ⟨hm1, hm2⟩ (by omega) (by omega))
          have hpk2 := Hid.mk' (fun W => pick_any (mk.tdiv 3) 60 W htd (by omega) (by omega))
          rw [hpa] at hpk1 pa0 pa1
          rw [hpt] at hpk2 pt0 pt1
          have hbt := Hid.mk' (fun W (hT : LT w W ex ey s2 (.slice (some ⟨g, off, none⟩) l.length lc) l (k + 1)) => lt_beats hT (by omega) pa (1 + pt))
          have hans := beat_ans hm3 pa0 pa1 (show 0 ≤ 1 + pt by omega) (by omega)
          have hwm3 := Hid.mk' (fun W (hT : LT w W ex ey (beatE s2 pa (1 + pt)).2 (.slice (some ⟨g, off, none⟩) l.length lc) l (k + 1)) => (And.intro (tw_wm hT.tw) (tw_wm hT.tw.swap)))
          clear hpa hpt htd
          rcases hans with hans | hans
          all_goals
            rw [hans] at hbt
            clear hans
            go_wp2_with (first
              | (go_at_call 21; refine hof3.out.mono ?_; rintro e w2 ⟨rfl, hL2⟩; have hmc2 := hmcl.out _ hL2.out.tw.below)
              | (go_at_call_of 16 (Value.int IntKind.i64 3); with_reducible refine (hpk1.out _).mono ?_; rintro e w' ⟨rfl, rfl⟩)
              | (go_at_call_of 16 (Value.int IntKind.i64 60); with_reducible refine (hpk2.out _).mono ?_; rintro e w' ⟨rfl, rfl⟩)
              | (go_at_call_of 22 (Value.pointer (some ⟨ex, 0, none⟩)); with_reducible refine (hbt.out _ hL2.out).mono ?_; rintro e w3 ⟨rfl, hbt2⟩)
              | (go_at_call_of 22 (Value.pointer (some ⟨ey, 0, none⟩)); with_reducible refine hbt2.out.mono ?_; rintro e w4 ⟨rfl, hL4⟩)
              | (go_at_call_of 31 (Value.pointer (some ⟨ex, 0, none⟩)); with_reducible refine (hwm3.out _ hL4.out).1.mono ?_; rintro e w' ⟨rfl, rfl⟩)
              | (go_at_call_of 31 (Value.pointer (some ⟨ey, 0, none⟩)); with_reducible refine (hwm3.out _ hL4.out).2.mono ?_; rintro e w' ⟨rfl, rfl⟩))
            go_roundw
            case rel => exact ⟨k + 1, _, by go_num, by omega, hL4⟩
            case measure => simp [intOf]; omega
        · go_wp2_with (go_at_call 21; refine hof3.out.mono ?_; rintro e w2 ⟨rfl, hL2⟩)
          go_roundw
          case rel => exact ⟨k + 1, s2, by go_num, by omega, hL2⟩
          case measure => simp [intOf]; omega
    · have hkl : k = l.length := by omega
      have hds := Hid.mk' (tw_same hL.out.tw hL.out.so (by omega) 1000)
      clear hL
      go_wp2_with (first
        | (go_at_call_of 25 (Value.pointer (some ⟨ex, 0, none⟩)); with_reducible refine hds.out.mono ?_; rintro e w6 ⟨dv, rfl, hd2⟩)
        | (go_at_call_of 25 (Value.pointer (some ⟨ey, 0, none⟩)); with_reducible refine hd2.out.mono ?_; rintro e w7 ⟨dv2, rfl, hd3⟩)
        | (go_at_call 26; with_reducible refine hd3.out.mono ?_; rintro e w8 ⟨rfl, hB8⟩))
      go_ret
      exact ⟨rfl, hB8⟩
end Go.Proofs.YtbgfannlfagoiaaDoor
