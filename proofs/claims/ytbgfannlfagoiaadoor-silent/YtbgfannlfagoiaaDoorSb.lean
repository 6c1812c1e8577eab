import Derived.Test.YtbgfannlfagoiaaDoorSa
namespace Go.Proofs.YtbgfannlfagoiaaDoor
open Go.RowKit Go.Lull
set_option linter.unusedVariables false

set_option maxRecDepth 8000 in
set_option maxHeartbeats 4000000 in
theorem silent_any (w : World) (m : Int) (hm : w.cell? ⟨0, 0, none⟩ = some (.int .i64 m)) (v0 : Value) (raw : List Int) (wn att : Int) (h0 : RAW w v0 raw) (hwn : I64 wn) (hat : I64 att) :
    Calls Tryd.prog 6 #[v0, .int .i64 wn, .int .i64 att] w fun e w' => e = .returned (.bool true) ∧ Below w.heap.size w w' := by
  have hz0 : 0 < w.heap.size := block_lt_of_cell hm
  have hop1 : Hid (Calls Tryd.prog 15 #[] w fun e w' => ∃ eb, e = .returned (.pointer (some ⟨eb, 0, none⟩)) ∧ Hid (At w.heap.size eb w openE [] w')) := opened_any w m hm
  have hev : Hid (∀ ex w2, At w.heap.size ex w openE [] w2 → Calls Tryd.prog 18 #[v0] w2 fun e w' => ∃ ev, e = .returned ev ∧ Hid (At w.heap.size ex w openE [] w' ∧ Row w' 56 4 ev (evsB raw).length ((evsB raw).flatMap evC))) := by
    intro ex w2 hT
    refine (events_any w2 v0 raw (h0.mono hT.below)).mono ?_
    rintro e w3 ⟨v', rfl, hN⟩
    exact ⟨v', rfl, (hT.then (Nat.le_refl _) hN.below).1, hN.row⟩
  have hsort : Hid (∀ ex w2 ev, (At w.heap.size ex w openE [] w2 ∧ Row w2 56 4 ev (evsB raw).length ((evsB raw).flatMap evC)) → Calls Tryd.prog 17 #[ev] w2 fun e w' => ∃ la lc, e = .returned (.slice la (putAll [] (evsB raw)).length lc) ∧ Hid (AL w w' ex openE (.slice la (putAll [] (evsB raw)).length lc) (putAll [] (evsB raw)))) := by
    rintro ex w2 ev ⟨hT, hr⟩
    refine (sorted_any w2 ev (evsB raw) hr (by have := evsB_len raw; omega)).mono ?_
    rintro e w3 ⟨v', rfl, hN⟩
    obtain ⟨la, lc, rfl, _⟩ := hN.row.form
    refine ⟨la, lc, rfl, ?_, hN.row⟩
    have := (hT.new (G := (Value.slice la (putAll [] (evsB raw)).length lc).ownBlock.toList) (Nat.le_refl _) hN.below (fun x hx => ⟨hN.new x (by simpa using hx), hN.row.lt x (by simpa using hx)⟩)).1
    rwa [List.nil_append] at this
  have hel := evsB_len raw
  have hevs : ∀ e ∈ putAll [] (evsB raw), properB 3 e = true ∧ 1 ≤ e.2.1 ∧ e.2.1 ≤ 60 := fun e he => evsB_ok raw e (((mem_putAll _ _).1 he).elim (fun h => by cases h) id)
  have hll : (putAll [] (evsB raw)).length ≤ 40 := by rw [putAll_len]; simpa using hel
  have hsb : SB (putAll [] (evsB raw)) := SB.putAll _ _ List.Pairwise.nil
  generalize putAll [] (evsB raw) = l at hsort hevs hll hsb
  have HOK := Hid.mk' hevs
  have HSB := Hid.mk' hsb
  obtain ⟨n, hn⟩ : ∃ n : Nat, pickI wn 50 = (n : Int) := ⟨(pickI wn 50).toNat, by have := pickI_nn wn 50 (by omega); omega⟩
  have hn50 : n < 50 := by have := pickI_nn wn 50 (by omega); omega
  obtain ⟨p, hp⟩ : ∃ p : Nat, pickI att 120 = (p : Int) := ⟨(pickI att 120).toNat, by have := pickI_nn att 120 (by omega); omega⟩
  have hp120 : p < 120 := by have := pickI_nn att 120 (by omega); omega
  have hpk1 := Hid.mk' (fun W => pick_any wn 50 W hwn (by omega) (by omega))
  have hpk2 := Hid.mk' (fun W => pick_any att 120 W hat (by omega) (by omega))
  rw [hn] at hpk1
  rw [hp] at hpk2
  obtain ⟨M, hM⟩ : ∃ M : Nat, 1 + (p : Int) = (M : Int) := ⟨1 + p, by omega⟩
  have hnum : Hid (∀ W, Calls Tryd.prog 20 #[.int .i64 (n : Int)] W fun e w' => ∃ X : ByteArray, e = .returned (.string X) ∧ X.data.toList = numT n ∧ X.size ≤ 2 ∧ Hid (Below W.heap.size W w')) := by
    intro W
    refine (keepNum_any n W (by omega)).mono ?_
    rintro e w' ⟨rfl, q, os, rfl⟩
    refine ⟨_, rfl, rfl, ?_, grown_is_below' W q os⟩
    show (numS n).toArray.size ≤ 2
    unfold numS
    split <;> simp
  have hreg : Hid (∀ eb wr W lv Y, AL w wr eb openE lv l → Below wr.heap.size wr W → Y.data.toList = silT n → Calls Tryd.prog 19 #[.pointer (some ⟨eb, 0, none⟩), .slice (some ⟨W.heap.size, 0, none⟩) 1 1] (W.alloc (.cells #[.string Y] 9)) fun e w2 => ∃ g off cap, e = .returned (.tuple #[.slice (some ⟨g, off, none⟩) 1 cap, .int .i64 0, .int .i64 0]) ∧ 1 ≤ cap ∧ Hid (AL w w2 eb (sE n) lv l)) := by
    intro eb wr W lv Y hA hB hY
    exact al_reg hm hA hB [Y] 1 (sE n) (by omega) (by simp) (by simp only [List.map_cons, List.map_nil, hY]; exact reg_sil n (by omega)) _ rfl
  clear hm h0 hwn hat hn hp hevs hsb
  go_enter Tryd.func6, Tryd.ntmps6
  go_wp2_with (first
    | (go_at_call 15; with_reducible refine hop1.out.mono ?_; rintro e w1 ⟨eb, rfl, hA1⟩)
    | (go_at_call_of 16 (Value.int IntKind.i64 50); with_reducible refine (hpk1.out _).mono ?_; rintro e w' ⟨rfl, hw⟩; replace hw := hw.symm; subst hw)
    | (go_at_call 18; with_reducible refine (hev.out eb _ hA1.out).mono ?_; rintro e w3 ⟨ev, rfl, hT3⟩)
    | (go_at_call 17; with_reducible refine (hsort.out eb w3 ev hT3.out).mono ?_; rintro e w4 ⟨la, lc, rfl, hT4⟩)
    | (go_at_call 20; with_reducible refine (hnum.out _).mono ?_; rintro e w5 ⟨X, rfl, hX, hXs, hB5⟩; have hXz : ¬ 9223372036854775807 < 12 + X.size := by omega)
    | (go_at_call 19; refine (hreg.out eb w4 w5 (.slice la l.length lc) _ hT4.out hB5.out (by simp [silT, hX])).mono ?_; rintro e w6 ⟨rg, ro, rc, rfl, hrc, hT6⟩))
  have hFD0 : Hid (FD w w6 w6 eb (Value.slice la l.length lc).ownBlock.toList (sE n).qs (2, 0, 1) l (sE n) 0) := ⟨hT6.out.at_, ⟨Nat.le_refl _, fun _ _ => rfl⟩, FS.start (s := sE n) (SO.sil n) rfl (fun q hq => by have hq' : q ∈ [(⟨1, stSil, (n : Int), [], []⟩ : Qy)] := hq; rw [List.mem_singleton] at hq'; subst hq'; rfl) (fun e he => (HOK.out e he).2.1)⟩
  have HR := Hid.mk' (fun W (hS : Same (Value.slice la l.length lc).ownBlock.toList w6 W) => hT6.out.row.same (w' := W) (fun b hb => hS.2 b (by simp [hb])))
  clear hop1 hev hsort hpk1 hnum hreg hA1 hT3 hT4 hB5 hX hXs hXz hT6
  go_loopw [12, 13] (fun ok i wr => ∃ (k : Nat) (s : En) (z : Int), z = k ∧ i = .int .i64 z ∧ ok = .bool true ∧ k ≤ l.length ∧ Hid (s.marks = [1, 1, 1]) ∧ Hid (FD w w6 wr eb (Value.slice la l.length lc).ownBlock.toList (sE n).qs (2, 0, 1) l s k)) (fun _ i _ => l.length - (intOf i).toNat)
  case atStart => exact ⟨0, sE n, 0, rfl, rfl, rfl, Nat.zero_le _, Hid.mk' rfl, hFD0⟩
  case round =>
    obtain ⟨k, s, z, rfl, rfl, rfl, hk, hmk, hF⟩ := hrel
    clear hFD0
    by_cases hlt : k < l.length
    · obtain ⟨x, hx⟩ : ∃ x, l[k] = x := ⟨_, rfl⟩
      have hof := Hid.mk' (fd_offer2 hF.out hlt hll HOK.out x hx)
      have hrw := HR.out wr hF.out.same
      obtain ⟨g, off, lc', hla, _⟩ := row_some hrw (by omega)
      obtain ⟨rfl, _, rfl⟩ := Value.slice.inj hla
      clear hla
      obtain ⟨y0, y1, y2, y3⟩ := ev_at hrw k hlt
      rw [hx] at y0 y1 y2 y3
      clear hrw hx
      obtain ⟨x0, x1, x2, x3⟩ := x
      simp only at y0 y1 y2 y3 hof
      go_wp2_with (go_at_call 21; refine hof.out.mono ?_; rintro e w1 ⟨rfl, s1, hm1, hF1⟩; replace hm1 := Hid.mk' (hm1.trans hmk.out))
      go_roundw
      case rel => exact ⟨k + 1, s1, (k : Int) + 1, by omega, rfl, rfl, by omega, hm1, hF1⟩
      case measure => simp [intOf]; omega
    · have hkl : k = l.length := by omega
      subst hkl
      obtain ⟨a1, a2, a3, R, hqs, hRl, hso⟩ := sil_fin (n := n) (M := M) hF.out.fs hmk.out (by omega) (by omega) HSB.out
      have hb1 := Hid.mk' (fd_beat hF.out (by omega) 0 (M : Int) (by rw [List.drop_length]; simp) (by omega) (by omega))
      have hb2 := Hid.mk' (fun W (hT : FD w w6 W eb (Value.slice la l.length lc).ownBlock.toList (sE n).qs (2, 0, 1) l (beatE s 0 M).2 l.length) => fd_beat hT (by omega) 1 (M : Int) (by rw [List.drop_length]; simp) (by omega) (by omega))
      have hb3 := Hid.mk' (fun W (hT : FD w w6 W eb (Value.slice la l.length lc).ownBlock.toList (sE n).qs (2, 0, 1) l (beatE (beatE s 0 M).2 1 M).2 l.length) => fd_beat hT (by omega) 2 (M : Int) (by rw [List.drop_length]; simp) (by omega) (by omega))
      rw [a1] at hb1
      rw [a2] at hb2
      rw [a3] at hb3
      have HQ := Hid.mk' (And.intro hqs (And.intro hRl hso))
      obtain ⟨sF, hsF⟩ : ∃ sF, mE M s = sF := ⟨_, rfl⟩
      have hal : Hid (∀ W, FD w w6 W eb (Value.slice la l.length lc).ownBlock.toList (sE n).qs (2, 0, 1) l (beatE (beatE (beatE s 0 M).2 1 M).2 2 M).2 l.length → SW w W eb sF (Value.slice la l.length lc) l (.slice none 0 0) []) := by
        intro W hT
        rw [← hsF]
        exact SW.start ⟨hT.at_, HR.out W hT.same⟩
      rw [hsF] at HQ
      clear a1 a2 a3 hqs hRl hso hF hmk hsF
      go_wp2_with (go_at_call_of 16 (Value.int IntKind.i64 120); with_reducible refine (hpk2.out _).mono ?_; rintro e w' ⟨rfl, hw⟩; replace hw := hw.symm; subst hw)
      refine wp_loop_rounds 4 ?_
      rw [rounds_succ]
      go_wp2_with (go_at_call 22; refine hb1.out.mono ?_; rintro e w7 ⟨rfl, hA4⟩)
      rw [rounds_succ]
      go_wp2_with (go_at_call 22; refine (hb2.out _ hA4.out).mono ?_; rintro e w8 ⟨rfl, hA5⟩)
      rw [rounds_succ]
      go_wp2_with (go_at_call 22; refine (hb3.out _ hA5.out).mono ?_; rintro e w9 ⟨rfl, hA6⟩)
      rw [rounds_succ]
      go_wp2
      have hW0 := Hid.mk' (hal.out _ hA6.out)
      clear hb1 hb2 hb3 hal hA4 hA5 hA6 hpk2
      go_loopw [19, 20, 21] (fun sv rv i wr => ∃ (k rr : Nat) (LS : List (Mt × Value)) (sa : Option Addr) (sc : Nat) (z zr : Int), z = k ∧ i = .int .i64 z ∧ zr = rr ∧ rv = .int .i64 zr ∧ k ≤ l.length ∧ rr ≤ k ∧ sv = .slice sa LS.length sc ∧ LS.length ≤ k ∧ Hid (LS.map Prod.fst ++ wantS n M (l.drop k) = wantS n M l) ∧ Hid (rr + liveS n M (l.drop k) = liveS n M l) ∧ Hid (SW w wr eb sF (Value.slice la l.length lc) l (.slice sa LS.length sc) LS)) (fun _ _ i _ => l.length - (intOf i).toNat)
      case atStart => exact ⟨0, 0, [], none, 0, 0, 0, rfl, rfl, rfl, rfl, Nat.zero_le _, Nat.le_refl _, rfl, Nat.le_refl _, Hid.mk' (by simp), Hid.mk' (by simp), hW0⟩
      case round =>
        obtain ⟨k, rr, LS, sa, sc, z, zr, rfl, rfl, rfl, rfl, hk, hrr, rfl, hLk, hwant, hlive, hS⟩ := hrel
        clear hW0
        by_cases hlt : k < l.length
        · obtain ⟨x, hx⟩ : ∃ x, l[k] = x := ⟨_, rfl⟩
          have hdrop : l.drop k = x :: l.drop (k + 1) := by rw [← hx]; exact List.drop_eq_getElem_cons hlt
          obtain ⟨hxp, hx1, hx60⟩ := HOK.out x (by rw [← hx]; exact List.getElem_mem hlt)
          obtain ⟨g, off, lc', hla, _⟩ := row_some hS.out.row (by omega)
          obtain ⟨rfl, _, rfl⟩ := Value.slice.inj hla
          clear hla hxp
          obtain ⟨y0, y1, y2, y3⟩ := ev_at hS.out.row k hlt
          have hevj := Hid.mk' (fun j (hj : j < l.length) => ev_at hS.out.row j hj)
          rw [hx] at y0 y1 y2 y3
          rw [hdrop, want_cons] at hwant
          rw [hdrop, live_cons] at hlive
          clear hdrop hx
          by_cases hA : (x.2.2.1.toNat : Int) = 97
          · have hkA : isK 97 x = true := by rw [isK_nat]; simpa using hA
            by_cases hT : x.2.1 < (M : Int)
            · have hTd : ¬ (M : Int) ≤ x.2.1 := by omega
              have H97 := Hid.mk' hA
              rw [hA] at y2
              have hbox : Hid (isK 97 x = true ∧ x.2.1 < (M : Int)) := ⟨hkA, hT⟩
              have hcs := Hid.mk' (fun j (hj : j < l.length) (h : k + 1 ≤ j) => (show calm n M x ((l.drop (k + 1)).take (j + 1 - (k + 1))) = (calm n M x ((l.drop (k + 1)).take (j - (k + 1))) && !(isK 98 l[j] && decide (l[j].2.1 ≤ x.2.1 + n) && decide (l[j].2.1 < (M : Int)))) by
                rw [show j + 1 - (k + 1) = (j - (k + 1)) + 1 by omega, List.take_succ_eq_append_getElem (by simp; omega), calm_snoc]
                simp [show k + 1 + (j - (k + 1)) = j by omega]))
              clear hkA hA
              go_wp2
              go_loop [23, 24] (fun qv jv => ∃ (j : Nat) (z : Int) (b : Bool), z = j ∧ jv = .int .i64 z ∧ k + 1 ≤ j ∧ j ≤ l.length ∧ qv = .bool b ∧ Hid (b = calm n M x ((l.drop (k + 1)).take (j - (k + 1))))) (fun _ jv => l.length - (intOf jv).toNat)
              case atStart => exact ⟨k + 1, (k : Int) + 1, true, by omega, rfl, Nat.le_refl _, by omega, rfl, Hid.mk' (by simp [calm])⟩
              case round =>
                obtain ⟨j, z, b, rfl, rfl, hj1, hj2, rfl, hb⟩ := hrel
                by_cases hjl : j < l.length
                · obtain ⟨y, hy⟩ : ∃ y, l[j] = y := ⟨_, rfl⟩
                  obtain ⟨u0, u1, u2, u3⟩ := hevj.out j hjl
                  have hc1 := hcs.out j hjl hj1
                  rw [hy] at u0 u1 u2 u3
                  rw [hy, ← hb.out] at hc1
                  obtain ⟨CA, hCA⟩ : ∃ CA, calm n M x ((l.drop (k + 1)).take (j + 1 - (k + 1))) = CA := ⟨_, rfl⟩
                  rw [hCA] at hc1
                  have hnext : Hid (∀ b', b' = CA → b' = calm n M x ((l.drop (k + 1)).take (j + 1 - (k + 1)))) := fun b' h => by rw [h, hCA]
                  clear hy hCA hb
                  by_cases hB : (y.2.2.1.toNat : Int) = 98
                  · have hkB : isK 98 y = true := by rw [isK_nat]; simpa using hB
                    rw [hB] at u2
                    by_cases h1 : y.2.1 ≤ x.2.1 + n
                    · by_cases h2 : y.2.1 < (M : Int)
                      · have hv := Hid.mk' (hnext.out false (by rw [hc1]; simp [hkB, h1, h2]))
                        clear hc1 hnext hkB hB
                        go_wp2
                        go_round
                        case rel => exact ⟨j + 1, (j : Int) + 1, false, by omega, rfl, by omega, by omega, rfl, hv⟩
                        case measure => simp [intOf]; omega
                      · have hv := Hid.mk' (hnext.out b (by rw [hc1]; simp [h2]))
                        clear hc1 hnext hkB hB
                        go_wp2
                        go_round
                        case rel => exact ⟨j + 1, (j : Int) + 1, b, by omega, rfl, by omega, by omega, rfl, hv⟩
                        case measure => simp [intOf]; omega
                    · have hv := Hid.mk' (hnext.out b (by rw [hc1]; simp [h1]))
                      clear hc1 hnext hkB hB
                      go_wp2
                      go_round
                      case rel => exact ⟨j + 1, (j : Int) + 1, b, by omega, rfl, by omega, by omega, rfl, hv⟩
                      case measure => simp [intOf]; omega
                  · have hkB : isK 98 y = false := by rw [isK_nat]; simpa using hB
                    have hv := Hid.mk' (hnext.out b (by rw [hc1]; simp [hkB]))
                    clear hc1 hnext hkB
                    go_wp2
                    go_round
                    case rel => exact ⟨j + 1, (j : Int) + 1, b, by omega, rfl, by omega, by omega, rfl, hv⟩
                    case measure => simp [intOf]; omega
                · have hjj : j = l.length := by omega
                  have hb2 : b = calm n M x (l.drop (k + 1)) := by rw [hb.out, List.take_of_length_le (by simp; omega)]
                  clear hb hcs hevj
                  cases b with
                  | false =>
                    rw [if_neg (fun h => by rw [← hb2] at h; exact absurd h.2.2.1 (by simp))] at hwant hlive
                    clear hb2 hbox
                    go_wp2
                    go_roundw
                    case rel => exact ⟨k + 1, rr, LS, sa, sc, (k : Int) + 1, (rr : Int), by omega, rfl, rfl, rfl, by omega, by omega, rfl, by omega, hwant, hlive, hS⟩
                    case measure => simp [intOf]; omega
                  | true =>
                    by_cases hE : x.2.1 + (n : Int) < (M : Int)
                    · rw [if_pos ⟨hbox.out.1, hbox.out.2, hb2.symm, hE⟩] at hwant
                      rw [if_neg (fun h => absurd hE (Int.not_lt.2 h.2.2.2))] at hlive
                      have hE2 : ¬ (M : Int) ≤ x.2.1 + (n : Int) := by omega
                      clear hb2 hbox
                      have hrow0 : Hid (Row (wr.alloc (.cells #[.int .i64 x.1, .int .i64 x.2.1, .int .u8 97, .int .i64 x.2.2.2] 56)) 60 3 (.slice sa LS.length sc) LS.length (LS.flatMap matC)) := hS.out.ls.row.same (fun b hb => Below.heap_alloc _ _ _ (hS.out.ls.row.lt b hb))
                      have hrow1 : Hid (Row (wr.alloc (.cells #[.int .i64 x.1, .int .i64 x.2.1, .int .u8 97, .int .i64 x.2.2.2] 56)) 56 4 (.slice (some ⟨wr.heap.size, 0, none⟩) [x].length [x].length) [x].length ([x].flatMap evC)) := by
                        refine ⟨rfl, Or.inr ⟨wr.heap.size, 0, 1, _, rfl, heap_alloc_new _ _, Nat.le_refl _, by unfold maxLen; omega, by simp, ?_⟩⟩
                        simp [evC, H97.out]
                      go_wp2_with (at_builtin; refine append_mt (wr.alloc (.cells #[.int .i64 x.1, .int .i64 x.2.1, .int .u8 97, .int .i64 x.2.2.2] 56)) rfl _ _ rfl (.slice sa LS.length sc) LS.length (LS.flatMap matC) rfl hrow0.out (wr.heap.size + 1) (by simp) rfl rfl rfl rfl (by omega) ?_)
                      intro g2 o2 c2 w2 r1 g1 b1
                      have hF := Hid.mk' (SW.push (m := mtS n 1 x) (ev := [x]) hS.out rfl hrow1.out r1 g1 b1)
                      have hwant2 : Hid ((LS ++ [(mtS n 1 x, Value.slice (some ⟨wr.heap.size, 0, none⟩) [x].length [x].length)]).map Prod.fst ++ wantS n M (l.drop (k + 1)) = wantS n M l) := by
                        unfold Hid
                        have := hwant.out
                        simpa using this
                      clear r1 g1 b1 hwant
                      go_wp2
                      go_roundw
                      case rel => exact ⟨k + 1, rr, _, some ⟨g2, o2, none⟩, c2, (k : Int) + 1, (rr : Int), by omega, rfl, rfl, rfl, by omega, by omega, by simp, by simp; omega, hwant2, hlive, hF⟩
                      case measure => simp [intOf]; omega
                    · rw [if_neg (fun h => hE h.2.2.2)] at hwant
                      rw [if_pos ⟨hbox.out.1, hbox.out.2, hb2.symm, Int.not_lt.1 hE⟩] at hlive
                      have hE2 : (M : Int) ≤ x.2.1 + (n : Int) := by omega
                      have hlive2 : Hid (rr + 1 + liveS n M (l.drop (k + 1)) = liveS n M l) := by have := hlive.out; unfold Hid; omega
                      clear hb2 hbox hlive
                      go_wp2
                      go_roundw
                      case rel => exact ⟨k + 1, rr + 1, LS, sa, sc, (k : Int) + 1, (rr : Int) + 1, by omega, rfl, by omega, rfl, by omega, by omega, rfl, by omega, hwant, hlive2, hS⟩
                      case measure => simp [intOf]; omega
            · rw [if_neg (fun h => hT h.2.1)] at hwant hlive
              rw [hA] at y2
              have hT2 : (M : Int) ≤ x.2.1 := by omega
              clear hkA hA
              obtain ⟨x0, x1, x2, x3⟩ := x
              simp only at *
              go_wp2
              go_roundw
              case rel => exact ⟨k + 1, rr, LS, sa, sc, (k : Int) + 1, (rr : Int), by omega, rfl, rfl, rfl, by omega, by omega, rfl, by omega, hwant, hlive, hS⟩
              case measure => simp [intOf]; omega
          · have hkA : ¬ isK 97 x = true := by rw [isK_nat]; simpa using hA
            rw [if_neg (fun h => hkA h.1)] at hwant hlive
            clear hkA
            obtain ⟨x0, x1, x2, x3⟩ := x
            simp only at *
            go_wp2
            go_roundw
            case rel => exact ⟨k + 1, rr, LS, sa, sc, (k : Int) + 1, (rr : Int), by omega, rfl, rfl, rfl, by omega, by omega, rfl, by omega, hwant, hlive, hS⟩
            case measure => simp [intOf]; omega
        · have hkl : k = l.length := by omega
          subst hkl
          have hw2 : LS.map Prod.fst = wantS n M l := by have := hwant.out; rw [List.drop_length] at this; simpa [wantS] using this
          have hl2 : rr = liveS n M l := by have := hlive.out; rw [List.drop_length] at this; simpa [liveS] using this
          obtain ⟨hqs, hRl, hso⟩ := HQ.out
          rw [← hw2] at hqs
          have hend := Hid.mk' (sw_end hS.out hqs hso (by omega))
          rw [hRl, ← hl2] at hend
          clear hw2 hl2 hqs hRl hso hwant hlive hS
          go_wp2_with (first
            | (go_at_call 23; with_reducible refine hend.out.mono ?_; rintro e w10 ⟨rfl, he2⟩)
            | (go_at_call 24; with_reducible refine he2.out.mono ?_; rintro e w11 ⟨rfl, he3⟩)
            | (go_at_call 25; with_reducible refine he3.out.mono ?_; rintro e w12 ⟨dv, rfl, he4⟩)
            | (go_at_call 26; with_reducible refine he4.out.mono ?_; rintro e w13 ⟨rfl, hB8⟩))
          go_ret
          exact ⟨rfl, hB8⟩
end Go.Proofs.YtbgfannlfagoiaaDoor
