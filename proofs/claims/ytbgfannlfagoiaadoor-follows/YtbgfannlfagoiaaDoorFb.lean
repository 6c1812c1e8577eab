import Derived.Test.YtbgfannlfagoiaaDoorFa
namespace Go.Proofs.YtbgfannlfagoiaaDoor
open Go.RowKit Go.Lull
set_option linter.unusedVariables false

/-- fed, of Follows. -/
theorem fol_fed {w0 wr : World} {eb n : Nat} {lv : Value} {l : List Ev} (h : AL w0 wr eb (fE n) lv l) (hl : l.length ≤ 40) (hok : ∀ e ∈ l, properB 3 e = true ∧ 1 ≤ e.2.1 ∧ e.2.1 ≤ 60) (hsb : SB l) :
    Calls Tryd.prog 27 #[.pointer (some ⟨eb, 0, none⟩), lv, .slice none 0 0] wr fun e w' => e = .returned (.bool true) ∧ ∃ s rs, Hid (s.qs = [⟨1, stFol, (n : Int), rs, wantF n 1 [] l⟩, ⟨2, stAl, (n : Int), [], (l.filter (isK 97)).map aloM⟩] ∧ SO l.length s ∧ (wantF (n : Int) 1 [] l).length ≤ 40) ∧ Hid (SW w0 w' eb s lv l (.slice none 0 0) []) := by
  have hfs : FS (fE n).qs (3, 0, 1) l 0 (fE n) := FS.start (s := fE n) (SO.fol n) rfl (fun q hq => by
    have hq' : q ∈ [(⟨1, stFol, (n : Int), [], []⟩ : Qy), ⟨2, stAl, (n : Int), [], []⟩] := hq
    rcases (by simpa using hq' : q = _ ∨ q = _) with rfl | rfl <;> rfl) (fun e he => (hok e he).2.1)
  refine (fed_nil (w0 := w0) ⟨h.at_, ⟨Nat.le_refl _, fun _ _ => rfl⟩, hfs⟩ lv none 0 h.row (fun k hk => by simp [hk]) hl hok).mono ?_
  rintro e w' ⟨rfl, s, hA, hS, p1, p2, p3, p4⟩
  obtain ⟨rs, hq⟩ := fol_fin (n := n) p1 hsb (fun e he => (hok e he).2.2)
  refine ⟨rfl, s, rs, ⟨hq, p2, ?_⟩, SW.start (h.next hA hS)⟩
  have := p2.sz ⟨1, stFol, (n : Int), rs, wantF n 1 [] l⟩ (by rw [hq]; simp)
  have h2 : (wantF (n : Int) 1 [] l).length + rs.length + s.buf.length ≤ l.length := this
  omega

set_option maxRecDepth 8000 in
set_option maxHeartbeats 4000000 in
theorem follows_any (w : World) (m : Int) (hm : w.cell? ⟨0, 0, none⟩ = some (.int .i64 m)) (v0 : Value) (raw : List Int) (wn : Int) (h0 : RAW w v0 raw) (hwn : I64 wn) :
    Calls Tryd.prog 7 #[v0, .int .i64 wn] w fun e w' => e = .returned (.bool true) ∧ Below w.heap.size w w' := by
  have hz0 : 0 < w.heap.size := block_lt_of_cell hm
  have hop1 : Hid (Calls Tryd.prog 15 #[] w fun e w' => ∃ eb, e = .returned (.pointer (some ⟨eb, 0, none⟩)) ∧ Hid (At w.heap.size eb w openE [] w')) := opened_any w m hm
  have hev : Hid (∀ ex w2, At w.heap.size ex w openE [] w2 → Calls Tryd.prog 18 #[v0] w2 fun e w' => ∃ ev, e = .returned ev ∧ Hid (At w.heap.size ex w openE [] w' ∧ Row w' 56 4 ev (evsB raw).length ((evsB raw).flatMap evC))) := by
    intro ex w2 hT
    refine (events_any w2 v0 raw (h0.mono hT.below)).mono ?_
    rintro e w3 ⟨v', rfl, hN⟩
    exact ⟨v', rfl, (hT.then (Nat.le_refl _) hN.below).1, hN.row⟩
  have hsort : Hid (∀ ex w2 ev, (At w.heap.size ex w openE [] w2 ∧ Row w2 56 4 ev (evsB raw).length ((evsB raw).flatMap evC)) → Calls Tryd.prog 17 #[ev] w2 fun e w' => ∃ la lc, e = .returned (.slice la (putAll [] (evsB raw)).length lc) ∧ Hid (AL w w' ex openE (.slice la (putAll [] (evsB raw)).length lc) (putAll [] (evsB raw)))) := by
    rintro ex w2 ev ⟨hT, hr⟩
    refine (sorted_any w2 ev (evsB raw) hr (by have := evsB_len raw; omega)).mono ?_
    rintro e w3 ⟨v', rfl, hN⟩
    obtain ⟨la, lc, rfl, _⟩ := hN.row.form
    refine ⟨la, lc, rfl, ?_, hN.row⟩
    have := (hT.new (G := (Value.slice la (putAll [] (evsB raw)).length lc).ownBlock.toList) (Nat.le_refl _) hN.below (fun x hx => ⟨hN.new x (by simpa using hx), hN.row.lt x (by simpa using hx)⟩)).1
    rwa [List.nil_append] at this
  have hel := evsB_len raw
  have hevs : ∀ e ∈ putAll [] (evsB raw), properB 3 e = true ∧ 1 ≤ e.2.1 ∧ e.2.1 ≤ 60 := fun e he => evsB_ok raw e (((mem_putAll _ _).1 he).elim (fun h => by cases h) id)
  have hll : (putAll [] (evsB raw)).length ≤ 40 := by rw [putAll_len]; simpa using hel
  have hsb : SB (putAll [] (evsB raw)) := SB.putAll _ _ List.Pairwise.nil
  generalize putAll [] (evsB raw) = l at hsort hevs hll hsb
  have HOK := Hid.mk' hevs
  obtain ⟨n, hn⟩ : ∃ n : Nat, pickI wn 50 = (n : Int) := ⟨(pickI wn 50).toNat, by have := pickI_nn wn 50 (by omega); omega⟩
  have hn50 : n < 50 := by have := pickI_nn wn 50 (by omega); omega
  have hpk1 := Hid.mk' (fun W => pick_any wn 50 W hwn (by omega) (by omega))
  rw [hn] at hpk1
  have hnum1 : Hid (∀ W, Calls Tryd.prog 20 #[.int .i64 (n : Int)] W fun e w' => ∃ X : ByteArray, e = .returned (.string X) ∧ X.data.toList = numT n ∧ X.size ≤ 2 ∧ Hid (Below W.heap.size W w')) := by
    intro W
    refine (keepNum_any n W (by omega)).mono ?_
    rintro e w' ⟨rfl, q, os, rfl⟩
    refine ⟨_, rfl, rfl, ?_, grown_is_below' W q os⟩
    show (numS n).toArray.size ≤ 2
    unfold numS
    split <;> simp
  have hnum2 := hnum1
  have hreg : Hid (∀ eb wr W lv Y Z, AL w wr eb openE lv l → Below wr.heap.size wr W → Y.data.toList = folT n → Z.data.toList = aloT n → Calls Tryd.prog 19 #[.pointer (some ⟨eb, 0, none⟩), .slice (some ⟨W.heap.size, 0, none⟩) 2 2] (W.alloc (.cells #[.string Y, .string Z] 9)) fun e w2 => ∃ g off cap, e = .returned (.tuple #[.slice (some ⟨g, off, none⟩) 2 cap, .int .i64 0, .int .i64 0]) ∧ 2 ≤ cap ∧ Hid (AL w w2 eb (fE n) lv l)) := by
    intro eb wr W lv Y Z hA hB hY hZ
    exact al_reg hm hA hB [Y, Z] 2 (fE n) (by omega) (by simp) (by simp only [List.map_cons, List.map_nil, hY, hZ]; exact reg_fol n (by omega)) _ rfl
  have hfed : Hid (∀ W eb lv, AL w W eb (fE n) lv l → Calls Tryd.prog 27 #[.pointer (some ⟨eb, 0, none⟩), lv, .slice none 0 0] W fun e w' => e = .returned (.bool true) ∧ ∃ s rs, Hid (s.qs = [⟨1, stFol, (n : Int), rs, wantF n 1 [] l⟩, ⟨2, stAl, (n : Int), [], (l.filter (isK 97)).map aloM⟩] ∧ SO l.length s ∧ (wantF (n : Int) 1 [] l).length ≤ 40) ∧ Hid (SW w w' eb s lv l (.slice none 0 0) [])) := fun W eb lv hA => fol_fed hA hll hevs hsb
  clear hm h0 hwn hn hevs hsb
  go_enter Tryd.func7, Tryd.ntmps7
  go_wp2_with (first
    | (go_at_call 15; with_reducible refine hop1.out.mono ?_; rintro e w1 ⟨eb, rfl, hA1⟩)
    | (go_at_call_of 16 (Value.int IntKind.i64 50); with_reducible refine (hpk1.out _).mono ?_; rintro e w' ⟨rfl, hw⟩; replace hw := hw.symm; subst hw)
    | (go_at_call 18; with_reducible refine (hev.out eb _ hA1.out).mono ?_; rintro e w3 ⟨ev, rfl, hT3⟩)
    | (go_at_call 17; with_reducible refine (hsort.out eb w3 ev hT3.out).mono ?_; rintro e w4 ⟨la, lc, rfl, hT4⟩)
    | (go_at_call 20; with_reducible refine (hnum1.out _).mono ?_; clear hnum1; rintro e w5 ⟨X, rfl, hX, hXs, hB5⟩; have hXz : ¬ 9223372036854775807 < 11 + X.size := by omega)
    | (go_at_call 20; with_reducible refine (hnum2.out _).mono ?_; rintro e w6 ⟨X2, rfl, hX2, hXs2, hB6⟩; have hXz2 : ¬ 9223372036854775807 < 9 + X2.size := by omega)
    | (go_at_call 19; refine (hreg.out eb w4 w6 (.slice la l.length lc) _ _ hT4.out (hB5.out.trans (hB6.out.mono hB5.out.size)) (by simp [folT, hX]) (by simp [aloT, hX2])).mono ?_; rintro e w7 ⟨rg, ro, rc, rfl, hrc, hT7⟩)
    | (go_at_call 27; refine (hfed.out w7 eb (.slice la l.length lc) hT7.out).mono ?_; rintro e w8 ⟨rfl, s, rs, HQ, hW0⟩))
  clear hop1 hev hsort hpk1 hnum2 hreg hfed hA1 hT3 hT4 hB5 hX hXs hXz hB6 hX2 hXs2 hXz2 hT7 hrc
  go_loopw [11, 12] (fun sv kv wr => ∃ (k : Nat) (LS : List (Mt × Value)) (sa : Option Addr) (sc : Nat) (z : Int), z = k ∧ kv = .int .i64 z ∧ k ≤ l.length ∧ sv = .slice sa LS.length sc ∧ Hid (LS.map Prod.fst ++ wantF n 1 (l.take k) (l.drop k) = wantF n 1 [] l) ∧ Hid (SW w wr eb s (Value.slice la l.length lc) l (.slice sa LS.length sc) LS)) (fun _ kv _ => l.length - (intOf kv).toNat)
  case atStart => exact ⟨0, [], none, 0, 0, rfl, rfl, Nat.zero_le _, rfl, Hid.mk' (by simp), hW0⟩
  case round =>
    obtain ⟨k, LS, sa, sc, z, rfl, rfl, hk, rfl, hwant, hS⟩ := hrel
    clear hW0
    by_cases hlt : k < l.length
    · obtain ⟨x, hx⟩ : ∃ x, l[k] = x := ⟨_, rfl⟩
      obtain ⟨hxp, hx1, hx60⟩ := HOK.out x (by rw [← hx]; exact List.getElem_mem hlt)
      obtain ⟨g, off, lc', hla, _⟩ := row_some hS.out.row (by omega)
      obtain ⟨rfl, _, rfl⟩ := Value.slice.inj hla
      clear hla hxp
      have hwant0 : Hid (LS.map Prod.fst ++ ((inner (n : Int) x ((l.take k).drop 0)).map (mtF 1 x) ++ wantF n 1 (l.take (k + 1)) (l.drop (k + 1))) = wantF n 1 [] l) := by
        have h := hwant.out
        rw [List.drop_eq_getElem_cons hlt, hx] at h
        rw [List.take_succ_eq_append_getElem hlt, hx]
        exact h
      have HX := Hid.mk' hx
      clear hwant hx
      go_wp2
      go_loopw [11, 13] (fun sv iv wr => ∃ (i : Nat) (LS : List (Mt × Value)) (sa : Option Addr) (sc : Nat) (z : Int), z = i ∧ iv = .int .i64 z ∧ i ≤ k ∧ sv = .slice sa LS.length sc ∧ Hid (LS.map Prod.fst ++ ((inner (n : Int) x ((l.take k).drop i)).map (mtF 1 x) ++ wantF n 1 (l.take (k + 1)) (l.drop (k + 1))) = wantF n 1 [] l) ∧ Hid (SW w wr eb s (Value.slice (some ⟨g, off, none⟩) l.length lc) l (.slice sa LS.length sc) LS)) (fun _ iv _ => k - (intOf iv).toNat)
      case atStart => exact ⟨0, LS, sa, sc, 0, rfl, rfl, Nat.zero_le _, rfl, hwant0, hS⟩
      case round =>
        clear hwant0 hS
        obtain ⟨i, LS, sa, sc, z, rfl, rfl, hi, rfl, hwant, hS⟩ := hrel
        by_cases hik : i < k
        · have hil : i < l.length := by omega
          obtain ⟨e, he⟩ : ∃ e, l[i] = e := ⟨_, rfl⟩
          obtain ⟨hep, he1, he60⟩ := HOK.out e (by rw [← he]; exact List.getElem_mem hil)
          clear hep
          obtain ⟨y0, y1, y2, y3⟩ := ev_at hS.out.row k hlt
          obtain ⟨u0, u1, u2, u3⟩ := ev_at hS.out.row i hil
          rw [HX.out] at y0 y1 y2 y3
          rw [he] at u0 u1 u2 u3
          have hdrop : (l.take k).drop i = e :: (l.take k).drop (i + 1) := by
            rw [List.drop_eq_getElem_cons (by simp; omega)]
            simp [he]
          have hevj := Hid.mk' (fun j (hj : j < l.length) => ev_at hS.out.row j hj)
          rw [hdrop, inner_cons] at hwant
          clear hdrop he
          obtain ⟨e0, et, e2, e3⟩ := e
          obtain ⟨x0, xt, x2, x3⟩ := x
          simp only at u0 u1 u2 u3 y0 y1 y2 y3 he1 he60 hx1 hx60
          by_cases hA : (e2.toNat : Int) = 97
          · have hkA : isK 97 (e0, et, e2, e3) = true := by rw [isK_nat]; simpa using hA
            by_cases hB : (x2.toNat : Int) = 98
            · have hkB : isK 98 (x0, xt, x2, x3) = true := by rw [isK_nat]; simpa using hB
              by_cases hT : xt ≤ et + (n : Int)
              · have hT2 : ¬ (et + (n : Int) < xt) := by omega
                have H97 := Hid.mk' hA
                have H98 := Hid.mk' hB
                rw [hA] at u2
                rw [hB] at y2
                clear hA hB
                have hcs := Hid.mk' (fun j (hj : j < l.length) (h : i + 1 ≤ j) => (show noB ((l.drop (i + 1)).take (j + 1 - (i + 1))) = (noB ((l.drop (i + 1)).take (j - (i + 1))) && !isK 98 l[j]) by
                  rw [show j + 1 - (i + 1) = (j - (i + 1)) + 1 by omega, List.take_succ_eq_append_getElem (by simp; omega), noB_snoc]
                  simp [show i + 1 + (j - (i + 1)) = j by omega]))
                have hpush : Hid (noB ((l.take k).drop (i + 1)) = noB ((l.drop (i + 1)).take (k - (i + 1)))) := by unfold Hid; rw [List.drop_take]
                have hbox : Hid (isK 97 (e0, et, e2, e3) = true ∧ isK 98 (x0, xt, x2, x3) = true) := ⟨hkA, hkB⟩
                clear hkA hkB
                go_wp2
                go_quiet (fail)
                go_wp2
                go_loop [14, 15] (fun qv jv => ∃ (j : Nat) (z : Int) (b : Bool), z = j ∧ jv = .int .i64 z ∧ i + 1 ≤ j ∧ j ≤ k ∧ qv = .bool b ∧ Hid (b = noB ((l.drop (i + 1)).take (j - (i + 1))))) (fun _ jv => k - (intOf jv).toNat)
                case atStart => exact ⟨i + 1, (i : Int) + 1, true, by omega, rfl, Nat.le_refl _, by omega, rfl, Hid.mk' (by simp [noB])⟩
                case round =>
                  obtain ⟨j, z, b, rfl, rfl, hj1, hj2, rfl, hb⟩ := hrel
                  by_cases hjk : j < k
                  · have hjl : j < l.length := by omega
                    obtain ⟨y, hy⟩ : ∃ y, l[j] = y := ⟨_, rfl⟩
                    obtain ⟨v0', v1', v2', v3'⟩ := hevj.out j hjl
                    have hc1 := hcs.out j hjl hj1
                    rw [hy] at v0' v1' v2' v3'
                    rw [hy, ← hb.out] at hc1
                    obtain ⟨CA, hCA⟩ : ∃ CA, noB ((l.drop (i + 1)).take (j + 1 - (i + 1))) = CA := ⟨_, rfl⟩
                    rw [hCA] at hc1
                    have hnext : Hid (∀ b', b' = CA → b' = noB ((l.drop (i + 1)).take (j + 1 - (i + 1)))) := fun b' h => by rw [h, hCA]
                    clear hy hCA hb
                    cases b with
                    | false =>
                      have hv := Hid.mk' (hnext.out false (by rw [hc1]; rfl))
                      clear hc1 hnext
                      go_wp2
                      go_round
                      case rel => exact ⟨j + 1, (j : Int) + 1, false, by omega, rfl, by omega, by omega, rfl, hv⟩
                      case measure => simp [intOf]; omega
                    | true =>
                      by_cases hB : (y.2.2.1.toNat : Int) = 98
                      · have hkB : isK 98 y = true := by rw [isK_nat]; simpa using hB
                        rw [hB] at v2'
                        have hv := Hid.mk' (hnext.out false (by rw [hc1]; simp [hkB]))
                        clear hc1 hnext hkB hB
                        go_wp2
                        go_round
                        case rel => exact ⟨j + 1, (j : Int) + 1, false, by omega, rfl, by omega, by omega, rfl, hv⟩
                        case measure => simp [intOf]; omega
                      · have hkB : isK 98 y = false := by rw [isK_nat]; simpa using hB
                        have hv := Hid.mk' (hnext.out true (by rw [hc1]; simp [hkB]))
                        have hd4 : ((y.2.2.1.toNat : Int) != 98) = true := by simpa using hB
                        clear hc1 hnext hkB
                        go_wp2
                        go_round
                        case rel => exact ⟨j + 1, (j : Int) + 1, true, by omega, rfl, by omega, by omega, rfl, hv⟩
                        case measure => simp [intOf]; omega
                  · have hjj : j = k := by omega
                    have hb2 : b = noB ((l.take k).drop (i + 1)) := by rw [hb.out, hpush.out, hjj]
                    clear hb hcs hevj
                    cases b with
                    | false =>
                      rw [if_neg (fun h => by rw [← hb2] at h; exact absurd h.2.2.2 (by simp))] at hwant
                      clear hb2 hbox
                      go_wp2
                      go_roundw
                      case rel => exact ⟨i + 1, LS, sa, sc, (i : Int) + 1, by omega, rfl, by omega, rfl, hwant, Hid.mk' (hS.out.drewN nq)⟩
                      case measure => simp [intOf]; omega
                    | true =>
                      rw [if_pos ⟨hbox.out.1, hbox.out.2, hT, hb2.symm⟩] at hwant
                      clear hb2 hbox
                      have hLl : LS.length ≤ 40 := by
                        have h := congrArg List.length hwant.out
                        have h2 := HQ.out.2.2
                        simp only [List.length_append, List.length_map] at h
                        omega
                      have hrow0 : Hid (∀ W : World, Below wr.heap.size wr W → Row W 60 3 (.slice sa LS.length sc) LS.length (LS.flatMap matC)) := fun W hW => hS.out.ls.row.same (fun b hb => hW.block b (hS.out.ls.row.lt b hb))
                      have hrow1 : Hid (∀ q, Row ((wr.drewN q).alloc (.cells #[.int .i64 e0, .int .i64 et, .int .u8 97, .int .i64 e3, .int .i64 x0, .int .i64 xt, .int .u8 98, .int .i64 x3] 56)) 56 4 (.slice (some ⟨wr.heap.size, 0, none⟩) [((e0, et, e2, e3) : Ev), (x0, xt, x2, x3)].length [((e0, et, e2, e3) : Ev), (x0, xt, x2, x3)].length) [((e0, et, e2, e3) : Ev), (x0, xt, x2, x3)].length ([((e0, et, e2, e3) : Ev), (x0, xt, x2, x3)].flatMap evC)) := by
                        intro q
                        refine ⟨rfl, Or.inr ⟨wr.heap.size, 0, 2, _, rfl, heap_alloc_new _ _, Nat.le_refl _, by unfold maxLen; omega, by simp, ?_⟩⟩
                        simp [evC, H97.out, H98.out]
                      have hgl : g < wr.heap.size := hS.out.row.lt g rfl
                      have hyA : ((wr.drewN (nq + 1)).alloc (.cells #[.int .i64 e0, .int .i64 et, .int .u8 97, .int .i64 e3, .int .i64 x0, .int .i64 xt, .int .u8 98, .int .i64 x3] 56)).cell? ⟨g, off + k * 4 + 1, none⟩ = some (.int .i64 xt) := by
                        rw [((below_drewN (Below.refl wr.heap.size wr) (nq + 1)).alloc (Nat.le_refl _) _).cell (p := ⟨g, off + k * 4 + 1, none⟩) hgl]
                        exact y1
                      go_wp2
                      go_region_law (refine step_append_mt ((wr.drewN (nq + 1)).alloc (.cells #[.int .i64 e0, .int .i64 et, .int .u8 97, .int .i64 e3, .int .i64 x0, .int .i64 xt, .int .u8 98, .int .i64 x3] 56)) (by rfl) _ _ (by rfl) (.slice sa LS.length sc) LS.length (LS.flatMap matC) (by rfl) (hrow0.out _ ((below_drewN (Below.refl _ _) (nq + 1)).alloc (Nat.le_refl _) _)) (wr.heap.size + 1) (by simp) (by rfl) rfl rfl rfl (by omega) ?_; intro g2 o2 c2 w2 r1 g1 b1)
                      all_goals
                        have hF := Hid.mk' (SW.push (m := mtF 1 (x0, xt, x2, x3) (e0, et, e2, e3)) (ev := [((e0, et, e2, e3) : Ev), (x0, xt, x2, x3)]) (hS.out.drewN (nq + 1)) rfl (hrow1.out (nq + 1)) r1 g1 (b1.imp id (fun h => by rw [h]; simp)))
                        have hwant2 : Hid ((LS ++ [(mtF 1 (x0, xt, x2, x3) (e0, et, e2, e3), Value.slice (some ⟨wr.heap.size, 0, none⟩) [((e0, et, e2, e3) : Ev), (x0, xt, x2, x3)].length [((e0, et, e2, e3) : Ev), (x0, xt, x2, x3)].length)]).map Prod.fst ++ ((inner (n : Int) (x0, xt, x2, x3) ((l.take k).drop (i + 1))).map (mtF 1 (x0, xt, x2, x3)) ++ wantF n 1 (l.take (k + 1)) (l.drop (k + 1))) = wantF n 1 [] l) := by
                          unfold Hid
                          have h := hwant.out
                          simpa using h
                        clear r1 g1 b1 hwant
                        go_wp2
                        go_roundw
                        case rel => exact ⟨i + 1, _, some ⟨g2, o2, none⟩, c2, (i : Int) + 1, by omega, rfl, by omega, by simp, hwant2, hF⟩
                        case measure => simp [intOf]; omega
              · rw [if_neg (fun h => hT h.2.2.1)] at hwant
                have hT2 : et + (n : Int) < xt := by omega
                have hS2 := Hid.mk' hS.out
                rw [hA] at u2
                rw [hB] at y2
                clear hA hB hkA hkB
                go_wp2
                go_quiet (fail)
                go_wp2
                go_roundw
                case rel => exact ⟨i + 1, LS, sa, sc, (i : Int) + 1, by omega, rfl, by omega, rfl, hwant, Hid.mk' (hS.out.drewN nq)⟩
                case measure => simp [intOf]; omega
            · have hkB : ¬ isK 98 (x0, xt, x2, x3) = true := by rw [isK_nat]; simpa using hB
              rw [if_neg (fun h => hkB h.2.1)] at hwant
              have hBd : decide ((x2.toNat : Int) = 98) = false := by simpa using hB
              have hd2 : ((x2.toNat : Int) == 98) = false := by simpa using hB
              have hd3 : decide (¬ (x2.toNat : Int) = 98) = true := by simpa using hB
              have hd4 : ((x2.toNat : Int) != 98) = true := by simpa using hB
              rw [hA] at u2
              clear hA hkA hkB
              go_wp2
              go_quiet (fail)
              go_wp2
              go_roundw
              case rel => exact ⟨i + 1, LS, sa, sc, (i : Int) + 1, by omega, rfl, by omega, rfl, hwant, Hid.mk' (hS.out.drewN nq)⟩
              case measure => simp [intOf]; omega
          · have hkA : ¬ isK 97 (e0, et, e2, e3) = true := by rw [isK_nat]; simpa using hA
            rw [if_neg (fun h => hkA h.1)] at hwant
            have hAd : decide ((e2.toNat : Int) = 97) = false := by simpa using hA
            have hd2 : ((e2.toNat : Int) == 97) = false := by simpa using hA
            have hd3 : decide (¬ (e2.toNat : Int) = 97) = true := by simpa using hA
            have hd4 : ((e2.toNat : Int) != 97) = true := by simpa using hA
            clear hkA
            go_wp2
            go_quiet (fail)
            go_wp2
            go_roundw
            case rel => exact ⟨i + 1, LS, sa, sc, (i : Int) + 1, by omega, rfl, by omega, rfl, hwant, Hid.mk' (hS.out.drewN nq)⟩
            case measure => simp [intOf]; omega
        · have hki : i = k := by omega
          have hw2 : Hid (LS.map Prod.fst ++ wantF n 1 (l.take (k + 1)) (l.drop (k + 1)) = wantF n 1 [] l) := by
            have h := hwant.out
            rw [List.drop_eq_nil_of_le (by simp; omega)] at h
            have h0 : inner (n : Int) x [] = [] := by simp [inner, sinceB]
            rw [h0] at h
            exact h
          clear hwant
          go_wp2
          go_roundw
          case rel => exact ⟨k + 1, LS, sa, sc, (k : Int) + 1, by omega, rfl, by omega, rfl, hw2, hS⟩
          case measure => simp [intOf]; omega
    · have hkl : k = l.length := by omega
      subst hkl
      have hw2 : LS.map Prod.fst = wantF n 1 [] l := by have h := hwant.out; rw [List.drop_length] at h; simpa [wantF] using h
      obtain ⟨hqs, hso, hwl⟩ := HQ.out
      have hend := Hid.mk' (fw_end hS.out hll hqs hw2 hso (by omega))
      obtain ⟨d1, d2, d3, d4⟩ := fol_drain hqs hso.nr hso.fq (by have := hso.tot; omega)
      have hLl : LS.length ≤ 40 := by have h := congrArg List.length hw2; rw [List.length_map] at h; omega
      rw [← hw2] at d1
      have hAl : (l.filter (isK 97)).length ≤ 40 := Nat.le_trans (List.length_filter_le _ _) hll
      generalize l.filter (isK 97) = al at hend d2 hAl
      have HD := Hid.mk' (And.intro d1 (And.intro d2 (And.intro d3 d4)))
      clear d1 d2 d3 d4 hw2 hwant hqs hso hwl hS HQ HOK
      go_wp2_with (first
        | (go_at_call 28; with_reducible refine hend.out.mono ?_; rintro e w10 ⟨aa, ac, rfl, he2⟩)
        | (go_at_call_of 23 (Value.int IntKind.i64 1); with_reducible refine he2.out.mono ?_; rintro e w11 ⟨rfl, he3⟩)
        | (go_at_call_of 23 (Value.int IntKind.i64 2); with_reducible refine he3.out.mono ?_; rintro e w12 ⟨rfl, he4⟩)
        | (go_at_call 25; with_reducible refine he4.out.mono ?_; rintro e w13 ⟨ga, gc, L, rfl, hLd, hFE⟩))
      obtain ⟨D, hDe⟩ : ∃ D, (drainE 1000 s).1 = D := ⟨_, rfl⟩
      rw [hDe] at HD hLd
      clear hDe he2 he3 he4 hend
      have hLlen : L.length ≤ 1000 := by
        have h := congrArg List.length hLd.out
        have h2 := HD.out.2.2.1
        rw [List.length_map] at h
        omega
      go_loopw [18, 19, 20] (fun ov tv iv wr => ∃ (i o t q : Nat) (zi zo zt : Int), zi = i ∧ iv = .int .i64 zi ∧ zo = o ∧ ov = .int .i64 zo ∧ zt = t ∧ tv = .int .i64 zt ∧ i ≤ L.length ∧ o ≤ LS.length ∧ t ≤ al.length ∧ Hid (o = ((D.take i).filter (fun m => m.q == 1)).length ∧ t = ((D.take i).filter (fun m => m.q == 2)).length) ∧ wr = w13.drewN q) (fun _ _ iv _ => L.length - (intOf iv).toNat)
      case atStart => exact ⟨0, 0, 0, 0, 0, 0, 0, rfl, rfl, rfl, rfl, rfl, rfl, Nat.zero_le _, Nat.zero_le _, Nat.zero_le _, ⟨by simp, by simp⟩, rfl⟩
      case round =>
        obtain ⟨i, o, t, q, zi, zo, zt, rfl, rfl, rfl, rfl, rfl, rfl, hi, ho, ht, hcnt, hw⟩ := hrel
        subst hw
        by_cases hlt : i < L.length
        · obtain ⟨g2, of2, gc', hga, hgcc⟩ := row_some hFE.out.l.row (by omega)
          obtain ⟨rfl, _, rfl⟩ := Value.slice.inj hga
          clear hga
          obtain ⟨mv, hmv⟩ : ∃ mv, L[i] = mv := ⟨_, rfl⟩
          obtain ⟨c0, c1, c2⟩ := hFE.out.l.at_ i hlt
          rw [hmv] at c0 c1 c2
          have hDi : i < D.length := by have h := congrArg List.length hLd.out; rw [List.length_map] at h; omega
          have hDm : D[i] = mv.1 := by
            have h1 : (L.map Prod.fst)[i]? = D[i]? := by rw [hLd.out]
            rw [List.getElem?_eq_getElem hDi, List.getElem?_map, List.getElem?_eq_getElem hlt, hmv] at h1
            exact (Option.some.inj h1).symm
          rcases HD.out.2.2.2 D[i] (List.getElem_mem hDi) with hq1 | hq2
          · obtain ⟨f1, f2⟩ := filter_at (fun m : Mt => m.q == 1) D i hDi (by simp [hq1])
            have f3 := filter_not Mt (fun m : Mt => m.q == 2) D i hDi (by simp [hq1])
            rw [HD.out.1, ← hcnt.out.1, hDm] at f1
            have hol : o < LS.length := by
              have h := (List.getElem?_eq_some_iff.1 f1).1
              simpa using h
            have hLo : LS[o].1 = mv.1 := by
              rw [List.getElem?_map, List.getElem?_eq_getElem hol] at f1
              exact Option.some.inj f1
            obtain ⟨g3, of3, sc', hsa, hscc⟩ := row_some hFE.out.ls.row (by omega)
            obtain ⟨rfl, _, rfl⟩ := Value.slice.inj hsa
            clear hsa
            have hsame : Hid (∀ x, Calls Tryd.prog 26 #[.slice (some ⟨g2, of2 + i * 3, none⟩) 1 (gc - i), .slice (some ⟨g3, of3 + o * 3, none⟩) 1 (sc - o)] (w13.drewN (q + x)) fun e w' => e = .returned (.bool true) ∧ ∃ n, w' = w13.drewN (q + n)) := by
              intro x
              refine (same_yes (w13.drewN (q + x)) _ _ [L[i]] [LS[o]] ((hFE.out.drewN (q + x)).l.piece i hlt) ((hFE.out.drewN (q + x)).ls.piece o hol) ?_ (by simp)).mono ?_
              · simp [hmv, hLo]
              · rintro e w' ⟨rfl, q', rfl⟩; exact ⟨rfl, x + q', by rw [World.drewN_drewN, Nat.add_assoc]⟩
            have hcnt2 : Hid (o + 1 = ((D.take (i + 1)).filter (fun m => m.q == 1)).length ∧ t = ((D.take (i + 1)).filter (fun m => m.q == 2)).length) := by
              unfold Hid
              rw [f2, f3]
              exact ⟨by rw [hcnt.out.1], hcnt.out.2⟩
            have hq1' : mv.1.q = 1 := by rw [← hDm]; exact hq1
            rw [hq1'] at c0
            have hw1 : IntKind.i64.wrap ((i : Int) + 1) = (i : Int) + 1 := IntWalk.i64_in _ (by omega)
            have hw2 : IntKind.i64.wrap ((o : Int) + 1) = (o : Int) + 1 := IntWalk.i64_in _ (by omega)
            have hne1 : ¬ gc = i := by omega
            have hne2 : ¬ sc = o := by omega
            have hp1 : (0 : Int) ≤ (i : Int) + 1 := by omega
            have hp2 : (0 : Int) ≤ (o : Int) + 1 := by omega
            have hb1 : (i : Int) + 1 ≤ (gc : Int) := by omega
            have hb2 : (o : Int) + 1 ≤ (sc : Int) := by omega
            have hb3 : i + 1 ≤ gc := by omega
            have hb4 : o + 1 ≤ sc := by omega
            have hb5 : i < gc := by omega
            have hb6 : o < sc := by omega
            have hb7 : (i : Int) ≤ (i : Int) + 1 := by omega
            have hb8 : (o : Int) ≤ (o : Int) + 1 := by omega
            clear hcnt f1 f2 f3 hq1 hq1' hDm hLo hDi hmv
            go_wp2
            go_quiet ((exact hsame.out _))
            go_wp2
            go_roundw
            case rel => exact ⟨i + 1, o + 1, t, q + nq, (i : Int) + 1, (o : Int) + 1, (t : Int), by omega, rfl, by omega, rfl, rfl, rfl, by omega, by omega, by omega, hcnt2, by first | rfl | exact (World.drewN_drewN _ _ _)⟩
            case measure => simp [intOf]; omega
          · obtain ⟨f1, f2⟩ := filter_at (fun m : Mt => m.q == 2) D i hDi (by simp [hq2])
            have f3 := filter_not Mt (fun m : Mt => m.q == 1) D i hDi (by simp [hq2])
            rw [HD.out.2.1, ← hcnt.out.2, hDm] at f1
            have htl : t < al.length := by
              have h := (List.getElem?_eq_some_iff.1 f1).1
              simpa using h
            obtain ⟨x, hx⟩ : ∃ x, al[t] = x := ⟨_, rfl⟩
            have hma : mv.1 = aloM x := by
              rw [List.getElem?_map, List.getElem?_eq_getElem htl, hx] at f1
              exact (Option.some.inj f1).symm
            have hcnt2 : Hid (o = ((D.take (i + 1)).filter (fun m => m.q == 1)).length ∧ t + 1 = ((D.take (i + 1)).filter (fun m => m.q == 2)).length) := by
              unfold Hid
              rw [f2, f3]
              exact ⟨hcnt.out.1, by rw [hcnt.out.2]⟩
            have hev := hFE.out.l.ev mv (by rw [← hmv]; exact List.getElem_mem hlt)
            rw [hma] at hev c0 c1
            obtain ⟨g4, of4, ec, hm2, hec⟩ := row_some hev (show 0 < 1 by omega)
            rw [hm2] at hev c2
            obtain ⟨v0', v1', v2', v3'⟩ := ev_at (l := [x]) hev 0 (by simp)
            obtain ⟨g5, of5, ac', haa, hacc⟩ := row_some hFE.out.asl (by omega)
            obtain ⟨rfl, _, rfl⟩ := Value.slice.inj haa
            clear haa
            obtain ⟨y0', y1', y2', y3'⟩ := ev_at hFE.out.asl t htl
            rw [hx] at y0' y1' y2' y3'
            simp only [Nat.zero_mul, Nat.add_zero, List.getElem_cons_zero] at v0' v1' v2' v3'
            have c0' : w13.cell? ⟨g2, of2 + i * 3, none⟩ = some (.int .i64 2) := c0
            have c1' : w13.cell? ⟨g2, of2 + i * 3 + 1, none⟩ = some (.int .i64 x.2.1) := c1
            have c2' : w13.cell? ⟨g2, of2 + i * 3 + 2, none⟩ = some (.slice (some ⟨g4, of4, none⟩) 1 ec) := c2
            clear hcnt f1 f2 f3 hq2 hDm hDi hmv hma hx hev hm2 c0 c1 c2
            obtain ⟨x0, xt, x2, x3⟩ := x
            simp only at v0' v1' v2' v3' y0' y1' y2' y3' c1'
            have hd1 : ¬ (al.length : Int) ≤ (t : Int) := by omega
            have hd2 : decide ((al.length : Int) ≤ (t : Int)) = false := by simpa using hd1
            go_wp2
            go_quiet (fail)
            go_wp2
            go_roundw
            case rel => exact ⟨i + 1, o, t + 1, q + nq, (i : Int) + 1, (o : Int), (t : Int) + 1, by omega, rfl, rfl, rfl, by omega, rfl, by omega, by omega, by omega, hcnt2, by first | rfl | exact (World.drewN_drewN _ _ _)⟩
            case measure => simp [intOf]; omega
        · have hil : i = L.length := by omega
          subst hil
          have hDl : D.length = L.length := by have h := congrArg List.length hLd.out; rw [List.length_map] at h; omega
          have e1 : o = LS.length := by
            rw [hcnt.out.1, ← hDl, List.take_length, HD.out.1, List.length_map]
          have e2 : t = al.length := by
            rw [hcnt.out.2, ← hDl, List.take_length, HD.out.2.1, List.length_map]
          subst e1
          subst e2
          clear hcnt
          go_wp2
          go_ret
          exact ⟨rfl, below_drewN hFE.out.below q⟩
end Go.Proofs.YtbgfannlfagoiaaDoor
