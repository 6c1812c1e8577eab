import Derived.Test.YtbgfannlfagoiaaDoorUa
namespace Go.Proofs.YtbgfannlfagoiaaDoor
open Go.RowKit Go.Lull
set_option linter.unusedVariables false

theorem fair_hq {w : World} {m : Int} (hm : w.cell? ⟨0, 0, none⟩ = some (.int .i64 m)) {v2 v3 v4 : Value} {a b c : List Int} (h2 : RAW w v2 a) (h3 : RAW w v3 b) (h4 : RAW w v4 c) (l : List Ev) :
    ∀ ex ey sy W lv, TL w W ex ey openE sy lv l → Calls Tryd.prog 30 #[.pointer (some ⟨ex, 0, none⟩), v2, v3, v4] W fun e w' => e = .returned (.bool true) ∧ Hid (TL w w' ex ey (qE a b c) sy lv l) := by
  intro ex ey sy W lv hT
  obtain ⟨G, k1, k2⟩ := hT.left
  refine (queries_any m hm v2 v3 v4 a b c h2 h3 h4 k1).mono ?_
  rintro e w3 ⟨rfl, hA, hS⟩
  exact ⟨rfl, k2 _ w3 hA hS⟩

theorem row_cap {w : World} {e : TypeId} {size n : Nat} {va : Option Addr} {cap : Nat} {xs : List Value} (h : Row w e size (.slice va n cap) n xs) : n ≤ cap := by
  obtain ⟨a, c, h1, h2⟩ := h.form
  obtain ⟨_, _, rfl⟩ := Value.slice.inj h1
  exact h2

set_option maxRecDepth 8000 in
set_option maxHeartbeats 4000000 in
theorem fair_any (w : World) (m : Int) (hm : w.cell? ⟨0, 0, none⟩ = some (.int .i64 m)) (v0 v1 v2 v3 v4 : Value) (raw parts a b c : List Int) (gone : Int) (h0 : RAW w v0 raw) (h1 : RAW w v1 parts) (h2 : RAW w v2 a) (h3 : RAW w v3 b) (h4 : RAW w v4 c) (hgone : I64 gone) :
    Calls Tryd.prog 10 #[v0, v1, v2, v3, v4, .int .i64 gone] w fun e w' => e = .returned (.bool true) ∧ Below w.heap.size w w' := by
  have hz0 : 0 < w.heap.size := block_lt_of_cell hm
  have hop1 : Hid (Calls Tryd.prog 15 #[] w fun e w' => ∃ eb, e = .returned (.pointer (some ⟨eb, 0, none⟩)) ∧ Hid (At w.heap.size eb w openE [] w')) := opened_any w m hm
  have hop2 : Hid (∀ ex w1, At w.heap.size ex w openE [] w1 → Calls Tryd.prog 15 #[] w1 fun e w' => ∃ eb, e = .returned (.pointer (some ⟨eb, 0, none⟩)) ∧ Hid (TW w.heap.size ex eb w openE openE [] w')) := by
    intro ex w1 hA
    refine (opened_any w1 m ((hA.below.cell (p := ⟨0, 0, none⟩) hz0).trans hm)).mono ?_
    rintro e w2 ⟨eb, rfl, hB⟩
    exact ⟨eb, rfl, TW.mk' hA hB⟩
  have hev : Hid (∀ ex ey w2, TW w.heap.size ex ey w openE openE [] w2 → Calls Tryd.prog 18 #[v0] w2 fun e w' => ∃ ev, e = .returned ev ∧ Hid (TW w.heap.size ex ey w openE openE [] w' ∧ Row w' 56 4 ev (evsB raw).length ((evsB raw).flatMap evC))) := by
    intro ex ey w2 hT
    refine (events_any w2 v0 raw (h0.mono hT.below)).mono ?_
    rintro e w3 ⟨v', rfl, hN⟩
    exact ⟨v', rfl, hT.then (Nat.le_refl _) hN.below, hN.row⟩
  have hsort : Hid (∀ ex ey w2 ev, (TW w.heap.size ex ey w openE openE [] w2 ∧ Row w2 56 4 ev (evsB raw).length ((evsB raw).flatMap evC)) → Calls Tryd.prog 17 #[ev] w2 fun e w' => ∃ lv, e = .returned lv ∧ Hid (TL w w' ex ey openE openE lv (putAll [] (evsB raw)))) := by
    rintro ex ey w2 ev ⟨hT, hr⟩
    refine (sorted_any w2 ev (evsB raw) hr (by have := evsB_len raw; omega)).mono ?_
    rintro e w3 ⟨v', rfl, hN⟩
    refine ⟨v', rfl, ?_, hN.row⟩
    have := hT.new (G := v'.ownBlock.toList) (Nat.le_refl _) hN.below (fun x hx => ⟨hN.new x (by simpa using hx), hN.row.lt x (by simpa using hx)⟩)
    rwa [List.nil_append] at this
  have hel := evsB_len raw
  have hevs : ∀ e ∈ putAll [] (evsB raw), properB 3 e = true ∧ 1 ≤ e.2.1 ∧ e.2.1 ≤ 60 := fun e he => evsB_ok raw e (((mem_putAll _ _).1 he).elim (fun h => by cases h) id)
  have hll : (putAll [] (evsB raw)).length ≤ 40 := by rw [putAll_len]; simpa using hel
  generalize putAll [] (evsB raw) = L at hsort hevs hll
  have hq := Hid.mk' (fair_hq hm h2 h3 h4 L)
  have hfed := Hid.mk' (fun ex ey sy W lv (h : TL w W ex ey (qE a b c) sy lv L) => tl_fed h hll hevs)
  obtain ⟨pa, hpa⟩ : ∃ pa, pickI gone 4 = pa := ⟨_, rfl⟩
  obtain ⟨pa0, pa1⟩ := pickI_nn gone 4 (by omega)
  have hpk := Hid.mk' (fun W => pick_any gone 4 W hgone (by omega) (by omega))
  rw [hpa] at hpk pa0 pa1
  obtain ⟨kk, hkk⟩ : ∃ kk : Nat, 1 + pa = kk := ⟨(1 + pa).toNat, by omega⟩
  have hff := Hid.mk' (fun h => fin_facts a b c L h (k := kk) (by omega) (by omega))
  obtain ⟨FE, hFE⟩ : ∃ FE, finE a b c L = FE := ⟨_, rfl⟩
  obtain ⟨hRv, hR0⟩ := fin_rem a b c L (k := kk) (by omega) (by omega)
  rw [hFE] at hfed hff hRv hR0
  obtain ⟨RS, hRS⟩ : ∃ RS, (removeE FE kk).2 = RS := ⟨_, rfl⟩
  obtain ⟨R, hR⟩ : ∃ R : Int, ((removeE FE kk).1 : Int) = R := ⟨_, rfl⟩
  have hrem : Hid (∀ ex ey sy W lv, TL w W ex ey FE sy lv L → SO L.length FE → Calls Tryd.prog 32 #[.pointer (some ⟨ex, 0, none⟩), .int .i64 (kk : Int)] W fun e w' => e = .returned (.int .i64 R) ∧ Hid (TL w w' ex ey RS sy lv L)) := by
    intro ex ey sy W lv h hso
    have := tl_remove h hso.nr (kk : Int)
    rwa [hRS, hR] at this
  rw [hRS] at hff
  have hRv2 : R = if kk < 4 then 0 else 4 := by rw [← hR, hRv]; split <;> rfl
  rw [hRS] at hR0
  obtain ⟨x1, hx1⟩ : ∃ x1, wq RS.qs 1 = x1 := ⟨_, rfl⟩
  obtain ⟨x2, hx2⟩ : ∃ x2, wq RS.qs 2 = x2 := ⟨_, rfl⟩
  obtain ⟨x3, hx3⟩ : ∃ x3, wq RS.qs 3 = x3 := ⟨_, rfl⟩
  have hw1 := Hid.mk' (fun ex ey W lv (h : TL w W ex ey RS RS lv L) => tl_waiting h 1)
  have hw2 := Hid.mk' (fun ex ey W lv (h : TL w W ex ey RS RS lv L) => tl_waiting h 2)
  have hw3 := Hid.mk' (fun ex ey W lv (h : TL w W ex ey RS RS lv L) => tl_waiting h 3)
  rw [hx1] at hw1
  rw [hx2] at hw2
  rw [hx3] at hw3
  have hfive : Hid (∀ W : World, (W.alloc (.cells #[.int .i64 0, .int .i64 (x1 : Int), .int .i64 (x2 : Int), .int .i64 (x3 : Int), .int .i64 0] 74)).cell? ⟨W.heap.size, kk, none⟩ = some (.int .i64 0)) := by
    intro W
    have hb : (five x1 x2 x3)[kk]? = some (.int .i64 0) := by
      have : kk = 1 ∨ kk = 2 ∨ kk = 3 ∨ kk = 4 := by omega
      rcases this with rfl | rfl | rfl | rfl
      · have e : x1 = 0 := hx1.symm.trans (hR0 (by omega)); rw [e]; rfl
      · have e : x2 = 0 := hx2.symm.trans (hR0 (by omega)); rw [e]; rfl
      · have e : x3 = 0 := hx3.symm.trans (hR0 (by omega)); rw [e]; rfl
      · rfl
    exact cell_blk (heap_alloc_new _ _) hb
  have hdr : Hid (∀ ex ey W lv, TL w W ex ey RS RS lv L → SO L.length FE → Calls Tryd.prog 25 #[.pointer (some ⟨ex, 0, none⟩), .int .i64 1000] (W.alloc (.cells #[.int .i64 0, .int .i64 (x1 : Int), .int .i64 (x2 : Int), .int .i64 (x3 : Int), .int .i64 0] 74)) fun e w1 => ∃ va cap LA, e = .returned (.slice va LA.length cap) ∧ LA.map Prod.fst = (drainE 1000 RS).1 ∧ Hid (PR w w1 ey W.heap.size RS (.slice va LA.length cap) LA x1 x2 x3 (.slice none 0 0) [] 0)) := by
    intro ex ey W lv h hso
    obtain ⟨f1, f2, f3, f4, f5, f6, f7⟩ := hff.out hso
    exact tl_drain h f2 (by omega) rfl ((Below.refl _ _).alloc (Nat.le_refl _) _) (by simp) (heap_alloc_new _ _)
  have HX := Hid.mk' (And.intro hx1 (And.intro hx2 hx3))
  obtain ⟨pad, pb, poff, pcap, rfl, hpc, hpat, hpcell⟩ := h1.ex
  have hpl : parts.length ≤ 9223372036854775807 := by have := h1.len; unfold maxLen at this; omega
  have HPC := Hid.mk' hpcell
  have HPA := Hid.mk' hpat
  have HPF := Hid.mk' h1.fits
  clear h0 h1 h2 h3 h4 hm hevs hpcell hpat hRS hR hRv hpa hgone hx1 hx2 hx3 hFE hR0
  have hk5 : kk < 5 := by omega
  by_cases hk4 : kk < 4
  have hk4i : kk < 4 → (kk : Int) < 4 := by omega
  case' pos => replace hk4i := hk4i hk4
  case' pos => rw [if_pos hk4] at hRv2
  case' neg => rw [if_neg hk4] at hRv2
  all_goals subst hRv2
  all_goals
   go_enter Tryd.func10, Tryd.ntmps10
   go_wp2_with (first
    | (go_at_call 15; with_reducible refine hop1.out.mono ?_; rintro e w1 ⟨ex, rfl, hA1⟩)
    | (go_at_call 15; with_reducible refine (hop2.out ex w1 hA1.out).mono ?_; rintro e w2 ⟨ey, rfl, hT2⟩)
    | (go_at_call 18; with_reducible refine (hev.out ex ey w2 hT2.out).mono ?_; rintro e w3 ⟨ev, rfl, hT3⟩)
    | (go_at_call 17; with_reducible refine (hsort.out ex ey w3 ev hT3.out).mono ?_; rintro e w4 ⟨lv, rfl, hT4⟩)
    | (go_at_call_of 30 (Value.pointer (some ⟨ex, 0, none⟩)); with_reducible refine (hq.out ex ey _ w4 lv hT4.out).mono ?_; rintro e w5 ⟨rfl, hT5⟩)
    | (go_at_call_of 30 (Value.pointer (some ⟨ey, 0, none⟩)); with_reducible refine (hq.out ey ex _ w5 lv hT5.out.swap).mono ?_; rintro e w6 ⟨rfl, hT6⟩)
    | (go_at_call_of 27 (Value.pointer (some ⟨ex, 0, none⟩)); with_reducible refine (hfed.out ex ey _ w6 lv hT6.out.swap).mono ?_; rintro e w7 ⟨rfl, hT7⟩)
    | (go_at_call_of 27 (Value.pointer (some ⟨ey, 0, none⟩)); with_reducible refine (hfed.out ey ex _ w7 lv hT7.out.1.swap).mono ?_; rintro e w8 ⟨rfl, hT8⟩)
    | (go_at_call 16; with_reducible refine (hpk.out _).mono ?_; rintro e w' ⟨rfl, rfl⟩)
    | (go_at_call_of 32 (Value.pointer (some ⟨ex, 0, none⟩)); with_reducible refine (hrem.out ex ey _ _ lv hT8.out.1.swap hT8.out.2).mono ?_; rintro e w9 ⟨rfl, hT9⟩)
    | (go_at_call_of 32 (Value.pointer (some ⟨ey, 0, none⟩)); with_reducible refine (hrem.out ey ex _ w9 lv hT9.out.swap hT8.out.2).mono ?_; rintro e w10 ⟨rfl, hT10⟩)
    | (go_at_call_of 23 (Value.int IntKind.i64 1); with_reducible refine (hw1.out ex ey _ lv hT10.out.swap).mono ?_; rintro e w11 ⟨rfl, hT11⟩)
    | (go_at_call_of 23 (Value.int IntKind.i64 2); with_reducible refine (hw2.out ex ey _ lv hT11.out).mono ?_; rintro e w12 ⟨rfl, hT12⟩)
    | (go_at_call_of 23 (Value.int IntKind.i64 3); with_reducible refine (hw3.out ex ey _ lv hT12.out).mono ?_; rintro e w13 ⟨rfl, hT13⟩; have hc5 := hfive.out w13)
    | (go_at_call 25; with_reducible refine (hdr.out ex ey w13 lv hT13.out hT8.out.2).mono ?_; rintro e w14 ⟨va, vcap, LA, rfl, hLA, hPR⟩))
   have HN13 := Hid.mk' hT13.out.tw.below.size
   obtain ⟨f1, f2, f3, f4, f5, f6, f7⟩ := hff.out hT8.out.2
   have FF := Hid.mk' (And.intro f2 (And.intro f3 (And.intro f4 (And.intro f6 f7))))
   clear hop1 hop2 hev hsort hq hfed hpk hff hrem hdr hw1 hw2 hw3 hfive hA1 hT2 hT3 hT4 hT5 hT6 hT7 hT8 hT9 hT10 hT11 hT12 hT13 hc5 f1 f2 f3 f4 f5 f6 f7
   have hNw : w.heap.size ≤ w13.heap.size := HN13.out
   obtain ⟨lb, hlb⟩ : ∃ lb, w13.heap.size = lb := ⟨_, rfl⟩
   rw [hlb] at hPR hNw ⊢
   clear hlb HN13
   have hLAl : LA.length ≤ 1000 := by
     have h1 := congrArg List.length hLA
     have h2 := drainE_kept 1000 RS
     rw [List.length_map] at h1
     have := FF.out.2.2.2.1
     omega
   have hvcap := row_cap hPR.out.kp.la.row
   have hsum : Hid (LA.length = x1 + x2 + x3) := by
     unfold Hid
     have h1 := congrArg List.length hLA
     rw [List.length_map, (drainE_len 1000 RS FF.out.1 FF.out.2.1 (by have := FF.out.2.2.2.1; omega)).1, ← wq_three RS.qs FF.out.1 FF.out.2.2.1, HX.out.1, HX.out.2.1, HX.out.2.2] at h1
     exact h1
   go_loopw [25, 26] (fun sv i wr => ∃ (k n : Nat) (LS : List (Mt × Value)) (sa : Option Addr) (scap : Nat) (z : Int), z = k ∧ i = .int .i64 z ∧ k ≤ parts.length ∧ sv = .slice sa LS.length scap ∧ Hid (PR w wr ey lb RS (.slice va LA.length vcap) LA x1 x2 x3 (.slice sa LS.length scap) LS n)) (fun _ i _ => parts.length - (intOf i).toNat)
   case atStart => exact ⟨0, 0, [], none, 0, 0, rfl, rfl, Nat.zero_le _, rfl, hPR⟩
   case round =>
     obtain ⟨k, n, LS, sa, scap, z, rfl, rfl, hk, rfl, hP⟩ := hrel
     clear hPR
     have hdp := Hid.mk' (fun p => pr_drain hP.out FF.out.1 (by have := FF.out.2.2.2.1; omega) p)
     by_cases hlt : k < parts.length ∧ k < 200
     · obtain ⟨hl1, hl2⟩ := hlt
       have hpne : parts ≠ [] := fun e => by rw [e] at hl1; cases hl1
       obtain ⟨mk, hmkv⟩ : ∃ mk, parts[k] = mk := ⟨_, rfl⟩
       obtain ⟨rfl, hpbl⟩ := HPA.out hpne
       have hpcl : wr.cell? ⟨pb, poff + k, none⟩ = some (.int .i64 mk) := by
         rw [hP.out.at_.below.cell (p := ⟨pb, poff + k, none⟩) hpbl, HPC.out k hl1, hmkv]
       have hpk := Hid.mk' (pick_any mk 6 wr (HPF.out mk (by rw [← hmkv]; exact List.getElem_mem hl1)) (by omega) (by omega))
       obtain ⟨pp, hpp⟩ : ∃ pp, pickI mk 6 = pp := ⟨_, rfl⟩
       rw [hpp] at hpk
       clear hmkv hpp
       go_wp2_with (first
         | (go_at_call 16; with_reducible refine hpk.out.mono ?_; rintro e w' ⟨rfl, rfl⟩)
         | (go_at_call 25; with_reducible refine (hdp.out _).mono ?_; rintro e w2 ⟨v, LD, rfl, hP2⟩)
         | (at_builtin; refine append_mts0 w2 rfl _ _ rfl (.slice sa LS.length scap) LS.length (LS.flatMap matC) rfl hP2.out.ls.row v LD.length (LD.flatMap matC) rfl hP2.out.l.src (by have := hP2.out.len; have := FF.out.2.2.2.1; omega) ?_; intro va2 cap2 w3 r1 r2 r3; have hP3 := Hid.mk' (hP2.out.done r1 r2 r3); clear r1 r2 r3))
       go_roundw
       case rel => exact ⟨k + 1, n + pp.toNat, LS ++ LD, va2, cap2, (k : Int) + 1, by omega, rfl, by omega, by rw [List.length_append], by rw [List.length_append]; exact hP3⟩
       case measure => simp [intOf]; omega
     · have hex : Hid (¬ (k < parts.length ∧ k < 200)) := hlt
       by_cases hl1 : k < parts.length
       case' pos => have hl2 : ¬ k < 200 := fun h => hex.out ⟨hl1, h⟩
       all_goals
         clear hlt hex
         have hs1k : x1 + x2 + x3 ≤ 1000 := by have := hsum.out; omega
         have hsumi : (x1 : Int) + (x2 : Int) + (x3 : Int) = (LA.length : Int) := by have := hsum.out; omega
         go_wp2_with (first
           | (go_at_call 25; with_reducible refine (hdp.out 1000).mono ?_; rintro e w2 ⟨v, LD, rfl, hP2⟩)
           | (at_builtin; refine append_mts0 w2 rfl _ _ rfl (.slice sa LS.length scap) LS.length (LS.flatMap matC) rfl hP2.out.ls.row v LD.length (LD.flatMap matC) rfl hP2.out.l.src (by have := hP2.out.len; have := FF.out.2.2.2.1; omega) ?_; intro va2 cap2 w3 r1 r2 r3; have hP3 := Hid.mk' (hP2.out.done r1 r2 r3); clear r1 r2 r3; obtain ⟨hc1, hc2, hc3⟩ := hP3.out.kp.c)
           | (go_at_call 26; with_reducible refine (hP3.out.all FF.out.1 FF.out.2.1 (by have := FF.out.2.2.2.1; omega) hLA hLAl).mono ?_; rintro e w4 ⟨rfl, q4, rfl⟩))
         have hKP : Hid (KP w (w3.drewN q4) lb (.slice va LA.length vcap) LA x1 x2 x3 ∧ Below w.heap.size w (w3.drewN q4)) := ⟨hP3.out.kp.same (fun b hb => by simp), below_drewN hP3.out.at_.below q4⟩
         clear hP3 hP2 hdp hP hc1 hc2 hc3
         obtain ⟨A, hA⟩ : ∃ A, LA.map Prod.fst = A := ⟨_, rfl⟩
         have hAl : A.length = LA.length := by rw [← hA]; simp
         rw [hA] at hLA
         go_loopw [29, 30] (fun rv i wr => ∃ (k rr : Nat) (sk : En) (z zr : Int), z = k ∧ i = .int .i64 z ∧ zr = rr ∧ rv = .int .i64 zr ∧ k ≤ LA.length ∧ rr ≤ k ∧ Hid (FR A RS k sk rr) ∧ Hid (KP w wr lb (.slice va LA.length vcap) LA (wq sk.qs 1) (wq sk.qs 2) (wq sk.qs 3) ∧ Below w.heap.size w wr)) (fun _ i _ => LA.length - (intOf i).toNat)
         case atStart =>
           refine ⟨0, 0, RS, 0, 0, rfl, rfl, rfl, rfl, Nat.zero_le _, Nat.le_refl _, FR.start A FF.out.1 FF.out.2.1 FF.out.2.2.1 FF.out.2.2.2.2, ?_⟩
           rw [HX.out.1, HX.out.2.1, HX.out.2.2]; exact hKP
         case round =>
           obtain ⟨k, rr, sk, z, zr, rfl, rfl, rfl, rfl, hk, hrr, hFR, hK⟩ := hrel
           clear hKP hsumi hs1k
           by_cases hlt : k < LA.length
           · have hkA : k < A.length := by omega
             obtain ⟨s', ⟨n1, n3⟩, hne0, hbig, hpop, hFR'⟩ := hFR.out.step hLA hkA
             have hAk : A[k] = LA[k].1 := by subst hA; simp
             rw [hAk] at n1 n3 hne0 hbig hpop hFR'
             have htot : wq sk.qs 1 + wq sk.qs 2 + wq sk.qs 3 ≤ 1000 := by
               rw [wq_three sk.qs hFR.out.fi.nr hFR.out.n3, hFR.out.eq]
               have := (drainE_keep k RS FF.out.1).2
               have := FF.out.2.2.2.1
               omega
             obtain ⟨ga, oa, vcap', hva, _⟩ := row_some hK.out.1.la.row (by omega)
             obtain ⟨rfl, _, rfl⟩ := Value.slice.inj hva
             clear hva
             obtain ⟨xA0, _, _⟩ := hK.out.1.la.at_ k hlt
             obtain ⟨qn, hqn⟩ : ∃ qn, LA[k].1.q = qn := ⟨_, rfl⟩
             rw [hqn] at xA0 n1 n3 hne0 hbig hpop hFR'
             obtain ⟨hc1, hc2, hc3⟩ := hK.out.1.c
             have hcN : wr.cell? ⟨lb, qn, none⟩ = some (.int .i64 (wq sk.qs qn : Int)) := by
               have : qn = 1 ∨ qn = 2 ∨ qn = 3 := by omega
               rcases this with e | e | e <;> subst e
               · exact hc1
               · exact hc2
               · exact hc3
             have hfz : wr.frozen? ⟨lb, qn, none⟩ = false := frozen_of_row _ _ _ _ _ hK.out.1.left
             have hnew := Hid.mk' (fun q => kp_pop q hK.out n1 n3 hne0 hpop)
             have hsm : wq sk.qs qn ≤ 1000 := by
               have : qn = 1 ∨ qn = 2 ∨ qn = 3 := by omega
               rcases this with e | e | e <;> subst e <;> simp <;> omega
             have HP := Hid.mk' hpop
             have HF := Hid.mk' hFR'
             have HB := Hid.mk' hbig
             obtain ⟨yn, hyn⟩ : ∃ yn, wq sk.qs qn = yn := ⟨_, rfl⟩
             obtain ⟨y1, hy1⟩ : ∃ y1, wq sk.qs 1 = y1 := ⟨_, rfl⟩
             obtain ⟨y2, hy2⟩ : ∃ y2, wq sk.qs 2 = y2 := ⟨_, rfl⟩
             obtain ⟨y3, hy3⟩ : ∃ y3, wq sk.qs 3 = y3 := ⟨_, rfl⟩
             rw [hyn] at hcN hnew hsm hne0 HB
             rw [hy1] at hc1 htot HB
             rw [hy2] at hc2 htot HB
             rw [hy3] at hc3 htot HB
             have HK := Hid.mk' hK.out
             clear hyn hy1 hy2 hy3 hqn hAk hpop hFR' hbig hK hFR
             have hbn1 : ¬ (qn : Int) < 1 := by omega
             have hbn3 : ¬ (3 : Int) < (qn : Int) := by omega
             have hyn0 : ¬ (yn : Int) = 0 := by omega
             by_cases hk0 : k = 0
             · have hk0i : ¬ (0 : Int) < (k : Int) := by omega
               obtain ⟨r1, hr1⟩ : ∃ r1 : Nat, (rr : Int) + 1 = (r1 : Int) := ⟨rr + 1, by omega⟩
               have hr2 : decide ((2 : Int) < (r1 : Int)) = false := by simp; omega
               have hNR : Hid (nextRow rr (prevOf A k) qn = r1) := by
                 unfold Hid
                 have : r1 = rr + 1 := by omega
                 subst hk0; rw [this]; rfl
               have HK0 := Hid.mk' hk0
               clear hk0
               go_wp2
               go_quiet (fail)
               go_wp2
               go_roundw
               case rel => exact ⟨k + 1, _, s', (k : Int) + 1, (r1 : Int), by omega, rfl, rfl, rfl, by omega, by omega, by rw [← hNR.out]; exact HF.out, hnew.out nq⟩
               case measure => simp [intOf]; omega
             · obtain ⟨kp, hkp⟩ : ∃ kp : Nat, (k : Int) - 1 = (kp : Int) := ⟨k - 1, by omega⟩
               have hkpl : kp < LA.length := by omega
               have hk0i : (0 : Int) < (k : Int) := by omega
               obtain ⟨pA0, _, _⟩ := HK.out.1.la.at_ kp hkpl
               have hprev : prevOf A k = some LA[kp].1.q := by
                 have : k = kp + 1 := by omega
                 subst this
                 show (A[kp]?).map (·.q) = _
                 rw [List.getElem?_eq_getElem (by omega)]
                 subst hA; simp
               obtain ⟨pq, hpq⟩ : ∃ pq, LA[kp].1.q = pq := ⟨_, rfl⟩
               rw [hpq] at pA0 hprev
               have HPV := Hid.mk' hprev
               clear hpq hprev
               by_cases hpn : pq = qn
               · subst hpn
                 obtain ⟨r1, hr1⟩ : ∃ r1 : Nat, (rr : Int) + 1 = (r1 : Int) := ⟨rr + 1, by omega⟩
                 have hNR : Hid (nextRow rr (prevOf A k) pq = r1) := by
                   unfold Hid
                   have : r1 = rr + 1 := by omega
                   rw [HPV.out, this]; unfold nextRow; simp
                 by_cases h2 : 2 < r1
                 · have hr2 : decide ((2 : Int) < (r1 : Int)) = true := by simp; omega
                   have hle := HB.out (by rw [hNR.out]; exact h2)
                   have hr3 : decide ((yn : Int) < (y1 : Int) + (y2 : Int) + (y3 : Int)) = false := by simp; omega
                   have e1 : IntKind.i64.wrap ((y1 : Int) + (y2 : Int)) = (y1 : Int) + (y2 : Int) := IntWalk.i64_in _ (by omega)
                   have e2 : IntKind.i64.wrap ((y1 : Int) + (y2 : Int) + (y3 : Int)) = (y1 : Int) + (y2 : Int) + (y3 : Int) := IntWalk.i64_in _ (by omega)
                   go_wp2
                   go_quiet (fail)
                   go_wp2
                   go_roundw
                   case rel => exact ⟨k + 1, _, s', (k : Int) + 1, (r1 : Int), by omega, rfl, rfl, rfl, by omega, by omega, by rw [← hNR.out]; exact HF.out, hnew.out nq⟩
                   case measure => simp [intOf]; omega
                 · have hr2 : decide ((2 : Int) < (r1 : Int)) = false := by simp; omega
                   go_wp2
                   go_quiet (fail)
                   go_wp2
                   go_roundw
                   case rel => exact ⟨k + 1, _, s', (k : Int) + 1, (r1 : Int), by omega, rfl, rfl, rfl, by omega, by omega, by rw [← hNR.out]; exact HF.out, hnew.out nq⟩
                   case measure => simp [intOf]; omega
               · have hpni : ¬ (pq : Int) = (qn : Int) := by omega
                 have hNR : Hid (nextRow rr (prevOf A k) qn = 1) := by
                   unfold Hid
                   rw [HPV.out]; unfold nextRow; simp [hpn]
                 go_wp2
                 go_quiet (fail)
                 go_wp2
                 go_roundw
                 case rel => exact ⟨k + 1, 1, s', (k : Int) + 1, 1, by omega, rfl, rfl, rfl, by omega, by omega, by have := HF.out; rw [hNR.out] at this; exact this, hnew.out nq⟩
                 case measure => simp [intOf]; omega
           · go_wp2
             go_ret
             exact ⟨rfl, hK.out.2⟩
end Go.Proofs.YtbgfannlfagoiaaDoor
