import Derived.Test.YtbgfannlfagoiaaDoorUa
namespace Go.Proofs.YtbgfannlfagoiaaDoor
open Go.RowKit Go.Lull
set_option linter.unusedVariables false

/-- turned, in the midst: what is out, and what is left. -/
structure TD (w wr : World) (ov lv : Value) (OUT LEFT l : List Ev) : Prop where
  bel : Below w.heap.size w wr
  ro : Row wr 56 4 ov OUT.length (OUT.flatMap evC)
  rl : Row wr 56 4 lv LEFT.length (LEFT.flatMap evC)
  no : ∀ b, ov.ownBlock = some b → w.heap.size ≤ b
  nl : ∀ b, lv.ownBlock = some b → w.heap.size ≤ b
  ne : ∀ b, ov.ownBlock = some b → lv.ownBlock = some b → False
  eq : putAll [] (OUT ++ LEFT) = putAll [] l
  len : OUT.length + LEFT.length = l.length
  mem : ∀ e, e ∈ OUT ++ LEFT → e ∈ l
section
variable {w wr w2 w3 w4 : World} {ov lv v2 v3 v4 : Value} {OUT LEFT l : List Ev} {q kk : Nat} {o : Obj}
theorem TD.left2 (h : TD w wr ov lv OUT LEFT l) (g1 : ((wr.drewN q).alloc o).grownBy w2 ov.ownBlock) : Row w2 56 4 lv LEFT.length (LEFT.flatMap evC) := by
  refine h.rl.same (fun b hb => ?_)
  have hl := h.rl.lt b hb
  rw [g1.block b (by simp; omega) (fun e => h.ne b e.symm hb), Below.heap_alloc _ _ _ (by simpa using hl)]
  simp
theorem left3 (h : Row w2 56 4 lv LEFT.length (LEFT.flatMap evC)) (g2 : w2.grownBy w3 none) : Row w3 56 4 lv LEFT.length (LEFT.flatMap evC) :=
  h.same (fun b hb => g2.block b (h.lt b hb) (fun e => by cases e))
theorem TD.next (h : TD w wr ov lv OUT LEFT l) (hkk : kk < LEFT.length) (hkey : ∀ j (hj : j < kk), ¬ key (LEFT[j]'(Nat.lt_trans hj hkk)) LEFT[kk])
    (r1 : Row w2 56 4 v2 (OUT.length + 1) (OUT.flatMap evC ++ evC LEFT[kk])) (g1 : ((wr.drewN q).alloc o).grownBy w2 ov.ownBlock) (b1 : ∀ b, v2.ownBlock = some b → ov.ownBlock = some b ∨ b = wr.heap.size + 1)
    (g2 : w2.grownBy w3 none) (b2 : ∀ b, v3.ownBlock = some b → b = w2.heap.size)
    (g3 : w3.grownBy w4 v3.ownBlock) (b3 : ∀ b, v4.ownBlock = some b → v3.ownBlock = some b ∨ b = w3.heap.size)
    (r4 : Row w4 56 4 v4 (kk + (LEFT.length - (kk + 1))) ((LEFT.take kk).flatMap evC ++ (LEFT.drop (kk + 1)).flatMap evC)) :
    TD w w4 v2 v4 (OUT ++ [LEFT[kk]]) (LEFT.take kk ++ LEFT.drop (kk + 1)) l := by
  have s0 := h.bel.size
  have s1 := g1.size
  have s2 := g2.size
  have s3 := g3.size
  simp at s1
  have B1 : Below w.heap.size w w2 := ((below_drewN h.bel q).alloc (by simpa using s0) o).grown g1 (by simp; omega) h.no
  have N3 : ∀ b, v3.ownBlock = some b → w.heap.size ≤ b := fun b hb => by have := b2 b hb; omega
  have hl : LEFT = LEFT.take kk ++ LEFT[kk] :: LEFT.drop (kk + 1) := by rw [List.getElem_cons_drop, List.take_append_drop]
  refine ⟨(B1.grown g2 (by omega) (fun b hb => by cases hb)).grown g3 (by omega) N3, ?_, ?_, ?_, ?_, ?_, ?_, ?_, ?_⟩
  · rw [List.length_append, List.flatMap_append]
    refine (show Row w2 56 4 v2 (OUT.length + [LEFT[kk]].length) (OUT.flatMap evC ++ [LEFT[kk]].flatMap evC) by simpa using r1).same (fun b hb => ?_)
    have hlt := r1.lt b hb
    rw [g3.block b (by omega) (fun e => by have := b2 b e.symm; omega), g2.block b hlt (fun e => by cases e)]
  · rw [List.length_append, List.flatMap_append, List.length_take, List.length_drop, Nat.min_eq_left (by omega)]; exact r4
  · intro b hb
    rcases b1 b hb with h1 | h1
    · exact h.no b h1
    · omega
  · intro b hb
    rcases b3 b hb with h1 | h1
    · exact N3 b h1
    · omega
  · intro b hb hb4
    have hlt := r1.lt b hb
    rcases b3 b hb4 with h1 | h1
    · have := b2 b h1; omega
    · omega
  · rw [← h.eq]
    conv => rhs; rw [hl]
    rw [putAll_append [] OUT, putAll_front (A := LEFT.take kk) (putAll [] OUT) ?_, ← putAll_append [] OUT]
    · simp
    · intro y hy
      obtain ⟨j, hj, rfl⟩ := List.mem_iff_getElem.1 hy
      have hj' : j < kk := by rw [List.length_take] at hj; omega
      have := hkey j hj'
      simpa using this
  · have := h.len
    simp only [List.length_append, List.length_take, List.length_drop, List.length_cons, List.length_nil]
    omega
  · intro e he
    refine h.mem e ?_
    rw [hl]
    simp only [List.mem_append, List.mem_cons, List.not_mem_nil, or_false] at he ⊢
    rcases he with (h1 | h1) | h1 | h1
    · exact Or.inl h1
    · exact Or.inr (Or.inr (Or.inl h1))
    · exact Or.inr (Or.inl h1)
    · exact Or.inr (Or.inr (Or.inr h1))
end

set_option maxRecDepth 8000 in
set_option maxHeartbeats 4000000 in
theorem turned_any (w : World) (v vt : Value) (l : List Ev) (hrow : Row w 56 4 v l.length (l.flatMap evC)) (hl : l.length ≤ 1000) (turn : List Int) (ht : RAW w vt turn) :
    Calls Tryd.prog 29 #[v, vt] w fun e w' => ∃ v' T, e = .returned v' ∧ NewEv w w' v' T ∧ putAll [] T = putAll [] l ∧ T.length = l.length ∧ ∀ e ∈ T, e ∈ l := by
  obtain ⟨va, vcap, rfl, hvc⟩ := hrow.form
  obtain ⟨tad, tb, toff, tcap, rfl, htc, htat, htcell⟩ := ht.ex
  have htl : turn.length ≤ 9223372036854775807 := by have := ht.len; unfold maxLen at this; omega
  have HTC := Hid.mk' htcell
  have HTA := Hid.mk' htat
  have HTF := Hid.mk' ht.fits
  have hsrc : Hid (Src Tryd.prog 4 30 (.slice va l.length vcap) l.length (l.flatMap evC) w) := by
    unfold Hid
    rcases hrow.2 with ⟨e, h0⟩ | ⟨g, off, cap, cur, e, _⟩
    · have hL : l = [] := List.eq_nil_of_length_eq_zero h0
      subst hL
      obtain ⟨rfl, _, rfl⟩ := Value.slice.inj e
      exact Src.ofNil _ Tryd.underlying30 0
    · obtain ⟨rfl, _, rfl⟩ := Value.slice.inj e
      have := ev_piece hrow 0 l.length (Nat.zero_le _) (Nat.le_refl _) off vcap (by omega)
      simpa using this
  have hst : Hid (∀ va2 c2 w2, Row w2 56 4 (.slice va2 (0 + l.length) c2) (0 + l.length) ([] ++ l.flatMap evC) → w.grownBy w2 (Value.slice none 0 0).ownBlock → (∀ b, (Value.slice va2 (0 + l.length) c2).ownBlock = some b → (Value.slice none 0 0).ownBlock = some b ∨ b = w.heap.size) → TD w w2 (.slice none 0 0) (.slice va2 (0 + l.length) c2) [] l l) := by
    intro va2 c2 w2 r1 g1 b1
    refine ⟨(Below.refl _ _).grown g1 (Nat.le_refl _) (fun b hb => by cases hb), ⟨rfl, Or.inl ⟨rfl, rfl⟩⟩, by rw [List.nil_append] at r1; simpa using r1, (fun b hb => by cases hb), ?_, (fun b hb => by cases hb), by simp, by simp, by simp⟩
    intro b hb
    rcases b1 b hb with h1 | h1
    · cases h1
    · omega
  clear hrow ht htcell htat
  go_enter Tryd.func29, Tryd.ntmps29
  go_wp2_with (at_builtin; refine append_evs0 w rfl _ _ rfl (.slice none 0 0) 0 [] rfl ⟨rfl, Or.inl ⟨rfl, rfl⟩⟩ (.slice va l.length vcap) l.length (l.flatMap evC) rfl hsrc.out (by omega) ?_; intro va2 c2 w2 r1 g1 b1; have hT0 := Hid.mk' (hst.out va2 c2 w2 r1 g1 b1); clear r1 g1 b1)
  clear hst hsrc
  rw [Nat.zero_add] at hT0
  go_loopw [5, 6, 7] (fun ov lv i wr => ∃ (k : Nat) (OUT LEFT : List Ev) (oa la : Option Addr) (oc lc : Nat) (z : Int), z = k ∧ i = .int .i64 z ∧ k + LEFT.length = l.length ∧ ov = .slice oa OUT.length oc ∧ lv = .slice la LEFT.length lc ∧ Hid (TD w wr (.slice oa OUT.length oc) (.slice la LEFT.length lc) OUT LEFT l)) (fun _ lv _ _ => lenV lv)
  case atStart => exact ⟨0, [], l, none, va2, 0, c2, 0, rfl, rfl, by omega, rfl, rfl, hT0⟩
  case round =>
    obtain ⟨k, OUT, LEFT, oa, la, oc, lc, z, rfl, rfl, hk, rfl, rfl, hT⟩ := hrel
    clear hT0
    rcases Nat.eq_zero_or_pos LEFT.length with hl0 | hl0
    · have hfin : Hid (NewEv w wr (.slice oa OUT.length oc) OUT ∧ putAll [] OUT = putAll [] l ∧ OUT.length = l.length ∧ ∀ e ∈ OUT, e ∈ l) := by
        have hL : LEFT = [] := List.eq_nil_of_length_eq_zero hl0
        have h := hT.out
        subst hL
        refine ⟨⟨h.bel, h.ro, h.no⟩, by have := h.eq; simpa using this, by have := h.len; simpa using this, fun e he => h.mem e (by simpa using he)⟩
      go_wp2
      go_ret
      exact ⟨_, OUT, rfl, hfin.out⟩
    · have hLl : LEFT.length ≤ 1000 := by omega
      have hOl : OUT.length ≤ 1000 := by have := hT.out.len; omega
      obtain ⟨lg, lo, lc', hla, hlc⟩ := row_some hT.out.rl hl0
      obtain ⟨rfl, _, rfl⟩ := Value.slice.inj hla
      clear hla
      have hpos : (0 : Int) < (LEFT.length : Int) := by omega
      have hev := Hid.mk' (fun j (hj : j < LEFT.length) => ev_at hT.out.rl j hj)
      by_cases hti : k < turn.length
      · have htne : turn ≠ [] := fun e => by rw [e] at hti; cases hti
        obtain ⟨mk, hmkv⟩ : ∃ mk, turn[k] = mk := ⟨_, rfl⟩
        obtain ⟨rfl, htbl⟩ := HTA.out htne
        have htcl : wr.cell? ⟨tb, toff + k, none⟩ = some (.int .i64 mk) := by
          rw [hT.out.bel.cell (p := ⟨tb, toff + k, none⟩) htbl, HTC.out k hti, hmkv]
        have hpk := Hid.mk' (pick_any mk (LEFT.length : Int) wr (HTF.out mk (by rw [← hmkv]; exact List.getElem_mem hti)) (by omega) (by omega))
        obtain ⟨p0, p1⟩ := pickI_nn mk (LEFT.length : Int) (by omega)
        obtain ⟨pp, hpp⟩ : ∃ pp : Nat, pickI mk (LEFT.length : Int) = (pp : Int) := ⟨(pickI mk (LEFT.length : Int)).toNat, by omega⟩
        rw [hpp] at hpk p0 p1
        have hppl : pp < LEFT.length := by omega
        clear hmkv hpp p0 p1
        go_wp2_with (go_at_call 16; with_reducible refine hpk.out.mono ?_; rintro e w' ⟨rfl, hw⟩; replace hw := hw.symm; subst hw)
        go_loopw [8, 9] (fun kv jv W => ∃ (kk j q : Nat) (zk z : Int), zk = kk ∧ kv = .int .i64 zk ∧ z = j ∧ jv = .int .i64 z ∧ kk < LEFT.length ∧ j ≤ kk + 1 ∧ W = wr.drewN q ∧ Hid (∀ j' (hj' : j' < LEFT.length) (hk' : kk < LEFT.length), j' < j → j' < kk → ¬ key LEFT[j'] LEFT[kk])) (fun kv jv _ => (intOf kv).toNat + 1 - (intOf jv).toNat)
        case atStart => exact ⟨pp, 0, 0, (pp : Nat), 0, rfl, rfl, rfl, rfl, hppl, Nat.zero_le _, rfl, fun _ _ _ h => absurd h (Nat.not_lt_zero _)⟩
        case round =>
          obtain ⟨kk, j, q, zk, z, rfl, rfl, rfl, rfl, hkk, hj, hW, hno⟩ := hrel
          subst hW
          obtain ⟨x, hx⟩ : ∃ x, LEFT[kk] = x := ⟨_, rfl⟩
          obtain ⟨x0, x1, x2, x3⟩ := hev.out kk hkk
          rw [hx] at x0 x1 x2 x3
          by_cases hjk : j < kk
          · have hjl : j < LEFT.length := by omega
            obtain ⟨y, hy⟩ : ∃ y, LEFT[j] = y := ⟨_, rfl⟩
            obtain ⟨y0, y1, _, _⟩ := hev.out j hjl
            rw [hy] at y0 y1
            have hstay : Hid (¬ key y x → ∀ j' (hj' : j' < LEFT.length) (hk' : kk < LEFT.length), j' < j + 1 → j' < kk → ¬ key LEFT[j'] LEFT[kk]) := by
              intro hn j' hj' hk' h1 h2
              rcases Nat.lt_or_ge j' j with h3 | h3
              · exact hno.out j' hj' hk' h3 h2
              · obtain rfl : j' = j := by omega
                rw [hy, hx]; exact hn
            have hmove : Hid (key y x → ∀ j' (hj' : j' < LEFT.length) (hk' : j < LEFT.length), j' < j + 1 → j' < j → ¬ key LEFT[j'] LEFT[j]) := by
              intro hy2 j' hj' hk' h1 h2 hc
              refine hno.out j' hj' hkk h2 (by omega) ?_
              rw [hy] at hc
              rw [hx]
              exact ⟨hc.1.trans hy2.1, hc.2.trans hy2.2⟩
            clear hno hx hy
            by_cases h1 : y.1 = x.1
            · by_cases h2 : y.2.1 = x.2.1
              · have hm := Hid.mk' (hmove.out ⟨h1, h2⟩)
                rw [h1] at y0
                rw [h2] at y1
                clear h1 h2 hstay hmove
                go_wp2
                go_quiet (fail)
                go_wp2
                go_roundw
                case rel => exact ⟨j, j + 1, q + nq, (j : Int), (j : Int) + 1, rfl, rfl, by omega, rfl, hjl, by omega, by first | rfl | exact (World.drewN_drewN _ _ _), hm⟩
                case measure => simp [intOf]; omega
              · have hm := Hid.mk' (hstay.out (fun h => h2 h.2))
                rw [h1] at y0
                clear h1 hstay hmove
                go_wp2
                go_quiet (fail)
                go_wp2
                go_roundw
                case rel => exact ⟨kk, j + 1, q + nq, (kk : Int), (j : Int) + 1, rfl, rfl, by omega, rfl, hkk, by omega, by first | rfl | exact (World.drewN_drewN _ _ _), hm⟩
                case measure => simp [intOf]; omega
            · have hm := Hid.mk' (hstay.out (fun h => h1 h.1))
              clear hstay hmove
              go_wp2
              go_quiet (fail)
              go_wp2
              go_roundw
              case rel => exact ⟨kk, j + 1, q + nq, (kk : Int), (j : Int) + 1, rfl, rfl, by omega, rfl, hkk, by omega, by first | rfl | exact (World.drewN_drewN _ _ _), hm⟩
              case measure => simp [intOf]; omega
          · have hnk : Hid (∀ j' (hj' : j' < kk), ¬ key (LEFT[j']'(Nat.lt_trans hj' hkk)) LEFT[kk]) := fun j' hj' => hno.out j' (Nat.lt_trans hj' hkk) hkk (by omega) hj'
            have hro : Hid (Row (wr.drewN q) 56 4 (.slice oa OUT.length oc) OUT.length (OUT.flatMap evC)) := hT.out.ro.same (fun b hb => by simp)
            have HX := Hid.mk' hx
            have hklc : kk ≤ lc := by omega
            have hklc2 : kk + 1 ≤ lc := by omega
            have hklc3 : kk + 1 ≤ LEFT.length := by omega
            clear hno hx
            go_wp2_with (at_builtin; refine append_ev1 (wr.drewN q) rfl _ _ rfl (.slice oa OUT.length oc) OUT.length (OUT.flatMap evC) _ _ _ _ (by simp [Value.oneCell']) rfl hro.out rfl (by omega) ?_)
            intro g2 o2 cc2 w2 r1 g1 b1
            have R2L := Hid.mk' (hT.out.left2 g1)
            have hs1 : Hid (Src Tryd.prog 4 30 (.slice (some ⟨lg, lo, none⟩) kk lc) kk ((LEFT.take kk).flatMap evC) w2) := by
              unfold Hid
              have := ev_piece R2L.out 0 kk (Nat.zero_le _) (by omega) lo lc (by omega)
              simpa using this
            have R1 := Hid.mk' r1
            have G1 := Hid.mk' g1
            have B1 := Hid.mk' b1
            clear r1 g1 b1 x0 x1 x2 x3
            go_wp2_with (at_builtin; refine append_evs0 _ rfl _ _ rfl (.slice none 0 0) 0 [] rfl ⟨rfl, Or.inl ⟨rfl, rfl⟩⟩ (.slice (some ⟨lg, lo, none⟩) kk lc) kk _ rfl hs1.out (by omega) ?_)
            intro va3 c3 w3 r3 g3 b3
            have g3' : w2.grownBy w3 none := ⟨g3.os, g3.tape, g3.output, g3.size, g3.block⟩
            have R3L := Hid.mk' (left3 R2L.out g3')
            have R3 : Hid (Row w3 56 4 (.slice va3 kk c3) kk ((LEFT.take kk).flatMap evC)) := by
              unfold Hid
              simpa using r3
            have hfin : Hid (∀ va4 c4 w4, Row w4 56 4 (.slice va4 (kk + (LEFT.length - (kk + 1))) c4) (kk + (LEFT.length - (kk + 1))) ((LEFT.take kk).flatMap evC ++ (LEFT.drop (kk + 1)).flatMap evC) → w3.grownBy w4 (Value.slice va3 kk c3).ownBlock → (∀ b, (Value.slice va4 (kk + (LEFT.length - (kk + 1))) c4).ownBlock = some b → (Value.slice va3 kk c3).ownBlock = some b ∨ b = w3.heap.size) → TD w w4 (.slice (some ⟨g2, o2, none⟩) (OUT.length + 1) cc2) (.slice va4 (kk + (LEFT.length - (kk + 1))) c4) (OUT ++ [LEFT[kk]]) (LEFT.take kk ++ LEFT.drop (kk + 1)) l) := by
              intro va4 c4 w4 r4 g4 b4
              refine hT.out.next hkk hnk.out (by rw [HX.out]; exact R1.out) G1.out (fun b hb => ?_) g3' (fun b hb => ?_) g4 b4 r4
              · have hb' : g2 = b := Option.some.inj hb
                rcases B1.out with h | h
                · exact Or.inl (by rw [← hb']; exact h)
                · exact Or.inr (by rw [← hb']; simpa using h)
              · rcases b3 b (by simpa using hb) with h | h
                · cases h
                · exact h
            have hlen1 : (LEFT.take kk ++ LEFT.drop (kk + 1)).length = kk + (LEFT.length - (kk + 1)) := by simp; omega
            have HL1 := Hid.mk' hlen1
            clear r3 g3 b3 g3' hlen1
            by_cases hcj : lc = kk + 1
            · have hki : LEFT.length = kk + 1 := by omega
              have hs2 : Hid (Src Tryd.prog 4 30 (.slice (some ⟨lg, lo, none⟩) 0 0) 0 ((LEFT.drop (kk + 1)).flatMap evC) w3) := by
                unfold Hid
                rw [List.drop_eq_nil_of_le (by omega)]
                exact Src.ofSlice _ Tryd.underlying30 _ 0 _ [] (by simp) (by simp) (by simp)
              have hz0 : LEFT.length - (kk + 1) = 0 := by omega
              rw [hz0] at hfin HL1
              have HKI := Hid.mk' hki
              clear hki hz0
              subst hcj
              have hLk : (LEFT.length : Int) = (kk : Int) + 1 := by have := HKI.out; omega
              go_wp2_with (at_builtin; refine append_evs0 _ rfl _ _ rfl (.slice va3 kk c3) kk _ rfl R3.out (.slice (some ⟨lg, lo, none⟩) 0 0) 0 _ rfl hs2.out (by omega) ?_)
              intro va4 c4 w4 r4 g4 b4
              simp only [Nat.add_zero] at hfin HL1
              have hF := Hid.mk' (hfin.out va4 c4 w4 r4 g4 b4)
              have hkl2 : k + 1 + kk = l.length := by have := HKI.out; omega
              clear r4 g4 b4 hLk
              go_wp2
              go_roundw
              case rel => exact ⟨k + 1, OUT ++ [LEFT[kk]], LEFT.take kk ++ LEFT.drop (kk + 1), some ⟨g2, o2, none⟩, va4, cc2, c4, (k : Int) + 1, by omega, rfl, by rw [HL1.out]; omega, by simp, by rw [HL1.out], by rw [HL1.out, List.length_append]; exact hF⟩
              case measure => simp [lenV]; omega
            · have hs2 : Hid (Src Tryd.prog 4 30 (.slice (some ⟨lg, lo + (kk + 1) * 4, none⟩) (LEFT.length - (kk + 1)) (lc - (kk + 1))) (LEFT.length - (kk + 1)) ((LEFT.drop (kk + 1)).flatMap evC) w3) := by
                unfold Hid
                have := ev_piece R3L.out (kk + 1) LEFT.length (by omega) (Nat.le_refl _) (lo + (kk + 1) * 4) (lc - (kk + 1)) rfl
                rw [List.take_of_length_le (by simp)] at this
                exact this
              go_wp2_with (at_builtin; refine append_evs0 _ rfl _ _ rfl (.slice va3 kk c3) kk _ rfl R3.out (.slice (some ⟨lg, lo + (kk + 1) * 4, none⟩) (LEFT.length - (kk + 1)) (lc - (kk + 1))) (LEFT.length - (kk + 1)) _ rfl hs2.out (by omega) ?_)
              intro va4 c4 w4 r4 g4 b4
              have hF := Hid.mk' (hfin.out va4 c4 w4 r4 g4 b4)
              clear r4 g4 b4
              go_wp2
              go_roundw
              case rel => exact ⟨k + 1, OUT ++ [LEFT[kk]], LEFT.take kk ++ LEFT.drop (kk + 1), some ⟨g2, o2, none⟩, va4, cc2, c4, (k : Int) + 1, by omega, rfl, by rw [HL1.out]; omega, by simp, by rw [HL1.out], by rw [HL1.out, List.length_append]; exact hF⟩
              case measure => simp [lenV]; omega
      · go_wp2
        go_loopw [8, 9] (fun kv jv W => ∃ (kk j q : Nat) (zk z : Int), zk = kk ∧ kv = .int .i64 zk ∧ z = j ∧ jv = .int .i64 z ∧ kk < LEFT.length ∧ j ≤ kk + 1 ∧ W = wr.drewN q ∧ Hid (∀ j' (hj' : j' < LEFT.length) (hk' : kk < LEFT.length), j' < j → j' < kk → ¬ key LEFT[j'] LEFT[kk])) (fun kv jv _ => (intOf kv).toNat + 1 - (intOf jv).toNat)
        case atStart => exact ⟨0, 0, 0, (0 : Nat), 0, rfl, rfl, rfl, rfl, hl0, Nat.zero_le _, rfl, fun _ _ _ h => absurd h (Nat.not_lt_zero _)⟩
        case round =>
          obtain ⟨kk, j, q, zk, z, rfl, rfl, rfl, rfl, hkk, hj, hW, hno⟩ := hrel
          subst hW
          obtain ⟨x, hx⟩ : ∃ x, LEFT[kk] = x := ⟨_, rfl⟩
          obtain ⟨x0, x1, x2, x3⟩ := hev.out kk hkk
          rw [hx] at x0 x1 x2 x3
          by_cases hjk : j < kk
          · have hjl : j < LEFT.length := by omega
            obtain ⟨y, hy⟩ : ∃ y, LEFT[j] = y := ⟨_, rfl⟩
            obtain ⟨y0, y1, _, _⟩ := hev.out j hjl
            rw [hy] at y0 y1
            have hstay : Hid (¬ key y x → ∀ j' (hj' : j' < LEFT.length) (hk' : kk < LEFT.length), j' < j + 1 → j' < kk → ¬ key LEFT[j'] LEFT[kk]) := by
              intro hn j' hj' hk' h1 h2
              rcases Nat.lt_or_ge j' j with h3 | h3
              · exact hno.out j' hj' hk' h3 h2
              · obtain rfl : j' = j := by omega
                rw [hy, hx]; exact hn
            have hmove : Hid (key y x → ∀ j' (hj' : j' < LEFT.length) (hk' : j < LEFT.length), j' < j + 1 → j' < j → ¬ key LEFT[j'] LEFT[j]) := by
              intro hy2 j' hj' hk' h1 h2 hc
              refine hno.out j' hj' hkk h2 (by omega) ?_
              rw [hy] at hc
              rw [hx]
              exact ⟨hc.1.trans hy2.1, hc.2.trans hy2.2⟩
            clear hno hx hy
            by_cases h1 : y.1 = x.1
            · by_cases h2 : y.2.1 = x.2.1
              · have hm := Hid.mk' (hmove.out ⟨h1, h2⟩)
                rw [h1] at y0
                rw [h2] at y1
                clear h1 h2 hstay hmove
                go_wp2
                go_quiet (fail)
                go_wp2
                go_roundw
                case rel => exact ⟨j, j + 1, q + nq, (j : Int), (j : Int) + 1, rfl, rfl, by omega, rfl, hjl, by omega, by first | rfl | exact (World.drewN_drewN _ _ _), hm⟩
                case measure => simp [intOf]; omega
              · have hm := Hid.mk' (hstay.out (fun h => h2 h.2))
                rw [h1] at y0
                clear h1 hstay hmove
                go_wp2
                go_quiet (fail)
                go_wp2
                go_roundw
                case rel => exact ⟨kk, j + 1, q + nq, (kk : Int), (j : Int) + 1, rfl, rfl, by omega, rfl, hkk, by omega, by first | rfl | exact (World.drewN_drewN _ _ _), hm⟩
                case measure => simp [intOf]; omega
            · have hm := Hid.mk' (hstay.out (fun h => h1 h.1))
              clear hstay hmove
              go_wp2
              go_quiet (fail)
              go_wp2
              go_roundw
              case rel => exact ⟨kk, j + 1, q + nq, (kk : Int), (j : Int) + 1, rfl, rfl, by omega, rfl, hkk, by omega, by first | rfl | exact (World.drewN_drewN _ _ _), hm⟩
              case measure => simp [intOf]; omega
          · have hnk : Hid (∀ j' (hj' : j' < kk), ¬ key (LEFT[j']'(Nat.lt_trans hj' hkk)) LEFT[kk]) := fun j' hj' => hno.out j' (Nat.lt_trans hj' hkk) hkk (by omega) hj'
            have hro : Hid (Row (wr.drewN q) 56 4 (.slice oa OUT.length oc) OUT.length (OUT.flatMap evC)) := hT.out.ro.same (fun b hb => by simp)
            have HX := Hid.mk' hx
            have hklc : kk ≤ lc := by omega
            have hklc2 : kk + 1 ≤ lc := by omega
            have hklc3 : kk + 1 ≤ LEFT.length := by omega
            clear hno hx
            go_wp2_with (at_builtin; refine append_ev1 (wr.drewN q) rfl _ _ rfl (.slice oa OUT.length oc) OUT.length (OUT.flatMap evC) _ _ _ _ (by simp [Value.oneCell']) rfl hro.out rfl (by omega) ?_)
            intro g2 o2 cc2 w2 r1 g1 b1
            have R2L := Hid.mk' (hT.out.left2 g1)
            have hs1 : Hid (Src Tryd.prog 4 30 (.slice (some ⟨lg, lo, none⟩) kk lc) kk ((LEFT.take kk).flatMap evC) w2) := by
              unfold Hid
              have := ev_piece R2L.out 0 kk (Nat.zero_le _) (by omega) lo lc (by omega)
              simpa using this
            have R1 := Hid.mk' r1
            have G1 := Hid.mk' g1
            have B1 := Hid.mk' b1
            clear r1 g1 b1 x0 x1 x2 x3
            go_wp2_with (at_builtin; refine append_evs0 _ rfl _ _ rfl (.slice none 0 0) 0 [] rfl ⟨rfl, Or.inl ⟨rfl, rfl⟩⟩ (.slice (some ⟨lg, lo, none⟩) kk lc) kk _ rfl hs1.out (by omega) ?_)
            intro va3 c3 w3 r3 g3 b3
            have g3' : w2.grownBy w3 none := ⟨g3.os, g3.tape, g3.output, g3.size, g3.block⟩
            have R3L := Hid.mk' (left3 R2L.out g3')
            have R3 : Hid (Row w3 56 4 (.slice va3 kk c3) kk ((LEFT.take kk).flatMap evC)) := by
              unfold Hid
              simpa using r3
            have hfin : Hid (∀ va4 c4 w4, Row w4 56 4 (.slice va4 (kk + (LEFT.length - (kk + 1))) c4) (kk + (LEFT.length - (kk + 1))) ((LEFT.take kk).flatMap evC ++ (LEFT.drop (kk + 1)).flatMap evC) → w3.grownBy w4 (Value.slice va3 kk c3).ownBlock → (∀ b, (Value.slice va4 (kk + (LEFT.length - (kk + 1))) c4).ownBlock = some b → (Value.slice va3 kk c3).ownBlock = some b ∨ b = w3.heap.size) → TD w w4 (.slice (some ⟨g2, o2, none⟩) (OUT.length + 1) cc2) (.slice va4 (kk + (LEFT.length - (kk + 1))) c4) (OUT ++ [LEFT[kk]]) (LEFT.take kk ++ LEFT.drop (kk + 1)) l) := by
              intro va4 c4 w4 r4 g4 b4
              refine hT.out.next hkk hnk.out (by rw [HX.out]; exact R1.out) G1.out (fun b hb => ?_) g3' (fun b hb => ?_) g4 b4 r4
              · have hb' : g2 = b := Option.some.inj hb
                rcases B1.out with h | h
                · exact Or.inl (by rw [← hb']; exact h)
                · exact Or.inr (by rw [← hb']; simpa using h)
              · rcases b3 b (by simpa using hb) with h | h
                · cases h
                · exact h
            have hlen1 : (LEFT.take kk ++ LEFT.drop (kk + 1)).length = kk + (LEFT.length - (kk + 1)) := by simp; omega
            have HL1 := Hid.mk' hlen1
            clear r3 g3 b3 g3' hlen1
            by_cases hcj : lc = kk + 1
            · have hki : LEFT.length = kk + 1 := by omega
              have hs2 : Hid (Src Tryd.prog 4 30 (.slice (some ⟨lg, lo, none⟩) 0 0) 0 ((LEFT.drop (kk + 1)).flatMap evC) w3) := by
                unfold Hid
                rw [List.drop_eq_nil_of_le (by omega)]
                exact Src.ofSlice _ Tryd.underlying30 _ 0 _ [] (by simp) (by simp) (by simp)
              have hz0 : LEFT.length - (kk + 1) = 0 := by omega
              rw [hz0] at hfin HL1
              have HKI := Hid.mk' hki
              clear hki hz0
              subst hcj
              have hLk : (LEFT.length : Int) = (kk : Int) + 1 := by have := HKI.out; omega
              go_wp2_with (at_builtin; refine append_evs0 _ rfl _ _ rfl (.slice va3 kk c3) kk _ rfl R3.out (.slice (some ⟨lg, lo, none⟩) 0 0) 0 _ rfl hs2.out (by omega) ?_)
              intro va4 c4 w4 r4 g4 b4
              simp only [Nat.add_zero] at hfin HL1
              have hF := Hid.mk' (hfin.out va4 c4 w4 r4 g4 b4)
              have hkl2 : k + 1 + kk = l.length := by have := HKI.out; omega
              clear r4 g4 b4 hLk
              go_wp2
              go_roundw
              case rel => exact ⟨k + 1, OUT ++ [LEFT[kk]], LEFT.take kk ++ LEFT.drop (kk + 1), some ⟨g2, o2, none⟩, va4, cc2, c4, (k : Int) + 1, by omega, rfl, by rw [HL1.out]; omega, by simp, by rw [HL1.out], by rw [HL1.out, List.length_append]; exact hF⟩
              case measure => simp [lenV]; omega
            · have hs2 : Hid (Src Tryd.prog 4 30 (.slice (some ⟨lg, lo + (kk + 1) * 4, none⟩) (LEFT.length - (kk + 1)) (lc - (kk + 1))) (LEFT.length - (kk + 1)) ((LEFT.drop (kk + 1)).flatMap evC) w3) := by
                unfold Hid
                have := ev_piece R3L.out (kk + 1) LEFT.length (by omega) (Nat.le_refl _) (lo + (kk + 1) * 4) (lc - (kk + 1)) rfl
                rw [List.take_of_length_le (by simp)] at this
                exact this
              go_wp2_with (at_builtin; refine append_evs0 _ rfl _ _ rfl (.slice va3 kk c3) kk _ rfl R3.out (.slice (some ⟨lg, lo + (kk + 1) * 4, none⟩) (LEFT.length - (kk + 1)) (lc - (kk + 1))) (LEFT.length - (kk + 1)) _ rfl hs2.out (by omega) ?_)
              intro va4 c4 w4 r4 g4 b4
              have hF := Hid.mk' (hfin.out va4 c4 w4 r4 g4 b4)
              clear r4 g4 b4
              go_wp2
              go_roundw
              case rel => exact ⟨k + 1, OUT ++ [LEFT[kk]], LEFT.take kk ++ LEFT.drop (kk + 1), some ⟨g2, o2, none⟩, va4, cc2, c4, (k : Int) + 1, by omega, rfl, by rw [HL1.out]; omega, by simp, by rw [HL1.out], by rw [HL1.out, List.length_append]; exact hF⟩
              case measure => simp [lenV]; omega
end Go.Proofs.YtbgfannlfagoiaaDoor
