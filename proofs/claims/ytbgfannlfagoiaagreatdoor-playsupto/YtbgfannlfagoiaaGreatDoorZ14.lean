import Derived.Test.YtbgfannlfagoiaaGreatDoorZ13
import Derived.Test.YtbgfannlfagoiaaGreatDoorZ02
import Derived.Test.YtbgfannlfagoiaaGreatDoorZ11
namespace Go.Proofs.YtbgfannlfagoiaaGreatDoor
open Go.RowKit Go.Lull
set_option linter.unusedVariables false

theorem evC_len (l : List Ev) : (l.flatMap evC).length = l.length * 4 := by
  induction l with
  | nil => rfl
  | cons x r ih => rw [List.flatMap_cons, List.length_append, ih]; simp [evC]; omega
theorem evs_one (l : List Ev) : ∀ u ∈ l.flatMap evC, u.oneCell' = true := by
  intro u hu
  obtain ⟨x, _, hu⟩ := List.mem_flatMap.1 hu
  simp [evC] at hu
  rcases hu with rfl | rfl | rfl | rfl <;> rfl
/-- A piece of a row of events. -/
theorem ev_piece {w : World} {g off cap : Nat} {l : List Ev} (h : Row w 75 4 (.slice (some ⟨g, off, none⟩) l.length cap) l.length (l.flatMap evC)) (i j : Nat) (hij : i ≤ j) (hj : j ≤ l.length) (off' c' : Nat) (ho : off' = off + i * 4) :
    Src Tryz.prog 4 39 (.slice (some ⟨g, off', none⟩) (j - i) c') (j - i) (((l.drop i).take (j - i)).flatMap evC) w := by
  subst ho
  refine Src.ofSlice _ Tryz.underlying39 _ _ _ _ (by rw [evC_len]; simp; omega) ?_ (evs_one _)
  intro k u hu
  have hk : k < (j - i) * 4 := by
    have := (List.getElem?_eq_some_iff.1 hu).1
    rw [evC_len] at this
    simp at this; omega
  rw [Go.WideShapes.add_plain]
  have hf := h.cell (i * 4 + k) (by omega)
  rw [Nat.add_assoc, hf, ← hu]
  have hq : k = k / 4 * 4 + k % 4 := by omega
  have h1 : k / 4 < j - i := by omega
  have e1 : i * 4 + k = (i + k / 4) * 4 + k % 4 := by omega
  rw [e1, flat4_at l (i + k / 4) (k % 4) (by omega) (by omega)]
  conv => rhs; rw [hq]
  rw [flat4_at ((l.drop i).take (j - i)) (k / 4) (k % 4) (by simp; omega) (by omega)]
  simp

/-- append of a piece of a row of events. -/
theorem append_evs (w : World) {ops : Array Oper} {rest : List Oper} {o : Oper} {a : Act} {Q : Exit → Act → World → Prop} (hgd : o.guard = none) (s x : Operand)
    (ho : o.op = .call { callee := .builtin .append, args := #[s, x], argTypes := #[39, 39] })
    (v : Value) (n : Nat) (xs : List Value) (hv : a.eval s = v) (hrow : Row w 75 4 v n xs) (xv : Value) (m : Nat) (news : List Value)
    (hxv : a.eval x = xv) (hs : Src Tryz.prog 4 39 xv m news w) (hm : 0 < m) (hn : n + m ≤ 100000)
    (h : ∀ g off cap w', Row w' 75 4 (.slice (some ⟨g, off, none⟩) (n + m) cap) (n + m) (xs ++ news) → w.grownBy w' v.ownBlock → (v.ownBlock = some g ∨ g = w.heap.size) → wpList Tryz.prog ops Q rest (a.put o.dst (.slice (some ⟨g, off, none⟩) (n + m) cap)) w') :
    wpList Tryz.prog ops Q (o :: rest) a w := by
  obtain ⟨i0, hi, hz0, hz1, hz2⟩ := info_parts Tryz.infoEv2
  exact wpList_append_row hgd s x 39 ho i0 _ 32 Tryz.underlying39 hi hz0 hz1 hz2 rfl hv hrow m news _ hxv hs hm (by unfold maxLen; omega) (by omega) h

/-- append of a piece of a row of events, be it empty. -/
theorem append_evs0 (w : World) {ops : Array Oper} {rest : List Oper} {o : Oper} {a : Act} {Q : Exit → Act → World → Prop} (hgd : o.guard = none) (s x : Operand)
    (ho : o.op = .call { callee := .builtin .append, args := #[s, x], argTypes := #[39, 39] })
    (v : Value) (n : Nat) (xs : List Value) (hv : a.eval s = v) (hrow : Row w 75 4 v n xs) (xv : Value) (m : Nat) (news : List Value)
    (hxv : a.eval x = xv) (hs : Src Tryz.prog 4 39 xv m news w) (hn : n + m ≤ 100000)
    (h : ∀ va cap w', Row w' 75 4 (.slice va (n + m) cap) (n + m) (xs ++ news) → w.grownBy w' v.ownBlock → (∀ b, (Value.slice va (n + m) cap).ownBlock = some b → v.ownBlock = some b ∨ b = w.heap.size) → wpList Tryz.prog ops Q rest (a.put o.dst (.slice va (n + m) cap)) w') :
    wpList Tryz.prog ops Q (o :: rest) a w := by
  rcases Nat.eq_zero_or_pos m with hm | hm
  · subst hm
    have hnl : news = [] := List.eq_nil_of_length_eq_zero (by have := hs.newsLen; omega)
    subst hnl
    obtain ⟨va, cap, rfl, hcap⟩ := hrow.form
    obtain ⟨i0, hi, _, hz1, _⟩ := info_parts Tryz.infoEv2
    refine wpList_plain hgd fun K hK => ?_
    have hrun : ∀ ty, (Builtin.append_ #[39, 39] ty #[.slice va n cap, xv]).run Tryz.prog w = .ok (.slice va n cap) w := by
      intro ty
      exact run_append_nothing w 39 39 ty 75 i0 Tryz.underlying39 hi va n cap hcap _ (by rw [hz1]; exact hs)
    unfold Oper.wp execOp
    simp only [ho, resolve, invoke, builtin, Sem.run_bind, Sem.run_pure, Result.andThen_ok, List.map_toArray, List.map_cons, List.map_nil, hv, hxv, hrun]
    exact hK _ _ (h va cap w (by simpa using hrow) ⟨rfl, rfl, rfl, Nat.le_refl _, fun _ _ _ => rfl⟩ (fun b hb => Or.inl hb))
  · exact append_evs w hgd s x ho v n xs hv hrow xv m news hxv hs hm hn (fun g off cap w' r1 r2 r3 => h _ cap w' r1 r2 (fun b hb => by
      have hb' : g = b := Option.some.inj hb
      subst hb'; exact r3))

theorem place_scan {buf : List Ev} {e : Ev} (hs : SB buf) (k : Nat) (hk : k ≤ buf.length) (hi : ∀ j, (h : j < buf.length) → k ≤ j → after buf[j] e = true) (hlo : ∀ h : k - 1 < buf.length, 0 < k → after buf[k - 1] e = false) : placeB buf e = k := by
  have hle := place_le buf e
  have h1 : placeB buf e ≤ k := by
    rcases Nat.lt_or_ge k (placeB buf e) with h | h
    · have h2 := place_lo e buf k (by omega) h
      have h3 := hi k (by omega) (Nat.le_refl _)
      rw [h2] at h3; cases h3
    · exact h
  have h2 : k ≤ placeB buf e := by
    rcases Nat.lt_or_ge (placeB buf e) k with h | h
    · have h2 := place_hi e buf hs (k - 1) (by omega) (by omega)
      have h3 := hlo (by omega) (by omega)
      rw [h2] at h3; cases h3
    · exact h
  omega

/-- What sorted's three appends leave. -/
theorem sort_fin {w wr w1 w2 w3 : World} {oa : Value} {out : List Ev} {x : Ev} {j n1 : Nat} {v1 v2 v3 : Value} {o : Obj} (hB : Below w.heap.size w wr)
    (g1 : wr.grownBy w1 none) (b1 : ∀ b, v1.ownBlock = some b → wr.heap.size ≤ b)
    (g2 : (w1.alloc o).grownBy w2 v1.ownBlock) (b2 : ∀ b, v2.ownBlock = some b → v1.ownBlock = some b ∨ w1.heap.size ≤ b)
    (g3 : w2.grownBy w3 v2.ownBlock) (b3 : ∀ b, v3.ownBlock = some b → v2.ownBlock = some b ∨ w2.heap.size ≤ b)
    (r3 : Row w3 75 4 v3 (j + 1 + (out.length - j)) (((out.take j).flatMap evC ++ evC x) ++ (out.drop j).flatMap evC)) (hj : j ≤ out.length) (hp : placeB out x = j) :
    NewEv w w3 v3 (putB out x) := by
  have s0 := hB.size
  have s1 := g1.size
  have s2 := g2.size
  have s3 := g3.size
  simp at s2
  have B1 : Below w.heap.size w w1 := hB.grown g1 s0 (fun b hb => by cases hb)
  have N1 : ∀ b, v1.ownBlock = some b → w.heap.size ≤ b := fun b hb => Nat.le_trans s0 (b1 b hb)
  have B2 : Below w.heap.size w w2 := (B1.alloc (by omega) o).grown g2 (by simp; omega) N1
  have N2 : ∀ b, v2.ownBlock = some b → w.heap.size ≤ b := fun b hb => (b2 b hb).elim (N1 b) (fun h => by omega)
  refine ⟨B2.grown g3 (by omega) N2, ?_, fun b hb => (b3 b hb).elim (N2 b) (fun h => by omega)⟩
  have e1 : (putB out x).length = j + 1 + (out.length - j) := by rw [put_len]; omega
  rw [e1, putB_place, hp, List.flatMap_append, List.flatMap_cons, ← List.append_assoc]
  exact r3

set_option maxRecDepth 8000 in
set_option maxHeartbeats 2000000 in
theorem sorted_any (w : World) (v : Value) (l : List Ev) (hrow : Row w 75 4 v l.length (l.flatMap evC)) (hl : l.length ≤ 1000) :
    Calls Tryz.prog 14 #[v] w fun e w' => ∃ v', e = .returned v' ∧ NewEv w w' v' (putAll [] l) := by
  obtain ⟨va, vcap, rfl, hvc⟩ := hrow.form
  have HR := Hid.mk' hrow
  clear hrow
  go_enter Tryz.func14, Tryz.ntmps14
  go_wp2
  go_loopw [3, 4] (fun ov i wr => ∃ (k : Nat) (z : Int), z = k ∧ i = .int .i64 z ∧ k ≤ l.length ∧ Hid (NewEv w wr ov (putAll [] (l.take k))) ∧ Hid (k = 0 → ov = .slice none 0 0)) (fun _ i _ => l.length - (intOf i).toNat)
  case atStart => exact ⟨0, 0, rfl, rfl, Nat.zero_le _, Hid.mk' (by simpa [putAll] using NewEv.nil w), fun _ => rfl⟩
  case round =>
    obtain ⟨k, z, rfl, rfl, hk, hN, hk0⟩ := hrel
    obtain ⟨out, hout⟩ : ∃ out, putAll [] (l.take k) = out := ⟨_, rfl⟩
    have hol : out.length = k := by rw [← hout, putAll_len]; simp; omega
    have hsb : Hid (SB out) := by unfold Hid; rw [← hout]; exact SB.putAll _ _ List.Pairwise.nil
    rw [hout] at hN
    obtain ⟨oa, ocap, rfl, hoc⟩ := hN.out.row.form
    by_cases hlt : k < l.length
    · obtain ⟨x, hx⟩ : ∃ x, l[k] = x := ⟨_, rfl⟩
      have hnext : Hid (putAll [] (l.take (k + 1)) = putB out x) := by unfold Hid; rw [List.take_succ_eq_append_getElem hlt, putAll_snoc, hout, hx]
      obtain ⟨g, off, vcap', hva, _⟩ := row_some HR.out (by omega)
      obtain ⟨rfl, _, rfl⟩ := Value.slice.inj hva
      clear hva hout
      have hgl := HR.out.lt g rfl
      have hcl := Hid.mk' (fun W (hb : Below w.heap.size w W) => ev_at (HR.out.same (w' := W) (fun b hb' => hb.block b (HR.out.lt b hb'))) k hlt)
      rw [hx] at hcl
      clear hx
      have HOL := Hid.mk' hol
      rw [hol]
      have hR : Hid (Row wr 75 4 (.slice oa k ocap) k (out.flatMap evC)) := by have := hN.out.row; rw [hol] at this; exact this
      rw [hol] at hoc
      have hB := Hid.mk' hN.out.below
      have hNW := Hid.mk' hN.out.new
      rw [hol] at hNW
      clear hol hN
      have hR0 : Hid (∀ W : World, W.heap = wr.heap → ∀ j, j ≤ k → 0 < k → ∀ g1 o1, oa = some ⟨g1, o1, none⟩ → (∀ c', Src Tryz.prog 4 39 (.slice (some ⟨g1, o1, none⟩) j c') j ((out.take j).flatMap evC) W)) := by
        intro W hW j hj hk1 g1 o1 ha c'
        have hr : Row W 75 4 (.slice (some ⟨g1, o1, none⟩) out.length ocap) out.length (out.flatMap evC) := by rw [← ha, HOL.out]; exact hR.out.same (fun b _ => by rw [hW])
        have := ev_piece hr 0 j (Nat.zero_le _) (by rw [HOL.out]; exact hj) o1 c' (by omega)
        simpa using this
      have hR1 : Hid (∀ W : World, (∀ b, (Value.slice oa k ocap).ownBlock = some b → W.heap[b]? = wr.heap[b]?) → ∀ j, j ≤ k → 0 < k → ∀ g1 o1, oa = some ⟨g1, o1, none⟩ → ∀ ad c', (k - j = 0 ∨ ad = ⟨g1, o1 + j * 4, none⟩) → Src Tryz.prog 4 39 (.slice (some ad) (k - j) c') (k - j) ((out.drop j).flatMap evC) W) := by
        intro W hW j hj hk1 g1 o1 ha ad c' had
        rcases had with h0 | rfl
        · have : out.drop j = [] := List.drop_eq_nil_of_le (by rw [HOL.out]; omega)
          rw [this, h0]
          exact Src.ofSlice _ Tryz.underlying39 _ 0 _ [] (by simp) (by simp) (by simp)
        · have hr : Row W 75 4 (.slice (some ⟨g1, o1, none⟩) out.length ocap) out.length (out.flatMap evC) := by rw [← ha, HOL.out]; exact hR.out.same (fun b hb => hW b hb)
          have := ev_piece hr j k hj (by rw [HOL.out]; exact Nat.le_refl _) (o1 + j * 4) c' rfl
          rw [List.take_of_length_le (by simp [HOL.out])] at this
          exact this
      rcases Nat.eq_zero_or_pos k with hkz | hkz
      · have hov := hk0.out hkz
        subst hkz
        obtain ⟨rfl, _, rfl⟩ := Value.slice.inj hov
        have hon : out = [] := List.eq_nil_of_length_eq_zero HOL.out
        have hpl : Hid (putAll [] (l.take 1) = [x]) := by
          have := hnext.out
          rw [hon] at this
          exact this
        clear hnext hon hR0 hR1
        go_wp2
        go_loopw [5] (fun a W => ∃ (q : Nat) (z : Int), z = 0 ∧ a = .int .i64 z ∧ W = wr.drewN q) (fun a _ => (intOf a).toNat)
        case atStart => exact ⟨0, 0, rfl, rfl, rfl⟩
        case round =>
          obtain ⟨q, z, rfl, rfl, hW⟩ := hrel
          subst hW
          obtain ⟨y0, y1, y2, y3⟩ := hcl.out wr hB.out
          simp only [Nat.zero_mul, Nat.add_zero] at y0 y1 y2 y3
          go_wp2
          go_quiet (fail)
          go_wp2_with (at_builtin; refine append_ev1 (wr.drewN (q + nq)) rfl _ _ rfl (.slice none 0 0) 0 [] _ _ _ _ (by simp [Value.oneCell']) rfl ⟨rfl, Or.inl ⟨rfl, rfl⟩⟩ rfl (by omega) ?_)
          intro g2 o2 c2 w2 r2 g2' b2
          have r2' : Row w2 75 4 (.slice (some ⟨g2, o2, none⟩) 1 c2) 1 (evC x) := r2
          have hg2 : (wr.alloc (.cells #[.int .i64 x.1, .int .i64 x.2.1, .int .u8 x.2.2.1.toNat, .int .i64 x.2.2.2] 75)).grownBy w2 none := ⟨g2'.os, g2'.tape, g2'.output, g2'.size, g2'.block⟩
          have R2 := Hid.mk' r2'
          have hsz := hB.out.size
          have hfin : Hid (∀ va3 c3 w3, Row w3 75 4 (.slice va3 1 c3) 1 (evC x) → w2.grownBy w3 (Value.slice (some ⟨g2, o2, none⟩) 1 c2).ownBlock → (∀ b, (Value.slice va3 1 c3).ownBlock = some b → (Value.slice (some ⟨g2, o2, none⟩) 1 c2).ownBlock = some b ∨ b = w2.heap.size) → NewEv w w3 (.slice va3 1 c3) (putAll [] (l.take (0 + 1)))) := by
            intro va3 c3 w3 r3 g3 b3
            have s2 := hg2.size
            simp at s2
            have hN2 : ∀ b, (Value.slice (some ⟨g2, o2, none⟩) 1 c2).ownBlock = some b → w.heap.size ≤ b := by
              intro b hb
              have hb' : g2 = b := Option.some.inj hb
              rcases b2 with h | h
              · cases h
              · have h' : g2 = wr.heap.size + 1 := h
                omega
            have B2 : Below w.heap.size w w2 := (hB.out.alloc hsz _).grown hg2 (by simp; omega) (fun b hb => by cases hb)
            rw [hpl.out]
            refine ⟨B2.grown g3 (by omega) hN2, by simpa using r3, fun b hb => (b3 b hb).elim (hN2 b) (fun h => by omega)⟩
          have hsr : Hid (Src Tryz.prog 4 39 (.slice none 0 0) 0 [] w2) := Src.ofNil _ Tryz.underlying39 _
          clear r2 r2' g2' b2 hg2
          go_wp2_with (at_builtin; refine append_evs0 _ rfl _ _ rfl (.slice (some ⟨g2, o2, none⟩) 1 c2) 1 _ rfl R2.out (.slice none 0 0) 0 _ rfl hsr.out (by omega) ?_)
          first
            | (intro va3 c3 w3 r3 g3 b3
               have hF := Hid.mk' (hfin.out va3 c3 w3 (by simpa using r3) g3 b3)
               clear r3 g3 b3
               go_wp2
               go_roundw
               case rel => exact ⟨1, 1, rfl, rfl, by omega, hF, fun h => absurd h (by omega)⟩
               case measure => simp [intOf]; omega)
            | (have hF := Hid.mk' (hfin.out _ c2 w2 R2.out ⟨rfl, rfl, rfl, Nat.le_refl _, fun _ _ _ => rfl⟩ (fun b hb => Or.inl hb))
               go_roundw
               case rel => exact ⟨1, 1, rfl, rfl, by omega, hF, fun h => absurd h (by omega)⟩
               case measure => simp [intOf]; omega)
      · clear hk0
        obtain ⟨go_, oo, oc', hoa, _⟩ := row_some hR.out (by omega)
        obtain ⟨rfl, _, rfl⟩ := Value.slice.inj hoa
        clear hoa
        go_wp2
        go_loopw [5] (fun a W => ∃ (j q : Nat) (z : Int), z = j ∧ a = .int .i64 z ∧ j ≤ k ∧ W = wr.drewN q ∧ Hid (∀ i, (h : i < out.length) → j ≤ i → after out[i] x = true)) (fun a _ => (intOf a).toNat)
        case atStart => exact ⟨k, 0, k, rfl, rfl, Nat.le_refl _, rfl, Hid.mk' (fun i h hi => by have := HOL.out; omega)⟩
        case round =>
          obtain ⟨j, q, z, rfl, rfl, hj, hW, hafter⟩ := hrel
          subst hW
          obtain ⟨y0, y1, y2, y3⟩ := hcl.out wr hB.out
          have hplace : Hid (0 < j → ∀ h : j - 1 < out.length, after out[j - 1] x = false) → Hid (placeB out x = j) := fun hh => Hid.mk' (place_scan hsb.out j (by have := HOL.out; omega) hafter.out (fun h hp => hh.out hp h))
          have hdec : (j = 0 ∨ ∃ i y, j = i + 1 ∧ i < out.length ∧ out[i]? = some y ∧ after y x = false) ∨ ∃ i y, j = i + 1 ∧ i < out.length ∧ out[i]? = some y ∧ after y x = true := by
            rcases Nat.eq_zero_or_pos j with hj0 | hj0
            · exact Or.inl (Or.inl hj0)
            · have hl := HOL.out
              cases ha : after (out[j - 1]'(by omega)) x with
              | false => exact Or.inl (Or.inr ⟨j - 1, _, by omega, by omega, List.getElem?_eq_getElem (by omega), ha⟩)
              | true => exact Or.inr ⟨j - 1, _, by omega, by omega, List.getElem?_eq_getElem (by omega), ha⟩
          have hnext2 : Hid (∀ (W w1 w2 w3 : World) (v1 v2 v3 : Value) (o : Obj), placeB out x = j → W = wr.drewN q ∨ (∃ q', W = (wr.drewN q).drewN q') → W.grownBy w1 none → (∀ b, v1.ownBlock = some b → b = W.heap.size) → (w1.alloc o).grownBy w2 v1.ownBlock → (∀ b, v2.ownBlock = some b → v1.ownBlock = some b ∨ b = w1.heap.size + 1) → w2.grownBy w3 v2.ownBlock → (∀ b, v3.ownBlock = some b → v2.ownBlock = some b ∨ b = w2.heap.size) → Row w3 75 4 v3 (j + 1 + (k - j)) (((out.take j).flatMap evC ++ evC x) ++ (out.drop j).flatMap evC) → NewEv w w3 v3 (putAll [] (l.take (k + 1)))) := by
            intro W w1 w2 w3 v1 v2 v3 o hp hW g1 b1 g2 b2 g3 b3 r3
            have hBW : Below w.heap.size w W := by
              rcases hW with rfl | ⟨q', rfl⟩
              · exact below_drewN hB.out q
              · exact below_drewN (below_drewN hB.out q) q'
            have s1 := g1.size
            have s2 := g2.size
            simp at s2
            rw [hnext.out]
            have hl := HOL.out
            refine sort_fin (oa := v1) (n1 := 0) hBW g1 (fun b hb => by have := b1 b hb; omega) g2 (fun b hb => (b2 b hb).imp id (fun h => by omega)) g3 (fun b hb => (b3 b hb).imp id (fun h => by omega)) ?_ (by omega) hp
            rw [hl]; exact r3
          rcases hdec with hdec | ⟨i, y, rfl, hio, hy, ha⟩
          · have hwalk : Hid (placeB out x = j) := by
              refine hplace (Hid.mk' (fun hp h => ?_))
              rcases hdec with h0 | ⟨i, y, rfl, hio, hy, ha⟩
              · omega
              · have hy' : out[i] = y := by rw [List.getElem?_eq_getElem hio] at hy; exact Option.some.inj hy
                simp only [Nat.add_sub_cancel]
                rw [hy']; exact ha
            have hjk : (j : Int) ≤ (ocap : Int) := by omega
            have hjk2 : j ≤ ocap := by omega
            have hexit : (j = 0) ∨ (∃ (i : Nat) (y : Ev), j = i + 1 ∧ wr.cell? ⟨go_, oo + i * 4, none⟩ = some (.int .i64 y.1) ∧ wr.cell? ⟨go_, oo + i * 4 + 1, none⟩ = some (.int .i64 y.2.1) ∧ (¬ x.2.1 < y.2.1 ∧ ¬ y.2.1 = x.2.1)) ∨ (∃ (i : Nat) (y : Ev), j = i + 1 ∧ wr.cell? ⟨go_, oo + i * 4, none⟩ = some (.int .i64 y.1) ∧ wr.cell? ⟨go_, oo + i * 4 + 1, none⟩ = some (.int .i64 y.2.1) ∧ y.2.1 = x.2.1 ∧ ¬ x.1 < y.1) := by
              rcases hdec with h0 | ⟨i, y, hji, hio, hy, ha⟩
              · exact Or.inl h0
              · have hy' : out[i] = y := by rw [List.getElem?_eq_getElem hio] at hy; exact Option.some.inj hy
                have hRo : Row wr 75 4 (.slice (some ⟨go_, oo, none⟩) out.length ocap) out.length (out.flatMap evC) := by rw [HOL.out]; exact hR.out
                obtain ⟨u0, u1, u2, u3⟩ := ev_at hRo i hio
                rw [hy'] at u0 u1 u2 u3
                have hna : ¬ (x.2.1 < y.2.1 ∨ (y.2.1 = x.2.1 ∧ x.1 < y.1)) := by rw [← after_iff, ha]; simp
                by_cases he : y.2.1 = x.2.1
                · exact Or.inr (Or.inr ⟨i, y, hji, u0, u1, he, fun h => hna (Or.inr ⟨he, h⟩)⟩)
                · exact Or.inr (Or.inl ⟨i, y, hji, u0, u1, fun h => hna (Or.inl h), he⟩)
            clear hplace hdec hafter
            rcases hexit with h0 | ⟨i, y, hji, u0, u1, hn1, hn2⟩ | ⟨i, y, hji, u0, u1, hn1, hn2⟩
            · subst h0
              go_wp2
              go_quiet (fail)
              go_wp2_with (at_builtin; refine append_ev1 (wr.drewN (q + nq)) rfl _ _ rfl (.slice none 0 0) 0 [] _ _ _ _ (by simp [Value.oneCell']) rfl ⟨rfl, Or.inl ⟨rfl, rfl⟩⟩ rfl (by omega) ?_)
              intro g2 o2 c2 w2 r2 g2' b2
              have r2' : Row w2 75 4 (.slice (some ⟨g2, o2, none⟩) 1 c2) 1 (evC x) := r2
              clear r2
              have r2 := r2'
              clear r2'
              have hg2 : (wr.alloc (.cells #[.int .i64 x.1, .int .i64 x.2.1, .int .u8 x.2.2.1.toNat, .int .i64 x.2.2.2] 75)).grownBy w2 none := ⟨g2'.os, g2'.tape, g2'.output, g2'.size, g2'.block⟩
              have hsrc := Hid.mk' (hR1.out w2 (fun b hb => by rw [hg2.block b (by have := hR.out.lt b hb; simp; omega) (fun e => by cases e), Below.heap_alloc _ _ _ (hR.out.lt b hb)]) 0 (by omega) hkz go_ oo rfl ⟨go_, oo, none⟩ ocap (Or.inr (by simp)))
              have R2 := Hid.mk' r2
              have G2 := Hid.mk' g2'
              have B2 := Hid.mk' b2
              clear r2 g2' b2 hg2
              simp only [Nat.sub_zero] at hsrc
              go_wp2_with (at_builtin; go_loud (refine append_evs0 _ rfl _ _ rfl (.slice (some ⟨g2, o2, none⟩) 1 c2) 1 _ rfl R2.out (.slice (some ⟨go_, oo, none⟩) k ocap) k _ rfl hsrc.out (by omega) ?_))
              intro va3 c3 w3 r3 g3 b3
              have hF := Hid.mk' (hnext2.out (wr.drewN q) (wr.drewN q) w2 w3 (.slice none 0 0) _ _ _ hwalk.out (Or.inl rfl) ⟨rfl, rfl, rfl, Nat.le_refl _, fun _ _ _ => rfl⟩ (fun b hb => by cases hb) ⟨G2.out.os, G2.out.tape, G2.out.output, G2.out.size, G2.out.block⟩ (fun b hb => by have hb' : g2 = b := Option.some.inj hb; rcases B2.out with h | h; exact absurd h (by simp [Value.ownBlock]); exact Or.inr (by rw [← hb', h]; rfl)) g3 b3 (by simpa [evC] using r3))
              clear r3 g3 b3
              go_wp2
              go_roundw
              case rel => exact ⟨k + 1, (k : Int) + 1, by omega, rfl, by omega, hF, fun h => absurd h (by omega)⟩
              case measure => simp [intOf]; omega
            all_goals
              subst hji
              have hgt : (0 : Int) < (i : Int) + 1 := by omega
              have w1 : IntKind.i64.wrap ((i : Int) + 1 - 1) = i := by rw [IntWalk.i64_in _ (by omega)]; omega
              have w2 : IntKind.i64.wrap (i : Int) = i := IntWalk.i64_in _ (by omega)
              have hik : i < k := by omega
              have hik' : (i : Int) < (k : Int) := by omega
              have hjk3 : (i : Int) + 1 ≤ (ocap : Int) := by omega
              have hjk4 : i + 1 ≤ ocap := by omega
              have hjk5 : i < ocap := by omega
              have hjk6 : (0 : Int) ≤ (i : Int) + 1 := by omega
              have hjk7 : i + 1 ≤ k := by omega
              have hjk8 : (i : Int) + 1 ≤ (k : Int) := by omega
              first | (have ht2 : ¬ x.2.1 < y.2.1 := hn1) | (have ht2 : ¬ x.2.1 < y.2.1 := by omega)
              go_wp2
              go_quiet (fail)
              go_wp2_with (at_builtin; refine append_evs0 _ rfl _ _ rfl (.slice none 0 0) 0 [] rfl ⟨rfl, Or.inl ⟨rfl, rfl⟩⟩ (.slice (some ⟨go_, oo, none⟩) (i + 1) ocap) (i + 1) _ rfl (hR0.out (wr.drewN (q + nq)) rfl (i + 1) (by omega) hkz go_ oo rfl ocap) (by omega) ?_)
              intro va1 c1 w1' r1 g1 b1
              have g1' : wr.grownBy w1' none := ⟨g1.os, g1.tape, g1.output, g1.size, g1.block⟩
              have hBw1 : Below w.heap.size w w1' := hB.out.grown g1' hB.out.size (fun b hb => by cases hb)
              obtain ⟨y0', y1', y2', y3'⟩ := hcl.out w1' hBw1
              have hsz1 : wr.heap.size ≤ w1'.heap.size := g1'.size
              have hkeep1 : Hid (∀ b, (Value.slice (some ⟨go_, oo, none⟩) k ocap).ownBlock = some b → w1'.heap[b]? = wr.heap[b]? ∧ b < wr.heap.size) := fun b hb => ⟨g1'.block b (hR.out.lt b hb) (fun e => by cases e), hR.out.lt b hb⟩
              have R1 : Hid (Row w1' 75 4 (.slice va1 (i + 1) c1) (i + 1) ((out.take (i + 1)).flatMap evC)) := r1
              have G1 := Hid.mk' g1
              have B1 := Hid.mk' b1
              clear r1 g1 b1 hBw1 g1'
              go_wp2_with (at_builtin; refine append_ev1 _ rfl _ _ rfl (.slice va1 (i + 1) c1) (i + 1) _ _ _ _ _ (by simp [Value.oneCell']) rfl R1.out rfl (by omega) ?_)
              intro g2 o2 c2 w2' r2 g2' b2
              have hva1 : ∀ b, (Value.slice va1 (i + 1) c1).ownBlock = some b → wr.heap.size ≤ b := fun b hb => by
                rcases B1.out b hb with h | h
                · cases h
                · have : b = wr.heap.size := h
                  omega
              have hsrc : Hid (∀ ad c', (k - (i + 1) = 0 ∨ ad = ⟨go_, oo + (i + 1) * 4, none⟩) → Src Tryz.prog 4 39 (.slice (some ad) (k - (i + 1)) c') (k - (i + 1)) ((out.drop (i + 1)).flatMap evC) w2') := fun ad c' had =>
                hR1.out w2' (fun b hb => by
                  obtain ⟨e1, e2⟩ := hkeep1.out b hb
                  rw [g2'.block b (by simp; omega) (fun e => by have := hva1 b e.symm; omega), Below.heap_alloc _ _ _ (by omega), e1]) (i + 1) (by omega) hkz go_ oo rfl ad c' had
              have R2 : Hid (Row w2' 75 4 (.slice (some ⟨g2, o2, none⟩) (i + 1 + 1) c2) (i + 1 + 1) ((out.take (i + 1)).flatMap evC ++ evC x)) := r2
              have G2 := Hid.mk' g2'
              have B2 := Hid.mk' b2
              clear r2 g2' b2 hva1 y0' y1' y2' y3'
              have hfin : Hid (∀ va3 c3 w3, Row w3 75 4 (.slice va3 (i + 1 + 1 + (k - (i + 1))) c3) (i + 1 + 1 + (k - (i + 1))) (((out.take (i + 1)).flatMap evC ++ evC x) ++ (out.drop (i + 1)).flatMap evC) → w2'.grownBy w3 (Value.slice (some ⟨g2, o2, none⟩) (i + 1 + 1) c2).ownBlock → (∀ b, (Value.slice va3 (i + 1 + 1 + (k - (i + 1))) c3).ownBlock = some b → (Value.slice (some ⟨g2, o2, none⟩) (i + 1 + 1) c2).ownBlock = some b ∨ b = w2'.heap.size) → NewEv w w3 (.slice va3 (i + 1 + 1 + (k - (i + 1))) c3) (putAll [] (l.take (k + 1)))) := by
                intro va3 c3 w3 r3 g3 b3
                refine hnext2.out ((wr.drewN q).drewN nq) w1' w2' w3 (.slice va1 (i + 1) c1) (.slice (some ⟨g2, o2, none⟩) (i + 1 + 1) c2) _ _ hwalk.out (Or.inr ⟨nq, rfl⟩) ⟨G1.out.os, G1.out.tape, G1.out.output, G1.out.size, G1.out.block⟩ (fun b hb => ?_) G2.out (fun b hb => ?_) g3 b3 r3
                · rcases B1.out b hb with h | h
                  · cases h
                  · exact h
                · have hb' : g2 = b := Option.some.inj hb
                  rcases B2.out with h | h
                  · exact Or.inl (by rw [← hb']; exact h)
                  · exact Or.inr (by rw [← hb']; exact h)
              by_cases hcj : ocap = i + 1
              · have hki : k = i + 1 := by omega
                have hsr := Hid.mk' (hsrc.out ⟨go_, oo, none⟩ 0 (Or.inl (by omega)))
                have hz0 : k - (i + 1) = 0 := by omega
                rw [hz0] at hsr hfin
                subst hki
                subst hcj
                go_wp2_with (at_builtin; refine append_evs0 _ rfl _ _ rfl (.slice (some ⟨g2, o2, none⟩) (i + 1 + 1) c2) (i + 1 + 1) _ rfl R2.out (.slice (some ⟨go_, oo, none⟩) 0 0) 0 _ rfl hsr.out (by omega) ?_)
                intro va3 c3 w3 r3 g3 b3
                have hF := Hid.mk' (hfin.out va3 c3 w3 (by rw [List.append_assoc]; exact r3) g3 b3)
                clear r3 g3 b3
                go_wp2
                go_roundw
                case rel => exact ⟨i + 1 + 1, (i : Int) + 1 + 1, by omega, rfl, by omega, hF, fun h => absurd h (by omega)⟩
                case measure => simp [intOf]; omega
              · have hsr := Hid.mk' (hsrc.out ⟨go_, oo + (i + 1) * 4, none⟩ (ocap - (i + 1)) (Or.inr rfl))
                go_wp2_with (at_builtin; refine append_evs0 _ rfl _ _ rfl (.slice (some ⟨g2, o2, none⟩) (i + 1 + 1) c2) (i + 1 + 1) _ rfl R2.out (.slice (some ⟨go_, oo + (i + 1) * 4, none⟩) (k - (i + 1)) (ocap - (i + 1))) (k - (i + 1)) _ rfl hsr.out (by omega) ?_)
                intro va3 c3 w3 r3 g3 b3
                have hF := Hid.mk' (hfin.out va3 c3 w3 (by rw [List.append_assoc]; exact r3) g3 b3)
                clear r3 g3 b3
                go_wp2
                go_roundw
                case rel => exact ⟨k + 1, (k : Int) + 1, by omega, rfl, by omega, hF, fun h => absurd h (by omega)⟩
                case measure => simp [intOf]; omega
          · have hy' : out[i] = y := by rw [List.getElem?_eq_getElem hio] at hy; exact Option.some.inj hy
            have hRo : Row wr 75 4 (.slice (some ⟨go_, oo, none⟩) out.length ocap) out.length (out.flatMap evC) := by rw [HOL.out]; exact hR.out
            obtain ⟨u0, u1, u2, u3⟩ := ev_at hRo i hio
            rw [hy'] at u0 u1 u2 u3
            clear hRo
            have hgt : (0 : Int) < (i : Int) + 1 := by omega
            have w1 : IntKind.i64.wrap ((i : Int) + 1 - 1) = i := by rw [IntWalk.i64_in _ (by omega)]; omega
            have w2 : IntKind.i64.wrap (i : Int) = i := IntWalk.i64_in _ (by omega)
            have hik : i < k := by omega
            have hik' : (i : Int) < (k : Int) := by omega
            have hall : Hid (∀ i', (h : i' < out.length) → i ≤ i' → after out[i'] x = true) := by
              intro i' h hi'
              rcases Nat.lt_or_ge i i' with h1 | h1
              · exact hafter.out i' h (by omega)
              · obtain rfl : i' = i := by omega
                rw [hy']; exact ha
            rw [after_iff] at ha
            clear hplace hnext2 hy hy' hafter hnext
            rcases ha with ht | ⟨ht, hs⟩
            · go_wp2
              go_quiet (fail)
              go_wp2
              go_roundw
              case rel => exact ⟨i, q + nq, i, rfl, rfl, by omega, by first | rfl | exact (World.drewN_drewN _ _ _), hall⟩
              case measure => simp [intOf]
            · have ht2 : ¬ x.2.1 < y.2.1 := by omega
              go_wp2
              go_quiet (fail)
              go_wp2
              go_roundw
              case rel => exact ⟨i, q + nq, i, rfl, rfl, by omega, by first | rfl | exact (World.drewN_drewN _ _ _), hall⟩
              case measure => simp [intOf]
    · have hkl : k = l.length := by omega
      subst hkl
      clear hlt
      go_wp2
      go_ret
      exact ⟨_, rfl, by rw [List.take_length] at hout; rw [hout]; exact hN.out⟩
end Go.Proofs.YtbgfannlfagoiaaGreatDoor

namespace Go.Lull
theorem ahead_irrefl (a : It) : aheadB a a = false := by
 unfold aheadB; simp
theorem ahead_trans {a b c : It} (h1 : aheadB a b = true) (h2 : aheadB b c = true) : aheadB a c = true := by
 obtain ⟨⟨q1, c1, e1⟩, l1, p1⟩ := a
 obtain ⟨⟨q2, c2, e2⟩, l2, p2⟩ := b
 obtain ⟨⟨q3, c3, e3⟩, l3, p3⟩ := c
 unfold aheadB at *
 simp only at *
 by_cases h12 : c1 = c2
 ·subst h12
  rw [if_pos rfl] at h1
  by_cases h13 : c1 = c3
  ·subst h13
   rw [if_pos rfl] at h2 ⊢
   cases l1 <;> cases l2 <;> cases l3 <;> simp at * <;> omega
  ·rw [if_neg h13] at h2 ⊢; exact h2
 ·rw [if_neg h12] at h1
  by_cases h23 : c2 = c3
  ·subst h23
   rw [if_neg h12]; exact h1
  ·rw [if_neg h23] at h2
   have e1 : c1 < c2 := by simpa using h1
   have e2 : c2 < c3 := by simpa using h2
   rw [if_neg (by omega)]
   simp; omega
/-- What is left to be told, in its order. -/
structure SS {V : Type} (L T : List (It × V)) : Prop where
 nd : (L.map Prod.fst).Nodup
 so : (T.map Prod.fst).Pairwise (fun a b => aheadB a b = true)
 me : ∀ x, x ∈ T ↔ x ∈ L
theorem nodup_fst {V : Type} {L : List (It × V)} (h : (L.map Prod.fst).Nodup) {a : It} {b c : V} (hb : (a, b) ∈ L) (hc : (a, c) ∈ L) : b = c := by
 induction L with
 | nil => cases hb
 | cons x l ih =>
  rw [List.map_cons] at h
  have hn := List.nodup_cons.1 h
  rcases List.mem_cons.1 hb with h1 | h1
  ·rcases List.mem_cons.1 hc with h2 | h2
   ·rw [← h1] at h2; exact (Prod.mk.inj h2).2.symm
   ·exact absurd (List.mem_map.2 ⟨(a, c), h2, rfl⟩) (by rw [← h1] at hn; exact hn.1)
  ·rcases List.mem_cons.1 hc with h2 | h2
   ·exact absurd (List.mem_map.2 ⟨(a, b), h1, rfl⟩) (by rw [← h2] at hn; exact hn.1)
   ·exact ih hn.2 h1 h2
open Classical in
theorem SS.start {V : Type} [Inhabited V] {L : List (It × V)} {T0 : List It} (hnd : (L.map Prod.fst).Nodup) (hs : T0.Pairwise (fun a b => aheadB a b = true)) (hm : ∀ x, x ∈ T0 ↔ x ∈ L.map Prod.fst) : ∃ T, T.map Prod.fst = T0 ∧ SS L T := by
 let f : It → V := fun it => if h : ∃ v, (it, v) ∈ L then h.choose else default
 have hf : ∀ it ∈ T0, (it, f it) ∈ L := by
  intro it hit
  obtain ⟨x, hx, rfl⟩ := List.mem_map.1 ((hm it).1 hit)
  have h : ∃ v, (x.1, v) ∈ L := ⟨x.2, hx⟩
  have : f x.1 = h.choose := dif_pos h
  rw [this]; exact h.choose_spec
 have hmap : (T0.map (fun it => (it, f it))).map Prod.fst = T0 := by rw [List.map_map]; exact List.map_id _
 refine ⟨T0.map (fun it => (it, f it)), hmap, hnd, by rw [hmap]; exact hs, ?_⟩
 intro x
 constructor
 ·intro hx
  obtain ⟨it, hit, rfl⟩ := List.mem_map.1 hx
  exact hf it hit
 ·intro hx
  have hit : x.1 ∈ T0 := (hm x.1).2 (List.mem_map.2 ⟨x, hx, rfl⟩)
  refine List.mem_map.2 ⟨x.1, hit, ?_⟩
  have := nodup_fst hnd (hf x.1 hit) (show (x.1, x.2) ∈ L from hx)
  rw [this]
theorem SS.step {V : Type} {L T : List (It × V)} (h : SS L T) {k : Nat} (hk : k < L.length) (hmin : ∀ i, (hi : i < L.length) → aheadB L[i].1 L[k].1 = false) : ∃ T', T = L[k] :: T' ∧ SS (L.take k ++ L.drop (k + 1)) T' := by
 have hsplit : L = L.take k ++ L[k] :: L.drop (k + 1) := by rw [← List.drop_eq_getElem_cons hk, List.take_append_drop]
 have hkT : L[k] ∈ T := (h.me _).2 (List.getElem_mem hk)
 cases hT : T with
 | nil => rw [hT] at hkT; cases hkT
 | cons t T' =>
  have hso := h.so
  rw [hT, List.map_cons] at hso
  have hc := List.pairwise_cons.1 hso
  have htk : L[k] = t := by
   rw [hT] at hkT
   rcases List.mem_cons.1 hkT with h1 | h1
   ·exact h1
   ·exfalso
    have ha := hc.1 L[k].1 (List.mem_map.2 ⟨L[k], h1, rfl⟩)
    have ht : t ∈ L := (h.me t).1 (by rw [hT]; exact List.mem_cons_self)
    obtain ⟨i, hi, hti⟩ := List.getElem_of_mem ht
    have := hmin i hi
    rw [hti, ha] at this; cases this
  refine ⟨T', by rw [htk], ?_, hc.2, ?_⟩
  ·refine List.Nodup.sublist ?_ h.nd
   refine List.Sublist.map _ ?_
   conv => rhs; rw [hsplit]
   exact (List.Sublist.refl _).append (List.sublist_cons_self _ _)
  ·intro x
   have hnd := h.nd
   rw [hsplit, List.map_append, List.map_cons] at hnd
   have hx1 : x ∈ L ↔ x ∈ L.take k ∨ x = L[k] ∨ x ∈ L.drop (k + 1) := by
    conv => lhs; rw [hsplit]
    rw [List.mem_append, List.mem_cons]
   have hnot : L[k].1 ∉ (L.take k).map Prod.fst ∧ L[k].1 ∉ (L.drop (k + 1)).map Prod.fst := by
    have := List.nodup_append.1 hnd
    refine ⟨fun hm => this.2.2 _ hm _ List.mem_cons_self rfl, (List.nodup_cons.1 this.2.1).1⟩
   constructor
   ·intro hx
    have hxT : x ∈ L := (h.me x).1 (by rw [hT]; exact List.mem_cons_of_mem _ hx)
    rcases hx1.1 hxT with h1 | h1 | h1
    ·exact List.mem_append_left _ h1
    ·exfalso
     have := hc.1 x.1 (List.mem_map.2 ⟨x, hx, rfl⟩)
     rw [h1, ← htk, ahead_irrefl] at this; cases this
    ·exact List.mem_append_right _ h1
   ·intro hx
    have hxL : x ∈ L := hx1.2 ((List.mem_append.1 hx).elim Or.inl (fun h => Or.inr (Or.inr h)))
    have hxT := (h.me x).2 hxL
    rw [hT] at hxT
    rcases List.mem_cons.1 hxT with h1 | h1
    ·exfalso
     rw [← htk] at h1
     rcases List.mem_append.1 hx with h2 | h2
     ·exact hnot.1 (List.mem_map.2 ⟨x, h2, by rw [h1]⟩)
     ·exact hnot.2 (List.mem_map.2 ⟨x, h2, by rw [h1]⟩)
    ·exact h1
end Go.Lull
namespace Go.Proofs.YtbgfannlfagoiaaGreatDoor
open Go.RowKit Go.Lull
set_option linter.unusedVariables false
theorem itL_len (l : List (It × Value)) : (l.flatMap itL).length = l.length * 5 := by
 induction l with
 | nil => rfl
 | cons x r ih => rw [List.flatMap_cons, List.length_append, ih]; simp [itL]; omega
theorem flat5_at : ∀ (l : List (It × Value)) (i k : Nat) (h : i < l.length), k < 5 → (l.flatMap itL)[i * 5 + k]? = (itL l[i])[k]?
 | x :: l, 0, k, h, hk => by
  rw [List.flatMap_cons, Nat.zero_mul, Nat.zero_add, List.getElem?_append_left (by simpa [itL] using hk)]
  rfl
 | x :: l, i + 1, k, h, hk => by
  have hl : (itL x).length = 5 := rfl
  rw [List.flatMap_cons, List.getElem?_append_right (by rw [hl]; omega), hl, show (i + 1) * 5 + k - 5 = i * 5 + k by omega]
  exact flat5_at l i k (by simpa using h) hk
theorem it_at {w : World} {g off cap : Nat} {l : List (It × Value)} (h : Row w 178 5 (.slice (some ⟨g, off, none⟩) l.length cap) l.length (l.flatMap itL)) (i : Nat) (hi : i < l.length) :
  w.cell? ⟨g, off + i * 5, none⟩ = some (.int .i64 l[i].1.m.q) ∧ w.cell? ⟨g, off + i * 5 + 1, none⟩ = some (.int .i64 l[i].1.m.cl) ∧ w.cell? ⟨g, off + i * 5 + 2, none⟩ = some l[i].2 ∧ w.cell? ⟨g, off + i * 5 + 3, none⟩ = some (.bool l[i].1.late) ∧ w.cell? ⟨g, off + i * 5 + 4, none⟩ = some (.int .i64 l[i].1.place) := by
 have hc : ∀ k, k < 5 → w.cell? ⟨g, off + i * 5 + k, none⟩ = (itL l[i])[k]? := by
  intro k hk
  rw [Nat.add_assoc, h.cell (i * 5 + k) (by omega), flat5_at l i k hi hk]
 exact ⟨hc 0 (by omega), hc 1 (by omega), hc 2 (by omega), hc 3 (by omega), hc 4 (by omega)⟩
theorem it_piece {w : World} {g off cap : Nat} {l : List (It × Value)} (hone : ∀ x ∈ l, x.2.oneCell' = true) (h : Row w 178 5 (.slice (some ⟨g, off, none⟩) l.length cap) l.length (l.flatMap itL)) (i j : Nat) (hij : i ≤ j) (hj : j ≤ l.length) (off' c' : Nat) (ho : off' = off + i * 5) :
  Src Tryz.prog 5 171 (.slice (some ⟨g, off', none⟩) (j - i) c') (j - i) (((l.drop i).take (j - i)).flatMap itL) w := by
 subst ho
 refine Src.ofSlice _ Tryz.underlying171 _ _ _ _ (by rw [itL_len]; simp; omega) ?_ ?_
 ·intro k u hu
  have hk : k < (j - i) * 5 := by
   have := (List.getElem?_eq_some_iff.1 hu).1
   rw [itL_len] at this
   simp at this; omega
  rw [Go.WideShapes.add_plain]
  have hf := h.cell (i * 5 + k) (by omega)
  rw [Nat.add_assoc, hf, ← hu]
  have hq : k = k / 5 * 5 + k % 5 := by omega
  have h1 : k / 5 < j - i := by omega
  have e1 : i * 5 + k = (i + k / 5) * 5 + k % 5 := by omega
  rw [e1, flat5_at l (i + k / 5) (k % 5) (by omega) (by omega)]
  conv => rhs; rw [hq]
  rw [flat5_at ((l.drop i).take (j - i)) (k / 5) (k % 5) (by simp; omega) (by omega)]
  simp
 ·intro u hu
  obtain ⟨x, hx, hu⟩ := List.mem_flatMap.1 hu
  have hx' : x ∈ l := List.mem_of_mem_drop (List.mem_of_mem_take hx)
  simp [itL] at hu
  rcases hu with rfl | rfl | rfl | rfl | rfl
  ·rfl
  ·rfl
  ·exact hone x hx'
  ·rfl
  ·rfl
/-- append of a piece of a row of items, be it empty. -/
theorem append_its0 (w : World) {ops : Array Oper} {rest : List Oper} {o : Oper} {a : Act} {Q : Exit → Act → World → Prop} (hgd : o.guard = none) (s x : Operand)
  (ho : o.op = .call { callee := .builtin .append, args := #[s, x], argTypes := #[171, 171] })
  (v : Value) (n : Nat) (xs : List Value) (hv : a.eval s = v) (hrow : Row w 178 5 v n xs) (xv : Value) (m : Nat) (news : List Value)
  (hxv : a.eval x = xv) (hs : Src Tryz.prog 5 171 xv m news w) (hn : n + m ≤ 1000000)
  (h : ∀ va cap w', Row w' 178 5 (.slice va (n + m) cap) (n + m) (xs ++ news) → w.grownBy w' v.ownBlock → (∀ b, (Value.slice va (n + m) cap).ownBlock = some b → v.ownBlock = some b ∨ b = w.heap.size) → wpList Tryz.prog ops Q rest (a.put o.dst (.slice va (n + m) cap)) w') :
  wpList Tryz.prog ops Q (o :: rest) a w := by
 obtain ⟨i0, hi, hz0, hz1, hz2⟩ := info_parts Tryz.infoIt
 rcases Nat.eq_zero_or_pos m with hm | hm
 ·subst hm
  have hnl : news = [] := List.eq_nil_of_length_eq_zero (by have := hs.newsLen; omega)
  subst hnl
  obtain ⟨va, cap, rfl, hcap⟩ := hrow.form
  refine wpList_plain hgd fun K hK => ?_
  have hrun : ∀ ty, (Builtin.append_ #[171, 171] ty #[.slice va n cap, xv]).run Tryz.prog w = .ok (.slice va n cap) w := by
   intro ty
   exact run_append_nothing w 171 171 ty 178 i0 Tryz.underlying171 hi va n cap hcap _ (by rw [hz1]; exact hs)
  unfold Oper.wp execOp
  simp only [ho, resolve, invoke, builtin, Sem.run_bind, Sem.run_pure, Result.andThen_ok, List.map_toArray, List.map_cons, List.map_nil, hv, hxv, hrun]
  exact hK _ _ (h va cap w (by simpa using hrow) ⟨rfl, rfl, rfl, Nat.le_refl _, fun _ _ _ => rfl⟩ (fun b hb => Or.inl hb))
 ·refine wpList_append_row hgd s x 171 ho i0 _ 56 Tryz.underlying171 hi hz0 hz1 hz2 rfl hv hrow m news _ hxv hs hm (by unfold maxLen; omega) (by omega) ?_
  intro g off cap w' r1 r2 r3
  exact h _ cap w' r1 r2 (fun b hb => by
   have hb' : g = b := Option.some.inj hb
   subst hb'; exact r3)
end Go.Proofs.YtbgfannlfagoiaaGreatDoor
