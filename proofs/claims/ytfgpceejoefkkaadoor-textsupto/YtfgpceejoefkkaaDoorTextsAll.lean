import Derived.Test.YtfgpceejoefkkaaDoorTextsParse
namespace Go.Proofs.YtfgpceejoefkkaaDoor
open Go.RowKit Go.Lull
set_option linter.unusedVariables false

/-- The place in the first text that is no pattern. -/
def badB : List (List UInt8) → Option Nat
  | [] => none
  | l :: r => match resB l with | .inl p => some p | .inr _ => badB r
theorem badB_bad {l : List UInt8} {r : List (List UInt8)} {p : Nat} (h : resB l = .inl p) : badB (l :: r) = some p := by simp [badB, h]
theorem badB_good {l : List UInt8} {r : List (List UInt8)} {st : St} (h : resB l = .inr st) : badB (l :: r) = badB r := by simp [badB, h]

abbrev Pat := Option Addr × Nat × Nat × Int
def patC (p : Pat) : List Value := [.slice p.1 p.2.1 p.2.2.1, .int .i64 p.2.2.2]
theorem patC_len (l : List Pat) : (l.flatMap patC).length = l.length * 2 := by
  induction l with
  | nil => rfl
  | cons x l ih => simp [List.flatMap_cons, patC, ih]; omega
theorem patC_one (x : Pat) : ∀ u ∈ patC x, u.oneCell' = true := by
  intro u hu
  simp [patC] at hu
  rcases hu with rfl | rfl <;> rfl
theorem patC_at (w : World) (x : Pat) (T n : Nat) (hn : n = w.heap.size) : ∀ j u, (patC x)[j]? = some u → (w.alloc (.cells #[.slice x.1 x.2.1 x.2.2.1, .int .i64 x.2.2.2] T)).cell? ((⟨n, 0, none⟩ : Addr).add j) = some u := by
  intro j u h
  subst hn
  match j, h with
  | 0, h => simp [patC] at h; subst h; simp [Addr.add]
  | 1, h => simp [patC] at h; subst h; simp [Addr.add]
  | j + 2, h => simp [patC] at h

theorem parse_bad (s : ByteArray) (m : Int) (w : World) (p : Nat) (hm : w.cell? ⟨0, 0, none⟩ = some (.int .i64 m)) (h : resB s.data.toList = .inl p) :
    Calls Tryd.prog 27 #[.string s] w fun e w' => ∃ a n cap wn, e = .returned (.tuple #[.agg #[.slice a n cap, .int .i64 wn], .int .i64 p, .bool false]) ∧ Below w.heap.size w w' := by
  have hc := parse_any s m w hm
  rw [h] at hc
  refine hc.mono ?_
  rintro e w' ⟨a, n, cap, wn, place, ok, rfl, hB, rfl, rfl⟩
  exact ⟨a, n, cap, wn, rfl, hB⟩
theorem parse_good (s : ByteArray) (m : Int) (w : World) (st : St) (hm : w.cell? ⟨0, 0, none⟩ = some (.int .i64 m)) (h : resB s.data.toList = .inr st) :
    Calls Tryd.prog 27 #[.string s] w fun e w' => ∃ a n cap wn, e = .returned (.tuple #[.agg #[.slice a n cap, .int .i64 wn], .int .i64 0, .bool true]) ∧ Below w.heap.size w w' := by
  have hc := parse_any s m w hm
  rw [h] at hc
  refine hc.mono ?_
  rintro e w' ⟨a, n, cap, wn, place, ok, rfl, hB, rfl, rfl, _⟩
  exact ⟨a, n, cap, wn, rfl, hB⟩

theorem Tryd.infoPat : (Tryd.prog.info? 80).map (fun i => (i.zero, i.size, i.bytes)) = some (some (.agg #[.slice none 0 0, .int .i64 0]), 2, 32) := by kernel_rfl

/-- append of one pattern. -/
theorem append_pat (w : World) {ops : Array Oper} {rest : List Oper} {o : Oper} {a : Act} {Q : Exit → Act → World → Prop} (hgd : o.guard = none) (s x : Operand)
    (ho : o.op = .call { callee := .builtin .append, args := #[s, x], argTypes := #[64, 64] })
    (base : Nat) (v : Value) (n : Nat) (xs : List Value) (hs : a.eval s = v) (hown : w.ownsRow base 80 2 v n xs)
    (ad : Addr) (news : List Value) (hx : a.eval x = .slice (some ad) 1 1) (hl : news.length = 1 * 2) (hnews : ∀ j u, news[j]? = some u → w.cell? (ad.add j) = some u) (h1 : ∀ u ∈ news, u.oneCell' = true)
    (hn : n ≤ 1048576) (hbase : base ≤ w.heap.size)
    (h : ∀ g cap w', w'.ownsRow base 80 2 (.slice (some ⟨g, 0, none⟩) (n + 1) cap) (n + 1) (xs ++ news) → w.grownBy w' v.ownBlock → wpList Tryd.prog ops Q rest (a.put o.dst (.slice (some ⟨g, 0, none⟩) (n + 1) cap)) w') :
    wpList Tryd.prog ops Q (o :: rest) a w := by
  obtain ⟨i0, hi, hz0, hz1, hz2⟩ := info_parts Tryd.infoPat
  exact wpList_append_lies w hgd s x 64 ho base 80 i0 _ 2 32 Tryd.underlying64 hi hz0 hz1 hz2 rfl (by decide) v n xs hs hown ad 1 1 news hx hl hnews h1 (by decide) (by unfold maxLen; omega) (by omega) hbase _ rfl
    (fun g cap w' h2 h3 _ _ => h g cap w' h2 h3)

theorem own_row {w : World} {base : Nat} {e : TypeId} {size : Nat} {v : Value} {n : Nat} {xs : List Value} (h : w.ownsRow base e size v n xs) : ∀ k, v.ownBlock = some k → base ≤ k := by
  intro k hk
  rcases h.2 with ⟨e, _⟩ | ⟨g, cap, cur, e, hg, _⟩
  · rw [e] at hk; cases hk
  · rw [e] at hk; cases hk; exact hg
theorem own_below {w w' : World} {base : Nat} {e : TypeId} {size : Nat} {v : Value} {n : Nat} {xs : List Value} (h : w.ownsRow base e size v n xs) (hb : Below w.heap.size w w') : w'.ownsRow base e size v n xs := by
  refine ⟨h.1, ?_⟩
  rcases h.2 with h2 | ⟨g, cap, cur, h1, h2, h3, h4⟩
  · exact Or.inl h2
  · exact Or.inr ⟨g, cap, cur, h1, h2, by rw [hb.block g (lt_of_block h3)]; exact h3, h4⟩

/-- What parseAll hands back. -/
def AllPost (w : World) (ls : List (List UInt8)) (e : Ending) (w' : World) : Prop :=
  Below w.heap.size w w' ∧ (match badB ls with
    | some p => e = .returned (.tuple #[.slice none 0 0, .int .i64 p, .bool false])
    | none => ∃ (a : Option Addr) (cap : Nat) (pats : List Pat), pats.length = ls.length ∧ e = .returned (.tuple #[.slice a ls.length cap, .int .i64 0, .bool true]) ∧ w'.ownsRow w.heap.size 80 2 (.slice a ls.length cap) ls.length (pats.flatMap patC))

/-- A list of texts that came in. -/
structure TX (w : World) (ad : Option Addr) (b off : Nat) (ss : List ByteArray) : Prop where
  at_ : ss ≠ [] → ad = some ⟨b, off, none⟩
  lt : ss ≠ [] → b < w.heap.size
  cell : ∀ k, (h : k < ss.length) → w.cell? ⟨b, off + k, none⟩ = some (.string ss[k])

set_option maxHeartbeats 1000000 in
theorem parseAll_any (w : World) (ad : Option Addr) (b off cap : Nat) (ss : List ByteArray) (m : Int) (hm : w.cell? ⟨0, 0, none⟩ = some (.int .i64 m)) (h : TX w ad b off ss) (hlen : ss.length ≤ 1048576) (hcap : ss.length ≤ cap) :
    Calls Tryd.prog 22 #[.slice ad ss.length cap] w (AllPost w (ss.map (·.data.toList))) := by
  have hz : 0 < w.heap.size := block_lt_of_cell hm
  obtain ⟨B, hB0⟩ : ∃ B, badB (ss.map (·.data.toList)) = B := ⟨_, rfl⟩
  have hst : Hid (B = badB ((ss.map (·.data.toList)).drop 0)) := hB0.symm
  have hfin : ∀ e w', AllPost w (ss.map (·.data.toList)) e w' ↔ (Below w.heap.size w w' ∧ (match B with
    | some p => e = .returned (.tuple #[.slice none 0 0, .int .i64 p, .bool false])
    | none => ∃ (a : Option Addr) (cap : Nat) (pats : List Pat), pats.length = ss.length ∧ e = .returned (.tuple #[.slice a ss.length cap, .int .i64 0, .bool true]) ∧ w'.ownsRow w.heap.size 80 2 (.slice a ss.length cap) ss.length (pats.flatMap patC))) := by
    intro e w'
    unfold AllPost
    rw [hB0]
    simp only [List.length_map]
  have HF := Hid.mk' hfin
  clear hfin hB0
  have HX : Hid (TX w ad b off ss) := h
  have HM : Hid (w.cell? ⟨0, 0, none⟩ = some (.int .i64 m)) := hm
  clear h hm
  go_enter Tryd.func22, Tryd.ntmps22
  go_wp2
  go_loopw [5, 13] (fun v i wr => ∃ (k : Nat) (pats : List Pat), k ≤ ss.length ∧ i = .int .i64 k ∧ wr.ownsRow w.heap.size 80 2 v k (pats.flatMap patC) ∧ pats.length = k ∧ Below w.heap.size w wr ∧ Hid (B = badB ((ss.map (·.data.toList)).drop k))) (fun _ i _ => ss.length - (intOf i).toNat)
  case atStart => exact ⟨0, [], Nat.zero_le _, rfl, World.ownsRow_nil _ _ _ _, rfl, Below.refl _ _, hst⟩
  case round =>
    obtain ⟨k, pats, hk, rfl, hown, hpl, hB, HE⟩ := hrel
    have HO := Hid.mk' hown
    have HP := Hid.mk' hpl
    clear hown hpl
    by_cases hlt : k < ss.length
    · have hne : ss ≠ [] := fun e => by rw [e] at hlt; cases hlt
      obtain rfl := HX.out.at_ hne
      obtain ⟨t, ht⟩ : ∃ t, ss[k] = t := ⟨_, rfl⟩
      have hc : wr.cell? ⟨b, off + k, none⟩ = some (.string t) := by
        rw [hB.cell (p := ⟨b, off + k, none⟩) (HX.out.lt hne), HX.out.cell k hlt, ht]
      have hm' : wr.cell? ⟨0, 0, none⟩ = some (.int .i64 m) := (hB.cell (p := ⟨0, 0, none⟩) hz).trans HM.out
      have HE2 : Hid (B = badB (t.data.toList :: (ss.map (·.data.toList)).drop (k + 1))) := by
        have := HE.out
        rw [List.drop_eq_getElem_cons (by simpa using hlt)] at this
        exact Hid.mk' (by simpa [ht] using this)
      clear HE ht hne
      have hsz := hB.size
      cases ho : resB t.data.toList with
      | inl p =>
        have hcall := parse_bad t m wr p hm' ho
        have hBp : Hid (B = some p) := by unfold Hid; rw [HE2.out, badB_bad ho]
        clear HE2 ho hm'
        go_wp2_with (go_at_call 27; refine hcall.mono ?_; rintro e w1 ⟨a, n, cp, wn, rfl, hb⟩)
        go_ret3
        rw [HF.out, hBp.out]
        exact ⟨(hB.trans (hb.mono hsz)).alloc (by have := hb.size; omega) _, rfl⟩
      | inr st =>
        have hcall := parse_good t m wr st hm' ho
        have HE3 : Hid (B = badB ((ss.map (·.data.toList)).drop (k + 1))) := by unfold Hid; rw [HE2.out, badB_good ho]
        clear HE2 ho hm'
        go_wp2_with (first | (go_at_call 27; refine hcall.mono ?_; rintro e w1 ⟨a, n, cp, wn, rfl, hb⟩) | (at_builtin; refine append_pat _ rfl _ _ rfl w.heap.size _ _ _ rfl (((own_below HO.out hb).alloc _).alloc _) _ (patC (a, n, cp, wn)) rfl rfl (patC_at _ (a, n, cp, wn) _ _ (by simp)) (patC_one _) (by omega) (by have := hb.size; simp; omega) ?_))
        intro g2 cap2 w3 hown hgrow
        have hB3 : Below w.heap.size w w3 := (((hB.trans (hb.mono hsz)).alloc (by have := hb.size; omega) _).alloc (by have := hb.size; simp; omega) _).grown hgrow (by have := hb.size; simp; omega) (own_row HO.out)
        have HB3 := Hid.mk' hB3
        have HO3 := Hid.mk' hown
        clear hB3 hown hgrow hcall hb hc
        go_wp2
        go_roundw
        case rel => exact ⟨k + 1, pats ++ [(a, n, cp, wn)], by omega, by go_num, by simpa [List.flatMap_append] using HO3.out, by simp [HP.out], HB3.out, HE3⟩
        case measure => simp [intOf]; omega
    · have hk2 : k = ss.length := by omega
      have hBn : Hid (B = none) := by unfold Hid; rw [HE.out, List.drop_of_length_le (by simp; omega)]; rfl
      have hv : ∃ a cp, u5 = .slice a k cp := by
        rcases HO.out.2 with ⟨h, h0⟩ | ⟨g, cp, cur, h, _⟩
        · exact ⟨_, _, h0 ▸ h⟩
        · exact ⟨_, _, h⟩
      obtain ⟨a, cp, hv⟩ := hv
      subst hv
      clear HE
      go_wp2
      go_ret3
      rw [HF.out, hBn.out]
      subst hk2
      exact ⟨hB, a, cp, pats, HP.out, rfl, HO.out⟩
end Go.Proofs.YtfgpceejoefkkaaDoor
