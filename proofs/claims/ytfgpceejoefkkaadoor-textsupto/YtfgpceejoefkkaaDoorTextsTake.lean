import Derived.Test.YtfgpceejoefkkaaDoorTextsRd
import Derived.Test.YtfgpceejoefkkaaDoorPlain3
namespace Go.Proofs.YtfgpceejoefkkaaDoor
open Go.RowKit Go.Lull
set_option linter.unusedVariables false

theorem Tryd.infoStep : (Tryd.prog.info? 103).map (fun i => (i.zero, i.size, i.bytes)) = some (some .nilIface, 1, 16) := by kernel_rfl

theorem Hid.mk' {p : Prop} (h : p) : Hid p := h

theorem RD.appended {w w1 w2 : World} {r base g cap : Nat} {steps : List Stp} {wn aw : Int} {v : Value} {x : Stp} {o : Obj} (h : RD w r base steps wn aw v) (hb : Below w.heap.size w w1)
    (hown : w2.ownsRow base 103 1 (.slice (some ⟨g, 0, none⟩) (steps.length + 1) cap) (steps.length + 1) (steps.map stepV ++ [stepV x])) (hg : (w1.alloc o).grownBy w2 v.ownBlock) :
    RD (w2.setCell ⟨r, 0, none⟩ (.slice (some ⟨g, 0, none⟩) (steps.length + 1) cap)) r base (steps ++ [x]) wn aw (.slice (some ⟨g, 0, none⟩) (steps.length + 1) cap) ∧ BB base r w (w2.setCell ⟨r, 0, none⟩ (.slice (some ⟨g, 0, none⟩) (steps.length + 1) cap)) ∧
      w2.cell? ⟨r, 0, none⟩ = some v ∧ w2.frozen? ⟨r, 0, none⟩ = false := by
  have h1 := h.below hb
  have hrow : ∀ k, v.ownBlock = some k → base ≤ k := by
    intro k hk
    rcases h.own.2 with ⟨e, _⟩ | ⟨g, cap, cur, e, hg, _⟩
    · rw [e] at hk; cases hk
    · rw [e] at hk; cases hk; exact hg
  have hB : Below base w w2 := ((hb.mono h.le).alloc h1.le o).grown hg (by have := h1.le; simp; omega) hrow
  have hblk : w2.heap[r]? = some (.cells #[v, .int .i64 wn, .int .i64 aw] 95 (0, 0)) := by rw [hB.block r h.lt]; exact h.blk
  refine ⟨⟨?_, ?_, h.lt, ?_⟩, ?_, ?_, ?_⟩
  · rw [heap_setCell_same w2 r 0 _ _ _ hblk]; rfl
  · have := ownsRow_setCell_below hown (a := ⟨r, 0, none⟩) h.lt (.slice (some ⟨g, 0, none⟩) (steps.length + 1) cap)
    simpa using this
  · have := hB.size; have := h.le; simp; omega
  · exact (BB.of_below hB (Nat.le_of_lt h.lt)).setCell 0 _
  · rw [cell_of_row w2 r 0 _ _ _ hblk]; rfl
  · exact frozen_of_row w2 r 0 _ _ hblk

set_option maxHeartbeats 400000 in
theorem takeStep_none (s : ByteArray) (w : World) (r base : Nat) (steps : List Stp) (wn aw : Int) (v : Value) (hs : s.size ≤ 1000000) (ho : stepB s.data.toList = none) :
    Calls Tryd.prog 37 #[.pointer (some ⟨r, 0, none⟩), .string s] w fun e w' => e = .returned (.bool false) ∧ Below w.heap.size w w' := by
  have hread := fun w => readStep_no s w hs ho
  clear ho
  go_enter Tryd.func37, Tryd.ntmps37
  go_wp2_with (go_at_call 42; refine (hread _).mono ?_; rintro e w1 ⟨rfl, hb⟩)
  go_ret
  exact ⟨rfl, hb⟩

set_option maxHeartbeats 400000 in
theorem takeStep_not (s : ByteArray) (x : Stp) (w : World) (r base : Nat) (steps : List Stp) (wn aw : Int) (v : Value) (hs : s.size ≤ 1000000) (hn : steps.length ≤ 8) (ho : stepB s.data.toList = some x) (hm : mayB steps x = false) (h : RD w r base steps wn aw v) :
    Calls Tryd.prog 37 #[.pointer (some ⟨r, 0, none⟩), .string s] w fun e w' => e = .returned (.bool false) ∧ Below w.heap.size w w' := by
  have hread := fun w => readStep_yes s x w hs ho
  have hmay := fun w (h : RD w r base steps wn aw v) => mayFollow_any v steps x w base hn h.own
  rw [hm] at hmay
  obtain ⟨T, y, hx⟩ : ∃ T y, stepV x = .iface T y := ⟨_, _, rfl⟩
  rw [hx] at hread hmay
  clear ho hx hm
  have H : Hid (RD w r base steps wn aw v) := h
  clear h
  go_enter Tryd.func37, Tryd.ntmps37
  go_wp2_with (first | (go_at_call 42; refine (hread _).mono ?_; rintro e w1 ⟨rfl, hb⟩; have c0 := (H.out.below hb).c0) | (go_at_call 43; refine (hmay _ (H.out.below hb)).mono ?_; rintro e w2 ⟨rfl, rfl⟩))
  go_ret
  exact ⟨rfl, hb⟩

set_option maxHeartbeats 400000 in
theorem takeStep_yes (s : ByteArray) (x : Stp) (w : World) (r base : Nat) (steps : List Stp) (wn aw : Int) (v : Value) (hs : s.size ≤ 1000000) (hn : steps.length ≤ 8) (ho : stepB s.data.toList = some x) (hm : mayB steps x = true) (h : RD w r base steps wn aw v) :
    Calls Tryd.prog 37 #[.pointer (some ⟨r, 0, none⟩), .string s] w fun e w' => e = .returned (.bool true) ∧ ∃ v', RD w' r base (steps ++ [x]) wn aw v' ∧ BB base r w w' := by
  have hread := fun w => readStep_yes s x w hs ho
  have hmay := fun w (h : RD w r base steps wn aw v) => mayFollow_any v steps x w base hn h.own
  rw [hm] at hmay
  obtain ⟨T, y, hx⟩ : ∃ T y, stepV x = .iface T y := ⟨_, _, rfl⟩
  rw [hx] at hread hmay
  obtain ⟨i0, hi, hz0, hz1, hz2⟩ := info_parts Tryd.infoStep
  have H : Hid (RD w r base steps wn aw v) := h
  have HX : Hid (stepV x = .iface T y) := hx
  obtain ⟨a, cap, hv⟩ := h.form
  have hmax : steps.length + 1 ≤ maxLen := by unfold maxLen; omega
  clear ho hx hm h
  subst hv
  go_enter Tryd.func37, Tryd.ntmps37
  go_wp2_with (first | (go_at_call 42; refine (hread _).mono ?_; rintro e w1 ⟨rfl, hb⟩; have c0 := (H.out.below hb).c0) | (go_at_call 43; refine (hmay _ (H.out.below hb)).mono ?_; rintro e w2 ⟨rfl, rfl⟩) | (at_builtin; refine wpList_append_lies _ rfl _ _ 78 rfl base 103 i0 .nilIface 1 16 Tryd.underlying78 hi hz0 hz1 hz2 rfl (by decide) _ _ _ rfl ((H.out.below hb).own.alloc _) _ 1 1 [.iface T y] rfl rfl ?c1 ?c2 (by decide) hmax (by omega) ?c5 _ rfl ?_))
  case c1 => exact cell_one_new _ _ _
  case c2 => intro u hu; simp at hu; subst hu; rfl
  case c5 => have := (H.out.below hb).le; simp; omega
  intro g cap2 w3 hown hgrow _ _
  rw [← HX.out] at hown
  obtain ⟨hRD, hBB, d0, f0⟩ := H.out.appended hb hown hgrow
  clear hown hgrow c0 hread hmay
  have HR : Hid (RD (w3.setCell ⟨r, 0, none⟩ (.slice (some ⟨g, 0, none⟩) (steps.length + 1) cap2)) r base (steps ++ [x]) wn aw (.slice (some ⟨g, 0, none⟩) (steps.length + 1) cap2)) := hRD
  have HB : Hid (BB base r w (w3.setCell ⟨r, 0, none⟩ (.slice (some ⟨g, 0, none⟩) (steps.length + 1) cap2))) := hBB
  clear hRD hBB
  go_wp2
  go_ret
  exact ⟨rfl, _, HR.out, HB.out⟩

/-- What take hands back. -/
def TakePost (w : World) (r base : Nat) (o : Option St) (e : Ending) (w' : World) : Prop :=
  e = .returned (.bool o.isSome) ∧ BB base r w w' ∧ (∀ st, o = some st → ∃ v, RD w' r base st.1 st.2.1 st.2.2 v)

set_option maxHeartbeats 1000000 in
theorem take_any (s : ByteArray) (w : World) (r base : Nat) (steps : List Stp) (wn : Int) (aw : Nat) (v : Value) (hs : s.size ≤ 1000000) (hn : steps.length ≤ 8) (h : RD w r base steps wn aw v) :
    Calls Tryd.prog 34 #[.pointer (some ⟨r, 0, none⟩), .string s] w (TakePost w r base (takeB (steps, wn, aw) s.data.toList)) := by
  have hBB0 := BB.refl base r w
  have ht := toList_data s
  by_cases a0 : aw = 0
  · subst a0
    by_cases hw : s.data.toList = [119, 105, 116, 104, 105, 110]
    · have hq : (s.toList == [119, 105, 116, 104, 105, 110]) = true := by rw [ht, hw]; rfl
      have hcall := takeWithin_any w r base steps wn 0 v hn h
      have c2 : w.cell? ⟨r, 2, none⟩ = some (.int .i64 0) := h.c2
      have hfin : TakePost w r base (takeB (steps, wn, 0) s.data.toList) (.returned (.bool (decide (0 < steps.length)))) (w.setCell ⟨r, 2, none⟩ (.int .i64 1)) := by
        unfold takeB
        rw [if_pos rfl, if_pos hw]
        by_cases hs : steps = []
        · subst hs; exact ⟨rfl, hBB0.setCell 2 _, fun st e => by cases e⟩
        · rw [if_neg hs]
          have hp : 0 < steps.length := List.length_pos_iff.2 hs
          refine ⟨by simp [hp], hBB0.setCell 2 _, fun st e => ?_⟩
          cases e
          exact ⟨v, h.set2 1⟩
      clear h ht hw hBB0
      go_enter Tryd.func34, Tryd.ntmps34
      go_wp2_with (go_at_call 36; refine hcall.mono ?_; rintro e w1 ⟨rfl, rfl⟩)
      go_ret
      exact hfin
    · have hq : (s.toList == [119, 105, 116, 104, 105, 110]) = false := by rw [ht]; exact beq_false_of_ne hw
      have c2 : w.cell? ⟨r, 2, none⟩ = some (.int .i64 0) := h.c2
      have hcall : Calls Tryd.prog 37 #[.pointer (some ⟨r, 0, none⟩), .string s] w fun e w' => ∃ b, e = .returned (.bool b) ∧ TakePost w r base (takeB (steps, wn, 0) s.data.toList) e w' := by
        unfold takeB
        rw [if_pos rfl, if_neg hw]
        cases ho : stepB s.data.toList with
        | none =>
          refine (takeStep_none s w r base steps wn 0 v hs ho).mono ?_
          rintro e w' ⟨rfl, hB⟩
          exact ⟨_, rfl, rfl, BB.of_below (hB.mono h.le) (Nat.le_of_lt h.lt), fun st e => by cases e⟩
        | some x =>
          cases hm : mayB steps x with
          | false =>
            refine (takeStep_not s x w r base steps wn 0 v hs hn ho hm h).mono ?_
            rintro e w' ⟨rfl, hB⟩
            refine ⟨_, rfl, ?_⟩
            simp only [hm]
            exact ⟨rfl, BB.of_below (hB.mono h.le) (Nat.le_of_lt h.lt), fun st e => by cases e⟩
          | true =>
            refine (takeStep_yes s x w r base steps wn 0 v hs hn ho hm h).mono ?_
            rintro e w' ⟨rfl, v', hR, hB⟩
            refine ⟨_, rfl, ?_⟩
            simp only [hm]
            exact ⟨rfl, hB, fun st e => by cases e; exact ⟨v', hR⟩⟩
      clear h ht hw hBB0
      go_enter Tryd.func34, Tryd.ntmps34
      go_wp2_with (go_at_call 37; refine hcall.mono ?_; rintro e w1 ⟨b, rfl, hP⟩)
      go_ret
      exact hP
  · by_cases a1 : aw = 1
    · subst a1
      have c2 : w.cell? ⟨r, 2, none⟩ = some (.int .i64 1) := h.c2
      have hcall := takeNumber_any s w r base steps wn 1 v hs h
      have hfin : TakePost w r base (takeB (steps, wn, 1) s.data.toList) (.returned (.bool (numB 1000 s.data.toList).isSome)) ((w.setCell ⟨r, 1, none⟩ (.int .i64 (num0 (numB 1000 s.data.toList)))).setCell ⟨r, 2, none⟩ (.int .i64 2)) := by
        unfold takeB
        rw [if_neg (by simp), if_pos rfl]
        cases numB 1000 s.data.toList with
        | none => exact ⟨rfl, (hBB0.setCell 1 _).setCell 2 _, fun st e => by cases e⟩
        | some n => exact ⟨rfl, (hBB0.setCell 1 _).setCell 2 _, fun st e => by cases e; exact ⟨v, (h.set1 n).set2 2⟩⟩
      obtain ⟨o, ho⟩ : ∃ o, numB 1000 s.data.toList = o := ⟨_, rfl⟩
      rw [ho] at hcall hfin
      clear h ht a0 hBB0 ho
      go_enter Tryd.func34, Tryd.ntmps34
      go_wp2_with (go_at_call 38; refine hcall.mono ?_; rintro e w1 ⟨rfl, rfl⟩)
      go_ret
      exact hfin
    · have c2 : w.cell? ⟨r, 2, none⟩ = some (.int .i64 aw) := h.c2
      have hfin : TakePost w r base (takeB (steps, wn, aw) s.data.toList) (.returned (.bool false)) w := by
        unfold takeB
        rw [if_neg a0, if_neg a1]
        exact ⟨rfl, hBB0, fun st e => by cases e⟩
      have e0 : ((aw : Int) == 0) = false := by simp; omega
      have e1 : ((aw : Int) == 1) = false := by simp; omega
      clear h ht a0 a1 hBB0
      go_enter Tryd.func34, Tryd.ntmps34
      go_wp2
      go_ret
      exact hfin
end Go.Proofs.YtfgpceejoefkkaaDoor
