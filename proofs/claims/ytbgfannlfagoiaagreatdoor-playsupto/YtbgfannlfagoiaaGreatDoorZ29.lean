import Derived.Test.YtbgfannlfagoiaaGreatDoorZ28
import Derived.Test.YtbgfannlfagoiaaGreatDoorZ07
import Derived.Test.YtbgfannlfagoiaaGreatDoorZ15
namespace Go.Proofs.YtbgfannlfagoiaaGreatDoor
open Go.RowKit Go.Lull
set_option linter.unusedVariables false

theorem Tryz.infoStep : (Tryz.prog.info? 208).map (fun i => (i.zero, i.size, i.bytes)) = some (some .nilIface, 1, 16) := by kernel_rfl


theorem RD.appended {w w1 w2 : World} {r base g cap : Nat} {steps : List Stp} {wn aw : Int} {v : Value} {x : Stp} {o : Obj} (h : RD w r base steps wn aw v) (hb : Below w.heap.size w w1)
  (hown : w2.ownsRow base 208 1 (.slice (some ⟨g, 0, none⟩) (steps.length + 1) cap) (steps.length + 1) (steps.map stepV ++ [stepV x])) (hg : (w1.alloc o).grownBy w2 v.ownBlock) :
  RD (w2.setCell ⟨r, 0, none⟩ (.slice (some ⟨g, 0, none⟩) (steps.length + 1) cap)) r base (steps ++ [x]) wn aw (.slice (some ⟨g, 0, none⟩) (steps.length + 1) cap) ∧ BB base r w (w2.setCell ⟨r, 0, none⟩ (.slice (some ⟨g, 0, none⟩) (steps.length + 1) cap)) ∧
   w2.cell? ⟨r, 0, none⟩ = some v ∧ w2.frozen? ⟨r, 0, none⟩ = false := by
 have h1 := h.below hb
 have hrow : ∀ k, v.ownBlock = some k → base ≤ k := by
  intro k hk
  rcases h.own.2 with ⟨e, _⟩ | ⟨g, cap, cur, e, hg, _⟩
  ·rw [e] at hk; cases hk
  ·rw [e] at hk; cases hk; exact hg
 have hB : Below base w w2 := ((hb.mono h.le).alloc h1.le o).grown hg (by have := h1.le; simp; omega) hrow
 have hblk : w2.heap[r]? = some (.cells #[v, .int .i64 wn, .int .i64 aw] 184 (0, 0)) := by rw [hB.block r h.lt]; exact h.blk
 refine ⟨⟨?_, ?_, h.lt, ?_⟩, ?_, ?_, ?_⟩
 ·rw [heap_setCell_same w2 r 0 _ _ _ hblk]; rfl
 ·have := ownsRow_setCell_below hown (a := ⟨r, 0, none⟩) h.lt (.slice (some ⟨g, 0, none⟩) (steps.length + 1) cap)
  simpa using this
 ·have := hB.size; have := h.le; simp; omega
 ·exact (BB.of_below hB (Nat.le_of_lt h.lt)).setCell 0 _
 ·rw [cell_of_row w2 r 0 _ _ _ hblk]; rfl
 ·exact frozen_of_row w2 r 0 _ _ hblk

set_option maxHeartbeats 400000 in
theorem takeStep_none (s : ByteArray) (w : World) (r base : Nat) (steps : List Stp) (wn aw : Int) (v : Value) (hs : s.size ≤ 1000000) (ho : stepB s.data.toList = none) :
  Calls Tryz.prog 114 #[.pointer (some ⟨r, 0, none⟩), .string s] w fun e w' => e = .returned (.bool false) ∧ Below w.heap.size w w' := by
 have hread := fun w => readStep_no s w hs ho
 clear ho
 go_enter Tryz.func114, Tryz.ntmps114
 go_wp2_with (go_at_call 123; refine (hread _).mono ?_; rintro e w1 ⟨rfl, hb⟩)
 go_ret
 exact ⟨rfl, hb⟩

set_option maxHeartbeats 400000 in
theorem takeStep_not (s : ByteArray) (x : Stp) (w : World) (r base : Nat) (steps : List Stp) (wn aw : Int) (v : Value) (hs : s.size ≤ 1000000) (hn : steps.length ≤ 8) (ho : stepB s.data.toList = some x) (hm : mayB steps x = false) (h : RD w r base steps wn aw v) :
  Calls Tryz.prog 114 #[.pointer (some ⟨r, 0, none⟩), .string s] w fun e w' => e = .returned (.bool false) ∧ Below w.heap.size w w' := by
 have hread := fun w => readStep_yes s x w hs ho
 have hmay := fun w (h : RD w r base steps wn aw v) => mayFollow_any v steps x w base hn h.own
 rw [hm] at hmay
 obtain ⟨T, y, hx⟩ : ∃ T y, stepV x = .iface T y := ⟨_, _, rfl⟩
 rw [hx] at hread hmay
 clear ho hx hm
 have H : Hid (RD w r base steps wn aw v) := h
 clear h
 go_enter Tryz.func114, Tryz.ntmps114
 go_wp2_with (first | (go_at_call 123; refine (hread _).mono ?_; rintro e w1 ⟨rfl, hb⟩; have c0 := (H.out.below hb).c0) | (go_at_call 124; refine (hmay _ (H.out.below hb)).mono ?_; rintro e w2 ⟨rfl, rfl⟩))
 go_ret
 exact ⟨rfl, hb⟩

set_option maxHeartbeats 400000 in
theorem takeStep_yes (s : ByteArray) (x : Stp) (w : World) (r base : Nat) (steps : List Stp) (wn aw : Int) (v : Value) (hs : s.size ≤ 1000000) (hn : steps.length ≤ 8) (ho : stepB s.data.toList = some x) (hm : mayB steps x = true) (h : RD w r base steps wn aw v) :
  Calls Tryz.prog 114 #[.pointer (some ⟨r, 0, none⟩), .string s] w fun e w' => e = .returned (.bool true) ∧ ∃ v', RD w' r base (steps ++ [x]) wn aw v' ∧ BB base r w w' := by
 have hread := fun w => readStep_yes s x w hs ho
 have hmay := fun w (h : RD w r base steps wn aw v) => mayFollow_any v steps x w base hn h.own
 rw [hm] at hmay
 obtain ⟨T, y, hx⟩ : ∃ T y, stepV x = .iface T y := ⟨_, _, rfl⟩
 rw [hx] at hread hmay
 obtain ⟨i0, hi, hz0, hz1, hz2⟩ := info_parts Tryz.infoStep
 have H : Hid (RD w r base steps wn aw v) := h
 have HX : Hid (stepV x = .iface T y) := hx
 obtain ⟨a, cap, hv⟩ := h.form
 have hmax : steps.length + 1 ≤ maxLen := by unfold maxLen; omega
 clear ho hx hm h
 subst hv
 go_enter Tryz.func114, Tryz.ntmps114
 go_wp2_with (first | (go_at_call 123; refine (hread _).mono ?_; rintro e w1 ⟨rfl, hb⟩; have c0 := (H.out.below hb).c0) | (go_at_call 124; refine (hmay _ (H.out.below hb)).mono ?_; rintro e w2 ⟨rfl, rfl⟩) | (at_builtin; refine wpList_append_lies _ rfl _ _ 126 rfl base 208 i0 .nilIface 1 16 Tryz.underlying126 hi hz0 hz1 hz2 rfl (by decide) _ _ _ rfl ((H.out.below hb).own.alloc _) _ 1 1 [.iface T y] rfl rfl ?c1 ?c2 (by decide) hmax (by omega) ?c5 _ rfl ?_))
 case c1 => exact cell_one_new _ _ _
 case c2 => intro u hu; simp at hu; subst hu; rfl
 case c5 => have := (H.out.below hb).le; simp; omega
 intro g cap2 w3 hown hgrow _ _
 rw [← HX.out] at hown
 obtain ⟨hRD, hBB, d0, f0⟩ := H.out.appended hb hown hgrow
 clear hown hgrow c0 hread hmay
 have HR : Hid (RD (w3.setCell ⟨r, 0, none⟩ (.slice (some ⟨g, 0, none⟩) (steps.length + 1) cap2)) r base (steps ++ [x]) wn aw (.slice (some ⟨g, 0, none⟩) (steps.length + 1) cap2)) := hRD
 have HB : Hid (BB base r w (w3.setCell ⟨r, 0, none⟩ (.slice (some ⟨g, 0, none⟩) (steps.length + 1) cap2))) := hBB
 clear hRD hBB
 go_wp2
 go_ret
 exact ⟨rfl, _, HR.out, HB.out⟩

/-- What take hands back. -/
def TakePost (w : World) (r base : Nat) (o : Option St) (e : Ending) (w' : World) : Prop :=
 e = .returned (.bool o.isSome) ∧ BB base r w w' ∧ (∀ st, o = some st → ∃ v, RD w' r base st.1 st.2.1 st.2.2 v)

set_option maxHeartbeats 1000000 in
theorem take_any (s : ByteArray) (w : World) (r base : Nat) (steps : List Stp) (wn : Int) (aw : Nat) (v : Value) (hs : s.size ≤ 1000000) (hn : steps.length ≤ 8) (h : RD w r base steps wn aw v) :
  Calls Tryz.prog 104 #[.pointer (some ⟨r, 0, none⟩), .string s] w (TakePost w r base (takeB (steps, wn, aw) s.data.toList)) := by
 have hBB0 := BB.refl base r w
 have ht := toList_data s
 by_cases a0 : aw = 0
 ·subst a0
  by_cases hw : s.data.toList = [119, 105, 116, 104, 105, 110]
  ·have hq : (s.toList == [119, 105, 116, 104, 105, 110]) = true := by rw [ht, hw]; rfl
   have hcall := takeWithin_any w r base steps wn 0 v hn h
   have c2 : w.cell? ⟨r, 2, none⟩ = some (.int .i64 0) := h.c2
   have hfin : TakePost w r base (takeB (steps, wn, 0) s.data.toList) (.returned (.bool (decide (0 < steps.length)))) (w.setCell ⟨r, 2, none⟩ (.int .i64 1)) := by
    unfold takeB
    rw [if_pos rfl, if_pos hw]
    by_cases hs : steps = []
    ·subst hs; exact ⟨rfl, hBB0.setCell 2 _, fun st e => by cases e⟩
    ·rw [if_neg hs]
     have hp : 0 < steps.length := List.length_pos_iff.2 hs
     refine ⟨by simp [hp], hBB0.setCell 2 _, fun st e => ?_⟩
     cases e
     exact ⟨v, h.set2 1⟩
   clear h ht hw hBB0
   go_enter Tryz.func104, Tryz.ntmps104
   go_wp2_with (go_at_call 113; refine hcall.mono ?_; rintro e w1 ⟨rfl, rfl⟩)
   go_ret
   exact hfin
  ·have hq : (s.toList == [119, 105, 116, 104, 105, 110]) = false := by rw [ht]; exact beq_false_of_ne hw
   have c2 : w.cell? ⟨r, 2, none⟩ = some (.int .i64 0) := h.c2
   have hcall : Calls Tryz.prog 114 #[.pointer (some ⟨r, 0, none⟩), .string s] w fun e w' => ∃ b, e = .returned (.bool b) ∧ TakePost w r base (takeB (steps, wn, 0) s.data.toList) e w' := by
    unfold takeB
    rw [if_pos rfl, if_neg hw]
    cases ho : stepB s.data.toList with
    | none =>
     refine (takeStep_none s w r base steps wn 0 v hs ho).mono ?_
     rintro e w' ⟨rfl, hB⟩
     exact ⟨_, rfl, rfl, BB.of_below (hB.mono h.le) (Nat.le_of_lt h.lt), fun st e => by cases e⟩
    | some x =>
     cases hm : mayB steps x with
     | false =>
      refine (takeStep_not s x w r base steps wn 0 v hs hn ho hm h).mono ?_
      rintro e w' ⟨rfl, hB⟩
      refine ⟨_, rfl, ?_⟩
      simp only [hm]
      exact ⟨rfl, BB.of_below (hB.mono h.le) (Nat.le_of_lt h.lt), fun st e => by cases e⟩
     | true =>
      refine (takeStep_yes s x w r base steps wn 0 v hs hn ho hm h).mono ?_
      rintro e w' ⟨rfl, v', hR, hB⟩
      refine ⟨_, rfl, ?_⟩
      simp only [hm]
      exact ⟨rfl, hB, fun st e => by cases e; exact ⟨v', hR⟩⟩
   clear h ht hw hBB0
   go_enter Tryz.func104, Tryz.ntmps104
   go_wp2_with (go_at_call 114; refine hcall.mono ?_; rintro e w1 ⟨b, rfl, hP⟩)
   go_ret
   exact hP
 ·by_cases a1 : aw = 1
  ·subst a1
   have c2 : w.cell? ⟨r, 2, none⟩ = some (.int .i64 1) := h.c2
   have hcall := takeNumber_any s w r base steps wn 1 v hs h
   have hfin : TakePost w r base (takeB (steps, wn, 1) s.data.toList) (.returned (.bool (numB 1000 s.data.toList).isSome)) ((w.setCell ⟨r, 1, none⟩ (.int .i64 (num0 (numB 1000 s.data.toList)))).setCell ⟨r, 2, none⟩ (.int .i64 2)) := by
    unfold takeB
    rw [if_neg (by simp), if_pos rfl]
    cases numB 1000 s.data.toList with
    | none => exact ⟨rfl, (hBB0.setCell 1 _).setCell 2 _, fun st e => by cases e⟩
    | some n => exact ⟨rfl, (hBB0.setCell 1 _).setCell 2 _, fun st e => by cases e; exact ⟨v, (h.set1 n).set2 2⟩⟩
   obtain ⟨o, ho⟩ : ∃ o, numB 1000 s.data.toList = o := ⟨_, rfl⟩
   rw [ho] at hcall hfin
   clear h ht a0 hBB0 ho
   go_enter Tryz.func104, Tryz.ntmps104
   go_wp2_with (go_at_call 115; refine hcall.mono ?_; rintro e w1 ⟨rfl, rfl⟩)
   go_ret
   exact hfin
  ·have c2 : w.cell? ⟨r, 2, none⟩ = some (.int .i64 aw) := h.c2
   have hfin : TakePost w r base (takeB (steps, wn, aw) s.data.toList) (.returned (.bool false)) w := by
    unfold takeB
    rw [if_neg a0, if_neg a1]
    exact ⟨rfl, hBB0, fun st e => by cases e⟩
   have e0 : ((aw : Int) == 0) = false := by simp; omega
   have e1 : ((aw : Int) == 1) = false := by simp; omega
   clear h ht a0 a1 hBB0
   go_enter Tryz.func104, Tryz.ntmps104
   go_wp2
   go_ret
   exact hfin
end Go.Proofs.YtbgfannlfagoiaaGreatDoor

namespace Go.Proofs.YtbgfannlfagoiaaGreatDoor
open Go.RowKit Go.Lull
set_option linter.unusedVariables false

/-- What Parse hands back. -/
def ParsePost (w : World) (o : Nat ⊕ St) (e : Ending) (w' : World) : Prop :=
 ∃ (a : Option Addr) (n cap : Nat) (wn place : Int) (ok : Bool), e = .returned (.tuple #[.agg #[.slice a n cap, .int .i64 wn], .int .i64 place, .bool ok]) ∧ Below w.heap.size w w' ∧
  (match o with
   | .inl p => place = p ∧ ok = false
   | .inr st => place = 0 ∧ ok = true ∧ n = st.1.length ∧ wn = st.2.1 ∧ w'.ownsRow w.heap.size 208 1 (.slice a n cap) st.1.length (st.1.map stepV))

set_option maxHeartbeats 400000 in
theorem parse_long (s : ByteArray) (w : World) (hs : 100 < s.size) :
  Calls Tryz.prog 85 #[.string s] w (ParsePost w (resB s.data.toList)) := by
 have e : resB s.data.toList = .inl 0 := by unfold resB; rw [if_pos (by simpa using hs)]
 rw [e]
 clear e
 go_enter Tryz.func85, Tryz.ntmps85
 go_wp2
 refine bodyPost_ret (v := .tuple #[.agg #[.slice none 0 0, .int .i64 0], .int .i64 0, .bool false]) (by simp [results, Tryz.results85, go_sem]) rfl ⟨none, 0, 0, 0, 0, false, rfl, ?_, rfl, rfl⟩
 exact (Below.refl _ _).alloc (Nat.le_refl _) _

theorem two_set {w1 : World} {N : Nat} {x y : Value} {T : TypeId} (h : w1.heap[N]? = some (.cells #[x, y] T (0, 0))) (a b : Value) :
  ((w1.setCell ⟨N, 0, none⟩ a).setCell ⟨N, 1, none⟩ b).cell? ⟨N, 0, none⟩ = some a ∧ ((w1.setCell ⟨N, 0, none⟩ a).setCell ⟨N, 1, none⟩ b).cell? ⟨N, 1, none⟩ = some b ∧ Below N w1 ((w1.setCell ⟨N, 0, none⟩ a).setCell ⟨N, 1, none⟩ b) := by
 have h1 : (w1.setCell ⟨N, 0, none⟩ a).heap[N]? = some (.cells #[a, y] T (0, 0)) := by rw [heap_setCell_same w1 N 0 _ _ _ h]; rfl
 have h2 : ((w1.setCell ⟨N, 0, none⟩ a).setCell ⟨N, 1, none⟩ b).heap[N]? = some (.cells #[a, b] T (0, 0)) := by rw [heap_setCell_same _ N 1 _ _ _ h1]; rfl
 refine ⟨?_, ?_, ((Below.refl N w1).setCell (p := ⟨N, 0, none⟩) (Nat.le_refl _) a).setCell (p := ⟨N, 1, none⟩) (Nat.le_refl _) b⟩
 ·rw [cell_of_row _ N 0 _ _ _ h2]; rfl
 ·rw [cell_of_row _ N 1 _ _ _ h2]; rfl

theorem words_split (s : ByteArray) : (Lib.splitB ⟨#[32]⟩ 0 (Lib.countB s ⟨#[32]⟩) s).map (·.data.toList) = words s.data.toList := by
 rw [Lib.splitB_data]; rfl

set_option maxHeartbeats 400000 in
theorem parse_short (s : ByteArray) (m : Int) (w : World) (hs : s.size ≤ 100) (hm : w.cell? ⟨0, 0, none⟩ = some (.int .i64 m)) :
  Calls Tryz.prog 85 #[.string s] w (ParsePost w (resB s.data.toList)) := by
 obtain ⟨ws, hws⟩ : ∃ ws, Lib.splitB ⟨#[32]⟩ 0 (Lib.countB s ⟨#[32]⟩) s = ws := ⟨_, rfl⟩
 have hlen : Lib.countB s ⟨#[32]⟩ + 1 = ws.length := by rw [← hws]; exact (Lib.splitB_all ⟨#[32]⟩ (by decide) 0 _ s rfl).symm
 have hle : ws.length ≤ 101 := by have := Lib.countB_le ⟨#[32]⟩ (by decide) s.size s (Nat.le_refl _); omega
 have hsplit : ∀ w : World, w.cell? ⟨0, 0, none⟩ = some (.int .i64 m) → Calls Tryz.prog 103 #[.string s, .string ⟨#[32]⟩] w fun e w' => e = .returned (.slice (some ⟨w.heap.size, 0, none⟩) ws.length ws.length) ∧ w' = w.alloc (.cells (ws.map Value.string).toArray 9) := by
  intro w hm
  have h := Go.Proofs.Tryz.strings_Split s ⟨#[32]⟩ m w (by omega) hm (by decide)
  rw [hws, hlen] at h
  exact h
 have hwords : ws.map (·.data.toList) = words s.data.toList := by rw [← hws]; exact words_split s
 have hb := block_lt_of_cell hm
 have hwsz : ∀ k, (hk : k < ws.length) → ws[k].size ≤ 100 := by
  intro k hk
  have h1 : ws[k].data.toList ∈ words s.data.toList := by rw [← hwords]; exact List.mem_map.2 ⟨ws[k], List.getElem_mem hk, rfl⟩
  have h2 := words_le _ _ (Nat.le_refl _) _ h1
  have h3 : ws[k].data.toList.length = ws[k].size := by simp
  have h4 : s.data.toList.length = s.size := by simp
  omega
 clear hws hlen
 obtain ⟨N, hN⟩ : ∃ N, w.heap.size = N := ⟨_, rfl⟩
 obtain ⟨w0, hw0⟩ : ∃ w0, ((w.alloc (.cells #[.slice none 0 0, .int .i64 0] 128)).alloc (.cells #[.slice none 0 0, .int .i64 0, .int .i64 0] 184)).alloc (.cells (ws.map Value.string).toArray 9) = w0 := ⟨_, rfl⟩
 have hz : w0.heap.size = N + 3 := by rw [← hw0]; simp [hN]
 have hB0 : Below N w w0 := by
  rw [← hw0, ← hN]
  exact (((Below.refl _ _).alloc (Nat.le_refl _) _).alloc (by simp) _).alloc (by simp; omega) _
 have hR0 : w0.heap[N]? = some (.cells #[.slice none 0 0, .int .i64 0] 128 (0, 0)) := by
  rw [← hw0, ← hN, Below.heap_alloc _ _ _ (by simp; omega), Below.heap_alloc _ _ _ (by simp), heap_alloc_new]
 have hRD0 : RD w0 (N + 1) (N + 3) [] 0 0 (.slice none 0 0) := by
  refine ⟨?_, World.ownsRow_nil _ _ _ _, by omega, by omega⟩
  rw [← hw0, ← hN, Below.heap_alloc _ _ _ (by simp)]
  have := heap_alloc_new (w.alloc (.cells #[.slice none 0 0, .int .i64 0] 128)) (.cells #[.slice none 0 0, .int .i64 0, .int .i64 0] 184)
  simpa using this
 have hW0 : w0.heap[N + 2]? = some (.cells (ws.map Value.string).toArray 9 (0, 0)) := by
  rw [← hw0, ← hN]
  have := heap_alloc_new ((w.alloc (.cells #[.slice none 0 0, .int .i64 0] 128)).alloc (.cells #[.slice none 0 0, .int .i64 0, .int .i64 0] 184)) (.cells (ws.map Value.string).toArray 9)
  simpa using this
 have hres : ∀ (wr : World), BB (N + 3) (N + 1) w0 wr → wr.heap[N]? = some (.cells #[.slice none 0 0, .int .i64 0] 128 (0, 0)) := fun wr h => (h.low.block N (by omega)).trans hR0
 have hlow : ∀ (wr : World), BB (N + 3) (N + 1) w0 wr → Below N w wr := fun wr h => hB0.trans (h.low.mono (by omega))
 have HW : Hid (((w.alloc (.cells #[.slice none 0 0, .int .i64 0] 128)).alloc (.cells #[.slice none 0 0, .int .i64 0, .int .i64 0] 184)).alloc (.cells (ws.map Value.string).toArray 9) = w0) := hw0
 clear hw0
 have HN : Hid (w.heap.size = N) := hN
 clear hN
 go_enter Tryz.func85, Tryz.ntmps85
 go_wp2_with (go_at_call 103; refine (hsplit _ (alloc_keep _ (alloc_keep _ hm))).mono ?_; rintro e w1 ⟨rfl, rfl⟩)
 rw [HW.out]
 simp only [HN.out]
 go_loopw [3, 15] (fun p i wr => ∃ (k P : Nat) (steps : List Stp) (wn : Int) (aw : Nat) (v : Value), k ≤ ws.length ∧ P ≤ 101 * k ∧ p = .int .i64 P ∧ i = .int .i64 k ∧ RD wr (N + 1) (N + 3) steps wn aw v ∧ BB (N + 3) (N + 1) w0 wr ∧ steps.length ≤ 8 ∧ Hid (runW ([], 0, 0) 0 (words s.data.toList) = runW (steps, wn, aw) P ((ws.map (·.data.toList)).drop k))) (fun _ i _ => ws.length - (intOf i).toNat)
 case atStart => exact ⟨0, 0, [], 0, 0, _, Nat.zero_le _, Nat.zero_le _, rfl, rfl, hRD0, BB.refl _ _ _, by simp, by rw [List.drop_zero, hwords]; exact rfl⟩
 case round =>
  obtain ⟨k, P, steps, wn, aw, v, hk, hP, rfl, rfl, hRD, hBB, hn8, HE⟩ := hrel
  by_cases hlt : k < ws.length
  ·obtain ⟨t, ht⟩ : ∃ t, ws[k] = t := ⟨_, rfl⟩
   have htz : t.size ≤ 100 := ht ▸ hwsz k hlt
   have hc : wr.cell? ⟨N + 1 + 1, k, none⟩ = some (.string t) := by
    rw [hBB.cell (p := ⟨N + 1 + 1, k, none⟩) (by simp) (by simp), cell_of_row w0 (N + 2) k _ _ _ hW0]
    simp [hlt, ht]
   have hdrop : (ws.map (·.data.toList)).drop k = t.data.toList :: (ws.map (·.data.toList)).drop (k + 1) := by
    rw [List.drop_eq_getElem_cons (by simpa using hlt)]; simp [ht]
   have htake := take_any t wr (N + 1) (N + 3) steps wn aw v (by omega) hn8 hRD
   have HE2 : Hid (runW ([], 0, 0) 0 (words s.data.toList) = match takeB (steps, wn, aw) t.data.toList with | none => .inl P | some st' => runW st' (P + t.data.toList.length + 1) ((ws.map (·.data.toList)).drop (k + 1))) := by
    have := HE.out; rw [hdrop] at this; exact this
   have hlen8 := fun st' (h : takeB (steps, wn, aw) t.data.toList = some st') => takeB_len h hn8
   have hmono := fun wr' (h : BB (N + 3) (N + 1) wr wr') => hBB.trans h
   clear hdrop ht HE hRD hBB
   cases ho : takeB (steps, wn, aw) t.data.toList with
   | none =>
    rw [ho] at htake HE2
    have hend : Hid (resB s.data.toList = .inl P) := by
     unfold Hid resB; rw [if_neg (by simpa using hs), HE2.out]
    clear HE2 ho hlen8
    go_wp2_with (go_at_call 104; refine htake.mono ?_; rintro e w1 ⟨rfl, hB1, _⟩; have r0 := cell_of_row w1 N 0 _ _ _ (hres w1 (hmono w1 hB1)); have r1 := cell_of_row w1 N 1 _ _ _ (hres w1 (hmono w1 hB1)); have g0 := frozen_of_row w1 N 0 _ _ (hres w1 (hmono w1 hB1)); have g1 := frozen_of_row w1 N 1 _ _ (hres w1 (hmono w1 hB1)); simp at r0 r1)
    obtain ⟨q0, q1, q2⟩ := two_set (hres w1 (hmono w1 hB1)) (.slice none 0 0) (.int .i64 0)
    refine bodyPost_ret (v := .tuple #[.agg #[.slice none 0 0, .int .i64 0], .int .i64 P, .bool false]) (by simp [results, Tryz.results85, go_sem, q0, q1]) rfl ⟨none, 0, 0, 0, P, false, rfl, ?_, ?_⟩
    ·rw [HN.out]; exact (hlow w1 (hmono w1 hB1)).trans q2
    ·rw [hend.out]; exact ⟨rfl, rfl⟩
   | some st' =>
    rw [ho] at htake HE2
    have hl8 := hlen8 st' ho
    have hlt2 : t.data.toList.length = t.size := by simp
    rw [hlt2] at HE2
    clear ho hlen8 hlt2
    have hcall : Calls Tryz.prog 104 #[.pointer (some ⟨N + 1, 0, none⟩), .string t] wr fun e w' => e = .returned (.bool true) ∧ BB (N + 3) (N + 1) wr w' ∧ ∃ v, RD w' (N + 1) (N + 3) st'.1 st'.2.1 st'.2.2 v := by
     refine htake.mono ?_
     rintro e w' ⟨rfl, hB, hR⟩
     exact ⟨rfl, hB, hR st' rfl⟩
    clear htake
    go_wp2_with (go_at_call 104; refine hcall.mono ?_; rintro e w1 ⟨rfl, hB1, v1, hR1⟩)
    go_roundw
    case rel => exact ⟨k + 1, P + t.size + 1, st'.1, st'.2.1, st'.2.2, v1, by omega, by omega, by go_num, by go_num, hR1, hmono w1 hB1, hl8, HE2⟩
    case measure => simp [intOf]; omega
  ·have hk2 : (ws.map (·.data.toList)).drop k = [] := List.drop_of_length_le (by simp; omega)
   have hrun : runW ([], 0, 0) 0 (words s.data.toList) = .inr (steps, wn, aw) := by rw [HE.out, hk2]; rfl
   have c2 := hRD.c2
   have r0 := cell_of_row wr N 0 _ _ _ (hres wr hBB)
   have r1 := cell_of_row wr N 1 _ _ _ (hres wr hBB)
   have g0 := frozen_of_row wr N 0 _ _ (hres wr hBB)
   have g1 := frozen_of_row wr N 1 _ _ (hres wr hBB)
   simp at r0 r1
   by_cases ha : aw = 2
   ·subst ha
    have hend : Hid (resB s.data.toList = .inr (steps, wn, 2)) := by
     unfold Hid resB; rw [if_neg (by simpa using hs), hrun]; rfl
    obtain ⟨a, cap, hv⟩ := hRD.form
    subst hv
    have c0 := hRD.c0
    have c1 := hRD.c1
    have hown := hRD.own
    have HO : Hid (wr.ownsRow (N + 3) 208 1 (.slice a steps.length cap) steps.length (steps.map stepV)) := hown
    clear hk2 hrun HE hRD hown
    go_wp2
    obtain ⟨q0, q1, q2⟩ := two_set (hres wr hBB) (.slice a steps.length cap) (.int .i64 wn)
    refine bodyPost_ret (v := .tuple #[.agg #[.slice a steps.length cap, .int .i64 wn], .int .i64 0, .bool true]) (by simp [results, Tryz.results85, go_sem, q0, q1]) rfl ⟨a, steps.length, cap, wn, 0, true, rfl, ?_, ?_⟩
    ·rw [HN.out]; exact (hlow wr hBB).trans q2
    ·rw [hend.out]
     refine ⟨rfl, rfl, rfl, rfl, ?_⟩
     rw [HN.out]
     have h1 := ownsRow_setCell_below HO.out (a := ⟨N, 0, none⟩) (by simp) (.slice a steps.length cap)
     have h2 := ownsRow_setCell_below h1 (a := ⟨N, 1, none⟩) (by simp) (.int .i64 wn)
     exact ⟨h2.1, h2.2.imp id (fun ⟨g, cap, cur, e1, e2, e3⟩ => ⟨g, cap, cur, e1, by omega, e3⟩)⟩
   ·have hend : Hid (resB s.data.toList = .inl s.size) := by
     unfold Hid resB; rw [if_neg (by simpa using hs), hrun]
     simp [ha]
    have hq : ((aw : Int) == 2) = false := by simp; omega
    clear hk2 hrun HE hRD
    go_wp2
    obtain ⟨q0, q1, q2⟩ := two_set (hres wr hBB) (.slice none 0 0) (.int .i64 0)
    refine bodyPost_ret (v := .tuple #[.agg #[.slice none 0 0, .int .i64 0], .int .i64 s.size, .bool false]) (by simp [results, Tryz.results85, go_sem, q0, q1]) rfl ⟨none, 0, 0, 0, s.size, false, rfl, ?_, ?_⟩
    ·rw [HN.out]; exact (hlow wr hBB).trans q2
    ·rw [hend.out]; exact ⟨rfl, rfl⟩

theorem parse_any (s : ByteArray) (m : Int) (w : World) (hm : w.cell? ⟨0, 0, none⟩ = some (.int .i64 m)) :
  Calls Tryz.prog 85 #[.string s] w (ParsePost w (resB s.data.toList)) := by
 by_cases h : 100 < s.size
 ·exact parse_long s w h
 ·exact parse_short s m w (by omega) hm
end Go.Proofs.YtbgfannlfagoiaaGreatDoor

namespace Go.Proofs.YtbgfannlfagoiaaGreatDoor
open Go.RowKit Go.Lull
set_option linter.unusedVariables false

/-- The place in the first text that is no pattern. -/
def badB : List (List UInt8) → Option Nat
 | [] => none
 | l :: r => match resB l with | .inl p => some p | .inr _ => badB r
theorem badB_bad {l : List UInt8} {r : List (List UInt8)} {p : Nat} (h : resB l = .inl p) : badB (l :: r) = some p := by simp [badB, h]
theorem badB_good {l : List UInt8} {r : List (List UInt8)} {st : St} (h : resB l = .inr st) : badB (l :: r) = badB r := by simp [badB, h]

abbrev Pat := Option Addr × Nat × Nat × Int
def patC (p : Pat) : List Value := [.slice p.1 p.2.1 p.2.2.1, .int .i64 p.2.2.2]
theorem patC_len (l : List Pat) : (l.flatMap patC).length = l.length * 2 := by
 induction l with
 | nil => rfl
 | cons x l ih => simp [List.flatMap_cons, patC, ih]; omega
theorem patC_one (x : Pat) : ∀ u ∈ patC x, u.oneCell' = true := by
 intro u hu
 simp [patC] at hu
 rcases hu with rfl | rfl <;> rfl
theorem patC_at (w : World) (x : Pat) (T n : Nat) (hn : n = w.heap.size) : ∀ j u, (patC x)[j]? = some u → (w.alloc (.cells #[.slice x.1 x.2.1 x.2.2.1, .int .i64 x.2.2.2] T)).cell? ((⟨n, 0, none⟩ : Addr).add j) = some u := by
 intro j u h
 subst hn
 match j, h with
 | 0, h => simp [patC] at h; subst h; simp [Addr.add]
 | 1, h => simp [patC] at h; subst h; simp [Addr.add]
 | j + 2, h => simp [patC] at h

theorem parse_bad (s : ByteArray) (m : Int) (w : World) (p : Nat) (hm : w.cell? ⟨0, 0, none⟩ = some (.int .i64 m)) (h : resB s.data.toList = .inl p) :
  Calls Tryz.prog 85 #[.string s] w fun e w' => ∃ a n cap wn, e = .returned (.tuple #[.agg #[.slice a n cap, .int .i64 wn], .int .i64 p, .bool false]) ∧ Below w.heap.size w w' := by
 have hc := parse_any s m w hm
 rw [h] at hc
 refine hc.mono ?_
 rintro e w' ⟨a, n, cap, wn, place, ok, rfl, hB, rfl, rfl⟩
 exact ⟨a, n, cap, wn, rfl, hB⟩
theorem parse_good (s : ByteArray) (m : Int) (w : World) (st : St) (hm : w.cell? ⟨0, 0, none⟩ = some (.int .i64 m)) (h : resB s.data.toList = .inr st) :
  Calls Tryz.prog 85 #[.string s] w fun e w' => ∃ a n cap wn, e = .returned (.tuple #[.agg #[.slice a n cap, .int .i64 wn], .int .i64 0, .bool true]) ∧ Below w.heap.size w w' := by
 have hc := parse_any s m w hm
 rw [h] at hc
 refine hc.mono ?_
 rintro e w' ⟨a, n, cap, wn, place, ok, rfl, hB, rfl, rfl, _⟩
 exact ⟨a, n, cap, wn, rfl, hB⟩

theorem Tryz.infoPat : (Tryz.prog.info? 128).map (fun i => (i.zero, i.size, i.bytes)) = some (some (.agg #[.slice none 0 0, .int .i64 0]), 2, 32) := by kernel_rfl

/-- append of one pattern. -/
theorem append_pat (w : World) {ops : Array Oper} {rest : List Oper} {o : Oper} {a : Act} {Q : Exit → Act → World → Prop} (hgd : o.guard = none) (s x : Operand)
  (ho : o.op = .call { callee := .builtin .append, args := #[s, x], argTypes := #[84, 84] })
  (base : Nat) (v : Value) (n : Nat) (xs : List Value) (hs : a.eval s = v) (hown : w.ownsRow base 128 2 v n xs)
  (ad : Addr) (news : List Value) (hx : a.eval x = .slice (some ad) 1 1) (hl : news.length = 1 * 2) (hnews : ∀ j u, news[j]? = some u → w.cell? (ad.add j) = some u) (h1 : ∀ u ∈ news, u.oneCell' = true)
  (hn : n ≤ 1048576) (hbase : base ≤ w.heap.size)
  (h : ∀ g cap w', w'.ownsRow base 128 2 (.slice (some ⟨g, 0, none⟩) (n + 1) cap) (n + 1) (xs ++ news) → w.grownBy w' v.ownBlock → wpList Tryz.prog ops Q rest (a.put o.dst (.slice (some ⟨g, 0, none⟩) (n + 1) cap)) w') :
  wpList Tryz.prog ops Q (o :: rest) a w := by
 obtain ⟨i0, hi, hz0, hz1, hz2⟩ := info_parts Tryz.infoPat
 exact wpList_append_lies w hgd s x 84 ho base 128 i0 _ 2 32 Tryz.underlying84 hi hz0 hz1 hz2 rfl (by decide) v n xs hs hown ad 1 1 news hx hl hnews h1 (by decide) (by unfold maxLen; omega) (by omega) hbase _ rfl
  (fun g cap w' h2 h3 _ _ => h g cap w' h2 h3)


/-- What parseAll hands back. -/
def AllPost (w : World) (ls : List (List UInt8)) (e : Ending) (w' : World) : Prop :=
 Below w.heap.size w w' ∧ (match badB ls with
  | some p => e = .returned (.tuple #[.slice none 0 0, .int .i64 p, .bool false])
  | none => ∃ (a : Option Addr) (cap : Nat) (pats : List Pat), pats.length = ls.length ∧ e = .returned (.tuple #[.slice a ls.length cap, .int .i64 0, .bool true]) ∧ w'.ownsRow w.heap.size 128 2 (.slice a ls.length cap) ls.length (pats.flatMap patC))

/-- A list of texts that came in. -/
structure TX (w : World) (ad : Option Addr) (b off : Nat) (ss : List ByteArray) : Prop where
 at_ : ss ≠ [] → ad = some ⟨b, off, none⟩
 lt : ss ≠ [] → b < w.heap.size
 cell : ∀ k, (h : k < ss.length) → w.cell? ⟨b, off + k, none⟩ = some (.string ss[k])

set_option maxHeartbeats 1000000 in
theorem parseAll_any (w : World) (ad : Option Addr) (b off cap : Nat) (ss : List ByteArray) (m : Int) (hm : w.cell? ⟨0, 0, none⟩ = some (.int .i64 m)) (h : TX w ad b off ss) (hlen : ss.length ≤ 1048576) (hcap : ss.length ≤ cap) :
  Calls Tryz.prog 58 #[.slice ad ss.length cap] w (AllPost w (ss.map (·.data.toList))) := by
 have hz : 0 < w.heap.size := block_lt_of_cell hm
 obtain ⟨B, hB0⟩ : ∃ B, badB (ss.map (·.data.toList)) = B := ⟨_, rfl⟩
 have hst : Hid (B = badB ((ss.map (·.data.toList)).drop 0)) := hB0.symm
 have hfin : ∀ e w', AllPost w (ss.map (·.data.toList)) e w' ↔ (Below w.heap.size w w' ∧ (match B with
  | some p => e = .returned (.tuple #[.slice none 0 0, .int .i64 p, .bool false])
  | none => ∃ (a : Option Addr) (cap : Nat) (pats : List Pat), pats.length = ss.length ∧ e = .returned (.tuple #[.slice a ss.length cap, .int .i64 0, .bool true]) ∧ w'.ownsRow w.heap.size 128 2 (.slice a ss.length cap) ss.length (pats.flatMap patC))) := by
  intro e w'
  unfold AllPost
  rw [hB0]
  simp only [List.length_map]
 have HF := Hid.mk' hfin
 clear hfin hB0
 have HX : Hid (TX w ad b off ss) := h
 have HM : Hid (w.cell? ⟨0, 0, none⟩ = some (.int .i64 m)) := hm
 clear h hm
 go_enter Tryz.func58, Tryz.ntmps58
 go_wp2
 go_loopw [5, 13] (fun v i wr => ∃ (k : Nat) (pats : List Pat), k ≤ ss.length ∧ i = .int .i64 k ∧ wr.ownsRow w.heap.size 128 2 v k (pats.flatMap patC) ∧ pats.length = k ∧ Below w.heap.size w wr ∧ Hid (B = badB ((ss.map (·.data.toList)).drop k))) (fun _ i _ => ss.length - (intOf i).toNat)
 case atStart => exact ⟨0, [], Nat.zero_le _, rfl, World.ownsRow_nil _ _ _ _, rfl, Below.refl _ _, hst⟩
 case round =>
  obtain ⟨k, pats, hk, rfl, hown, hpl, hB, HE⟩ := hrel
  have HO := Hid.mk' hown
  have HP := Hid.mk' hpl
  clear hown hpl
  by_cases hlt : k < ss.length
  ·have hne : ss ≠ [] := fun e => by rw [e] at hlt; cases hlt
   obtain rfl := HX.out.at_ hne
   obtain ⟨t, ht⟩ : ∃ t, ss[k] = t := ⟨_, rfl⟩
   have hc : wr.cell? ⟨b, off + k, none⟩ = some (.string t) := by
    rw [hB.cell (p := ⟨b, off + k, none⟩) (HX.out.lt hne), HX.out.cell k hlt, ht]
   have hm' : wr.cell? ⟨0, 0, none⟩ = some (.int .i64 m) := (hB.cell (p := ⟨0, 0, none⟩) hz).trans HM.out
   have HE2 : Hid (B = badB (t.data.toList :: (ss.map (·.data.toList)).drop (k + 1))) := by
    have := HE.out
    rw [List.drop_eq_getElem_cons (by simpa using hlt)] at this
    exact Hid.mk' (by simpa [ht] using this)
   clear HE ht hne
   have hsz := hB.size
   cases ho : resB t.data.toList with
   | inl p =>
    have hcall := parse_bad t m wr p hm' ho
    have hBp : Hid (B = some p) := by unfold Hid; rw [HE2.out, badB_bad ho]
    clear HE2 ho hm'
    go_wp2_with (go_at_call 85; refine hcall.mono ?_; rintro e w1 ⟨a, n, cp, wn, rfl, hb⟩)
    go_ret3
    rw [HF.out, hBp.out]
    exact ⟨(hB.trans (hb.mono hsz)).alloc (by have := hb.size; omega) _, rfl⟩
   | inr st =>
    have hcall := parse_good t m wr st hm' ho
    have HE3 : Hid (B = badB ((ss.map (·.data.toList)).drop (k + 1))) := by unfold Hid; rw [HE2.out, badB_good ho]
    clear HE2 ho hm'
    go_wp2_with (first | (go_at_call 85; refine hcall.mono ?_; rintro e w1 ⟨a, n, cp, wn, rfl, hb⟩) | (at_builtin; refine append_pat _ rfl _ _ rfl w.heap.size _ _ _ rfl (((own_below HO.out hb).alloc _).alloc _) _ (patC (a, n, cp, wn)) rfl rfl (patC_at _ (a, n, cp, wn) _ _ (by simp)) (patC_one _) (by omega) (by have := hb.size; simp; omega) ?_))
    intro g2 cap2 w3 hown hgrow
    have hB3 : Below w.heap.size w w3 := (((hB.trans (hb.mono hsz)).alloc (by have := hb.size; omega) _).alloc (by have := hb.size; simp; omega) _).grown hgrow (by have := hb.size; simp; omega) (own_row HO.out)
    have HB3 := Hid.mk' hB3
    have HO3 := Hid.mk' hown
    clear hB3 hown hgrow hcall hb hc
    go_wp2
    go_roundw
    case rel => exact ⟨k + 1, pats ++ [(a, n, cp, wn)], by omega, by go_num, by simpa [List.flatMap_append] using HO3.out, by simp [HP.out], HB3.out, HE3⟩
    case measure => simp [intOf]; omega
  ·have hk2 : k = ss.length := by omega
   have hBn : Hid (B = none) := by unfold Hid; rw [HE.out, List.drop_of_length_le (by simp; omega)]; rfl
   have hv : ∃ a cp, u5 = .slice a k cp := by
    rcases HO.out.2 with ⟨h, h0⟩ | ⟨g, cp, cur, h, _⟩
    ·exact ⟨_, _, h0 ▸ h⟩
    ·exact ⟨_, _, h⟩
   obtain ⟨a, cp, hv⟩ := hv
   subst hv
   clear HE
   go_wp2
   go_ret3
   rw [HF.out, hBn.out]
   subst hk2
   exact ⟨hB, a, cp, pats, HP.out, rfl, HO.out⟩
end Go.Proofs.YtbgfannlfagoiaaGreatDoor
