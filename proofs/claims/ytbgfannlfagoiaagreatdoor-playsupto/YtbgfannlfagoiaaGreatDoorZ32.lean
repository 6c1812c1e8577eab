import Derived.Test.YtbgfannlfagoiaaGreatDoorZ31
import Derived.Test.YtbgfannlfagoiaaGreatDoorZ15
import Derived.Test.YtbgfannlfagoiaaGreatDoorZ13
import Derived.Test.YtbgfannlfagoiaaGreatDoorZ02
import Derived.Test.YtbgfannlfagoiaaGreatDoorZ14
import Derived.Test.YtbgfannlfagoiaaGreatDoorZ17
namespace Go.Proofs.YtbgfannlfagoiaaGreatDoor
open Go.RowKit Go.Lull
set_option linter.unusedVariables false

/-- What Register leaves. -/
def RegPost (w : World) (eb : Nat) (c : CE) (ts : List (List UInt8)) (e : Ending) (w' : World) : Prop :=
 ∃ v c', e = .returned (.tuple #[v, .int .i64 (regE c.abs ts).1, .int .i64 (regE c.abs ts).2.1]) ∧ EG w' eb c' ∧ c'.abs = (regE c.abs ts).2.2.2 ∧ Ext w (c.blocks eb) w' (c'.blocks eb) ∧
  Row w' 3 1 v (regE c.abs ts).2.2.1 (numsV c.next (regE c.abs ts).2.2.1) ∧ (∀ b, v.ownBlock = some b → w.heap.size ≤ b ∧ b ∉ c'.blocks eb)

theorem reg_bad {s : En} {ts : List (List UInt8)} {p : Nat} (h : resAll ts = .inl p) : regE s ts = (2, p, 0, s) := by simp [regE, h]
theorem reg_many {s : En} {ts : List (List UInt8)} {ps : List St} (h : resAll ts = .inr ps) (h2 : 10 < s.qs.length + ps.length) : regE s ts = (3, 0, 0, s) := by simp [regE, h, h2]
theorem reg_ok {s : En} {ts : List (List UInt8)} {ps : List St} (h : resAll ts = .inr ps) (h2 : ¬ 10 < s.qs.length + ps.length) : regE s ts = (0, 0, ps.length, { s with qs := s.qs ++ newQs s.next ps, next := s.next + ps.length }) := by simp [regE, h, h2]

theorem steps_cap {w : World} {base : Nat} {x : PT} (h : ownSteps w base x) (hne : x.2.2.1 ≠ []) : x.2.2.1.length ≤ x.2.1 := by
 have hp := List.length_pos_iff.2 hne
 rcases h.2 with ⟨_, h0⟩ | ⟨g, cp, cur, h1, _, _, h4, _⟩
 ·omega
 ·obtain ⟨_, _, rfl⟩ := Value.slice.inj h1
  exact h4

set_option maxHeartbeats 1000000 in
theorem register_eg (w : World) (eb : Nat) (c : CE) (ad : Option Addr) (b off cap : Nat) (ss : List ByteArray) (m : Int) (h : EG w eb c) (hm : w.cell? ⟨0, 0, none⟩ = some (.int .i64 m)) (hX : TX w ad b off ss) (hlen : ss.length ≤ 1048576) (hcap : ss.length ≤ cap) (hnx : c.next ≤ 1000000000) :
  Calls Tryz.prog 29 #[.pointer (some ⟨eb, 0, none⟩), .slice ad ss.length cap] w (RegPost w eb c (ss.map (·.data.toList))) := by
 have hmade := made_yes eb w h.self
 have hall := parseAll_all w ad b off cap ss m hm hX hlen hcap
 have hez := lt_of_block h.blk
 have HL : (ss.map (·.data.toList)).length = ss.length := by simp
 obtain ⟨qa, qc, hqv, _⟩ := h.qrow.form
 have hcell : Hid (∀ W, Below w.heap.size w W → W.cell? ⟨eb, 3, none⟩ = some (.slice qa c.qs.length qc)) := by
  intro W hb
  rw [cell_of_row _ eb 3 _ _ _ (h.below hb).blk]; simp [eCells, hqv]
 have hq10 := h.q10
 have hsame : Hid (∀ (W : World) (x y : Nat), regE c.abs (ss.map (·.data.toList)) = (x, y, 0, c.abs) → Below w.heap.size w W → RegPost w eb c (ss.map (·.data.toList)) (.returned (.tuple #[.slice none 0 0, .int .i64 x, .int .i64 y])) W) := by
  intro W x y hR hb
  unfold RegPost
  rw [hR]
  exact ⟨_, c, rfl, h.below hb, rfl, Ext.below hb, ⟨rfl, Or.inl ⟨rfl, rfl⟩⟩, fun b hb => by cases hb⟩
 cases hB : resAll (ss.map (·.data.toList)) with
 | inl p =>
  have hR := reg_bad (s := c.abs) hB
  have hcall : Calls Tryz.prog 58 #[.slice ad ss.length cap] w fun e w' => e = .returned (.tuple #[.slice none 0 0, .int .i64 p, .bool false]) ∧ Below w.heap.size w w' := by
   refine hall.mono ?_
   rintro e w' ⟨h1, h2⟩
   rw [hB] at h2
   exact ⟨h2, h1⟩
  have hfin := Hid.mk' (fun W hb => hsame.out W 2 p hR hb)
  clear hall hB HL h hm hX hR hsame
  go_enter Tryz.func29, Tryz.ntmps29
  go_wp2_with (first | (go_at_call 39; refine hmade.mono ?_; rintro e w' ⟨rfl, rfl⟩) | (go_at_call 58; refine hcall.mono ?_; rintro e w1 ⟨rfl, hb⟩))
  go_ret3
  exact hfin.out _ hb
 | inr sts =>
  have hsl : sts.length = ss.length := by rw [resAll_len hB, HL]
  have hcall : Calls Tryz.prog 58 #[.slice ad ss.length cap] w fun e w' => ∃ (a : Option Addr) (cap : Nat) (P : List PT), e = .returned (.tuple #[.slice a ss.length cap, .int .i64 0, .bool true]) ∧ Below w.heap.size w w' ∧ Hid (P.map (·.2.2) = sts ∧ PA w' w.heap.size (.slice a ss.length cap) P) := by
   refine hall.mono ?_
   rintro e w' ⟨h1, h2⟩
   rw [hB, HL] at h2
   obtain ⟨a, cp, P, h3, h4, h5⟩ := h2
   exact ⟨a, cp, P, h4, h1, h3, h5⟩
  clear hall
  by_cases h10 : 10 < c.qs.length + ss.length
  ·have hR := reg_many (s := c.abs) hB (by rw [hsl]; simpa [CE.abs] using h10)
   have hfin := Hid.mk' (fun W hb => hsame.out W 3 0 hR hb)
   clear hB HL h hm hX hR hsame hsl
   go_enter Tryz.func29, Tryz.ntmps29
   go_wp2_with (first | (go_at_call 39; refine hmade.mono ?_; rintro e w' ⟨rfl, rfl⟩) | (go_at_call 58; refine hcall.mono ?_; rintro e w1 ⟨a, cp, P, rfl, hb, hP⟩; have c3 := hcell.out w1 hb))
   go_ret3
   exact hfin.out _ hb
  ·have hR := reg_ok (s := c.abs) hB (by rw [hsl]; simpa [CE.abs] using h10)
   have hsok := resAll_ok hB
   have hadd : Hid (∀ (w1 : World) (a : Option Addr) (cp : Nat) (P : List PT), (P.map (·.2.2) = sts ∧ PA w1 w.heap.size (.slice a ss.length cp) P) → Below w.heap.size w w1 → Calls Tryz.prog 59 #[.pointer (some ⟨eb, 0, none⟩), .slice a ss.length cp] w1 fun e w2 => ∃ v, e = .returned v ∧ Hid (RegPost w eb c (ss.map (·.data.toList)) (.returned (.tuple #[v, .int .i64 0, .int .i64 0])) w2)) := by
    rintro w1 a cp P ⟨hPs, hP⟩ hb
    have hPl : P.length = ss.length := by rw [← hsl, ← hPs]; simp
    have hE := h.below hb
    by_cases h0 : ss.length = 0
    ·have hs0 : sts = [] := List.eq_nil_of_length_eq_zero (by omega)
     rw [h0]
     refine (add_zero w1 _ a cp).mono ?_
     rintro e w' ⟨rfl, rfl⟩
     refine ⟨_, rfl, ?_⟩
     unfold Hid RegPost
     rw [hR, hs0]
     refine ⟨_, c, rfl, hE, ?_, Ext.below hb, ⟨rfl, Or.inl ⟨rfl, rfl⟩⟩, fun b hb => by cases hb⟩
     simp [newQs]
    ·rcases hP.row.2 with ⟨_, h1⟩ | ⟨g, cp', cur, h1, h2, h3, h4, _⟩
     ·omega
     ·obtain ⟨rfl, _, rfl⟩ := Value.slice.inj h1
      have hok : ∀ x ∈ P, StOk x.2.2 ∧ x.2.2.1 ≠ [] := by
       intro x hx
       have := hsok x.2.2 (by rw [← hPs]; exact List.mem_map.2 ⟨x, hx, rfl⟩)
       exact ⟨this.1, this.1.some_ (by rw [this.2]; decide)⟩
      have hnc : ∀ b, w.heap.size ≤ b → b ∉ c.blocks eb := fun b hb hm => by have := h.lt b hm; omega
      have hpg : ∀ x ∈ P, w.heap.size ≤ x.1 := fun x hx => own_row (hP.st x hx) x.1 rfl
      rw [← hPl]
      rw [← hPl] at hP
      refine (add_some w1 eb w.heap.size g cp c P hE hP hok (fun x hx => steps_cap (hP.st x hx) (hok x hx).2) (by omega) h4 hnx (hnc g h2) (fun x hx => hnc x.1 (hpg x hx))).mono ?_
      rintro e w2 ⟨v, c', rfl, hA⟩
      refine ⟨v, rfl, ?_⟩
      unfold Hid RegPost
      have hlp : P.length = sts.length := by omega
      rw [hR]
      have habs := hA.abs
      rw [List.take_length, hPs] at habs
      refine ⟨v, c', rfl, hA.eg, by rw [habs, hlp]; rfl, ⟨(Fr.of_below _ hb).trans hA.fr, ?_⟩, ?_, ?_⟩
      ·intro b hb'
       rcases hA.sub b hb' with h5 | h5 | h5
       ·exact Or.inl h5
       ·obtain ⟨x, hx, rfl⟩ := List.mem_map.1 h5
        exact Or.inr (hpg x (List.mem_of_mem_take hx))
       ·exact Or.inr (Nat.le_trans hb.size h5)
      ·rw [← hlp]; exact hA.row
      ·intro b hb'
       exact ⟨Nat.le_trans hb.size (hA.new b hb'), hA.ap b hb'⟩
   obtain ⟨PO, hPO⟩ : ∃ PO, RegPost w eb c (ss.map (·.data.toList)) = PO := ⟨_, rfl⟩
   rw [hPO] at hadd ⊢
   clear hB HL h hm hX hR hsame hsl hPO hsok
   go_enter Tryz.func29, Tryz.ntmps29
   go_wp2_with (first | (go_at_call 39; refine hmade.mono ?_; rintro e w' ⟨rfl, rfl⟩) | (go_at_call 58; refine hcall.mono ?_; rintro e w1 ⟨a, cp, P, rfl, hb, hP⟩; have c3 := hcell.out w1 hb) | (go_at_call 59; refine (hadd.out w1 a cp P hP.out hb).mono ?_; rintro e w2 ⟨v, rfl, hF⟩))
   go_ret3
   exact hF.out
end Go.Proofs.YtbgfannlfagoiaaGreatDoor

namespace Go.Proofs.YtbgfannlfagoiaaGreatDoor
open Go.RowKit Go.Lull
set_option linter.unusedVariables false

set_option maxRecDepth 8000 in
set_option maxHeartbeats 2000000 in
theorem pattern_nil (w : World) (ra : Option Addr) (rc : Nat) :
  Calls Tryz.prog 16 #[.slice ra 0 rc] w fun e w' => ∃ S : ByteArray, e = .returned (.string S) ∧ S.data.toList = patB [] ∧ Below w.heap.size w w' := by
 have hcv := fun W z => conv_one W z (.cells #[.int .u8 z] 5) W.heap.size 1 rfl rfl
 have hw0 : IntKind.i64.wrap 0 = 0 := IntWalk.i64_in _ (by omega)
 have hw1 : IntKind.i64.wrap 1 = 1 := IntWalk.i64_in _ (by omega)
 have hx0 : (⟨#[60, 61, 62]⟩ : ByteArray).extract 0 1 = ⟨#[60]⟩ := rfl
 have hl0 : (numT 0).length = 1 := rfl
 have hn0 := Hid.mk' (fun W => keepNum_at 0 W (by omega) (by omega))
 have hn7 := Hid.mk' (fun W => keepNum_at 7 W (by omega) (by omega))
 go_enter Tryz.func16, Tryz.ntmps16
 go_wp2
 refine wp_loop_rounds 2 ?_
 rw [rounds_succ]
 go_wp2
 refine wp_region_quiet_grown (by kernel_rfl) (by kernel_rfl) ?_
 repeat (quiet_step (first | (go_at_call 38; refine Calls.grown_of (hn0.out _))))
 refine wpQuiet_nil ?_
 intro _ hw'
 obtain ⟨⟨nq, osq⟩, hw''⟩ := hw'
 subst hw''
 have hb := Hid.mk' (((Below.refl _ w).alloc (Nat.le_refl _) (.cells #[.int .u8 97] 5)).trans ((grown_is_below' _ nq osq).mono (by simp)))
 revert hb
 generalize Go.Sort.grow ((w.alloc (.cells #[.int .u8 97] 5)).drewN nq) osq = W
 intro hb
 go_wp2
 rw [rounds_succ]
 go_wp2_with (first | (go_at_call 38; refine (hn7.out _).mono ?_; rintro e w' ⟨rfl, q, os, rfl⟩))
 go_ret
 exact ⟨_, rfl, by decide, hb.out.trans ((grown_is_below' _ q os).mono hb.out.size)⟩

theorem pattern_any (w : World) (v : Value) (raw : List Int) (h : RAW w v raw) :
  Calls Tryz.prog 16 #[v] w fun e w' => ∃ S : ByteArray, e = .returned (.string S) ∧ S.data.toList = patB raw ∧ Below w.heap.size w w' := by
 by_cases hne : raw = []
 ·subst hne
  obtain ⟨a, b, off, cap, rfl, _⟩ := h.ex
  exact pattern_nil w a cap
 ·exact pattern_round w v raw h hne
/-- The pattern that raw numbers speak of. -/
def patSt (raw : List Int) : St := (stpsC true (csB raw), (lastB raw : Int), 2)
theorem csB_facts (raw : List Int) : csB raw ≠ [] ∧ (csB raw).length ≤ 4 := by
 unfold csB
 by_cases h : raw = []
 ·simp [h]
 ·have := List.length_pos_iff.2 h
  simp only [h, if_false]
  refine ⟨fun e => ?_, by simp; omega⟩
  have e2 := congrArg List.length e
  simp at e2
  exact h e2
theorem lastB_lt (raw : List Int) : lastB raw < 100 := by
 unfold lastB
 split
 ·omega
 ·rename_i c _
  have := pickI_nn c 40 (by omega)
  omega
theorem patB_ok (raw : List Int) : resB (patB raw) = .inr (patSt raw) := text_ok _ _ (lastB_lt raw) (csB_facts raw).1 (by have := (csB_facts raw).2; omega)

/-- An Engine in new memory. -/
structure EGN (N : Nat) (w0 w : World) (eb : Nat) (c : CE) : Prop where
 eg : EG w eb c
 below : Below N w0 w
 new : ∀ b ∈ c.blocks eb, N ≤ b
theorem Ext.low {N : Nat} {w w' : World} {B B' : List Nat} (h : Ext w B w' B') (hB : ∀ b ∈ B, N ≤ b) (hN : N ≤ w.heap.size) : Below N w w' ∧ ∀ b ∈ B', N ≤ b :=
 ⟨⟨h.fr.os, h.fr.tape, h.fr.output, h.fr.size, fun k hk => h.fr.block k (by omega) (fun hm => by have := hB k hm; omega)⟩, fun b hb => (h.sub b hb).elim (hB b) (fun hl => by omega)⟩
theorem EGN.next {N eb : Nat} {w0 w w' : World} {c c' : CE} (h : EGN N w0 w eb c) (hN : N ≤ w0.heap.size) (he : EG w' eb c') (hx : Ext w (c.blocks eb) w' (c'.blocks eb)) : EGN N w0 w' eb c' := by
 obtain ⟨h1, h2⟩ := hx.low h.new (Nat.le_trans hN h.below.size)
 exact ⟨he, h.below.trans h1, h2⟩
theorem EGN.then {N eb : Nat} {w0 w w' : World} {c : CE} (h : EGN N w0 w eb c) (hN : N ≤ w0.heap.size) (hb : Below w.heap.size w w') : EGN N w0 w' eb c :=
 ⟨h.eg.below hb, h.below.trans (hb.mono (Nat.le_trans hN h.below.size)), h.new⟩

/-- What first answers leave. -/
def openE : En := ⟨[1, 1, 1], [], [], 1, 0, 1⟩
def zEv : Ev := (1, 0, 122, 0)
def zText : List UInt8 := [122, 32, 119, 105, 116, 104, 105, 110, 32, 48]
def o0 : En := ⟨[0, 0, 0], [], [], 0, 0, 0⟩
def zQ : Qy := ⟨0, [(false, 122, 0, 0)], 0, [], []⟩
def o1 : En := ⟨[0, 0, 0], [], [zQ], 1, 0, 0⟩
def o2 : En := ⟨[0, 0, 0], [zEv], [zQ], 1, 0, 0⟩
def o3 : En := ⟨[1, 0, 0], [zEv], [zQ], 1, 0, 0⟩
def o4 : En := ⟨[1, 1, 0], [zEv], [zQ], 1, 0, 0⟩
def zM : Mt := ⟨0, 0, [zEv]⟩
def o5 : En := ⟨[1, 1, 1], [], [{ zQ with found := [zM] }], 1, 0, 0⟩
def o6 : En := ⟨[1, 1, 1], [], [zQ], 1, 0, 1⟩
theorem reg_z : regE o0 [zText] = (0, 0, 1, o1) := by
 have h : resB zText = .inr ([(false, 122, 0, 0)], 0, 2) := by decide
 unfold regE resAll
 rw [h]
 rfl
theorem off_z : offerE o1 [zEv] = (1, 0, o2) := by rfl
theorem beat_3 : beatE o2 0 1 = (0, o3) := by
 have : pass 0 ([zEv], [zQ]) = ([zEv], [zQ]) := pass_still ⟨by decide, by decide⟩
 unfold beatE
 show (0, _) = _
 show (0, { o2 with marks := [1, 0, 0], buf := (pass 0 ([zEv], [zQ])).1, qs := (pass 0 ([zEv], [zQ])).2 }) = _
 rw [this]; rfl
theorem beat_4 : beatE o3 1 1 = (0, o4) := by
 have : pass 0 ([zEv], [zQ]) = ([zEv], [zQ]) := pass_still ⟨by decide, by decide⟩
 show (0, { o3 with marks := [1, 1, 0], buf := (pass 0 ([zEv], [zQ])).1, qs := (pass 0 ([zEv], [zQ])).2 }) = _
 rw [this]; rfl
theorem beat_5 : beatE o4 2 1 = (0, o5) := by
 have : pass 1 ([zEv], [zQ]) = ([], [{ zQ with found := [zM] }]) := by
  rw [pass_step (d := .rel zEv) (by rfl) (by decide)]
  exact pass_still ⟨by decide, by decide⟩
 show (0, { o4 with marks := [1, 1, 1], buf := (pass 1 ([zEv], [zQ])).1, qs := (pass 1 ([zEv], [zQ])).2 }) = _
 rw [this]; rfl
theorem drain_z : drainE 9 o5 = ([zM], o6) := by rfl
theorem rem_z : removeE o6 0 = (0, openE) := by rfl
end Go.Proofs.YtbgfannlfagoiaaGreatDoor

namespace Go.Proofs.YtbgfannlfagoiaaGreatDoor
open Go.RowKit Go.Lull
set_option linter.unusedVariables false

theorem SZ.small {s : List Ev × List Qy} (h : ∀ q ∈ s.2, q.found.length + q.runs.length + s.1.length ≤ 1000) : SZ s := fun q hq => by have := h q hq; omega

/-- Some blocks are as they were. -/
def Same (F : List Nat) (w w' : World) : Prop := w.heap.size ≤ w'.heap.size ∧ ∀ b ∈ F, w'.heap[b]? = w.heap[b]?
theorem Same.trans {F : List Nat} {a b c : World} (h : Same F a b) (k : Same F b c) : Same F a c := ⟨Nat.le_trans h.1 k.1, fun x hx => (k.2 x hx).trans (h.2 x hx)⟩
theorem Same.sub {F G : List Nat} {a b : World} (h : Same F a b) (hs : ∀ x ∈ G, x ∈ F) : Same G a b := ⟨h.1, fun x hx => h.2 x (hs x hx)⟩
/-- An Engine that stands so, and blocks that are none of its own. -/
def At (N eb : Nat) (w0 : World) (s : En) (F : List Nat) (w : World) : Prop := ∃ c, EGN N w0 w eb c ∧ c.abs = s ∧ ∀ b ∈ F, b < w.heap.size ∧ b ∉ c.blocks eb

section
variable {N eb : Nat} {w0 w w' : World} {s s' : En} {F : List Nat}
theorem At.sub {G : List Nat} (h : At N eb w0 s F w) (hs : ∀ x ∈ G, x ∈ F) : At N eb w0 s G w := by
 obtain ⟨c, h1, h2, h3⟩ := h
 exact ⟨c, h1, h2, fun b hb => h3 b (hs b hb)⟩
theorem At.below (h : At N eb w0 s F w) : Below N w0 w := by obtain ⟨c, h1, _⟩ := h; exact h1.below
theorem At.lt (h : At N eb w0 s F w) : ∀ b ∈ F, b < w.heap.size := by obtain ⟨c, _, _, h3⟩ := h; exact fun b hb => (h3 b hb).1
/-- What Ext leaves of blocks that are not the Engine's. -/
theorem Ext.keep {B B' : List Nat} (h : Ext w B w' B') {b : Nat} (hl : b < w.heap.size) (hb : b ∉ B) : w'.heap[b]? = w.heap[b]? ∧ b ∉ B' :=
 ⟨h.fr.block b hl hb, fun hm => (h.sub b hm).elim hb (fun h2 => by omega)⟩
theorem At.ext {c c' : CE} (hc : EGN N w0 w eb c) (hF : ∀ b ∈ F, b < w.heap.size ∧ b ∉ c.blocks eb) (hN : N ≤ w0.heap.size) (he : EG w' eb c') (hx : Ext w (c.blocks eb) w' (c'.blocks eb)) (ha : c'.abs = s') : At N eb w0 s' F w' ∧ Same F w w' :=
 ⟨⟨c', hc.next hN he hx, ha, fun b hb => ⟨Nat.lt_of_lt_of_le (hF b hb).1 hx.fr.size, (hx.keep (hF b hb).1 (hF b hb).2).2⟩⟩, hx.fr.size, fun b hb => (hx.keep (hF b hb).1 (hF b hb).2).1⟩
theorem At.then (h : At N eb w0 s F w) (hN : N ≤ w0.heap.size) (hb : Below w.heap.size w w') : At N eb w0 s F w' ∧ Same F w w' := by
 obtain ⟨c, hc, rfl, hF⟩ := h
 exact At.ext hc hF hN (hc.eg.below hb) (Ext.below hb) rfl
/-- A block that was just laid. -/
theorem At.new (h : At N eb w0 s F w) {G : List Nat} (hN : N ≤ w0.heap.size) (hb : Below w.heap.size w w') (hG : ∀ b ∈ G, w.heap.size ≤ b ∧ b < w'.heap.size) : At N eb w0 s (F ++ G) w' ∧ Same F w w' := by
 obtain ⟨c, hc, rfl, hF⟩ := h
 refine ⟨⟨c, hc.then hN hb, rfl, fun b hb' => ?_⟩, hb.size, fun b hb' => hb.block b (hF b hb').1⟩
 rcases List.mem_append.1 hb' with h1 | h1
 ·exact ⟨Nat.lt_of_lt_of_le (hF b h1).1 hb.size, (hF b h1).2⟩
 ·exact ⟨(hG b h1).2, fun hm => by have := hc.eg.lt b hm; have := (hG b h1).1; omega⟩
theorem at_beat {src t : Int} (h : At N eb w0 s F w) (hN : N ≤ w0.heap.size) (htm : TM s.buf) (hsz : SZ (s.buf, s.qs)) :
  Calls Tryz.prog 31 #[.pointer (some ⟨eb, 0, none⟩), .int .i64 src, .int .i64 t] w fun e w' => e = .returned (.int .i64 (beatE s src t).1) ∧ At N eb w0 (beatE s src t).2 F w' ∧ Same F w w' := by
 obtain ⟨c, hc, rfl, hF⟩ := h
 refine (beat_eg w eb c src t hc.eg htm hsz).mono ?_
 rintro e w' ⟨rfl, c', g1, g2, g3⟩
 exact ⟨rfl, At.ext hc hF hN g1 g3 g2⟩
theorem at_wm (h : At N eb w0 s F w) :
  Calls Tryz.prog 33 #[.pointer (some ⟨eb, 0, none⟩)] w fun e w' => e = .returned (.int .i64 (markB s.marks)) ∧ w' = w := by
 obtain ⟨c, hc, rfl, hF⟩ := h
 exact wm_eg w eb c hc.eg
theorem at_runs {n : Int} (h : At N eb w0 s F w) (hN : N ≤ w0.heap.size) :
  Calls Tryz.prog 76 #[.pointer (some ⟨eb, 0, none⟩), .int .i64 n] w fun e w' => e = .returned (.int .i64 (runsE s n)) ∧ At N eb w0 s F w' ∧ Same F w w' := by
 have h' := h
 obtain ⟨c, hc, rfl, hF⟩ := h
 refine (runs_eg w eb c n hc.eg).mono ?_
 rintro e w' ⟨rfl, hb⟩
 exact ⟨rfl, h'.then hN hb⟩
theorem at_waiting {n : Int} (h : At N eb w0 s F w) (hN : N ≤ w0.heap.size) :
  Calls Tryz.prog 77 #[.pointer (some ⟨eb, 0, none⟩), .int .i64 n] w fun e w' => e = .returned (.int .i64 (waitE s n)) ∧ At N eb w0 s F w' ∧ Same F w w' := by
 have h' := h
 obtain ⟨c, hc, rfl, hF⟩ := h
 refine (waiting_eg w eb c n hc.eg).mono ?_
 rintro e w' ⟨rfl, hb⟩
 exact ⟨rfl, h'.then hN hb⟩
theorem nums_nodup {c : CE} (h : NR c.abs.qs) : (c.qs.map (·.2.num)).Nodup := by
 have : c.qs.map (·.2.num) = c.abs.qs.map (·.num) := by simp [CE.abs, CQ.abs]
 rw [this]
 unfold List.Nodup
 rw [List.pairwise_map]
 exact h.imp (fun hab => Nat.ne_of_lt hab)
theorem at_remove {n : Int} (h : At N eb w0 s F w) (hN : N ≤ w0.heap.size) (hr : NR s.qs) :
  Calls Tryz.prog 32 #[.pointer (some ⟨eb, 0, none⟩), .int .i64 n] w fun e w' => e = .returned (.int .i64 (removeE s n).1) ∧ At N eb w0 (removeE s n).2 F w' ∧ Same F w w' := by
 obtain ⟨c, hc, rfl, hF⟩ := h
 refine (remove_eg w eb c n hc.eg (nums_nodup hr)).mono ?_
 rintro e w' ⟨rfl, c', g1, g2, g3⟩
 exact ⟨rfl, At.ext hc hF hN g1 g3 g2⟩
/-- Offer of some events. -/
theorem at_offer {l : List Ev} {v : Value} (h : At N eb w0 s F w) (hN : N ≤ w0.heap.size) (hs : SB s.buf) (hl : l.length ≤ 1000000000) (hrow : Row w 75 4 v l.length (l.flatMap evC)) (hv : ∀ b, v.ownBlock = some b → b ∈ F) :
  Calls Tryz.prog 30 #[.pointer (some ⟨eb, 0, none⟩), v] w fun e w' => e = .returned (.tuple #[.int .i64 (offerE s l).1, .int .i64 (offerE s l).2.1]) ∧ At N eb w0 (offerE s l).2.2 F w' ∧ Same F w w' := by
 obtain ⟨c, hc, rfl, hF⟩ := h
 refine (offer_eg w eb c v l hc.eg hs hl hrow (fun b hb => (hF b (hv b hb)).2)).mono ?_
 rintro e w' ⟨rfl, c', g1, g2, g3⟩
 exact ⟨rfl, At.ext hc hF hN g1 g3 g2⟩
/-- Offer of one event, in a list that was just laid. -/
theorem at_offer1 {x : Ev} {M : Nat} (h : At N eb w0 s F w) (hN : N ≤ w0.heap.size) (hs : SB s.buf) (hM : M = w.heap.size) :
  Calls Tryz.prog 30 #[.pointer (some ⟨eb, 0, none⟩), .slice (some ⟨M, 0, none⟩) 1 1] (w.alloc (.cells #[.int .i64 x.1, .int .i64 x.2.1, .int .u8 x.2.2.1.toNat, .int .i64 x.2.2.2] 75)) fun e w' => e = .returned (.tuple #[.int .i64 (offerE s [x]).1, .int .i64 (offerE s [x]).2.1]) ∧ At N eb w0 (offerE s [x]).2.2 F w' ∧ Same F w w' := by
 subst hM
 obtain ⟨h1, h2⟩ := h.new (G := [w.heap.size]) (w' := w.alloc (.cells #[.int .i64 x.1, .int .i64 x.2.1, .int .u8 x.2.2.1.toNat, .int .i64 x.2.2.2] 75)) hN ((Below.refl _ _).alloc (Nat.le_refl _) _) (by simp)
 refine (at_offer (l := [x]) (v := .slice (some ⟨w.heap.size, 0, none⟩) 1 1) h1 hN hs (by simp) ?_ (fun b hb => ?_)).mono ?_
 ·refine ⟨rfl, Or.inr ⟨w.heap.size, 0, 1, _, rfl, heap_alloc_new _ _, Nat.le_refl _, by unfold maxLen; omega, by simp, rfl⟩⟩
 ·have : w.heap.size = b := Option.some.inj hb
  simp [this]
 ·rintro e w' ⟨rfl, g1, g2⟩
  exact ⟨rfl, g1.sub (fun x hx => List.mem_append_left _ hx), h2.trans (g2.sub (fun x hx => List.mem_append_left _ hx))⟩
/-- Drain. -/
theorem at_drain {n : Int} (h : At N eb w0 s F w) (hN : N ≤ w0.heap.size) (hr : NR s.qs) (ht : totF s.qs ≤ 1073741824) :
  Calls Tryz.prog 17 #[.pointer (some ⟨eb, 0, none⟩), .int .i64 n] w fun e w' => ∃ v L, e = .returned v ∧ L.map Prod.fst = (drainE n.toNat s).1 ∧ MS w' v L ∧ At N eb w0 (drainE n.toNat s).2 (F ++ (v.ownBlock.toList ++ eblk (L.map fp))) w' ∧ Same F w w' ∧ (∀ b ∈ v.ownBlock.toList ++ eblk (L.map fp), b ∉ F) := by
 obtain ⟨c, hc, rfl, hF⟩ := h
 refine (drain_eg w eb c n hc.eg (nums_nodup hr) ht).mono ?_
 rintro e w' ⟨v, L, c', rfl, g1, g2, g3, g4, g5, g6⟩
 obtain ⟨⟨c'', k1, k2, k3⟩, k4⟩ := At.ext hc hF hN g1 g3 rfl
 refine ⟨v, L, rfl, by rw [g2], ⟨g4, fun x hx => ?_⟩, ⟨c', hc.next hN g1 g3, by rw [g2], fun b hb => ?_⟩, k4, fun b hb hm => ?_⟩
 ·exact Row.of_own (g5.ev (fp x) (List.mem_map.2 ⟨x, hx, rfl⟩))
 ·rcases List.mem_append.1 hb with h1 | h1
  ·exact ⟨Nat.lt_of_lt_of_le (hF b h1).1 g3.fr.size, (g3.keep (hF b h1).1 (hF b h1).2).2⟩
  ·refine ⟨?_, (g6 b h1).1⟩
   rcases List.mem_append.1 h1 with h2 | h2
   ·exact g5.lt b h2
   ·exact g5.elt h2
 ·rcases (g6 b hb).2 with h1 | h1
  ·exact (hF b hm).2 h1
  ·have := (hF b hm).1; omega
/-- Register. -/
theorem at_reg {ad : Option Addr} {b off cap : Nat} {ss : List ByteArray} {m : Int} (h : At N eb w0 s F w) (hN : N ≤ w0.heap.size) (hm : w.cell? ⟨0, 0, none⟩ = some (.int .i64 m)) (hX : TX w ad b off ss) (hlen : ss.length ≤ 1048576) (hcap : ss.length ≤ cap) (hnx : s.next ≤ 1000000000) :
  Calls Tryz.prog 29 #[.pointer (some ⟨eb, 0, none⟩), .slice ad ss.length cap] w fun e w' => ∃ v, e = .returned (.tuple #[v, .int .i64 (regE s (ss.map (·.data.toList))).1, .int .i64 (regE s (ss.map (·.data.toList))).2.1]) ∧
   Row w' 3 1 v (regE s (ss.map (·.data.toList))).2.2.1 (numsV s.next (regE s (ss.map (·.data.toList))).2.2.1) ∧ At N eb w0 (regE s (ss.map (·.data.toList))).2.2.2 (F ++ v.ownBlock.toList) w' ∧ Same F w w' ∧ (∀ b ∈ v.ownBlock.toList, b ∉ F) := by
 obtain ⟨c, hc, rfl, hF⟩ := h
 refine (register_eg w eb c ad b off cap ss m hc.eg hm hX hlen hcap hnx).mono ?_
 rintro e w' ⟨v, c', rfl, g1, g2, g3, g4, g5⟩
 refine ⟨v, rfl, g4, ⟨c', hc.next hN g1 g3, g2, fun b hb => ?_⟩, (At.ext hc hF hN g1 g3 g2).2, fun b hb hm => by have := (g5 b (by simpa using hb)).1; have := (hF b hm).1; omega⟩
 rcases List.mem_append.1 hb with h1 | h1
 ·exact ⟨Nat.lt_of_lt_of_le (hF b h1).1 g3.fr.size, (g3.keep (hF b h1).1 (hF b h1).2).2⟩
 ·exact ⟨g4.lt b (by simpa using h1), (g5 b (by simpa using h1)).2⟩
end

/-- Two Engines. -/
def TW (N ex ey : Nat) (w0 : World) (sx sy : En) (F : List Nat) (w : World) : Prop :=
 ∃ cx cy, EGN N w0 w ex cx ∧ EGN N w0 w ey cy ∧ cx.abs = sx ∧ cy.abs = sy ∧ (∀ b ∈ cx.blocks ex, b ∉ cy.blocks ey) ∧ ∀ b ∈ F, b < w.heap.size ∧ b ∉ cx.blocks ex ∧ b ∉ cy.blocks ey
section
variable {N ex ey : Nat} {w0 w w' : World} {sx sy : En} {F : List Nat}
theorem TW.left (h : TW N ex ey w0 sx sy F w) : ∃ G, At N ex w0 sx (G ++ F) w ∧ ∀ s' F2 w', At N ex w0 s' ((G ++ F) ++ F2) w' → Same (G ++ F) w w' → (∀ b ∈ F2, b ∉ G) → TW N ex ey w0 s' sy (F ++ F2) w' := by
 obtain ⟨cx, cy, h1, h2, rfl, rfl, h5, h6⟩ := h
 refine ⟨cy.blocks ey, ⟨cx, h1, rfl, fun b hb => ?_⟩, ?_⟩
 ·rcases List.mem_append.1 hb with hb | hb
  ·exact ⟨h2.eg.lt b hb, fun hm => h5 b hm hb⟩
  ·exact ⟨(h6 b hb).1, (h6 b hb).2.1⟩
 ·rintro s' F2 w' ⟨cx', k1, rfl, k3⟩ hS hF2
  refine ⟨cx', cy, k1, ⟨h2.eg.same hS.1 (fun b hb => hS.2 b (List.mem_append_left _ hb)), k1.below, h2.new⟩, rfl, rfl, fun b hb hm => (k3 b (List.mem_append_left _ (List.mem_append_left _ hm))).2 hb, fun b hb => ?_⟩
  rcases List.mem_append.1 hb with hb | hb
  ·exact ⟨(k3 b (List.mem_append_left _ (List.mem_append_right _ hb))).1, (k3 b (List.mem_append_left _ (List.mem_append_right _ hb))).2, (h6 b hb).2.2⟩
  ·exact ⟨(k3 b (List.mem_append_right _ hb)).1, (k3 b (List.mem_append_right _ hb)).2, hF2 b hb⟩
theorem TW.swap (h : TW N ex ey w0 sx sy F w) : TW N ey ex w0 sy sx F w := by
 obtain ⟨cx, cy, h1, h2, h3, h4, h5, h6⟩ := h
 exact ⟨cy, cx, h2, h1, h4, h3, fun b hb hm => h5 b hm hb, fun b hb => ⟨(h6 b hb).1, (h6 b hb).2.2, (h6 b hb).2.1⟩⟩
theorem TW.sub {G : List Nat} (h : TW N ex ey w0 sx sy F w) (hs : ∀ x ∈ G, x ∈ F) : TW N ex ey w0 sx sy G w := by
 obtain ⟨cx, cy, h1, h2, h3, h4, h5, h6⟩ := h
 exact ⟨cx, cy, h1, h2, h3, h4, h5, fun b hb => h6 b (hs b hb)⟩
theorem TW.below (h : TW N ex ey w0 sx sy F w) : Below N w0 w := by obtain ⟨cx, cy, h1, _⟩ := h; exact h1.below
end
end Go.Proofs.YtbgfannlfagoiaaGreatDoor

namespace Go.Proofs.YtbgfannlfagoiaaGreatDoor
open Go.RowKit Go.Lull
set_option linter.unusedVariables false

theorem MS.same {w w' : World} {v : Value} {L : List (Mt × Value)} (h : MS w v L) (hs : ∀ b ∈ v.ownBlock.toList ++ eblk (L.map fp), w'.heap[b]? = w.heap[b]?) : MS w' v L := by
 refine ⟨h.row.same (fun b hb => hs b (by simp [hb])), fun x hx => (h.ev x hx).same (fun b hb => hs b (List.mem_append_right _ ?_))⟩
 exact mem_eblk.2 ⟨fp x, List.mem_map.2 ⟨x, hx, rfl⟩, hb⟩

def slen : Value → Nat
 | .slice _ n _ => n
 | _ => 0
/-- All, while it puts its matches in order. -/
structure S2 (w0 w : World) (lv : Value) (L : List (It × Value)) (ov : Value) (O : List (Mt × Value)) : Prop where
 is : IS w0 w lv L
 out : MS w ov O
 onew : ∀ b, ov.ownBlock = some b → w0.heap.size ≤ b ∧ lv.ownBlock ≠ some b ∧ (∀ x ∈ L, x.2.ownBlock ≠ some b) ∧ ∀ x ∈ O, x.2.ownBlock ≠ some b
 oev : ∀ x ∈ O, ∀ b, x.2.ownBlock = some b → w0.heap.size ≤ b
 one : ∀ x ∈ L, x.2.oneCell' = true
section
variable {w0 wr w' w1 w2 : World} {lv ov v1 v2 : Value} {L : List (It × Value)} {O : List (Mt × Value)}
theorem S2.then (h : S2 w0 wr lv L ov O) (hb : Below wr.heap.size wr w') : S2 w0 w' lv L ov O := by
 refine ⟨h.is.then hb, ⟨h.out.row.same (fun b hb' => hb.block b (h.out.row.lt b hb')), fun x hx => (h.out.ev x hx).same (fun b hb' => hb.block b ((h.out.ev x hx).lt b hb'))⟩, h.onew, h.oev, h.one⟩
/-- One match more. -/
theorem S2.push {g off cap : Nat} {o : Obj} (h : S2 w0 wr lv L ov O) {x : It × Value} (hx : x ∈ L)
  (hrow : Row w' 58 3 (.slice (some ⟨g, off, none⟩) (O.length + 1) cap) (O.length + 1) (O.flatMap matC ++ matC (x.1.m, x.2))) (hg : (wr.alloc o).grownBy w' ov.ownBlock) (hat : ov.ownBlock = some g ∨ g = wr.heap.size + 1) :
  S2 w0 w' lv L (.slice (some ⟨g, off, none⟩) (O ++ [(x.1.m, x.2)]).length cap) (O ++ [(x.1.m, x.2)]) := by
 have hsz := h.is.below.size
 have hsame : ∀ (b : Nat), b < wr.heap.size → ov.ownBlock ≠ some b → w'.heap[b]? = wr.heap[b]? := fun b hl hne => by
  rw [hg.block b (by simp; omega) (fun e => hne e.symm), Below.heap_alloc _ _ _ hl]
 have hB : Below w0.heap.size w0 w' := (h.is.below.alloc hsz o).grown hg (by simp; omega) (fun b hb => (h.onew b hb).1)
 have hgg : ∀ b : Nat, (Value.slice (some ⟨g, off, none⟩) (O ++ [(x.1.m, x.2)]).length cap).ownBlock = some b → b = g := fun b hb => (Option.some.inj hb).symm
 have hLs : ∀ y ∈ L, ∀ b, y.2.ownBlock = some b → b < wr.heap.size := fun y hy b hb => (h.is.ev y hy).lt b hb
 have hOs : ∀ y ∈ O, ∀ b, y.2.ownBlock = some b → b < wr.heap.size := fun y hy b hb => (h.out.ev y hy).lt b hb
 refine ⟨⟨hB, h.is.row.same (fun b hb => hsame b (h.is.row.lt b hb) (fun e => (h.onew b e).2.1 hb)), fun y hy => (h.is.ev y hy).same (fun b hb => hsame b (hLs y hy b hb) (fun e => (h.onew b e).2.2.1 y hy hb)), h.is.new, h.is.evn⟩, ⟨?_, ?_⟩, ?_, ?_, h.one⟩
 ·rw [List.length_append, List.flatMap_append]; simpa using hrow
 ·intro y hy
  rcases List.mem_append.1 hy with hy | hy
  ·exact (h.out.ev y hy).same (fun b hb => hsame b (hOs y hy b hb) (fun e => (h.onew b e).2.2.2 y hy hb))
  ·rw [List.mem_singleton] at hy; subst hy
   exact (h.is.ev x hx).same (fun b hb => hsame b (hLs x hx b hb) (fun e => (h.onew b e).2.2.1 x hx hb))
 ·intro b hb
  have hb' := hgg b hb
  subst hb'
  rcases hat with h1 | h1
  ·obtain ⟨a1, a2, a3, a4⟩ := h.onew b h1
   refine ⟨a1, a2, a3, fun y hy => ?_⟩
   rcases List.mem_append.1 hy with hy | hy
   ·exact a4 y hy
   ·rw [List.mem_singleton] at hy; subst hy; exact a3 x hx
  ·refine ⟨by omega, fun e => by have := h.is.row.lt b e; omega, fun y hy e => by have := hLs y hy b e; omega, fun y hy e => ?_⟩
   rcases List.mem_append.1 hy with hy | hy
   ·have := hOs y hy b e; omega
   ·rw [List.mem_singleton] at hy; subst hy; have := hLs x hx b e; omega
 ·intro y hy b hb
  rcases List.mem_append.1 hy with hy | hy
  ·exact h.oev y hy b hb
  ·rw [List.mem_singleton] at hy; subst hy; exact (h.is.evn x hx b hb).1
/-- The others, in a list of their own. -/
theorem S2.rest {L' : List (It × Value)} (h : S2 w0 wr lv L ov O) (hsub : ∀ x ∈ L', x ∈ L) (g1 : wr.grownBy w1 none) (b1 : ∀ b, v1.ownBlock = some b → b = wr.heap.size) (g2 : w1.grownBy w2 v1.ownBlock) (b2 : ∀ b, v2.ownBlock = some b → v1.ownBlock = some b ∨ b = w1.heap.size)
  (hrow : Row w2 178 5 v2 L'.length (L'.flatMap itL)) : S2 w0 w2 v2 L' ov O := by
 have hsz := h.is.below.size
 have s1 := g1.size
 have hsame : ∀ (b : Nat), b < wr.heap.size → w2.heap[b]? = wr.heap[b]? := fun b hl => by
  rw [g2.block b (by omega) (fun e => by have := b1 b e.symm; omega), g1.block b hl (fun e => by cases e)]
 have hB : Below w0.heap.size w0 w2 := (h.is.below.grown g1 hsz (fun b hb => by cases hb)).grown g2 (by omega) (fun b hb => by have := b1 b hb; omega)
 have hnew : ∀ b, v2.ownBlock = some b → wr.heap.size ≤ b := fun b hb => (b2 b hb).elim (fun e => by have := b1 b e; omega) (fun e => by omega)
 refine ⟨⟨hB, hrow, fun y hy => (h.is.ev y (hsub y hy)).same (fun b hb => hsame b ((h.is.ev y (hsub y hy)).lt b hb)), fun b hb => by have := hnew b hb; omega, fun y hy b hb => ⟨(h.is.evn y (hsub y hy) b hb).1, fun e => by have := hnew b e; have := (h.is.ev y (hsub y hy)).lt b hb; omega⟩⟩, ⟨h.out.row.same (fun b hb => hsame b (h.out.row.lt b hb)), fun y hy => (h.out.ev y hy).same (fun b hb => hsame b ((h.out.ev y hy).lt b hb))⟩, ?_, h.oev, fun y hy => h.one y (hsub y hy)⟩
 intro b hb
 obtain ⟨a1, a2, a3, a4⟩ := h.onew b hb
 exact ⟨a1, fun e => by have := hnew b e; have := h.out.row.lt b hb; omega, fun y hy => a3 y (hsub y hy), a4⟩
end
end Go.Proofs.YtbgfannlfagoiaaGreatDoor

namespace Go.Proofs.YtbgfannlfagoiaaGreatDoor
open Go.RowKit Go.Lull
set_option linter.unusedVariables false

/-- A query of the document's Engine, and where it lies. -/
structure CR where
 qb : Nat
 sb : Nat
 sc : Nat
 lc : Nat
 sa : Option Addr
 q : RQ
def CR.blk (x : CR) : List Nat := x.qb :: (Value.slice x.sa x.q.seen.length x.lc).ownBlock.toList
structure RC where
 mg : Nat
 wv : Value
 qv : Value
 cs : List CR
 marks : List Int
 waits : List Ev
 next : Nat
 served : Int
 row : Nat
def RC.abs (c : RC) : RS := ⟨c.marks, c.waits, c.cs.map (·.q), c.next, c.served, c.row⟩
/-- What is written, and what is only read. -/
def RC.wr (c : RC) (rb : Nat) : List Nat := rb :: c.mg :: (c.qv.ownBlock.toList ++ c.cs.flatMap CR.blk)
def RC.rd (c : RC) : List Nat := c.wv.ownBlock.toList ++ c.cs.map (·.sb)
def RC.blocks (c : RC) (rb : Nat) : List Nat := c.wr rb ++ c.rd
def rCells (c : RC) : Array Value := #[.slice (some ⟨c.mg, 0, none⟩) c.marks.length c.marks.length, c.wv, c.qv, .int .i64 c.next, .int .i64 c.served, .int .i64 c.row]
def rqCells (x : CR) : Array Value := #[.int .i64 x.q.id, .slice (some ⟨x.sb, 0, none⟩) x.q.st.length x.sc, .int .i64 x.q.wn, .slice x.sa x.q.seen.length x.lc, .int .i64 x.q.gone]
/-- A query of it, in memory. -/
structure QR (w : World) (x : CR) : Prop where
 blk : w.heap[x.qb]? = some (.cells (rqCells x) 140 (0, 0))
 st : SR w x.sb x.q.st
 stc : x.q.st.length ≤ x.sc
 seen : w.ownsRow 0 75 4 (.slice x.sa x.q.seen.length x.lc) x.q.seen.length (x.q.seen.flatMap evC)
/-- The document's Engine, in memory. -/
structure RE (w : World) (rb : Nat) (c : RC) : Prop where
 blk : w.heap[rb]? = some (.cells (rCells c) 107 (0, 0))
 marks : w.heap[c.mg]? = some (.cells (c.marks.map (fun m => Value.int .i64 m)).toArray 3 (0, 0))
 waits : Row w 75 4 c.wv c.waits.length (c.waits.flatMap evC)
 qrow : Row w 141 1 c.qv c.cs.length (c.cs.map (fun x => Value.pointer (some ⟨x.qb, 0, none⟩)))
 qs : ∀ x ∈ c.cs, QR w x
 nd : (c.wr rb).Nodup
 ap : ∀ b ∈ c.rd, b ∉ c.wr rb
theorem SR.same {w w' : World} {sb : Nat} {st : List Stp} (h : SR w sb st) (hz : w.heap.size ≤ w'.heap.size) (hs : w'.heap[sb]? = w.heap[sb]?) : SR w' sb st := by
 have hc : ∀ j, w'.cell? ⟨sb, j, none⟩ = w.cell? ⟨sb, j, none⟩ := fun j => by simp [World.cell?, hs]
 exact ⟨Nat.lt_of_lt_of_le h.lt hz, fun k hk => (hc _).trans (h.c0 k hk), fun k hk => (hc _).trans (h.c1 k hk), fun k hk => (hc _).trans (h.c2 k hk), fun k hk => (hc _).trans (h.c3 k hk)⟩
theorem own_same {w w' : World} {base : Nat} {e : TypeId} {size n : Nat} {v : Value} {xs : List Value} (h : w.ownsRow base e size v n xs) (hs : ∀ b, v.ownBlock = some b → w'.heap[b]? = w.heap[b]?) : w'.ownsRow base e size v n xs := by
 refine ⟨h.1, h.2.imp id ?_⟩
 rintro ⟨g, cap, cur, h1, h2, h3, h4⟩
 subst h1
 exact ⟨g, cap, cur, rfl, h2, by rw [hs g rfl]; exact h3, h4⟩
theorem mem_wr {c : RC} {rb : Nat} {x : CR} (hx : x ∈ c.cs) {b : Nat} (hb : b ∈ x.blk) : b ∈ c.wr rb :=
 List.mem_cons_of_mem _ (List.mem_cons_of_mem _ (List.mem_append_right _ (List.mem_flatMap.2 ⟨x, hx, hb⟩)))
theorem mem_rd {c : RC} {x : CR} (hx : x ∈ c.cs) : x.sb ∈ c.rd := List.mem_append_right _ (List.mem_map.2 ⟨x, hx, rfl⟩)
theorem QR.same {w w' : World} {x : CR} (h : QR w x) (hz : w.heap.size ≤ w'.heap.size) (hs : ∀ b ∈ x.blk ++ [x.sb], w'.heap[b]? = w.heap[b]?) : QR w' x :=
 ⟨by rw [hs x.qb (by simp [CR.blk])]; exact h.blk, h.st.same hz (hs x.sb (by simp)), h.stc, own_same h.seen (fun b hb => hs b (by simp [CR.blk, hb]))⟩
theorem RE.same {w w' : World} {rb : Nat} {c : RC} (h : RE w rb c) (hz : w.heap.size ≤ w'.heap.size) (hs : ∀ b ∈ c.blocks rb, w'.heap[b]? = w.heap[b]?) : RE w' rb c := by
 have hw : ∀ b ∈ c.wr rb, w'.heap[b]? = w.heap[b]? := fun b hb => hs b (List.mem_append_left _ hb)
 have hr : ∀ b ∈ c.rd, w'.heap[b]? = w.heap[b]? := fun b hb => hs b (List.mem_append_right _ hb)
 refine ⟨by rw [hw rb (by simp [RC.wr])]; exact h.blk, by rw [hw c.mg (by simp [RC.wr])]; exact h.marks, h.waits.same (fun b hb => hr b (by simp [RC.rd, hb])), h.qrow.same (fun b hb => hw b (by simp [RC.wr, hb])), fun x hx => (h.qs x hx).same hz (fun b hb => ?_), h.nd, h.ap⟩
 rcases List.mem_append.1 hb with h1 | h1
 ·exact hw b (mem_wr hx h1)
 ·rw [List.mem_singleton] at h1; subst h1; exact hr _ (mem_rd hx)
theorem RE.lt {w : World} {rb : Nat} {c : RC} (h : RE w rb c) : ∀ b ∈ c.blocks rb, b < w.heap.size := by
 intro b hb
 rcases List.mem_append.1 hb with h1 | h1
 ·rcases List.mem_cons.1 h1 with rfl | h1
  ·exact lt_of_block h.blk
  ·rcases List.mem_cons.1 h1 with rfl | h1
   ·exact lt_of_block h.marks
   ·rcases List.mem_append.1 h1 with h1 | h1
    ·exact h.qrow.lt b (by simpa using h1)
    ·obtain ⟨x, hx, hb⟩ := List.mem_flatMap.1 h1
     rcases List.mem_cons.1 hb with rfl | hb
     ·exact lt_of_block (h.qs x hx).blk
     ·exact (Row.of_own (h.qs x hx).seen).lt b (by simpa using hb)
 ·rcases List.mem_append.1 h1 with h1 | h1
  ·exact h.waits.lt b (by simpa using h1)
  ·obtain ⟨x, hx, rfl⟩ := List.mem_map.1 h1
   exact (h.qs x hx).st.lt
theorem RE.below {w w' : World} {rb : Nat} {c : RC} (h : RE w rb c) (hb : Below w.heap.size w w') : RE w' rb c := h.same hb.size (fun b hb' => hb.block b (h.lt b hb'))
/-- A query of it, as All takes it. -/
theorem QR.qm {w : World} {x : CR} (h : QR w x) : QM w x.qb x.sb x.sc x.lc x.sa x.q := by
 refine ⟨h.blk, h.st, h.stc, fun k hk => ?_, ?_⟩
 ·rcases h.seen.2 with ⟨h1, h2⟩ | ⟨g, cap, cur, h1, h2, h3, h4, h5⟩
  ·omega
  ·obtain ⟨e1, _, e2⟩ := Value.slice.inj h1
   refine ⟨g, e1, lt_of_block h3, ?_, ?_, ?_, ?_⟩
   all_goals
    intro k hk
    have hg : x.q.seen.getD k noEv = x.q.seen[k] := by simp [List.getD, hk]
    rw [hg]
   ·have := h.seen
    rw [e1] at this
    rw [this.cellAt (k * 4) (by omega), show k * 4 = k * 4 + 0 by omega, flat4_at x.q.seen k 0 hk (by omega)]; rfl
   ·have := h.seen
    rw [e1] at this
    rw [this.cellAt (k * 4 + 1) (by omega), flat4_at x.q.seen k 1 hk (by omega)]; rfl
   ·have := h.seen
    rw [e1] at this
    rw [this.cellAt (k * 4 + 2) (by omega), flat4_at x.q.seen k 2 hk (by omega)]; rfl
   ·have := h.seen
    rw [e1] at this
    rw [this.cellAt (k * 4 + 3) (by omega), flat4_at x.q.seen k 3 hk (by omega)]; rfl
 ·rcases h.seen.2 with ⟨h1, h2⟩ | ⟨g, cap, cur, h1, h2, h3, h4, h5⟩
  ·omega
  ·obtain ⟨e1, _, e2⟩ := Value.slice.inj h1
   omega
/-- The watermark. -/
theorem re_mark {w : World} {rb : Nat} {c : RC} (h : RE w rb c) (hne : c.marks ≠ []) (h8 : c.marks.length ≤ 8) :
  Calls Tryz.prog 74 #[.pointer (some ⟨rb, 0, none⟩)] w fun e w' => e = .returned (.int .i64 (markB c.marks)) ∧ w' = w := by
 refine mark_any rb 0 c.mg c.marks.length c.marks w (List.length_pos_iff.2 hne) h8 ?_ ?_
 ·rw [cell_of_row w rb 0 _ _ _ h.blk]; rfl
 ·intro i hi
  rw [cell_of_row w c.mg i _ _ _ h.marks]
  simp [hi]
end Go.Proofs.YtbgfannlfagoiaaGreatDoor
