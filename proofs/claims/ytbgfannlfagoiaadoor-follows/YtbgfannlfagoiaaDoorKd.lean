import Derived.Test.YtbgfannlfagoiaaDoorKc
import Derived.Test.YtbgfannlfagoiaaDoorGv
import Derived.Test.YtbgfannlfagoiaaDoorKb
import Derived.Test.YtbgfannlfagoiaaDoorPure
namespace Go.Proofs.YtbgfannlfagoiaaDoor
open Go.RowKit Go.Lull
set_option linter.unusedVariables false

set_option maxRecDepth 8000 in
set_option maxHeartbeats 2000000 in
theorem pattern_nil (w : World) (ra : Option Addr) (rc : Nat) :
    Calls Tryd.prog 50 #[.slice ra 0 rc] w fun e w' => ∃ S : ByteArray, e = .returned (.string S) ∧ S.data.toList = patB [] ∧ Below w.heap.size w w' := by
  have hcv := fun W z => conv_one W z (.cells #[.int .u8 z] 5) W.heap.size 1 rfl rfl
  have hw0 : IntKind.i64.wrap 0 = 0 := IntWalk.i64_in _ (by omega)
  have hw1 : IntKind.i64.wrap 1 = 1 := IntWalk.i64_in _ (by omega)
  have hx0 : (⟨#[60, 61, 62]⟩ : ByteArray).extract 0 1 = ⟨#[60]⟩ := rfl
  have hl0 : (numT 0).length = 1 := rfl
  have hn0 := Hid.mk' (fun W => keepNum_at 0 W (by omega) (by omega))
  have hn7 := Hid.mk' (fun W => keepNum_at 7 W (by omega) (by omega))
  go_enter Tryd.func50, Tryd.ntmps50
  go_wp2
  refine wp_loop_rounds 2 ?_
  rw [rounds_succ]
  go_wp2
  refine wp_region_quiet_grown (by kernel_rfl) (by kernel_rfl) ?_
  repeat (quiet_step (first | (go_at_call 20; refine Calls.grown_of (hn0.out _))))
  refine wpQuiet_nil ?_
  intro _ hw'
  obtain ⟨⟨nq, osq⟩, hw''⟩ := hw'
  subst hw''
  have hb := Hid.mk' (((Below.refl _ w).alloc (Nat.le_refl _) (.cells #[.int .u8 97] 5)).trans ((grown_is_below' _ nq osq).mono (by simp)))
  revert hb
  generalize Go.Sort.grow ((w.alloc (.cells #[.int .u8 97] 5)).drewN nq) osq = W
  intro hb
  go_wp2
  rw [rounds_succ]
  go_wp2_with (first | (go_at_call 20; refine (hn7.out _).mono ?_; rintro e w' ⟨rfl, q, os, rfl⟩))
  go_ret
  exact ⟨_, rfl, by decide, hb.out.trans ((grown_is_below' _ q os).mono hb.out.size)⟩

theorem pattern_any (w : World) (v : Value) (raw : List Int) (h : RAW w v raw) :
    Calls Tryd.prog 50 #[v] w fun e w' => ∃ S : ByteArray, e = .returned (.string S) ∧ S.data.toList = patB raw ∧ Below w.heap.size w w' := by
  by_cases hne : raw = []
  · subst hne
    obtain ⟨a, b, off, cap, rfl, _⟩ := h.ex
    exact pattern_nil w a cap
  · exact pattern_round w v raw h hne
/-- The pattern that raw numbers speak of. -/
def patSt (raw : List Int) : St := (stpsC true (csB raw), (lastB raw : Int), 2)
theorem csB_facts (raw : List Int) : csB raw ≠ [] ∧ (csB raw).length ≤ 4 := by
  unfold csB
  by_cases h : raw = []
  · simp [h]
  · have := List.length_pos_iff.2 h
    simp only [h, if_false]
    refine ⟨fun e => ?_, by simp; omega⟩
    have e2 := congrArg List.length e
    simp at e2
    exact h e2
theorem lastB_lt (raw : List Int) : lastB raw < 100 := by
  unfold lastB
  split
  · omega
  · rename_i c _
    have := pickI_nn c 40 (by omega)
    omega
theorem patB_ok (raw : List Int) : resB (patB raw) = .inr (patSt raw) := text_ok _ _ (lastB_lt raw) (csB_facts raw).1 (by have := (csB_facts raw).2; omega)

/-- An Engine in new memory. -/
structure EGN (N : Nat) (w0 w : World) (eb : Nat) (c : CE) : Prop where
  eg : EG w eb c
  below : Below N w0 w
  new : ∀ b ∈ c.blocks eb, N ≤ b
theorem Ext.low {N : Nat} {w w' : World} {B B' : List Nat} (h : Ext w B w' B') (hB : ∀ b ∈ B, N ≤ b) (hN : N ≤ w.heap.size) : Below N w w' ∧ ∀ b ∈ B', N ≤ b :=
  ⟨⟨h.fr.os, h.fr.tape, h.fr.output, h.fr.size, fun k hk => h.fr.block k (by omega) (fun hm => by have := hB k hm; omega)⟩, fun b hb => (h.sub b hb).elim (hB b) (fun hl => by omega)⟩
theorem EGN.next {N eb : Nat} {w0 w w' : World} {c c' : CE} (h : EGN N w0 w eb c) (hN : N ≤ w0.heap.size) (he : EG w' eb c') (hx : Ext w (c.blocks eb) w' (c'.blocks eb)) : EGN N w0 w' eb c' := by
  obtain ⟨h1, h2⟩ := hx.low h.new (Nat.le_trans hN h.below.size)
  exact ⟨he, h.below.trans h1, h2⟩
theorem EGN.then {N eb : Nat} {w0 w w' : World} {c : CE} (h : EGN N w0 w eb c) (hN : N ≤ w0.heap.size) (hb : Below w.heap.size w w') : EGN N w0 w' eb c :=
  ⟨h.eg.below hb, h.below.trans (hb.mono (Nat.le_trans hN h.below.size)), h.new⟩

/-- What first answers leave. -/
def openE : En := ⟨[1, 1, 1], [], [], 1, 0, 1⟩
def zEv : Ev := (1, 0, 122, 0)
def zText : List UInt8 := [122, 32, 119, 105, 116, 104, 105, 110, 32, 48]
def o0 : En := ⟨[0, 0, 0], [], [], 0, 0, 0⟩
def zQ : Qy := ⟨0, [(false, 122, 0, 0)], 0, [], []⟩
def o1 : En := ⟨[0, 0, 0], [], [zQ], 1, 0, 0⟩
def o2 : En := ⟨[0, 0, 0], [zEv], [zQ], 1, 0, 0⟩
def o3 : En := ⟨[1, 0, 0], [zEv], [zQ], 1, 0, 0⟩
def o4 : En := ⟨[1, 1, 0], [zEv], [zQ], 1, 0, 0⟩
def zM : Mt := ⟨0, 0, [zEv]⟩
def o5 : En := ⟨[1, 1, 1], [], [{ zQ with found := [zM] }], 1, 0, 0⟩
def o6 : En := ⟨[1, 1, 1], [], [zQ], 1, 0, 1⟩
theorem reg_z : regE o0 [zText] = (0, 0, 1, o1) := by
  have h : resB zText = .inr ([(false, 122, 0, 0)], 0, 2) := by decide
  unfold regE resAll
  rw [h]
  rfl
theorem off_z : offerE o1 [zEv] = (1, 0, o2) := by rfl
theorem beat_3 : beatE o2 0 1 = (0, o3) := by
  have : pass 0 ([zEv], [zQ]) = ([zEv], [zQ]) := pass_still ⟨by decide, by decide⟩
  unfold beatE
  show (0, _) = _
  show (0, { o2 with marks := [1, 0, 0], buf := (pass 0 ([zEv], [zQ])).1, qs := (pass 0 ([zEv], [zQ])).2 }) = _
  rw [this]; rfl
theorem beat_4 : beatE o3 1 1 = (0, o4) := by
  have : pass 0 ([zEv], [zQ]) = ([zEv], [zQ]) := pass_still ⟨by decide, by decide⟩
  show (0, { o3 with marks := [1, 1, 0], buf := (pass 0 ([zEv], [zQ])).1, qs := (pass 0 ([zEv], [zQ])).2 }) = _
  rw [this]; rfl
theorem beat_5 : beatE o4 2 1 = (0, o5) := by
  have : pass 1 ([zEv], [zQ]) = ([], [{ zQ with found := [zM] }]) := by
    rw [pass_step (d := .rel zEv) (by rfl) (by decide)]
    exact pass_still ⟨by decide, by decide⟩
  show (0, { o4 with marks := [1, 1, 1], buf := (pass 1 ([zEv], [zQ])).1, qs := (pass 1 ([zEv], [zQ])).2 }) = _
  rw [this]; rfl
theorem drain_z : drainE 9 o5 = ([zM], o6) := by rfl
theorem rem_z : removeE o6 0 = (0, openE) := by rfl
end Go.Proofs.YtbgfannlfagoiaaDoor

namespace Go.Proofs.YtbgfannlfagoiaaDoor
open Go.RowKit Go.Lull
set_option linter.unusedVariables false

theorem SZ.small {s : List Ev × List Qy} (h : ∀ q ∈ s.2, q.found.length + q.runs.length + s.1.length ≤ 1000) : SZ s := fun q hq => by have := h q hq; omega

/-- Some blocks are as they were. -/
def Same (F : List Nat) (w w' : World) : Prop := w.heap.size ≤ w'.heap.size ∧ ∀ b ∈ F, w'.heap[b]? = w.heap[b]?
theorem Same.trans {F : List Nat} {a b c : World} (h : Same F a b) (k : Same F b c) : Same F a c := ⟨Nat.le_trans h.1 k.1, fun x hx => (k.2 x hx).trans (h.2 x hx)⟩
theorem Same.sub {F G : List Nat} {a b : World} (h : Same F a b) (hs : ∀ x ∈ G, x ∈ F) : Same G a b := ⟨h.1, fun x hx => h.2 x (hs x hx)⟩
/-- An Engine that stands so, and blocks that are none of its own. -/
def At (N eb : Nat) (w0 : World) (s : En) (F : List Nat) (w : World) : Prop := ∃ c, EGN N w0 w eb c ∧ c.abs = s ∧ ∀ b ∈ F, b < w.heap.size ∧ b ∉ c.blocks eb

section
variable {N eb : Nat} {w0 w w' : World} {s s' : En} {F : List Nat}
theorem At.sub {G : List Nat} (h : At N eb w0 s F w) (hs : ∀ x ∈ G, x ∈ F) : At N eb w0 s G w := by
  obtain ⟨c, h1, h2, h3⟩ := h
  exact ⟨c, h1, h2, fun b hb => h3 b (hs b hb)⟩
theorem At.below (h : At N eb w0 s F w) : Below N w0 w := by obtain ⟨c, h1, _⟩ := h; exact h1.below
theorem At.lt (h : At N eb w0 s F w) : ∀ b ∈ F, b < w.heap.size := by obtain ⟨c, _, _, h3⟩ := h; exact fun b hb => (h3 b hb).1
/-- What Ext leaves of blocks that are not the Engine's. -/
theorem Ext.keep {B B' : List Nat} (h : Ext w B w' B') {b : Nat} (hl : b < w.heap.size) (hb : b ∉ B) : w'.heap[b]? = w.heap[b]? ∧ b ∉ B' :=
  ⟨h.fr.block b hl hb, fun hm => (h.sub b hm).elim hb (fun h2 => by omega)⟩
theorem At.ext {c c' : CE} (hc : EGN N w0 w eb c) (hF : ∀ b ∈ F, b < w.heap.size ∧ b ∉ c.blocks eb) (hN : N ≤ w0.heap.size) (he : EG w' eb c') (hx : Ext w (c.blocks eb) w' (c'.blocks eb)) (ha : c'.abs = s') : At N eb w0 s' F w' ∧ Same F w w' :=
  ⟨⟨c', hc.next hN he hx, ha, fun b hb => ⟨Nat.lt_of_lt_of_le (hF b hb).1 hx.fr.size, (hx.keep (hF b hb).1 (hF b hb).2).2⟩⟩, hx.fr.size, fun b hb => (hx.keep (hF b hb).1 (hF b hb).2).1⟩
theorem At.then (h : At N eb w0 s F w) (hN : N ≤ w0.heap.size) (hb : Below w.heap.size w w') : At N eb w0 s F w' ∧ Same F w w' := by
  obtain ⟨c, hc, rfl, hF⟩ := h
  exact At.ext hc hF hN (hc.eg.below hb) (Ext.below hb) rfl
/-- A block that was just laid. -/
theorem At.new (h : At N eb w0 s F w) {G : List Nat} (hN : N ≤ w0.heap.size) (hb : Below w.heap.size w w') (hG : ∀ b ∈ G, w.heap.size ≤ b ∧ b < w'.heap.size) : At N eb w0 s (F ++ G) w' ∧ Same F w w' := by
  obtain ⟨c, hc, rfl, hF⟩ := h
  refine ⟨⟨c, hc.then hN hb, rfl, fun b hb' => ?_⟩, hb.size, fun b hb' => hb.block b (hF b hb').1⟩
  rcases List.mem_append.1 hb' with h1 | h1
  · exact ⟨Nat.lt_of_lt_of_le (hF b h1).1 hb.size, (hF b h1).2⟩
  · exact ⟨(hG b h1).2, fun hm => by have := hc.eg.lt b hm; have := (hG b h1).1; omega⟩
theorem at_beat {src t : Int} (h : At N eb w0 s F w) (hN : N ≤ w0.heap.size) (htm : TM s.buf) (hsz : SZ (s.buf, s.qs)) :
    Calls Tryd.prog 22 #[.pointer (some ⟨eb, 0, none⟩), .int .i64 src, .int .i64 t] w fun e w' => e = .returned (.int .i64 (beatE s src t).1) ∧ At N eb w0 (beatE s src t).2 F w' ∧ Same F w w' := by
  obtain ⟨c, hc, rfl, hF⟩ := h
  refine (beat_eg w eb c src t hc.eg htm hsz).mono ?_
  rintro e w' ⟨rfl, c', g1, g2, g3⟩
  exact ⟨rfl, At.ext hc hF hN g1 g3 g2⟩
theorem at_wm (h : At N eb w0 s F w) :
    Calls Tryd.prog 31 #[.pointer (some ⟨eb, 0, none⟩)] w fun e w' => e = .returned (.int .i64 (markB s.marks)) ∧ w' = w := by
  obtain ⟨c, hc, rfl, hF⟩ := h
  exact wm_eg w eb c hc.eg
theorem at_runs {n : Int} (h : At N eb w0 s F w) (hN : N ≤ w0.heap.size) :
    Calls Tryd.prog 24 #[.pointer (some ⟨eb, 0, none⟩), .int .i64 n] w fun e w' => e = .returned (.int .i64 (runsE s n)) ∧ At N eb w0 s F w' ∧ Same F w w' := by
  have h' := h
  obtain ⟨c, hc, rfl, hF⟩ := h
  refine (runs_eg w eb c n hc.eg).mono ?_
  rintro e w' ⟨rfl, hb⟩
  exact ⟨rfl, h'.then hN hb⟩
theorem at_waiting {n : Int} (h : At N eb w0 s F w) (hN : N ≤ w0.heap.size) :
    Calls Tryd.prog 23 #[.pointer (some ⟨eb, 0, none⟩), .int .i64 n] w fun e w' => e = .returned (.int .i64 (waitE s n)) ∧ At N eb w0 s F w' ∧ Same F w w' := by
  have h' := h
  obtain ⟨c, hc, rfl, hF⟩ := h
  refine (waiting_eg w eb c n hc.eg).mono ?_
  rintro e w' ⟨rfl, hb⟩
  exact ⟨rfl, h'.then hN hb⟩
theorem nums_nodup {c : CE} (h : NR c.abs.qs) : (c.qs.map (·.2.num)).Nodup := by
  have : c.qs.map (·.2.num) = c.abs.qs.map (·.num) := by simp [CE.abs, CQ.abs]
  rw [this]
  unfold List.Nodup
  rw [List.pairwise_map]
  exact h.imp (fun hab => Nat.ne_of_lt hab)
theorem at_remove {n : Int} (h : At N eb w0 s F w) (hN : N ≤ w0.heap.size) (hr : NR s.qs) :
    Calls Tryd.prog 32 #[.pointer (some ⟨eb, 0, none⟩), .int .i64 n] w fun e w' => e = .returned (.int .i64 (removeE s n).1) ∧ At N eb w0 (removeE s n).2 F w' ∧ Same F w w' := by
  obtain ⟨c, hc, rfl, hF⟩ := h
  refine (remove_eg w eb c n hc.eg (nums_nodup hr)).mono ?_
  rintro e w' ⟨rfl, c', g1, g2, g3⟩
  exact ⟨rfl, At.ext hc hF hN g1 g3 g2⟩
/-- Offer of some events. -/
theorem at_offer {l : List Ev} {v : Value} (h : At N eb w0 s F w) (hN : N ≤ w0.heap.size) (hs : SB s.buf) (hl : l.length ≤ 1000000000) (hrow : Row w 56 4 v l.length (l.flatMap evC)) (hv : ∀ b, v.ownBlock = some b → b ∈ F) :
    Calls Tryd.prog 21 #[.pointer (some ⟨eb, 0, none⟩), v] w fun e w' => e = .returned (.tuple #[.int .i64 (offerE s l).1, .int .i64 (offerE s l).2.1]) ∧ At N eb w0 (offerE s l).2.2 F w' ∧ Same F w w' := by
  obtain ⟨c, hc, rfl, hF⟩ := h
  refine (offer_eg w eb c v l hc.eg hs hl hrow (fun b hb => (hF b (hv b hb)).2)).mono ?_
  rintro e w' ⟨rfl, c', g1, g2, g3⟩
  exact ⟨rfl, At.ext hc hF hN g1 g3 g2⟩
/-- Offer of one event, in a list that was just laid. -/
theorem at_offer1 {x : Ev} {M : Nat} (h : At N eb w0 s F w) (hN : N ≤ w0.heap.size) (hs : SB s.buf) (hM : M = w.heap.size) :
    Calls Tryd.prog 21 #[.pointer (some ⟨eb, 0, none⟩), .slice (some ⟨M, 0, none⟩) 1 1] (w.alloc (.cells #[.int .i64 x.1, .int .i64 x.2.1, .int .u8 x.2.2.1.toNat, .int .i64 x.2.2.2] 56)) fun e w' => e = .returned (.tuple #[.int .i64 (offerE s [x]).1, .int .i64 (offerE s [x]).2.1]) ∧ At N eb w0 (offerE s [x]).2.2 F w' ∧ Same F w w' := by
  subst hM
  obtain ⟨h1, h2⟩ := h.new (G := [w.heap.size]) (w' := w.alloc (.cells #[.int .i64 x.1, .int .i64 x.2.1, .int .u8 x.2.2.1.toNat, .int .i64 x.2.2.2] 56)) hN ((Below.refl _ _).alloc (Nat.le_refl _) _) (by simp)
  refine (at_offer (l := [x]) (v := .slice (some ⟨w.heap.size, 0, none⟩) 1 1) h1 hN hs (by simp) ?_ (fun b hb => ?_)).mono ?_
  · refine ⟨rfl, Or.inr ⟨w.heap.size, 0, 1, _, rfl, heap_alloc_new _ _, Nat.le_refl _, by unfold maxLen; omega, by simp, rfl⟩⟩
  · have : w.heap.size = b := Option.some.inj hb
    simp [this]
  · rintro e w' ⟨rfl, g1, g2⟩
    exact ⟨rfl, g1.sub (fun x hx => List.mem_append_left _ hx), h2.trans (g2.sub (fun x hx => List.mem_append_left _ hx))⟩
/-- Drain. -/
theorem at_drain {n : Int} (h : At N eb w0 s F w) (hN : N ≤ w0.heap.size) (hr : NR s.qs) (ht : totF s.qs ≤ 1073741824) :
    Calls Tryd.prog 25 #[.pointer (some ⟨eb, 0, none⟩), .int .i64 n] w fun e w' => ∃ v L, e = .returned v ∧ L.map Prod.fst = (drainE n.toNat s).1 ∧ MS w' v L ∧ At N eb w0 (drainE n.toNat s).2 (F ++ (v.ownBlock.toList ++ eblk (L.map fp))) w' ∧ Same F w w' ∧ (∀ b ∈ v.ownBlock.toList ++ eblk (L.map fp), b ∉ F) := by
  obtain ⟨c, hc, rfl, hF⟩ := h
  refine (drain_eg w eb c n hc.eg (nums_nodup hr) ht).mono ?_
  rintro e w' ⟨v, L, c', rfl, g1, g2, g3, g4, g5, g6⟩
  obtain ⟨⟨c'', k1, k2, k3⟩, k4⟩ := At.ext hc hF hN g1 g3 rfl
  refine ⟨v, L, rfl, by rw [g2], ⟨g4, fun x hx => ?_⟩, ⟨c', hc.next hN g1 g3, by rw [g2], fun b hb => ?_⟩, k4, fun b hb hm => ?_⟩
  · exact Row.of_own (g5.ev (fp x) (List.mem_map.2 ⟨x, hx, rfl⟩))
  · rcases List.mem_append.1 hb with h1 | h1
    · exact ⟨Nat.lt_of_lt_of_le (hF b h1).1 g3.fr.size, (g3.keep (hF b h1).1 (hF b h1).2).2⟩
    · refine ⟨?_, (g6 b h1).1⟩
      rcases List.mem_append.1 h1 with h2 | h2
      · exact g5.lt b h2
      · exact g5.elt h2
  · rcases (g6 b hb).2 with h1 | h1
    · exact (hF b hm).2 h1
    · have := (hF b hm).1; omega
/-- Register. -/
theorem at_reg {ad : Option Addr} {b off cap : Nat} {ss : List ByteArray} {m : Int} (h : At N eb w0 s F w) (hN : N ≤ w0.heap.size) (hm : w.cell? ⟨0, 0, none⟩ = some (.int .i64 m)) (hX : TX w ad b off ss) (hlen : ss.length ≤ 1048576) (hcap : ss.length ≤ cap) (hnx : s.next ≤ 1000000000) :
    Calls Tryd.prog 19 #[.pointer (some ⟨eb, 0, none⟩), .slice ad ss.length cap] w fun e w' => ∃ v, e = .returned (.tuple #[v, .int .i64 (regE s (ss.map (·.data.toList))).1, .int .i64 (regE s (ss.map (·.data.toList))).2.1]) ∧
      Row w' 3 1 v (regE s (ss.map (·.data.toList))).2.2.1 (numsV s.next (regE s (ss.map (·.data.toList))).2.2.1) ∧ At N eb w0 (regE s (ss.map (·.data.toList))).2.2.2 (F ++ v.ownBlock.toList) w' ∧ Same F w w' ∧ (∀ b ∈ v.ownBlock.toList, b ∉ F) := by
  obtain ⟨c, hc, rfl, hF⟩ := h
  refine (register_eg w eb c ad b off cap ss m hc.eg hm hX hlen hcap hnx).mono ?_
  rintro e w' ⟨v, c', rfl, g1, g2, g3, g4, g5⟩
  refine ⟨v, rfl, g4, ⟨c', hc.next hN g1 g3, g2, fun b hb => ?_⟩, (At.ext hc hF hN g1 g3 g2).2, fun b hb hm => by have := (g5 b (by simpa using hb)).1; have := (hF b hm).1; omega⟩
  rcases List.mem_append.1 hb with h1 | h1
  · exact ⟨Nat.lt_of_lt_of_le (hF b h1).1 g3.fr.size, (g3.keep (hF b h1).1 (hF b h1).2).2⟩
  · exact ⟨g4.lt b (by simpa using h1), (g5 b (by simpa using h1)).2⟩
end

/-- Two Engines. -/
def TW (N ex ey : Nat) (w0 : World) (sx sy : En) (F : List Nat) (w : World) : Prop :=
  ∃ cx cy, EGN N w0 w ex cx ∧ EGN N w0 w ey cy ∧ cx.abs = sx ∧ cy.abs = sy ∧ (∀ b ∈ cx.blocks ex, b ∉ cy.blocks ey) ∧ ∀ b ∈ F, b < w.heap.size ∧ b ∉ cx.blocks ex ∧ b ∉ cy.blocks ey
section
variable {N ex ey : Nat} {w0 w w' : World} {sx sy : En} {F : List Nat}
theorem TW.left (h : TW N ex ey w0 sx sy F w) : ∃ G, At N ex w0 sx (G ++ F) w ∧ ∀ s' F2 w', At N ex w0 s' ((G ++ F) ++ F2) w' → Same (G ++ F) w w' → (∀ b ∈ F2, b ∉ G) → TW N ex ey w0 s' sy (F ++ F2) w' := by
  obtain ⟨cx, cy, h1, h2, rfl, rfl, h5, h6⟩ := h
  refine ⟨cy.blocks ey, ⟨cx, h1, rfl, fun b hb => ?_⟩, ?_⟩
  · rcases List.mem_append.1 hb with hb | hb
    · exact ⟨h2.eg.lt b hb, fun hm => h5 b hm hb⟩
    · exact ⟨(h6 b hb).1, (h6 b hb).2.1⟩
  · rintro s' F2 w' ⟨cx', k1, rfl, k3⟩ hS hF2
    refine ⟨cx', cy, k1, ⟨h2.eg.same hS.1 (fun b hb => hS.2 b (List.mem_append_left _ hb)), k1.below, h2.new⟩, rfl, rfl, fun b hb hm => (k3 b (List.mem_append_left _ (List.mem_append_left _ hm))).2 hb, fun b hb => ?_⟩
    rcases List.mem_append.1 hb with hb | hb
    · exact ⟨(k3 b (List.mem_append_left _ (List.mem_append_right _ hb))).1, (k3 b (List.mem_append_left _ (List.mem_append_right _ hb))).2, (h6 b hb).2.2⟩
    · exact ⟨(k3 b (List.mem_append_right _ hb)).1, (k3 b (List.mem_append_right _ hb)).2, hF2 b hb⟩
theorem TW.swap (h : TW N ex ey w0 sx sy F w) : TW N ey ex w0 sy sx F w := by
  obtain ⟨cx, cy, h1, h2, h3, h4, h5, h6⟩ := h
  exact ⟨cy, cx, h2, h1, h4, h3, fun b hb hm => h5 b hm hb, fun b hb => ⟨(h6 b hb).1, (h6 b hb).2.2, (h6 b hb).2.1⟩⟩
theorem TW.sub {G : List Nat} (h : TW N ex ey w0 sx sy F w) (hs : ∀ x ∈ G, x ∈ F) : TW N ex ey w0 sx sy G w := by
  obtain ⟨cx, cy, h1, h2, h3, h4, h5, h6⟩ := h
  exact ⟨cx, cy, h1, h2, h3, h4, h5, fun b hb => h6 b (hs b hb)⟩
theorem TW.below (h : TW N ex ey w0 sx sy F w) : Below N w0 w := by obtain ⟨cx, cy, h1, _⟩ := h; exact h1.below
end
end Go.Proofs.YtbgfannlfagoiaaDoor

namespace Go.Proofs.YtbgfannlfagoiaaDoor
open Go.RowKit Go.Lull
set_option linter.unusedVariables false

theorem tx_new (w : World) (ss : List ByteArray) (N : Nat) (hN : N = w.heap.size) : TX (w.alloc (.cells (ss.map Value.string).toArray 9)) (some ⟨N, 0, none⟩) N 0 ss := by
  subst hN
  refine ⟨fun _ => rfl, fun _ => by simp, fun k hk => ?_⟩
  have : (w.alloc (.cells (ss.map Value.string).toArray 9)).heap[w.heap.size]? = some (.cells (ss.map Value.string).toArray 9 (0, 0)) := heap_alloc_new _ _
  rw [Nat.zero_add, cell_of_row _ _ k _ _ _ this]
  simp [hk]

set_option maxRecDepth 8000 in
set_option maxHeartbeats 4000000 in
theorem opened_any (w : World) (m : Int) (hm : w.cell? ⟨0, 0, none⟩ = some (.int .i64 m)) :
    Calls Tryd.prog 15 #[] w fun e w' => ∃ eb, e = .returned (.pointer (some ⟨eb, 0, none⟩)) ∧ At w.heap.size eb w openE [] w' := by
  have hz0 : 0 < w.heap.size := block_lt_of_cell hm
  obtain ⟨eb, heb⟩ : ∃ eb, w.heap.size + 1 = eb := ⟨_, rfl⟩
  have hnew : Hid (Calls Tryd.prog 33 #[.int .i64 3] w fun e w1 => e = .returned (.tuple #[.pointer (some ⟨eb, 0, none⟩), .int .i64 0]) ∧ Hid (At w.heap.size eb w o0 [] w1)) := by
    rw [← heb]
    refine (new_eg 3 w (by omega) (by omega)).mono ?_
    rintro e w1 ⟨rfl, hb, hE⟩
    refine ⟨rfl, newE 3 w.heap.size, ⟨hE, hb, ?_⟩, rfl, by simp⟩
    intro b hb
    simp [newE, CE.blocks, CE.base, qsb, Value.ownBlock] at hb
    omega
  obtain ⟨Z, hZ⟩ : ∃ Z : ByteArray, Z = ⟨#[122, 32, 119, 105, 116, 104, 105, 110, 32, 48]⟩ := ⟨_, rfl⟩
  have hreg : Hid (∀ w1, At w.heap.size eb w o0 [] w1 → Calls Tryd.prog 19 #[.pointer (some ⟨eb, 0, none⟩), .slice (some ⟨w1.heap.size, 0, none⟩) 1 1] (w1.alloc (.cells #[.string Z] 9)) fun e w2 => ∃ g off cap, e = .returned (.tuple #[.slice (some ⟨g, off, none⟩) 1 cap, .int .i64 0, .int .i64 0]) ∧ 1 ≤ cap ∧ w2.cell? ⟨g, off, none⟩ = some (.int .i64 0) ∧ Hid (At w.heap.size eb w o1 [g] w2)) := by
    intro w1 hA
    have hb1 : Below w1.heap.size w1 (w1.alloc (.cells #[.string Z] 9)) := (Below.refl _ _).alloc (Nat.le_refl _) _
    have hA1 := (hA.then (Nat.le_refl _) hb1).1
    have hm1 : (w1.alloc (.cells #[.string Z] 9)).cell? ⟨0, 0, none⟩ = some (.int .i64 m) := (hA1.below.cell (p := ⟨0, 0, none⟩) hz0).trans hm
    refine (at_reg (ss := [Z]) (cap := 1) hA1 (Nat.le_refl _) hm1 (tx_new w1 [Z] _ rfl) (by simp) (by simp) (by decide)).mono ?_
    have hr : regE o0 ([Z].map (·.data.toList)) = (0, 0, 1, o1) := by rw [hZ]; exact reg_z
    rw [hr]
    rintro e w2 ⟨v, rfl, hrow, hA2, _⟩
    obtain ⟨g, off, cap, rfl, hc⟩ := row_some hrow (show 0 < 1 by omega)
    refine ⟨g, off, cap, rfl, hc, ?_, hA2.sub (by intro x hx; simp at hx; subst hx; simp [Value.ownBlock])⟩
    have := hrow.cell 0 (by decide)
    simpa [numsV, o0] using this
  have hoff : Hid (∀ w2 g, At w.heap.size eb w o1 [g] w2 → Calls Tryd.prog 21 #[.pointer (some ⟨eb, 0, none⟩), .slice (some ⟨w2.heap.size, 0, none⟩) 1 1] (w2.alloc (.cells #[.int .i64 1, .int .i64 0, .int .u8 122, .int .i64 0] 56)) fun e w3 => e = .returned (.tuple #[.int .i64 1, .int .i64 0]) ∧ Hid (At w.heap.size eb w o2 [] w3) ∧ Hid (w3.heap[g]? = w2.heap[g]?)) := by
    intro w2 g hA
    refine (at_offer1 (x := zEv) hA (Nat.le_refl _) List.Pairwise.nil rfl).mono ?_
    rw [off_z]
    rintro e w3 ⟨rfl, h1, h2⟩
    exact ⟨rfl, h1.sub (by simp), h2.2 g (by simp)⟩
  have hb3 : Hid (∀ W, At w.heap.size eb w o2 [] W → Calls Tryd.prog 22 #[.pointer (some ⟨eb, 0, none⟩), .int .i64 0, .int .i64 1] W fun e w' => e = .returned (.int .i64 0) ∧ Hid (At w.heap.size eb w o3 [] w')) := by
    intro W hA
    refine (at_beat (src := 0) (t := 1) hA (Nat.le_refl _) (by intro e he; simp [o2] at he; subst he; decide) (SZ.small (by decide))).mono ?_
    rw [beat_3]
    rintro e w' ⟨rfl, h1, _⟩
    exact ⟨rfl, h1⟩
  have hb4 : Hid (∀ W, At w.heap.size eb w o3 [] W → Calls Tryd.prog 22 #[.pointer (some ⟨eb, 0, none⟩), .int .i64 1, .int .i64 1] W fun e w' => e = .returned (.int .i64 0) ∧ Hid (At w.heap.size eb w o4 [] w')) := by
    intro W hA
    refine (at_beat (src := 1) (t := 1) hA (Nat.le_refl _) (by intro e he; simp [o3] at he; subst he; decide) (SZ.small (by decide))).mono ?_
    rw [beat_4]
    rintro e w' ⟨rfl, h1, _⟩
    exact ⟨rfl, h1⟩
  have hb5 : Hid (∀ W, At w.heap.size eb w o4 [] W → Calls Tryd.prog 22 #[.pointer (some ⟨eb, 0, none⟩), .int .i64 2, .int .i64 1] W fun e w' => e = .returned (.int .i64 0) ∧ Hid (At w.heap.size eb w o5 [] w')) := by
    intro W hA
    refine (at_beat (src := 2) (t := 1) hA (Nat.le_refl _) (by intro e he; simp [o4] at he; subst he; decide) (SZ.small (by decide))).mono ?_
    rw [beat_5]
    rintro e w' ⟨rfl, h1, _⟩
    exact ⟨rfl, h1⟩
  have hdr : Hid (∀ W, At w.heap.size eb w o5 [] W → Calls Tryd.prog 25 #[.pointer (some ⟨eb, 0, none⟩), .int .i64 9] W fun e w' => ∃ g off cap eg eo ec, e = .returned (.slice (some ⟨g, off, none⟩) 1 cap) ∧ 1 ≤ cap ∧ 1 ≤ ec ∧ Hid (At w.heap.size eb w o6 [g, eg] w') ∧ Hid (w'.cell? ⟨g, off + 1, none⟩ = some (.int .i64 0) ∧ w'.cell? ⟨g, off + 2, none⟩ = some (.slice (some ⟨eg, eo, none⟩) 1 ec) ∧ w'.cell? ⟨eg, eo + 2, none⟩ = some (.int .u8 122))) := by
    intro W hA
    refine (at_drain (n := 9) hA (Nat.le_refl _) (List.pairwise_singleton _ _) (by decide)).mono ?_
    have hd : drainE (9 : Int).toNat o5 = ([zM], o6) := drain_z
    rw [hd]
    rintro e w' ⟨v, L, rfl, hL, hM, hA2, _⟩
    obtain ⟨mv, rfl⟩ : ∃ mv, L = [(zM, mv)] := by
      have hlen : L.length = 1 := by have := congrArg List.length hL; simpa using this
      obtain ⟨x, rfl⟩ := List.length_eq_one_iff.1 hlen
      have hx : x.1 = zM := by simpa using hL
      exact ⟨x.2, by rw [← hx]⟩
    obtain ⟨g, off, cap, rfl, hc⟩ := row_some hM.row (show 0 < 1 by omega)
    obtain ⟨c0, c1, c2⟩ := hM.at_ 0 (by simp)
    have hev := hM.ev (zM, mv) (by simp)
    obtain ⟨eg, eo, ec, hmv, he⟩ := row_some hev (show 0 < 1 by omega)
    simp only at hmv
    subst hmv
    obtain ⟨_, _, d2, _⟩ := ev_at hev 0 (by decide)
    refine ⟨g, off, cap, eg, eo, ec, rfl, hc, he, hA2.sub ?_, ?_⟩
    · intro x hx
      simp at hx
      rcases hx with rfl | rfl
      · simp [Value.ownBlock]
      · simp [eblk, fp, Value.ownBlock]
    · simp only [Nat.zero_mul, Nat.add_zero] at c1 c2 d2
      exact ⟨c1, c2, d2⟩
  have hrm : Hid (∀ W g eg, At w.heap.size eb w o6 [g, eg] W → Calls Tryd.prog 32 #[.pointer (some ⟨eb, 0, none⟩), .int .i64 0] W fun e w' => e = .returned (.int .i64 0) ∧ Hid (At w.heap.size eb w openE [] w') ∧ Hid (w'.heap[g]? = W.heap[g]? ∧ w'.heap[eg]? = W.heap[eg]?)) := by
    intro W g eg hA
    refine (at_remove (n := 0) hA (Nat.le_refl _) (List.pairwise_singleton _ _)).mono ?_
    rw [rem_z]
    rintro e w' ⟨rfl, h1, h2⟩
    exact ⟨rfl, h1.sub (by simp), h2.2 g (by simp), h2.2 eg (by simp)⟩
  have hwm : Hid (∀ W, At w.heap.size eb w openE [] W → Calls Tryd.prog 31 #[.pointer (some ⟨eb, 0, none⟩)] W fun e w' => e = .returned (.int .i64 1) ∧ w' = W) := fun W hA => at_wm hA
  clear hm heb
  subst hZ
  go_enter Tryd.func15, Tryd.ntmps15
  go_wp2_with (first | (go_at_call 33; refine hnew.out.mono ?_; rintro e w1 ⟨rfl, hA1⟩) | (go_at_call 19; refine (hreg.out w1 hA1.out).mono ?_; rintro e w2 ⟨g, off, cap, rfl, hcap, hl0, hA2⟩) | (go_at_call 21; refine (hoff.out w2 g hA2.out).mono ?_; rintro e w3 ⟨rfl, hA3, hg3⟩; have hl3 := (World.cell?_of_block (a := ⟨g, off, none⟩) hg3.out).trans hl0))
  refine wp_loop_rounds 4 ?_
  rw [rounds_succ]
  go_wp2_with (go_at_call 22; refine (hb3.out _ hA3.out).mono ?_; rintro e w4 ⟨rfl, hA4⟩)
  rw [rounds_succ]
  go_wp2_with (go_at_call 22; refine (hb4.out _ hA4.out).mono ?_; rintro e w5 ⟨rfl, hA5⟩)
  rw [rounds_succ]
  go_wp2_with (go_at_call 22; refine (hb5.out _ hA5.out).mono ?_; rintro e w6 ⟨rfl, hA6⟩)
  rw [rounds_succ]
  go_wp2_with (first | (go_at_call 25; refine (hdr.out _ hA6.out).mono ?_; rintro e w7 ⟨dg, doff, dcap, eg, eo, ec, rfl, hdc, hec, hA7, hdcell⟩) | (go_at_call 32; refine (hrm.out _ _ _ hA7.out).mono ?_; rintro e w8 ⟨rfl, hA8, hk8⟩; have p1 := (World.cell?_of_block (a := ⟨dg, doff + 1, none⟩) hk8.out.1).trans hdcell.out.1; have p2 := (World.cell?_of_block (a := ⟨dg, doff + 2, none⟩) hk8.out.1).trans hdcell.out.2.1; have p3 := (World.cell?_of_block (a := ⟨eg, eo + 2, none⟩) hk8.out.2).trans hdcell.out.2.2) | (go_at_call 31; refine (hwm.out _ hA8.out).mono ?_; rintro e w9 ⟨rfl, rfl⟩))
  go_ret
  exact ⟨eb, rfl, hA8.out⟩
end Go.Proofs.YtbgfannlfagoiaaDoor

namespace Go.Proofs.YtbgfannlfagoiaaDoor
open Go.RowKit Go.Lull
set_option linter.unusedVariables false

theorem RAW.mono {w0 w : World} {v : Value} {l : List Int} (h : RAW w0 v l) (hb : Below w0.heap.size w0 w) : RAW w v l := by
  obtain ⟨a, b, off, cap, rfl, hc, h1, h2⟩ := h.ex
  refine ⟨⟨a, b, off, cap, rfl, hc, fun hn => ⟨(h1 hn).1, Nat.lt_of_lt_of_le (h1 hn).2 hb.size⟩, fun k hk => ?_⟩, h.fits, h.len⟩
  have hn : l ≠ [] := fun e => by rw [e] at hk; cases hk
  rw [hb.cell (p := ⟨b, off + k, none⟩) (h1 hn).2]
  exact h2 k hk
/-- The Engine with three patterns. -/
def qE (a b c : List Int) : En := { openE with qs := newQs 1 [patSt a, patSt b, patSt c], next := 4 }
theorem reg_three (a b c : List Int) : regE openE [patB a, patB b, patB c] = (0, 0, 3, qE a b c) := by
  unfold regE resAll resAll resAll resAll
  rw [patB_ok, patB_ok, patB_ok]
  rfl

set_option maxRecDepth 8000 in
set_option maxHeartbeats 2000000 in
theorem queries_any {eb : Nat} {w0 w : World} {F : List Nat} (m : Int) (hm : w0.cell? ⟨0, 0, none⟩ = some (.int .i64 m)) (va vb vc : Value) (a b c : List Int) (ha : RAW w0 va a) (hb : RAW w0 vb b) (hc : RAW w0 vc c) (h : At w0.heap.size eb w0 openE F w) :
    Calls Tryd.prog 30 #[.pointer (some ⟨eb, 0, none⟩), va, vb, vc] w fun e w' => e = .returned (.bool true) ∧ At w0.heap.size eb w0 (qE a b c) F w' ∧ Same F w w' := by
  have hz0 : 0 < w0.heap.size := block_lt_of_cell hm
  have hpa := Hid.mk' (pattern_any w va a (ha.mono h.below))
  have hpb := Hid.mk' (fun W (hB : Below w0.heap.size w0 W) => pattern_any W vb b (hb.mono hB))
  have hpc := Hid.mk' (fun W (hB : Below w0.heap.size w0 W) => pattern_any W vc c (hc.mono hB))
  have hwB := Hid.mk' h.below
  have hreg : Hid (∀ (W : World) (Sa Sb Sc : ByteArray), Below w.heap.size w W → Sa.data.toList = patB a → Sb.data.toList = patB b → Sc.data.toList = patB c → Calls Tryd.prog 19 #[.pointer (some ⟨eb, 0, none⟩), .slice (some ⟨W.heap.size, 0, none⟩) 3 3] (W.alloc (.cells #[.string Sa, .string Sb, .string Sc] 9)) fun e w2 => ∃ g off cap, e = .returned (.tuple #[.slice (some ⟨g, off, none⟩) 3 cap, .int .i64 0, .int .i64 0]) ∧ 3 ≤ cap ∧ w2.cell? ⟨g, off, none⟩ = some (.int .i64 1) ∧ w2.cell? ⟨g, off + 1, none⟩ = some (.int .i64 2) ∧ w2.cell? ⟨g, off + 2, none⟩ = some (.int .i64 3) ∧ Hid (At w0.heap.size eb w0 (qE a b c) F w2 ∧ Same F w w2)) := by
    intro W Sa Sb Sc hB e1 e2 e3
    have hb1 : Below w.heap.size w (W.alloc (.cells #[.string Sa, .string Sb, .string Sc] 9)) := hB.alloc hB.size _
    obtain ⟨hA1, hS1⟩ := h.then (Nat.le_refl _) hb1
    have hm1 : (W.alloc (.cells #[.string Sa, .string Sb, .string Sc] 9)).cell? ⟨0, 0, none⟩ = some (.int .i64 m) := (hA1.below.cell (p := ⟨0, 0, none⟩) hz0).trans hm
    refine (at_reg (ss := [Sa, Sb, Sc]) (cap := 3) hA1 (Nat.le_refl _) hm1 (tx_new W [Sa, Sb, Sc] _ rfl) (by simp) (by simp) (by decide)).mono ?_
    have hr : regE openE ([Sa, Sb, Sc].map (·.data.toList)) = (0, 0, 3, qE a b c) := by
      simp only [List.map_cons, List.map_nil, e1, e2, e3]; exact reg_three a b c
    rw [hr]
    rintro e w2 ⟨v, rfl, hrow, hA2, hS2, _⟩
    obtain ⟨g, off, cap, rfl, hc⟩ := row_some hrow (show 0 < 3 by omega)
    have c0 := hrow.cell 0 (show 0 < 3 * 1 by omega)
    have c1 := hrow.cell 1 (show 1 < 3 * 1 by omega)
    have c2 := hrow.cell 2 (show 2 < 3 * 1 by omega)
    refine ⟨g, off, cap, rfl, hc, by simpa [numsV, openE] using c0, by simpa [numsV, openE] using c1, by simpa [numsV, openE] using c2, hA2.sub (fun x hx => List.mem_append_left _ hx), hS1.trans hS2⟩
  clear h ha hb hc hm
  go_enter Tryd.func30, Tryd.ntmps30
  go_wp2_with (first
    | (go_at_call_of 50 va; with_reducible refine hpa.out.mono ?_; rintro e w1 ⟨Sa, rfl, e1, hB1⟩)
    | (go_at_call_of 50 vb; with_reducible refine (hpb.out w1 (hwB.out.trans (hB1.mono hwB.out.size))).mono ?_; rintro e w2 ⟨Sb, rfl, e2, hB2⟩)
    | (go_at_call_of 50 vc; with_reducible refine (hpc.out w2 ((hwB.out.trans (hB1.mono hwB.out.size)).trans (hB2.mono (Nat.le_trans hwB.out.size hB1.size)))).mono ?_; rintro e w3 ⟨Sc, rfl, e3, hB3⟩)
    | (go_at_call 19; refine (hreg.out w3 Sa Sb Sc ((hB1.trans (hB2.mono hB1.size)).trans (hB3.mono (Nat.le_trans hB1.size hB2.size))) e1 e2 e3).mono ?_; rintro e w4 ⟨g, off, cap, rfl, hcap, c0, c1, c2, hA⟩))
  go_ret
  exact ⟨rfl, hA.out⟩
end Go.Proofs.YtbgfannlfagoiaaDoor
