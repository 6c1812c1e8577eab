import Derived.Test.YtbgfannlfagoiaaGreatDoorZ26
import Derived.Shelf.SlSortCmp.QuietGrown
import Derived.BigQuiet
import Derived.Test.YtbgfannlfagoiaaGreatDoorZ05
import Derived.Test.YtbgfannlfagoiaaGreatDoorZ13
import Derived.Test.YtbgfannlfagoiaaGreatDoorZ22
import Derived.Test.YtbgfannlfagoiaaGreatDoorZ06
import Derived.Test.YtbgfannlfagoiaaGreatDoorZ01
import Derived.WalkKit
import Derived.WalkSpells
import Derived.WalkLawsBesides
namespace Go.Proofs.YtbgfannlfagoiaaGreatDoor
open Go.RowKit Go.Lull
set_option linter.unusedVariables false

set_option maxHeartbeats 400000 in
theorem len_buf (w : World) (pb o n cap : Nat) (a : Option Addr) (hp : w.cell? ⟨pb, o, none⟩ = some (.slice a n cap)) :
  Calls Tryz.prog 88 #[.pointer (some ⟨pb, o, none⟩)] w fun e w' => e = .returned (.int .i64 n) ∧ w' = w := by
 go_enter Tryz.func88, Tryz.ntmps88
 go_wp2
 go_ret
 exact ⟨rfl, rfl⟩

set_option maxHeartbeats 1000000 in
theorem proper_any (w : World) (n : Nat) (x : Ev) :
  Calls Tryz.prog 87 #[.agg #[.int .i64 x.1, .int .i64 x.2.1, .int .u8 x.2.2.1.toNat, .int .i64 x.2.2.2], .int .i64 n] w fun e w' => e = .returned (.bool (properB n x)) ∧ ∃ q os, w' = Go.Sort.grow (w.drewN q) os := by
 obtain ⟨s, t, k, v⟩ := x
 obtain ⟨R, hR⟩ : ∃ R, properB n (s, t, k, v) = R := ⟨_, rfl⟩
 rw [hR]
 simp only
 unfold properB at hR
 simp only at hR
 by_cases h1 : 0 ≤ s
 ·by_cases h2 : s < n
  ·by_cases h3 : 0 ≤ t
   ·by_cases h4 : t ≤ 1000000
    ·by_cases h5 : (97 : Int) ≤ (k.toNat : Int)
     ·by_cases h6 : (k.toNat : Int) ≤ 122
      ·by_cases h7 : -1000 ≤ v
       ·by_cases h8 : v ≤ 1000
        ·have h5' : 97 ≤ k.toNat := by omega
         have h6' : k.toNat ≤ 122 := by omega
         simp [h1, h2, h3, h4, h5', h6', h7, h8] at hR
         subst hR
         clear h5' h6'
         go_enter Tryz.func87, Tryz.ntmps87
         go_wp2
         go_ret
         exact ⟨rfl, 0, _, alloc_is_grow _ _⟩
        ·simp [h8] at hR
         subst hR
         go_enter Tryz.func87, Tryz.ntmps87
         go_wp2
         go_ret
         exact ⟨rfl, 0, _, alloc_is_grow _ _⟩
       ·simp [h7] at hR
        subst hR
        go_enter Tryz.func87, Tryz.ntmps87
        go_wp2
        go_ret
        exact ⟨rfl, 0, _, alloc_is_grow _ _⟩
      ·have h6' : ¬ k.toNat ≤ 122 := by omega
       simp [h6'] at hR
       subst hR
       clear h6'
       go_enter Tryz.func87, Tryz.ntmps87
       go_wp2
       go_ret
       exact ⟨rfl, 0, _, alloc_is_grow _ _⟩
     ·have h5' : ¬ 97 ≤ k.toNat := by omega
      simp [h5'] at hR
      subst hR
      clear h5'
      go_enter Tryz.func87, Tryz.ntmps87
      go_wp2
      go_ret
      exact ⟨rfl, 0, _, alloc_is_grow _ _⟩
    ·simp [h4] at hR
     subst hR
     go_enter Tryz.func87, Tryz.ntmps87
     go_wp2
     go_ret
     exact ⟨rfl, 0, _, alloc_is_grow _ _⟩
   ·simp [h3] at hR
    subst hR
    go_enter Tryz.func87, Tryz.ntmps87
    go_wp2
    go_ret
    exact ⟨rfl, 0, _, alloc_is_grow _ _⟩
  ·simp [h2] at hR
   subst hR
   go_enter Tryz.func87, Tryz.ntmps87
   go_wp2
   go_ret
   exact ⟨rfl, 0, _, alloc_is_grow _ _⟩
 ·simp [h1] at hR
  subst hR
  go_enter Tryz.func87, Tryz.ntmps87
  go_wp2
  go_ret
  exact ⟨rfl, 0, _, alloc_is_grow _ _⟩

end Go.Proofs.YtbgfannlfagoiaaGreatDoor

namespace Go.Proofs.YtbgfannlfagoiaaGreatDoor
open Go.RowKit Go.Lull
set_option linter.unusedVariables false

/-- What take leaves. -/
def TkPost (w : World) (eb : Nat) (c : CE) (x : Ev) (e : Ending) (w' : World) : Prop :=
 e = .returned (.int .i64 (takeE c.abs x).1) ∧ ∃ c', EG w' eb c' ∧ c'.abs = (takeE c.abs x).2 ∧ Ext w (c.blocks eb) w' (c'.blocks eb)

theorem EG.buf_ne {w : World} {eb : Nat} {c : CE} (h : EG w eb c) : c.bv.ownBlock ≠ some eb := fun hm => by
 have := h.nd
 unfold CE.blocks CE.base at this
 exact (List.nodup_append.1 (List.nodup_append.1 this).1).2.2 eb (by simp [hm]) eb (by simp) rfl

theorem add_eg (w : World) (eb : Nat) (c : CE) (h : EG w eb c) (x : Ev) (hs : SB c.buf) (hl : c.buf.length < 60) :
  Calls Tryz.prog 89 #[.pointer (some ⟨eb, 2, none⟩), .agg #[.int .i64 x.1, .int .i64 x.2.1, .int .u8 x.2.2.1.toNat, .int .i64 x.2.2.2]] w fun e w' => e = .returned (.tuple #[]) ∧ ∃ c', EG w' eb c' ∧ c'.abs = { c.abs with buf := putB c.buf x } ∧ Ext w (c.blocks eb) w' (c'.blocks eb) := by
 refine (add_buf w eb 2 c.bv c.buf x (by rw [cell_of_row w eb 2 _ _ _ h.blk]; rfl) (frozen_of_row _ eb 2 _ _ h.blk) h.buf h.buf_ne hl hs).mono ?_
 rintro e w' ⟨rfl, bv', w1, rfl, r1, r2, r3⟩
 have hpl := put_len c.buf x
 rw [← hpl] at r1
 obtain ⟨g1, g2⟩ := h.setBuf r2 r1 r3 (by omega)
 exact ⟨rfl, _, g1, rfl, g2⟩


theorem grown_is_below (W : World) (n : Nat) (os : Array Obj) : Below W.heap.size W (Go.Sort.grow (W.drewN n) os) := ⟨rfl, rfl, rfl, (grow_below (W.drewN n) os).size, fun k hk => (grow_below (W.drewN n) os).block k hk⟩

set_option maxRecDepth 8000 in
set_option maxHeartbeats 2000000 in
theorem take_eg (w : World) (eb : Nat) (c : CE) (x : Ev) (h : EG w eb c) (hs : SB c.buf) :
  Calls Tryz.prog 60 #[.pointer (some ⟨eb, 0, none⟩), .agg #[.int .i64 x.1, .int .i64 x.2.1, .int .u8 x.2.2.1.toNat, .int .i64 x.2.2.2]] w (TkPost w eb c x) := by
 obtain ⟨N, hN⟩ : ∃ N, w.heap.size = N := ⟨_, rfl⟩
 have hb0 : Below w.heap.size w (w.alloc (.cells #[.int .i64 x.1, .int .i64 x.2.1, .int .u8 x.2.2.1.toNat, .int .i64 x.2.2.2] 75)) := (Below.refl _ _).alloc (Nat.le_refl _) _
 have hbox : (w.alloc (.cells #[.int .i64 x.1, .int .i64 x.2.1, .int .u8 x.2.2.1.toNat, .int .i64 x.2.2.2] 75)).heap[N]? = some (.cells #[.int .i64 x.1, .int .i64 x.2.1, .int .u8 x.2.2.1.toNat, .int .i64 x.2.2.2] 75) := by rw [← hN]; exact heap_alloc_new _ _
 have hprop := Hid.mk' (fun W => proper_any W c.marks.length x)
 -- what a world behind the box still holds
 have hK : Hid (∀ W, Below w.heap.size w W → W.heap[N]? = some (.cells #[.int .i64 x.1, .int .i64 x.2.1, .int .u8 x.2.2.1.toNat, .int .i64 x.2.2.2] 75) →
   (W.cell? ⟨N, 0, none⟩ = some (.int .i64 x.1) ∧ W.cell? ⟨N, 1, none⟩ = some (.int .i64 x.2.1) ∧ W.cell? ⟨N, 2, none⟩ = some (.int .u8 x.2.2.1.toNat) ∧ W.cell? ⟨N, 3, none⟩ = some (.int .i64 x.2.2.2) ∧ W.cell? ⟨eb, 1, none⟩ = some (.slice (some ⟨c.mg, 0, none⟩) c.marks.length c.mc)) ∧ N < W.heap.size ∧ eb < W.heap.size) := by
  intro W hb hbx
  have hE := h.below hb
  refine ⟨⟨?_, ?_, ?_, ?_, ?_⟩, lt_of_block hbx, lt_of_block hE.blk⟩
  ·rw [cell_of_row _ N 0 _ _ _ hbx]; rfl
  ·rw [cell_of_row _ N 1 _ _ _ hbx]; rfl
  ·rw [cell_of_row _ N 2 _ _ _ hbx]; rfl
  ·rw [cell_of_row _ N 3 _ _ _ hbx]; rfl
  ·rw [cell_of_row _ eb 1 _ _ _ hE.blk]; rfl
 have hwm := Hid.mk' (fun W (hb : Below w.heap.size w W) => wm_eg W eb c (h.below hb))
 obtain ⟨a, cap, hbv, _⟩ := h.buf.form
 have hlen := Hid.mk' (fun W (hb : Below w.heap.size w W) => len_buf W eb 2 c.buf.length cap a (by rw [cell_of_row _ eb 2 _ _ _ (h.below hb).blk]; simp [eCells, hbv]))
 have hsame : Hid (∀ W (k : Nat), (takeE c.abs x) = (k, c.abs) → Below w.heap.size w W → TkPost w eb c x (.returned (.int .i64 k)) W) := by
  intro W k hk hb
  unfold TkPost
  rw [hk]
  exact ⟨rfl, c, h.below hb, rfl, Ext.below hb⟩
 have hadd : Hid (∀ W, Below w.heap.size w W → (takeE c.abs x) = (0, { c.abs with buf := putB c.buf x }) → c.buf.length < 60 → Calls Tryz.prog 89 #[.pointer (some ⟨eb, 2, none⟩), .agg #[.int .i64 x.1, .int .i64 x.2.1, .int .u8 x.2.2.1.toNat, .int .i64 x.2.2.2]] W fun e w2 => e = .returned (.tuple #[]) ∧ Hid (TkPost w eb c x (.returned (.int .i64 0)) w2)) := by
  intro W hb hT hl
  refine (add_eg W eb c (h.below hb) x hs hl).mono ?_
  rintro e w2 ⟨rfl, c', g1, g2, g3⟩
  refine ⟨rfl, ?_⟩
  unfold Hid TkPost
  rw [hT]
  exact ⟨rfl, c', g1, g2, (Ext.below hb).trans g3⟩
 have hb60 := h.b60
 have hT : takeE c.abs x = if properB c.marks.length x = true then (if x.2.1 < markB c.marks then (5, c.abs) else if 60 ≤ c.buf.length then (6, c.abs) else (0, { c.abs with buf := putB c.buf x })) else (1, c.abs) := rfl
 obtain ⟨PO, hPO⟩ : ∃ PO, TkPost w eb c x = PO := ⟨_, rfl⟩
 rw [hPO] at hsame hadd ⊢
 have HB0 := Hid.mk' hb0
 have HBX := Hid.mk' hbox
 obtain ⟨R, hR⟩ : ∃ R, properB c.marks.length x = R := ⟨_, rfl⟩
 have hNe : eb < N := by rw [← hN]; exact lt_of_block h.blk
 rw [hR] at hprop hT
 have HT := Hid.mk' hT
 have HN := Hid.mk' hN
 obtain ⟨L, hL⟩ : ∃ L, c.buf.length = L := ⟨_, rfl⟩
 obtain ⟨MK, hMK⟩ : ∃ MK, markB c.marks = MK := ⟨_, rfl⟩
 have hm8 := h.m8
 have hcap := h.mcap
 have HL := Hid.mk' hL
 have HMK := Hid.mk' hMK
 clear hPO h hR hT hN hb0 hbox hs hbv
 rw [hL] at hb60 hlen
 simp only [hMK] at hwm
 clear hL hMK
 obtain ⟨xs, xt, xk, xv⟩ := x
 simp only at *
 go_enter Tryz.func60, Tryz.ntmps60
 go_wp2
 rw [HN.out]
 have hbW := HB0.out
 have hxW := HBX.out
 revert hbW hxW
 generalize w.alloc (.cells #[.int .i64 xs, .int .i64 xt, .int .u8 xk.toNat, .int .i64 xv] 75) = W1
 intro hbW hxW
 clear HB0 HBX
 obtain ⟨⟨k0, k1, k2, k3, k4⟩, kN, kE⟩ := hK.out W1 hbW hxW
 have g0 := cell_grown (a := ⟨N, 0, none⟩) kN k0
 have g1 := cell_grown (a := ⟨N, 1, none⟩) kN k1
 have g2 := cell_grown (a := ⟨N, 2, none⟩) kN k2
 have g3 := cell_grown (a := ⟨N, 3, none⟩) kN k3
 have g4 := cell_grown (a := ⟨eb, 1, none⟩) kE k4
 refine wp_region_quiet_grown (by kernel_rfl) (by kernel_rfl) ?_
 repeat (quiet_step (first | (go_at_call 87; refine Calls.grown_of (hprop.out _))))
 refine wpQuiet_nil ?_
 intro _ hw'
 obtain ⟨⟨nq, osq⟩, hw''⟩ := hw'
 subst hw''
 have hb2 : Below w.heap.size w (Go.Sort.grow (W1.drewN nq) osq) := hbW.trans ((grown_is_below W1 nq osq).mono hbW.size)
 have hx2 : (Go.Sort.grow (W1.drewN nq) osq).heap[N]? = some (.cells #[.int .i64 xs, .int .i64 xt, .int .u8 xk.toNat, .int .i64 xv] 75) := by rw [(grown_is_below W1 nq osq).block N kN]; exact hxW
 clear g0 g1 g2 g3 g4 k0 k1 k2 k3 k4 kN kE hbW hxW
 revert hb2 hx2
 generalize Go.Sort.grow (W1.drewN nq) osq = W2
 intro hb2 hx2
 clear W1 hprop
 have hT := HT.out
 cases R with
 | false =>
  simp only [Bool.false_eq_true, if_false] at hT
  have hfin := Hid.mk' (hsame.out W2 1 hT hb2)
  clear hT HT hsame hadd
  go_wp2
  exact hfin.out
 | true =>
  simp only [if_true] at hT
  obtain ⟨⟨k0, k1, k2, k3, k4⟩, kN, kE⟩ := hK.out W2 hb2 hx2
  have hw2 := Hid.mk' (fun q => hwm.out (W2.drewN q) (below_drewN hb2 q))
  by_cases hlate : xt < MK
  ·rw [if_pos (by rw [HMK.out]; exact hlate)] at hT
   have hfin := Hid.mk' (fun q => hsame.out (W2.drewN q) 5 hT (below_drewN hb2 q))
   clear hT HT hsame hadd
   go_wp2
   go_quiet ((go_at_call 33; exact Calls.quiet_of_same (hw2.out _)))
   go_wp2
   exact hfin.out _
  ·rw [if_neg (by rw [HMK.out]; exact hlate)] at hT
   have hl2 := Hid.mk' (fun q => hlen.out (W2.drewN q) (below_drewN hb2 q))
   by_cases hfull : 60 ≤ L
   ·rw [if_pos (by rw [HL.out]; exact hfull)] at hT
    have hfin := Hid.mk' (fun q => hsame.out (W2.drewN q) 6 hT (below_drewN hb2 q))
    clear hT HT hsame hadd
    go_wp2
    go_quiet ((go_at_call 33; exact Calls.quiet_of_same (hw2.out _)))
    go_wp2_with (go_at_call 88; refine (hl2.out _).mono ?_; rintro e w' ⟨rfl, rfl⟩)
    exact hfin.out _
   ·rw [if_neg (by rw [HL.out]; exact hfull)] at hT
    have hadd2 := Hid.mk' (fun W hb => hadd.out W hb hT (by rw [HL.out]; omega))
    clear hT HT hsame hadd
    go_wp2
    go_quiet ((go_at_call 33; exact Calls.quiet_of_same (hw2.out _)))
    go_wp2_with (go_at_call 88; refine (hl2.out _).mono ?_; rintro e w' ⟨rfl, rfl⟩)
    have hb3 : Below w.heap.size w (W2.drewN nq) := below_drewN hb2 nq
    have hx3 : (W2.drewN nq).heap[N]? = some (.cells #[.int .i64 xs, .int .i64 xt, .int .u8 xk.toNat, .int .i64 xv] 75) := hx2
    revert hb3 hx3
    generalize W2.drewN nq = W3
    clear k0 k1 k2 k3 k4 kN kE
    intro hb3 hx3
    obtain ⟨⟨k0, k1, k2, k3, k4⟩, kN, kE⟩ := hK.out W3 hb3 hx3
    have hA := Hid.mk' (hadd2.out W3.drew hb3.drew)
    go_region_with (go_at_call 89; with_reducible refine hA.out.mono ?_; rintro e w4 ⟨rfl, hP⟩)
    all_goals
     go_wp2
     exact hP.out
end Go.Proofs.YtbgfannlfagoiaaGreatDoor

namespace Go.Proofs.YtbgfannlfagoiaaGreatDoor
open Go.RowKit Go.Lull
set_option linter.unusedVariables false

/-- What Offer leaves. -/
def OfferPost (w : World) (eb : Nat) (c : CE) (l : List Ev) (e : Ending) (w' : World) : Prop :=
 e = .returned (.tuple #[.int .i64 (offerE c.abs l).1, .int .i64 (offerE c.abs l).2.1]) ∧ ∃ c', EG w' eb c' ∧ c'.abs = (offerE c.abs l).2.2 ∧ Ext w (c.blocks eb) w' (c'.blocks eb)

/-- Offer, in the midst. -/
structure OF (w wr : World) (eb : Nat) (c ck : CE) (l : List Ev) (k : Nat) : Prop where
 eg : EG wr eb ck
 ext : Ext w (c.blocks eb) wr (ck.blocks eb)
 sb : SB ck.buf
 eq : offerE c.abs l = (k + (offerE ck.abs (l.drop k)).1, (offerE ck.abs (l.drop k)).2)

set_option maxRecDepth 8000 in
set_option maxHeartbeats 2000000 in
theorem offer_eg (w : World) (eb : Nat) (c : CE) (v : Value) (l : List Ev) (h : EG w eb c) (hs : SB c.buf) (hl : l.length ≤ 1000000000) (hrow : Row w 75 4 v l.length (l.flatMap evC)) (hap : ∀ b, v.ownBlock = some b → b ∉ c.blocks eb) :
  Calls Tryz.prog 30 #[.pointer (some ⟨eb, 0, none⟩), v] w (OfferPost w eb c l) := by
 have hmade := Hid.mk' (made_yes eb w h.self)
 have h0 : Hid (OF w w eb c c l 0) := ⟨h, Ext.refl _ _, hs, by simp⟩
 obtain ⟨va, vcap, rfl, hvc⟩ := hrow.form
 have HR := Hid.mk' hrow
 have HAP := Hid.mk' hap
 clear h hs hrow hap
 obtain ⟨PO, hPO⟩ : ∃ PO, OfferPost w eb c l = PO := ⟨_, rfl⟩
 have HPO := Hid.mk' hPO
 rw [hPO]
 clear hPO
 go_enter Tryz.func30, Tryz.ntmps30
 go_wp2_with (go_at_call 39; refine hmade.out.mono ?_; rintro e w' ⟨rfl, rfl⟩)
 go_loopw [14] (fun i wr => ∃ (k : Nat) (ck : CE), i = .int .i64 k ∧ k ≤ l.length ∧ Hid (OF w' wr eb c ck l k)) (fun i _ => l.length - (intOf i).toNat)
 case atStart => exact ⟨0, c, rfl, Nat.zero_le _, h0⟩
 case round =>
  obtain ⟨k, ck, rfl, hk, hO⟩ := hrel
  by_cases hlt : k < l.length
  ·obtain ⟨g, off, cap', hva, _⟩ := row_some HR.out (by omega)
   obtain ⟨rfl, _, rfl⟩ := Value.slice.inj hva
   clear hva
   have hgl := HR.out.lt g rfl
   have hrw : Row wr 75 4 (.slice (some ⟨g, off, none⟩) l.length vcap) l.length (l.flatMap evC) := Row.fr hO.out.ext.fr HR.out HAP.out
   obtain ⟨y0, y1, y2, y3⟩ := ev_at hrw k hlt
   obtain ⟨x, hx⟩ : ∃ x, l[k] = x := ⟨_, rfl⟩
   rw [hx] at y0 y1 y2 y3
   have hdrop : Hid (l.drop k = x :: l.drop (k + 1)) := by unfold Hid; rw [List.drop_eq_getElem_cons hlt, hx]
   clear hrw hx
   have hbox : Hid (Below wr.heap.size wr (wr.alloc (.cells #[.int .i64 x.1, .int .i64 x.2.1, .int .u8 x.2.2.1.toNat, .int .i64 x.2.2.2] 75))) := Hid.mk' ((Below.refl _ _).alloc (Nat.le_refl _) _)
   have htake := Hid.mk' (take_eg (wr.alloc (.cells #[.int .i64 x.1, .int .i64 x.2.1, .int .u8 x.2.2.1.toNat, .int .i64 x.2.2.2] 75)) eb ck x (hO.out.eg.below hbox.out) hO.out.sb)
   obtain ⟨E, hE⟩ : ∃ E, (takeE ck.abs x).1 = E := ⟨_, rfl⟩
   have hT : Hid (∀ e w2, TkPost (wr.alloc (.cells #[.int .i64 x.1, .int .i64 x.2.1, .int .u8 x.2.2.1.toNat, .int .i64 x.2.2.2] 75)) eb ck x e w2 → e = .returned (.int .i64 E) ∧ (E = 0 → Hid (∃ c2, OF w' w2 eb c c2 l (k + 1))) ∧ (E ≠ 0 → Hid (PO (.returned (.tuple #[.int .i64 k, .int .i64 E])) w2))) := by
    rintro e w2 ⟨rfl, c2, g1, g2, g3⟩
    have hext := hO.out.ext.trans ((Ext.below hbox.out).trans g3)
    refine ⟨by rw [hE], fun h0 => ⟨c2, g1, hext, ?_, ?_⟩, fun hn => ?_⟩
    ·have := takeE_sb (s := ck.abs) (e := x) hO.out.sb
     rw [← g2] at this; exact this
    ·rw [hO.out.eq, hdrop.out, offerE_ok (by rw [hE, h0]), ← g2]
     simp only [Prod.mk.injEq]
     exact ⟨by omega, trivial⟩
    ·unfold Hid
     rw [← HPO.out]
     have hof : offerE c.abs l = (k, takeE ck.abs x) := by
      rw [hO.out.eq, hdrop.out, offerE_no (by rw [hE]; exact hn)]; rfl
     unfold OfferPost
     rw [hof]
     exact ⟨by rw [← hE], c2, g1, g2, hext⟩
   obtain ⟨x0, x1, x2, x3⟩ := x
   clear hbox hE hdrop
   simp only at y0 y1 y2 y3 htake hT
   by_cases hE0 : E = 0
   ·subst hE0
    have hT' : Hid (∀ e w2, TkPost (wr.alloc (.cells #[.int .i64 x0, .int .i64 x1, .int .u8 x2.toNat, .int .i64 x3] 75)) eb ck (x0, x1, x2, x3) e w2 → e = .returned (.int .i64 0) ∧ Hid (∃ c2, OF w' w2 eb c c2 l (k + 1))) := fun e w2 hp => ⟨(hT.out e w2 hp).1, (hT.out e w2 hp).2.1 rfl⟩
    clear hT hO
    go_wp2_with (go_at_call 60; refine htake.out.mono ?_; intro e w2 hp; obtain ⟨rfl, hof⟩ := hT'.out e w2 hp; clear hp)
    obtain ⟨c2, hof⟩ := hof.out
    go_roundw
    case rel => exact ⟨k + 1, c2, by go_num, by omega, hof⟩
    case measure => simp [intOf]; omega
   ·have hT' : Hid (∀ e w2, TkPost (wr.alloc (.cells #[.int .i64 x0, .int .i64 x1, .int .u8 x2.toNat, .int .i64 x3] 75)) eb ck (x0, x1, x2, x3) e w2 → e = .returned (.int .i64 E) ∧ Hid (PO (.returned (.tuple #[.int .i64 k, .int .i64 E])) w2)) := fun e w2 hp => ⟨(hT.out e w2 hp).1, (hT.out e w2 hp).2.2 hE0⟩
    clear hT hO
    have hE1 : ¬ (E : Int) = 0 := by omega
    go_wp2_with (go_at_call 60; refine htake.out.mono ?_; intro e w2 hp; obtain ⟨rfl, hof⟩ := hT'.out e w2 hp; clear hp)
    exact hof.out
  ·have hfin : Hid (PO (.returned (.tuple #[.int .i64 l.length, .int .i64 0])) wr) := by
    unfold Hid
    rw [← HPO.out]
    obtain rfl : k = l.length := by omega
    have hof : offerE c.abs l = (l.length, 0, ck.abs) := by
     rw [hO.out.eq, List.drop_length]; rfl
    unfold OfferPost
    rw [hof]
    exact ⟨rfl, ck, hO.out.eg, rfl, hO.out.ext⟩
   clear hO
   go_wp2
   exact hfin.out
end Go.Proofs.YtbgfannlfagoiaaGreatDoor

namespace Go.Proofs.YtbgfannlfagoiaaGreatDoor
open Go.RowKit Go.Lull
set_option linter.unusedVariables false

section
variable {w w1 : World} {eb : Nat} {c : CE}
/-- The queries have changed. -/
theorem EG.setQs {qv' : Value} {qs' : List (Nat × CQ)} (h : EG w eb c) (hf : Fr c.qv.ownBlock.toList w w1) (hr : Row w1 122 1 qv' qs'.length (qs'.map ptrV)) (hqy : ∀ x ∈ qs', QY w1 x.1 x.2)
  (hn2 : (qv'.ownBlock.toList ++ qsb qs').Nodup) (hold : ∀ b ∈ qv'.ownBlock.toList ++ qsb qs', b ∉ c.bv.ownBlock.toList ∧ b ≠ eb ∧ b ≠ c.mg) (hl : qs'.length ≤ 10) :
  EG (w1.setCell ⟨eb, 3, none⟩ qv') eb { c with qv := qv', qs := qs' } ∧ Fr (c.blocks eb) w (w1.setCell ⟨eb, 3, none⟩ qv') := by
 have hnd := h.nd
 have hp : (c.blocks eb).Perm (c.qv.ownBlock.toList ++ (c.bv.ownBlock.toList ++ ([eb, c.mg] ++ qsb c.qs))) := by
  have : c.blocks eb = c.bv.ownBlock.toList ++ (c.qv.ownBlock.toList ++ ([eb, c.mg] ++ qsb c.qs)) := by simp [CE.blocks, CE.base]
  rw [this]
  exact List.perm_append_comm_assoc _ _ _
 have hnd2 := hp.nodup_iff.1 hnd
 have hap : ∀ b ∈ c.bv.ownBlock.toList ++ [eb, c.mg], b ∉ c.qv.ownBlock.toList := by
  intro b hb hm
  refine (List.nodup_append.1 hnd2).2.2 b hm b ?_ rfl
  rcases List.mem_append.1 hb with hb | hb
  ·exact List.mem_append_left _ hb
  ·exact List.mem_append_right _ (List.mem_append_left _ hb)
 have hlt : ∀ b ∈ c.bv.ownBlock.toList ++ [eb, c.mg], b < w.heap.size := by
  intro b hb
  refine h.lt b ?_
  unfold CE.blocks CE.base
  rcases List.mem_append.1 hb with hb | hb
  ·exact List.mem_append_left _ (List.mem_append_left _ hb)
  ·simp at hb; rcases hb with rfl | rfl <;> simp
 have hkeep : ∀ b ∈ c.bv.ownBlock.toList ++ [eb, c.mg], w1.heap[b]? = w.heap[b]? := fun b hb => hf.block b (hlt b hb) (hap b hb)
 have hne : eb ≠ c.mg ∧ eb ∉ c.bv.ownBlock.toList := by
  have h1 := (List.nodup_append.1 (List.nodup_append.1 hnd2).2.1)
  have h2 := (List.nodup_append.1 h1.2.1).1
  exact ⟨by simpa using h2, fun hm => h1.2.2 eb hm eb (by simp) rfl⟩
 have hset : ∀ b, b ≠ eb → (w1.setCell ⟨eb, 3, none⟩ qv').heap[b]? = w1.heap[b]? := fun b hb => Below.heap_setCell _ _ _ _ (by simpa using hb)
 have hsz : w1.heap.size ≤ (w1.setCell ⟨eb, 3, none⟩ qv').heap.size := by simp [World.setCell]
 have hblk2 : CE.blocks { c with qv := qv', qs := qs' } eb = c.bv.ownBlock.toList ++ (qv'.ownBlock.toList ++ ([eb, c.mg] ++ qsb qs')) := by simp [CE.blocks, CE.base]
 refine ⟨⟨?_, ?_, h.m1, h.m8, ?_, ?_, ?_, ?_, hl, h.b60⟩, ?_⟩
 ·have hb1 : w1.heap[eb]? = some (.cells (eCells eb c) 104 (0, 0)) := by rw [hkeep eb (by simp)]; exact h.blk
  rw [heap_setCell_same w1 eb 3 _ _ _ hb1]
  rfl
 ·refine ⟨h.marks.1, ?_⟩
  rcases h.marks.2 with h2 | ⟨g, cap, cur, h1, h2, h3, h4⟩
  ·exact Or.inl h2
  ·refine Or.inr ⟨g, cap, cur, h1, h2, ?_, h4⟩
   cases h1
   show (w1.setCell ⟨eb, 3, none⟩ qv').heap[c.mg]? = _
   rw [hset c.mg (Ne.symm hne.1), hkeep c.mg (by simp)]; exact h3
 ·refine h.buf.same (fun k hk => ?_)
  have hk' : k ∈ c.bv.ownBlock.toList := by simp [hk]
  rw [hset k (fun e => hne.2 (e ▸ hk')), hkeep k (List.mem_append_left _ hk')]
 ·exact hr.same (fun k hk => hset k (hold k (List.mem_append_left _ (by simp [hk]))).2.1)
 ·exact fun x hx => (hqy x hx).same hsz (fun b hb => hset b (hold b (List.mem_append_right _ (mem_qsb hx hb))).2.1)
 ·rw [hblk2]
  have hp2 : (c.bv.ownBlock.toList ++ (qv'.ownBlock.toList ++ ([eb, c.mg] ++ qsb qs'))).Perm ((c.bv.ownBlock.toList ++ [eb, c.mg]) ++ (qv'.ownBlock.toList ++ qsb qs')) := by
   rw [List.append_assoc]
   refine List.Perm.append_left _ ?_
   rw [← List.append_assoc, ← List.append_assoc]
   exact List.Perm.append_right _ List.perm_append_comm
  refine hp2.nodup_iff.2 (List.nodup_append.2 ⟨?_, hn2, ?_⟩)
  ·have h1 := (List.nodup_append.1 hnd2).2.1
   rw [← List.append_assoc] at h1
   exact (List.nodup_append.1 h1).1
  ·intro a ha b hb e
   subst e
   obtain ⟨k1, k2, k3⟩ := hold a hb
   rcases List.mem_append.1 ha with ha | ha
   ·exact k1 ha
   ·simp at ha; rcases ha with rfl | rfl
    ·exact k2 rfl
    ·exact k3 rfl
 ·refine (hf.mono (fun b hb => Or.inl (hp.mem_iff.2 (List.mem_append_left _ hb)))).setCell (Or.inl (by simp [CE.blocks, CE.base])) _
end

theorem filter_posQ {n : Int} : ∀ {qs : List (Nat × CQ)} {k : Nat}, (qs.map (·.2.num)).Nodup → posQ n qs = some k → (qs.map (·.2.abs)).filter (fun q => !((q.num : Int) == n)) = (qs.take k ++ qs.drop (k + 1)).map (·.2.abs)
 | [], k, _, h => by cases h
 | x :: r, k, hd, h => by
  have hd2 : x.2.num ∉ r.map (·.2.num) ∧ (r.map (·.2.num)).Nodup := List.nodup_cons.1 hd
  unfold posQ at h
  by_cases hx : ((x.2.num : Int) == n) = true
  ·rw [if_pos hx] at h
   cases h
   have hx' : (x.2.num : Int) = n := by simpa using hx
   have hall : ∀ q ∈ r.map (·.2.abs), (fun q : Qy => !((q.num : Int) == n)) q = true := by
    intro q hq
    obtain ⟨y, hy, rfl⟩ := List.mem_map.1 hq
    have hne : y.2.num ≠ x.2.num := fun e => hd2.1 (by rw [← e]; exact List.mem_map.2 ⟨y, hy, rfl⟩)
    show (!((y.2.num : Int) == n)) = true
    simp; omega
   rw [List.map_cons, List.filter_cons_of_neg (by show ¬ (!((x.2.num : Int) == n)) = true; simp [hx]), List.filter_eq_self.2 hall]
   rfl
  ·rw [if_neg hx] at h
   cases hp : posQ n r with
   | none => rw [hp] at h; cases h
   | some j =>
    rw [hp] at h
    cases h
    have ih := filter_posQ hd2.2 hp
    rw [List.map_cons, List.filter_cons_of_pos (by show (!((x.2.num : Int) == n)) = true; simpa using hx), ih]
    rfl

/-- What Remove leaves. -/
def RemPost (w : World) (eb : Nat) (c : CE) (n : Int) (e : Ending) (w' : World) : Prop :=
 e = .returned (.int .i64 (removeE c.abs n).1) ∧ ∃ c', EG w' eb c' ∧ c'.abs = (removeE c.abs n).2 ∧ Ext w (c.blocks eb) w' (c'.blocks eb)

theorem qsb_sub {l l' : List (Nat × CQ)} (h : l'.Sublist l) : (qsb l').Sublist (qsb l) := by
 induction h with
 | slnil => exact List.Sublist.refl _
 | cons a h ih => unfold qsb at *; rw [List.flatMap_cons]; exact ih.trans (List.sublist_append_right _ _)
 | cons_cons a h ih => unfold qsb at *; rw [List.flatMap_cons, List.flatMap_cons]; exact List.Sublist.append (List.Sublist.refl _) ih

set_option maxHeartbeats 1000000 in
theorem remove_eg (w : World) (eb : Nat) (c : CE) (n : Int) (h : EG w eb c) (hd : (c.qs.map (·.2.num)).Nodup) :
  Calls Tryz.prog 32 #[.pointer (some ⟨eb, 0, none⟩), .int .i64 n] w (RemPost w eb c n) := by
 have hmade := made_yes eb w h.self
 have hfind := find_eg w eb c n h
 rw [idxQ_pos] at hfind
 cases hp : posQ n c.qs with
 | none =>
  rw [hp] at hfind
  have hR : removeE c.abs n = (4, c.abs) := by unfold removeE; rw [findE_pos, hp]
  have hfin : Hid (∀ W, Below w.heap.size w W → RemPost w eb c n (.returned (.int .i64 4)) W) := by
   intro W hb
   unfold RemPost
   rw [hR]
   exact ⟨rfl, c, h.below hb, rfl, Ext.below hb⟩
  clear h hp hR
  go_enter Tryz.func32, Tryz.ntmps32
  go_wp2_with (first | (go_at_call 39; refine hmade.mono ?_; rintro e w' ⟨rfl, rfl⟩) | (go_at_call 62; refine hfind.mono ?_; rintro e w1 ⟨rfl, hb⟩))
  go_ret
  exact hfin.out _ hb
 | some k =>
  rw [hp] at hfind
  simp only [Nat.zero_add] at hfind
  have hk := posQ_lt hp
  have hR : removeE c.abs n = (0, { c.abs with qs := (c.qs.take k ++ c.qs.drop (k + 1)).map (·.2.abs) }) := by
   have hf : findE c.abs n = some c.qs[k].2.abs := by rw [findE_pos, hp]; simp [hk]
   unfold removeE
   rw [hf, ← filter_posQ hd hp]
   rfl
  obtain ⟨a, cap, hv, hvc⟩ := h.qrow.form
  have hq10 := h.q10
  have hsub : (c.qs.take k ++ c.qs.drop (k + 1)).Sublist c.qs := by
   conv => rhs; rw [← List.take_append_drop k c.qs]
   exact List.Sublist.append (List.Sublist.refl _) (by rw [List.drop_eq_getElem_cons hk]; exact List.sublist_cons_self _ _)
  have hdel : Hid (∀ W, Below w.heap.size w W → Calls Tryz.prog 63 #[.slice a c.qs.length cap, .int .i64 k, .int .i64 ((k : Int) + 1)] W fun e w2 => ∃ qv', e = .returned qv' ∧ w2.cell? ⟨eb, 3, none⟩ = some (.slice a c.qs.length cap) ∧ w2.frozen? ⟨eb, 3, none⟩ = false ∧ Hid (RemPost w eb c n (.returned (.int .i64 0)) (w2.setCell ⟨eb, 3, none⟩ qv')) ∧ ∃ x y z, qv' = .slice x y z) := by
   intro W hb
   have hE := h.below hb
   have hrw : Row W 122 1 (.slice a c.qs.length cap) c.qs.length (c.qs.map ptrV) := by rw [← hv]; exact hE.qrow
   refine (delete_ptr W _ c.qs.length k (c.qs.map ptrV) hrw hk hq10 (by intro u hu; obtain ⟨x, _, rfl⟩ := List.mem_map.1 hu; rfl)).mono ?_
   rintro e w2 ⟨qv', rfl, r1, r2, r3⟩
   have hnb : eb ∉ (Value.slice a c.qs.length cap).ownBlock.toList := by
    intro hm
    have hnd := hE.nd
    unfold CE.blocks CE.base at hnd
    rw [hv] at hnd
    have h1 := (List.nodup_append.1 (List.nodup_append.1 hnd).1).2.1
    exact (List.nodup_append.1 h1).2.2 eb hm eb (by simp) rfl
   have hb2 : w2.heap[eb]? = some (.cells (eCells eb c) 104 (0, 0)) := by rw [r2.block eb (lt_of_block hE.blk) hnb]; exact hE.blk
   have e3 := cell_of_row w2 eb 3 _ _ _ hb2
   obtain ⟨x, y, e', _⟩ := r1.form
   have hl' : (c.qs.take k ++ c.qs.drop (k + 1)).length = c.qs.length - 1 := by simp; omega
   have hr' : Row w2 122 1 qv' (c.qs.take k ++ c.qs.drop (k + 1)).length ((c.qs.take k ++ c.qs.drop (k + 1)).map ptrV) := by
    rw [hl', List.map_append, List.map_take, List.map_drop]; exact r1
   have hnq : (c.qv.ownBlock.toList ++ qsb c.qs).Nodup := by
    have hnd := hE.nd
    unfold CE.blocks CE.base at hnd
    refine hnd.sublist ?_
    refine List.Sublist.append ?_ (List.Sublist.refl _)
    exact (List.sublist_append_left _ _).trans (List.sublist_append_right _ _)
   have hsub2 : (qv'.ownBlock.toList ++ qsb (c.qs.take k ++ c.qs.drop (k + 1))).Sublist (c.qv.ownBlock.toList ++ qsb c.qs) := by
    rw [r3, hv]; exact List.Sublist.append (List.Sublist.refl _) (qsb_sub hsub)
   have hold : ∀ b ∈ c.qv.ownBlock.toList ++ qsb c.qs, b ∉ c.bv.ownBlock.toList ∧ b ≠ eb ∧ b ≠ c.mg := by
    intro b hb
    have hnd := hE.nd
    have hp : (c.blocks eb).Perm ((c.bv.ownBlock.toList ++ [eb, c.mg]) ++ (c.qv.ownBlock.toList ++ qsb c.qs)) := by
     have : c.blocks eb = c.bv.ownBlock.toList ++ (c.qv.ownBlock.toList ++ ([eb, c.mg] ++ qsb c.qs)) := by simp [CE.blocks, CE.base]
     rw [this, List.append_assoc]
     refine List.Perm.append_left _ ?_
     rw [← List.append_assoc, ← List.append_assoc]
     exact List.Perm.append_right _ List.perm_append_comm
    have h2 := (List.nodup_append.1 (hp.nodup_iff.1 hnd)).2.2
    exact ⟨fun hm => h2 b (List.mem_append_left _ hm) b hb rfl, fun e => h2 b (by simp [e]) b hb rfl, fun e => h2 b (by simp [e]) b hb rfl⟩
   obtain ⟨g1, g2⟩ := hE.setQs (qv' := qv') (qs' := c.qs.take k ++ c.qs.drop (k + 1)) (by rw [hv]; exact r2) hr'
    (fun x hx => (hE.qy x (hsub.subset hx)).fr r2 (fun b hb1 hb2 => by
     rw [← hv] at hb1
     exact (List.nodup_append.1 hnq).2.2 b hb1 b (mem_qsb (hsub.subset hx) hb2) rfl))
    (hnq.sublist hsub2) (fun b hb => hold b (hsub2.subset hb)) (by rw [hl']; omega)
   refine ⟨qv', rfl, by rw [e3]; simp [eCells, hv], frozen_of_row w2 eb 3 _ _ hb2, ?_, x, _, y, e'⟩
   unfold Hid RemPost
   rw [hR]
   refine ⟨rfl, _, g1, rfl, (Ext.below hb).trans ⟨g2, ?_⟩⟩
   intro b hb
   left
   have e1 : CE.blocks { c with qv := qv', qs := c.qs.take k ++ c.qs.drop (k + 1) } eb = (c.bv.ownBlock.toList ++ (qv'.ownBlock.toList ++ [eb, c.mg])) ++ qsb (c.qs.take k ++ c.qs.drop (k + 1)) := rfl
   rw [e1] at hb
   unfold CE.blocks CE.base
   refine (List.Sublist.append ?_ (qsb_sub hsub)).subset hb
   rw [r3, hv]; exact List.Sublist.refl _
  have hcell : Hid (∀ W, Below w.heap.size w W → W.cell? ⟨eb, 3, none⟩ = some (.slice a c.qs.length cap)) := by
   intro W hb
   rw [cell_of_row _ eb 3 _ _ _ (h.below hb).blk]; simp [eCells, hv]
  have hkn : ¬ (k : Int) < 0 := by omega
  obtain ⟨PO, hPO⟩ : ∃ PO, RemPost w eb c n = PO := ⟨_, rfl⟩
  rw [hPO] at hdel ⊢
  clear h hp hR hPO hd
  go_enter Tryz.func32, Tryz.ntmps32
  go_wp2_with (first | (go_at_call 39; refine hmade.mono ?_; rintro e w' ⟨rfl, rfl⟩) | (go_at_call 62; refine hfind.mono ?_; rintro e w1 ⟨rfl, hb⟩; have e3 := hcell.out w1 hb) | (go_at_call 63; refine (hdel.out w1 hb).mono ?_; rintro e w2 ⟨qv', rfl, n1, n2, hP, x, y, z, rfl⟩))
  exact hP.out
end Go.Proofs.YtbgfannlfagoiaaGreatDoor

namespace Go.Proofs.YtbgfannlfagoiaaGreatDoor
open Go.RowKit Go.Lull
set_option linter.unusedVariables false



theorem numB_empty (most : Nat) (s : ByteArray) (h : s.size = 0) : numB most s.data.toList = none := by
 have e : s.data.toList = [] := List.length_eq_zero_iff.1 (by simpa using h)
 unfold numB; rw [if_pos e]
theorem numB_zero (most : Nat) (s : ByteArray) (h : 1 < s.size) (h2 : s[0].toNat = 48) : numB most s.data.toList = none := by
 have e := drop_cons s 0 (by omega)
 have e2 : s[0] = 48 := UInt8.toNat_inj.1 h2
 rw [List.drop_zero, e2] at e
 unfold numB; rw [if_neg (by rw [e]; simp), if_pos ⟨by simpa using h, by rw [e]; rfl⟩]
theorem numB_loop (most : Nat) (s : ByteArray) (h : 0 < s.size) (h2 : s.size = 1 ∨ s[0].toNat ≠ 48) : numB most s.data.toList = numL most 0 s.data.toList := by
 have e := drop_cons s 0 (by omega)
 rw [List.drop_zero] at e
 unfold numB
 rw [if_neg (by rw [e]; simp), if_neg]
 rintro ⟨h3, h4⟩
 rw [e] at h4
 simp only [List.head?_cons, Option.some.injEq] at h4
 rcases h2 with h2 | h2
 ·have : s.data.toList.length = s.size := by simp
  omega
 ·exact h2 (by rw [h4]; rfl)

theorem toNat_lt (c : UInt8) : c.toNat < 256 := UInt8.toNat_lt c

set_option maxHeartbeats 1000000 in
theorem digits_any (s : ByteArray) (w : World) (hs : s.size ≤ 1000000) :
  Calls Tryz.prog 111 #[.string s, .int .i64 1000] w fun e w' => e = .returned (.int .i64 (numI (numB 1000 s.data.toList))) ∧ w' = w := by
 by_cases h0 : s.size = 0
 ·rw [numB_empty 1000 s h0]
  go_enter Tryz.func111, Tryz.ntmps111
  go_wp2
  go_ret
  exact ⟨rfl, rfl⟩
 have hp : 0 < s.size := by omega
 by_cases hz : 1 < s.size ∧ s[0].toNat = 48
 ·obtain ⟨hz1, hz2⟩ := hz
  rw [numB_zero 1000 s hz1 hz2]
  have hb : ((s[0].toNat : Int) == 48) = true := by rw [hz2]; rfl
  clear hz2
  go_enter Tryz.func111, Tryz.ntmps111
  go_wp2
  go_ret
  exact ⟨rfl, rfl⟩
 rw [numB_loop 1000 s hp (by by_cases e : s.size = 1; exact Or.inl e; exact Or.inr fun h => hz ⟨by omega, h⟩)]
 have key : (¬ 1 < s.size) ∨ (1 < s.size ∧ ((s[0].toNat : Int) == 48) = false) := by
  by_cases e : 1 < s.size
  ·refine Or.inr ⟨e, ?_⟩
   have : s[0].toNat ≠ 48 := fun h => hz ⟨e, h⟩
   simp; omega
  ·exact Or.inl e
 clear hz
 rcases key with hz | ⟨hz, hb⟩
 all_goals
  go_enter Tryz.func111, Tryz.ntmps111
  go_wp2
  go_loop [5, 6] (fun n i => ∃ k m : Nat, k ≤ s.size ∧ m ≤ 1000 ∧ i = .int .i64 k ∧ n = .int .i64 m ∧ Hid (numL 1000 0 s.data.toList = numL 1000 m (s.data.toList.drop k))) (fun _ i => s.size - (intOf i).toNat)
  case atStart => exact ⟨0, 0, Nat.zero_le _, by omega, rfl, rfl, rfl⟩
  case round =>
   obtain ⟨k, m, hk, hm, rfl, rfl, H⟩ := hrel
   by_cases hlt : k < s.size
   ·have hd := drop_cons s k hlt
    have H2 : Hid (numL 1000 0 s.data.toList = numL 1000 m (s[k] :: s.data.toList.drop (k + 1))) := by rw [← hd]; exact H
    clear hd H
    have hc := toNat_lt s[k]
    rcases (show s[k].toNat < 48 ∨ 57 < s[k].toNat ∨ (48 ≤ s[k].toNat ∧ s[k].toNat ≤ 57 ∧ 1000 < 10 * m + (s[k].toNat - 48)) ∨ (48 ≤ s[k].toNat ∧ s[k].toNat ≤ 57 ∧ ¬ 1000 < 10 * m + (s[k].toNat - 48)) from by omega) with h | h | ⟨h1, h2, h3⟩ | ⟨h1, h2, h3⟩
    ·go_wp2
     go_ret
     exact ⟨ret_i (by rw [H2.out, numL_no (by omega)]; rfl), rfl⟩
    ·go_wp2
     go_ret
     exact ⟨ret_i (by rw [H2.out, numL_no (by omega)]; rfl), rfl⟩
    ·go_wp2
     go_ret
     exact ⟨ret_i (by rw [H2.out, numL_big ⟨h1, h2⟩ h3]; rfl), rfl⟩
    ·go_wp2
     go_round
     case rel =>
      have R : Hid (numL 1000 0 s.data.toList = numL 1000 (10 * m + (s[k].toNat - 48)) (s.data.toList.drop (k + 1))) := by rw [← numL_step ⟨h1, h2⟩ h3]; exact H2
      first | exact ⟨k + 1, 10 * m + (s[k].toNat - 48), by omega, by omega, by go_num, by go_num, R⟩ | exact ⟨_, .int .i64 (10 * ↑m + ↑s[k].toNat - 48), .int .i64 (↑k + 1), ⟨k + 1, by omega, 10 * m + (s[k].toNat - 48), by omega, by go_num, by go_num, R⟩, rfl, rfl, rfl⟩
     case measure => simp [intOf]; omega
   ·go_wp2
    go_ret
    exact ⟨ret_i (by rw [H.out, List.drop_of_length_le (by simp; omega)]; rfl), rfl⟩
end Go.Proofs.YtbgfannlfagoiaaGreatDoor
