import Derived.Test.YtbgfannlfagoiaaDoorGq
import Derived.Shelf.SlSortCmp.QuietGrown
import Derived.BigQuiet
namespace Go.Proofs.YtbgfannlfagoiaaDoor
open Go.RowKit Go.Lull
set_option linter.unusedVariables false

set_option maxHeartbeats 400000 in
theorem len_buf (w : World) (pb o n cap : Nat) (a : Option Addr) (hp : w.cell? ⟨pb, o, none⟩ = some (.slice a n cap)) :
    Calls Tryd.prog 65 #[.pointer (some ⟨pb, o, none⟩)] w fun e w' => e = .returned (.int .i64 n) ∧ w' = w := by
  go_enter Tryd.func65, Tryd.ntmps65
  go_wp2
  go_ret
  exact ⟨rfl, rfl⟩

set_option maxHeartbeats 1000000 in
theorem proper_any (w : World) (n : Nat) (x : Ev) :
    Calls Tryd.prog 64 #[.agg #[.int .i64 x.1, .int .i64 x.2.1, .int .u8 x.2.2.1.toNat, .int .i64 x.2.2.2], .int .i64 n] w fun e w' => e = .returned (.bool (properB n x)) ∧ ∃ q os, w' = Go.Sort.grow (w.drewN q) os := by
  obtain ⟨s, t, k, v⟩ := x
  obtain ⟨R, hR⟩ : ∃ R, properB n (s, t, k, v) = R := ⟨_, rfl⟩
  rw [hR]
  simp only
  unfold properB at hR
  simp only at hR
  by_cases h1 : 0 ≤ s
  · by_cases h2 : s < n
    · by_cases h3 : 0 ≤ t
      · by_cases h4 : t ≤ 1000000
        · by_cases h5 : (97 : Int) ≤ (k.toNat : Int)
          · by_cases h6 : (k.toNat : Int) ≤ 122
            · by_cases h7 : -1000 ≤ v
              · by_cases h8 : v ≤ 1000
                · have h5' : 97 ≤ k.toNat := by omega
                  have h6' : k.toNat ≤ 122 := by omega
                  simp [h1, h2, h3, h4, h5', h6', h7, h8] at hR
                  subst hR
                  clear h5' h6'
                  go_enter Tryd.func64, Tryd.ntmps64
                  go_wp2
                  go_ret
                  exact ⟨rfl, 0, _, alloc_is_grow _ _⟩
                · simp [h8] at hR
                  subst hR
                  go_enter Tryd.func64, Tryd.ntmps64
                  go_wp2
                  go_ret
                  exact ⟨rfl, 0, _, alloc_is_grow _ _⟩
              · simp [h7] at hR
                subst hR
                go_enter Tryd.func64, Tryd.ntmps64
                go_wp2
                go_ret
                exact ⟨rfl, 0, _, alloc_is_grow _ _⟩
            · have h6' : ¬ k.toNat ≤ 122 := by omega
              simp [h6'] at hR
              subst hR
              clear h6'
              go_enter Tryd.func64, Tryd.ntmps64
              go_wp2
              go_ret
              exact ⟨rfl, 0, _, alloc_is_grow _ _⟩
          · have h5' : ¬ 97 ≤ k.toNat := by omega
            simp [h5'] at hR
            subst hR
            clear h5'
            go_enter Tryd.func64, Tryd.ntmps64
            go_wp2
            go_ret
            exact ⟨rfl, 0, _, alloc_is_grow _ _⟩
        · simp [h4] at hR
          subst hR
          go_enter Tryd.func64, Tryd.ntmps64
          go_wp2
          go_ret
          exact ⟨rfl, 0, _, alloc_is_grow _ _⟩
      · simp [h3] at hR
        subst hR
        go_enter Tryd.func64, Tryd.ntmps64
        go_wp2
        go_ret
        exact ⟨rfl, 0, _, alloc_is_grow _ _⟩
    · simp [h2] at hR
      subst hR
      go_enter Tryd.func64, Tryd.ntmps64
      go_wp2
      go_ret
      exact ⟨rfl, 0, _, alloc_is_grow _ _⟩
  · simp [h1] at hR
    subst hR
    go_enter Tryd.func64, Tryd.ntmps64
    go_wp2
    go_ret
    exact ⟨rfl, 0, _, alloc_is_grow _ _⟩

end Go.Proofs.YtbgfannlfagoiaaDoor

namespace Go.Proofs.YtbgfannlfagoiaaDoor
open Go.RowKit Go.Lull
set_option linter.unusedVariables false

/-- What take leaves. -/
def TkPost (w : World) (eb : Nat) (c : CE) (x : Ev) (e : Ending) (w' : World) : Prop :=
  e = .returned (.int .i64 (takeE c.abs x).1) ∧ ∃ c', EG w' eb c' ∧ c'.abs = (takeE c.abs x).2 ∧ Ext w (c.blocks eb) w' (c'.blocks eb)

theorem EG.buf_ne {w : World} {eb : Nat} {c : CE} (h : EG w eb c) : c.bv.ownBlock ≠ some eb := fun hm => by
  have := h.nd
  unfold CE.blocks CE.base at this
  exact (List.nodup_append.1 (List.nodup_append.1 this).1).2.2 eb (by simp [hm]) eb (by simp) rfl

theorem add_eg (w : World) (eb : Nat) (c : CE) (h : EG w eb c) (x : Ev) (hs : SB c.buf) (hl : c.buf.length < 60) :
    Calls Tryd.prog 66 #[.pointer (some ⟨eb, 2, none⟩), .agg #[.int .i64 x.1, .int .i64 x.2.1, .int .u8 x.2.2.1.toNat, .int .i64 x.2.2.2]] w fun e w' => e = .returned (.tuple #[]) ∧ ∃ c', EG w' eb c' ∧ c'.abs = { c.abs with buf := putB c.buf x } ∧ Ext w (c.blocks eb) w' (c'.blocks eb) := by
  refine (add_buf w eb 2 c.bv c.buf x (by rw [cell_of_row w eb 2 _ _ _ h.blk]; rfl) (frozen_of_row _ eb 2 _ _ h.blk) h.buf h.buf_ne hl hs).mono ?_
  rintro e w' ⟨rfl, bv', w1, rfl, r1, r2, r3⟩
  have hpl := put_len c.buf x
  rw [← hpl] at r1
  obtain ⟨g1, g2⟩ := h.setBuf r2 r1 r3 (by omega)
  exact ⟨rfl, _, g1, rfl, g2⟩


theorem grown_is_below (W : World) (n : Nat) (os : Array Obj) : Below W.heap.size W (Go.Sort.grow (W.drewN n) os) := ⟨rfl, rfl, rfl, (grow_below (W.drewN n) os).size, fun k hk => (grow_below (W.drewN n) os).block k hk⟩

set_option maxRecDepth 8000 in
set_option maxHeartbeats 2000000 in
theorem take_eg (w : World) (eb : Nat) (c : CE) (x : Ev) (h : EG w eb c) (hs : SB c.buf) :
    Calls Tryd.prog 44 #[.pointer (some ⟨eb, 0, none⟩), .agg #[.int .i64 x.1, .int .i64 x.2.1, .int .u8 x.2.2.1.toNat, .int .i64 x.2.2.2]] w (TkPost w eb c x) := by
  obtain ⟨N, hN⟩ : ∃ N, w.heap.size = N := ⟨_, rfl⟩
  have hb0 : Below w.heap.size w (w.alloc (.cells #[.int .i64 x.1, .int .i64 x.2.1, .int .u8 x.2.2.1.toNat, .int .i64 x.2.2.2] 56)) := (Below.refl _ _).alloc (Nat.le_refl _) _
  have hbox : (w.alloc (.cells #[.int .i64 x.1, .int .i64 x.2.1, .int .u8 x.2.2.1.toNat, .int .i64 x.2.2.2] 56)).heap[N]? = some (.cells #[.int .i64 x.1, .int .i64 x.2.1, .int .u8 x.2.2.1.toNat, .int .i64 x.2.2.2] 56) := by rw [← hN]; exact heap_alloc_new _ _
  have hprop := Hid.mk' (fun W => proper_any W c.marks.length x)
  -- what a world behind the box still holds
  have hK : Hid (∀ W, Below w.heap.size w W → W.heap[N]? = some (.cells #[.int .i64 x.1, .int .i64 x.2.1, .int .u8 x.2.2.1.toNat, .int .i64 x.2.2.2] 56) →
      (W.cell? ⟨N, 0, none⟩ = some (.int .i64 x.1) ∧ W.cell? ⟨N, 1, none⟩ = some (.int .i64 x.2.1) ∧ W.cell? ⟨N, 2, none⟩ = some (.int .u8 x.2.2.1.toNat) ∧ W.cell? ⟨N, 3, none⟩ = some (.int .i64 x.2.2.2) ∧ W.cell? ⟨eb, 1, none⟩ = some (.slice (some ⟨c.mg, 0, none⟩) c.marks.length c.mc)) ∧ N < W.heap.size ∧ eb < W.heap.size) := by
    intro W hb hbx
    have hE := h.below hb
    refine ⟨⟨?_, ?_, ?_, ?_, ?_⟩, lt_of_block hbx, lt_of_block hE.blk⟩
    · rw [cell_of_row _ N 0 _ _ _ hbx]; rfl
    · rw [cell_of_row _ N 1 _ _ _ hbx]; rfl
    · rw [cell_of_row _ N 2 _ _ _ hbx]; rfl
    · rw [cell_of_row _ N 3 _ _ _ hbx]; rfl
    · rw [cell_of_row _ eb 1 _ _ _ hE.blk]; rfl
  have hwm := Hid.mk' (fun W (hb : Below w.heap.size w W) => wm_eg W eb c (h.below hb))
  obtain ⟨a, cap, hbv, _⟩ := h.buf.form
  have hlen := Hid.mk' (fun W (hb : Below w.heap.size w W) => len_buf W eb 2 c.buf.length cap a (by rw [cell_of_row _ eb 2 _ _ _ (h.below hb).blk]; simp [eCells, hbv]))
  have hsame : Hid (∀ W (k : Nat), (takeE c.abs x) = (k, c.abs) → Below w.heap.size w W → TkPost w eb c x (.returned (.int .i64 k)) W) := by
    intro W k hk hb
    unfold TkPost
    rw [hk]
    exact ⟨rfl, c, h.below hb, rfl, Ext.below hb⟩
  have hadd : Hid (∀ W, Below w.heap.size w W → (takeE c.abs x) = (0, { c.abs with buf := putB c.buf x }) → c.buf.length < 60 → Calls Tryd.prog 66 #[.pointer (some ⟨eb, 2, none⟩), .agg #[.int .i64 x.1, .int .i64 x.2.1, .int .u8 x.2.2.1.toNat, .int .i64 x.2.2.2]] W fun e w2 => e = .returned (.tuple #[]) ∧ Hid (TkPost w eb c x (.returned (.int .i64 0)) w2)) := by
    intro W hb hT hl
    refine (add_eg W eb c (h.below hb) x hs hl).mono ?_
    rintro e w2 ⟨rfl, c', g1, g2, g3⟩
    refine ⟨rfl, ?_⟩
    unfold Hid TkPost
    rw [hT]
    exact ⟨rfl, c', g1, g2, (Ext.below hb).trans g3⟩
  have hb60 := h.b60
  have hT : takeE c.abs x = if properB c.marks.length x = true then (if x.2.1 < markB c.marks then (5, c.abs) else if 60 ≤ c.buf.length then (6, c.abs) else (0, { c.abs with buf := putB c.buf x })) else (1, c.abs) := rfl
  obtain ⟨PO, hPO⟩ : ∃ PO, TkPost w eb c x = PO := ⟨_, rfl⟩
  rw [hPO] at hsame hadd ⊢
  have HB0 := Hid.mk' hb0
  have HBX := Hid.mk' hbox
  obtain ⟨R, hR⟩ : ∃ R, properB c.marks.length x = R := ⟨_, rfl⟩
  have hNe : eb < N := by rw [← hN]; exact lt_of_block h.blk
  rw [hR] at hprop hT
  have HT := Hid.mk' hT
  have HN := Hid.mk' hN
  obtain ⟨L, hL⟩ : ∃ L, c.buf.length = L := ⟨_, rfl⟩
  obtain ⟨MK, hMK⟩ : ∃ MK, markB c.marks = MK := ⟨_, rfl⟩
  have hm8 := h.m8
  have hcap := h.mcap
  have HL := Hid.mk' hL
  have HMK := Hid.mk' hMK
  clear hPO h hR hT hN hb0 hbox hs hbv
  rw [hL] at hb60 hlen
  simp only [hMK] at hwm
  clear hL hMK
  obtain ⟨xs, xt, xk, xv⟩ := x
  simp only at *
  go_enter Tryd.func44, Tryd.ntmps44
  go_wp2
  rw [HN.out]
  have hbW := HB0.out
  have hxW := HBX.out
  revert hbW hxW
  generalize w.alloc (.cells #[.int .i64 xs, .int .i64 xt, .int .u8 xk.toNat, .int .i64 xv] 56) = W1
  intro hbW hxW
  clear HB0 HBX
  obtain ⟨⟨k0, k1, k2, k3, k4⟩, kN, kE⟩ := hK.out W1 hbW hxW
  have g0 := cell_grown (a := ⟨N, 0, none⟩) kN k0
  have g1 := cell_grown (a := ⟨N, 1, none⟩) kN k1
  have g2 := cell_grown (a := ⟨N, 2, none⟩) kN k2
  have g3 := cell_grown (a := ⟨N, 3, none⟩) kN k3
  have g4 := cell_grown (a := ⟨eb, 1, none⟩) kE k4
  refine wp_region_quiet_grown (by kernel_rfl) (by kernel_rfl) ?_
  repeat (quiet_step (first | (go_at_call 64; refine Calls.grown_of (hprop.out _))))
  refine wpQuiet_nil ?_
  intro _ hw'
  obtain ⟨⟨nq, osq⟩, hw''⟩ := hw'
  subst hw''
  have hb2 : Below w.heap.size w (Go.Sort.grow (W1.drewN nq) osq) := hbW.trans ((grown_is_below W1 nq osq).mono hbW.size)
  have hx2 : (Go.Sort.grow (W1.drewN nq) osq).heap[N]? = some (.cells #[.int .i64 xs, .int .i64 xt, .int .u8 xk.toNat, .int .i64 xv] 56) := by rw [(grown_is_below W1 nq osq).block N kN]; exact hxW
  clear g0 g1 g2 g3 g4 k0 k1 k2 k3 k4 kN kE hbW hxW
  revert hb2 hx2
  generalize Go.Sort.grow (W1.drewN nq) osq = W2
  intro hb2 hx2
  clear W1 hprop
  have hT := HT.out
  cases R with
  | false =>
    simp only [Bool.false_eq_true, if_false] at hT
    have hfin := Hid.mk' (hsame.out W2 1 hT hb2)
    clear hT HT hsame hadd
    go_wp2
    exact hfin.out
  | true =>
    simp only [if_true] at hT
    obtain ⟨⟨k0, k1, k2, k3, k4⟩, kN, kE⟩ := hK.out W2 hb2 hx2
    have hw2 := Hid.mk' (fun q => hwm.out (W2.drewN q) (below_drewN hb2 q))
    by_cases hlate : xt < MK
    · rw [if_pos (by rw [HMK.out]; exact hlate)] at hT
      have hfin := Hid.mk' (fun q => hsame.out (W2.drewN q) 5 hT (below_drewN hb2 q))
      clear hT HT hsame hadd
      go_wp2
      go_quiet ((go_at_call 31; exact Calls.quiet_of_same (hw2.out _)))
      go_wp2
      exact hfin.out _
    · rw [if_neg (by rw [HMK.out]; exact hlate)] at hT
      have hl2 := Hid.mk' (fun q => hlen.out (W2.drewN q) (below_drewN hb2 q))
      by_cases hfull : 60 ≤ L
      · rw [if_pos (by rw [HL.out]; exact hfull)] at hT
        have hfin := Hid.mk' (fun q => hsame.out (W2.drewN q) 6 hT (below_drewN hb2 q))
        clear hT HT hsame hadd
        go_wp2
        go_quiet ((go_at_call 31; exact Calls.quiet_of_same (hw2.out _)))
        go_wp2_with (go_at_call 65; refine (hl2.out _).mono ?_; rintro e w' ⟨rfl, rfl⟩)
        exact hfin.out _
      · rw [if_neg (by rw [HL.out]; exact hfull)] at hT
        have hadd2 := Hid.mk' (fun W hb => hadd.out W hb hT (by rw [HL.out]; omega))
        clear hT HT hsame hadd
        go_wp2
        go_quiet ((go_at_call 31; exact Calls.quiet_of_same (hw2.out _)))
        go_wp2_with (go_at_call 65; refine (hl2.out _).mono ?_; rintro e w' ⟨rfl, rfl⟩)
        have hb3 : Below w.heap.size w (W2.drewN nq) := below_drewN hb2 nq
        have hx3 : (W2.drewN nq).heap[N]? = some (.cells #[.int .i64 xs, .int .i64 xt, .int .u8 xk.toNat, .int .i64 xv] 56) := hx2
        revert hb3 hx3
        generalize W2.drewN nq = W3
        clear k0 k1 k2 k3 k4 kN kE
        intro hb3 hx3
        obtain ⟨⟨k0, k1, k2, k3, k4⟩, kN, kE⟩ := hK.out W3 hb3 hx3
        have hA := Hid.mk' (hadd2.out W3.drew hb3.drew)
        go_region_with (go_at_call 66; with_reducible refine hA.out.mono ?_; rintro e w4 ⟨rfl, hP⟩)
        all_goals
          go_wp2
          exact hP.out
end Go.Proofs.YtbgfannlfagoiaaDoor
