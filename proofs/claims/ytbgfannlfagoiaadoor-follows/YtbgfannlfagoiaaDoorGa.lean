import Derived.Test.YtbgfannlfagoiaaDoorKit
import Derived.Test.YtbgfannlfagoiaaDoorPure
import Derived.Deep.QuietTactic
import Derived.BigQuiet
import Derived.Sort.Grow
import Derived.Deep.RegionHeld3
import Derived.Deep.RegionLaw
namespace Go.Proofs.YtbgfannlfagoiaaDoor
open Go.RowKit Go.Lull
set_option linter.unusedVariables false

def evC (e : Ev) : List Value := [.int .i64 e.1, .int .i64 e.2.1, .int .u8 e.2.2.1.toNat, .int .i64 e.2.2.2]

theorem alloc_is_grow (w : World) (o : Obj) : w.alloc o = Go.Sort.grow w #[o] := by
  unfold Go.Sort.grow World.alloc
  rw [Array.push_eq_append]
theorem grow_below (w : World) (os : Array Obj) : Below w.heap.size w (Go.Sort.grow w os) :=
  ⟨rfl, rfl, rfl, by simp [Go.Sort.grow], fun k hk => by simp [Go.Sort.grow, Array.getElem?_append, hk]⟩

set_option maxHeartbeats 400000 in
theorem matches_grown (x : UInt8 × UInt8 × Int) (n : Bool) (ev : Ev) (w : World) :
    Calls Tryd.prog 157 #[.agg #[.int .u8 x.1.toNat, .int .u8 x.2.1.toNat, .int .i64 x.2.2], .agg #[.int .i64 ev.1, .int .i64 ev.2.1, .int .u8 ev.2.2.1.toNat, .int .i64 ev.2.2.2]] w fun e w' => e = .returned (.bool (fitsB (n, x) ev)) ∧ ∃ os, w' = Go.Sort.grow w os := by
  obtain ⟨xk, xg, xv⟩ := x
  obtain ⟨es, et, ek, evv⟩ := ev
  by_cases hk : ek = xk
  · have hn : ((ek.toNat : Int) == (xk.toNat : Int)) = true := by rw [hk]; simp
    have key : Hid (fitsB (n, xk, xg, xv) (es, et, ek, evv) = signHolds xg evv xv) := by simp [Hid, fitsB, hk]
    subst hk
    by_cases g60 : xg.toNat = 60
    · have g : (xg.toNat : Int) = 60 := by omega
      have key2 : Hid (signHolds xg evv xv = decide (evv < xv)) := by simp [Hid, signHolds, g60]
      clear g60 hn
      go_enter Tryd.func157, Tryd.ntmps157
      go_wp2_with (go_in)
      go_ret
      rw [key.out, key2.out]
      exact ⟨rfl, by simp only [alloc_is_grow, Go.Sort.grow_grow]; exact ⟨_, rfl⟩⟩
    by_cases g61 : xg.toNat = 61
    · have g : (xg.toNat : Int) = 61 := by omega
      have key2 : Hid (signHolds xg evv xv = (evv == xv)) := by simp [Hid, signHolds, g61]
      clear g60 g61 hn
      go_enter Tryd.func157, Tryd.ntmps157
      go_wp2_with (go_in)
      go_ret
      rw [key.out, key2.out]
      exact ⟨rfl, by simp only [alloc_is_grow, Go.Sort.grow_grow]; exact ⟨_, rfl⟩⟩
    by_cases g62 : xg.toNat = 62
    · have g : (xg.toNat : Int) = 62 := by omega
      have key2 : Hid (signHolds xg evv xv = decide (xv < evv)) := by simp [Hid, signHolds, g62]
      clear g60 g61 g62 hn
      go_enter Tryd.func157, Tryd.ntmps157
      go_wp2_with (go_in)
      go_ret
      rw [key.out, key2.out]
      exact ⟨rfl, by simp only [alloc_is_grow, Go.Sort.grow_grow]; exact ⟨_, rfl⟩⟩
    have key2 : Hid (signHolds xg evv xv = true) := by simp [Hid, signHolds, g60, g61, g62]
    have b60 : ((xg.toNat : Int) == 60) = false := by simp; omega
    have b61 : ((xg.toNat : Int) == 61) = false := by simp; omega
    have b62 : ((xg.toNat : Int) == 62) = false := by simp; omega
    clear g60 g61 g62 hn
    go_enter Tryd.func157, Tryd.ntmps157
    go_wp2_with (go_in)
    go_ret
    rw [key.out, key2.out]
    exact ⟨rfl, by simp only [alloc_is_grow, Go.Sort.grow_grow]; exact ⟨_, rfl⟩⟩
  · have hne : ¬ ek.toNat = xk.toNat := fun h => hk (UInt8.toNat_inj.1 h)
    have hn : ((ek.toNat : Int) == (xk.toNat : Int)) = false := by simp; omega
    have hn2 : ¬ (ek.toNat : Int) = (xk.toNat : Int) := by omega
    have key : Hid (fitsB (n, xk, xg, xv) (es, et, ek, evv) = false) := by simp [Hid, fitsB, hk]
    clear hk hne
    go_enter Tryd.func157, Tryd.ntmps157
    go_wp2_with (go_in)
    go_ret
    rw [key.out]
    exact ⟨rfl, by simp only [alloc_is_grow, Go.Sort.grow_grow]; exact ⟨_, rfl⟩⟩

theorem matches_any (x : UInt8 × UInt8 × Int) (n : Bool) (ev : Ev) (w : World) :
    Calls Tryd.prog 157 #[.agg #[.int .u8 x.1.toNat, .int .u8 x.2.1.toNat, .int .i64 x.2.2], .agg #[.int .i64 ev.1, .int .i64 ev.2.1, .int .u8 ev.2.2.1.toNat, .int .i64 ev.2.2.2]] w fun e w' => e = .returned (.bool (fitsB (n, x) ev)) ∧ Below w.heap.size w w' := by
  refine (matches_grown x n ev w).mono ?_
  rintro e w' ⟨rfl, os, rfl⟩
  exact ⟨rfl, grow_below w os⟩

/-- A step asked whether it matches. -/
theorem must_m (W : World) (a b c : Value) : (method 346 207 (.agg #[a, b, c]) "Matches").run Tryd.prog W = .ok (157, .agg #[a, b, c]) W := by kernel_rfl
theorem not_m (W : World) (a b c : Value) : (method 346 206 (.agg #[a, b, c]) "Matches").run Tryd.prog W = .ok (157, .agg #[a, b, c]) W := by kernel_rfl

theorem must_n (W : World) (a b c : Value) : (nilAhead 346 207 (.agg #[a, b, c]) "Matches").run Tryd.prog W = .ok (some false) W := by kernel_rfl
theorem not_n (W : World) (a b c : Value) : (nilAhead 346 206 (.agg #[a, b, c]) "Matches").run Tryd.prog W = .ok (some false) W := by kernel_rfl

set_option maxHeartbeats 400000 in
theorem atOnce_any (rb n c : Nat) (a : Option Addr) (w : World) (hc : w.cell? ⟨rb, 2, none⟩ = some (.slice a n c)) :
    Calls Tryd.prog 151 #[.pointer (some ⟨rb, 0, none⟩)] w fun e w' => e = .returned (.int .i64 (if n = 0 then 2 else 0)) ∧ w' = w := by
  by_cases h : n = 0
  · rw [if_pos h]
    have h1 : ((n : Int) == 0) = true := by simp [h]
    clear h
    go_enter Tryd.func151, Tryd.ntmps151
    go_wp2
    go_ret
    exact ⟨rfl, rfl⟩
  · rw [if_neg h]
    have h1 : ((n : Int) == 0) = false := by simp; omega
    go_enter Tryd.func151, Tryd.ntmps151
    go_wp2
    go_ret
    exact ⟨rfl, rfl⟩
end Go.Proofs.YtbgfannlfagoiaaDoor

namespace Go.Proofs.YtbgfannlfagoiaaDoor
open Go.RowKit Go.Lull
set_option linter.unusedVariables false

/-- Steps of the program in memory, from a place on. -/
def ST (w : World) (pg k : Nat) (l : List Stp) : Prop := ∀ i, (h : i < l.length) → w.cell? ⟨pg, k + i, none⟩ = some (stepV l[i])

theorem all_take_succ (l : List Stp) (i : Nat) (h : i < l.length) (h0 : (l.take i).all (·.1) = true) (h1 : l[i].1 = true) : (l.take (i + 1)).all (·.1) = true := by
  rw [List.take_succ_eq_append_getElem h, List.all_append, h0]
  simp [h1]

set_option maxHeartbeats 400000 in
theorem atDeadline_any (rb pg k c : Nat) (l : List Stp) (w : World) (hl : l.length ≤ 8) (hcap : l.length ≤ c) (hc : w.cell? ⟨rb, 2, none⟩ = some (.slice (some ⟨pg, k, none⟩) l.length c)) (hs : ST w pg k l) :
    Calls Tryd.prog 155 #[.pointer (some ⟨rb, 0, none⟩)] w fun e w' => e = .returned (.int .i64 (if l.all (·.1) = true then 2 else 1)) ∧ w' = w := by
  have t1 := must_must
  have t2 := not_must
  have HS := Hid.mk' hs
  obtain ⟨R, hR⟩ : ∃ R : Int, (if l.all (·.1) = true then 2 else 1) = R := ⟨_, rfl⟩
  rw [hR]
  have HR := Hid.mk' hR
  clear hs hR
  go_enter Tryd.func155, Tryd.ntmps155
  go_wp2
  go_loop [10] (fun i => ∃ j : Nat, j ≤ l.length ∧ i = .int .i64 j ∧ Hid ((l.take j).all (·.1) = true)) (fun i => l.length - (intOf i).toNat)
  case atStart => exact ⟨0, Nat.zero_le _, rfl, by simp [Hid]⟩
  case round =>
    obtain ⟨j, hj, rfl, hA⟩ := hrel
    by_cases hlt : j < l.length
    · have hcj := HS.out j hlt
      cases hx : l[j].1 with
      | true =>
        have hA2 : Hid ((l.take (j + 1)).all (·.1) = true) := all_take_succ l j hlt hA.out hx
        obtain ⟨v, hv⟩ : ∃ v, stepV l[j] = .iface 206 v := ⟨_, by simp [stepV, hx]; rfl⟩
        rw [hv] at hcj
        clear hA hx hv
        go_wp2
        go_round
        case rel => exact ⟨j + 1, by omega, by go_num, hA2⟩
        case measure => simp [intOf]; omega
      | false =>
        have hA2 : Hid (l.all (·.1) = false) := by
          unfold Hid
          rw [List.all_eq_false]
          exact ⟨l[j], List.getElem_mem hlt, by simp [hx]⟩
        obtain ⟨v, hv⟩ : ∃ v, stepV l[j] = .iface 207 v := ⟨_, by simp [stepV, hx]; rfl⟩
        rw [hv] at hcj
        clear hA hx hv
        go_wp2
        go_ret
        exact ⟨ret_i (by rw [← HR.out, hA2.out]; rfl), rfl⟩
    · have hA2 : Hid (l.all (·.1) = true) := by
        have := hA.out
        rw [List.take_of_length_le (by omega)] at this
        exact this
      clear hA
      go_wp2
      go_ret
      exact ⟨ret_i (by rw [← HR.out, hA2.out]; rfl), rfl⟩
end Go.Proofs.YtbgfannlfagoiaaDoor
