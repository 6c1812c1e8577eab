import Derived.Test.YtbgfannlfagoiaaDoorKa
import Derived.Test.YtbgfannlfagoiaaDoorPure
import Derived.Shelf.SlSortCmp.QuietGrown
namespace Go.Proofs.YtbgfannlfagoiaaDoor
open Go.RowKit Go.Lull
set_option linter.unusedVariables false

def csB (raw : List Int) : List Int := if raw = [] then [0] else (raw.take 4).map (fun c => pickI c 1099511627776)
def lastB (raw : List Int) : Nat := match raw.getLast? with | none => 7 | some c => (pickI c 40).toNat
def patB (raw : List Int) : List UInt8 := textC (csB raw) (lastB raw)

theorem keepNum_at (z : Int) (W : World) (h0 : 0 ≤ z) (h1 : z < 100) :
    Calls Tryd.prog 20 #[.int .i64 z] W fun e w' => e = .returned (.string ⟨(numT z.toNat).toArray⟩) ∧ ∃ q os, w' = Go.Sort.grow (W.drewN q) os := by
  have := keepNum_any z.toNat W (by omega)
  rw [show ((z.toNat : Nat) : Int) = z by omega] at this
  exact this

theorem pat_fin {raw : List Int} {k : Nat} {c : Int} {S X : ByteArray} {B B' : Bool} (hSt : S.data.toList = (stepsC true ((csB raw).take k)).1 ∧ B = (stepsC true ((csB raw).take k)).2) (HX : (csB raw).take (k + 1) = (csB raw).take k ++ [c])
    (hX : X.data.toList = S.data.toList ++ (wordC B c ++ [32])) (hB' : B' = notC B c) : Hid (X.data.toList = (stepsC true ((csB raw).take (k + 1))).1 ∧ B' = (stepsC true ((csB raw).take (k + 1))).2) := by
  unfold Hid
  rw [HX, stepsC_snoc, ← hSt.2, ← hSt.1]
  exact ⟨hX, hB'⟩
theorem slice3 (d : Int) (h0 : 0 ≤ d) (h1 : d < 3) (W : World) : (Instr.slice 9 (.string ⟨#[60, 61, 62]⟩) (some (.int .i64 d)) (some (.int .i64 (d + 1))) none).run Tryd.prog W = .ok (.string ⟨#[UInt8.ofNat (60 + d.toNat)]⟩) W := by
  have hs : ((⟨#[60, 61, 62]⟩ : ByteArray).size : Int) = 3 := rfl
  rw [run_slice_string (P := Tryd.prog) W 9 ⟨#[60, 61, 62]⟩ .i64 .i64 d (d + 1) Tryd.underlying9 h0 (by omega) (by omega)]
  have : d = 0 ∨ d = 1 ∨ d = 2 := by omega
  rcases this with rfl | rfl | rfl <;> rfl
theorem app_toList (a b : ByteArray) : (a ++ b).data.toList = a.data.toList ++ b.data.toList := by
  rw [ByteArray.data_append, Array.toList_append]
theorem pat_size {k : Nat} {c : Int} {S X : ByteArray} {B : Bool} (hS : S.size ≤ 5 * k) (hX : X.data.toList = S.data.toList ++ (wordC B c ++ [32])) : X.size ≤ 5 * (k + 1) := by
  have h1 : X.size = X.data.toList.length := rfl
  have h2 : S.size = S.data.toList.length := rfl
  have h3 := word_len B c
  rw [h1, hX]
  simp only [List.length_append, List.length_cons, List.length_nil]
  omega
def barkB (b : Bool) : List UInt8 := if b = true then [33] else []
theorem pat_x0 {c : Int} {S L : ByteArray} {B : Bool} (h9 : ¬ c / 9 % 3 = 0) (hL : L.data.toList = S.data.toList ++ barkB (notC B c)) (hlet : (97 + c / 3 % 3).toNat = 97 + (c / 3 % 3).toNat) : (L ++ ⟨#[UInt8.ofNat (97 + c / 3 % 3).toNat]⟩ ++ ⟨#[32]⟩ : ByteArray).data.toList = S.data.toList ++ (wordC B c ++ [32]) := by
  rw [app_toList, app_toList, hL, hlet]
  unfold wordC bodyC barkB
  rw [if_neg h9]
  simp

def sgnC (d : Int) : UInt8 := UInt8.ofNat (60 + d.toNat)
theorem pat_x9 {c : Int} {S L : ByteArray} {B : Bool} (h9 : c / 9 % 3 = 0) (hL : L.data.toList = S.data.toList ++ barkB (notC B c)) (hlet : (97 + c / 3 % 3).toNat = 97 + (c / 3 % 3).toNat) : (L ++ ⟨#[UInt8.ofNat (97 + c / 3 % 3).toNat]⟩ ++ ⟨#[sgnC (c / 27 % 3)]⟩ ++ ⟨(numT (c / 81 % 3).toNat).toArray⟩ ++ ⟨#[32]⟩ : ByteArray).data.toList = S.data.toList ++ (wordC B c ++ [32]) := by
  rw [app_toList, app_toList, app_toList, app_toList, hL, hlet]
  unfold wordC bodyC barkB sgnC
  rw [if_pos h9]
  simp
theorem bark_t {S : ByteArray} {c : Int} : S.data.toList = S.data.toList ++ barkB (notC true c) := by simp [barkB, notC]
theorem bark_f {S : ByteArray} {c : Int} (h : ¬ c % 3 = 0) : S.data.toList = S.data.toList ++ barkB (notC false c) := by simp [barkB, notC, h]
theorem bark_y {S : ByteArray} {c : Int} (h : c % 3 = 0) : (S ++ ⟨#[33]⟩ : ByteArray).data.toList = S.data.toList ++ barkB (notC false c) := by rw [app_toList]; simp [barkB, notC, h]

theorem grown_is_below' (W : World) (n : Nat) (os : Array Obj) : Below W.heap.size W (Go.Sort.grow (W.drewN n) os) := ⟨rfl, rfl, rfl, (grow_below (W.drewN n) os).size, fun k hk => (grow_below (W.drewN n) os).block k hk⟩

set_option maxRecDepth 8000 in
set_option maxHeartbeats 2000000 in
theorem pattern_round (w : World) (v : Value) (raw : List Int) (h : RAW w v raw) (hne : raw ≠ []) :
    Calls Tryd.prog 50 #[v] w fun e w' => ∃ S : ByteArray, e = .returned (.string S) ∧ S.data.toList = patB raw ∧ Below w.heap.size w w' := by
  obtain ⟨a, b, off, cap, rfl, hcap, hat, hcell⟩ := h.ex
  obtain ⟨rfl, hbl⟩ := hat hne
  have hfit := h.fits
  have hlen := h.len
  have hml : raw.length ≤ 9223372036854775807 := by unfold maxLen at hlen; omega
  have hcs : csB raw = (raw.take 4).map (fun c => pickI c 1099511627776) := by simp [csB, hne]
  have hpos : 0 < raw.length := List.length_pos_iff.2 hne
  have HC := Hid.mk' hcell
  have HF := Hid.mk' hfit
  have HCS := Hid.mk' hcs
  have HNE := Hid.mk' hne
  clear h hcell hat hfit hcs hne
  go_enter Tryd.func50, Tryd.ntmps50
  go_wp2
  go_loopw [3, 4, 5] (fun s nt i wr => ∃ (k : Nat) (S : ByteArray) (B : Bool), i = .int .i64 k ∧ s = .string S ∧ nt = .bool B ∧ k ≤ raw.length ∧ k ≤ 4 ∧ S.size ≤ 5 * k ∧ Hid (S.data.toList = (stepsC true ((csB raw).take k)).1 ∧ B = (stepsC true ((csB raw).take k)).2) ∧ Hid (Below w.heap.size w wr)) (fun _ _ i _ => 4 - (intOf i).toNat)
  case atStart => exact ⟨0, _, true, rfl, rfl, rfl, Nat.zero_le _, Nat.zero_le _, by decide, ⟨rfl, rfl⟩, Below.refl _ _⟩
  case round =>
    obtain ⟨k, S, B, rfl, rfl, rfl, hk, hk4, hS, hSt, hB⟩ := hrel
    by_cases hlt : k < raw.length ∧ k < 4
    · obtain ⟨hlt, h4⟩ := hlt
      have h4' : (k : Int) < 4 := by omega
      obtain ⟨c0, hc0⟩ : ∃ c0, raw[k] = c0 := ⟨_, rfl⟩
      have hcc : wr.cell? ⟨b, off + k, none⟩ = some (.int .i64 c0) := by
        rw [hB.out.cell (p := ⟨b, off + k, none⟩) hbl, HC.out k hlt, hc0]
      have hpick := pick_any c0 1099511627776 wr (HF.out c0 (by rw [← hc0]; exact List.getElem_mem hlt)) (by omega) (by omega)
      obtain ⟨c, hc⟩ : ∃ c, pickI c0 1099511627776 = c := ⟨_, rfl⟩
      have hp0 := (pickI_nn c0 1099511627776 (by omega))
      rw [hc] at hpick hp0
      obtain ⟨hp1, hp2⟩ := hp0
      have HX : Hid ((csB raw).take (k + 1) = (csB raw).take k ++ [c]) := by
        unfold Hid
        rw [HCS.out, List.take_succ_eq_append_getElem (by simp; omega)]
        simp [hc0, hc]
      clear hc hc0
      have d0 : 0 ≤ c / 27 % 3 := Int.emod_nonneg _ (by omega)
      have d1 : c / 27 % 3 < 3 := Int.emod_lt_of_pos _ (by omega)
      have n0 : 0 ≤ c / 81 % 3 := Int.emod_nonneg _ (by omega)
      have n1 : c / 81 % 3 < 3 := Int.emod_lt_of_pos _ (by omega)
      have l0 : 0 ≤ c / 3 % 3 := Int.emod_nonneg _ (by omega)
      have l1 : c / 3 % 3 < 3 := Int.emod_lt_of_pos _ (by omega)
      have hnum := Hid.mk' (fun W => keepNum_at (c / 81 % 3) W n0 (by omega))
      have hcv := fun W z => conv_one W z (.cells #[.int .u8 z] 5) W.heap.size 1 rfl rfl
      have hlet : Hid ((97 + c / 3 % 3).toNat = 97 + (c / 3 % 3).toNat) := by unfold Hid; omega
      have d2 : c / 27 % 3 ≤ 2 := by omega
      have d3 : c / 27 % 3 + 1 ≤ 3 := by omega
      have hq3 : c % 3 = 0 ∨ ¬ c % 3 = 0 := by omega
      have hbn : (B = true ∨ (B = false ∧ c % 3 = 0)) ∨ (B = false ∧ ¬ c % 3 = 0) := by cases B <;> simp <;> omega
      have q1 : IntKind.i64.wrap (c.tdiv 27) = c / 27 := IntWalk.i64_quo c 27 ⟨hp1, by omega, by omega⟩
      have q2 : (c / 27).tmod 3 = c / 27 % 3 := Int.tmod_eq_emod_of_nonneg (by omega)
      have q3 : IntKind.i64.wrap (c / 27 % 3 + 1) = c / 27 % 3 + 1 := IntWalk.i64_in _ (by omega)
      have q4 : IntKind.i64.wrap (c.tdiv 81) = c / 81 := IntWalk.i64_quo c 81 ⟨hp1, by omega, by omega⟩
      have q5 : (c / 81).tmod 3 = c / 81 % 3 := Int.tmod_eq_emod_of_nonneg (by omega)
      have d4 : 0 ≤ c / 27 % 3 + 1 := by omega
      have d5 : c / 27 % 3 ≤ c / 27 % 3 + 1 := by omega
      have hx3 : (⟨#[60, 61, 62]⟩ : ByteArray).extract (c / 27 % 3).toNat (c / 27 % 3 + 1).toNat = ⟨#[sgnC (c / 27 % 3)]⟩ := by
        unfold sgnC
        generalize c / 27 % 3 = d at d0 d1
        have : d = 0 ∨ d = 1 ∨ d = 2 := by omega
        rcases this with rfl | rfl | rfl <;> rfl
      have hnl : (numT (c / 81 % 3).toNat).length = 1 := numT_one _ (by omega)
      have z2 : ¬ 9223372036854775807 < S.size + 1 + 1 := by omega
      have z3 : ¬ 9223372036854775807 < S.size + 1 + 1 + 1 := by omega
      have z4 : ¬ 9223372036854775807 < S.size + 1 + 1 + 1 + 1 := by omega
      have z5 : ¬ 9223372036854775807 < S.size + 1 + 1 + 1 + 1 + 1 := by omega
      rcases Nat.eq_zero_or_pos k with hk0 | hk0
      all_goals
        first | (subst hk0; simp only [Nat.add_zero] at hcc) | (have hk0' : ¬ (k : Int) = 0 := by omega)
        rcases hbn with (hb | ⟨hb, h3⟩) | ⟨hb, h3⟩
        all_goals
          subst hb
          by_cases h9 : c / 9 % 3 = 0
          · go_wp2_with (first | (go_at_call 16; refine hpick.mono ?_; rintro e w' ⟨rfl, rfl⟩))
            refine wp_region_quiet_grown (by kernel_rfl) (by kernel_rfl) ?_
            repeat (quiet_step (first | (go_at_call 20; refine Calls.grown_of (hnum.out _))))
            refine wpQuiet_nil ?_
            intro _ hw'
            obtain ⟨⟨nq, osq⟩, hw''⟩ := hw'
            subst hw''
            go_wp2
            go_roundw
            case rel =>
              first
                | exact ⟨_, _, _, by go_num, rfl, rfl, by omega, by omega, pat_size hS (pat_x9 h9 bark_t hlet.out), pat_fin hSt.out HX.out (pat_x9 h9 bark_t hlet.out) rfl, Hid.mk' ((hB.out.alloc hB.out.size _).trans ((grown_is_below' _ nq osq).mono (by have := hB.out.size; simp; omega)))⟩
                | exact ⟨_, _, _, by go_num, rfl, rfl, by omega, by omega, pat_size hS (pat_x9 h9 (bark_f h3) hlet.out), pat_fin hSt.out HX.out (pat_x9 h9 (bark_f h3) hlet.out) (by first | (simp [notC]; done) | (simp [notC, h3]; done)), Hid.mk' ((hB.out.alloc hB.out.size _).trans ((grown_is_below' _ nq osq).mono (by have := hB.out.size; simp; omega)))⟩
                | exact ⟨_, _, _, by go_num, rfl, rfl, by omega, by omega, pat_size hS (pat_x9 h9 (bark_y h3) hlet.out), pat_fin hSt.out HX.out (pat_x9 h9 (bark_y h3) hlet.out) (by first | (simp [notC]; done) | (simp [notC, h3]; done)), Hid.mk' ((hB.out.alloc hB.out.size _).trans ((grown_is_below' _ nq osq).mono (by have := hB.out.size; simp; omega)))⟩
                | trace_state
            case measure => simp [intOf] <;> omega
          · go_wp2_with (first | (go_at_call 16; refine hpick.mono ?_; rintro e w' ⟨rfl, rfl⟩))
            go_roundw
            case rel =>
              first
                | exact ⟨_, _, _, by go_num, rfl, rfl, by omega, by omega, pat_size hS (pat_x0 h9 bark_t hlet.out), pat_fin hSt.out HX.out (pat_x0 h9 bark_t hlet.out) rfl, Hid.mk' (hB.out.alloc hB.out.size _)⟩
                | exact ⟨_, _, _, by go_num, rfl, rfl, by omega, by omega, pat_size hS (pat_x0 h9 (bark_f h3) hlet.out), pat_fin hSt.out HX.out (pat_x0 h9 (bark_f h3) hlet.out) (by first | (simp [notC]; done) | (simp [notC, h3]; done)), Hid.mk' (hB.out.alloc hB.out.size _)⟩
                | exact ⟨_, _, _, by go_num, rfl, rfl, by omega, by omega, pat_size hS (pat_x0 h9 (bark_y h3) hlet.out), pat_fin hSt.out HX.out (pat_x0 h9 (bark_y h3) hlet.out) (by first | (simp [notC]; done) | (simp [notC, h3]; done)), Hid.mk' (hB.out.alloc hB.out.size _)⟩
                | trace_state
            case measure => simp [intOf] <;> omega
    · have hkk : k = (csB raw).length := by
        rw [HCS.out]; simp; omega
      have hSt2 : Hid (S.data.toList = (stepsC true (csB raw)).1) := by
        unfold Hid
        have := hSt.out.1
        rw [List.take_of_length_le (by omega)] at this
        exact this
      have HKK := Hid.mk' hkk
      clear hkk hSt
      obtain ⟨n, hn⟩ : ∃ n, raw.length = n + 1 := ⟨raw.length - 1, by omega⟩
      obtain ⟨c0, hc0⟩ : ∃ c0, raw[n] = c0 := ⟨_, rfl⟩
      have hcc : wr.cell? ⟨b, off + n, none⟩ = some (.int .i64 c0) := by
        rw [hB.out.cell (p := ⟨b, off + n, none⟩) hbl, HC.out n (by omega), hc0]
      have hpick := pick_any c0 40 wr (HF.out c0 (by rw [← hc0]; exact List.getElem_mem _)) (by omega) (by omega)
      have hlast : Hid (lastB raw = (pickI c0 40).toNat) := by
        unfold Hid lastB
        rw [List.getLast?_eq_getElem?, hn, show n + 1 - 1 = n by omega, List.getElem?_eq_getElem (by omega), hc0]
      clear hc0
      obtain ⟨p1, p2⟩ := pickI_nn c0 40 (by omega)
      obtain ⟨z, hz⟩ : ∃ z, pickI c0 40 = z := ⟨_, rfl⟩
      rw [hz] at hpick p1 p2 hlast
      clear hz
      have hnum := Hid.mk' (fun W => keepNum_at z W p1 (by omega))
      have hnl := numT_len z.toNat
      have hsz20 : S.size ≤ 20 := by omega
      have hfin : Hid (∀ W, Below wr.heap.size wr W → ∃ S' : ByteArray, Ending.returned (.string (S ++ ⟨#[119, 105, 116, 104, 105, 110, 32]⟩ ++ ⟨(numT z.toNat).toArray⟩)) = .returned (.string S') ∧ S'.data.toList = patB raw ∧ Below w.heap.size w W) := by
        intro W hb
        refine ⟨_, rfl, ?_, hB.out.trans (hb.mono hB.out.size)⟩
        rw [app_toList, app_toList, hSt2.out]
        unfold patB textC withinW
        rw [hlast.out]
        simp
      by_cases h4 : (k : Int) < 4
      · have hk0' : ¬ (k : Int) = 0 := by omega
        have hkr : ¬ (k : Int) < (n : Int) + 1 := by omega
        have hkr2 : ¬ k < n + 1 := by omega
        clear hlt
        go_wp2_with (first | (go_at_call 16; refine hpick.mono ?_; rintro e w' ⟨rfl, rfl⟩) | (go_at_call 20; refine (hnum.out _).mono ?_; rintro e w' ⟨rfl, q, os, rfl⟩))
        go_ret
        exact hfin.out _ (grown_is_below' _ _ _)
      · clear hlt
        go_wp2_with (first | (go_at_call 16; refine hpick.mono ?_; rintro e w' ⟨rfl, rfl⟩) | (go_at_call 20; refine (hnum.out _).mono ?_; rintro e w' ⟨rfl, q, os, rfl⟩))
        go_ret
        exact hfin.out _ (grown_is_below' _ _ _)
end Go.Proofs.YtbgfannlfagoiaaDoor
