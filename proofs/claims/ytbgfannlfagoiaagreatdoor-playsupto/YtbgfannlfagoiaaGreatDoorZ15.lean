import Derived.Test.YtbgfannlfagoiaaGreatDoorZ07
import Derived.Test.YtbgfannlfagoiaaGreatDoorZ11
import Derived.Shelf.SlSortCmp.QuietGrown
import Derived.Test.YtbgfannlfagoiaaGreatDoorZ13
import Derived.Deep.RegionWith
import Derived.Test.YtbgfannlfagoiaaGreatDoorZ06
import Derived.LaidEqlPtr
namespace Go.Lull
set_option linter.unusedVariables false

def dg (n : Nat) : UInt8 := UInt8.ofNat (48 + n)
def numT (n : Nat) : List UInt8 := if n < 10 then [dg n] else [dg (n / 10), dg (n % 10)]
/-- Is a step, by a raw number, one that must not come? -/
def notC (not : Bool) (c : Int) : Bool := !not && (c % 3 == 0)
def bodyC (c : Int) : List UInt8 := UInt8.ofNat (97 + (c / 3 % 3).toNat) :: (if c / 9 % 3 = 0 then UInt8.ofNat (60 + (c / 27 % 3).toNat) :: numT (c / 81 % 3).toNat else [])
def wordC (not : Bool) (c : Int) : List UInt8 := (if notC not c = true then [33] else []) ++ bodyC c
/-- The steps' text, and whether the last must not come. -/
def stepsC : Bool → List Int → List UInt8 × Bool
 | not, [] => ([], not)
 | not, c :: r => let x := stepsC (notC not c) r; (wordC not c ++ 32 :: x.1, x.2)
def withinW : List UInt8 := [119, 105, 116, 104, 105, 110]
def textC (cs : List Int) (n : Nat) : List UInt8 := (stepsC true cs).1 ++ (withinW ++ 32 :: numT n)

theorem stepsC_snoc (c : Int) : ∀ (l : List Int) (not : Bool), stepsC not (l ++ [c]) = ((stepsC not l).1 ++ (wordC (stepsC not l).2 c ++ [32]), notC (stepsC not l).2 c)
 | [], not => by simp [stepsC]
 | a :: l, not => by
  have ih := stepsC_snoc c l (notC not a)
  simp only [List.cons_append, stepsC, ih]
  simp

/-! ### It is a pattern -/
theorem wordOf_app {a r : List UInt8} (h : ∀ x ∈ a, x ≠ 32) : wordOf (a ++ 32 :: r) = a ∧ restOf (a ++ 32 :: r) = some r := by
 induction a with
 | nil => simp [wordOf, restOf]
 | cons b a ih =>
  have hb : (b != 32) = true := by simpa using h b List.mem_cons_self
  obtain ⟨h1, h2⟩ := ih (fun x hx => h x (List.mem_cons_of_mem _ hx))
  refine ⟨?_, ?_⟩
  ·rw [List.cons_append]; unfold wordOf at *; rw [List.takeWhile_cons_of_pos (p := (· != 32)) hb, h1]
  ·rw [List.cons_append]; unfold restOf at *; rw [List.dropWhile_cons_of_pos (p := (· != 32)) hb]; exact h2
theorem wordOf_all {a : List UInt8} (h : ∀ x ∈ a, x ≠ 32) : wordOf a = a ∧ restOf a = none := by
 induction a with
 | nil => exact ⟨rfl, rfl⟩
 | cons b a ih =>
  have hb : (b != 32) = true := by simpa using h b List.mem_cons_self
  obtain ⟨h1, h2⟩ := ih (fun x hx => h x (List.mem_cons_of_mem _ hx))
  refine ⟨?_, ?_⟩
  ·unfold wordOf at *; rw [List.takeWhile_cons_of_pos (p := (· != 32)) hb, h1]
  ·unfold restOf at *; rw [List.dropWhile_cons_of_pos (p := (· != 32)) hb]; exact h2
theorem words_app {a r : List UInt8} (h : ∀ x ∈ a, x ≠ 32) : words (a ++ 32 :: r) = a :: words r := by
 obtain ⟨h1, h2⟩ := wordOf_app (r := r) h
 rw [words_some h2, h1]
theorem words_all {a : List UInt8} (h : ∀ x ∈ a, x ≠ 32) : words a = [a] := by
 obtain ⟨h1, h2⟩ := wordOf_all h
 rw [words_none h2, h1]

theorem dg_facts : ∀ n, n < 10 → dg n ≠ 32 ∧ 48 ≤ (dg n).toNat ∧ (dg n).toNat ≤ 57 ∧ (dg n).toNat - 48 = n ∧ (dg n = 48 → n = 0) := by decide
theorem numT_blank (n : Nat) (h : n < 100) : ∀ x ∈ numT n, x ≠ 32 := by
 intro x hx
 unfold numT at hx
 split at hx
 ·rename_i h1
  simp at hx; subst hx; exact (dg_facts n h1).1
 ·simp at hx
  rcases hx with rfl | rfl
  ·exact (dg_facts (n / 10) (by omega)).1
  ·exact (dg_facts (n % 10) (by omega)).1
theorem numT_is (n : Nat) (h : n < 100) : numB 1000 (numT n) = some n := by
 have : ∀ n : Fin 100, numB 1000 (numT n.val) = some n.val := by decide
 exact this ⟨n, h⟩
/-- A step by its raw number. -/
def stpC (not : Bool) (c : Int) : Stp :=
 (notC not c, UInt8.ofNat (97 + (c / 3 % 3).toNat), if c / 9 % 3 = 0 then (UInt8.ofNat (60 + (c / 27 % 3).toNat), ((c / 81 % 3).toNat : Int)) else (0, 0))
theorem cond_facts : ∀ (a s d : Fin 3), condB (UInt8.ofNat (97 + a.val) :: UInt8.ofNat (60 + s.val) :: numT d.val) = some (UInt8.ofNat (97 + a.val), UInt8.ofNat (60 + s.val), (d.val : Int)) ∧ condB [UInt8.ofNat (97 + a.val)] = some (UInt8.ofNat (97 + a.val), 0, 0) ∧ UInt8.ofNat (97 + a.val) ≠ 33 ∧ UInt8.ofNat (97 + a.val) ≠ 32 ∧ UInt8.ofNat (60 + s.val) ≠ 32 ∧ UInt8.ofNat (97 + a.val) ≠ 119 := by decide
theorem three (c : Int) : ∃ a : Fin 3, (c % 3).toNat = a.val := ⟨⟨(c % 3).toNat, by have := Int.emod_nonneg c (show (3 : Int) ≠ 0 by omega); have := Int.emod_lt_of_pos c (show (0 : Int) < 3 by omega); omega⟩, rfl⟩
theorem body_cond (c : Int) : condB (bodyC c) = some (stpC true c).2 ∧ (∀ r, bodyC c ≠ 33 :: r) ∧ (∀ x ∈ bodyC c, x ≠ 32) ∧ (∀ r, bodyC c ≠ 119 :: r) := by
 obtain ⟨a, ha⟩ := three (c / 3)
 obtain ⟨s, hs⟩ := three (c / 27)
 obtain ⟨d, hd⟩ := three (c / 81)
 obtain ⟨f1, f2, f3, f4, f5, f6⟩ := cond_facts a s d
 unfold bodyC stpC
 simp only [ha, hs, hd]
 by_cases h9 : c / 9 % 3 = 0
 ·simp only [h9, if_true]
  refine ⟨f1, ?_, ?_, ?_⟩
  ·intro r h; exact f3 (List.cons.inj h).1
  ·intro x hx
   rcases List.mem_cons.1 hx with rfl | hx
   ·exact f4
   ·rcases List.mem_cons.1 hx with rfl | hx
    ·exact f5
    ·exact numT_blank _ (by omega) x hx
  ·intro r h; exact f6 (List.cons.inj h).1
 ·simp only [h9, if_false]
  refine ⟨f2, ?_, ?_, ?_⟩
  ·intro r h; exact f3 (List.cons.inj h).1
  ·intro x hx
   rw [List.mem_singleton] at hx; subst hx; exact f4
  ·intro r h; exact f6 (List.cons.inj h).1
theorem word_step (not : Bool) (c : Int) : stepB (wordC not c) = some (stpC not c) ∧ (∀ x ∈ wordC not c, x ≠ 32) ∧ wordC not c ≠ withinW := by
 obtain ⟨h1, h2, h3, h4⟩ := body_cond c
 unfold wordC
 by_cases hn : notC not c = true
 ·rw [if_pos hn]
  refine ⟨?_, ?_, ?_⟩
  ·rw [List.singleton_append, stepB_not, h1]
   show some (true, (stpC true c).2) = some (stpC not c)
   rw [show stpC not c = (notC not c, (stpC true c).2) from rfl, hn]
  ·intro x hx
   rcases List.mem_append.1 hx with hx | hx
   ·simp at hx; subst hx; decide
   ·exact h3 x hx
  ·intro h
   have := (List.cons.inj h).1
   exact absurd this (by decide)
 ·rw [if_neg hn, List.nil_append]
  refine ⟨?_, h3, ?_⟩
  ·rw [stepB_must h2, h1]
   show some (false, (stpC true c).2) = some (stpC not c)
   have : notC not c = false := by simpa using hn
   rw [show stpC not c = (notC not c, (stpC true c).2) from rfl, this]
  ·exact h4 _
/-- The steps by raw numbers. -/
def stpsC : Bool → List Int → List Stp
 | _, [] => []
 | not, c :: r => stpC not c :: stpsC (notC not c) r
theorem take_step {l : List Stp} {not : Bool} {c : Int} (hl : l.length < 8) (he : l = [] ∧ not = true ∨ l ≠ [] ∧ endB l = !not) : takeB (l, 0, 0) (wordC not c) = some (l ++ [stpC not c], 0, 0) := by
 obtain ⟨h1, _, h3⟩ := word_step not c
 have hm : mayB l (stpC not c) = true := by
  simp only [mayB, hl, decide_true, Bool.true_and]
  cases hn : notC not c with
  | false => simp [stpC, hn]
  | true =>
   have : not = false := by simp [notC] at hn; exact hn.1
   subst this
   rcases he with ⟨_, h⟩ | ⟨_, h⟩
   ·cases h
   ·rw [h]; simp
 unfold withinW at h3
 unfold takeB
 simp only [if_true]
 rw [if_neg h3, h1]
 simp only [hm, if_true]
theorem end_step (l : List Stp) (not : Bool) (c : Int) : endB (l ++ [stpC not c]) = !notC not c := by rw [endB_snoc]; rfl
theorem run_steps (n : Nat) (hn : n < 100) : ∀ (cs : List Int) (l : List Stp) (not : Bool) (p : Nat), l.length + cs.length ≤ 8 → (l = [] ∧ not = true ∧ cs ≠ [] ∨ l ≠ [] ∧ endB l = !not) →
  runW (l, 0, 0) p (words ((stepsC not cs).1 ++ (withinW ++ 32 :: numT n))) = .inr (l ++ stpsC not cs, (n : Int), 2)
 | [], l, not, p, hl, he => by
  have hne : l ≠ [] := by
   rcases he with ⟨_, _, h⟩ | ⟨h, _⟩
   ·exact absurd rfl h
   ·exact h
  have hw : ∀ x ∈ withinW, x ≠ 32 := by decide
  simp only [stepsC, List.nil_append, stpsC, List.append_nil]
  rw [words_app hw, words_all (numT_blank n hn)]
  have ht : takeB (l, 0, 0) withinW = some (l, 0, 1) := by
   unfold takeB
   simp [withinW, hne]
  have ht2 : takeB (l, 0, 1) (numT n) = some (l, (n : Int), 2) := by
   unfold takeB
   simp [numT_is n hn]
  simp [runW, ht, ht2]
 | c :: r, l, not, p, hl, he => by
  obtain ⟨_, h2, _⟩ := word_step not c
  have e1 : (stepsC not (c :: r)).1 ++ (withinW ++ 32 :: numT n) = wordC not c ++ 32 :: ((stepsC (notC not c) r).1 ++ (withinW ++ 32 :: numT n)) := by simp [stepsC]
  rw [e1, words_app h2]
  have ht := take_step (l := l) (not := not) (c := c) (by simp at hl; omega) (by
   rcases he with ⟨h1, h2, _⟩ | h1
   ·exact Or.inl ⟨h1, h2⟩
   ·exact Or.inr h1)
  have ih := run_steps n hn r (l ++ [stpC not c]) (notC not c) (p + (wordC not c).length + 1) (by simp at hl ⊢; omega) (Or.inr ⟨by simp, end_step l not c⟩)
  simp only [runW, ht]
  rw [ih]
  simp [stpsC]
theorem numT_len (n : Nat) : (numT n).length ≤ 2 := by unfold numT; split <;> simp
theorem numT_one (n : Nat) (h : n < 10) : (numT n).length = 1 := by unfold numT; rw [if_pos h]; rfl
theorem word_len (not : Bool) (c : Int) : (wordC not c).length ≤ 4 := by
 unfold wordC bodyC
 have h1 : (if notC not c = true then [(33 : UInt8)] else []).length ≤ 1 := by split <;> simp
 have h2 : (c / 81 % 3).toNat < 10 := by have := Int.emod_lt_of_pos (c / 81) (show (0 : Int) < 3 by omega); omega
 have h3 := numT_one _ h2
 have h4 : (if c / 9 % 3 = 0 then UInt8.ofNat (60 + (c / 27 % 3).toNat) :: numT (c / 81 % 3).toNat else []).length ≤ 2 := by split <;> simp [h3]
 rw [List.length_append, List.length_cons]
 omega
theorem steps_len : ∀ (cs : List Int) (not : Bool), (stepsC not cs).1.length ≤ 5 * cs.length
 | [], not => by simp [stepsC]
 | c :: r, not => by
  have h1 := word_len not c
  have h2 := steps_len r (notC not c)
  simp only [stepsC, List.length_append, List.length_cons]
  omega
theorem text_ok (cs : List Int) (n : Nat) (hn : n < 100) (h1 : cs ≠ []) (h4 : cs.length ≤ 8) : resB (textC cs n) = .inr (stpsC true cs, (n : Int), 2) := by
 have hl : (textC cs n).length ≤ 100 := by
  unfold textC
  have := steps_len cs true
  have := numT_len n
  simp [withinW]; omega
 unfold resB
 rw [if_neg (by omega)]
 have := run_steps n hn cs [] true 0 (by simpa using h4) (Or.inl ⟨rfl, rfl, h1⟩)
 unfold textC
 rw [this]
 simp
theorem stpsC_len : ∀ (cs : List Int) (not : Bool), (stpsC not cs).length = cs.length
 | [], not => rfl
 | c :: r, not => by simp [stpsC, stpsC_len r]
end Go.Lull

namespace Go.Proofs.YtbgfannlfagoiaaGreatDoor
open Go.RowKit Go.Lull
set_option linter.unusedVariables false

def csB (raw : List Int) : List Int := if raw = [] then [0] else (raw.take 4).map (fun c => pickI c 1099511627776)
def lastB (raw : List Int) : Nat := match raw.getLast? with | none => 7 | some c => (pickI c 40).toNat
def patB (raw : List Int) : List UInt8 := textC (csB raw) (lastB raw)

theorem keepNum_at (z : Int) (W : World) (h0 : 0 ≤ z) (h1 : z < 100) :
  Calls Tryz.prog 38 #[.int .i64 z] W fun e w' => e = .returned (.string ⟨(numT z.toNat).toArray⟩) ∧ ∃ q os, w' = Go.Sort.grow (W.drewN q) os := by
 have := keepNum_any z.toNat W (by omega)
 rw [show ((z.toNat : Nat) : Int) = z by omega] at this
 exact this

theorem pat_fin {raw : List Int} {k : Nat} {c : Int} {S X : ByteArray} {B B' : Bool} (hSt : S.data.toList = (stepsC true ((csB raw).take k)).1 ∧ B = (stepsC true ((csB raw).take k)).2) (HX : (csB raw).take (k + 1) = (csB raw).take k ++ [c])
  (hX : X.data.toList = S.data.toList ++ (wordC B c ++ [32])) (hB' : B' = notC B c) : Hid (X.data.toList = (stepsC true ((csB raw).take (k + 1))).1 ∧ B' = (stepsC true ((csB raw).take (k + 1))).2) := by
 unfold Hid
 rw [HX, stepsC_snoc, ← hSt.2, ← hSt.1]
 exact ⟨hX, hB'⟩
theorem slice3 (d : Int) (h0 : 0 ≤ d) (h1 : d < 3) (W : World) : (Instr.slice 9 (.string ⟨#[60, 61, 62]⟩) (some (.int .i64 d)) (some (.int .i64 (d + 1))) none).run Tryz.prog W = .ok (.string ⟨#[UInt8.ofNat (60 + d.toNat)]⟩) W := by
 have hs : ((⟨#[60, 61, 62]⟩ : ByteArray).size : Int) = 3 := rfl
 rw [run_slice_string (P := Tryz.prog) W 9 ⟨#[60, 61, 62]⟩ .i64 .i64 d (d + 1) Tryz.underlying9 h0 (by omega) (by omega)]
 have : d = 0 ∨ d = 1 ∨ d = 2 := by omega
 rcases this with rfl | rfl | rfl <;> rfl
theorem app_toList (a b : ByteArray) : (a ++ b).data.toList = a.data.toList ++ b.data.toList := by
 rw [ByteArray.data_append, Array.toList_append]
theorem pat_size {k : Nat} {c : Int} {S X : ByteArray} {B : Bool} (hS : S.size ≤ 5 * k) (hX : X.data.toList = S.data.toList ++ (wordC B c ++ [32])) : X.size ≤ 5 * (k + 1) := by
 have h1 : X.size = X.data.toList.length := rfl
 have h2 : S.size = S.data.toList.length := rfl
 have h3 := word_len B c
 rw [h1, hX]
 simp only [List.length_append, List.length_cons, List.length_nil]
 omega
def barkB (b : Bool) : List UInt8 := if b = true then [33] else []
theorem pat_x0 {c : Int} {S L : ByteArray} {B : Bool} (h9 : ¬ c / 9 % 3 = 0) (hL : L.data.toList = S.data.toList ++ barkB (notC B c)) (hlet : (97 + c / 3 % 3).toNat = 97 + (c / 3 % 3).toNat) : (L ++ ⟨#[UInt8.ofNat (97 + c / 3 % 3).toNat]⟩ ++ ⟨#[32]⟩ : ByteArray).data.toList = S.data.toList ++ (wordC B c ++ [32]) := by
 rw [app_toList, app_toList, hL, hlet]
 unfold wordC bodyC barkB
 rw [if_neg h9]
 simp

def sgnC (d : Int) : UInt8 := UInt8.ofNat (60 + d.toNat)
theorem pat_x9 {c : Int} {S L : ByteArray} {B : Bool} (h9 : c / 9 % 3 = 0) (hL : L.data.toList = S.data.toList ++ barkB (notC B c)) (hlet : (97 + c / 3 % 3).toNat = 97 + (c / 3 % 3).toNat) : (L ++ ⟨#[UInt8.ofNat (97 + c / 3 % 3).toNat]⟩ ++ ⟨#[sgnC (c / 27 % 3)]⟩ ++ ⟨(numT (c / 81 % 3).toNat).toArray⟩ ++ ⟨#[32]⟩ : ByteArray).data.toList = S.data.toList ++ (wordC B c ++ [32]) := by
 rw [app_toList, app_toList, app_toList, app_toList, hL, hlet]
 unfold wordC bodyC barkB sgnC
 rw [if_pos h9]
 simp
theorem bark_t {S : ByteArray} {c : Int} : S.data.toList = S.data.toList ++ barkB (notC true c) := by simp [barkB, notC]
theorem bark_f {S : ByteArray} {c : Int} (h : ¬ c % 3 = 0) : S.data.toList = S.data.toList ++ barkB (notC false c) := by simp [barkB, notC, h]
theorem bark_y {S : ByteArray} {c : Int} (h : c % 3 = 0) : (S ++ ⟨#[33]⟩ : ByteArray).data.toList = S.data.toList ++ barkB (notC false c) := by rw [app_toList]; simp [barkB, notC, h]

theorem grown_is_below' (W : World) (n : Nat) (os : Array Obj) : Below W.heap.size W (Go.Sort.grow (W.drewN n) os) := ⟨rfl, rfl, rfl, (grow_below (W.drewN n) os).size, fun k hk => (grow_below (W.drewN n) os).block k hk⟩

set_option maxRecDepth 8000 in
set_option maxHeartbeats 2000000 in
theorem pattern_round (w : World) (v : Value) (raw : List Int) (h : RAW w v raw) (hne : raw ≠ []) :
  Calls Tryz.prog 16 #[v] w fun e w' => ∃ S : ByteArray, e = .returned (.string S) ∧ S.data.toList = patB raw ∧ Below w.heap.size w w' := by
 obtain ⟨a, b, off, cap, rfl, hcap, hat, hcell⟩ := h.ex
 obtain ⟨rfl, hbl⟩ := hat hne
 have hfit := h.fits
 have hlen := h.len
 have hml : raw.length ≤ 9223372036854775807 := by unfold maxLen at hlen; omega
 have hcs : csB raw = (raw.take 4).map (fun c => pickI c 1099511627776) := by simp [csB, hne]
 have hpos : 0 < raw.length := List.length_pos_iff.2 hne
 have HC := Hid.mk' hcell
 have HF := Hid.mk' hfit
 have HCS := Hid.mk' hcs
 have HNE := Hid.mk' hne
 clear h hcell hat hfit hcs hne
 go_enter Tryz.func16, Tryz.ntmps16
 go_wp2
 go_loopw [3, 4, 5] (fun s nt i wr => ∃ (k : Nat) (S : ByteArray) (B : Bool), i = .int .i64 k ∧ s = .string S ∧ nt = .bool B ∧ k ≤ raw.length ∧ k ≤ 4 ∧ S.size ≤ 5 * k ∧ Hid (S.data.toList = (stepsC true ((csB raw).take k)).1 ∧ B = (stepsC true ((csB raw).take k)).2) ∧ Hid (Below w.heap.size w wr)) (fun _ _ i _ => 4 - (intOf i).toNat)
 case atStart => exact ⟨0, _, true, rfl, rfl, rfl, Nat.zero_le _, Nat.zero_le _, by decide, ⟨rfl, rfl⟩, Below.refl _ _⟩
 case round =>
  obtain ⟨k, S, B, rfl, rfl, rfl, hk, hk4, hS, hSt, hB⟩ := hrel
  by_cases hlt : k < raw.length ∧ k < 4
  ·obtain ⟨hlt, h4⟩ := hlt
   have h4' : (k : Int) < 4 := by omega
   obtain ⟨c0, hc0⟩ : ∃ c0, raw[k] = c0 := ⟨_, rfl⟩
   have hcc : wr.cell? ⟨b, off + k, none⟩ = some (.int .i64 c0) := by
    rw [hB.out.cell (p := ⟨b, off + k, none⟩) hbl, HC.out k hlt, hc0]
   have hpick := pick_any c0 1099511627776 wr (HF.out c0 (by rw [← hc0]; exact List.getElem_mem hlt)) (by omega) (by omega)
   obtain ⟨c, hc⟩ : ∃ c, pickI c0 1099511627776 = c := ⟨_, rfl⟩
   have hp0 := (pickI_nn c0 1099511627776 (by omega))
   rw [hc] at hpick hp0
   obtain ⟨hp1, hp2⟩ := hp0
   have HX : Hid ((csB raw).take (k + 1) = (csB raw).take k ++ [c]) := by
    unfold Hid
    rw [HCS.out, List.take_succ_eq_append_getElem (by simp; omega)]
    simp [hc0, hc]
   clear hc hc0
   have d0 : 0 ≤ c / 27 % 3 := Int.emod_nonneg _ (by omega)
   have d1 : c / 27 % 3 < 3 := Int.emod_lt_of_pos _ (by omega)
   have n0 : 0 ≤ c / 81 % 3 := Int.emod_nonneg _ (by omega)
   have n1 : c / 81 % 3 < 3 := Int.emod_lt_of_pos _ (by omega)
   have l0 : 0 ≤ c / 3 % 3 := Int.emod_nonneg _ (by omega)
   have l1 : c / 3 % 3 < 3 := Int.emod_lt_of_pos _ (by omega)
   have hnum := Hid.mk' (fun W => keepNum_at (c / 81 % 3) W n0 (by omega))
   have hcv := fun W z => conv_one W z (.cells #[.int .u8 z] 5) W.heap.size 1 rfl rfl
   have hlet : Hid ((97 + c / 3 % 3).toNat = 97 + (c / 3 % 3).toNat) := by unfold Hid; omega
   have d2 : c / 27 % 3 ≤ 2 := by omega
   have d3 : c / 27 % 3 + 1 ≤ 3 := by omega
   have hq3 : c % 3 = 0 ∨ ¬ c % 3 = 0 := by omega
   have hbn : (B = true ∨ (B = false ∧ c % 3 = 0)) ∨ (B = false ∧ ¬ c % 3 = 0) := by cases B <;> simp <;> omega
   have q1 : IntKind.i64.wrap (c.tdiv 27) = c / 27 := IntWalk.i64_quo c 27 ⟨hp1, by omega, by omega⟩
   have q2 : (c / 27).tmod 3 = c / 27 % 3 := Int.tmod_eq_emod_of_nonneg (by omega)
   have q3 : IntKind.i64.wrap (c / 27 % 3 + 1) = c / 27 % 3 + 1 := IntWalk.i64_in _ (by omega)
   have q4 : IntKind.i64.wrap (c.tdiv 81) = c / 81 := IntWalk.i64_quo c 81 ⟨hp1, by omega, by omega⟩
   have q5 : (c / 81).tmod 3 = c / 81 % 3 := Int.tmod_eq_emod_of_nonneg (by omega)
   have d4 : 0 ≤ c / 27 % 3 + 1 := by omega
   have d5 : c / 27 % 3 ≤ c / 27 % 3 + 1 := by omega
   have hx3 : (⟨#[60, 61, 62]⟩ : ByteArray).extract (c / 27 % 3).toNat (c / 27 % 3 + 1).toNat = ⟨#[sgnC (c / 27 % 3)]⟩ := by
    unfold sgnC
    generalize c / 27 % 3 = d at d0 d1
    have : d = 0 ∨ d = 1 ∨ d = 2 := by omega
    rcases this with rfl | rfl | rfl <;> rfl
   have hnl : (numT (c / 81 % 3).toNat).length = 1 := numT_one _ (by omega)
   have z2 : ¬ 9223372036854775807 < S.size + 1 + 1 := by omega
   have z3 : ¬ 9223372036854775807 < S.size + 1 + 1 + 1 := by omega
   have z4 : ¬ 9223372036854775807 < S.size + 1 + 1 + 1 + 1 := by omega
   have z5 : ¬ 9223372036854775807 < S.size + 1 + 1 + 1 + 1 + 1 := by omega
   rcases Nat.eq_zero_or_pos k with hk0 | hk0
   all_goals
    first | (subst hk0; simp only [Nat.add_zero] at hcc) | (have hk0' : ¬ (k : Int) = 0 := by omega)
    rcases hbn with (hb | ⟨hb, h3⟩) | ⟨hb, h3⟩
    all_goals
     subst hb
     by_cases h9 : c / 9 % 3 = 0
     ·go_wp2_with (first | (go_at_call 34; refine hpick.mono ?_; rintro e w' ⟨rfl, rfl⟩))
      refine wp_region_quiet_grown (by kernel_rfl) (by kernel_rfl) ?_
      repeat (quiet_step (first | (go_at_call 38; refine Calls.grown_of (hnum.out _))))
      refine wpQuiet_nil ?_
      intro _ hw'
      obtain ⟨⟨nq, osq⟩, hw''⟩ := hw'
      subst hw''
      go_wp2
      go_roundw
      case rel =>
       first
        | exact ⟨_, _, _, by go_num, rfl, rfl, by omega, by omega, pat_size hS (pat_x9 h9 bark_t hlet.out), pat_fin hSt.out HX.out (pat_x9 h9 bark_t hlet.out) rfl, Hid.mk' ((hB.out.alloc hB.out.size _).trans ((grown_is_below' _ nq osq).mono (by have := hB.out.size; simp; omega)))⟩
        | exact ⟨_, _, _, by go_num, rfl, rfl, by omega, by omega, pat_size hS (pat_x9 h9 (bark_f h3) hlet.out), pat_fin hSt.out HX.out (pat_x9 h9 (bark_f h3) hlet.out) (by first | (simp [notC]; done) | (simp [notC, h3]; done)), Hid.mk' ((hB.out.alloc hB.out.size _).trans ((grown_is_below' _ nq osq).mono (by have := hB.out.size; simp; omega)))⟩
        | exact ⟨_, _, _, by go_num, rfl, rfl, by omega, by omega, pat_size hS (pat_x9 h9 (bark_y h3) hlet.out), pat_fin hSt.out HX.out (pat_x9 h9 (bark_y h3) hlet.out) (by first | (simp [notC]; done) | (simp [notC, h3]; done)), Hid.mk' ((hB.out.alloc hB.out.size _).trans ((grown_is_below' _ nq osq).mono (by have := hB.out.size; simp; omega)))⟩
        | trace_state
      case measure => simp [intOf] <;> omega
     ·go_wp2_with (first | (go_at_call 34; refine hpick.mono ?_; rintro e w' ⟨rfl, rfl⟩))
      go_roundw
      case rel =>
       first
        | exact ⟨_, _, _, by go_num, rfl, rfl, by omega, by omega, pat_size hS (pat_x0 h9 bark_t hlet.out), pat_fin hSt.out HX.out (pat_x0 h9 bark_t hlet.out) rfl, Hid.mk' (hB.out.alloc hB.out.size _)⟩
        | exact ⟨_, _, _, by go_num, rfl, rfl, by omega, by omega, pat_size hS (pat_x0 h9 (bark_f h3) hlet.out), pat_fin hSt.out HX.out (pat_x0 h9 (bark_f h3) hlet.out) (by first | (simp [notC]; done) | (simp [notC, h3]; done)), Hid.mk' (hB.out.alloc hB.out.size _)⟩
        | exact ⟨_, _, _, by go_num, rfl, rfl, by omega, by omega, pat_size hS (pat_x0 h9 (bark_y h3) hlet.out), pat_fin hSt.out HX.out (pat_x0 h9 (bark_y h3) hlet.out) (by first | (simp [notC]; done) | (simp [notC, h3]; done)), Hid.mk' (hB.out.alloc hB.out.size _)⟩
        | trace_state
      case measure => simp [intOf] <;> omega
  ·have hkk : k = (csB raw).length := by
    rw [HCS.out]; simp; omega
   have hSt2 : Hid (S.data.toList = (stepsC true (csB raw)).1) := by
    unfold Hid
    have := hSt.out.1
    rw [List.take_of_length_le (by omega)] at this
    exact this
   have HKK := Hid.mk' hkk
   clear hkk hSt
   obtain ⟨n, hn⟩ : ∃ n, raw.length = n + 1 := ⟨raw.length - 1, by omega⟩
   obtain ⟨c0, hc0⟩ : ∃ c0, raw[n] = c0 := ⟨_, rfl⟩
   have hcc : wr.cell? ⟨b, off + n, none⟩ = some (.int .i64 c0) := by
    rw [hB.out.cell (p := ⟨b, off + n, none⟩) hbl, HC.out n (by omega), hc0]
   have hpick := pick_any c0 40 wr (HF.out c0 (by rw [← hc0]; exact List.getElem_mem _)) (by omega) (by omega)
   have hlast : Hid (lastB raw = (pickI c0 40).toNat) := by
    unfold Hid lastB
    rw [List.getLast?_eq_getElem?, hn, show n + 1 - 1 = n by omega, List.getElem?_eq_getElem (by omega), hc0]
   clear hc0
   obtain ⟨p1, p2⟩ := pickI_nn c0 40 (by omega)
   obtain ⟨z, hz⟩ : ∃ z, pickI c0 40 = z := ⟨_, rfl⟩
   rw [hz] at hpick p1 p2 hlast
   clear hz
   have hnum := Hid.mk' (fun W => keepNum_at z W p1 (by omega))
   have hnl := numT_len z.toNat
   have hsz20 : S.size ≤ 20 := by omega
   have hfin : Hid (∀ W, Below wr.heap.size wr W → ∃ S' : ByteArray, Ending.returned (.string (S ++ ⟨#[119, 105, 116, 104, 105, 110, 32]⟩ ++ ⟨(numT z.toNat).toArray⟩)) = .returned (.string S') ∧ S'.data.toList = patB raw ∧ Below w.heap.size w W) := by
    intro W hb
    refine ⟨_, rfl, ?_, hB.out.trans (hb.mono hB.out.size)⟩
    rw [app_toList, app_toList, hSt2.out]
    unfold patB textC withinW
    rw [hlast.out]
    simp
   by_cases h4 : (k : Int) < 4
   ·have hk0' : ¬ (k : Int) = 0 := by omega
    have hkr : ¬ (k : Int) < (n : Int) + 1 := by omega
    have hkr2 : ¬ k < n + 1 := by omega
    clear hlt
    go_wp2_with (first | (go_at_call 34; refine hpick.mono ?_; rintro e w' ⟨rfl, rfl⟩) | (go_at_call 38; refine (hnum.out _).mono ?_; rintro e w' ⟨rfl, q, os, rfl⟩))
    go_ret
    exact hfin.out _ (grown_is_below' _ _ _)
   ·clear hlt
    go_wp2_with (first | (go_at_call 34; refine hpick.mono ?_; rintro e w' ⟨rfl, rfl⟩) | (go_at_call 38; refine (hnum.out _).mono ?_; rintro e w' ⟨rfl, q, os, rfl⟩))
    go_ret
    exact hfin.out _ (grown_is_below' _ _ _)
end Go.Proofs.YtbgfannlfagoiaaGreatDoor

namespace Go.Proofs.YtbgfannlfagoiaaGreatDoor
open Go.RowKit Go.Lull
set_option linter.unusedVariables false

set_option maxHeartbeats 400000 in
theorem number_any (w : World) (qb : Nat) (c : CQ) (hQ : QY w qb c) :
  Calls Tryz.prog 70 #[.pointer (some ⟨qb, 0, none⟩)] w fun e w' => e = .returned (.int .i64 c.num) ∧ w' = w := by
 have q0 := cell_of_row w qb 0 _ _ _ hQ.blk
 simp [qCells] at q0
 clear hQ
 go_enter Tryz.func70, Tryz.ntmps70
 go_wp2
 go_ret
 exact ⟨rfl, rfl⟩
set_option maxHeartbeats 400000 in
theorem qruns_any (w : World) (qb : Nat) (c : CQ) (hQ : QY w qb c) :
  Calls Tryz.prog 96 #[.pointer (some ⟨qb, 0, none⟩)] w fun e w' => e = .returned (.int .i64 c.rs.length) ∧ w' = w := by
 have q3 := cell_of_row w qb 3 _ _ _ hQ.blk
 obtain ⟨a, cap, hv, _⟩ := hQ.runs.form
 simp [qCells, hv] at q3
 clear hQ
 go_enter Tryz.func96, Tryz.ntmps96
 go_wp2
 go_ret
 exact ⟨rfl, rfl⟩
set_option maxHeartbeats 400000 in
theorem qwaiting_any (w : World) (qb : Nat) (c : CQ) (hQ : QY w qb c) :
  Calls Tryz.prog 97 #[.pointer (some ⟨qb, 0, none⟩)] w fun e w' => e = .returned (.int .i64 c.fs.length) ∧ w' = w := by
 have q4 := cell_of_row w qb 4 _ _ _ hQ.blk
 obtain ⟨a, cap, hv, _⟩ := hQ.found.form
 simp [qCells, hv] at q4
 clear hQ
 go_enter Tryz.func97, Tryz.ntmps97
 go_wp2
 go_ret
 exact ⟨rfl, rfl⟩

set_option maxHeartbeats 400000 in
theorem newQuery_any (w : World) (num : Nat) (st : List Stp) (wn : Int) (pg pc : Nat) (hst : ST w pg 0 st) (hpg : pg < w.heap.size) (s1 : 1 ≤ st.length) (s8 : st.length ≤ 8) (hpc : st.length ≤ pc) (alt : altB st) (w0 : 0 ≤ wn) (w1 : wn ≤ 1000) :
  Calls Tryz.prog 86 #[.int .i64 num, .agg #[.slice (some ⟨pg, 0, none⟩) st.length pc, .int .i64 wn]] w fun e w' => ∃ nb, e = .returned (.pointer (some ⟨nb, 0, none⟩)) ∧ w.heap.size ≤ nb ∧ nb < w'.heap.size ∧ Below w.heap.size w w' ∧ QY w' nb ⟨num, st, wn, pg, pc, .slice none 0 0, [], .slice none 0 0, []⟩ := by
 have HS := Hid.mk' hst
 have HA := Hid.mk' alt
 clear hst alt
 go_enter Tryz.func86, Tryz.ntmps86
 go_wp2
 go_ret
 refine ⟨w.heap.size + 1, rfl, by omega, by simp, ((Below.refl _ _).alloc (Nat.le_refl _) _).alloc (by simp) _, ?_⟩
 have hb : Below w.heap.size w ((w.alloc (.cells #[.slice (some ⟨pg, 0, none⟩) st.length pc, .int .i64 wn] 128)).alloc (.cells #[.int .i64 num, .slice (some ⟨pg, 0, none⟩) st.length pc, .int .i64 wn, .slice none 0 0, .slice none 0 0] 166)) := ((Below.refl _ _).alloc (Nat.le_refl _) _).alloc (by simp) _
 refine ⟨heap_alloc_at _ _ _ (by simp), HS.out.same (hb.block pg hpg), ⟨rfl, Or.inl ⟨rfl, rfl⟩⟩, ⟨rfl, Or.inl ⟨rfl, rfl⟩⟩, ⟨by simp [CQ.evl], ?_, ?_⟩, ⟨s1, s8, hpc, HA.out, w0, w1, by simp⟩⟩
 ·simp [CQ.base, CQ.evl, eblk, Value.ownBlock]; omega
 ·intro b hb'
  simp [CQ.base, Value.ownBlock] at hb'
  rcases hb' with rfl | rfl
  ·simp
  ·simp; omega
end Go.Proofs.YtbgfannlfagoiaaGreatDoor

namespace Go.Proofs.YtbgfannlfagoiaaGreatDoor
open Go.RowKit Go.Lull
set_option linter.unusedVariables false

set_option maxHeartbeats 400000 in
theorem take_none (w : World) (qb : Nat) (c : CQ) (hQ : QY w qb c) (h0 : c.fs = []) :
  Calls Tryz.prog 68 #[.pointer (some ⟨qb, 0, none⟩)] w fun e w' => e = .returned (.tuple #[.agg #[.int .i64 0, .int .i64 0, .slice none 0 0], .bool false]) ∧ Below w.heap.size w w' := by
 have q4 := cell_of_row w qb 4 _ _ _ hQ.blk
 obtain ⟨a, cap, hv, _⟩ := hQ.found.form
 simp [qCells, hv, h0] at q4
 have hqb := lt_of_block hQ.blk
 clear hQ hv
 go_enter Tryz.func68, Tryz.ntmps68
 go_wp2
 refine bodyPost_ret (v := .tuple #[.agg #[.int .i64 0, .int .i64 0, .slice none 0 0], .bool false]) (by simp [results, Tryz.results68, go_sem]) rfl ⟨rfl, ?_⟩
 exact (Below.refl _ _).alloc (Nat.le_refl _) _

/-- What Take leaves. -/
theorem take_after {w : World} {qb g off cap off' cap' : Nat} {c : CQ} {x : Mt × Value} {fs : List (Mt × Value)} {cur : Array Value} {a b d : Value} (hQ : QY w qb c) (hx : c.fs = x :: fs) (hv : c.vf = .slice (some ⟨g, off, none⟩) c.fs.length cap) (hg : w.heap[g]? = some (.cells cur 58 (0, 0)))
  (hnc : c.fs.length ≤ cap) (hcm : cap ≤ maxLen) (hcs : off + cap * 3 ≤ cur.size) (htake : (cur.toList.drop off).take (c.fs.length * 3) = c.fs.flatMap matC) (hgq : g ≠ qb)
  (ho : (off' = off + 3 ∧ cap' = cap - 1) ∨ (off' = off ∧ cap' = 0 ∧ fs = [])) (o1 o2 : Obj) :
  let W := ((((((w.setCell ⟨g, off, none⟩ a).setCell ⟨g, off + 1, none⟩ b).setCell ⟨g, off + 2, none⟩ d).setCell ⟨qb, 4, none⟩ (.slice (some ⟨g, off', none⟩) fs.length cap')).alloc o1).alloc o2)
  QY W qb { c with vf := .slice (some ⟨g, off', none⟩) fs.length cap', fs := fs } ∧ Fr (c.blocks qb) w W ∧ EvR W x.2 x.1.evs := by
 intro W
 have hlen : c.fs.length = fs.length + 1 := by rw [hx]; rfl
 obtain ⟨W1, hW1⟩ : ∃ W1, w.setCells g off [a, b, d] = W1 := ⟨_, rfl⟩
 have hW1' : ((w.setCell ⟨g, off, none⟩ a).setCell ⟨g, off + 1, none⟩ b).setCell ⟨g, off + 2, none⟩ d = W1 := hW1
 obtain ⟨W2, hW2⟩ : ∃ W2, W1.setCell ⟨qb, 4, none⟩ (.slice (some ⟨g, off', none⟩) fs.length cap') = W2 := ⟨_, rfl⟩
 have hWW : W = (W2.alloc o1).alloc o2 := by
  show ((((((w.setCell ⟨g, off, none⟩ a).setCell ⟨g, off + 1, none⟩ b).setCell ⟨g, off + 2, none⟩ d).setCell ⟨qb, 4, none⟩ (.slice (some ⟨g, off', none⟩) fs.length cap')).alloc o1).alloc o2) = _
  rw [hW1', hW2]
 have hgb : g ∈ c.base qb := by simp [CQ.base, hv, Value.ownBlock]
 have hqb : qb ∈ c.base qb := by simp [CQ.base]
 have hg1 := heap_setCells_same g 58 [a, b, d] off w cur.toList (by simpa using hg) (by simp; omega)
 rw [hW1] at hg1
 have hoth : ∀ k, k ≠ g → k ≠ qb → W2.heap[k]? = w.heap[k]? := fun k h1 h2 => by
  rw [← hW2, Below.heap_setCell _ _ _ _ (by simpa using h2), ← hW1, setCells_other g h1]
 have hg2 : W2.heap[g]? = some (.cells (cur.toList.take off ++ [a, b, d] ++ cur.toList.drop (off + [a, b, d].length)).toArray 58 (0, 0)) := by
  rw [← hW2, Below.heap_setCell _ _ _ _ (by simpa using hgq)]; exact hg1
 have hsz : W2.heap.size = w.heap.size := by rw [← hW2, ← hW1]; simp [World.setCell, setCells_size]
 have hnd := (List.nodup_append.1 hQ.own.nd).1
 have hne : ∀ k, k ∈ c.vr.ownBlock.toList ++ [c.pg] → k ≠ g ∧ k ≠ qb := by
  intro k hk
  have hp : (c.base qb).Perm ([g, qb] ++ (c.vr.ownBlock.toList ++ [c.pg])) := by
   have h0 : c.base qb = [g] ++ (c.vr.ownBlock.toList ++ [qb, c.pg]) := by simp [CQ.base, hv, Value.ownBlock]
   rw [h0]
   exact List.Perm.cons g List.perm_middle
  have h2 := (List.nodup_append.1 (hp.nodup_iff.1 hnd)).2.2
  exact ⟨fun e => h2 g (by simp) k hk e.symm, fun e => h2 qb (by simp) k hk e.symm⟩
 have hev : ∀ k, k ∈ eblk c.evl → k ≠ g ∧ k ≠ qb := fun k hk => ⟨fun e => by subst e; exact hQ.own.disj hgb hk, fun e => by subst e; exact hQ.own.disj hqb hk⟩
 have hsub : (c.rs.map rp ++ fs.map fp).Sublist c.evl := by
  unfold CQ.evl
  rw [hx]
  exact List.Sublist.append (List.Sublist.refl _) (List.sublist_cons_self _ _)
 have hvb : (Value.slice (some ⟨g, off', none⟩) fs.length cap').ownBlock = c.vf.ownBlock := by rw [hv]; rfl
 have hQ2 : QY W2 qb { c with vf := .slice (some ⟨g, off', none⟩) fs.length cap', fs := fs } := by
  refine ⟨?_, hQ.stp.same (hoth c.pg (hne c.pg (by simp)).1 (hne c.pg (by simp)).2), hQ.runs.same (fun k hk => hoth k (hne k (by simp [hk])).1 (hne k (by simp [hk])).2), ?_, ?_, ⟨hQ.ok.s1, hQ.ok.s8, hQ.ok.pc, hQ.ok.alt, hQ.ok.w0, hQ.ok.w1, hQ.ok.rok⟩⟩
  ·have hb : W1.heap[qb]? = some (.cells (qCells c c.vr c.vf) 166 (0, 0)) := by rw [← hW1, setCells_other g hgq.symm]; exact hQ.blk
   rw [← hW2, heap_setCell_same W1 qb 4 _ _ _ hb]
   rfl
  ·refine ⟨matC_len _, Or.inr ⟨g, off', cap', _, rfl, hg2, ?_, ?_, ?_, ?_⟩⟩
   ·rcases ho with ⟨_, h⟩ | ⟨_, h, h2⟩
    ·rw [h]; show fs.length ≤ cap - 1; omega
    ·show fs.length ≤ cap'; rw [h2]; exact Nat.zero_le _
   ·rcases ho with ⟨_, h⟩ | ⟨_, h, _⟩ <;> omega
   ·simp only [List.size_toArray, List.length_append, List.length_take, List.length_drop, Array.length_toList, List.length_cons, List.length_nil]
    rcases ho with ⟨h1, h2⟩ | ⟨h1, h2, _⟩ <;> omega
   ·show List.take (fs.length * 3) (List.drop off' (cur.toList.take off ++ [a, b, d] ++ cur.toList.drop (off + 3))) = fs.flatMap matC
    rcases ho with ⟨h1, _⟩ | ⟨_, _, h2⟩
    ·have hA : (cur.toList.take off ++ [a, b, d]).length = off + 3 := by simp; omega
     rw [h1, List.drop_left' hA]
     have h3 := congrArg (List.drop 3) htake
     rw [hx, List.flatMap_cons, List.drop_left' (show (matC x).length = 3 from rfl), List.drop_take, List.drop_drop] at h3
     rw [← h3]
     congr 1
     simp; omega
    ·rw [h2]; simp
  ·show OWN W2 ((Value.slice (some ⟨g, off', none⟩) fs.length cap').ownBlock.toList ++ (c.vr.ownBlock.toList ++ [qb, c.pg])) (c.rs.map rp ++ fs.map fp)
   rw [hvb]
   exact (hQ.own.same (by rw [hsz]; exact Nat.le_refl _) (fun k hk => hoth k (hev k hk).1 (hev k hk).2)).sub hsub
 have hF2 : Fr (c.blocks qb) w W2 := by
  rw [← hW2, ← hW1]
  exact ((Fr.refl _ w).setCells (Or.inl (List.mem_append_left _ hgb)) _ _).setCell (Or.inl (List.mem_append_left _ hqb)) _
 have hE2 : EvR W2 x.2 x.1.evs := by
  have h1 := hQ.own.same (w' := W2) (by rw [hsz]; exact Nat.le_refl _) (fun k hk => hoth k (hev k hk).1 (hev k hk).2)
  exact h1.ev (fp x) (by simp [CQ.evl, hx])
 rw [hWW]
 refine ⟨hQ2.same (by simp; omega) (fun k hk => ?_), (hF2.alloc _).alloc _, ?_⟩
 ·have := hQ2.lt k hk
  rw [Below.heap_alloc _ _ _ (by simp; omega), Below.heap_alloc _ _ _ this]
 ·exact (((Fr.refl [] W2).alloc o1).alloc o2).own hE2 (by simp)

set_option maxRecDepth 8000 in
set_option maxHeartbeats 1000000 in
theorem take_some (w : World) (qb : Nat) (c : CQ) (x : Mt × Value) (fs : List (Mt × Value)) (hQ : QY w qb c) (hx : c.fs = x :: fs) (hn : c.fs.length ≤ 1073741824) :
  Calls Tryz.prog 68 #[.pointer (some ⟨qb, 0, none⟩)] w fun e w' => e = .returned (.tuple #[.agg #[.int .i64 x.1.q, .int .i64 x.1.cl, x.2], .bool true]) ∧ ∃ vf', QY w' qb { c with vf := vf', fs := fs } ∧ Fr (c.blocks qb) w w' ∧ EvR w' x.2 x.1.evs ∧ vf'.ownBlock = c.vf.ownBlock := by
 obtain ⟨g, off, cap, cur, hv, hg, hnc, hcm, hcs, htake⟩ : ∃ g off cap cur, c.vf = .slice (some ⟨g, off, none⟩) c.fs.length cap ∧ w.heap[g]? = some (.cells cur 58 (0, 0)) ∧ c.fs.length ≤ cap ∧ cap ≤ maxLen ∧ off + cap * 3 ≤ cur.size ∧ (cur.toList.drop off).take (c.fs.length * 3) = c.fs.flatMap matC := by
  rcases hQ.found.2 with ⟨_, h1⟩ | h1
  ·rw [hx] at h1; simp at h1
  ·exact h1
 have hlen : c.fs.length = fs.length + 1 := by rw [hx]; rfl
 have hev : EvR w x.2 x.1.evs := hQ.own.ev (fp x) (by simp [CQ.evl, hx])
 obtain ⟨ta, tc, htv⟩ := own_form hev
 obtain ⟨⟨mq, mc, me⟩, xv⟩ := x
 simp only at htv hev
 subst htv
 have hrow := hQ.found
 rw [hv] at hrow
 have m0 := hrow.cell 0 (by omega)
 have m1 := hrow.cell 1 (by omega)
 have m2 := hrow.cell 2 (by omega)
 simp [hx, matC] at m0 m1 m2
 have q4 := cell_of_row w qb 4 _ _ _ hQ.blk
 have f4 := frozen_of_row w qb 4 _ _ hQ.blk
 simp [qCells, hv] at q4
 have z0 := frozen_of_row w g off _ _ hg
 have z1 := frozen_of_row w g (off + 1) _ _ hg
 have z2 := frozen_of_row w g (off + 2) _ _ hg
 have hqb := lt_of_block hQ.blk
 have hgl := lt_of_block hg
 have hgq : g ≠ qb := by
  intro e
  rw [e, hQ.blk] at hg
  injection hg with h2
  injection h2 with _ h3
  exact absurd h3 (by decide)
 have HQ := Hid.mk' hQ
 have HG := Hid.mk' hg
 have HEV := Hid.mk' hev
 have HX := Hid.mk' hx
 have HV := Hid.mk' hv
 have HT := Hid.mk' htake
 have HCS := Hid.mk' hcs
 have HL := Hid.mk' hlen
 have hpos : ((c.fs.length : Int) == 0) = false := beq_eq_false_iff_ne.2 (by omega)
 have hpos2 : 0 < c.fs.length := by omega
 clear hQ hg hev hx hv htake hcs hrow hlen
 go_enter Tryz.func68, Tryz.ntmps68
 by_cases hc1 : cap = 1
 ·have hfn : c.fs.length = 1 := by omega
  have hf0 : fs = [] := List.eq_nil_of_length_eq_zero (by have := HL.out; omega)
  go_wp2
  refine bodyPost_ret (v := .tuple #[.agg #[.int .i64 mq, .int .i64 mc, .slice ta me.length tc], .bool true]) (by simp [results, Tryz.results68, go_sem]) rfl ⟨rfl, ?_⟩
  have h1 := take_after (off' := off) (cap' := 0) (a := .int .i64 0) (b := .int .i64 0) (d := .slice none 0 0) HQ.out HX.out HV.out HG.out hnc hcm HCS.out HT.out hgq (Or.inr ⟨rfl, rfl, hf0⟩) (.cells #[.int .i64 mq, .int .i64 mc, .slice ta me.length tc] 58) (.cells #[.int .i64 mq, .int .i64 mc, .slice ta me.length tc] 58)
  rw [hf0] at h1 ⊢
  exact ⟨_, h1.1, h1.2.1, h1.2.2, by rw [HV.out]; rfl⟩
 ·have hfl : c.fs.length - 1 = fs.length := by have := HL.out; omega
  go_wp2
  refine bodyPost_ret (v := .tuple #[.agg #[.int .i64 mq, .int .i64 mc, .slice ta me.length tc], .bool true]) (by simp [results, Tryz.results68, go_sem]) rfl ⟨rfl, ?_⟩
  have h1 := take_after (off' := off + 3) (cap' := cap - 1) (a := .int .i64 0) (b := .int .i64 0) (d := .slice none 0 0) HQ.out HX.out HV.out HG.out hnc hcm HCS.out HT.out hgq (Or.inl ⟨rfl, rfl⟩) (.cells #[.int .i64 mq, .int .i64 mc, .slice ta me.length tc] 58) (.cells #[.int .i64 mq, .int .i64 mc, .slice ta me.length tc] 58)
  exact ⟨_, h1.1, h1.2.1, h1.2.2, by rw [HV.out]; rfl⟩
end Go.Proofs.YtbgfannlfagoiaaGreatDoor

namespace Go.Proofs.YtbgfannlfagoiaaGreatDoor
open Go.RowKit
theorem run_eql_nil_ptr {P : Program} {tp te : TypeId} (w : World) (a : Addr) (hp : P.underlying tp = some (.pointer te)) :
  (binOp .eql tp (.pointer none) (.pointer (some a))).run P w = .ok (.bool false) w := by
 have h : ∀ d : Nat, (Op.equalIn (d + 1) tp (.pointer none) (.pointer (some a))).run P w = .ok false w := fun d => by
  simp [Op.equalIn, run_underlying hp]
 simp only [binOp]
 simp [Op.equal, Op.maxDepth, h 9999]


theorem made_nil (w : World) :
  Calls Tryz.prog 39 #[.pointer none] w fun e w' => e = .returned (.bool false) ∧ w' = w := by
 go_enter Tryz.func39, Tryz.ntmps39
 go_wp2
 go_ret
 exact ⟨rfl, rfl⟩

theorem made_zero (b : Nat) (w : World) (h : w.cell? ⟨b, 0, none⟩ = some (.pointer none)) :
  Calls Tryz.prog 39 #[.pointer (some ⟨b, 0, none⟩)] w fun e w' => e = .returned (.bool false) ∧ w' = w := by
 have hq := fun w a => run_eql_nil_ptr (P := Tryz.prog) (tp := 45) w a Tryz.underlying45
 go_enter Tryz.func39, Tryz.ntmps39
 go_wp2
 go_ret
 exact ⟨rfl, rfl⟩

theorem made_yes (b : Nat) (w : World) (h : w.cell? ⟨b, 0, none⟩ = some (.pointer (some ⟨b, 0, none⟩))) :
  Calls Tryz.prog 39 #[.pointer (some ⟨b, 0, none⟩)] w fun e w' => e = .returned (.bool true) ∧ w' = w := by
 obtain ⟨j, hj⟩ : ∃ j, Tryz.prog.info? 104 = some j := Option.isSome_iff_exists.1 (by kernel_rfl)
 have hq := fun w a => run_eql_ptr_same (P := Tryz.prog) (tp := 45) w a Tryz.underlying45 hj
 clear hj
 go_enter Tryz.func39, Tryz.ntmps39
 go_wp2
 go_ret
 exact ⟨rfl, rfl⟩
end Go.Proofs.YtbgfannlfagoiaaGreatDoor
