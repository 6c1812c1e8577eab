import Derived.Test.YtbgfannlfagoiaaDoorKd
import Derived.Test.YtbgfannlfagoiaaDoorTf
import Derived.Deep.OwnRows
import Derived.Deep.QuietTactic
import Derived.BigQuiet
namespace Go.Proofs.YtbgfannlfagoiaaDoor
open Go.RowKit Go.Lull
set_option linter.unusedVariables false

theorem res_bad : ∀ {ls : List (List UInt8)}, (∀ {p : Nat}, resAll ls = .inl p → badB ls = some p) ∧ (∀ {sts : List St}, resAll ls = .inr sts → badB ls = none)
  | [] => ⟨fun h => by simp [resAll] at h, fun _ => rfl⟩
  | l :: r => by
    obtain ⟨h1, h2⟩ := @res_bad r
    cases hl : resB l with
    | inl p =>
      rw [resAll_bad hl, badB_bad hl]
      exact ⟨fun h => by rw [Sum.inl.inj h], fun h => by cases h⟩
    | inr st =>
      rw [resAll_good hl, badB_good hl]
      cases hr : resAll r with
      | inl p => exact ⟨fun h => by rw [← Sum.inl.inj h]; exact h1 hr, fun h => by cases h⟩
      | inr sts => exact ⟨fun h => (by cases h), fun _ => h2 hr⟩
/-- The document's answer is the program's. -/
theorem reg_two {s : En} (h : s.qs = []) (ls : List (List UInt8)) : (((regE s ls).1 : Int), ((regE s ls).2.1 : Int), (regE s ls).2.2.1) = regB ls := by
  cases hr : resAll ls with
  | inl p => rw [reg_bad hr, regB_bad (res_bad.1 hr)]; rfl
  | inr sts =>
    have hl := resAll_len hr
    by_cases h10 : 10 < ls.length
    · rw [reg_many hr (by rw [h]; simp; omega), regB_many (res_bad.2 hr) h10]; rfl
    · rw [reg_ok hr (by rw [h]; simp; omega), regB_ok (res_bad.2 hr) h10, ← hl]; rfl
theorem regB_le (ls : List (List UInt8)) : (regB ls).2.2 ≤ 10 := by
  unfold regB
  cases badB ls with
  | some p => simp
  | none => by_cases h : 10 < ls.length <;> simp [h]; omega
theorem numsV_zero (n : Nat) : numsV 0 n = rangeV n := by simp [numsV, rangeV]
theorem range_row {w : World} {g off cap n : Nat} (h : Row w 3 1 (.slice (some ⟨g, off, none⟩) n cap) n (rangeV n)) (k : Nat) (hk : k < n) : w.cell? ⟨g, off + k, none⟩ = some (.int .i64 (k : Int)) := by
  rw [h.cell k (by omega)]
  simp [rangeV, hk]

set_option maxHeartbeats 1000000 in
theorem sameInts_any (w : World) (a c : Option Addr) (n ca cc : Nat) (hn : n ≤ 10) (h1 : Row w 3 1 (.slice a n ca) n (rangeV n)) (h2 : Row w 3 1 (.slice c n cc) n (rangeV n)) :
    Calls Tryd.prog 37 #[.slice a n ca, .slice c n cc] w fun e w' => e = .returned (.bool true) ∧ ∃ q, w' = w.drewN q := by
  have H1 := Hid.mk' h1
  have H2 := Hid.mk' h2
  clear h1 h2
  go_enter Tryd.func37, Tryd.ntmps37
  go_wp2
  go_loopw [5] (fun i wr => ∃ k q : Nat, k ≤ n ∧ i = .int .i64 k ∧ wr = w.drewN q) (fun i _ => n - (intOf i).toNat)
  case atStart => exact ⟨0, 0, Nat.zero_le _, rfl, rfl⟩
  case round =>
    obtain ⟨k, q, hk, rfl, hw⟩ := hrel
    subst hw
    by_cases hlt : k < n
    · rcases H1.out.2 with ⟨_, h0⟩ | ⟨g1, o1, c1, cur, e1, _⟩
      · omega
      rcases H2.out.2 with ⟨_, h0⟩ | ⟨g2, o2, c2, cur2, e2, _⟩
      · omega
      obtain ⟨rfl, _, rfl⟩ := Value.slice.inj e1
      obtain ⟨rfl, _, rfl⟩ := Value.slice.inj e2
      clear e1 e2
      have x1 := range_row H1.out k hlt
      have x2 := range_row H2.out k hlt
      go_wp2
      go_quiet (fail)
      go_wp2
      go_roundw
      case rel => exact ⟨k + 1, q + nq, by omega, by go_num, rfl⟩
      case measure => simp [intOf]; omega
    · go_wp2
      go_ret
      exact ⟨rfl, q, rfl⟩

set_option maxHeartbeats 400000 in
theorem begun_two (n : Nat) (w : World) (h0 : 0 < n) (h8 : n ≤ 8) :
    Calls Tryd.prog 11 #[.int .i64 n] w fun e w' => ∃ eb mb rb bb s, e = .returned (.tuple #[.pointer (some ⟨bb, 0, none⟩), .bool true]) ∧ Hid (s.qs = [] ∧ s.next = 0 ∧ At w.heap.size eb w s [rb, bb] w') ∧
      Hid (w'.heap[rb]? = some (.cells #[.slice (some ⟨mb, 0, none⟩) n n, .slice none 0 0, .slice none 0 0, .int .i64 0, .int .i64 (-1), .int .i64 0] 108 (0, 0)) ∧
      w'.heap[bb]? = some (.cells #[.pointer (some ⟨eb, 0, none⟩), .pointer (some ⟨rb, 0, none⟩)] 83 (0, 0)) ∧ w.heap.size ≤ rb ∧ rb < bb) := by
  have hmk := run_make_row' (P := Tryd.prog) 26 3 (.int .i64 0) 8 Tryd.underlying26 Tryd.infoI3 rfl .i64 .i64 n (by omega) (by omega)
  obtain ⟨eb, heb⟩ : ∃ eb, w.heap.size + 1 = eb := ⟨_, rfl⟩
  have hnew : Hid (Calls Tryd.prog 33 #[.int .i64 n] w fun e w1 => e = .returned (.tuple #[.pointer (some ⟨eb, 0, none⟩), .int .i64 0]) ∧ Hid (At w.heap.size eb w (newE n w.heap.size).abs [] w1)) := by
    rw [← heb]
    refine (new_eg n w (by omega) (by omega)).mono ?_
    rintro e w1 ⟨rfl, hb, hE⟩
    refine ⟨rfl, newE n w.heap.size, ⟨hE, hb, ?_⟩, rfl, by simp⟩
    intro b hb
    simp [newE, CE.blocks, CE.base, qsb, Value.ownBlock] at hb
    omega
  clear heb
  have hn1 : (1 : Int) ≤ (n : Int) := by omega
  have hn8 : (n : Int) ≤ 8 := by omega
  go_enter Tryd.func11, Tryd.ntmps11
  go_wp2_with (first | (go_at_call 33; with_reducible refine hnew.out.mono ?_; rintro e w1 ⟨rfl, hA⟩) | go_in)
  go_ret2
  have hb1 : Below w1.heap.size w1 (((w1.alloc (.cells (madeCells #[.int .i64 0] n) 3)).alloc (.cells #[.slice (some ⟨w1.heap.size, 0, none⟩) n n, .slice none 0 0, .slice none 0 0, .int .i64 0, .int .i64 (-1), .int .i64 0] 108)).alloc (.cells #[.pointer (some ⟨eb, 0, none⟩), .pointer (some ⟨w1.heap.size + 1, 0, none⟩)] 83)) := (((Below.refl _ _).alloc (Nat.le_refl _) _).alloc (by simp) _).alloc (by simp; omega) _
  have hA1 := (hA.out.new (G := [w1.heap.size + 1, w1.heap.size + 2]) (Nat.le_refl _) hb1 (by intro b hb; simp at hb; rcases hb with rfl | rfl <;> simp)).1
  refine ⟨eb, w1.heap.size, w1.heap.size + 1, w1.heap.size + 2, (newE n w.heap.size).abs, rfl, ⟨rfl, rfl, hA1⟩, ?_, ?_, ?_, ?_⟩
  · rw [Below.heap_alloc _ _ _ (by simp)]
    have := heap_alloc_new (w1.alloc (.cells (madeCells #[.int .i64 0] n) 3)) (.cells #[.slice (some ⟨w1.heap.size, 0, none⟩) n n, .slice none 0 0, .slice none 0 0, .int .i64 0, .int .i64 (-1), .int .i64 0] 108)
    simpa using this
  · have := heap_alloc_new ((w1.alloc (.cells (madeCells #[.int .i64 0] n) 3)).alloc (.cells #[.slice (some ⟨w1.heap.size, 0, none⟩) n n, .slice none 0 0, .slice none 0 0, .int .i64 0, .int .i64 (-1), .int .i64 0] 108)) (.cells #[.pointer (some ⟨eb, 0, none⟩), .pointer (some ⟨w1.heap.size + 1, 0, none⟩)] 83)
    simpa using this
  · have := hA.out.below.size; omega
  · omega

set_option maxHeartbeats 1000000 in
theorem registered_two {w0 w : World} {eb rb bb mb : Nat} {s : En} (s0 s1 r4 r5 : Value) (ad : Option Addr) (b off cap : Nat) (ss : List ByteArray) (m : Int) (hA : At w0.heap.size eb w0 s [rb, bb] w) (hq : s.qs = []) (hnx : s.next = 0) (hm : w0.cell? ⟨0, 0, none⟩ = some (.int .i64 m)) (h : TX w0 ad b off ss) (hlen : ss.length ≤ 1048576) (hcap : ss.length ≤ cap)
    (hR : w.heap[rb]? = some (.cells #[s0, s1, .slice none 0 0, .int .i64 0, r4, r5] 108 (0, 0)))
    (hBo : w.heap[bb]? = some (.cells #[.pointer (some ⟨eb, 0, none⟩), .pointer (some ⟨rb, 0, none⟩)] 83 (0, 0))) (hNr : w0.heap.size ≤ rb) (hrb : rb < bb) :
    Calls Tryd.prog 12 #[.pointer (some ⟨bb, 0, none⟩), .slice ad ss.length cap] w fun e w' => ∃ v, e = .returned (.tuple #[v, .bool true]) ∧ Below w0.heap.size w0 w' := by
  have hz := block_lt_of_cell hm
  have hTX : ∀ W, Below w0.heap.size w0 W → TX W ad b off ss := fun W hB => ⟨h.at_, fun hne => Nat.lt_of_lt_of_le (h.lt hne) hB.size, fun k hk => by
    have hne : ss ≠ [] := fun e => by rw [e] at hk; cases hk
    rw [hB.cell (p := ⟨b, off + k, none⟩) (h.lt hne)]
    exact h.cell k hk⟩
  have hbb := lt_of_block hBo
  have hb0 : w.cell? ⟨bb, 0, none⟩ = some (.pointer (some ⟨eb, 0, none⟩)) := by rw [cell_of_row w _ 0 _ _ _ hBo]; rfl
  have hreg := at_reg (cap := cap) hA (Nat.le_refl _) ((hA.below.cell (p := ⟨0, 0, none⟩) hz).trans hm) (hTX w hA.below) hlen hcap (by omega)
  have ht := reg_two hq (ss.map (·.data.toList))
  have hle := regB_le (ss.map (·.data.toList))
  rw [hnx] at hreg
  have hreg2 : Hid (∀ w1, Below w0.heap.size w0 w1 → w1.heap[rb]? = w.heap[rb]? → Calls Tryd.prog 36 #[.pointer (some ⟨rb, 0, none⟩), .slice ad ss.length cap] w1 (RegPostR w1 rb (regB (ss.map (·.data.toList))))) := by
    intro w1 hB hr
    exact rregister_any w1 rb s0 s1 r4 r5 ad b off cap ss (hTX w1 hB) hlen hcap (by rw [hr]; exact hR)
  generalize regB (ss.map (·.data.toList)) = r at hreg2 hle ht
  generalize regE s (ss.map (·.data.toList)) = re at hreg ht
  obtain ⟨e1, e2, e3, e4⟩ := re
  subst ht
  simp only at hreg hreg2 hle
  have hcall : Hid (Calls Tryd.prog 19 #[.pointer (some ⟨eb, 0, none⟩), .slice ad ss.length cap] w fun e w1 => ∃ a c, e = .returned (.tuple #[.slice a e3 c, .int .i64 (e1 : Int), .int .i64 (e2 : Int)]) ∧ Hid (Row w1 3 1 (.slice a e3 c) e3 (rangeV e3) ∧ (∀ b ∈ (Value.slice a e3 c).ownBlock.toList, b ∉ [rb, bb]) ∧ Below w0.heap.size w0 w1 ∧ w1.heap[rb]? = w.heap[rb]?) ∧ w1.cell? ⟨bb, 1, none⟩ = some (.pointer (some ⟨rb, 0, none⟩))) := by
    refine hreg.mono ?_
    rintro e w1 ⟨v, rfl, hrow, hA1, hS1, hne⟩
    rw [numsV_zero] at hrow
    obtain ⟨a, c, rfl, _⟩ := hrow.form
    refine ⟨a, c, rfl, ⟨hrow, hne, hA1.below, hS1.2 rb (by simp)⟩, ?_⟩
    rw [cell_of_row w1 _ 1 _ _ _ ((hS1.2 bb (by simp)).trans hBo)]; rfl
  have hfin : Hid (∀ w1 w2 a c a2 c2, (Row w1 3 1 (.slice a e3 c) e3 (rangeV e3) ∧ (∀ b ∈ (Value.slice a e3 c).ownBlock.toList, b ∉ [rb, bb]) ∧ Below w0.heap.size w0 w1 ∧ w1.heap[rb]? = w.heap[rb]?) → (∃ base, w2.ownsRow base 3 1 (.slice a2 e3 c2) e3 (rangeV e3)) → BB w1.heap.size rb w1 w2 → Calls Tryd.prog 37 #[.slice a e3 c, .slice a2 e3 c2] w2 fun e w3 => e = .returned (.bool true) ∧ Below w0.heap.size w0 w3) := by
    rintro w1 w2 a c a2 c2 ⟨hr, hne, hB, _⟩ ⟨base, ho⟩ hBB
    have hr2 : Row w2 3 1 (.slice a e3 c) e3 (rangeV e3) := hr.same (fun b hb => by
      have h1 := hne b (by simp [hb])
      have h2 : b ≠ rb := fun e => h1 (by simp [e])
      have hl := hr.lt b hb
      by_cases hlt : b < rb
      · exact hBB.low.block b hlt
      · exact hBB.mid b (by omega) hl)
    refine (sameInts_any w2 a a2 e3 c c2 hle hr2 (Row.of_own ho)).mono ?_
    rintro e w3 ⟨rfl, q, rfl⟩
    exact ⟨rfl, below_drewN (hB.trans (hBB.low.mono hNr)) q⟩
  clear hreg hA hq hnx hm h hTX hR hBo
  go_enter Tryd.func12, Tryd.ntmps12
  go_wp2_with (first | (go_at_call 19; with_reducible refine hcall.out.mono ?_; rintro e w1 ⟨a, c, rfl, h1, hc1⟩) | (go_at_call 36; refine (hreg2.out w1 h1.out.2.2.1 h1.out.2.2.2).mono ?_; rintro e w2 ⟨a2, c2, rfl, ho2, hBB2⟩; have HS := Hid.mk' (hfin.out w1 w2 a c a2 c2 h1.out ho2 hBB2); clear ho2 hBB2 h1) | (go_at_call 37; refine HS.out.mono ?_; rintro e w3 ⟨rfl, hB3⟩) | go_in)
  go_ret2
  exact ⟨_, rfl, hB3⟩

set_option maxHeartbeats 1000000 in
theorem texts_any (w : World) (ad : Option Addr) (b off cap : Nat) (ss : List ByteArray) (m : Int) (hm : w.cell? ⟨0, 0, none⟩ = some (.int .i64 m)) (h : TX w ad b off ss) (hlen : ss.length ≤ 1048576) (hcap : ss.length ≤ cap) :
    Calls Tryd.prog 3 #[.slice ad ss.length cap] w fun e w' => e = .returned (.bool true) ∧ Below w.heap.size w w' := by
  have hcall : Hid (Calls Tryd.prog 11 #[.int .i64 1] w fun e w1 => ∃ bb, e = .returned (.tuple #[.pointer (some ⟨bb, 0, none⟩), .bool true]) ∧
      Hid (Calls Tryd.prog 12 #[.pointer (some ⟨bb, 0, none⟩), .slice ad ss.length cap] w1 fun e w' => ∃ v, e = .returned (.tuple #[v, .bool true]) ∧ Below w.heap.size w w')) := by
    refine (begun_two 1 w (by omega) (by omega)).mono ?_
    rintro e w1 ⟨eb, mb, rb, bb, s, rfl, ⟨hq, hn, hA⟩, ⟨hR, hBo, hz, hrb⟩⟩
    exact ⟨bb, rfl, registered_two (mb := mb) _ _ _ _ ad b off cap ss m hA hq hn hm h hlen hcap hR hBo hz hrb⟩
  clear hm h
  go_enter Tryd.func3, Tryd.ntmps3
  go_wp2_with (first | (go_at_call 11; with_reducible refine hcall.out.mono ?_; rintro e w1 ⟨bb, rfl, hc⟩) | (go_at_call 12; refine hc.out.mono ?_; rintro e w2 ⟨v, rfl, hb2⟩))
  go_ret
  exact ⟨rfl, hb2⟩
end Go.Proofs.YtbgfannlfagoiaaDoor
