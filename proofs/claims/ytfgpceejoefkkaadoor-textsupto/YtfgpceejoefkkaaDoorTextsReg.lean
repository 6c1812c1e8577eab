import Derived.Test.YtfgpceejoefkkaaDoorTextsAdd
import Derived.Test.YtfgpceejoefkkaaDoorMade
namespace Go.Proofs.YtfgpceejoefkkaaDoor
open Go.RowKit Go.Lull
set_option linter.unusedVariables false

set_option maxHeartbeats 400000 in
theorem add_zero (w : World) (p : Value) (a : Option Addr) (cap : Nat) :
    Calls Tryd.prog 23 #[p, .slice a 0 cap] w fun e w' => e = .returned (.slice none 0 0) ∧ w' = w := by
  go_enter Tryd.func23, Tryd.ntmps23
  go_wp2
  refine wp_loop_rounds 1 ?_; rw [rounds_succ]
  go_wp2
  go_ret
  exact ⟨rfl, rfl⟩

/-- What Register hands back, of a new Engine: its answer as a number of the error and a place; the numbers. -/
def regB (ls : List (List UInt8)) : Int × Int × Nat := match badB ls with | some p => (2, p, 0) | none => if 10 < ls.length then (3, 0, 0) else (0, 0, ls.length)
def RegPost (w : World) (B : Nat) (r : Int × Int × Nat) (e : Ending) (w' : World) : Prop :=
  ∃ a c, e = .returned (.tuple #[.slice a r.2.2 c, .int .i64 r.1, .int .i64 r.2.1]) ∧ (∃ base, w'.ownsRow base 3 1 (.slice a r.2.2 c) r.2.2 (rangeV r.2.2)) ∧ BB w.heap.size B w w'

theorem regB_bad {ls : List (List UInt8)} {p : Nat} (h : badB ls = some p) : regB ls = (2, (p : Int), 0) := by simp [regB, h]
theorem regB_many {ls : List (List UInt8)} (h : badB ls = none) (h2 : 10 < ls.length) : regB ls = (3, 0, 0) := by simp [regB, h, h2]
theorem regB_ok {ls : List (List UInt8)} (h : badB ls = none) (h2 : ¬ 10 < ls.length) : regB ls = (0, 0, ls.length) := by simp [regB, h, h2]
theorem nil_owns (w : World) : ∃ base, w.ownsRow base 3 1 (.slice none 0 0) 0 (rangeV 0) := ⟨0, World.ownsRow_nil _ _ _ _⟩

set_option maxHeartbeats 1000000 in
theorem register_any (w : World) (eb base : Nat) (s1 : Value) (ad : Option Addr) (b off cap : Nat) (ss : List ByteArray) (m : Int) (hm : w.cell? ⟨0, 0, none⟩ = some (.int .i64 m)) (h : TX w ad b off ss) (hlen : ss.length ≤ 1048576) (hcap : ss.length ≤ cap)
    (hE : EN w eb base (.pointer (some ⟨eb, 0, none⟩)) s1 (.slice none 0 0) 0 0 []) :
    Calls Tryd.prog 11 #[.pointer (some ⟨eb, 0, none⟩), .slice ad ss.length cap] w (RegPost w eb (regB (ss.map (·.data.toList)))) := by
  have hz := lt_of_block hE.blk
  have hmade := made_yes eb w (by rw [cell_of_row w eb 0 _ _ _ hE.blk]; rfl)
  have hall := parseAll_any w ad b off cap ss m hm h hlen hcap
  have HE := Hid.mk' hE
  have HL : (ss.map (·.data.toList)).length = ss.length := by simp
  clear hE hm h
  cases hB : badB (ss.map (·.data.toList)) with
  | some p =>
    rw [regB_bad hB]
    have hcall : Calls Tryd.prog 22 #[.slice ad ss.length cap] w fun e w' => e = .returned (.tuple #[.slice none 0 0, .int .i64 p, .bool false]) ∧ Below w.heap.size w w' := by
      refine hall.mono ?_
      rintro e w' ⟨h1, h2⟩
      rw [hB] at h2
      exact ⟨h2, h1⟩
    clear hall hB HL
    go_enter Tryd.func11, Tryd.ntmps11
    go_wp2_with (first | (go_at_call 21; refine hmade.mono ?_; rintro e w' ⟨rfl, rfl⟩) | (go_at_call 22; refine hcall.mono ?_; rintro e w1 ⟨rfl, hb⟩))
    go_ret3
    exact ⟨none, 0, rfl, nil_owns _, BB.of_below hb (Nat.le_of_lt hz)⟩
  | none =>
    have hcall : Calls Tryd.prog 22 #[.slice ad ss.length cap] w fun e w' => ∃ (a : Option Addr) (cap : Nat) (pats : List Pat), pats.length = ss.length ∧ e = .returned (.tuple #[.slice a ss.length cap, .int .i64 0, .bool true]) ∧ w'.ownsRow w.heap.size 80 2 (.slice a ss.length cap) ss.length (pats.flatMap patC) ∧ Below w.heap.size w w' := by
      refine hall.mono ?_
      rintro e w' ⟨h1, h2⟩
      rw [hB, HL] at h2
      obtain ⟨a, cp, pats, h3, h4, h5⟩ := h2
      exact ⟨a, cp, pats, h3, h4, h5, h1⟩
    clear hall
    by_cases h10 : 10 < ss.length
    · rw [regB_many hB (by rw [HL]; exact h10)]
      clear hB HL
      go_enter Tryd.func11, Tryd.ntmps11
      go_wp2_with (first | (go_at_call 21; refine hmade.mono ?_; rintro e w' ⟨rfl, rfl⟩) | (go_at_call 22; refine hcall.mono ?_; rintro e w1 ⟨a, cp, pats, hpl, rfl, hown, hb⟩; have c2 := (hb.cell (p := ⟨eb, 2, none⟩) hz).trans (cell_of_row _ eb 2 _ _ _ HE.out.blk); simp at c2))
      go_ret3
      exact ⟨none, 0, rfl, nil_owns _, BB.of_below hb (Nat.le_of_lt hz)⟩
    · rw [regB_ok hB (by rw [HL]; exact h10), HL]
      clear hB HL
      have hadd : ∀ (w1 : World) (a : Option Addr) (cp : Nat) (pats : List Pat), pats.length = ss.length → w1.ownsRow w.heap.size 80 2 (.slice a ss.length cp) ss.length (pats.flatMap patC) → Below w.heap.size w w1 → Calls Tryd.prog 23 #[.pointer (some ⟨eb, 0, none⟩), .slice a ss.length cp] w1 fun e w' => ∃ a c, e = .returned (.slice a ss.length c) ∧ (∃ base, w'.ownsRow base 3 1 (.slice a ss.length c) ss.length (rangeV ss.length)) ∧ BB w.heap.size eb w w' := by
        intro w1 a cp pats hpl hown hb
        by_cases h0 : ss.length = 0
        · rw [h0]
          refine (add_zero w1 _ a cp).mono ?_
          rintro e w' ⟨rfl, rfl⟩
          exact ⟨none, 0, rfl, nil_owns _, BB.of_below hb (Nat.le_of_lt hz)⟩
        · rcases hown.2 with ⟨_, h1⟩ | ⟨g, cp', cur, h1, h2, h3, h4, _⟩
          · exact absurd h1 h0
          · obtain ⟨rfl, _, rfl⟩ := Value.slice.inj h1
            have hE1 : EN w1 eb w.heap.size (.pointer (some ⟨eb, 0, none⟩)) s1 (.slice none 0 0) 0 0 [] := ⟨by rw [hb.block eb hz]; exact HE.out.blk, World.ownsRow_nil _ _ _ _, hz, hb.size⟩
            refine (add_any w1 eb w.heap.size w.heap.size _ s1 g cp ss.length pats (by omega) hpl hE1 hown h4 (by omega)).mono ?_
            rintro e w' ⟨a, c, rfl, ho, hBB⟩
            refine ⟨a, c, rfl, ⟨_, ho⟩, (BB.of_below hb (Nat.le_of_lt hz)).trans ⟨hBB.low, fun x h1 h2 => hBB.mid x h1 (Nat.lt_of_lt_of_le h2 hb.size)⟩⟩
      go_enter Tryd.func11, Tryd.ntmps11
      go_wp2_with (first | (go_at_call 21; refine hmade.mono ?_; rintro e w' ⟨rfl, rfl⟩) | (go_at_call 22; refine hcall.mono ?_; rintro e w1 ⟨a, cp, pats, hpl, rfl, hown, hb⟩; have c2 := (hb.cell (p := ⟨eb, 2, none⟩) hz).trans (cell_of_row _ eb 2 _ _ _ HE.out.blk); simp at c2; have HH := Hid.mk' (hadd w1 a cp pats hpl hown hb); clear hpl hown) | (go_at_call 23; refine HH.out.mono ?_; rintro e w2 ⟨a2, c2', rfl, ho, hBB⟩))
      go_ret3
      exact ⟨a2, c2', rfl, ho, hBB⟩
end Go.Proofs.YtfgpceejoefkkaaDoor
