import Derived.Test.YtfgpceejoefkkaaDoorTextsStp
namespace Go.Proofs.YtfgpceejoefkkaaDoor
open Go.RowKit Go.Lull
set_option linter.unusedVariables false

theorem last_at (steps : List Stp) (h : steps ≠ []) : ∃ l y, steps = l ++ [y] :=
  ⟨steps.dropLast, steps.getLast h, (List.dropLast_concat_getLast h).symm⟩

set_option maxHeartbeats 400000 in
theorem endInMust_nil (v : Value) (w : World) (base : Nat) (hown : w.ownsRow base 103 1 v 0 []) :
    Calls Tryd.prog 51 #[v] w fun e w' => e = .returned (.bool false) ∧ w' = w := by
  rcases hown with ⟨_, ⟨rfl, _⟩ | ⟨g, cap, cur, rfl, _⟩⟩
  all_goals
    go_enter Tryd.func51, Tryd.ntmps51
    go_wp2
    go_ret
    exact ⟨rfl, rfl⟩

theorem must_must (W : World) (v : Value) : (Instr.typeAssert (.iface 121 v) 103 121 true).run Tryd.prog W = .ok (.tuple #[v, .bool true]) W := by kernel_rfl
theorem not_must (W : World) (v : Value) : (Instr.typeAssert (.iface 120 v) 103 121 true).run Tryd.prog W = .ok (.tuple #[.agg #[.int .u8 0, .int .u8 0, .int .i64 0], .bool false]) W := by kernel_rfl
theorem not_not (W : World) (v : Value) : (Instr.typeAssert (.iface 120 v) 103 120 true).run Tryd.prog W = .ok (.tuple #[v, .bool true]) W := by kernel_rfl
theorem must_not (W : World) (v : Value) : (Instr.typeAssert (.iface 121 v) 103 120 true).run Tryd.prog W = .ok (.tuple #[.agg #[.int .u8 0, .int .u8 0, .int .i64 0], .bool false]) W := by kernel_rfl

set_option maxHeartbeats 400000 in
theorem endInMust_at (g n cap : Nat) (y : Stp) (w : World) (hn : n ≤ 8) (hc : w.cell? ⟨g, n, none⟩ = some (stepV y)) (hcap : n + 1 ≤ cap) :
    Calls Tryd.prog 51 #[.slice (some ⟨g, 0, none⟩) (n + 1) cap] w fun e w' => e = .returned (.bool (!y.1)) ∧ w' = w := by
  obtain ⟨b, y⟩ := y
  have t1 := must_must
  have t2 := not_must
  cases b
  · have hc' : w.cell? ⟨g, n, none⟩ = some (.iface 121 (.agg #[.int .u8 y.1.toNat, .int .u8 y.2.1.toNat, .int .i64 y.2.2])) := hc
    clear hc
    go_enter Tryd.func51, Tryd.ntmps51
    go_wp2
    go_ret
    exact ⟨rfl, rfl⟩
  · have hc' : w.cell? ⟨g, n, none⟩ = some (.iface 120 (.agg #[.int .u8 y.1.toNat, .int .u8 y.2.1.toNat, .int .i64 y.2.2])) := hc
    clear hc
    go_enter Tryd.func51, Tryd.ntmps51
    go_wp2
    go_ret
    exact ⟨rfl, rfl⟩

theorem endInMust_any (v : Value) (steps : List Stp) (w : World) (base : Nat) (hn : steps.length ≤ 8) (hown : w.ownsRow base 103 1 v steps.length (steps.map stepV)) :
    Calls Tryd.prog 51 #[v] w fun e w' => e = .returned (.bool (endB steps)) ∧ w' = w := by
  by_cases h : steps = []
  · subst h
    exact endInMust_nil v w base hown
  · obtain ⟨l, y, rfl⟩ := last_at steps h
    rcases hown.2 with ⟨_, h0⟩ | ⟨g, cap, cur, rfl, _, _, hcap, _⟩
    · simp at h0
    · have hc := hown.cellAt l.length (by simp)
      rw [endB_snoc]
      simp only [List.length_append, List.length_cons, List.length_nil] at hn hcap ⊢
      refine endInMust_at g l.length cap y w (by omega) ?_ (by omega)
      rw [hc]; simp

set_option maxHeartbeats 400000 in
theorem mayFollow_any (v : Value) (steps : List Stp) (x : Stp) (w : World) (base : Nat) (hn : steps.length ≤ 8) (hown : w.ownsRow base 103 1 v steps.length (steps.map stepV)) :
    Calls Tryd.prog 43 #[v, stepV x] w fun e w' => e = .returned (.bool (mayB steps x)) ∧ w' = w := by
  have hend := fun w hown => endInMust_any v steps w base hn hown
  have hv : ∃ a cap, v = .slice a steps.length cap := by
    rcases hown.2 with ⟨h, h0⟩ | ⟨g, cap, cur, h, _⟩
    · exact ⟨_, _, h0 ▸ h⟩
    · exact ⟨_, _, h⟩
  obtain ⟨a, cap, rfl⟩ := hv
  have H : Hid (w.ownsRow base 103 1 (.slice a steps.length cap) steps.length (steps.map stepV)) := hown
  clear hown
  obtain ⟨b, y⟩ := x
  have t1 := not_not
  have t2 := must_not
  by_cases h8 : steps.length < 8
  · cases b
    · have e : mayB steps (false, y) = true := by simp [mayB, h8]
      rw [e]
      show Calls Tryd.prog 43 #[.slice a steps.length cap, .iface 121 (.agg #[.int .u8 y.1.toNat, .int .u8 y.2.1.toNat, .int .i64 y.2.2])] w _
      clear e hend
      go_enter Tryd.func43, Tryd.ntmps43
      go_wp2
      go_ret
      exact ⟨rfl, rfl⟩
    · have e : mayB steps (true, y) = endB steps := by simp [mayB, h8]
      rw [e]
      show Calls Tryd.prog 43 #[.slice a steps.length cap, .iface 120 (.agg #[.int .u8 y.1.toNat, .int .u8 y.2.1.toNat, .int .i64 y.2.2])] w _
      clear e
      go_enter Tryd.func43, Tryd.ntmps43
      go_wp2_with (go_at_call 51; refine (hend _ H.out).mono ?_; rintro e w' ⟨rfl, rfl⟩)
      go_ret
      exact ⟨rfl, rfl⟩
  · have e : mayB steps (b, y) = false := by simp [mayB, h8]
    rw [e]
    obtain ⟨x, hx⟩ : ∃ x, stepV (b, y) = x := ⟨_, rfl⟩
    rw [hx]
    clear e hx hend t1 t2
    go_enter Tryd.func43, Tryd.ntmps43
    go_wp2
    go_ret
    exact ⟨rfl, rfl⟩
end Go.Proofs.YtfgpceejoefkkaaDoor
