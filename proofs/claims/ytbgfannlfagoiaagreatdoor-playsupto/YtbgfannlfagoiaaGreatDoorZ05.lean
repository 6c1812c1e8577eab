import Derived.Test.YtbgfannlfagoiaaGreatDoorZ02
namespace Go.Lull
set_option linter.unusedVariables false
theorem offerE_ok {s : En} {e : Ev} {r : List Ev} (h : (takeE s e).1 = 0) : offerE s (e :: r) = ((offerE (takeE s e).2 r).1 + 1, (offerE (takeE s e).2 r).2) := by
 simp [offerE, h]
theorem offerE_no {s : En} {e : Ev} {r : List Ev} (h : (takeE s e).1 ≠ 0) : offerE s (e :: r) = (0, takeE s e) := by
 simp [offerE, h]
theorem takeE_sb {s : En} {e : Ev} (h : SB s.buf) : SB (takeE s e).2.buf := by
 unfold takeE
 split
 ·split
  ·exact h
  ·split
   ·exact h
   ·exact h.put e
 ·exact h
theorem offerE_sb : ∀ (l : List Ev) {s : En}, SB s.buf → SB (offerE s l).2.2.buf
 | [], s, h => h
 | e :: r, s, h => by
  by_cases h0 : (takeE s e).1 = 0
  ·rw [offerE_ok h0]; exact offerE_sb r (takeE_sb h)
  ·rw [offerE_no h0]; exact takeE_sb h
end Go.Lull
