import Derived.Test.YtbgfannlfagoiaaGreatDoorZ07
import Derived.Deep.RegionWith
namespace Go.Proofs.YtbgfannlfagoiaaGreatDoor
open Go.RowKit Go.Lull
set_option linter.unusedVariables false

def itC (x : It) (v : Value) : Array Value := #[.int .i64 x.m.q, .int .i64 x.m.cl, v, .bool x.late, .int .i64 x.place]
set_option maxHeartbeats 400000 in
theorem ahead_any (a b : It) (va vb : Value) (w : World) :
  Calls Tryz.prog 101 #[.agg (itC a va), .agg (itC b vb)] w fun e w' => e = .returned (.bool (aheadB a b)) ∧ ∃ o1 o2, w' = (w.alloc o1).alloc o2 := by
 obtain ⟨⟨aq, ac, ae⟩, al, ap⟩ := a
 obtain ⟨⟨bq, bc, be⟩, bl, bp⟩ := b
 unfold itC
 simp only
 by_cases hc : ac = bc
 ·have k1 : Hid (aheadB ⟨⟨aq, ac, ae⟩, al, ap⟩ ⟨⟨bq, bc, be⟩, bl, bp⟩ = if al = bl then decide (ap < bp) else bl) := by unfold Hid aheadB; rw [if_pos hc]
  subst hc
  by_cases hl : al = bl
  ·have k2 : Hid (aheadB ⟨⟨aq, ac, ae⟩, al, ap⟩ ⟨⟨bq, ac, be⟩, bl, bp⟩ = decide (ap < bp)) := by unfold Hid; rw [k1.out, if_pos hl]
   subst hl
   clear k1
   go_enter Tryz.func101, Tryz.ntmps101
   go_wp2
   go_ret
   rw [k2.out]
   exact ⟨rfl, _, _, rfl⟩
  ·have k2 : Hid (aheadB ⟨⟨aq, ac, ae⟩, al, ap⟩ ⟨⟨bq, ac, be⟩, bl, bp⟩ = bl) := by unfold Hid; rw [k1.out, if_neg hl]
   have hn : (al == bl) = false := by simpa using hl
   have hn2 : (al != bl) = true := by simpa using hl
   clear k1
   go_enter Tryz.func101, Tryz.ntmps101
   go_wp2
   go_ret
   rw [k2.out]
   exact ⟨rfl, _, _, rfl⟩
 ·have k1 : Hid (aheadB ⟨⟨aq, ac, ae⟩, al, ap⟩ ⟨⟨bq, bc, be⟩, bl, bp⟩ = decide (ac < bc)) := by unfold Hid aheadB; rw [if_neg hc]
  have hn : (ac == bc) = false := by simpa using hc
  have hn2 : (ac != bc) = true := by simpa using hc
  go_enter Tryz.func101, Tryz.ntmps101
  go_wp2
  go_ret
  rw [k1.out]
  exact ⟨rfl, _, _, rfl⟩

/-- A query of the document's, in memory. -/
structure QM (w : World) (qb sb sc lc : Nat) (sa : Option Addr) (q : RQ) : Prop where
 blk : w.heap[qb]? = some (.cells #[.int .i64 q.id, .slice (some ⟨sb, 0, none⟩) q.st.length sc, .int .i64 q.wn, .slice sa q.seen.length lc, .int .i64 q.gone] 140 (0, 0))
 st : SR w sb q.st
 stc : q.st.length ≤ sc
 seen : ∀ k, k < q.seen.length → ∃ lb, sa = some ⟨lb, 0, none⟩ ∧ ER w lb q.seen
 lc : q.seen.length ≤ lc
theorem QM.below {w w' : World} {qb sb sc lc : Nat} {sa : Option Addr} {q : RQ} (h : QM w qb sb sc lc sa q) (hb : Below w.heap.size w w') : QM w' qb sb sc lc sa q :=
 ⟨by rw [hb.block qb (lt_of_block h.blk)]; exact h.blk, h.st.below hb h.st.lt, h.stc, fun k hk => by obtain ⟨lb, h1, h2⟩ := h.seen k hk; exact ⟨lb, h1, h2.below hb h2.lt⟩, h.lc⟩
theorem ER.take {w : World} {lb : Nat} {l : List Ev} (h : ER w lb l) (n : Nat) : ER w lb (l.take n) := by
 have key : ∀ k, k < (l.take n).length → k < l.length ∧ (l.take n).getD k noEv = l.getD k noEv := by
  intro k hk
  rw [List.length_take] at hk
  exact ⟨by omega, getD_take (by omega) (by omega)⟩
 refine ⟨h.lt, ?_, ?_, ?_, ?_⟩
 ·intro k hk; rw [(key k hk).2]; exact h.c0 k (key k hk).1
 ·intro k hk; rw [(key k hk).2]; exact h.c1 k (key k hk).1
 ·intro k hk; rw [(key k hk).2]; exact h.c2 k (key k hk).1
 ·intro k hk; rw [(key k hk).2]; exact h.c3 k (key k hk).1
end Go.Proofs.YtbgfannlfagoiaaGreatDoor
