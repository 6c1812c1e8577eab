import Derived.Test.YtbgfannlfagoiaaDoorKa
import Derived.Test.YtbgfannlfagoiaaDoorGd
import Derived.Deep.QuietTactic
import Derived.BigQuiet
namespace Go.Proofs.YtbgfannlfagoiaaDoor
open Go.RowKit Go.Lull
set_option linter.unusedVariables false

/-- Matches in memory, each with its events. -/
structure MS (w : World) (v : Value) (L : List (Mt × Value)) : Prop where
  row : Row w 60 3 v L.length (L.flatMap matC)
  ev : ∀ x ∈ L, Row w 56 4 x.2 x.1.evs.length (x.1.evs.flatMap evC)
theorem flat4_at : ∀ (l : List Ev) (i k : Nat) (h : i < l.length), k < 4 → (l.flatMap evC)[i * 4 + k]? = (evC l[i])[k]?
  | x :: l, 0, k, h, hk => by
    rw [List.flatMap_cons, Nat.zero_mul, Nat.zero_add, List.getElem?_append_left (by simpa [evC] using hk)]
    rfl
  | x :: l, i + 1, k, h, hk => by
    have hl : (evC x).length = 4 := rfl
    rw [List.flatMap_cons, List.getElem?_append_right (by rw [hl]; omega), hl, show (i + 1) * 4 + k - 4 = i * 4 + k by omega]
    exact flat4_at l i k (by simpa using h) hk
theorem row_some {w : World} {e : TypeId} {size n : Nat} {v : Value} {xs : List Value} (h : Row w e size v n xs) (hn : 0 < n) : ∃ g off cap, v = .slice (some ⟨g, off, none⟩) n cap ∧ n ≤ cap := by
  rcases h.2 with ⟨_, h0⟩ | ⟨g, off, cap, cur, h1, _, h2, _⟩
  · omega
  · exact ⟨g, off, cap, h1, h2⟩
theorem row_le {w : World} {e : TypeId} {size n : Nat} {v : Value} {xs : List Value} (h : Row w e size v n xs) : n ≤ 9223372036854775807 := by
  rcases h.2 with ⟨_, h0⟩ | ⟨g, off, cap, cur, h1, _, h2, h3, _⟩
  · omega
  · unfold maxLen at h3; omega
theorem MS.at_ {w : World} {g off cap : Nat} {L : List (Mt × Value)} (h : MS w (.slice (some ⟨g, off, none⟩) L.length cap) L) (i : Nat) (hi : i < L.length) :
    w.cell? ⟨g, off + i * 3, none⟩ = some (.int .i64 L[i].1.q) ∧ w.cell? ⟨g, off + i * 3 + 1, none⟩ = some (.int .i64 L[i].1.cl) ∧ w.cell? ⟨g, off + i * 3 + 2, none⟩ = some L[i].2 := by
  have hc : ∀ k, k < 3 → w.cell? ⟨g, off + i * 3 + k, none⟩ = (matC L[i])[k]? := by
    intro k hk
    rw [Nat.add_assoc, h.row.cell (i * 3 + k) (by omega), flat3_at matC (fun _ => rfl) L i k hi hk]
  exact ⟨hc 0 (by omega), hc 1 (by omega), hc 2 (by omega)⟩
theorem ev_at {w : World} {g off cap : Nat} {l : List Ev} (h : Row w 56 4 (.slice (some ⟨g, off, none⟩) l.length cap) l.length (l.flatMap evC)) (i : Nat) (hi : i < l.length) :
    w.cell? ⟨g, off + i * 4, none⟩ = some (.int .i64 l[i].1) ∧ w.cell? ⟨g, off + i * 4 + 1, none⟩ = some (.int .i64 l[i].2.1) ∧ w.cell? ⟨g, off + i * 4 + 2, none⟩ = some (.int .u8 l[i].2.2.1.toNat) ∧ w.cell? ⟨g, off + i * 4 + 3, none⟩ = some (.int .i64 l[i].2.2.2) := by
  have hc : ∀ k, k < 4 → w.cell? ⟨g, off + i * 4 + k, none⟩ = (evC l[i])[k]? := by
    intro k hk
    rw [Nat.add_assoc, h.cell (i * 4 + k) (by omega), flat4_at l i k hi hk]
  exact ⟨hc 0 (by omega), hc 1 (by omega), hc 2 (by omega), hc 3 (by omega)⟩

set_option maxRecDepth 8000 in
set_option maxHeartbeats 4000000 in
theorem same_yes (w : World) (va vb : Value) (LA LB : List (Mt × Value)) (ha : MS w va LA) (hb : MS w vb LB) (heq : LA.map Prod.fst = LB.map Prod.fst) (hn : LA.length ≤ 1000000) :
    Calls Tryd.prog 26 #[va, vb] w fun e w' => e = .returned (.bool true) ∧ ∃ q, w' = w.drewN q := by
  have hl : LB.length = LA.length := by have := congrArg List.length heq; simpa using this.symm
  obtain ⟨aa, ca, rfl, hca⟩ := ha.row.form
  obtain ⟨ab, cb, rfl, hcb⟩ := hb.row.form
  have HA := Hid.mk' ha
  have HB := Hid.mk' hb
  have HE := Hid.mk' heq
  have HL := Hid.mk' hl
  rw [hl]
  rw [hl] at hcb
  clear ha hb heq hl
  go_enter Tryd.func26, Tryd.ntmps26
  go_wp2
  go_loopw [5] (fun i wr => ∃ (k q : Nat) (z : Int), z = k ∧ k ≤ LA.length ∧ i = .int .i64 z ∧ wr = w.drewN q) (fun i _ => LA.length - (intOf i).toNat)
  case atStart => exact ⟨0, 0, 0, rfl, Nat.zero_le _, rfl, rfl⟩
  case round =>
    obtain ⟨k, q, z, rfl, hk, rfl, hw⟩ := hrel
    subst hw
    by_cases hlt : k < LA.length
    · have hkb : k < LB.length := by rw [HL.out]; exact hlt
      obtain ⟨ga, oa, ca', hva, _⟩ := row_some HA.out.row (by omega)
      obtain ⟨gb, ob, cb', hvb, _⟩ := row_some HB.out.row (by omega)
      obtain ⟨rfl, _, rfl⟩ := Value.slice.inj hva
      obtain ⟨rfl, _, rfl⟩ := Value.slice.inj hvb
      clear hva hvb
      have xA := HA.out.at_ k hlt
      have xB := HB.out.at_ k hkb
      have hab : LB[k].1 = LA[k].1 := by
        have h1 : (LA.map Prod.fst)[k]? = (LB.map Prod.fst)[k]? := by rw [HE.out]
        simpa [hlt, hkb] using h1.symm
      have rA := HA.out.ev LA[k] (List.getElem_mem hlt)
      have rB := HB.out.ev LB[k] (List.getElem_mem hkb)
      have hel : LA[k].1.evs.length ≤ 9223372036854775807 := row_le rA
      rw [hab] at xB rB
      obtain ⟨m, hm⟩ : ∃ m, LA[k].1 = m := ⟨_, rfl⟩
      obtain ⟨ua, hua⟩ : ∃ ua, LA[k].2 = ua := ⟨_, rfl⟩
      obtain ⟨ub, hub⟩ : ∃ ub, LB[k].2 = ub := ⟨_, rfl⟩
      rw [hm] at xA xB rA rB hel
      rw [hua] at xA rA
      rw [hub] at xB rB
      clear hab hm hua hub
      obtain ⟨ea, ecap, rfl, hec⟩ := rA.form
      obtain ⟨eb, fcap, rfl, hfc⟩ := rB.form
      obtain ⟨xA0, xA1, xA2⟩ := xA
      obtain ⟨xB0, xB1, xB2⟩ := xB
      have RA := Hid.mk' rA
      have RB := Hid.mk' rB
      clear rA rB
      go_wp2
      go_quiet (fail)
      go_wp2
      go_loopw [6] (fun i wr => ∃ (j q : Nat) (z : Int), z = j ∧ j ≤ m.evs.length ∧ i = .int .i64 z ∧ wr = w.drewN q) (fun i _ => m.evs.length - (intOf i).toNat)
      case atStart => exact ⟨0, q + nq, 0, rfl, Nat.zero_le _, rfl, by first | rfl | exact (World.drewN_drewN _ _ _)⟩
      case round =>
        obtain ⟨j, q2, z, rfl, hj, rfl, hw⟩ := hrel
        subst hw
        by_cases hjl : j < m.evs.length
        · obtain ⟨g1, o1, c1, e1, _⟩ := row_some RA.out (by omega)
          obtain ⟨g2, o2, c2, e2, _⟩ := row_some RB.out (by omega)
          obtain ⟨rfl, _, rfl⟩ := Value.slice.inj e1
          obtain ⟨rfl, _, rfl⟩ := Value.slice.inj e2
          clear e1 e2
          obtain ⟨y0, y1, y2, y3⟩ := ev_at RA.out j hjl
          obtain ⟨z0, z1, z2, z3⟩ := ev_at RB.out j hjl
          generalize m.evs[j] = ee at y0 y1 y2 y3 z0 z1 z2 z3
          go_wp2
          go_quiet (fail)
          go_wp2
          go_roundw
          case rel => exact ⟨j + 1, q2 + nq, (j : Int) + 1, by omega, by omega, rfl, by first | rfl | exact (World.drewN_drewN _ _ _)⟩
          case measure => simp [intOf]; omega
        · go_wp2
          go_roundw
          case rel => exact ⟨k + 1, q2, (k : Int) + 1, by omega, by omega, rfl, rfl⟩
          case measure => simp [intOf]; omega
    · go_wp2
      go_ret
      exact ⟨rfl, q, rfl⟩
end Go.Proofs.YtbgfannlfagoiaaDoor
