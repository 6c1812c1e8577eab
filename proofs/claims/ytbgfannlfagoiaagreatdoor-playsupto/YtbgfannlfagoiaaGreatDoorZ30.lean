import Derived.Test.YtbgfannlfagoiaaGreatDoorZ29
import Derived.Test.YtbgfannlfagoiaaGreatDoorZ06
import Derived.Test.YtbgfannlfagoiaaGreatDoorZ07
namespace Go.Proofs.YtbgfannlfagoiaaGreatDoor
open Go.RowKit Go.Lull
set_option linter.unusedVariables false

abbrev PT := Nat × Nat × St
def toPat (x : PT) : Pat := (some ⟨x.1, 0, none⟩, x.2.2.1.length, x.2.1, x.2.2.2.1)
def ownSteps (w : World) (base : Nat) (x : PT) : Prop := w.ownsRow base 208 1 (.slice (some ⟨x.1, 0, none⟩) x.2.2.1.length x.2.1) x.2.2.1.length (x.2.2.1.map stepV)
/-- Patterns in memory, each with its steps. -/
structure PA (w : World) (base : Nat) (v : Value) (P : List PT) : Prop where
 row : w.ownsRow base 128 2 v P.length ((P.map toPat).flatMap patC)
 st : ∀ x ∈ P, ownSteps w base x
 nd : (P.map (·.1)).Nodup
theorem PA.nil (w : World) (base : Nat) : PA w base (.slice none 0 0) [] := ⟨World.ownsRow_nil _ _ _ _, by simp, by simp⟩

theorem parse_good2 (s : ByteArray) (m : Int) (w : World) (st : St) (hm : w.cell? ⟨0, 0, none⟩ = some (.int .i64 m)) (h : resB s.data.toList = .inr st) :
  Calls Tryz.prog 85 #[.string s] w fun e w' => ∃ pg cap, e = .returned (.tuple #[.agg #[.slice (some ⟨pg, 0, none⟩) st.1.length cap, .int .i64 st.2.1], .int .i64 0, .bool true]) ∧ Below w.heap.size w w' ∧ w.heap.size ≤ pg ∧ ownSteps w' w.heap.size (pg, cap, st) := by
 have hc := parse_any s m w hm
 have hok := resB_ok h
 rw [h] at hc
 refine hc.mono ?_
 rintro e w' ⟨a, n, cap, wn, place, ok, rfl, hB, rfl, rfl, rfl, rfl, hown⟩
 have hne : st.1 ≠ [] := hok.1.some_ (by rw [hok.2]; decide)
 have hpos : 0 < st.1.length := List.length_pos_iff.2 hne
 rcases hown.2 with ⟨_, h0⟩ | ⟨g, cp, cur, h1, h2, _⟩
 ·omega
 ·obtain ⟨rfl, _, rfl⟩ := Value.slice.inj h1
  exact ⟨g, cap, rfl, hB, h2, hown⟩

/-- What parseAll hands back. -/
def AllPost2 (w : World) (ls : List (List UInt8)) (e : Ending) (w' : World) : Prop :=
 Below w.heap.size w w' ∧ (match resAll ls with
  | .inl p => e = .returned (.tuple #[.slice none 0 0, .int .i64 p, .bool false])
  | .inr sts => ∃ (a : Option Addr) (cap : Nat) (P : List PT), P.map (·.2.2) = sts ∧ e = .returned (.tuple #[.slice a ls.length cap, .int .i64 0, .bool true]) ∧ PA w' w.heap.size (.slice a ls.length cap) P)

/-- What is read already, and what follows. -/
def joinR (sts : List St) : Nat ⊕ List St → Nat ⊕ List St
 | .inl p => .inl p
 | .inr r => .inr (sts ++ r)
theorem joinR_nil (r : Nat ⊕ List St) : joinR [] r = r := by cases r <;> rfl
theorem joinR_step {sts : List St} {l : List UInt8} {r : List (List UInt8)} {st : St} (h : resB l = .inr st) : joinR sts (resAll (l :: r)) = joinR (sts ++ [st]) (resAll r) := by
 rw [resAll_good h]
 cases resAll r with
 | inl p => rfl
 | inr s2 => simp [joinR]

set_option maxHeartbeats 2000000 in
theorem parseAll_all (w : World) (ad : Option Addr) (b off cap : Nat) (ss : List ByteArray) (m : Int) (hm : w.cell? ⟨0, 0, none⟩ = some (.int .i64 m)) (h : TX w ad b off ss) (hlen : ss.length ≤ 1048576) (hcap : ss.length ≤ cap) :
  Calls Tryz.prog 58 #[.slice ad ss.length cap] w (AllPost2 w (ss.map (·.data.toList))) := by
 have hz : 0 < w.heap.size := block_lt_of_cell hm
 obtain ⟨B, hB0⟩ : ∃ B, resAll (ss.map (·.data.toList)) = B := ⟨_, rfl⟩
 have hst : Hid (B = joinR [] (resAll ((ss.map (·.data.toList)).drop 0))) := by unfold Hid; rw [joinR_nil, List.drop_zero, hB0]
 have hfin : ∀ e w', AllPost2 w (ss.map (·.data.toList)) e w' ↔ (Below w.heap.size w w' ∧ (match B with
  | .inl p => e = .returned (.tuple #[.slice none 0 0, .int .i64 p, .bool false])
  | .inr sts => ∃ (a : Option Addr) (cap : Nat) (P : List PT), P.map (·.2.2) = sts ∧ e = .returned (.tuple #[.slice a ss.length cap, .int .i64 0, .bool true]) ∧ PA w' w.heap.size (.slice a ss.length cap) P)) := by
  intro e w'
  unfold AllPost2
  rw [hB0]
  simp only [List.length_map]
 have HF := Hid.mk' hfin
 clear hfin hB0
 have HX : Hid (TX w ad b off ss) := h
 have HM : Hid (w.cell? ⟨0, 0, none⟩ = some (.int .i64 m)) := hm
 clear h hm
 go_enter Tryz.func58, Tryz.ntmps58
 go_wp2
 go_loopw [5, 13] (fun v i wr => ∃ (k : Nat) (P : List PT), k ≤ ss.length ∧ i = .int .i64 k ∧ PA wr w.heap.size v P ∧ P.length = k ∧ Below w.heap.size w wr ∧ Hid (B = joinR (P.map (·.2.2)) (resAll ((ss.map (·.data.toList)).drop k)))) (fun _ i _ => ss.length - (intOf i).toNat)
 case atStart => exact ⟨0, [], Nat.zero_le _, rfl, PA.nil _ _, rfl, Below.refl _ _, hst⟩
 case round =>
  obtain ⟨k, P, hk, rfl, hPA, hpl, hB, HE⟩ := hrel
  have HP := Hid.mk' hpl
  have HO := Hid.mk' hPA
  have hown : Hid (wr.ownsRow w.heap.size 128 2 u5 k ((P.map toPat).flatMap patC)) := by unfold Hid; rw [← hpl]; exact hPA.row
  clear hPA hpl
  by_cases hlt : k < ss.length
  ·have hne : ss ≠ [] := fun e => by rw [e] at hlt; cases hlt
   obtain rfl := HX.out.at_ hne
   obtain ⟨t, ht⟩ : ∃ t, ss[k] = t := ⟨_, rfl⟩
   have hc : wr.cell? ⟨b, off + k, none⟩ = some (.string t) := by
    rw [hB.cell (p := ⟨b, off + k, none⟩) (HX.out.lt hne), HX.out.cell k hlt, ht]
   have hm' : wr.cell? ⟨0, 0, none⟩ = some (.int .i64 m) := (hB.cell (p := ⟨0, 0, none⟩) hz).trans HM.out
   have HE2 : Hid (B = joinR (P.map (·.2.2)) (resAll (t.data.toList :: (ss.map (·.data.toList)).drop (k + 1)))) := by
    have := HE.out
    rw [List.drop_eq_getElem_cons (by simpa using hlt)] at this
    exact Hid.mk' (by simpa [ht] using this)
   clear HE ht hne
   have hsz := hB.size
   cases ho : resB t.data.toList with
   | inl p =>
    have hcall := parse_bad t m wr p hm' ho
    have hBp : Hid (B = .inl p) := by unfold Hid; rw [HE2.out, resAll_bad ho]; rfl
    clear HE2 ho hm'
    go_wp2_with (go_at_call 85; refine hcall.mono ?_; rintro e w1 ⟨a, n, cp, wn, rfl, hb⟩)
    go_ret3
    rw [HF.out, hBp.out]
    exact ⟨(hB.trans (hb.mono hsz)).alloc (by have := hb.size; omega) _, rfl⟩
   | inr st =>
    have hcall := parse_good2 t m wr st hm' ho
    have HE3 : Hid (B = joinR (P.map (·.2.2) ++ [st]) (resAll ((ss.map (·.data.toList)).drop (k + 1)))) := by unfold Hid; rw [HE2.out, joinR_step ho]
    clear HE2 ho hm'
    have hcall' : Calls Tryz.prog 85 #[.string t] wr fun e w' => ∃ pg cap, e = .returned (.tuple #[.agg #[.slice (some ⟨pg, 0, none⟩) st.1.length cap, .int .i64 st.2.1], .int .i64 0, .bool true]) ∧ Below wr.heap.size wr w' ∧ wr.heap.size ≤ pg ∧ Hid (ownSteps w' wr.heap.size (pg, cap, st)) := hcall
    clear hcall
    go_wp2_with (first | (go_at_call 85; refine hcall'.mono ?_; rintro e w1 ⟨pg, cp, rfl, hb, hpg, hos⟩) | (at_builtin; refine append_pat _ rfl _ _ rfl w.heap.size _ _ _ rfl (((own_below hown.out hb).alloc _).alloc _) _ (patC (some ⟨pg, 0, none⟩, st.1.length, cp, st.2.1)) rfl rfl (patC_at _ (some ⟨pg, 0, none⟩, st.1.length, cp, st.2.1) _ _ (by simp)) (patC_one _) (by omega) (by have := hb.size; simp; omega) ?_))
    intro g2 cap2 w3 hown3 hgrow
    have hb0 := hb.size
    have hB3 : Below w.heap.size w w3 := (((hB.trans (hb.mono hsz)).alloc (by omega) _).alloc (by simp; omega) _).grown hgrow (by simp; omega) (own_row hown.out)
    have hPA3 : PA w3 w.heap.size (.slice (some ⟨g2, 0, none⟩) (k + 1) cap2) (P ++ [(pg, cp, st)]) := by
     have hkeep : ∀ x, ownSteps w1 w.heap.size x → ownSteps w3 w.heap.size x := by
      intro x hx
      exact own_grown ((World.ownsRow.alloc hx _).alloc _) hgrow (own_apart hx (own_below hown.out hb) (by decide))
     refine ⟨?_, ?_, ?_⟩
     ·have e1 : (P ++ [(pg, cp, st)]).length = k + 1 := by rw [List.length_append, HP.out]; rfl
      rw [e1, List.map_append, List.flatMap_append]
      exact hown3
     ·intro x hx
      rcases List.mem_append.1 hx with hx | hx
      ·exact hkeep x (own_below (HO.out.st x hx) hb)
      ·simp at hx; subst hx
       exact hkeep _ (own_mono hos.out hsz)
     ·rw [List.map_append]
      refine List.nodup_append.2 ⟨HO.out.nd, by simp, ?_⟩
      intro a ha b hb' e
      simp at hb'
      obtain ⟨x, hx, rfl⟩ := List.mem_map.1 ha
      have := own_lt (HO.out.st x hx) x.1 rfl
      omega
    have HB3 := Hid.mk' hB3
    have HO3 := Hid.mk' hPA3
    clear hB3 hown3 hgrow hcall' hb hc hPA3 hos
    go_wp2
    go_roundw
    case rel => exact ⟨k + 1, P ++ [(pg, cp, st)], by omega, by go_num, HO3.out, by simp [HP.out], HB3.out, by rw [List.map_append]; exact HE3⟩
    case measure => simp [intOf]; omega
  ·have hk2 : k = ss.length := by omega
   have hBn : Hid (B = .inr (P.map (·.2.2))) := by unfold Hid; rw [HE.out, List.drop_of_length_le (by simp; omega)]; simp [resAll, joinR]
   have hv : ∃ a cp, u5 = .slice a k cp := own_form hown.out
   obtain ⟨a, cp, hv⟩ := hv
   subst hv
   clear HE
   go_wp2
   go_ret3
   rw [HF.out, hBn.out]
   subst hk2
   exact ⟨hB, a, cp, P, rfl, rfl, HO.out⟩
end Go.Proofs.YtbgfannlfagoiaaGreatDoor
