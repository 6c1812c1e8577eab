import Derived.Test.YtbgfannlfagoiaaGreatDoorZ43
import Derived.Deep.RegionLaw
namespace Go.Proofs.YtbgfannlfagoiaaGreatDoor
open Go.RowKit Go.Lull
set_option linter.unusedVariables false

theorem rpat_at {w : World} {base g cap : Nat} {e : TypeId} {P : List PT} (h : w.ownsRow base e 2 (.slice (some ⟨g, 0, none⟩) P.length cap) P.length ((P.map toPat).flatMap patC)) (k : Nat) (hk : k < P.length) :
  w.cell? ⟨g, k * 2, none⟩ = some (.slice (some ⟨P[k].1, 0, none⟩) P[k].2.2.1.length P[k].2.1) ∧ w.cell? ⟨g, k * 2 + 1, none⟩ = some (.int .i64 P[k].2.2.2.1) := by
 have hat : ∀ (l : List Pat) (i j : Nat) (h : i < l.length), j < 2 → (l.flatMap patC)[i * 2 + j]? = (patC l[i])[j]? := by
  intro l
  induction l with
  | nil => intro i j h; cases h
  | cons x l ih =>
   intro i j h hj
   have hl : (patC x).length = 2 := rfl
   cases i with
   | zero => rw [List.flatMap_cons, Nat.zero_mul, Nat.zero_add, List.getElem?_append_left (by rw [hl]; exact hj)]; rfl
   | succ i =>
    rw [List.flatMap_cons, List.getElem?_append_right (by rw [hl]; omega), hl, show (i + 1) * 2 + j - 2 = i * 2 + j by omega]
    exact ih i j (by simpa using h) hj
 refine ⟨?_, ?_⟩
 ·rw [h.cellAt (k * 2) (by omega)]
  have := hat (P.map toPat) k 0 (by simpa using hk) (by omega)
  rw [Nat.add_zero] at this
  rw [this]; simp [patC, toPat]
 ·rw [h.cellAt (k * 2 + 1) (by omega), hat (P.map toPat) k 1 (by simpa using hk) (by omega)]
  simp [patC, toPat]
/-- What Register does. -/
def RegR (w : World) (rb n : Nat) (c : RC) (ts : List (List UInt8)) (e : Ending) (w' : World) : Prop :=
 ∃ v ck, e = .returned (.tuple #[v, .int .i64 ((regE (eOf c.abs) ts).1 : Nat), .int .i64 ((regE (eOf c.abs) ts).2.1 : Nat)]) ∧ (regE (eOf c.abs) ts).2.2.2 = eOf ck.abs ∧ RE w' rb ck ∧ RSok n ck.abs ∧ Ext w (c.blocks rb) w' (ck.blocks rb) ∧
  Row w' 3 1 v (regE (eOf c.abs) ts).2.2.1 (numsV c.next (regE (eOf c.abs) ts).2.2.1) ∧ (∀ b, v.ownBlock = some b → w.heap.size ≤ b ∧ b ∉ ck.blocks rb)
theorem reg_no {w w' : World} {rb n : Nat} {c : RC} {ts : List (List UInt8)} (h : RE w rb c) (hr : RSok n c.abs) (k p : Nat) (hx : regE (eOf c.abs) ts = (k, p, 0, eOf c.abs)) (hb : Below w.heap.size w w') : RegR w rb n c ts (.returned (.tuple #[.slice none 0 0, .int .i64 (k : Int), .int .i64 (p : Int)])) w' := by
 unfold RegR
 rw [hx]
 exact ⟨_, c, rfl, rfl, h.below hb, hr, Ext.below hb, ⟨rfl, Or.inl ⟨rfl, rfl⟩⟩, fun b hb => by cases hb⟩
theorem RA.done {w wm wr : World} {rb n : Nat} {c ck : RC} {P : List PT} {v : Value} {ts : List (List UInt8)} (hA : RA wm wr rb c ck P P.length v) (hr : RSok n c.abs) (hB : resAll ts = .inr (P.map (·.2.2))) (h10 : ¬ 10 < c.cs.length + P.length) (hb : Below w.heap.size w wm) (hP : ∀ x ∈ P, w.heap.size ≤ x.1) :
  RegR w rb n c ts (.returned (.tuple #[v, .int .i64 0, .int .i64 0])) wr := by
 have hx : regE (eOf c.abs) ts = (0, 0, P.length, eOf (regR c.abs (P.map (·.2.2)))) := by
  rw [reg_sim, hB]
  show (if 10 < c.abs.qs.length + (P.map (·.2.2)).length then _ else _) = _
  have e1 : c.abs.qs.length = c.cs.length := by simp [RC.abs]
  rw [if_neg (by rw [e1, List.length_map]; exact h10), List.length_map]
 have habs : ck.abs = regR c.abs (P.map (·.2.2)) := by
  rw [hA.abs, List.take_length]
  unfold regR
  rw [List.length_map]; rfl
 unfold RegR
 rw [hx]
 refine ⟨v, ck, rfl, by rw [habs], hA.re, ?_, ⟨(Fr.of_below _ hb).trans hA.fr, ?_⟩, hA.row, fun b hb' => ⟨Nat.le_trans hb.size (hA.new b hb'), hA.ap b hb'⟩⟩
 ·rw [habs]
  refine reg_rok hr hB ?_
  have e1 : c.abs.qs.length = c.cs.length := by simp [RC.abs]
  rw [e1, List.length_map]; omega
 ·intro b hb'
  rcases List.mem_append.1 hb' with h1 | h1
  ·rcases hA.subw b h1 with h2 | h2
   ·exact Or.inl (List.mem_append_left _ h2)
   ·exact Or.inr (Nat.le_trans hb.size h2)
  ·rcases hA.subr b h1 with h2 | h2
   ·exact Or.inl (List.mem_append_right _ h2)
   ·obtain ⟨x, hx, rfl⟩ := List.mem_map.1 h2
    exact Or.inr (hP x (List.mem_of_mem_take hx))
set_option maxRecDepth 8000 in
set_option maxHeartbeats 8000000 in
theorem rreg_any {w : World} {rb n : Nat} {c : RC} (h : RE w rb c) (hr : RSok n c.abs) (ad : Option Addr) (b off cap : Nat) (ss : List ByteArray) (hX : TX w ad b off ss) (hlen : ss.length ≤ 1048576) (hcap : ss.length ≤ cap) (hnx : c.next ≤ 1000000000) :
  Calls Tryz.prog 71 #[.pointer (some ⟨rb, 0, none⟩), .slice ad ss.length cap] w (RegR w rb n c (ss.map (·.data.toList))) := by
 have hz : rb < w.heap.size := lt_of_block h.blk
 have hcl : c.cs.length ≤ 10 := by have := hr.ql; simpa [RC.abs] using this
 obtain ⟨B, hB0⟩ : ∃ B, resAll (ss.map (·.data.toList)) = B := ⟨_, rfl⟩
 have hst : Hid (B = joinR [] (resAll ((ss.map (·.data.toList)).drop 0))) := by unfold Hid; rw [joinR_nil, List.drop_zero, hB0]
 obtain ⟨PO, hPO⟩ : ∃ PO, RegR w rb n c (ss.map (·.data.toList)) = PO := ⟨_, rfl⟩
 have hsim := reg_sim c.abs (ss.map (·.data.toList))
 have hbad : Hid (∀ W p, B = .inl p → Below w.heap.size w W → PO (.returned (.tuple #[.slice none 0 0, .int .i64 2, .int .i64 (p : Int)])) W) := by
  intro W p hp hb
  rw [hB0, hp] at hsim
  rw [← hPO]
  exact reg_no h hr 2 p hsim hb
 have hmany : Hid (∀ W (P : List PT), B = .inr (P.map (·.2.2)) → P.length = ss.length → 10 < c.cs.length + ss.length → Below w.heap.size w W → PO (.returned (.tuple #[.slice none 0 0, .int .i64 3, .int .i64 0])) W) := by
  intro W P hp hl h10 hb
  rw [hB0, hp] at hsim
  have e1 : c.abs.qs.length = c.cs.length := by simp [RC.abs]
  simp only at hsim
  rw [if_pos (by rw [e1, List.length_map, hl]; exact h10)] at hsim
  rw [← hPO]
  exact reg_no h hr 3 0 hsim hb
 have hdone : Hid (∀ wm W (P : List PT) ck v, B = .inr (P.map (·.2.2)) → P.length = ss.length → ¬ 10 < c.cs.length + ss.length → Below w.heap.size w wm → (∀ x ∈ P, w.heap.size ≤ x.1) → RA wm W rb c ck P ss.length v → PO (.returned (.tuple #[v, .int .i64 0, .int .i64 0])) W) := by
  intro wm W P ck v hp hl h10 hb hPl hA
  rw [← hPO]
  rw [← hl] at hA h10
  exact RA.done hA hr (hB0.trans hp) h10 hb hPl
 rw [hPO]
 have HX := Hid.mk' hX
 have HE := Hid.mk' h
 clear h hX hr hsim hPO hB0
 go_enter Tryz.func71, Tryz.ntmps71
 go_wp2
 go_loopw [7, 8] (fun v i wr => ∃ (k : Nat) (P : List PT), k ≤ ss.length ∧ i = .int .i64 k ∧ Hid (PB wr w.heap.size v P) ∧ Hid (P.length = k) ∧ Below w.heap.size w wr ∧ Hid (B = joinR (P.map (·.2.2)) (resAll ((ss.map (·.data.toList)).drop k)))) (fun _ i _ => ss.length - (intOf i).toNat)
 case atStart => exact ⟨0, [], Nat.zero_le _, rfl, PB.nil _ _, rfl, Below.refl _ _, hst⟩
 case round =>
  obtain ⟨k, P, hk, rfl, HO, HP, hB, HB⟩ := hrel
  have hown : Hid (wr.ownsRow w.heap.size 138 2 u7 k ((P.map toPat).flatMap patC)) := by unfold Hid; rw [← HP.out]; exact HO.out.row
  have hsz := hB.size
  by_cases hlt : k < ss.length
  ·have hne : ss ≠ [] := fun e => by rw [e] at hlt; cases hlt
   obtain rfl := HX.out.at_ hne
   obtain ⟨t, ht⟩ : ∃ t, ss[k] = t := ⟨_, rfl⟩
   have hc : wr.cell? ⟨b, off + k, none⟩ = some (.string t) := by
    rw [hB.cell (p := ⟨b, off + k, none⟩) (HX.out.lt hne), HX.out.cell k hlt, ht]
   have HE2 : Hid (B = joinR (P.map (·.2.2)) (resAll (t.data.toList :: (ss.map (·.data.toList)).drop (k + 1)))) := by
    have := HB.out
    rw [List.drop_eq_getElem_cons (by simpa using hlt)] at this
    exact Hid.mk' (by simpa [ht] using this)
   clear HB ht hne
   cases ho : resB t.data.toList with
   | inl p =>
    have hcall := rparse_bad t wr p ho
    have hBp : Hid (B = .inl p) := by unfold Hid; rw [HE2.out, resAll_bad ho]; rfl
    clear HE2 ho
    go_wp2_with (go_at_call 93; refine hcall.mono ?_; rintro e w1 ⟨a, n, cp, wn, rfl, hb⟩)
    go_ret3
    exact hbad.out _ p hBp.out ((hB.trans (hb.mono hsz)).alloc (by have := hb.size; omega) _)
   | inr st =>
    have hcall := rparse_good2 t wr st ho
    have HE3 : Hid (B = joinR (P.map (·.2.2) ++ [st]) (resAll ((ss.map (·.data.toList)).drop (k + 1)))) := by unfold Hid; rw [HE2.out, joinR_step ho]
    clear HE2 ho
    go_wp2_with (first | (go_at_call 93; refine hcall.mono ?_; rintro e w1 ⟨pg, cp, rfl, hb, hpg, hos⟩) | (at_builtin; refine append_rpat _ rfl _ _ rfl w.heap.size _ _ _ rfl (((own_below hown.out hb).alloc _).alloc _) _ (patC (some ⟨pg, 0, none⟩, st.1.length, cp, st.2.1)) rfl rfl (patC_at _ (some ⟨pg, 0, none⟩, st.1.length, cp, st.2.1) _ _ (by simp)) (patC_one _) (by omega) (by have := hb.size; simp; omega) ?_))
    intro g2 cap2 w3 hown3 hgrow
    have hb0 := hb.size
    have hB3 : Below w.heap.size w w3 := (((hB.trans (hb.mono hsz)).alloc (by omega) _).alloc (by simp; omega) _).grown hgrow (by simp; omega) (own_row hown.out)
    have hPB3 : PB w3 w.heap.size (.slice (some ⟨g2, 0, none⟩) (k + 1) cap2) (P ++ [(pg, cp, st)]) := by
     have hkeep : ∀ x, ownStR w1 w.heap.size x → ownStR w3 w.heap.size x := by
      intro x hx
      exact own_grown ((World.ownsRow.alloc hx _).alloc _) hgrow (own_apart hx (own_below hown.out hb) (by decide))
     refine ⟨?_, ?_⟩
     ·have e1 : (P ++ [(pg, cp, st)]).length = k + 1 := by rw [List.length_append, HP.out]; rfl
      rw [e1, List.map_append, List.flatMap_append]
      exact hown3
     ·intro x hx
      rcases List.mem_append.1 hx with hx | hx
      ·exact hkeep x (own_below (HO.out.st x hx) hb)
      ·simp at hx; subst hx
       exact hkeep _ (own_mono hos.out hsz)
    have HB3 := Hid.mk' hB3
    have HO3 := Hid.mk' hPB3
    clear hB3 hown3 hgrow hcall hb hc hPB3 hos
    go_wp2
    go_roundw
    case rel => exact ⟨k + 1, P ++ [(pg, cp, st)], by omega, by go_num, HO3, by unfold Hid; simp [HP.out], HB3.out, by rw [List.map_append]; exact HE3⟩
    case measure => simp [intOf]; omega
  ·have hk2 : k = ss.length := by omega
   have hBn : Hid (B = .inr (P.map (·.2.2))) := by unfold Hid; rw [HB.out, List.drop_of_length_le (by simp; omega)]; simp [resAll, joinR]
   obtain ⟨a, cp, hv⟩ := own_form hown.out
   subst hv
   clear HB
   subst hk2
   have hE2 := HE.out.below hB
   obtain ⟨qa0, qc0, hqv0, hqc0⟩ := HE.out.qrow.form
   have c2 : wr.cell? ⟨rb, 2, none⟩ = some (.slice qa0 c.cs.length qc0) := by rw [cell_of_row wr rb 2 _ _ _ hE2.blk]; simp [rCells, hqv0]
   have HE2 := Hid.mk' hE2
   clear hE2 hqv0
   by_cases h10 : 10 < c.cs.length + ss.length
   ·have hfin := Hid.mk' (hmany.out wr P hBn.out HP.out h10 hB)
    clear hbad hmany hdone
    go_wp2
    go_ret3
    exact hfin.out
   ·have hRA0 := Hid.mk' (RA.start HE2.out P)
    have hPg : Hid (∀ x ∈ P, w.heap.size ≤ x.1 ∧ x.1 < wr.heap.size) := fun x hx => ⟨own_row (HO.out.st x hx) x.1 rfl, own_lt (HO.out.st x hx) x.1 rfl⟩
    obtain ⟨wm, rfl⟩ : ∃ wm, wm = wr := ⟨wr, rfl⟩
    have hezm : rb < wm.heap.size := by omega
    have hdone2 : Hid (∀ W ck v, RA wm W rb c ck P ss.length v → PO (.returned (.tuple #[v, .int .i64 0, .int .i64 0])) W) := fun W ck v hA => hdone.out wm W P ck v hBn.out HP.out h10 hB (fun x hx => (hPg.out x hx).1) hA
    have HBM := Hid.mk' hB
    clear hbad hmany hdone hB
    go_wp2
    go_loopw [11, 12] (fun v i wr => ∃ (k : Nat) (ck : RC), k ≤ ss.length ∧ i = .int .i64 k ∧ Hid (ck.cs.length = c.cs.length + k) ∧ Hid (ck.next = c.next + k) ∧ Hid (RA wm wr rb c ck P k v)) (fun _ i _ => ss.length - (intOf i).toNat)
    case atStart => exact ⟨0, c, Nat.zero_le _, rfl, rfl, rfl, hRA0⟩
    case round =>
     clear hRA0 c2
     obtain ⟨k, ck, hk, rfl, HQL, HNL, hA⟩ := hrel
     by_cases hlt : k < ss.length
     ·have hkP : k < P.length := by rw [HP.out]; exact hlt
      obtain ⟨g, ha, hgw, hgm⟩ : ∃ g, a = some ⟨g, 0, none⟩ ∧ w.heap.size ≤ g ∧ g < wm.heap.size := by
       rcases hown.out.2 with ⟨_, h0⟩ | ⟨g, cp', cur, h1, h2, h3, _⟩
       ·omega
       ·exact ⟨g, (Value.slice.inj h1).1, h2, lt_of_block h3⟩
      subst ha
      have hnc : ∀ b, w.heap.size ≤ b → b ∉ c.blocks rb := fun b hb hm => by have := HE.out.lt b hm; omega
      obtain ⟨x, hx⟩ : ∃ x, P[k] = x := ⟨_, rfl⟩
      have hxm : x ∈ P := by rw [← hx]; exact List.getElem_mem hkP
      have hgw2 : wr.heap[g]? = wm.heap[g]? := hA.out.fr.block g hgm (hnc g hgw)
      have hrow := HO.out.row
      rw [← HP.out] at hrow
      obtain ⟨p0, p1⟩ := rpat_at hrow k hkP
      rw [hx] at p0 p1
      have hp0 : wr.cell? ⟨g, k * 2, none⟩ = some (.slice (some ⟨x.1, 0, none⟩) x.2.2.1.length x.2.1) := (World.cell?_of_block (a := ⟨g, k * 2, none⟩) hgw2).trans p0
      have hp1 : wr.cell? ⟨g, k * 2 + 1, none⟩ = some (.int .i64 x.2.2.2.1) := (World.cell?_of_block (a := ⟨g, k * 2 + 1, none⟩) hgw2).trans p1
      have hxw := hPg.out x hxm
      have hosx := HO.out.st x hxm
      have hxne : x.2.2.1 ≠ [] ∨ x.2.2.1.length ≤ x.2.1 := by
       rcases Nat.lt_or_ge x.2.1 x.2.2.1.length with h1 | h1
       ·left; intro e; rw [e] at h1; simp at h1
       ·exact Or.inr h1
      have hxcap : x.2.2.1.length ≤ x.2.1 := hxne.elim (fun h => stepsR_cap hosx h) id
      have hosr : SR wr x.1 x.2.2.1 := SR.of_own (hA.out.fr.own hosx (fun b hb => by
       have hb' : x.1 = b := Option.some.inj hb
       rw [← hb']; exact hnc x.1 hxw.1))
      have hsz2 : wm.heap.size ≤ wr.heap.size := hA.out.fr.size
      obtain ⟨aq, cq, hqv, hqc⟩ := hA.out.re.qrow.form
      have c2 : wr.cell? ⟨rb, 2, none⟩ = some (.slice aq ck.cs.length cq) := by rw [cell_of_row wr rb 2 _ _ _ hA.out.re.blk]; simp [rCells, hqv]
      have c3 : wr.cell? ⟨rb, 3, none⟩ = some (.int .i64 ck.next) := by rw [cell_of_row wr rb 3 _ _ _ hA.out.re.blk]; simp [rCells]
      have f2 : wr.frozen? ⟨rb, 2, none⟩ = false := frozen_of_row wr rb 2 _ _ hA.out.re.blk
      have hez2 : rb < wr.heap.size := by omega
      have hgz2 : g < wr.heap.size := by omega
      have hq10 : ck.cs.length ≤ 9 := by have := HQL.out; omega
      have hnn : ck.next ≤ 1000000010 := by have := HNL.out; omega
      have hrowq : Hid (∀ (o1 o2 : Obj), Row ((wr.alloc o1).alloc o2).drew 141 1 (.slice aq ck.cs.length cq) ck.cs.length (ck.cs.map rptrV)) := by
       intro o1 o2
       have h1 := hA.out.re.qrow
       rw [hqv] at h1
       refine h1.same (fun b hb => ?_)
       have hbl := h1.lt b hb
       show ((wr.alloc o1).alloc o2).heap[b]? = _
       rw [Below.heap_alloc _ _ _ (by simp; omega), Below.heap_alloc _ _ _ hbl]
      have hafter : Hid (∀ (w1 : World) (o1 o2 : Obj), ((wr.alloc o1).alloc o2).drew.grownBy w1 (Value.slice aq ck.cs.length cq).ownBlock → w1.cell? ⟨rb, 2, none⟩ = some (.slice aq ck.cs.length cq) ∧ w1.cell? ⟨rb, 3, none⟩ = some (.int .i64 ck.next) ∧ w1.frozen? ⟨rb, 2, none⟩ = false) := by
       intro w1 o1 o2 hgw
       have hb1 : w1.heap[rb]? = some (.cells (rCells ck) 107 (0, 0)) := by
        rw [hgw.block rb (by show rb < ((wr.alloc o1).alloc o2).heap.size; simp; omega) (fun e => by
         have hn1 := List.nodup_cons.1 hA.out.re.nd
         exact hn1.1 (by rw [hqv, ← e]; simp))]
        show ((wr.alloc o1).alloc o2).heap[rb]? = _
        rw [Below.heap_alloc _ _ _ (by simp; omega), Below.heap_alloc _ _ _ hez2]
        exact hA.out.re.blk
       refine ⟨?_, ?_, frozen_of_row w1 rb 2 _ _ hb1⟩
       ·rw [cell_of_row w1 rb 2 _ _ _ hb1]; simp [rCells, hqv]
       ·rw [cell_of_row w1 rb 3 _ _ _ hb1]; simp [rCells]
      have hnew : Hid (∀ (W : World) (T : Nat), W.heap.size = wr.heap.size + 1 → ∀ j u, [Value.pointer (some ⟨wr.heap.size, 0, none⟩)][j]? = some u → (W.alloc (.cells #[.pointer (some ⟨wr.heap.size, 0, none⟩)] T)).cell? ((⟨wr.heap.size + 1, 0, none⟩ : Addr).add j) = some u) := by
       intro W T hW
       rw [← hW]
       exact cell_one_new _ _ _
      have hnext : Hid (∀ (w2 W3 : World) (o2 : Obj) (g2 off2 cap2 : Nat), Row w2 141 1 (.slice (some ⟨g2, off2, none⟩) (ck.cs.length + 1) cap2) (ck.cs.length + 1) (ck.cs.map rptrV ++ [.pointer (some ⟨wr.heap.size, 0, none⟩)]) → ((wr.alloc (.cells #[.int .i64 ck.next, .slice (some ⟨x.1, 0, none⟩) x.2.2.1.length x.2.1, .int .i64 x.2.2.2.1, .slice none 0 0, .int .i64 0] 140)).alloc o2).drew.grownBy w2 (Value.slice aq ck.cs.length cq).ownBlock → ((Value.slice aq ck.cs.length cq).ownBlock = some g2 ∨ g2 = wr.heap.size + 1 + 1) → w2.setCell ⟨rb, 2, none⟩ (.slice (some ⟨g2, off2, none⟩) (ck.cs.length + 1) cap2) = W3 →
        Row W3 3 1 u11 k (numsV c.next k) ∧ W3.cell? ⟨rb, 3, none⟩ = some (.int .i64 ck.next) ∧
        (∀ o3 g3 off3 cap3 w4, Row w4 3 1 (.slice (some ⟨g3, off3, none⟩) (k + 1) cap3) (k + 1) (numsV c.next k ++ [.int .i64 ((ck.next : Nat) : Int)]) → (W3.alloc o3).grownBy w4 u11.ownBlock → (u11.ownBlock = some g3 ∨ g3 = W3.heap.size + 1) →
         w4.cell? ⟨rb, 3, none⟩ = some (.int .i64 ck.next) ∧ w4.frozen? ⟨rb, 3, none⟩ = false ∧ ∃ ck', Hid (RA wm (w4.setCell ⟨rb, 3, none⟩ (.int .i64 ((ck.next : Int) + 1))) rb c ck' P (k + 1) (.slice (some ⟨g3, off3, none⟩) (k + 1) cap3)) ∧ ck'.cs.length = ck.cs.length + 1 ∧ ck'.next = ck.next + 1)) := by
       intro w2 W3 o2 g2 off2 cap2 hr2 hg2 hor hW
       rw [← hqv] at hg2 hor
       refine RA.next (o2 := o2) hA.out hkP HNL.out (by rw [hx]; exact hxw.2) (by rw [hx]; exact fun hm => hnc x.1 hxw.1 (List.mem_append_left _ hm)) (by rw [hx]; exact hosr) (by rw [hx]; exact hxcap) hr2 ?_ hor hW
       rw [hx]
       exact ⟨hg2.os, hg2.tape, hg2.output, hg2.size, hg2.block⟩
      obtain ⟨va, vcap, hv5, _⟩ := hA.out.row.form
      subst hv5
      obtain ⟨xp, xc, xs, xw, xz⟩ := x
      simp only at *
      clear hA hosx hosr hqv hxm hx hxne hnc hrow hgw2 p0 p1
      go_wp2
      obtain ⟨i0, hi0, hz0, hz1, hz2⟩ := info_parts Tryz.infoRQ
      go_region_law (refine step_append_row (by rfl) _ _ _ (by rfl) i0 _ 8 Tryz.underlying105 hi0 hz0 hz1 hz2 rfl (by rfl) (hrowq.out _ _) 1 [.pointer (some ⟨wr.heap.size, 0, none⟩)] (.slice (some ⟨wr.heap.size + 1, 0, none⟩) 1 1) (by rfl) (Src.ofSlice _ Tryz.underlying105 _ 1 1 _ rfl (hnew.out _ _ (by simp)) (by simp [Value.oneCell'])) (by omega) (by unfold maxLen; omega) (by omega) ?_; intro g2 off2 cap2 w2 hr2 hg2 hor2; obtain ⟨k2, k3, fr2⟩ := hafter.out w2 _ _ hg2)
      all_goals
       obtain ⟨W3, hW3⟩ : ∃ W3, w2.setCell ⟨rb, 2, none⟩ (.slice (some ⟨g2, off2, none⟩) (ck.cs.length + 1) cap2) = W3 := ⟨_, rfl⟩
       rw [hW3]
       obtain ⟨r1, r2, r3⟩ := hnext.out w2 W3 _ g2 off2 cap2 hr2 hg2 (hor2.imp id (fun h => by rw [h]; simp)) hW3
       have R1 := Hid.mk' r1
       have R3 := Hid.mk' r3
       clear r1 r3 hW3 hr2 hg2 hor2 k2 k3 fr2 hi0 hz0 hz1 hz2 hp0 hp1 c2 c3 f2
       go_wp2_with (at_builtin; refine append_int _ rfl _ _ rfl (.slice va k vcap) k _ _ rfl R1.out rfl (by omega) ?_)
       intro g3 off3 cap3 w4 hr4 hg4 hor4
       obtain ⟨s1, s2, ck', hA', hq', hn'⟩ := R3.out _ g3 off3 cap3 w4 hr4 hg4 hor4
       have HQ' := Hid.mk' hq'
       have HN' := Hid.mk' hn'
       clear hr4 hg4 hor4 hq' hn'
       go_wp2
       go_roundw
       case rel => exact ⟨k + 1, ck', by omega, by go_num, by unfold Hid; rw [HQ'.out, HQL.out]; omega, by unfold Hid; rw [HN'.out, HNL.out]; omega, hA'⟩
       case measure => simp [intOf]; omega
     ·have hk2 : k = ss.length := by omega
      obtain ⟨a5, c5, hv, _⟩ := hA.out.row.form
      subst hv
      subst hk2
      have hfin := Hid.mk' (hdone2.out wr ck _ hA.out)
      clear hA
      go_wp2
      go_ret3
      exact hfin.out
end Go.Proofs.YtbgfannlfagoiaaGreatDoor
