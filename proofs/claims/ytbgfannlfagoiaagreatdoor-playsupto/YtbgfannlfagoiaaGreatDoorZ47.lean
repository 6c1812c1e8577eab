import Derived.Test.YtbgfannlfagoiaaGreatDoorZ46
namespace Go.Proofs.YtbgfannlfagoiaaGreatDoor
open Go.RowKit Go.Lull
set_option linter.unusedVariables false

def leftOf (rb : Nat) (W : World) : Nat := slen ((W.cell? ⟨rb, 1, none⟩).getD (.slice none 0 0))
set_option maxRecDepth 8000 in
set_option maxHeartbeats 8000000 in
theorem rbeat_any {w : World} {rb n : Nat} {c : RC} (h : RE w rb c) (hr : RSok n c.abs) (hn : n ≤ 1000000) (src t : Int) :
  Calls Tryz.prog 44 #[.pointer (some ⟨rb, 0, none⟩), .int .i64 src, .int .i64 t] w (BeatR w rb n c src t) := by
 have hsim : beatE (eOf c.abs) src t = if src < 0 ∨ (c.marks.length : Int) ≤ src ∨ t < 0 ∨ 2000000 < t then (1, eOf c.abs) else if t < c.marks.getD src.toNat 0 then (5, eOf c.abs) else (0, eOf (beatR c.abs src.toNat t)) := beat_sim hr src t
 have hm8 : c.marks.length ≤ 8 := hr.m8
 have c0 : w.cell? ⟨rb, 0, none⟩ = some (.slice (some ⟨c.mg, 0, none⟩) c.marks.length c.marks.length) := by rw [cell_of_row w rb 0 _ _ _ h.blk]; rfl
 by_cases hbad : src < 0 ∨ (c.marks.length : Int) ≤ src ∨ t < 0 ∨ 2000000 < t
 ·have hx : beatE (eOf c.abs) src t = (1, eOf c.abs) := by rw [hsim]; exact if_pos hbad
  have hfin := Hid.mk' (beat_no h hr 1 hx)
  clear h hr hsim hx
  by_cases h1 : src < 0
  ·clear hbad
   go_enter Tryz.func44, Tryz.ntmps44
   go_wp2
   go_ret
   exact hfin.out
  ·by_cases h2 : (c.marks.length : Int) ≤ src
   ·clear hbad
    go_enter Tryz.func44, Tryz.ntmps44
    go_wp2
    go_ret
    exact hfin.out
   ·by_cases h3 : t < 0
    ·clear hbad
     go_enter Tryz.func44, Tryz.ntmps44
     go_wp2
     go_ret
     exact hfin.out
    ·have h4 : 2000000 < t := by omega
     clear hbad
     go_enter Tryz.func44, Tryz.ntmps44
     go_wp2
     go_ret
     exact hfin.out
 ·obtain ⟨k, rfl⟩ : ∃ k : Nat, src = (k : Int) := ⟨src.toNat, by omega⟩
  have hkl : k < c.marks.length := by omega
  obtain ⟨mk, hmk⟩ : ∃ mk, c.marks[k] = mk := ⟨_, rfl⟩
  have hgd : c.marks.getD k 0 = mk := by simp [List.getD, hkl, hmk]
  have cm : w.cell? ⟨c.mg, k, none⟩ = some (.int .i64 mk) := by
   rw [cell_of_row w c.mg k _ _ _ h.marks]
   simp [hkl, hmk]
  have fm : w.frozen? ⟨c.mg, k, none⟩ = false := frozen_of_row w c.mg k _ _ h.marks
  have hs1 : ¬ (k : Int) < 0 := by omega
  have hs2 : ¬ (c.marks.length : Int) ≤ (k : Int) := by omega
  have hs3 : ¬ t < 0 := by omega
  have hs4 : ¬ 2000000 < t := by omega
  by_cases hlate : t < mk
  ·have hx : beatE (eOf c.abs) (k : Int) t = (5, eOf c.abs) := by
    rw [hsim, if_neg hbad]
    show (if t < c.marks.getD k 0 then _ else _) = _
    rw [hgd, if_pos hlate]
   have hfin := Hid.mk' (beat_no h hr 5 hx)
   clear h hr hsim hx hmk hgd hbad
   go_enter Tryz.func44, Tryz.ntmps44
   go_wp2
   go_ret
   exact hfin.out
  ·have hx : beatE (eOf c.abs) (k : Int) t = (0, eOf (beatR c.abs k t)) := by
    rw [hsim, if_neg hbad]
    show (if t < c.marks.getD k 0 then _ else _) = _
    rw [hgd, if_neg hlate]; rfl
   have hrok := beat_rok hr (src := k) (t := t) (by show c.marks.getD k 0 ≤ t; rw [hgd]; omega)
   have hreS := h.setMark hkl t
   have hmgm : c.mg ∈ c.blocks rb := List.mem_append_left _ (List.mem_cons_of_mem _ List.mem_cons_self)
   have hBT0 : Hid (BT w (w.setCell ⟨c.mg, k, none⟩ (.int .i64 t)) rb c { c with marks := c.marks.set k t } (c.marks.set k t) 0) := by
    refine ⟨hreS, ⟨(Fr.refl _ _).setCell (p := ⟨c.mg, k, none⟩) (Or.inl hmgm) _, fun b hb => Or.inl hb⟩, rfl, rfl, ?_, ⟨rfl, rfl, rfl⟩, Nat.zero_le _, by simp⟩
    simp
   have hmark := Hid.mk' (re_mark hreS (by have h1 : c.marks ≠ [] := hr.mne; simpa using h1) (by simpa using hm8))
   obtain ⟨M, hM⟩ : ∃ M, Go.Lull.markB (c.marks.set k t) = M := ⟨_, rfl⟩
   have hend : Hid (∀ W ck j, BT w W rb c ck (c.marks.set k t) j → (∀ e, (c.waits.drop j).head? = some e → ¬ e.2.1 < M) → BeatR w rb n c (k : Int) t (.returned (.int .i64 0)) W) := by
    intro W ck j hT hd
    have ha := hT.fin (by rw [hM]; exact hd)
    exact ⟨ck, by rw [hx]; rfl, by rw [hx, ha], hT.re, by rw [ha]; exact hrok, hT.ext⟩
   have hmark' : Hid (Calls Tryz.prog 74 #[.pointer (some ⟨rb, 0, none⟩)] (w.setCell ⟨c.mg, k, none⟩ (.int .i64 t)) fun e w' => e = .returned (.int .i64 M) ∧ w' = w.setCell ⟨c.mg, k, none⟩ (.int .i64 t)) := by rw [← hM]; exact hmark.out
   have HM := Hid.mk' hM
   have HWL : Hid (c.waits.length ≤ 1000000) := by have := hr.wl; unfold Hid; show c.abs.waits.length ≤ _; omega
   have HSL : Hid (∀ x ∈ c.cs, x.q.seen.length ≤ 1000000) := by
    intro x hx
    have := (hr.qs x.q (List.mem_map.2 ⟨x, hx, rfl⟩)).2
    omega
   have HQL : Hid (c.cs.length ≤ 10) := by have := hr.ql; simpa [RC.abs, Hid] using this
   clear hmark hsim hx hmk hgd hbad hrok hreS hmgm hM h hr
   obtain ⟨ws, hws⟩ : ∃ ws, w.setCell ⟨c.mg, k, none⟩ (.int .i64 t) = ws := ⟨_, rfl⟩
   rw [hws] at hBT0 hmark'
   go_enter Tryz.func44, Tryz.ntmps44
   go_wp2_with (go_at_call 74; with_reducible refine hmark'.out.mono ?_; rintro e w' ⟨rfl, hw⟩; replace hw := hw.symm; subst hw)
   go_loopw [8] (fun iv wr => ∃ (j : Nat) (ck : RC), Hid (BT w wr rb c ck (c.marks.set k t) j)) (fun _ wr => leftOf rb wr)
   case atStart => exact ⟨0, _, hBT0⟩
   case round =>
    clear hBT0
    obtain ⟨j, ck, hT⟩ := hrel
    obtain ⟨wa, wc, hwv, hwc⟩ := hT.out.re.waits.form
    have hck : ck.waits.length = c.waits.length - j := by rw [hT.out.waits]; simp
    have r1 : wr.cell? ⟨rb, 1, none⟩ = some (.slice wa ck.waits.length wc) := by rw [cell_of_row wr rb 1 _ _ _ hT.out.re.blk]; simp [rCells, hwv]
    have hwl : ck.waits.length ≤ 1000000 := by have := HWL.out; omega
    cases hws2 : ck.waits with
    | nil =>
     have hfin := Hid.mk' (hend.out wr ck j hT.out (fun e he => by rw [← hT.out.waits, hws2] at he; cases he))
     rw [hws2] at r1
     simp only [List.length_nil] at r1
     clear hT hck hws2 hwv hwl
     go_wp2
     go_ret
     exact hfin.out
    | cons e rest =>
     have hrow := hT.out.re.waits
     rw [hwv] at hrow
     obtain ⟨gw, ow, wc', hwa, _⟩ := row_some hrow (by rw [hws2]; simp)
     obtain ⟨rfl, _, rfl⟩ := Value.slice.inj hwa
     obtain ⟨y0, y1, y2, y3⟩ := ev_at hrow 0 (by rw [hws2]; simp)
     have hge : ck.waits[0]'(by rw [hws2]; simp) = e := by simp [hws2]
     rw [hge] at y0 y1 y2 y3
     simp only [Nat.zero_mul, Nat.add_zero] at y0 y1 y2 y3
     obtain ⟨nw, hnw⟩ : ∃ nw, ck.waits.length = nw + 1 := ⟨rest.length, by rw [hws2]; simp⟩
     rw [hnw] at r1
     have hpos : (0 : Int) < (nw : Int) + 1 := by omega
     have hnw6 : nw ≤ 1000000 := by omega
     clear hwa
     by_cases hte : e.2.1 < M
     ·have hT0 := hT
      have hstart : Hid (RE wr rb ck ∧ Ext w (c.blocks rb) wr (ck.blocks rb)) := ⟨hT.out.re, hT.out.ext⟩
      have hcl : ck.cs.length ≤ 10 := by
       have h1 := congrArg List.length hT.out.qs
       have h2 := HQL.out
       simp only [List.length_map] at h1
       omega
      obtain ⟨es, et, ek, ev⟩ := e
      simp only at y0 y1 y2 y3 hte
      have HWS := Hid.mk' hws2
      have HWV := Hid.mk' hwv
      have hleft0 : Hid (leftOf rb wr = nw + 1) := by unfold Hid leftOf; rw [r1]; rfl
      have hwcn : nw + 1 ≤ wc := by omega
      clear hws2 hwv hrow hge hwl
      go_wp2
      obtain ⟨wo, rfl⟩ : ∃ wo, wo = wr := ⟨wr, rfl⟩
      go_loopw [8] (fun iv wr => ∃ (i : Nat) (z : Int) (ci : RC), z = i ∧ iv = .int .i64 z ∧ i ≤ ck.cs.length ∧ Hid (IB wo wr rb ck ci i (es, et, ek, ev))) (fun iv _ => ck.cs.length - (intOf iv).toNat)
      case atStart => exact ⟨0, 0, ck, rfl, rfl, Nat.zero_le _, ⟨hT.out.re, Ext.refl _ _, rfl, rfl, rfl, rfl, ⟨rfl, rfl, rfl⟩, rfl, by simp⟩⟩
      case round =>
       obtain ⟨i, z, ci, rfl, rfl, hi, hC⟩ := hrel
       obtain ⟨hre, hex, hwve, hwe, hme, hmge, hrest, hcle, hqse⟩ := hC.out
       obtain ⟨qa, qcp, hqv, hqcp⟩ := hre.qrow.form
       have q2 : wr.cell? ⟨rb, 2, none⟩ = some (.slice qa ci.cs.length qcp) := by rw [cell_of_row wr rb 2 _ _ _ hre.blk]; simp [rCells, hqv]
       rw [hcle] at q2
       by_cases hlt : i < ck.cs.length
       ·have hlti : i < ci.cs.length := by omega
        obtain ⟨x, hx⟩ : ∃ x, ci.cs[i] = x := ⟨_, rfl⟩
        have hxm : x ∈ ci.cs := by rw [← hx]; exact List.getElem_mem hlti
        have hqr := hre.qrow
        obtain ⟨gq, oq, qcp', hqv2, _⟩ := row_some hqr (by omega)
        rw [hqv2] at hqr hqv
        obtain ⟨rfl, _, rfl⟩ := Value.slice.inj hqv
        have q3 : wr.cell? ⟨gq, oq + i, none⟩ = some (.pointer (some ⟨x.qb, 0, none⟩)) := by rw [hqr.cell i (by omega)]; simp [hlti, hx]
        have hqx : QR wr x := hre.qs x hxm
        have q4 : wr.cell? ⟨x.qb, 3, none⟩ = some (.slice x.sa x.q.seen.length x.lc) := by rw [cell_of_row wr x.qb 3 _ _ _ hqx.blk]; rfl
        have f4 : wr.frozen? ⟨x.qb, 3, none⟩ = false := frozen_of_row wr x.qb 3 _ _ hqx.blk
        have hxq : x.q = (ck.cs[i]).q := by rw [← hx]; exact hC.out.get hlt hlti
        have hsl : x.q.seen.length ≤ 2000000 := by
         have hic : i < c.cs.length := by
          have h1 := congrArg List.length hT0.out.qs
          simp only [List.length_map] at h1
          omega
         have h1 := congrArg (fun l => l[i]?) hT0.out.qs
         simp only [List.getElem?_map, List.getElem?_eq_getElem hic, List.getElem?_eq_getElem hlt, Option.map_some] at h1
         have h2 := Option.some.inj h1
         rw [hxq, h2]
         have h3 := HSL.out _ (List.getElem_mem hic)
         have h4 := HWL.out
         have h5 : (c.waits.take j).length ≤ c.waits.length := by simp; omega
         simp only [List.length_append]
         omega
        have hrw : Row wr 75 4 (.slice (some ⟨gw, ow, none⟩) ck.waits.length wc) ck.waits.length (ck.waits.flatMap evC) := by
         have h1 := hre.waits
         rw [hwve, hwe, HWV.out] at h1
         exact h1
        have q1 : wr.cell? ⟨rb, 1, none⟩ = some (.slice (some ⟨gw, ow, none⟩) (nw + 1) wc) := by
         rw [cell_of_row wr rb 1 _ _ _ hre.blk]
         simp [rCells, hwve, HWV.out, hnw]
        obtain ⟨v0, v1, v2, v3⟩ := ev_at hrw 0 (by omega)
        have hge2 : ck.waits[0]'(by omega) = (es, et, ek, ev) := by simp [HWS.out]
        rw [hge2] at v0 v1 v2 v3
        simp only [Nat.zero_mul, Nat.add_zero] at v0 v1 v2 v3
        have hown := Hid.mk' hqx.seen
        have hdraw : Hid (∀ (w1 : World) (o : Obj), ((wr.alloc o).drew).grownBy w1 (Value.slice x.sa x.q.seen.length x.lc).ownBlock → (w1.cell? ⟨rb, 1, none⟩ = some (.slice (some ⟨gw, ow, none⟩) (nw + 1) wc) ∧ w1.cell? ⟨rb, 2, none⟩ = some (.slice (some ⟨gq, oq, none⟩) ck.cs.length qcp') ∧ w1.cell? ⟨gq, oq + i, none⟩ = some (.pointer (some ⟨x.qb, 0, none⟩)) ∧ w1.cell? ⟨gw, ow, none⟩ = some (.int .i64 es) ∧ w1.cell? ⟨gw, ow + 1, none⟩ = some (.int .i64 et) ∧ w1.cell? ⟨gw, ow + 2, none⟩ = some (.int .u8 ek.toNat) ∧ w1.cell? ⟨gw, ow + 3, none⟩ = some (.int .i64 ev)) ∧ (∀ v, ((w1.setCell ⟨x.qb, 3, none⟩ v).cell? ⟨rb, 1, none⟩ = some (.slice (some ⟨gw, ow, none⟩) (nw + 1) wc) ∧ (w1.setCell ⟨x.qb, 3, none⟩ v).cell? ⟨rb, 2, none⟩ = some (.slice (some ⟨gq, oq, none⟩) ck.cs.length qcp') ∧ (w1.setCell ⟨x.qb, 3, none⟩ v).cell? ⟨gq, oq + i, none⟩ = some (.pointer (some ⟨x.qb, 0, none⟩)) ∧ (w1.setCell ⟨x.qb, 3, none⟩ v).cell? ⟨gw, ow, none⟩ = some (.int .i64 es) ∧ (w1.setCell ⟨x.qb, 3, none⟩ v).cell? ⟨gw, ow + 1, none⟩ = some (.int .i64 et) ∧ (w1.setCell ⟨x.qb, 3, none⟩ v).cell? ⟨gw, ow + 2, none⟩ = some (.int .u8 ek.toNat) ∧ (w1.setCell ⟨x.qb, 3, none⟩ v).cell? ⟨gw, ow + 3, none⟩ = some (.int .i64 ev))) ∧ w1.cell? ⟨x.qb, 3, none⟩ = some (.slice x.sa x.q.seen.length x.lc) ∧ w1.frozen? ⟨x.qb, 3, none⟩ = false) := by
         intro w1 o hg
         have kp := fun p v hp hc => hre.kept hxm hg (p := p) (v := v) hp hc
         have eq_ : ci.qv.ownBlock = some gq := by rw [hqv2]; rfl
         have ew_ : ci.wv.ownBlock = some gw := by rw [hwve, HWV.out]; rfl
         obtain ⟨a1, b1⟩ := kp ⟨rb, 1, none⟩ _ (Or.inl rfl) q1
         obtain ⟨a2, b2⟩ := kp ⟨rb, 2, none⟩ _ (Or.inl rfl) q2
         obtain ⟨a3, b3⟩ := kp ⟨gq, oq + i, none⟩ _ (Or.inr (Or.inl eq_)) q3
         obtain ⟨a4, b4⟩ := kp ⟨gw, ow, none⟩ _ (Or.inr (Or.inr ew_)) v0
         obtain ⟨a5, b5⟩ := kp ⟨gw, ow + 1, none⟩ _ (Or.inr (Or.inr ew_)) v1
         obtain ⟨a6, b6⟩ := kp ⟨gw, ow + 2, none⟩ _ (Or.inr (Or.inr ew_)) v2
         obtain ⟨a7, b7⟩ := kp ⟨gw, ow + 3, none⟩ _ (Or.inr (Or.inr ew_)) v3
         have hk2 := (hre.keeps hxm hg).2
         exact ⟨⟨a1, a2, a3, a4, a5, a6, a7⟩, fun v => ⟨b1 v, b2 v, b3 v, b4 v, b5 v, b6 v, b7 v⟩, by rw [World.cell?_of_block (w := wr) hk2]; exact q4, by rw [World.frozen?_of_block (w := wr) hk2]; exact f4⟩
        have hdone : Hid (∀ (w1 : World) (o : Obj) (g cap : Nat), ((wr.alloc o).drew).grownBy w1 (Value.slice x.sa x.q.seen.length x.lc).ownBlock → w1.ownsRow 0 75 4 (.slice (some ⟨g, 0, none⟩) (x.q.seen.length + 1) cap) (x.q.seen.length + 1) (x.q.seen.flatMap evC ++ evC (es, et, ek, ev)) → ((Value.slice x.sa x.q.seen.length x.lc).ownBlock = some g ∨ g = wr.heap.size + 1) → ∃ ci', IB wo (w1.setCell ⟨x.qb, 3, none⟩ (.slice (some ⟨g, 0, none⟩) (x.q.seen.length + 1) cap)) rb ck ci' (i + 1) (es, et, ek, ev)) := fun w1 o g cap h1 h2 h3 => ⟨_, hC.out.step hlt hlti hx h1 h2 h3⟩
        have q2a := alloc_keep (.cells #[.int .i64 es, .int .i64 et, .int .u8 ek.toNat, .int .i64 ev] 75) q2
        have q3a := alloc_keep (.cells #[.int .i64 es, .int .i64 et, .int .u8 ek.toNat, .int .i64 ev] 75) q3
        have q4a := alloc_keep (.cells #[.int .i64 es, .int .i64 et, .int .u8 ek.toNat, .int .i64 ev] 75) q4
        have hc10 : ck.cs.length ≤ 10 := hcl
        have hqcp2 : ck.cs.length ≤ qcp' := by omega
        have hwr : rb < wr.heap.size := lt_of_block hre.blk
        have hxqb : x.qb < wr.heap.size := lt_of_block hqx.blk
        clear hC hre hex hwve hwe hme hmge hrest hcle hqse hqr hqx hx hxm hxq hrw hge2 r1 y0 y1 y2 y3 hlti
        obtain ⟨i0, hi0, hz0, hz1, hz2⟩ := info_parts Tryz.infoEv
        go_wp2
        refine wp_region_held_drew (S := (fun w' => w'.cell? ⟨rb, 1, none⟩ = some (.slice (some ⟨gw, ow, none⟩) (nw + 1) wc) ∧ w'.cell? ⟨rb, 2, none⟩ = some (.slice (some ⟨gq, oq, none⟩) ck.cs.length qcp') ∧ w'.cell? ⟨gq, oq + i, none⟩ = some (.pointer (some ⟨x.qb, 0, none⟩)) ∧ w'.cell? ⟨gw, ow, none⟩ = some (.int .i64 es) ∧ w'.cell? ⟨gw, ow + 1, none⟩ = some (.int .i64 et) ∧ w'.cell? ⟨gw, ow + 2, none⟩ = some (.int .u8 ek.toNat) ∧ w'.cell? ⟨gw, ow + 3, none⟩ = some (.int .i64 ev))) (by kernel_rfl) (by (refine ⟨?_, ?_, ?_, ?_, ?_, ?_, ?_⟩ <;> (repeat (first | assumption | apply drew_keep | apply alloc_keep)))) (fun hHeld => ?_)
        refine wpAnyH_take (i := 0) (oi := { dst := some 72, op := Op.move (Operand.tmp 0), type := 65, pos := "ref.go:387", after := #[], guard := none }) (v := ?_) rfl (by kernel_rfl) (by kernel_rfl) (by kernel_rfl) (fun _ _ _ h => h) (Or.inl ⟨by rfl, ?_⟩) (by assumption) ?_
        rotate_left 1
        ·(intro wz hSw; (try dsimp only at hSw); go_simp; first | done | with_reducible rfl)
        try simp only [Act.put, List.setIfInBounds_toArray, List.set_cons_zero, List.set_cons_succ]
        refine wpAnyH_take (i := 1) (oi := { dst := some 73, op := Op.nilCheck (Operand.tmp 72), type := 0, pos := "ref.go:387", after := #[{ on := 0, ground := Ground.data }], guard := none }) (v := ?_) rfl (by kernel_rfl) (by kernel_rfl) (by kernel_rfl) (fun _ _ _ h => h) (Or.inl ⟨by rfl, ?_⟩) (by assumption) ?_
        rotate_left 1
        ·(intro wz hSw; (try dsimp only at hSw); go_simp; first | done | with_reducible rfl)
        try simp only [Act.put, List.setIfInBounds_toArray, List.set_cons_zero, List.set_cons_succ]
        refine wpAnyH_take (i := 2) (oi := { dst := some 74, op := Op.fieldAddr 107 (Operand.tmp 73) 2, type := 0, pos := "ref.go:387", after := #[{ on := 1, ground := Ground.data }], guard := none }) (v := ?_) rfl (by kernel_rfl) (by kernel_rfl) (by kernel_rfl) (fun _ _ _ h => h) (Or.inl ⟨by rfl, ?_⟩) (by assumption) ?_
        rotate_left 1
        ·(intro wz hSw; (try dsimp only at hSw); go_simp; first | done | with_reducible rfl)
        try simp only [Act.put, List.setIfInBounds_toArray, List.set_cons_zero, List.set_cons_succ]
        refine wpAnyH_take (i := 3) (oi := { dst := some 75, op := Op.load 105 (Operand.tmp 74), type := 105, pos := "ref.go:387", after := #[{ on := 2, ground := Ground.data }], guard := none }) (v := ?_) rfl (by kernel_rfl) (by kernel_rfl) (by kernel_rfl) (fun _ _ _ h => h) (Or.inl ⟨by rfl, ?_⟩) (by assumption) ?_
        rotate_left 1
        ·(intro wz hSw; (try dsimp only at hSw); go_simp; first | done | with_reducible rfl)
        try simp only [Act.put, List.setIfInBounds_toArray, List.set_cons_zero, List.set_cons_succ]
        refine wpAnyH_take (i := 4) (oi := { dst := some 76, op := Op.move (Operand.tmp 8), type := 3, pos := "ref.go:387", after := #[], guard := none }) (v := ?_) rfl (by kernel_rfl) (by kernel_rfl) (by kernel_rfl) (fun _ _ _ h => h) (Or.inl ⟨by rfl, ?_⟩) (by assumption) ?_
        rotate_left 1
        ·(intro wz hSw; (try dsimp only at hSw); go_simp; first | done | with_reducible rfl)
        try simp only [Act.put, List.setIfInBounds_toArray, List.set_cons_zero, List.set_cons_succ]
        refine wpAnyH_take (i := 5) (oi := { dst := some 77, op := Op.indexAddr 105 (Operand.tmp 75) (Operand.tmp 76), type := 0, pos := "ref.go:387", after := #[{ on := 3, ground := Ground.data }, { on := 4, ground := Ground.data }], guard := none }) (v := ?_) rfl (by kernel_rfl) (by kernel_rfl) (by kernel_rfl) (fun _ _ _ h => h) (Or.inl ⟨by rfl, ?_⟩) (by assumption) ?_
        rotate_left 1
        ·(intro wz hSw; (try dsimp only at hSw); go_simp; first | done | with_reducible rfl)
        try simp only [Act.put, List.setIfInBounds_toArray, List.set_cons_zero, List.set_cons_succ]
        refine wpAnyH_take (i := 6) (oi := { dst := some 78, op := Op.load 141 (Operand.tmp 77), type := 141, pos := "ref.go:387", after := #[{ on := 5, ground := Ground.data }], guard := none }) (v := ?_) rfl (by kernel_rfl) (by kernel_rfl) (by kernel_rfl) (fun _ _ _ h => h) (Or.inl ⟨by rfl, ?_⟩) (by assumption) ?_
        rotate_left 1
        ·(intro wz hSw; (try dsimp only at hSw); go_simp; first | done | with_reducible rfl)
        try simp only [Act.put, List.setIfInBounds_toArray, List.set_cons_zero, List.set_cons_succ]
        refine wpAnyH_take (i := 7) (oi := { dst := some 79, op := Op.move (Operand.tmp 0), type := 65, pos := "ref.go:387", after := #[], guard := none }) (v := ?_) rfl (by kernel_rfl) (by kernel_rfl) (by kernel_rfl) (fun _ _ _ h => h) (Or.inl ⟨by rfl, ?_⟩) (by assumption) ?_
        rotate_left 1
        ·(intro wz hSw; (try dsimp only at hSw); go_simp; first | done | with_reducible rfl)
        try simp only [Act.put, List.setIfInBounds_toArray, List.set_cons_zero, List.set_cons_succ]
        refine wpAnyH_take (i := 8) (oi := { dst := some 80, op := Op.nilCheck (Operand.tmp 79), type := 0, pos := "ref.go:387", after := #[{ on := 7, ground := Ground.data }], guard := none }) (v := ?_) rfl (by kernel_rfl) (by kernel_rfl) (by kernel_rfl) (fun _ _ _ h => h) (Or.inl ⟨by rfl, ?_⟩) (by assumption) ?_
        rotate_left 1
        ·(intro wz hSw; (try dsimp only at hSw); go_simp; first | done | with_reducible rfl)
        try simp only [Act.put, List.setIfInBounds_toArray, List.set_cons_zero, List.set_cons_succ]
        refine wpAnyH_take (i := 9) (oi := { dst := some 81, op := Op.fieldAddr 107 (Operand.tmp 80) 2, type := 0, pos := "ref.go:387", after := #[{ on := 8, ground := Ground.data }], guard := none }) (v := ?_) rfl (by kernel_rfl) (by kernel_rfl) (by kernel_rfl) (fun _ _ _ h => h) (Or.inl ⟨by rfl, ?_⟩) (by assumption) ?_
        rotate_left 1
        ·(intro wz hSw; (try dsimp only at hSw); go_simp; first | done | with_reducible rfl)
        try simp only [Act.put, List.setIfInBounds_toArray, List.set_cons_zero, List.set_cons_succ]
        refine wpAnyH_take (i := 10) (oi := { dst := some 82, op := Op.load 105 (Operand.tmp 81), type := 105, pos := "ref.go:387", after := #[{ on := 9, ground := Ground.data }], guard := none }) (v := ?_) rfl (by kernel_rfl) (by kernel_rfl) (by kernel_rfl) (fun _ _ _ h => h) (Or.inl ⟨by rfl, ?_⟩) (by assumption) ?_
        rotate_left 1
        ·(intro wz hSw; (try dsimp only at hSw); go_simp; first | done | with_reducible rfl)
        try simp only [Act.put, List.setIfInBounds_toArray, List.set_cons_zero, List.set_cons_succ]
        refine wpAnyH_take (i := 11) (oi := { dst := some 83, op := Op.move (Operand.tmp 8), type := 3, pos := "ref.go:387", after := #[], guard := none }) (v := ?_) rfl (by kernel_rfl) (by kernel_rfl) (by kernel_rfl) (fun _ _ _ h => h) (Or.inl ⟨by rfl, ?_⟩) (by assumption) ?_
        rotate_left 1
        ·(intro wz hSw; (try dsimp only at hSw); go_simp; first | done | with_reducible rfl)
        try simp only [Act.put, List.setIfInBounds_toArray, List.set_cons_zero, List.set_cons_succ]
        refine wpAnyH_take (i := 12) (oi := { dst := some 84, op := Op.indexAddr 105 (Operand.tmp 82) (Operand.tmp 83), type := 0, pos := "ref.go:387", after := #[{ on := 10, ground := Ground.data }, { on := 11, ground := Ground.data }], guard := none }) (v := ?_) rfl (by kernel_rfl) (by kernel_rfl) (by kernel_rfl) (fun _ _ _ h => h) (Or.inl ⟨by rfl, ?_⟩) (by assumption) ?_
        rotate_left 1
        ·(intro wz hSw; (try dsimp only at hSw); go_simp; first | done | with_reducible rfl)
        try simp only [Act.put, List.setIfInBounds_toArray, List.set_cons_zero, List.set_cons_succ]
        refine wpAnyH_take (i := 13) (oi := { dst := some 85, op := Op.load 141 (Operand.tmp 84), type := 141, pos := "ref.go:387", after := #[{ on := 12, ground := Ground.data }], guard := none }) (v := ?_) rfl (by kernel_rfl) (by kernel_rfl) (by kernel_rfl) (fun _ _ _ h => h) (Or.inl ⟨by rfl, ?_⟩) (by assumption) ?_
        rotate_left 1
        ·(intro wz hSw; (try dsimp only at hSw); go_simp; first | done | with_reducible rfl)
        try simp only [Act.put, List.setIfInBounds_toArray, List.set_cons_zero, List.set_cons_succ]
        refine wpAnyH_take (i := 14) (oi := { dst := some 86, op := Op.nilCheck (Operand.tmp 85), type := 0, pos := "ref.go:387", after := #[{ on := 13, ground := Ground.data }], guard := none }) (v := ?_) rfl (by kernel_rfl) (by kernel_rfl) (by kernel_rfl) (fun _ _ _ h => h) (Or.inl ⟨by rfl, ?_⟩) (by assumption) ?_
        rotate_left 1
        ·(intro wz hSw; (try dsimp only at hSw); go_simp; first | done | with_reducible rfl)
        try simp only [Act.put, List.setIfInBounds_toArray, List.set_cons_zero, List.set_cons_succ]
        refine wpAnyH_take (i := 15) (oi := { dst := some 87, op := Op.fieldAddr 140 (Operand.tmp 86) 2, type := 0, pos := "ref.go:387", after := #[{ on := 14, ground := Ground.data }], guard := none }) (v := ?_) rfl (by kernel_rfl) (by kernel_rfl) (by kernel_rfl) (fun _ _ _ h => h) (Or.inl ⟨by rfl, ?_⟩) (by assumption) ?_
        rotate_left 1
        ·(intro wz hSw; (try dsimp only at hSw); go_simp; first | done | with_reducible rfl)
        try simp only [Act.put, List.setIfInBounds_toArray, List.set_cons_zero, List.set_cons_succ]
        refine wpAnyH_take (i := 17) (oi := { dst := some 89, op := Op.move (Operand.tmp 0), type := 65, pos := "ref.go:387", after := #[], guard := none }) (v := ?_) rfl (by kernel_rfl) (by kernel_rfl) (by kernel_rfl) (fun _ _ _ h => h) (Or.inl ⟨by rfl, ?_⟩) (by assumption) ?_
        rotate_left 1
        ·(intro wz hSw; (try dsimp only at hSw); go_simp; first | done | with_reducible rfl)
        try simp only [Act.put, List.setIfInBounds_toArray, List.set_cons_zero, List.set_cons_succ]
        refine wpAnyH_take (i := 18) (oi := { dst := some 90, op := Op.nilCheck (Operand.tmp 89), type := 0, pos := "ref.go:387", after := #[{ on := 17, ground := Ground.data }], guard := none }) (v := ?_) rfl (by kernel_rfl) (by kernel_rfl) (by kernel_rfl) (fun _ _ _ h => h) (Or.inl ⟨by rfl, ?_⟩) (by assumption) ?_
        rotate_left 1
        ·(intro wz hSw; (try dsimp only at hSw); go_simp; first | done | with_reducible rfl)
        try simp only [Act.put, List.setIfInBounds_toArray, List.set_cons_zero, List.set_cons_succ]
        refine wpAnyH_take (i := 19) (oi := { dst := some 91, op := Op.fieldAddr 107 (Operand.tmp 90) 1, type := 0, pos := "ref.go:387", after := #[{ on := 18, ground := Ground.data }], guard := none }) (v := ?_) rfl (by kernel_rfl) (by kernel_rfl) (by kernel_rfl) (fun _ _ _ h => h) (Or.inl ⟨by rfl, ?_⟩) (by assumption) ?_
        rotate_left 1
        ·(intro wz hSw; (try dsimp only at hSw); go_simp; first | done | with_reducible rfl)
        try simp only [Act.put, List.setIfInBounds_toArray, List.set_cons_zero, List.set_cons_succ]
        refine wpAnyH_take (i := 20) (oi := { dst := some 92, op := Op.load 39 (Operand.tmp 91), type := 39, pos := "ref.go:387", after := #[{ on := 19, ground := Ground.data }], guard := none }) (v := ?_) rfl (by kernel_rfl) (by kernel_rfl) (by kernel_rfl) (fun _ _ _ h => h) (Or.inl ⟨by rfl, ?_⟩) (by assumption) ?_
        rotate_left 1
        ·(intro wz hSw; (try dsimp only at hSw); go_simp; first | done | with_reducible rfl)
        try simp only [Act.put, List.setIfInBounds_toArray, List.set_cons_zero, List.set_cons_succ]
        refine wpAnyH_take (i := 21) (oi := { dst := some 93, op := Op.indexAddr 39 (Operand.tmp 92) (Operand.const (Value.int IntKind.i64 0)), type := 0, pos := "ref.go:387", after := #[{ on := 20, ground := Ground.data }], guard := none }) (v := ?_) rfl (by kernel_rfl) (by kernel_rfl) (by kernel_rfl) (fun _ _ _ h => h) (Or.inl ⟨by rfl, ?_⟩) (by assumption) ?_
        rotate_left 1
        ·(intro wz hSw; (try dsimp only at hSw); go_simp; first | done | with_reducible rfl)
        try simp only [Act.put, List.setIfInBounds_toArray, List.set_cons_zero, List.set_cons_succ]
        refine wpAnyH_take (i := 22) (oi := { dst := some 94, op := Op.load 75 (Operand.tmp 93), type := 75, pos := "ref.go:387", after := #[{ on := 21, ground := Ground.data }], guard := none }) (v := ?_) rfl (by kernel_rfl) (by kernel_rfl) (by kernel_rfl) (fun _ _ _ h => h) (Or.inl ⟨by rfl, ?_⟩) (by assumption) ?_
        rotate_left 1
        ·(intro wz hSw; (try dsimp only at hSw); go_simp; first | done | with_reducible rfl)
        try simp only [Act.put, List.setIfInBounds_toArray, List.set_cons_zero, List.set_cons_succ]
        refine wpAnyH_ready (rs := [16, 23]) (by kernel_rfl) (by simp) ?_
        refine AllReadyH.cons (o := { dst := some 88, op := Op.load 39 (Operand.tmp 87), type := 39, pos := "ref.go:387", after := #[{ on := 15, ground := Ground.data }], guard := none }) rfl (fun K hK => ?_) (AllReadyH.cons (o := { dst := some 95, op := Op.buildSlice 39 1 #[(0, Operand.tmp 94)], type := 39, pos := "ref.go:387", after := #[{ on := 22, ground := Ground.data }], guard := none }) rfl (fun K hK => ?_) AllReadyH.nil)
        ·go_simp
         refine hK.out _ _ (by (refine ⟨?_, ?_, ?_, ?_, ?_, ?_, ?_⟩ <;> (repeat (first | assumption | apply drew_keep | apply alloc_keep)))) (fun hHeld2 => ?_)
         clear hK K
         try clear hHeld
         try simp only [Act.put, List.setIfInBounds_toArray, List.set_cons_zero, List.set_cons_succ]
         have hHeld := hHeld2
         clear hHeld2
         refine wpAnyH_ready (rs := [23]) (by kernel_rfl) (by simp) ?_
         refine AllReadyH.cons (o := { dst := some 95, op := Op.buildSlice 39 1 #[(0, Operand.tmp 94)], type := 39, pos := "ref.go:387", after := #[{ on := 22, ground := Ground.data }], guard := none }) rfl (fun K hK => ?_) AllReadyH.nil
         go_simp
         refine hK.out _ _ (by (refine ⟨?_, ?_, ?_, ?_, ?_, ?_, ?_⟩ <;> (repeat (first | assumption | apply drew_keep | apply alloc_keep)))) (fun hHeld2 => ?_)
         clear hK K
         try clear hHeld
         try simp only [Act.put, List.setIfInBounds_toArray, List.set_cons_zero, List.set_cons_succ]
         have hHeld := hHeld2
         clear hHeld2
         refine wpAnyH_ready (rs := [24]) (by kernel_rfl) (by simp) ?_
         refine AllReadyH.cons (o := { dst := some 96, op := Op.call { callee := Callee.builtin Builtin.append, args := #[Operand.tmp 88, Operand.tmp 95], argTypes := #[39, 39] }, type := 39, pos := "ref.go:387", after := #[{ on := 16, ground := Ground.data }, { on := 23, ground := Ground.data }], guard := none }) rfl (fun K hK => ?_) AllReadyH.nil
         refine step_append_lies _ (by rfl) _ _ _ (by rfl) 0 75 i0 _ 4 32 Tryz.underlying39 hi0 hz0 hz1 hz2 rfl (by omega) (.slice x.sa x.q.seen.length x.lc) x.q.seen.length (x.q.seen.flatMap evC) (by rfl) ((hown.out.alloc _).drew) ⟨wr.heap.size, 0, none⟩ 1 1 [.int .i64 es, .int .i64 et, .int .u8 ek.toNat, .int .i64 ev] (by rfl) (by rfl) (evC_at' _ es et ev ek _ _ (by simp)) (by simp [Value.oneCell']) (by omega) (by unfold maxLen; omega) (by omega) (by simp) (wr.heap.size + 1) (by simp) ?_
         intro g2 cap2 w1 hown2 hgrow hat hlt2
         obtain ⟨zA, zS, z4, zf⟩ := hdraw.out w1 _ hgrow
         refine hK.out _ _ zA (fun hHeld2 => ?_)
         clear hK K
         try clear hHeld
         try simp only [Act.put, List.setIfInBounds_toArray, List.set_cons_zero, List.set_cons_succ]
         have hHeld := hHeld2
         clear hHeld2
         refine wpAnyH_take (i := 25) (oi := { dst := some 97, op := Op.nilCheck (Operand.tmp 78), type := 0, pos := "ref.go:387", after := #[{ on := 6, ground := Ground.data }, { on := 0, ground := Ground.phase }, { on := 1, ground := Ground.phase }, { on := 2, ground := Ground.phase }, { on := 3, ground := Ground.phase }, { on := 4, ground := Ground.phase }, { on := 5, ground := Ground.phase }, { on := 6, ground := Ground.phase }, { on := 7, ground := Ground.phase }, { on := 8, ground := Ground.phase }, { on := 9, ground := Ground.phase }, { on := 10, ground := Ground.phase }, { on := 11, ground := Ground.phase }, { on := 12, ground := Ground.phase }, { on := 13, ground := Ground.phase }, { on := 14, ground := Ground.phase }, { on := 15, ground := Ground.phase }, { on := 16, ground := Ground.phase }, { on := 17, ground := Ground.phase }, { on := 18, ground := Ground.phase }, { on := 19, ground := Ground.phase }, { on := 20, ground := Ground.phase }, { on := 21, ground := Ground.phase }, { on := 22, ground := Ground.phase }, { on := 23, ground := Ground.phase }, { on := 24, ground := Ground.phase }], guard := none }) (v := ?_) rfl (by kernel_rfl) (by kernel_rfl) (by kernel_rfl) (fun _ _ _ h => h) (Or.inl ⟨by rfl, ?_⟩) (by assumption) ?_
         rotate_left 1
         ·(intro wz hSw; (try dsimp only at hSw); go_simp; first | done | with_reducible rfl)
         try simp only [Act.put, List.setIfInBounds_toArray, List.set_cons_zero, List.set_cons_succ]
         refine wpAnyH_take (i := 26) (oi := { dst := some 98, op := Op.fieldAddr 140 (Operand.tmp 97) 2, type := 0, pos := "ref.go:387", after := #[{ on := 25, ground := Ground.data }, { on := 0, ground := Ground.phase }, { on := 1, ground := Ground.phase }, { on := 2, ground := Ground.phase }, { on := 3, ground := Ground.phase }, { on := 4, ground := Ground.phase }, { on := 5, ground := Ground.phase }, { on := 6, ground := Ground.phase }, { on := 7, ground := Ground.phase }, { on := 8, ground := Ground.phase }, { on := 9, ground := Ground.phase }, { on := 10, ground := Ground.phase }, { on := 11, ground := Ground.phase }, { on := 12, ground := Ground.phase }, { on := 13, ground := Ground.phase }, { on := 14, ground := Ground.phase }, { on := 15, ground := Ground.phase }, { on := 16, ground := Ground.phase }, { on := 17, ground := Ground.phase }, { on := 18, ground := Ground.phase }, { on := 19, ground := Ground.phase }, { on := 20, ground := Ground.phase }, { on := 21, ground := Ground.phase }, { on := 22, ground := Ground.phase }, { on := 23, ground := Ground.phase }, { on := 24, ground := Ground.phase }], guard := none }) (v := ?_) rfl (by kernel_rfl) (by kernel_rfl) (by kernel_rfl) (fun _ _ _ h => h) (Or.inl ⟨by rfl, ?_⟩) (by assumption) ?_
         rotate_left 1
         ·(intro wz hSw; (try dsimp only at hSw); go_simp; first | done | with_reducible rfl)
         try simp only [Act.put, List.setIfInBounds_toArray, List.set_cons_zero, List.set_cons_succ]
         refine wpAnyH_ready (rs := [27]) (by kernel_rfl) (by simp) ?_
         refine AllReadyH.cons (o := { dst := none, op := Op.store 39 (Operand.tmp 98) (Operand.tmp 96), type := 0, pos := "ref.go:387", after := #[{ on := 26, ground := Ground.data }, { on := 24, ground := Ground.data }, { on := 24, ground := Ground.chain }, { on := 0, ground := Ground.phase }, { on := 1, ground := Ground.phase }, { on := 2, ground := Ground.phase }, { on := 3, ground := Ground.phase }, { on := 4, ground := Ground.phase }, { on := 5, ground := Ground.phase }, { on := 6, ground := Ground.phase }, { on := 7, ground := Ground.phase }, { on := 8, ground := Ground.phase }, { on := 9, ground := Ground.phase }, { on := 10, ground := Ground.phase }, { on := 11, ground := Ground.phase }, { on := 12, ground := Ground.phase }, { on := 13, ground := Ground.phase }, { on := 14, ground := Ground.phase }, { on := 15, ground := Ground.phase }, { on := 16, ground := Ground.phase }, { on := 17, ground := Ground.phase }, { on := 18, ground := Ground.phase }, { on := 19, ground := Ground.phase }, { on := 20, ground := Ground.phase }, { on := 21, ground := Ground.phase }, { on := 22, ground := Ground.phase }, { on := 23, ground := Ground.phase }, { on := 24, ground := Ground.phase }], guard := none }) rfl (fun K hK => ?_) AllReadyH.nil
         go_simp
         refine hK.out _ _ (zS _) (fun hHeld2 => ?_)
         clear hK K
         try clear hHeld
         try simp only [Act.put, List.setIfInBounds_toArray, List.set_cons_zero, List.set_cons_succ]
         have hHeld := hHeld2
         clear hHeld2
         refine wpAnyH_done (by kernel_rfl) ?_ _
         obtain ⟨ci', hC'⟩ := hdone.out w1 _ g2 cap2 hgrow hown2 hat
         have HC' := Hid.mk' hC'
         clear hC' hgrow hown2 hat zA zS z4 zf hi0 hz0 hz1 hz2 hdone hdraw q1 q2 q3 q4 q2a q3a q4a v0 v1 v2 v3 f4
         go_wp2
         go_roundw
         case rel => exact ⟨i + 1, (i : Int) + 1, ci', by omega, rfl, by omega, HC'⟩
         case measure => simp [intOf]; omega
        ·go_simp
         refine hK.out _ _ (by (refine ⟨?_, ?_, ?_, ?_, ?_, ?_, ?_⟩ <;> (repeat (first | assumption | apply drew_keep | apply alloc_keep)))) (fun hHeld2 => ?_)
         clear hK K
         try clear hHeld
         try simp only [Act.put, List.setIfInBounds_toArray, List.set_cons_zero, List.set_cons_succ]
         have hHeld := hHeld2
         clear hHeld2
         refine wpAnyH_ready (rs := [16]) (by kernel_rfl) (by simp) ?_
         refine AllReadyH.cons (o := { dst := some 88, op := Op.load 39 (Operand.tmp 87), type := 39, pos := "ref.go:387", after := #[{ on := 15, ground := Ground.data }], guard := none }) rfl (fun K hK => ?_) AllReadyH.nil
         go_simp
         refine hK.out _ _ (by (refine ⟨?_, ?_, ?_, ?_, ?_, ?_, ?_⟩ <;> (repeat (first | assumption | apply drew_keep | apply alloc_keep)))) (fun hHeld2 => ?_)
         clear hK K
         try clear hHeld
         try simp only [Act.put, List.setIfInBounds_toArray, List.set_cons_zero, List.set_cons_succ]
         have hHeld := hHeld2
         clear hHeld2
         refine wpAnyH_ready (rs := [24]) (by kernel_rfl) (by simp) ?_
         refine AllReadyH.cons (o := { dst := some 96, op := Op.call { callee := Callee.builtin Builtin.append, args := #[Operand.tmp 88, Operand.tmp 95], argTypes := #[39, 39] }, type := 39, pos := "ref.go:387", after := #[{ on := 16, ground := Ground.data }, { on := 23, ground := Ground.data }], guard := none }) rfl (fun K hK => ?_) AllReadyH.nil
         refine step_append_lies _ (by rfl) _ _ _ (by rfl) 0 75 i0 _ 4 32 Tryz.underlying39 hi0 hz0 hz1 hz2 rfl (by omega) (.slice x.sa x.q.seen.length x.lc) x.q.seen.length (x.q.seen.flatMap evC) (by rfl) ((hown.out.alloc _).drew) ⟨wr.heap.size, 0, none⟩ 1 1 [.int .i64 es, .int .i64 et, .int .u8 ek.toNat, .int .i64 ev] (by rfl) (by rfl) (evC_at' _ es et ev ek _ _ (by simp)) (by simp [Value.oneCell']) (by omega) (by unfold maxLen; omega) (by omega) (by simp) (wr.heap.size + 1) (by simp) ?_
         intro g2 cap2 w1 hown2 hgrow hat hlt2
         obtain ⟨zA, zS, z4, zf⟩ := hdraw.out w1 _ hgrow
         refine hK.out _ _ zA (fun hHeld2 => ?_)
         clear hK K
         try clear hHeld
         try simp only [Act.put, List.setIfInBounds_toArray, List.set_cons_zero, List.set_cons_succ]
         have hHeld := hHeld2
         clear hHeld2
         refine wpAnyH_take (i := 25) (oi := { dst := some 97, op := Op.nilCheck (Operand.tmp 78), type := 0, pos := "ref.go:387", after := #[{ on := 6, ground := Ground.data }, { on := 0, ground := Ground.phase }, { on := 1, ground := Ground.phase }, { on := 2, ground := Ground.phase }, { on := 3, ground := Ground.phase }, { on := 4, ground := Ground.phase }, { on := 5, ground := Ground.phase }, { on := 6, ground := Ground.phase }, { on := 7, ground := Ground.phase }, { on := 8, ground := Ground.phase }, { on := 9, ground := Ground.phase }, { on := 10, ground := Ground.phase }, { on := 11, ground := Ground.phase }, { on := 12, ground := Ground.phase }, { on := 13, ground := Ground.phase }, { on := 14, ground := Ground.phase }, { on := 15, ground := Ground.phase }, { on := 16, ground := Ground.phase }, { on := 17, ground := Ground.phase }, { on := 18, ground := Ground.phase }, { on := 19, ground := Ground.phase }, { on := 20, ground := Ground.phase }, { on := 21, ground := Ground.phase }, { on := 22, ground := Ground.phase }, { on := 23, ground := Ground.phase }, { on := 24, ground := Ground.phase }], guard := none }) (v := ?_) rfl (by kernel_rfl) (by kernel_rfl) (by kernel_rfl) (fun _ _ _ h => h) (Or.inl ⟨by rfl, ?_⟩) (by assumption) ?_
         rotate_left 1
         ·(intro wz hSw; (try dsimp only at hSw); go_simp; first | done | with_reducible rfl)
         try simp only [Act.put, List.setIfInBounds_toArray, List.set_cons_zero, List.set_cons_succ]
         refine wpAnyH_take (i := 26) (oi := { dst := some 98, op := Op.fieldAddr 140 (Operand.tmp 97) 2, type := 0, pos := "ref.go:387", after := #[{ on := 25, ground := Ground.data }, { on := 0, ground := Ground.phase }, { on := 1, ground := Ground.phase }, { on := 2, ground := Ground.phase }, { on := 3, ground := Ground.phase }, { on := 4, ground := Ground.phase }, { on := 5, ground := Ground.phase }, { on := 6, ground := Ground.phase }, { on := 7, ground := Ground.phase }, { on := 8, ground := Ground.phase }, { on := 9, ground := Ground.phase }, { on := 10, ground := Ground.phase }, { on := 11, ground := Ground.phase }, { on := 12, ground := Ground.phase }, { on := 13, ground := Ground.phase }, { on := 14, ground := Ground.phase }, { on := 15, ground := Ground.phase }, { on := 16, ground := Ground.phase }, { on := 17, ground := Ground.phase }, { on := 18, ground := Ground.phase }, { on := 19, ground := Ground.phase }, { on := 20, ground := Ground.phase }, { on := 21, ground := Ground.phase }, { on := 22, ground := Ground.phase }, { on := 23, ground := Ground.phase }, { on := 24, ground := Ground.phase }], guard := none }) (v := ?_) rfl (by kernel_rfl) (by kernel_rfl) (by kernel_rfl) (fun _ _ _ h => h) (Or.inl ⟨by rfl, ?_⟩) (by assumption) ?_
         rotate_left 1
         ·(intro wz hSw; (try dsimp only at hSw); go_simp; first | done | with_reducible rfl)
         try simp only [Act.put, List.setIfInBounds_toArray, List.set_cons_zero, List.set_cons_succ]
         refine wpAnyH_ready (rs := [27]) (by kernel_rfl) (by simp) ?_
         refine AllReadyH.cons (o := { dst := none, op := Op.store 39 (Operand.tmp 98) (Operand.tmp 96), type := 0, pos := "ref.go:387", after := #[{ on := 26, ground := Ground.data }, { on := 24, ground := Ground.data }, { on := 24, ground := Ground.chain }, { on := 0, ground := Ground.phase }, { on := 1, ground := Ground.phase }, { on := 2, ground := Ground.phase }, { on := 3, ground := Ground.phase }, { on := 4, ground := Ground.phase }, { on := 5, ground := Ground.phase }, { on := 6, ground := Ground.phase }, { on := 7, ground := Ground.phase }, { on := 8, ground := Ground.phase }, { on := 9, ground := Ground.phase }, { on := 10, ground := Ground.phase }, { on := 11, ground := Ground.phase }, { on := 12, ground := Ground.phase }, { on := 13, ground := Ground.phase }, { on := 14, ground := Ground.phase }, { on := 15, ground := Ground.phase }, { on := 16, ground := Ground.phase }, { on := 17, ground := Ground.phase }, { on := 18, ground := Ground.phase }, { on := 19, ground := Ground.phase }, { on := 20, ground := Ground.phase }, { on := 21, ground := Ground.phase }, { on := 22, ground := Ground.phase }, { on := 23, ground := Ground.phase }, { on := 24, ground := Ground.phase }], guard := none }) rfl (fun K hK => ?_) AllReadyH.nil
         go_simp
         refine hK.out _ _ (zS _) (fun hHeld2 => ?_)
         clear hK K
         try clear hHeld
         try simp only [Act.put, List.setIfInBounds_toArray, List.set_cons_zero, List.set_cons_succ]
         have hHeld := hHeld2
         clear hHeld2
         refine wpAnyH_done (by kernel_rfl) ?_ _
         obtain ⟨ci', hC'⟩ := hdone.out w1 _ g2 cap2 hgrow hown2 hat
         have HC' := Hid.mk' hC'
         clear hC' hgrow hown2 hat zA zS z4 zf hi0 hz0 hz1 hz2 hdone hdraw q1 q2 q3 q4 q2a q3a q4a v0 v1 v2 v3 f4
         go_wp2
         go_roundw
         case rel => exact ⟨i + 1, (i : Int) + 1, ci', by omega, rfl, by omega, HC'⟩
         case measure => simp [intOf]; omega
       ·have hii : i = ck.cs.length := by omega
        have hqs2 : ci.cs.map (·.q) = ck.cs.map (fun x => { x.q with seen := x.q.seen ++ [(es, et, ek, ev)] }) := by rw [hqse, List.take_of_length_le (by omega), List.drop_eq_nil_of_le (by omega)]; simp
        have hrw : Row wr 75 4 (.slice (some ⟨gw, ow, none⟩) ck.waits.length wc) ck.waits.length (ck.waits.flatMap evC) := by
         have h1 := hre.waits
         rw [hwve, hwe, HWV.out] at h1
         exact h1
        have q1 : wr.cell? ⟨rb, 1, none⟩ = some (.slice (some ⟨gw, ow, none⟩) (nw + 1) wc) := by
         rw [cell_of_row wr rb 1 _ _ _ hre.blk]
         simp [rCells, hwve, HWV.out, hnw]
        have f1 : wr.frozen? ⟨rb, 1, none⟩ = false := frozen_of_row wr rb 1 _ _ hre.blk
        have hnext : Hid (∀ off', (wc = 1 ∨ off' = ow + 4) → (wc = 1 → off' = ow) → BT w (wr.setCell ⟨rb, 1, none⟩ (.slice (some ⟨gw, off', none⟩) nw (wc - 1))) rb c { ci with wv := .slice (some ⟨gw, off', none⟩) nw (wc - 1), waits := rest } (c.marks.set k t) (j + 1)) := by
         intro off' h1 h2
         have hr := row_tail hrw (by omega) off' h1 h2
         have hd1 : ck.waits.drop 1 = rest := by rw [HWS.out]; rfl
         rw [hd1, show ck.waits.length - 1 = nw by omega] at hr
         refine BT.next hT0.out hre hex hme hrest hqs2 HWS.out (by rw [HM.out]; exact hte) hr (fun b hb => ?_)
         have hb' : gw = b := Option.some.inj hb
         refine List.mem_append_left _ ?_
         rw [hwve, HWV.out, ← hb']; simp [Value.ownBlock]
        have hleft1 : Hid (∀ off', leftOf rb (wr.setCell ⟨rb, 1, none⟩ (.slice (some ⟨gw, off', none⟩) nw (wc - 1))) = nw) := by
         intro off'
         have hb1 : (wr.setCell ⟨rb, 1, none⟩ (.slice (some ⟨gw, off', none⟩) nw (wc - 1))).heap[rb]? = _ := heap_setCell_same wr rb 1 _ _ _ hre.blk
         unfold leftOf
         rw [cell_of_row _ rb 1 _ _ _ hb1]
         rfl
        clear hC hre hex hwve hwe hme hmge hrest hqse hqs2 hrw hqv
        by_cases hw1 : wc = 1
        ·have hnw0 : nw = 0 := by omega
         have hn2 := Hid.mk' (hnext.out ow (Or.inl hw1) (fun _ => rfl))
         have hl2 := Hid.mk' (hleft1.out ow)
         subst hw1
         subst hnw0
         clear hnext hleft1
         go_wp2
         go_roundw
         case rel => exact ⟨j + 1, _, hn2⟩
         case measure => rw [hleft0.out]; have := hl2.out; simp at this ⊢; omega
        ·have hn2 := Hid.mk' (hnext.out (ow + 4) (Or.inr rfl) (fun h => absurd h hw1))
         have hl2 := Hid.mk' (hleft1.out (ow + 4))
         clear hnext hleft1
         go_wp2
         go_roundw
         case rel => exact ⟨j + 1, _, hn2⟩
         case measure => rw [hleft0.out, hl2.out]; omega
     ·have hfin := Hid.mk' (hend.out wr ck j hT.out (fun e' he => by rw [← hT.out.waits, hws2] at he; cases he; first | exact hte | omega))
      have hte2 : decide (e.2.1 < M) = false := by simpa using hte
      clear hT hck hws2 hwv hwl hrow hge hnw
      go_wp2
      go_ret
      exact hfin.out
end Go.Proofs.YtbgfannlfagoiaaGreatDoor
