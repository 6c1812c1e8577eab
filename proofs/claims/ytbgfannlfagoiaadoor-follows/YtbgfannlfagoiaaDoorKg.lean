import Derived.Test.YtbgfannlfagoiaaDoorLa
import Derived.Test.YtbgfannlfagoiaaDoorPuf
namespace Go.Proofs.YtbgfannlfagoiaaDoor
open Go.RowKit Go.Lull
set_option linter.unusedVariables false

/-- fed, in the midst. -/
structure FD (w0 w wr : World) (eb : Nat) (F : List Nat) (q0 : List Qy) (z : Nat × Nat × Nat) (l : List Ev) (s : En) (k : Nat) : Prop where
  at_ : At w0.heap.size eb w0 s F wr
  same : Same F w wr
  fs : FS q0 z l k s
/-- What fed leaves. -/
def Fed (w0 w : World) (eb : Nat) (F : List Nat) (q0 : List Qy) (z : Nat × Nat × Nat) (l : List Ev) (s : En) (w' : World) : Prop :=
  At w0.heap.size eb w0 s F w' ∧ Same F w w' ∧ (s.buf, s.qs) = pass 2000000 (putAll [] l, q0) ∧ SO l.length s ∧ (s.next, s.tq, s.tr) = z ∧ s.marks = [2000000, 2000000, 2000000]
section
variable {w0 w wr : World} {eb : Nat} {F : List Nat} {q0 : List Qy} {z : Nat × Nat × Nat} {l : List Ev} {s : En} {k : Nat}
theorem fd_offer (h : FD w0 w wr eb F q0 z l s k) (hlt : k < l.length) (hl : l.length ≤ 40) (hok : ∀ e ∈ l, properB 3 e = true ∧ 1 ≤ e.2.1 ∧ e.2.1 ≤ 60) (x : Ev) (hx : l[k] = x) :
    Calls Tryd.prog 21 #[.pointer (some ⟨eb, 0, none⟩), .slice (some ⟨wr.heap.size, 0, none⟩) 1 1] (wr.alloc (.cells #[.int .i64 x.1, .int .i64 x.2.1, .int .u8 x.2.2.1.toNat, .int .i64 x.2.2.2] 56)) fun e w1 => e = .returned (.tuple #[.int .i64 1, .int .i64 0]) ∧ ∃ s', Hid (FD w0 w w1 eb F q0 z l s' (k + 1)) := by
  obtain ⟨hp, h1, h2⟩ := hok x (by rw [← hx]; exact List.getElem_mem hlt)
  have hof := offer_ok (s := s) (e := x) (by rw [h.fs.so.m3]; exact hp) (by have := h.fs.mark hlt; rw [hx] at this; omega) (by have := h.fs.so.bl; omega)
  refine (at_offer1 (x := x) h.at_ (Nat.le_refl _) h.fs.so.sb rfl).mono ?_
  rw [hof]
  rintro e w1 ⟨rfl, hA, hS⟩
  refine ⟨rfl, _, hA, h.same.trans hS, ?_⟩
  have := h.fs.offer hlt (by rw [hx]; omega) (by rw [hx]; omega)
  rw [hx] at this
  exact this
theorem fd_beat (h : FD w0 w wr eb F q0 z l s k) (hk : k ≤ 1000) (a t : Int) (ht : ∀ e ∈ l.drop k, t ≤ e.2.1) (h0 : 0 ≤ t) (h2 : t ≤ 2000000) :
    Calls Tryd.prog 22 #[.pointer (some ⟨eb, 0, none⟩), .int .i64 a, .int .i64 t] wr fun e w1 => e = .returned (.int .i64 (beatE s a t).1) ∧ Hid (FD w0 w w1 eb F q0 z l (beatE s a t).2 k) := by
  refine (at_beat (src := a) (t := t) h.at_ (Nat.le_refl _) h.fs.so.tm (h.fs.so.z hk)).mono ?_
  rintro e w1 ⟨rfl, hA, hS⟩
  exact ⟨rfl, hA, h.same.trans hS, h.fs.beat a t ht h0 h2⟩
end

set_option maxRecDepth 8000 in
set_option maxHeartbeats 4000000 in
theorem fed_nil {w0 w : World} {eb : Nat} {F : List Nat} {q0 : List Qy} {z : Nat × Nat × Nat} {l : List Ev} {s : En} (h : FD w0 w w eb F q0 z l s 0) (lv : Value) (ba : Option Addr) (bcap : Nat) (hrow : Row w 56 4 lv l.length (l.flatMap evC)) (hv : ∀ b, lv.ownBlock = some b → b ∈ F) (hl : l.length ≤ 40) (hok : ∀ e ∈ l, properB 3 e = true ∧ 1 ≤ e.2.1 ∧ e.2.1 ≤ 60) :
    Calls Tryd.prog 27 #[.pointer (some ⟨eb, 0, none⟩), lv, .slice ba 0 bcap] w fun e w' => e = .returned (.bool true) ∧ ∃ s', Fed w0 w eb F q0 z l s' w' := by
  obtain ⟨la, lc, rfl, _⟩ := hrow.form
  have HR := Hid.mk' (fun W (hS : Same F w W) => hrow.same (w' := W) (fun b hb => hS.2 b (hv b hb)))
  have HOK := Hid.mk' hok
  have HFD := Hid.mk' h
  clear h hrow hv hok
  go_enter Tryd.func27, Tryd.ntmps27
  go_wp2
  go_loopw [7] (fun i wr => ∃ (k : Nat) (s : En) (zz : Int), zz = k ∧ i = .int .i64 zz ∧ k ≤ l.length ∧ Hid (FD w0 w wr eb F q0 z l s k)) (fun i _ => l.length - (intOf i).toNat)
  case atStart => exact ⟨0, s, 0, rfl, rfl, Nat.zero_le _, HFD⟩
  case round =>
    obtain ⟨k, s, zz, rfl, rfl, hk, hF⟩ := hrel
    clear HFD
    by_cases hlt : k < l.length
    · obtain ⟨x, hx⟩ : ∃ x, l[k] = x := ⟨_, rfl⟩
      have hof := Hid.mk' (fd_offer hF.out hlt hl HOK.out x hx)
      have hrw := HR.out wr hF.out.same
      obtain ⟨g, off, lc', hla, _⟩ := row_some hrw (by omega)
      obtain ⟨rfl, _, rfl⟩ := Value.slice.inj hla
      clear hla
      obtain ⟨y0, y1, y2, y3⟩ := ev_at hrw k hlt
      rw [hx] at y0 y1 y2 y3
      clear hrw hx
      obtain ⟨x0, x1, x2, x3⟩ := x
      simp only at y0 y1 y2 y3 hof
      go_wp2_with (go_at_call 21; refine hof.out.mono ?_; rintro e w1 ⟨rfl, s1, hF1⟩)
      go_roundw
      case rel => exact ⟨k + 1, s1, (k : Int) + 1, by omega, rfl, by omega, hF1⟩
      case measure => simp [intOf]; omega
    · have hkl : k = l.length := by omega
      subst hkl
      obtain ⟨a1, a2, a3, p1, p2, p3, p4, f1, f2⟩ := hF.out.fs.last
      have hb1 := Hid.mk' (fd_beat hF.out (by omega) 0 2000000 (by rw [List.drop_length]; simp) (by omega) (by omega))
      have hb2 := Hid.mk' (fun W (hT : FD w0 w W eb F q0 z l (beatE s 0 2000000).2 l.length) => fd_beat hT (by omega) 1 2000000 (by rw [List.drop_length]; simp) (by omega) (by omega))
      have hb3 := Hid.mk' (fun W (hT : FD w0 w W eb F q0 z l (beatE (beatE s 0 2000000).2 1 2000000).2 l.length) => fd_beat hT (by omega) 2 2000000 (by rw [List.drop_length]; simp) (by omega) (by omega))
      rw [a1] at hb1
      rw [a2] at hb2
      rw [a3] at hb3
      have hfin : Hid (∀ W, FD w0 w W eb F q0 z l (lastE s) l.length → ∃ s', Fed w0 w eb F q0 z l s' W) := fun W hT => ⟨lastE s, hT.at_, hT.same, p1, p2, p3, p4⟩
      clear a1 a2 a3 p1 p2 p3 p4 f1 f2 hF
      go_wp2
      refine wp_loop_rounds 4 ?_
      rw [rounds_succ]
      go_wp2_with (go_at_call 22; refine hb1.out.mono ?_; rintro e w4 ⟨rfl, hA4⟩)
      rw [rounds_succ]
      go_wp2_with (go_at_call 22; refine (hb2.out _ hA4.out).mono ?_; rintro e w5 ⟨rfl, hA5⟩)
      rw [rounds_succ]
      go_wp2_with (go_at_call 22; refine (hb3.out _ hA5.out).mono ?_; rintro e w6 ⟨rfl, hA6⟩)
      rw [rounds_succ]
      go_wp2
      go_ret
      exact ⟨rfl, hfin.out _ hA6.out⟩

set_option maxRecDepth 8000 in
set_option maxHeartbeats 4000000 in
theorem fed_cons {w0 w : World} {eb : Nat} {F : List Nat} {q0 : List Qy} {z : Nat × Nat × Nat} {l : List Ev} {s : En} (h : FD w0 w w eb F q0 z l s 0) (lv vb : Value) (hrow : Row w 56 4 lv l.length (l.flatMap evC)) (hv : ∀ b, lv.ownBlock = some b → b ∈ F) (hl : l.length ≤ 40) (hok : ∀ e ∈ l, properB 3 e = true ∧ 1 ≤ e.2.1 ∧ e.2.1 ≤ 60) (beats : List Int) (hb : RAW w0 vb beats) (hbne : beats ≠ []) :
    Calls Tryd.prog 27 #[.pointer (some ⟨eb, 0, none⟩), lv, vb] w fun e w' => e = .returned (.bool true) ∧ ∃ s', Fed w0 w eb F q0 z l s' w' := by
  obtain ⟨la, lc, rfl, _⟩ := hrow.form
  obtain ⟨ba, bb, boff, bcap, rfl, hbc, hbat, hbcell⟩ := hb.ex
  have hbl : beats.length ≤ 9223372036854775807 := by have := hb.len; unfold maxLen at this; omega
  have hbp := List.length_pos_iff.2 hbne
  have hbe' : ¬ (beats.length : Int) = 0 := by omega
  have HBC := Hid.mk' hbcell
  have HBA := Hid.mk' hbat
  have HBF := Hid.mk' hb.fits
  have HR := Hid.mk' (fun W (hS : Same F w W) => hrow.same (w' := W) (fun b hb => hS.2 b (hv b hb)))
  have HOK := Hid.mk' hok
  have HFD := Hid.mk' h
  clear h hrow hv hok hb hbcell hbat
  go_enter Tryd.func27, Tryd.ntmps27
  go_wp2
  go_loopw [7] (fun i wr => ∃ (k : Nat) (s : En) (zz : Int), zz = k ∧ i = .int .i64 zz ∧ k ≤ l.length ∧ Hid (FD w0 w wr eb F q0 z l s k)) (fun i _ => l.length - (intOf i).toNat)
  case atStart => exact ⟨0, s, 0, rfl, rfl, Nat.zero_le _, HFD⟩
  case round =>
    obtain ⟨k, s, zz, rfl, rfl, hk, hF⟩ := hrel
    clear HFD
    by_cases hlt : k < l.length
    · obtain ⟨x, hx⟩ : ∃ x, l[k] = x := ⟨_, rfl⟩
      have hof := Hid.mk' (fd_offer hF.out hlt hl HOK.out x hx)
      have hrw := HR.out wr hF.out.same
      obtain ⟨g, off, lc', hla, _⟩ := row_some hrw (by omega)
      obtain ⟨rfl, _, rfl⟩ := Value.slice.inj hla
      clear hla
      obtain ⟨y0, y1, y2, y3⟩ := ev_at hrw k hlt
      rw [hx] at y0 y1 y2 y3
      clear hrw hx
      obtain ⟨x0, x1, x2, x3⟩ := x
      simp only at y0 y1 y2 y3 hof
      · skip
        go_wp2_with (go_at_call 21; refine hof.out.mono ?_; rintro e w1 ⟨rfl, s1, hF1⟩)
        clear hof y0 y1 y2 y3
        have hR1 := Hid.mk' (HR.out w1 hF1.out.same)
        go_loop [10, 11] (fun a i => ∃ (j : Nat) (zz : Int), zz = j ∧ i = .int .i64 zz ∧ k + 1 ≤ j ∧ j ≤ l.length ∧ a = .int .i64 (leastB ((l.drop (k + 1)).take (j - (k + 1))))) (fun _ i => l.length - (intOf i).toNat)
        case atStart => exact ⟨k + 1, (k : Int) + 1, by omega, rfl, Nat.le_refl _, by omega, by simp [leastB]⟩
        case round =>
          obtain ⟨j, zz, rfl, rfl, hj1, hj2, rfl⟩ := hrel
          by_cases hjl : j < l.length
          · obtain ⟨u0, u1, u2, u3⟩ := ev_at hR1.out j hjl
            have hsn : Hid (leastB ((l.drop (k + 1)).take (j + 1 - (k + 1))) = lessI (leastB ((l.drop (k + 1)).take (j - (k + 1)))) l[j].2.1) := by
              unfold Hid
              rw [show j + 1 - (k + 1) = (j - (k + 1)) + 1 by omega, List.take_succ_eq_append_getElem (by simp; omega), leastB_snoc]
              simp [show k + 1 + (j - (k + 1)) = j by omega]
            obtain ⟨T, hT⟩ : ∃ T, l[j].2.1 = T := ⟨_, rfl⟩
            obtain ⟨LB, hLB⟩ : ∃ LB, leastB ((l.drop (k + 1)).take (j - (k + 1))) = LB := ⟨_, rfl⟩
            rw [hT] at hsn u1
            rw [hLB] at hsn ⊢
            clear hT hLB u0 u2 u3
            by_cases hm : T < LB
            · have hv1 : Hid (leastB ((l.drop (k + 1)).take (j + 1 - (k + 1))) = T) := by unfold Hid; rw [hsn.out]; unfold lessI; rw [if_pos hm]
              go_wp2
              go_round
              case rel => exact ⟨j + 1, (j : Int) + 1, by omega, rfl, by omega, by omega, by rw [hv1.out]⟩
              case measure => simp [intOf]; omega
            · have hv1 : Hid (leastB ((l.drop (k + 1)).take (j + 1 - (k + 1))) = LB) := by unfold Hid; rw [hsn.out]; unfold lessI; rw [if_neg hm]
              go_wp2
              go_round
              case rel => exact ⟨j + 1, (j : Int) + 1, by omega, rfl, by omega, by omega, by rw [hv1.out]⟩
              case measure => simp [intOf]; omega
          · have hjj : j = l.length := by omega
            have hLBf : (l.drop (k + 1)).take (j - (k + 1)) = l.drop (k + 1) := List.take_of_length_le (by simp; omega)
            rw [hLBf]
            obtain ⟨lb1, lb2⟩ := leastB_le (l.drop (k + 1))
            have lb3 := leastB_ge (l.drop (k + 1)) (fun e he => (HOK.out e (List.mem_of_mem_drop he)).2.1)
            obtain ⟨LB, hLB⟩ : ∃ LB, leastB (l.drop (k + 1)) = LB := ⟨_, rfl⟩
            rw [hLB] at lb1 lb2 lb3 ⊢
            have LB2 := Hid.mk' lb2
            obtain ⟨r, hr⟩ : ∃ r, k % beats.length = r := ⟨_, rfl⟩
            have hrl : r < beats.length := by rw [← hr]; exact Nat.mod_lt _ hbp
            have hri : (k : Int) % (beats.length : Int) = (r : Int) := by rw [← hr]; omega
            obtain ⟨c0, hc0⟩ : ∃ c0, beats[r] = c0 := ⟨_, rfl⟩
            obtain ⟨rfl, hbbl⟩ := HBA.out hbne
            have hcc : w1.cell? ⟨bb, boff + r, none⟩ = some (.int .i64 c0) := by
              rw [hF1.out.at_.below.cell (p := ⟨bb, boff + r, none⟩) hbbl, HBC.out r hrl, hc0]
            have hpick := pick_any c0 1099511627776 w1 (HBF.out c0 (by rw [← hc0]; exact List.getElem_mem hrl)) (by omega) (by omega)
            obtain ⟨c, hc⟩ : ∃ c, pickI c0 1099511627776 = c := ⟨_, rfl⟩
            obtain ⟨c1, c2⟩ := pickI_nn c0 1099511627776 (by omega)
            rw [hc] at hpick c1 c2
            clear hc hc0 hr lb2 hLB hLBf
            have m1 : 0 ≤ c % 3 := Int.emod_nonneg _ (by omega)
            have m2 : c % 3 < 3 := Int.emod_lt_of_pos _ (by omega)
            have t1 : 0 ≤ c / 3 % 100 := Int.emod_nonneg _ (by omega)
            have t2 : c / 3 % 100 < 100 := Int.emod_lt_of_pos _ (by omega)
            by_cases hto : LB < 1 + c / 3 % 100
            · have hbt := Hid.mk' (fd_beat hF1.out (by omega) (c % 3) LB LB2.out (by omega) (by omega))
              rcases beat_ans hF1.out.fs.so.m3 m1 m2 (show 0 ≤ LB by omega) (by omega) with hans | hans
              all_goals
                rw [hans] at hbt
                clear hans
                go_wp2_with (first | (go_at_call 16; refine hpick.mono ?_; rintro e w' ⟨rfl, rfl⟩) | (go_at_call 22; refine hbt.out.mono ?_; rintro e w2 ⟨rfl, hF2⟩))
                go_roundw
                case rel => exact ⟨k + 1, _, (k : Int) + 1, by omega, rfl, by omega, hF2⟩
                case measure => simp [intOf]; omega
            · have hle : ∀ e ∈ l.drop (k + 1), 1 + c / 3 % 100 ≤ e.2.1 := fun e he => by have := LB2.out e he; omega
              have hbt := Hid.mk' (fd_beat hF1.out (by omega) (c % 3) (1 + c / 3 % 100) hle (by omega) (by omega))
              rcases beat_ans hF1.out.fs.so.m3 m1 m2 (show 0 ≤ 1 + c / 3 % 100 by omega) (by omega) with hans | hans
              all_goals
                rw [hans] at hbt
                clear hans hle
                go_wp2_with (first | (go_at_call 16; refine hpick.mono ?_; rintro e w' ⟨rfl, rfl⟩) | (go_at_call 22; refine hbt.out.mono ?_; rintro e w2 ⟨rfl, hF2⟩))
                go_roundw
                case rel => exact ⟨k + 1, _, (k : Int) + 1, by omega, rfl, by omega, hF2⟩
                case measure => simp [intOf]; omega
    · have hkl : k = l.length := by omega
      subst hkl
      obtain ⟨a1, a2, a3, p1, p2, p3, p4, f1, f2⟩ := hF.out.fs.last
      have hb1 := Hid.mk' (fd_beat hF.out (by omega) 0 2000000 (by rw [List.drop_length]; simp) (by omega) (by omega))
      have hb2 := Hid.mk' (fun W (hT : FD w0 w W eb F q0 z l (beatE s 0 2000000).2 l.length) => fd_beat hT (by omega) 1 2000000 (by rw [List.drop_length]; simp) (by omega) (by omega))
      have hb3 := Hid.mk' (fun W (hT : FD w0 w W eb F q0 z l (beatE (beatE s 0 2000000).2 1 2000000).2 l.length) => fd_beat hT (by omega) 2 2000000 (by rw [List.drop_length]; simp) (by omega) (by omega))
      rw [a1] at hb1
      rw [a2] at hb2
      rw [a3] at hb3
      have hfin : Hid (∀ W, FD w0 w W eb F q0 z l (lastE s) l.length → ∃ s', Fed w0 w eb F q0 z l s' W) := fun W hT => ⟨lastE s, hT.at_, hT.same, p1, p2, p3, p4⟩
      clear a1 a2 a3 p1 p2 p3 p4 f1 f2 hF
      go_wp2
      refine wp_loop_rounds 4 ?_
      rw [rounds_succ]
      go_wp2_with (go_at_call 22; refine hb1.out.mono ?_; rintro e w4 ⟨rfl, hA4⟩)
      rw [rounds_succ]
      go_wp2_with (go_at_call 22; refine (hb2.out _ hA4.out).mono ?_; rintro e w5 ⟨rfl, hA5⟩)
      rw [rounds_succ]
      go_wp2_with (go_at_call 22; refine (hb3.out _ hA5.out).mono ?_; rintro e w6 ⟨rfl, hA6⟩)
      rw [rounds_succ]
      go_wp2
      go_ret
      exact ⟨rfl, hfin.out _ hA6.out⟩

theorem fed_any {w0 w : World} {eb : Nat} {F : List Nat} {q0 : List Qy} {z : Nat × Nat × Nat} {l : List Ev} {s : En} (h : FD w0 w w eb F q0 z l s 0) (lv vb : Value) (hrow : Row w 56 4 lv l.length (l.flatMap evC)) (hv : ∀ b, lv.ownBlock = some b → b ∈ F) (hl : l.length ≤ 40) (hok : ∀ e ∈ l, properB 3 e = true ∧ 1 ≤ e.2.1 ∧ e.2.1 ≤ 60) (beats : List Int) (hb : RAW w0 vb beats) :
    Calls Tryd.prog 27 #[.pointer (some ⟨eb, 0, none⟩), lv, vb] w fun e w' => e = .returned (.bool true) ∧ ∃ s', Fed w0 w eb F q0 z l s' w' := by
  by_cases hne : beats = []
  · subst hne
    obtain ⟨a, b, off, cap, rfl, _⟩ := hb.ex
    exact fed_nil h lv a cap hrow hv hl hok
  · exact fed_cons h lv vb hrow hv hl hok beats hb hne
end Go.Proofs.YtbgfannlfagoiaaDoor
