import Derived.Test.YtbgfannlfagoiaaGreatDoorZ45
import Derived.Test.YtbgfannlfagoiaaGreatDoorZ42
namespace Go.Lull
set_option linter.unusedVariables false
theorem reg_le (s : En) (ts : List (List UInt8)) (h : s.qs.length ≤ 10) : (regE s ts).2.2.1 ≤ 10 ∧ (regE s ts).2.2.2.next ≤ s.next + 10 := by
 unfold regE
 cases resAll ts with
 | inl p => exact ⟨Nat.zero_le _, Nat.le_add_right _ _⟩
 | inr ps =>
  simp only
  by_cases h10 : 10 < s.qs.length + ps.length
  ·rw [if_pos h10]; exact ⟨Nat.zero_le _, Nat.le_add_right _ _⟩
  ·rw [if_neg h10]
   simp only
   omega
theorem offer_next : ∀ (l : List Ev) (s : En), (offerE s l).2.2.next = s.next
 | [], s => rfl
 | e :: l, s => by
  have ht : (takeE s e).2.next = s.next := by
   unfold takeE
   repeat' (first | split | rfl)
  rw [show offerE s (e :: l) = if (takeE s e).1 = 0 then (let x := offerE (takeE s e).2 l; (x.1 + 1, x.2)) else (0, takeE s e) from rfl]
  split
  ·show (offerE (takeE s e).2 l).2.2.next = _
   rw [offer_next l, ht]
  ·exact ht
theorem beat_next (s : En) (src t : Int) : (beatE s src t).2.next = s.next := by
 unfold beatE
 repeat' (first | split | rfl)
theorem remove_next (s : En) (k : Int) : (removeE s k).2.next = s.next := by
 unfold removeE
 repeat' (first | split | rfl)
theorem serve_next {s s' : En} {m : Mt} (h : serveE s = some (m, s')) : s'.next = s.next := by
 unfold serveE at h
 repeat' (first | (cases h; rfl) | split at h | (cases h))
theorem drain_next : ∀ (n : Nat) (s : En), (drainE n s).2.next = s.next
 | 0, s => rfl
 | n + 1, s => by
  cases hs : serveE s with
  | none => rw [drainE_none hs]
  | some x =>
   obtain ⟨m, s'⟩ := x
   rw [drainE_some hs]
   show (drainE n s').2.next = s.next
   rw [drain_next n s', serve_next hs]
end Go.Lull
namespace Go.Proofs.YtbgfannlfagoiaaGreatDoor
open Go.RowKit Go.Lull
set_option linter.unusedVariables false

section
variable {N bb eb rb n : Nat} {w0 w : World} {c : RC}
set_option maxRecDepth 8000 in
set_option maxHeartbeats 4000000 in
theorem counted_bo (h : BO N bb eb rb n w0 c w) (hN : N = w0.heap.size) (hn : n ≤ 1000000) (k : Int) :
  Calls Tryz.prog 45 #[.pointer (some ⟨bb, 0, none⟩), .int .i64 k] w fun e w' => e = .returned (.bool true) ∧ BO N bb eb rb n w0 c w' := by
 have hN' : N ≤ w0.heap.size := by omega
 have hcell : Hid (∀ W, Below w.heap.size w W → W.cell? ⟨bb, 0, none⟩ = some (.pointer (some ⟨eb, 0, none⟩)) ∧ W.cell? ⟨bb, 1, none⟩ = some (.pointer (some ⟨rb, 0, none⟩))) := fun W hb => ⟨(h.then hN' hb).c0, (h.then hN' hb).c1⟩
 have hfin : Hid (∀ W, Below w.heap.size w W → BO N bb eb rb n w0 c W) := fun W hb => h.then hN' hb
 obtain ⟨M, hM⟩ : ∃ M, Go.Lull.markB c.marks = M := ⟨_, rfl⟩
 obtain ⟨X, hX⟩ : ∃ X, runsE (eOf c.abs) k = X := ⟨_, rfl⟩
 obtain ⟨Y, hY⟩ : ∃ Y, waitE (eOf c.abs) k = Y := ⟨_, rfl⟩
 have h1 : Hid (Calls Tryz.prog 75 #[.pointer (some ⟨rb, 0, none⟩), .int .i64 k] w fun e W1 => e = .returned (.tuple #[.int .i64 (Y : Int), .int .i64 (X : Int)]) ∧ Hid (Below w.heap.size w W1) ∧ W1.cell? ⟨bb, 0, none⟩ = some (.pointer (some ⟨eb, 0, none⟩)) ∧ W1.cell? ⟨bb, 1, none⟩ = some (.pointer (some ⟨rb, 0, none⟩))) := by
  refine (count_any h.re h.ok hn k).mono ?_
  rintro e W1 ⟨rfl, hb⟩
  exact ⟨by rw [hX, hY], hb, hcell.out W1 hb⟩
 obtain ⟨ce, hc, ha, hF⟩ := h.at_
 have hmarks : ce.marks = c.marks := congrArg En.marks ha
 have h2 : Hid (∀ W, Below w.heap.size w W → Calls Tryz.prog 33 #[.pointer (some ⟨eb, 0, none⟩)] W fun e W1 => e = .returned (.int .i64 M) ∧ Hid (Below w.heap.size w W1) ∧ W1.cell? ⟨bb, 0, none⟩ = some (.pointer (some ⟨eb, 0, none⟩)) ∧ W1.cell? ⟨bb, 1, none⟩ = some (.pointer (some ⟨rb, 0, none⟩))) := by
  intro W hb
  refine (wm_eg W eb ce (hc.eg.below hb)).mono ?_
  rintro e W1 ⟨rfl, rfl⟩
  exact ⟨by rw [hmarks, hM], hb, hcell.out W1 hb⟩
 have h3 : Hid (∀ W, Below w.heap.size w W → Calls Tryz.prog 74 #[.pointer (some ⟨rb, 0, none⟩)] W fun e W1 => e = .returned (.int .i64 M) ∧ Hid (Below w.heap.size w W1) ∧ W1.cell? ⟨bb, 0, none⟩ = some (.pointer (some ⟨eb, 0, none⟩)) ∧ W1.cell? ⟨bb, 1, none⟩ = some (.pointer (some ⟨rb, 0, none⟩))) := by
  intro W hb
  refine (re_mark (h.re.below hb) h.ok.mne h.ok.m8).mono ?_
  rintro e W1 ⟨rfl, rfl⟩
  exact ⟨by rw [hM], hb, hcell.out W1 hb⟩
 have h4 : Hid (∀ W, Below w.heap.size w W → Calls Tryz.prog 76 #[.pointer (some ⟨eb, 0, none⟩), .int .i64 k] W fun e W1 => e = .returned (.int .i64 (X : Int)) ∧ Hid (Below w.heap.size w W1) ∧ W1.cell? ⟨bb, 0, none⟩ = some (.pointer (some ⟨eb, 0, none⟩)) ∧ W1.cell? ⟨bb, 1, none⟩ = some (.pointer (some ⟨rb, 0, none⟩))) := by
  intro W hb
  refine (runs_eg W eb ce k (hc.eg.below hb)).mono ?_
  rintro e W1 ⟨rfl, hb1⟩
  have hb2 : Below w.heap.size w W1 := hb.trans (hb1.mono hb.size)
  exact ⟨by rw [ha, hX], hb2, hcell.out W1 hb2⟩
 have h5 : Hid (∀ W, Below w.heap.size w W → Calls Tryz.prog 77 #[.pointer (some ⟨eb, 0, none⟩), .int .i64 k] W fun e W1 => e = .returned (.int .i64 (Y : Int)) ∧ Hid (Below w.heap.size w W1) ∧ W1.cell? ⟨bb, 0, none⟩ = some (.pointer (some ⟨eb, 0, none⟩)) ∧ W1.cell? ⟨bb, 1, none⟩ = some (.pointer (some ⟨rb, 0, none⟩))) := by
  intro W hb
  refine (waiting_eg W eb ce k (hc.eg.below hb)).mono ?_
  rintro e W1 ⟨rfl, hb1⟩
  have hb2 : Below w.heap.size w W1 := hb.trans (hb1.mono hb.size)
  exact ⟨by rw [ha, hY], hb2, hcell.out W1 hb2⟩
 obtain ⟨g0, g1⟩ := hcell.out w (Below.refl _ _)
 clear h hc ha hF hmarks hcell hM hX hY
 go_enter Tryz.func45, Tryz.ntmps45
 go_wp2_with (go_at_call 75; with_reducible refine h1.out.mono ?_; rintro e w1 ⟨rfl, hB1, c01, c11⟩)
 clear g0 g1 h1
 go_region_held3 (fun w' => w'.cell? ⟨bb, 0, none⟩ = some (.pointer (some ⟨eb, 0, none⟩)) ∧ w'.cell? ⟨bb, 1, none⟩ = some (.pointer (some ⟨rb, 0, none⟩)))
  (first | (refine ⟨?_, ?_⟩ <;> (repeat (first | assumption | apply drew_keep | apply alloc_keep))) | go_keep)
  (first | (go_at_call 33; refine (h2.out _ (by repeat (first | exact hB1.out | apply Below.drew))).mono ?_; rintro e w2 ⟨rfl, hB2, c02, c12⟩) | (go_at_call 74; refine (h3.out _ (by repeat (first | exact hB2.out | apply Below.drew))).mono ?_; rintro e w3 ⟨rfl, hB3, c03, c13⟩) | (go_at_call 76; refine (h4.out _ (by repeat (first | exact hB3.out | apply Below.drew))).mono ?_; rintro e w4 ⟨rfl, hB4, c04, c14⟩) | (go_at_call 77; refine (h5.out _ (by repeat (first | exact hB4.out | apply Below.drew))).mono ?_; rintro e w5 ⟨rfl, hB5, c05, c15⟩))
 all_goals
  go_wp2
  go_ret
  exact ⟨rfl, hfin.out _ hB5.out⟩
set_option maxHeartbeats 2000000 in
theorem offered_bo (h : BO N bb eb rb n w0 c w) (hN : N = w0.heap.size) {v : Value} {l : List Ev} (hrow : ES w0 v l) (hl : l.length ≤ 1000000) :
  Calls Tryz.prog 43 #[.pointer (some ⟨bb, 0, none⟩), v] w fun e w' => e = .returned (.bool true) ∧ ∃ ck, BO N bb eb rb (n + l.length) w0 ck w' ∧ ck.next = c.next := by
 have hN' : N ≤ w0.heap.size := by omega
 obtain ⟨G, hGd⟩ : ∃ G, (if 0 < l.length then v.ownBlock.toList else []) = G := ⟨_, rfl⟩
 have hGv : ∀ b ∈ G, v.ownBlock = some b ∧ 0 < l.length := fun b hb => by
  rw [← hGd] at hb
  split at hb
  ·rename_i hp; exact ⟨by simpa using hb, hp⟩
  ·cases hb
 have hvG : 0 < l.length → ∀ b, v.ownBlock = some b → b ∈ G := fun hp b hb => by rw [← hGd, if_pos hp]; simp [hb]
 have hvN : ∀ b ∈ G, b < N := fun b hb => by rw [hN]; exact hrow.lt (hGv b hb).2 b (hGv b hb).1
 have hA := h.at_.old hN' (G := G) hvN
 have hG : ∀ b ∈ G, b ∉ c.blocks rb := fun b hb hm => by have := hvN b hb; have := h.new b hm; omega
 obtain ⟨X, hX⟩ : ∃ X, (offerE (eOf c.abs) l).1 = X := ⟨_, rfl⟩
 obtain ⟨Y, hY⟩ : ∃ Y, (offerE (eOf c.abs) l).2.1 = Y := ⟨_, rfl⟩
 have h1 : Hid (Calls Tryz.prog 30 #[.pointer (some ⟨eb, 0, none⟩), v] w fun e W1 => e = .returned (.tuple #[.int .i64 (X : Int), .int .i64 (Y : Int)]) ∧ Hid (At N eb w0 (offerE (eOf c.abs) l).2.2 (bb :: c.blocks rb ++ G) W1 ∧ Same (bb :: c.blocks rb) w W1) ∧ W1.cell? ⟨bb, 1, none⟩ = some (.pointer (some ⟨rb, 0, none⟩))) := by
  refine (at_offer_es hA hN' (rok_sb h.ok) (by omega) (hrow.low hN h.below) (fun hp b hb => by simp [hvG hp b hb])).mono ?_
  rintro e W1 ⟨rfl, g1, g2⟩
  have g3 : Same (bb :: c.blocks rb) w W1 := g2.sub (fun x hx => List.mem_append_left _ hx)
  exact ⟨by rw [hX, hY], ⟨g1, g3⟩, (h.mid g3).2.2⟩
 have h2 : Hid (∀ W1, (At N eb w0 (offerE (eOf c.abs) l).2.2 (bb :: c.blocks rb ++ G) W1 ∧ Same (bb :: c.blocks rb) w W1) → Calls Tryz.prog 73 #[.pointer (some ⟨rb, 0, none⟩), v] W1 fun e W2 => e = .returned (.tuple #[.int .i64 (X : Int), .int .i64 (Y : Int)]) ∧ Hid (∃ ck, BO N bb eb rb (n + l.length) w0 ck W2 ∧ ck.next = c.next)) := by
  rintro W1 ⟨g1, g3⟩
  refine (roffer_any (h.mid g3).1 h.ok (hrow.low hN g1.below) (fun hp b hb => hG b (hvG hp b hb)) hl).mono ?_
  rintro e W2 ⟨ck, rfl, k1, k2, k3, k4⟩
  refine ⟨by rw [hX, hY], ck, (h.next hN' g1 g3 hG k2 k4 k1 k3).1, ?_⟩
  have := offer_next l (eOf c.abs)
  rw [k1] at this
  exact this
 have g0 := h.c0
 obtain ⟨va, vc, rfl, hvc⟩ := hrow.form
 clear h hrow hvN hA hG hX hY hGv hvG hGd
 go_enter Tryz.func43, Tryz.ntmps43
 go_wp2_with (first | (go_at_call 30; with_reducible refine h1.out.mono ?_; rintro e w1 ⟨rfl, hA1, c11⟩) | (go_at_call 73; refine (h2.out w1 hA1.out).mono ?_; rintro e w2 ⟨rfl, hB2⟩) | go_in)
 go_ret
 exact ⟨rfl, hB2.out⟩
set_option maxHeartbeats 2000000 in
theorem registered_bo (h : BO N bb eb rb n w0 c w) (hN : N = w0.heap.size) {m : Int} (hm : w0.cell? ⟨0, 0, none⟩ = some (.int .i64 m)) {ad : Option Addr} {b off cap : Nat} {ss : List ByteArray} (hX : TX w0 ad b off ss) (hlen : ss.length ≤ 1048576) (hcap : ss.length ≤ cap) (hnx : c.next ≤ 1000000000) :
  Calls Tryz.prog 41 #[.pointer (some ⟨bb, 0, none⟩), .slice ad ss.length cap] w fun e w' => ∃ v, e = .returned (.tuple #[v, .bool true]) ∧ ∃ ck, BO N bb eb rb n w0 ck w' ∧ ck.next ≤ c.next + 10 := by
 have hN' : N ≤ w0.heap.size := by omega
 have hz := block_lt_of_cell hm
 have hql : (eOf c.abs).qs.length ≤ 10 := by have := h.ok.ql; simpa [eOf] using this
 obtain ⟨hle, hnext⟩ := reg_le (eOf c.abs) (ss.map (·.data.toList)) hql
 have hreg := at_reg (cap := cap) h.at_ hN' ((h.below.cell (p := ⟨0, 0, none⟩) (by rw [hN]; exact hz)).trans hm) (hX.low hN h.below) hlen hcap hnx
 have hreg2 := fun W1 (g3 : Same (bb :: c.blocks rb) w W1) (hb : Below N w0 W1) => rreg_any (h.mid g3).1 h.ok ad b off cap ss (hX.low hN hb) hlen hcap hnx
 unfold RegR at hreg2
 generalize regE (eOf c.abs) (ss.map (·.data.toList)) = re at hreg hreg2 hle hnext
 obtain ⟨e1, e2, e3, e4⟩ := re
 simp only at hreg hreg2 hle hnext
 have h1 : Hid (Calls Tryz.prog 29 #[.pointer (some ⟨eb, 0, none⟩), .slice ad ss.length cap] w fun e W1 => ∃ a1 c1, e = .returned (.tuple #[.slice a1 e3 c1, .int .i64 (e1 : Int), .int .i64 (e2 : Int)]) ∧ Hid (Row W1 3 1 (.slice a1 e3 c1) e3 (numsV c.next e3) ∧ At N eb w0 e4 (bb :: c.blocks rb ++ (Value.slice a1 e3 c1).ownBlock.toList) W1 ∧ Same (bb :: c.blocks rb) w W1 ∧ (∀ b ∈ (Value.slice a1 e3 c1).ownBlock.toList, b ∉ c.blocks rb)) ∧ W1.cell? ⟨bb, 1, none⟩ = some (.pointer (some ⟨rb, 0, none⟩))) := by
  refine hreg.mono ?_
  rintro e W1 ⟨v, rfl, g1, g2, g3, g4⟩
  obtain ⟨a1, c1, rfl, _⟩ := g1.form
  exact ⟨a1, c1, rfl, ⟨g1, g2, g3, fun b hb hm => g4 b hb (List.mem_cons_of_mem _ hm)⟩, (h.mid g3).2.2⟩
 have h2 : Hid (∀ W1 a1 c1, (Row W1 3 1 (.slice a1 e3 c1) e3 (numsV c.next e3) ∧ At N eb w0 e4 (bb :: c.blocks rb ++ (Value.slice a1 e3 c1).ownBlock.toList) W1 ∧ Same (bb :: c.blocks rb) w W1 ∧ (∀ b ∈ (Value.slice a1 e3 c1).ownBlock.toList, b ∉ c.blocks rb)) → Calls Tryz.prog 71 #[.pointer (some ⟨rb, 0, none⟩), .slice ad ss.length cap] W1 fun e W2 => ∃ a2 c2, e = .returned (.tuple #[.slice a2 e3 c2, .int .i64 (e1 : Int), .int .i64 (e2 : Int)]) ∧ Hid (Row W2 3 1 (.slice a1 e3 c1) e3 (numsV c.next e3) ∧ Row W2 3 1 (.slice a2 e3 c2) e3 (numsV c.next e3) ∧ ∃ ck, BO N bb eb rb n w0 ck W2 ∧ ck.next ≤ c.next + 10)) := by
  rintro W1 a1 c1 ⟨g1, g2, g3, g4⟩
  refine (hreg2 W1 g3 g2.below).mono ?_
  rintro e W2 ⟨v, ck, rfl, k1, k2, k3, k4, k5, k6⟩
  obtain ⟨a2, c2, rfl, _⟩ := k5.form
  obtain ⟨hB, hK⟩ := h.next hN' g2 g3 g4 k2 k4 k1 k3
  refine ⟨a2, c2, rfl, g1.same (fun b hb => (hK b (by simp [hb])).1), k5, ck, hB, ?_⟩
  rw [k1] at hnext
  exact hnext
 have h3 : Hid (∀ W2 a1 c1 a2 c2, (Row W2 3 1 (.slice a1 e3 c1) e3 (numsV c.next e3) ∧ Row W2 3 1 (.slice a2 e3 c2) e3 (numsV c.next e3) ∧ ∃ ck, BO N bb eb rb n w0 ck W2 ∧ ck.next ≤ c.next + 10) → Calls Tryz.prog 72 #[.slice a1 e3 c1, .slice a2 e3 c2] W2 fun e W3 => e = .returned (.bool true) ∧ Hid (∃ ck, BO N bb eb rb n w0 ck W3 ∧ ck.next ≤ c.next + 10)) := by
  rintro W2 a1 c1 a2 c2 ⟨g1, g2, ck, g3, g4⟩
  refine (sameInts_two W2 _ _ c.next e3 hle g1 g2).mono ?_
  rintro e W3 ⟨rfl, q, rfl⟩
  exact ⟨rfl, ck, g3.then hN' (below_drewN (Below.refl _ _) q), g4⟩
 have g0 := h.c0
 clear h hX hm hreg hreg2 hnext
 go_enter Tryz.func41, Tryz.ntmps41
 go_wp2_with (first | (go_at_call 29; with_reducible refine h1.out.mono ?_; rintro e w1 ⟨a1, c1, rfl, hA1, c11⟩) | (go_at_call 71; refine (h2.out w1 a1 c1 hA1.out).mono ?_; rintro e w2 ⟨a2, c2, rfl, hB2⟩) | (go_at_call 72; refine (h3.out w2 a1 c1 a2 c2 hB2.out).mono ?_; rintro e w3 ⟨rfl, hB3⟩) | go_in)
 go_ret2
 exact ⟨_, rfl, hB3.out⟩
set_option maxHeartbeats 2000000 in
theorem drained_bo (h : BO N bb eb rb n w0 c w) (hN : N = w0.heap.size) (hn : n ≤ 1000000) (p : Int) :
  Calls Tryz.prog 20 #[.pointer (some ⟨bb, 0, none⟩), .int .i64 p] w fun e w' => ∃ v, e = .returned (.tuple #[v, .bool true]) ∧ ∃ ck, BO N bb eb rb n w0 ck w' ∧ ck.next = c.next := by
 have hN' : N ≤ w0.heap.size := by omega
 have hkept := drainE_kept p.toNat (eOf c.abs)
 have htot := rok_tot h.ok hn
 have htot2 : totF (eOf c.abs).qs ≤ 10000000 := by have := tot_eOf h.ok; omega
 have h1 : Hid (Calls Tryz.prog 17 #[.pointer (some ⟨eb, 0, none⟩), .int .i64 p] w fun e W1 => ∃ v L, e = .returned v ∧ Hid (L.map Prod.fst = (drainE p.toNat (eOf c.abs)).1 ∧ MS W1 v L ∧ At N eb w0 (drainE p.toNat (eOf c.abs)).2 (bb :: c.blocks rb ++ (v.ownBlock.toList ++ eblk (L.map fp))) W1 ∧ Same (bb :: c.blocks rb) w W1 ∧ (∀ b ∈ v.ownBlock.toList ++ eblk (L.map fp), b ∉ c.blocks rb)) ∧ W1.cell? ⟨bb, 1, none⟩ = some (.pointer (some ⟨rb, 0, none⟩))) := by
  refine (at_drain (n := p) h.at_ hN' (rok_nr h.ok) htot).mono ?_
  rintro e W1 ⟨v, L, rfl, g1, g2, g3, g4, g5⟩
  exact ⟨v, L, rfl, ⟨g1, g2, g3, g4, fun b hb hm => g5 b hb (List.mem_cons_of_mem _ hm)⟩, (h.mid g4).2.2⟩
 have h2 : Hid (∀ W1 v L, (L.map Prod.fst = (drainE p.toNat (eOf c.abs)).1 ∧ MS W1 v L ∧ At N eb w0 (drainE p.toNat (eOf c.abs)).2 (bb :: c.blocks rb ++ (v.ownBlock.toList ++ eblk (L.map fp))) W1 ∧ Same (bb :: c.blocks rb) w W1 ∧ (∀ b ∈ v.ownBlock.toList ++ eblk (L.map fp), b ∉ c.blocks rb)) → Calls Tryz.prog 46 #[.pointer (some ⟨rb, 0, none⟩), .int .i64 p] W1 fun e W2 => ∃ v2 L2, e = .returned v2 ∧ Hid (MS W2 v L ∧ MS W2 v2 L2 ∧ L.map Prod.fst = L2.map Prod.fst ∧ L.length ≤ 1000000000 ∧ ∃ ck, BO N bb eb rb n w0 ck W2 ∧ ck.next = c.next)) := by
  rintro W1 v L ⟨g1, g2, g3, g4, g5⟩
  refine (drain_any (h.mid g4).1 h.ok hn p).mono ?_
  rintro e W2 ⟨a, cp, O, ck, rfl, k1, k2, k3⟩
  have hbl : ck.blocks rb = c.blocks rb := by unfold RC.blocks; rw [k3.wre, k3.rde]
  obtain ⟨hB, hK⟩ := h.next hN' g3 g4 g5 k3.re (ck := ck) ⟨k3.fr, fun b hb => Or.inl (by rw [← hbl]; exact hb)⟩ k2 k3.ok
  refine ⟨_, O, rfl, g2.same (fun b hb => (hK b hb).1), k3.ms, by rw [g1, k1], ?_, ck, hB, ?_⟩
  ·have := congrArg List.length g1
   rw [List.length_map] at this
   omega
  ·have := drain_next p.toNat (eOf c.abs)
   rw [k2] at this
   exact this
 have h3 : Hid (∀ W2 v L v2 L2, (MS W2 v L ∧ MS W2 v2 L2 ∧ L.map Prod.fst = L2.map Prod.fst ∧ L.length ≤ 1000000000 ∧ ∃ ck, BO N bb eb rb n w0 ck W2 ∧ ck.next = c.next) → Calls Tryz.prog 47 #[v, v2] W2 fun e W3 => e = .returned (.bool true) ∧ Hid (∃ ck, BO N bb eb rb n w0 ck W3 ∧ ck.next = c.next)) := by
  rintro W2 v L v2 L2 ⟨g1, g2, g3, g4, ck, g5, g6⟩
  refine (sameMatches_yes W2 v v2 L L2 g1 g2 g3 g4).mono ?_
  rintro e W3 ⟨rfl, hb⟩
  exact ⟨rfl, ck, g5.then hN' hb, g6⟩
 have g0 := h.c0
 clear h hkept htot htot2
 go_enter Tryz.func20, Tryz.ntmps20
 go_wp2_with (first | (go_at_call 17; with_reducible refine h1.out.mono ?_; rintro e w1 ⟨v, L, rfl, hA1, c11⟩) | (go_at_call 46; refine (h2.out w1 v L hA1.out).mono ?_; rintro e w2 ⟨v2, L2, rfl, hB2⟩) | (go_at_call 47; refine (h3.out w2 v L v2 L2 hB2.out).mono ?_; rintro e w3 ⟨rfl, hB3⟩) | go_in)
 go_ret2
 exact ⟨_, rfl, hB3.out⟩
end
end Go.Proofs.YtbgfannlfagoiaaGreatDoor

namespace Go.Proofs.YtbgfannlfagoiaaGreatDoor
open Go.RowKit Go.Lull
set_option linter.unusedVariables false

/-- What an append to a query's events leaves as it was. -/
theorem RE.keeps {w w1 : World} {rb : Nat} {c : RC} {x : CR} {o : Obj} (h : RE w rb c) (hxm : x ∈ c.cs) (hg : ((w.alloc o).drew).grownBy w1 (Value.slice x.sa x.q.seen.length x.lc).ownBlock) :
  (∀ b, (b = rb ∨ c.qv.ownBlock = some b ∨ c.wv.ownBlock = some b) → w1.heap[b]? = w.heap[b]? ∧ b ≠ x.qb) ∧ w1.heap[x.qb]? = w.heap[x.qb]? := by
 obtain ⟨A, B, hAB⟩ := List.append_of_mem hxm
 have hnd := h.nd
 have hlt := h.lt
 obtain ⟨own, hownb⟩ : ∃ own, (Value.slice x.sa x.q.seen.length x.lc).ownBlock = own := ⟨_, rfl⟩
 rw [hownb] at hg
 have hblkx : x.blk = x.qb :: own.toList := by unfold CR.blk; rw [hownb]
 have hwr : c.wr rb = (rb :: c.mg :: (c.qv.ownBlock.toList ++ A.flatMap CR.blk)) ++ (x.qb :: own.toList ++ B.flatMap CR.blk) := by
  unfold RC.wr; rw [hAB, List.flatMap_append, List.flatMap_cons, hblkx]; simp
 rw [hwr] at hnd
 have hn := List.nodup_append.1 hnd
 have hn2 := List.nodup_cons.1 (show (x.qb :: (own.toList ++ B.flatMap CR.blk)).Nodup by simpa using hn.2.1)
 have hgl : ∀ b, b < w.heap.size → own ≠ some b → w1.heap[b]? = w.heap[b]? := fun b hl hne => by
  rw [hg.block b (by show b < (w.alloc o).heap.size; simp; omega) (fun e => hne e.symm)]
  show (w.alloc o).heap[b]? = _
  exact Below.heap_alloc _ _ _ hl
 have hqx := h.qs x hxm
 refine ⟨fun b hb => ?_, hgl x.qb (lt_of_block hqx.blk) (fun e1 => hn2.1 (by simp [e1]))⟩
 have key : b < w.heap.size ∧ own ≠ some b ∧ b ≠ x.qb := by
  have hcase : b ∈ (rb :: c.mg :: (c.qv.ownBlock.toList ++ A.flatMap CR.blk)) ∨ b ∈ c.rd := by
   rcases hb with h1 | h1 | h1
   ·exact Or.inl (by simp [h1])
   ·exact Or.inl (by simp [h1])
   ·exact Or.inr (by simp [RC.rd, h1])
  rcases hcase with h1 | h1
  ·exact ⟨hlt b (List.mem_append_left _ (by rw [hwr]; exact List.mem_append_left _ h1)), fun e1 => hn.2.2 b h1 b (by simp [e1]) rfl, fun e1 => hn.2.2 b h1 x.qb (by simp) e1⟩
  ·exact ⟨hlt b (List.mem_append_right _ h1), fun e1 => h.ap b h1 (by rw [hwr]; exact List.mem_append_right _ (by simp [e1])), fun e1 => h.ap b h1 (by rw [hwr]; exact List.mem_append_right _ (by simp [e1]))⟩
 exact ⟨hgl b key.1 key.2.1, key.2.2⟩
theorem RE.kept {w w1 : World} {rb : Nat} {c : RC} {x : CR} {o : Obj} (h : RE w rb c) (hxm : x ∈ c.cs) (hg : ((w.alloc o).drew).grownBy w1 (Value.slice x.sa x.q.seen.length x.lc).ownBlock) {p : Addr} {v : Value} (hp : p.block = rb ∨ c.qv.ownBlock = some p.block ∨ c.wv.ownBlock = some p.block) (hc : w.cell? p = some v) :
  w1.cell? p = some v ∧ ∀ u, (w1.setCell ⟨x.qb, 3, none⟩ u).cell? p = some v := by
 obtain ⟨h1, h2⟩ := (h.keeps hxm hg).1 p.block hp
 exact ⟨by rw [World.cell?_of_block h1]; exact hc, fun u => by rw [World.cell?_of_block (w := w) (by rw [Below.heap_setCell _ _ _ _ h2, h1])]; exact hc⟩
/-- The loop over the queries, in the midst: i of them were shown the event. -/
def IB (wo wr : World) (rb : Nat) (ck ci : RC) (i : Nat) (e : Ev) : Prop :=
 RE wr rb ci ∧ Ext wo (ck.blocks rb) wr (ci.blocks rb) ∧ ci.wv = ck.wv ∧ ci.waits = ck.waits ∧ ci.marks = ck.marks ∧ ci.mg = ck.mg ∧ (ci.next = ck.next ∧ ci.served = ck.served ∧ ci.row = ck.row) ∧ ci.cs.length = ck.cs.length ∧ ci.cs.map (·.q) = (ck.cs.take i).map (fun x => { x.q with seen := x.q.seen ++ [e] }) ++ (ck.cs.drop i).map (·.q)
theorem IB.get {wo wr : World} {rb i : Nat} {ck ci : RC} {e : Ev} (h : IB wo wr rb ck ci i e) (hlt : i < ck.cs.length) (hlti : i < ci.cs.length) : (ci.cs[i]).q = (ck.cs[i]).q := by
 obtain ⟨_, _, _, _, _, _, _, _, hqse⟩ := h
 have h1 := congrArg (fun l => l[i]?) hqse
 have h2 : ((ck.cs.take i).map (fun x : CR => ({ x.q with seen := x.q.seen ++ [e] } : RQ))).length = i := by simp; omega
 simp only [List.getElem?_append_right (Nat.le_of_eq h2), h2, Nat.sub_self, List.getElem?_map, List.getElem?_drop, Nat.add_zero, List.getElem?_eq_getElem hlti, List.getElem?_eq_getElem hlt, Option.map_some] at h1
 exact Option.some.inj h1
theorem IB.step {wo wr w1 : World} {rb i g cap : Nat} {ck ci : RC} {x : CR} {o : Obj} {e : Ev} (h : IB wo wr rb ck ci i e) (hlt : i < ck.cs.length) (hlti : i < ci.cs.length) (hx : ci.cs[i] = x) (hg : ((wr.alloc o).drew).grownBy w1 (Value.slice x.sa x.q.seen.length x.lc).ownBlock)
  (hown : w1.ownsRow 0 75 4 (.slice (some ⟨g, 0, none⟩) (x.q.seen.length + 1) cap) (x.q.seen.length + 1) (x.q.seen.flatMap evC ++ evC e)) (hat : (Value.slice x.sa x.q.seen.length x.lc).ownBlock = some g ∨ g = wr.heap.size + 1) :
  IB wo (w1.setCell ⟨x.qb, 3, none⟩ (.slice (some ⟨g, 0, none⟩) (x.q.seen.length + 1) cap)) rb ck { ci with cs := ci.cs.set i (x.saw e g cap) } (i + 1) e := by
 have hxq := h.get hlt hlti
 rw [hx] at hxq
 obtain ⟨hre, hex, hwve, hwe, hme, hmge, hrest, hcle, hqse⟩ := h
 have hxm : x ∈ ci.cs := by rw [← hx]; exact List.getElem_mem hlti
 have hg' : (wr.alloc o).grownBy w1 (Value.slice x.sa x.q.seen.length x.lc).ownBlock := ⟨hg.os, hg.tape, hg.output, hg.size, hg.block⟩
 obtain ⟨h1, h2⟩ := hre.see hlti hx hg' hown hat
 refine ⟨h1, hex.trans ⟨?_, h2⟩, hwve, hwe, hme, hmge, hrest, by simpa using hcle, ?_⟩
 ·exact (((Fr.refl (ci.blocks rb) wr).alloc o).grown hg' (fun b hb => Or.inl (List.mem_append_left _ (mem_wr hxm (by simp [CR.blk, hb]))))).setCell (p := ⟨x.qb, 3, none⟩) (Or.inl (List.mem_append_left _ (mem_wr hxm (by simp [CR.blk])))) _
 ·show (ci.cs.set i (x.saw e g cap)).map (·.q) = _
  have h3 : ((ck.cs.take i).map (fun x : CR => ({ x.q with seen := x.q.seen ++ [e] } : RQ))).length = i := by simp; omega
  rw [List.map_set, hqse, List.set_append_right _ _ (Nat.le_of_eq h3), h3, Nat.sub_self, List.drop_eq_getElem_cons hlt, List.map_cons, List.set_cons_zero, List.take_succ_eq_append_getElem hlt, List.map_append, List.append_assoc]
  simp [CR.saw, hxq]
end Go.Proofs.YtbgfannlfagoiaaGreatDoor
