import Derived.Test.YtbgfannlfagoiaaDoorGu
namespace Go.Proofs.YtbgfannlfagoiaaDoor
open Go.RowKit Go.Lull
set_option linter.unusedVariables false

/-- What Register leaves. -/
def RegPost (w : World) (eb : Nat) (c : CE) (ts : List (List UInt8)) (e : Ending) (w' : World) : Prop :=
  ∃ v c', e = .returned (.tuple #[v, .int .i64 (regE c.abs ts).1, .int .i64 (regE c.abs ts).2.1]) ∧ EG w' eb c' ∧ c'.abs = (regE c.abs ts).2.2.2 ∧ Ext w (c.blocks eb) w' (c'.blocks eb) ∧
    Row w' 3 1 v (regE c.abs ts).2.2.1 (numsV c.next (regE c.abs ts).2.2.1) ∧ (∀ b, v.ownBlock = some b → w.heap.size ≤ b ∧ b ∉ c'.blocks eb)

theorem reg_bad {s : En} {ts : List (List UInt8)} {p : Nat} (h : resAll ts = .inl p) : regE s ts = (2, p, 0, s) := by simp [regE, h]
theorem reg_many {s : En} {ts : List (List UInt8)} {ps : List St} (h : resAll ts = .inr ps) (h2 : 10 < s.qs.length + ps.length) : regE s ts = (3, 0, 0, s) := by simp [regE, h, h2]
theorem reg_ok {s : En} {ts : List (List UInt8)} {ps : List St} (h : resAll ts = .inr ps) (h2 : ¬ 10 < s.qs.length + ps.length) : regE s ts = (0, 0, ps.length, { s with qs := s.qs ++ newQs s.next ps, next := s.next + ps.length }) := by simp [regE, h, h2]

theorem steps_cap {w : World} {base : Nat} {x : PT} (h : ownSteps w base x) (hne : x.2.2.1 ≠ []) : x.2.2.1.length ≤ x.2.1 := by
  have hp := List.length_pos_iff.2 hne
  rcases h.2 with ⟨_, h0⟩ | ⟨g, cp, cur, h1, _, _, h4, _⟩
  · omega
  · obtain ⟨_, _, rfl⟩ := Value.slice.inj h1
    exact h4

set_option maxHeartbeats 1000000 in
theorem register_eg (w : World) (eb : Nat) (c : CE) (ad : Option Addr) (b off cap : Nat) (ss : List ByteArray) (m : Int) (h : EG w eb c) (hm : w.cell? ⟨0, 0, none⟩ = some (.int .i64 m)) (hX : TX w ad b off ss) (hlen : ss.length ≤ 1048576) (hcap : ss.length ≤ cap) (hnx : c.next ≤ 1000000000) :
    Calls Tryd.prog 19 #[.pointer (some ⟨eb, 0, none⟩), .slice ad ss.length cap] w (RegPost w eb c (ss.map (·.data.toList))) := by
  have hmade := made_yes eb w h.self
  have hall := parseAll_all w ad b off cap ss m hm hX hlen hcap
  have hez := lt_of_block h.blk
  have HL : (ss.map (·.data.toList)).length = ss.length := by simp
  obtain ⟨qa, qc, hqv, _⟩ := h.qrow.form
  have hcell : Hid (∀ W, Below w.heap.size w W → W.cell? ⟨eb, 3, none⟩ = some (.slice qa c.qs.length qc)) := by
    intro W hb
    rw [cell_of_row _ eb 3 _ _ _ (h.below hb).blk]; simp [eCells, hqv]
  have hq10 := h.q10
  have hsame : Hid (∀ (W : World) (x y : Nat), regE c.abs (ss.map (·.data.toList)) = (x, y, 0, c.abs) → Below w.heap.size w W → RegPost w eb c (ss.map (·.data.toList)) (.returned (.tuple #[.slice none 0 0, .int .i64 x, .int .i64 y])) W) := by
    intro W x y hR hb
    unfold RegPost
    rw [hR]
    exact ⟨_, c, rfl, h.below hb, rfl, Ext.below hb, ⟨rfl, Or.inl ⟨rfl, rfl⟩⟩, fun b hb => by cases hb⟩
  cases hB : resAll (ss.map (·.data.toList)) with
  | inl p =>
    have hR := reg_bad (s := c.abs) hB
    have hcall : Calls Tryd.prog 42 #[.slice ad ss.length cap] w fun e w' => e = .returned (.tuple #[.slice none 0 0, .int .i64 p, .bool false]) ∧ Below w.heap.size w w' := by
      refine hall.mono ?_
      rintro e w' ⟨h1, h2⟩
      rw [hB] at h2
      exact ⟨h2, h1⟩
    have hfin := Hid.mk' (fun W hb => hsame.out W 2 p hR hb)
    clear hall hB HL h hm hX hR hsame
    go_enter Tryd.func19, Tryd.ntmps19
    go_wp2_with (first | (go_at_call 41; refine hmade.mono ?_; rintro e w' ⟨rfl, rfl⟩) | (go_at_call 42; refine hcall.mono ?_; rintro e w1 ⟨rfl, hb⟩))
    go_ret3
    exact hfin.out _ hb
  | inr sts =>
    have hsl : sts.length = ss.length := by rw [resAll_len hB, HL]
    have hcall : Calls Tryd.prog 42 #[.slice ad ss.length cap] w fun e w' => ∃ (a : Option Addr) (cap : Nat) (P : List PT), e = .returned (.tuple #[.slice a ss.length cap, .int .i64 0, .bool true]) ∧ Below w.heap.size w w' ∧ Hid (P.map (·.2.2) = sts ∧ PA w' w.heap.size (.slice a ss.length cap) P) := by
      refine hall.mono ?_
      rintro e w' ⟨h1, h2⟩
      rw [hB, HL] at h2
      obtain ⟨a, cp, P, h3, h4, h5⟩ := h2
      exact ⟨a, cp, P, h4, h1, h3, h5⟩
    clear hall
    by_cases h10 : 10 < c.qs.length + ss.length
    · have hR := reg_many (s := c.abs) hB (by rw [hsl]; simpa [CE.abs] using h10)
      have hfin := Hid.mk' (fun W hb => hsame.out W 3 0 hR hb)
      clear hB HL h hm hX hR hsame hsl
      go_enter Tryd.func19, Tryd.ntmps19
      go_wp2_with (first | (go_at_call 41; refine hmade.mono ?_; rintro e w' ⟨rfl, rfl⟩) | (go_at_call 42; refine hcall.mono ?_; rintro e w1 ⟨a, cp, P, rfl, hb, hP⟩; have c3 := hcell.out w1 hb))
      go_ret3
      exact hfin.out _ hb
    · have hR := reg_ok (s := c.abs) hB (by rw [hsl]; simpa [CE.abs] using h10)
      have hsok := resAll_ok hB
      have hadd : Hid (∀ (w1 : World) (a : Option Addr) (cp : Nat) (P : List PT), (P.map (·.2.2) = sts ∧ PA w1 w.heap.size (.slice a ss.length cp) P) → Below w.heap.size w w1 → Calls Tryd.prog 43 #[.pointer (some ⟨eb, 0, none⟩), .slice a ss.length cp] w1 fun e w2 => ∃ v, e = .returned v ∧ Hid (RegPost w eb c (ss.map (·.data.toList)) (.returned (.tuple #[v, .int .i64 0, .int .i64 0])) w2)) := by
        rintro w1 a cp P ⟨hPs, hP⟩ hb
        have hPl : P.length = ss.length := by rw [← hsl, ← hPs]; simp
        have hE := h.below hb
        by_cases h0 : ss.length = 0
        · have hs0 : sts = [] := List.eq_nil_of_length_eq_zero (by omega)
          rw [h0]
          refine (add_zero w1 _ a cp).mono ?_
          rintro e w' ⟨rfl, rfl⟩
          refine ⟨_, rfl, ?_⟩
          unfold Hid RegPost
          rw [hR, hs0]
          refine ⟨_, c, rfl, hE, ?_, Ext.below hb, ⟨rfl, Or.inl ⟨rfl, rfl⟩⟩, fun b hb => by cases hb⟩
          simp [newQs]
        · rcases hP.row.2 with ⟨_, h1⟩ | ⟨g, cp', cur, h1, h2, h3, h4, _⟩
          · omega
          · obtain ⟨rfl, _, rfl⟩ := Value.slice.inj h1
            have hok : ∀ x ∈ P, StOk x.2.2 ∧ x.2.2.1 ≠ [] := by
              intro x hx
              have := hsok x.2.2 (by rw [← hPs]; exact List.mem_map.2 ⟨x, hx, rfl⟩)
              exact ⟨this.1, this.1.some_ (by rw [this.2]; decide)⟩
            have hnc : ∀ b, w.heap.size ≤ b → b ∉ c.blocks eb := fun b hb hm => by have := h.lt b hm; omega
            have hpg : ∀ x ∈ P, w.heap.size ≤ x.1 := fun x hx => own_row (hP.st x hx) x.1 rfl
            rw [← hPl]
            rw [← hPl] at hP
            refine (add_some w1 eb w.heap.size g cp c P hE hP hok (fun x hx => steps_cap (hP.st x hx) (hok x hx).2) (by omega) h4 hnx (hnc g h2) (fun x hx => hnc x.1 (hpg x hx))).mono ?_
            rintro e w2 ⟨v, c', rfl, hA⟩
            refine ⟨v, rfl, ?_⟩
            unfold Hid RegPost
            have hlp : P.length = sts.length := by omega
            rw [hR]
            have habs := hA.abs
            rw [List.take_length, hPs] at habs
            refine ⟨v, c', rfl, hA.eg, by rw [habs, hlp]; rfl, ⟨(Fr.of_below _ hb).trans hA.fr, ?_⟩, ?_, ?_⟩
            · intro b hb'
              rcases hA.sub b hb' with h5 | h5 | h5
              · exact Or.inl h5
              · obtain ⟨x, hx, rfl⟩ := List.mem_map.1 h5
                exact Or.inr (hpg x (List.mem_of_mem_take hx))
              · exact Or.inr (Nat.le_trans hb.size h5)
            · rw [← hlp]; exact hA.row
            · intro b hb'
              exact ⟨Nat.le_trans hb.size (hA.new b hb'), hA.ap b hb'⟩
      obtain ⟨PO, hPO⟩ : ∃ PO, RegPost w eb c (ss.map (·.data.toList)) = PO := ⟨_, rfl⟩
      rw [hPO] at hadd ⊢
      clear hB HL h hm hX hR hsame hsl hPO hsok
      go_enter Tryd.func19, Tryd.ntmps19
      go_wp2_with (first | (go_at_call 41; refine hmade.mono ?_; rintro e w' ⟨rfl, rfl⟩) | (go_at_call 42; refine hcall.mono ?_; rintro e w1 ⟨a, cp, P, rfl, hb, hP⟩; have c3 := hcell.out w1 hb) | (go_at_call 43; refine (hadd.out w1 a cp P hP.out hb).mono ?_; rintro e w2 ⟨v, rfl, hF⟩))
      go_ret3
      exact hF.out
end Go.Proofs.YtbgfannlfagoiaaDoor
