import Derived.Test.YtbgfannlfagoiaaDoorGj
import Derived.Test.YtbgfannlfagoiaaDoorPure
import Derived.Test.YtbgfannlfagoiaaDoorGh
namespace Go.Proofs.YtbgfannlfagoiaaDoor
open Go.RowKit Go.Lull
set_option linter.unusedVariables false

def lenV : Value → Nat
  | .slice _ n _ => n
  | _ => 0

/-- append of one match. -/
theorem append_mt (w : World) {p q r : Value} {ops : Array Oper} {rest : List Oper} {o : Oper} {a : Act} {Q : Exit → Act → World → Prop} (hgd : o.guard = none) (s x : Operand)
    (ho : o.op = .call { callee := .builtin .append, args := #[s, x], argTypes := #[58, 58] })
    (v : Value) (n : Nat) (xs : List Value) (hv : a.eval s = v) (hrow : Row w 60 3 v n xs)
    (N : Nat) (hN : N = w.heap.size) (hxv : a.eval x = .slice (some ⟨N, 0, none⟩) 1 1) (h1 : p.oneCell' = true) (h2 : q.oneCell' = true) (h3 : r.oneCell' = true) (hn : n ≤ 1073741824)
    (h : ∀ g off cap w', Row w' 60 3 (.slice (some ⟨g, off, none⟩) (n + 1) cap) (n + 1) (xs ++ [p, q, r]) → (w.alloc (.cells #[p, q, r] 60)).grownBy w' v.ownBlock → (v.ownBlock = some g ∨ g = w.heap.size + 1) → wpList Tryd.prog ops Q rest (a.put o.dst (.slice (some ⟨g, off, none⟩) (n + 1) cap)) w') :
    wpList Tryd.prog ops Q (o :: rest) a (w.alloc (.cells #[p, q, r] 60)) := by
  subst hN
  obtain ⟨i0, hi, hz0, hz1, hz2⟩ := info_parts Tryd.infoMt
  refine wpList_append_row hgd s x 58 ho i0 _ 40 Tryd.underlying58 hi hz0 hz1 hz2 rfl hv (hrow.same (fun k hk => Below.heap_alloc _ _ _ (hrow.lt k hk))) 1 [p, q, r] _ hxv (Src.ofSlice _ Tryd.underlying58 _ 1 1 _ rfl (three_at w _ _ _ _ _ rfl) (by simp [h1, h2, h3])) (by omega) (by unfold maxLen; omega) (by omega) ?_
  intro g off cap w' g1 g2 g3
  exact h g off cap w' g1 g2 (g3.imp id (fun h => by rw [h]; simp))

/-- Drain, in the midst. -/
structure DR (w wr : World) (eb : Nat) (c ck : CE) (n : Nat) (v : Value) (L : List (Mt × Value)) : Prop where
  eg : EG wr eb ck
  ext : Ext w (c.blocks eb) wr (ck.blocks eb)
  row : Row wr 60 3 v L.length (L.flatMap matC)
  own : OWN wr v.ownBlock.toList (L.map fp)
  ap : ∀ b ∈ v.ownBlock.toList ++ eblk (L.map fp), b ∉ ck.blocks eb ∧ (b ∈ c.blocks eb ∨ w.heap.size ≤ b)
  eq : drainE n c.abs = (L.map Prod.fst ++ (drainE (n - L.length) ck.abs).1, (drainE (n - L.length) ck.abs).2)
  le : L.length ≤ n
  nums : (ck.qs.map (·.2.num)).Nodup
  tot : L.length + totF ck.abs.qs ≤ totF c.abs.qs

theorem nums_abs (c : CE) : c.abs.qs.map (·.num) = c.qs.map (·.2.num) := by simp [CE.abs, CQ.abs]

theorem DR.next {w wr w2 w3 : World} {eb n g off cap : Nat} {c ck c' : CE} {v mv : Value} {L : List (Mt × Value)} {m : Mt} {s' : En} {o1 o2 : Obj} (h : DR w wr eb c ck n v L) (hlt : L.length < n) (hs : serveE ck.abs = some (m, s'))
    (he : EG w2 eb c') (ha : c'.abs = s') (hx : Ext wr (ck.blocks eb) w2 (c'.blocks eb)) (hev : EvR w2 mv m.evs) (hap : ∀ b, mv.ownBlock = some b → b ∉ c'.blocks eb ∧ b ∈ ck.blocks eb)
    (hr : Row w3 60 3 (.slice (some ⟨g, off, none⟩) (L.length + 1) cap) (L.length + 1) (L.flatMap matC ++ [.int .i64 m.q, .int .i64 m.cl, mv])) (hg : ((w2.alloc o1).alloc o2).grownBy w3 v.ownBlock) (hat : v.ownBlock = some g ∨ g = w2.heap.size + 1 + 1) :
    DR w w3 eb c c' n (.slice (some ⟨g, off, none⟩) (L.length + 1) cap) (L ++ [(m, mv)]) := by
  obtain ⟨wc, hwc⟩ : ∃ wc, (w2.alloc o1).alloc o2 = wc := ⟨_, rfl⟩
  have hbc : Below w2.heap.size w2 wc := by rw [← hwc]; exact ((Below.refl _ _).alloc (Nat.le_refl _) _).alloc (by simp) _
  have hzc : wc.heap.size = w2.heap.size + 1 + 1 := by rw [← hwc]; simp
  rw [hwc] at hg
  have hvlt : ∀ b, v.ownBlock = some b → b < wr.heap.size := h.row.lt
  have hF3 : Fr v.ownBlock.toList w2 w3 := by
    refine (Fr.of_below _ hbc).grown hg (fun k hk => Or.inl (by rw [hk]; simp))
  have hvn : ∀ b ∈ v.ownBlock.toList, b ∉ c'.blocks eb := by
    intro b hb hm
    rcases hx.sub b hm with h1 | h1
    · exact (h.ap b (List.mem_append_left _ hb)).1 h1
    · have := hvlt b (by simpa using hb); omega
  have he3 : EG w3 eb c' := he.fr hF3 hvn
  -- what was drained before
  have hdisL : ∀ b ∈ ck.blocks eb, b ∉ eblk (L.map fp) := fun b hb hm => (h.ap b (List.mem_append_right _ hm)).1 hb
  have hown2 : OWN w2 v.ownBlock.toList (L.map fp) := h.own.fr hx.fr hdisL
  have hmvn : ∀ b, mv.ownBlock = some b → b ∉ v.ownBlock.toList ∧ b ∉ eblk (L.map fp) := by
    intro b hb
    have h1 := (hap b hb).2
    exact ⟨fun hm => (h.ap b (List.mem_append_left _ hm)).1 h1, fun hm => (h.ap b (List.mem_append_right _ hm)).1 h1⟩
  have hown2' : OWN w2 v.ownBlock.toList ((m.evs, mv) :: L.map fp) := hown2.cons hev hmvn
  have hown3 : OWN w3 ((Value.slice (some ⟨g, off, none⟩) (L.length + 1) cap).ownBlock.toList ++ []) ((m.evs, mv) :: L.map fp) := by
    refine OWN.move (v := v) (B := []) (F := v.ownBlock.toList) (by simpa using hown2') ?_ (fun b hb => hr.lt b hb) hF3 (fun b hb hm => hown2'.disj hb hm)
    intro b hb
    obtain rfl : g = b := Option.some.inj hb
    exact hat.imp id (fun h => by omega)
  have hperm : ((m.evs, mv) :: L.map fp).Perm ((L ++ [(m, mv)]).map fp) := by
    rw [List.map_append]
    exact List.perm_append_comm (l₁ := [_])
  have hsz : w.heap.size ≤ wr.heap.size := h.ext.fr.size
  have hsz2 : wr.heap.size ≤ w2.heap.size := hx.fr.size
  have hless := serveE_less hs
  refine ⟨he3, ?_, ?_, ?_, ?_, ?_, ?_, ?_, ?_⟩
  · have h1 := h.ext.trans hx
    refine ⟨h1.fr.trans' hF3 (fun b hb => (h.ap b (List.mem_append_left _ hb)).2), h1.sub⟩
  · rw [List.length_append, List.flatMap_append]
    simpa [matC] using hr
  · rw [List.append_nil] at hown3
    exact hown3.perm hperm
  · intro b hb
    rcases List.mem_append.1 hb with hb | hb
    · have : b = g := by simpa [Value.ownBlock] using hb
      subst this
      rcases hat with h1 | h1
      · exact ⟨hvn b (by simp [h1]), (h.ap b (List.mem_append_left _ (by simp [h1]))).2⟩
      · refine ⟨fun hm => ?_, Or.inr (by omega)⟩
        have := he.lt b hm
        omega
    · have hb' := (eblk_perm hperm).mem_iff.2 hb
      rw [eblk_cons] at hb'
      rcases List.mem_append.1 hb' with hb | hb
      · have h1 := hap b (by simpa using hb)
        exact ⟨h1.1, h.ext.sub b h1.2⟩
      · refine ⟨fun hm => ?_, (h.ap b (List.mem_append_right _ hb)).2⟩
        rcases hx.sub b hm with h1 | h1
        · exact hdisL b h1 hb
        · have := h.own.elt hb; omega
  · rw [h.eq, ha, List.length_append]
    have h1 : n - L.length = (n - (L.length + 1)) + 1 := by omega
    rw [h1, drainE_some hs]
    simp [List.append_assoc]
  · simp; omega
  · rw [← nums_abs, ha, hless.2, nums_abs]; exact h.nums
  · have := h.tot
    rw [ha, List.length_append]
    have := hless.1
    simp only [List.length_cons, List.length_nil]
    omega

/-- What Drain hands back. -/
def DrainPost (w : World) (eb : Nat) (c : CE) (n : Int) (e : Ending) (w' : World) : Prop :=
  ∃ (v : Value) (L : List (Mt × Value)) (c' : CE), e = .returned v ∧ EG w' eb c' ∧ drainE n.toNat c.abs = (L.map Prod.fst, c'.abs) ∧ Ext w (c.blocks eb) w' (c'.blocks eb) ∧ Row w' 60 3 v L.length (L.flatMap matC) ∧ OWN w' v.ownBlock.toList (L.map fp) ∧ (∀ b ∈ v.ownBlock.toList ++ eblk (L.map fp), b ∉ c'.blocks eb ∧ (b ∈ c.blocks eb ∨ w.heap.size ≤ b))

set_option maxRecDepth 8000 in
set_option maxHeartbeats 2000000 in
theorem drain_eg (w : World) (eb : Nat) (c : CE) (n : Int) (h : EG w eb c) (hn : (c.qs.map (·.2.num)).Nodup) (ht : totF c.abs.qs ≤ 1073741824) :
    Calls Tryd.prog 25 #[.pointer (some ⟨eb, 0, none⟩), .int .i64 n] w (DrainPost w eb c n) := by
  have hmade := Hid.mk' (made_yes eb w h.self)
  have h0 : Hid (DR w w eb c c n.toNat (.slice none 0 0) []) := ⟨h, Ext.refl _ _, ⟨rfl, Or.inl ⟨rfl, rfl⟩⟩, ⟨by simp, by simp [eblk, Value.ownBlock], by simp [Value.ownBlock]⟩, by simp [eblk, Value.ownBlock], by simp, Nat.zero_le _, hn, by simp⟩
  clear h hn
  go_enter Tryd.func25, Tryd.ntmps25
  go_wp2_with (go_at_call 41; refine hmade.out.mono ?_; rintro e w' ⟨rfl, rfl⟩)
  go_loopw [5] (fun v wr => ∃ (L : List (Mt × Value)) (ck : CE), Hid (DR w' wr eb c ck n.toNat v L)) (fun v _ => n.toNat - lenV v)
  case atStart => exact ⟨[], c, h0⟩
  case round =>
    obtain ⟨L, ck, HD⟩ := hrel
    obtain ⟨va, vc, rfl, _⟩ := HD.out.row.form
    by_cases hlt : (L.length : Int) < n
    · have hlt2 : L.length < n.toNat := by omega
      have hll : L.length ≤ 1073741824 := by have := HD.out.tot; omega
      have hserve := serve_any wr eb ck HD.out.eg HD.out.nums (fun x hx => by
        have h1 := HD.out.tot
        have h2 := totF_mem (qs := ck.abs.qs) (q := x.2.abs) (List.mem_map_of_mem (f := fun x : Nat × CQ => x.2.abs) hx)
        have h3 : x.2.abs.found.length = x.2.fs.length := by simp [CQ.abs]
        omega)
      unfold ServePost at hserve
      cases hs : serveE ck.abs with
      | none =>
        rw [hs] at hserve
        have hfin : Hid (∀ w2, Below wr.heap.size wr w2 → DrainPost w' eb c n (.returned (.slice va L.length vc)) w2) := by
          intro w2 hb
          have hd := HD.out
          refine ⟨_, L, ck, rfl, hd.eg.below hb, ?_, hd.ext.trans (Ext.below hb), hd.row.same (fun b hb' => hb.block b (hd.row.lt b hb')), hd.own.fr (Fr.of_below [] hb) (by simp), hd.ap⟩
          rw [hd.eq, drainE_none hs]
          simp
        have HS := Hid.mk' hserve
        clear hserve hs HD
        go_wp2_with (go_at_call 49; refine HS.out.mono ?_; rintro e w2 ⟨rfl, hb⟩)
        go_ret
        exact hfin.out _ (hb.alloc hb.size _)
      | some x =>
        obtain ⟨m, s'⟩ := x
        rw [hs] at hserve
        have hnext : Hid (∀ w2 w3 g off cap c' mv o1 o2, EG w2 eb c' → c'.abs = s' → Ext wr (ck.blocks eb) w2 (c'.blocks eb) → EvR w2 mv m.evs → (∀ b, mv.ownBlock = some b → b ∉ c'.blocks eb ∧ b ∈ ck.blocks eb) →
            Row w3 60 3 (.slice (some ⟨g, off, none⟩) (L.length + 1) cap) (L.length + 1) (L.flatMap matC ++ [.int .i64 m.q, .int .i64 m.cl, mv]) → ((w2.alloc o1).alloc o2).grownBy w3 (Value.slice va L.length vc).ownBlock → ((Value.slice va L.length vc).ownBlock = some g ∨ g = w2.heap.size + 1 + 1) →
            DR w' w3 eb c c' n.toNat (.slice (some ⟨g, off, none⟩) (L.length + 1) cap) (L ++ [(m, mv)])) :=
          fun w2 w3 g off cap c' mv o1 o2 h1 h2 h3 h4 h5 h6 h7 h8 => HD.out.next hlt2 hs h1 h2 h3 h4 h5 h6 h7 h8
        have hrow2 : Hid (∀ w2 c' o, Ext wr (ck.blocks eb) w2 (c' : List Nat) → Row (w2.alloc o) 60 3 (.slice va L.length vc) L.length (L.flatMap matC)) := by
          intro w2 c' o hx
          have hd := HD.out
          refine (Row.fr hx.fr hd.row (fun b hb hm => (hd.ap b (List.mem_append_left _ (by simp [hb]))).1 hm)).same (fun b hb => Below.heap_alloc _ _ _ ?_)
          have h1 := hd.row.lt b hb
          have h2 := hx.fr.size
          omega
        have HS := Hid.mk' hserve
        clear hserve hs HD
        obtain ⟨mq, mc, me⟩ := m
        go_wp2_with (first | (at_builtin; refine append_mt _ rfl _ _ rfl (.slice va L.length vc) L.length _ rfl (hrow2.out w2 _ _ hx) (w2.heap.size + 1) (by simp) rfl rfl rfl rfl hll ?_) | (go_at_call 49; refine HS.out.mono ?_; rintro e w2 ⟨mv, c', rfl, he, ha, hx, hev, hap⟩; obtain ⟨ta, tc, rfl⟩ := own_form hev))
        intro g off cap w3 g1 g2 g3
        have HN : Hid (DR w' w3 eb c c' n.toNat (.slice (some ⟨g, off, none⟩) (L.length + 1) cap) (L ++ [(⟨mq, mc, me⟩, .slice ta me.length tc)])) := hnext.out w2 w3 g off cap c' _ _ _ he ha hx hev hap g1 g2 (g3.imp id (fun h => by rw [h]; try simp))
        clear g1 g2 g3 he ha hx hev hap
        go_wp2
        go_roundw
        case rel => exact ⟨_, c', HN⟩
        case measure => simp [lenV]; omega
    · have hfin : Hid (DrainPost w' eb c n (.returned (.slice va L.length vc)) wr) := by
        have hd := HD.out
        refine ⟨_, L, ck, rfl, hd.eg, ?_, hd.ext, hd.row, hd.own, hd.ap⟩
        have h1 := hd.le
        rw [hd.eq, show n.toNat - L.length = 0 by omega]
        simp [drainE]
      clear HD
      go_wp2
      go_ret
      exact hfin.out
end Go.Proofs.YtbgfannlfagoiaaDoor

namespace Go.Proofs.YtbgfannlfagoiaaDoor
open Go.RowKit Go.Lull
set_option linter.unusedVariables false

section
variable {w w1 : World} {eb : Nat} {c : CE}
/-- The events that wait have changed. -/
theorem EG.setBuf {bv' : Value} {l : List Ev} (h : EG w eb c) (hf : Fr c.bv.ownBlock.toList w w1) (hr : Row w1 56 4 bv' l.length (l.flatMap evC)) (hv : ∀ b, bv'.ownBlock = some b → c.bv.ownBlock = some b ∨ w.heap.size ≤ b) (hl : l.length ≤ 60) :
    EG (w1.setCell ⟨eb, 2, none⟩ bv') eb { c with bv := bv', buf := l } ∧ Ext w (c.blocks eb) (w1.setCell ⟨eb, 2, none⟩ bv') (CE.blocks { c with bv := bv', buf := l } eb) := by
  have hnd := h.nd
  obtain ⟨R, hR⟩ : ∃ R, c.qv.ownBlock.toList ++ [eb, c.mg] ++ qsb c.qs = R := ⟨_, rfl⟩
  have hbl : c.blocks eb = c.bv.ownBlock.toList ++ R := by rw [← hR]; simp [CE.blocks, CE.base]
  have hbl2 : CE.blocks { c with bv := bv', buf := l } eb = bv'.ownBlock.toList ++ R := by rw [← hR]; simp [CE.blocks, CE.base]
  rw [hbl] at hnd
  have hRl : ∀ b ∈ R, b < w.heap.size := fun b hb => h.lt b (by rw [hbl]; exact List.mem_append_right _ hb)
  have hkeep : ∀ b ∈ R, w1.heap[b]? = w.heap[b]? := fun b hb => hf.block b (hRl b hb) (fun hm => (List.nodup_append.1 hnd).2.2 b hm b hb rfl)
  have hebR : eb ∈ R := by rw [← hR]; simp
  have hbe : ∀ b, bv'.ownBlock = some b → b ≠ eb := by
    intro b hb e
    subst e
    rcases hv b hb with h1 | h1
    · exact (List.nodup_append.1 hnd).2.2 b (by simp [h1]) b hebR rfl
    · have := hRl b hebR; omega
  have hp : R.Perm (eb :: (c.qv.ownBlock.toList ++ [c.mg] ++ qsb c.qs)) := by
    rw [← hR, ← List.cons_append]
    exact List.Perm.append_right _ List.perm_middle
  have hndR : R.Nodup := (List.nodup_append.1 hnd).2.1
  have hne : ∀ b ∈ c.qv.ownBlock.toList ++ [c.mg] ++ qsb c.qs, b ≠ eb := fun b hb e => by
    subst e
    exact (List.nodup_cons.1 (hp.nodup_iff.1 hndR)).1 hb
  have hkeep2 : ∀ b ∈ c.qv.ownBlock.toList ++ [c.mg] ++ qsb c.qs, (w1.setCell ⟨eb, 2, none⟩ bv').heap[b]? = w.heap[b]? := fun b hb => by
    rw [Below.heap_setCell _ _ _ _ (by simpa using hne b hb)]
    exact hkeep b (hp.mem_iff.2 (List.mem_cons_of_mem _ hb))
  have hsz : w.heap.size ≤ (w1.setCell ⟨eb, 2, none⟩ bv').heap.size := by simpa [World.setCell] using hf.size
  refine ⟨⟨?_, ?_, h.m1, h.m8, hr.same (fun b hb => Below.heap_setCell _ _ _ _ (by simpa using hbe b hb)), h.qrow.same (fun b hb => hkeep2 b (by simp [hb])), fun x hx => (h.qy x hx).same hsz (fun b hb => hkeep2 b (List.mem_append_right _ (mem_qsb hx hb))), ?_, h.q10, hl⟩, ⟨?_, ?_⟩⟩
  · have hb1 : w1.heap[eb]? = some (.cells (eCells eb c) 43 (0, 0)) := by rw [hkeep eb hebR]; exact h.blk
    rw [heap_setCell_same w1 eb 2 _ _ _ hb1]
    rfl
  · refine ⟨h.marks.1, ?_⟩
    rcases h.marks.2 with h2 | ⟨g, cap, cur, h1, h2, h3, h4⟩
    · exact Or.inl h2
    · refine Or.inr ⟨g, cap, cur, h1, h2, ?_, h4⟩
      cases h1
      show (w1.setCell ⟨eb, 2, none⟩ bv').heap[c.mg]? = _
      rw [hkeep2 c.mg (by simp)]; exact h3
  · rw [hbl2]
    refine nodup_swap (n := w.heap.size) hnd ?_ (fun b hb => (hv b (by simpa using hb)).imp (fun h => by simp [h]) id) hRl
    cases bv'.ownBlock <;> simp
  · refine (hf.mono (fun b hb => Or.inl (by rw [hbl]; exact List.mem_append_left _ hb))).setCell (Or.inl (by rw [hbl]; exact List.mem_append_right _ hebR)) _
  · intro b hb
    rw [hbl2] at hb
    rw [hbl]
    rcases List.mem_append.1 hb with hb | hb
    · exact (hv b (by simpa using hb)).imp (fun h => List.mem_append_left _ (by simp [h])) id
    · exact Or.inl (List.mem_append_right _ hb)
end

theorem evC_one' (l : List Ev) : ∀ u ∈ l.flatMap evC, u.oneCell' = true := by
  intro u hu
  obtain ⟨x, _, hu⟩ := List.mem_flatMap.1 hu
  simp [evC] at hu
  rcases hu with rfl | rfl | rfl | rfl <;> rfl

/-- What a call leaves that changes the Engine and hands nothing back. -/
def EPost (w : World) (eb : Nat) (c : CE) (P : CE → Prop) (e : Ending) (w' : World) : Prop :=
  e = .returned (.tuple #[]) ∧ ∃ c', EG w' eb c' ∧ P c' ∧ Ext w (c.blocks eb) w' (c'.blocks eb)

set_option maxHeartbeats 400000 in
theorem dropFirst_eg (w : World) (eb : Nat) (c : CE) (h : EG w eb c) (e0 : Ev) (r : List Ev) (hb : c.buf = e0 :: r) :
    Calls Tryd.prog 142 #[.pointer (some ⟨eb, 2, none⟩)] w (EPost w eb c (fun c' => ∃ bv', c' = { c with bv := bv', buf := r })) := by
  have e2 := cell_of_row w eb 2 _ _ _ h.blk
  obtain ⟨a, cap, hv, _⟩ := h.buf.form
  simp [eCells, hv] at e2
  have hb60 := h.b60
  have hdel : Hid (∀ W, W = w → Calls Tryd.prog 146 #[.slice a c.buf.length cap, .int .i64 0, .int .i64 1] W fun e w1 => ∃ bv', e = .returned bv' ∧ w1.cell? ⟨eb, 2, none⟩ = some (.slice a c.buf.length cap) ∧ w1.frozen? ⟨eb, 2, none⟩ = false ∧ Hid (EPost w eb c (fun c' => ∃ bv', c' = { c with bv := bv', buf := r }) (.returned (.tuple #[])) (w1.setCell ⟨eb, 2, none⟩ bv')) ∧ ∃ x y z, bv' = .slice x y z) := by
    rintro W rfl
    refine (delete_ev W (.slice a c.buf.length cap) c.buf.length 1 _ (by rw [← hv]; exact h.buf) (by rw [hb]; simp) (by omega) (evC_one' c.buf)).mono ?_
    rintro e w1 ⟨bv', rfl, h1, h2, h3⟩
    rw [← hv] at h2 h3
    have hebn : eb ∉ c.bv.ownBlock.toList := fun hm => by
      have := h.nd
      unfold CE.blocks CE.base at this
      exact (List.nodup_append.1 (List.nodup_append.1 this).1).2.2 eb hm eb (by simp) rfl
    have hb1 : w1.heap[eb]? = W.heap[eb]? := h2.block eb (lt_of_block h.blk) hebn
    have hr' : Row w1 56 4 bv' r.length (r.flatMap evC) := by
      have : c.buf.length - 1 = r.length := by rw [hb]; simp
      rw [this, hb, List.flatMap_cons, List.drop_left' (show (evC e0).length = 1 * 4 from rfl)] at h1
      exact h1
    obtain ⟨g1, g2⟩ := h.setBuf h2 hr' (fun b hb' => by rw [h3] at hb'; exact Or.inl hb') (by rw [hb] at hb60; simp at hb60; omega)
    obtain ⟨x, y, e, _⟩ := hr'.form
    refine ⟨bv', rfl, by rw [World.cell?_of_block (a := ⟨eb, 2, none⟩) hb1]; exact e2, by rw [World.frozen?_of_block (a := ⟨eb, 2, none⟩) hb1]; exact frozen_of_row _ eb 2 _ _ h.blk, ⟨rfl, _, g1, ⟨bv', rfl⟩, g2⟩, ⟨x, _, y, e⟩⟩
  clear h hb hv
  go_enter Tryd.func142, Tryd.ntmps142
  go_wp2_with (go_at_call 146; refine (hdel.out _ rfl).mono ?_; rintro e w1 ⟨bv', rfl, k1, k2, hP, x, y, z, rfl⟩)
  go_end0
  exact hP.out
end Go.Proofs.YtbgfannlfagoiaaDoor

namespace Go.Proofs.YtbgfannlfagoiaaDoor
open Go.RowKit Go.Lull
set_option linter.unusedVariables false

/-- A deed, as the program holds it. -/
def deedV : Option Deed → Value
  | none => .nilIface
  | some (.rel e) => .iface 175 (.agg #[.int .i64 e.1, .int .i64 e.2.1, .int .u8 e.2.2.1.toNat, .int .i64 e.2.2.2])
  | some (.fin t) => .iface 179 (.agg #[.int .i64 t])

theorem rel_m (W : World) (a b c d : Value) : (method 346 175 (.agg #[a, b, c, d]) "lull/watch.time").run Tryd.prog W = .ok (144, .agg #[a, b, c, d]) W := by kernel_rfl
theorem fin_m (W : World) (a : Value) : (method 346 179 (.agg #[a]) "lull/watch.time").run Tryd.prog W = .ok (153, .agg #[a]) W := by kernel_rfl
theorem rel_n (W : World) (a b c d : Value) : (nilAhead 346 175 (.agg #[a, b, c, d]) "lull/watch.time").run Tryd.prog W = .ok (some false) W := by kernel_rfl
theorem fin_n (W : World) (a : Value) : (nilAhead 346 179 (.agg #[a]) "lull/watch.time").run Tryd.prog W = .ok (some false) W := by kernel_rfl
theorem rel_d (W : World) (a b c d : Value) : (method 346 175 (.agg #[a, b, c, d]) "lull/watch.do").run Tryd.prog W = .ok (143, .agg #[a, b, c, d]) W := by kernel_rfl
theorem fin_d (W : World) (a : Value) : (method 346 179 (.agg #[a]) "lull/watch.do").run Tryd.prog W = .ok (152, .agg #[a]) W := by kernel_rfl
theorem rel_dn (W : World) (a b c d : Value) : (nilAhead 346 175 (.agg #[a, b, c, d]) "lull/watch.do").run Tryd.prog W = .ok (some false) W := by kernel_rfl
theorem fin_dn (W : World) (a : Value) : (nilAhead 346 179 (.agg #[a]) "lull/watch.do").run Tryd.prog W = .ok (some false) W := by kernel_rfl
theorem nil_nil (W : World) : (binOp .eql 138 .nilIface .nilIface).run Tryd.prog W = .ok (.bool true) W := by kernel_rfl
theorem ifc_nil (W : World) (t : TypeId) (v : Value) : (binOp .eql 138 (.iface t v) .nilIface).run Tryd.prog W = .ok (.bool false) W := by kernel_rfl
theorem nil_nil' (W : World) : (binOp .neq 138 .nilIface .nilIface).run Tryd.prog W = .ok (.bool false) W := by kernel_rfl
theorem ifc_nil' (W : World) (t : TypeId) (v : Value) : (binOp .neq 138 (.iface t v) .nilIface).run Tryd.prog W = .ok (.bool true) W := by kernel_rfl

set_option maxHeartbeats 400000 in
theorem relTime (a d : Int) (t : Int) (k : UInt8) (w : World) :
    Calls Tryd.prog 144 #[.agg #[.int .i64 a, .int .i64 t, .int .u8 k.toNat, .int .i64 d]] w fun e w' => e = .returned (.int .i64 t) ∧ ∃ q os, w' = Go.Sort.grow (w.drewN q) os := by
  go_enter Tryd.func144, Tryd.ntmps144
  go_wp2
  go_ret
  exact ⟨rfl, 0, _, alloc_is_grow _ _⟩
set_option maxHeartbeats 400000 in
theorem finTime (t : Int) (w : World) :
    Calls Tryd.prog 153 #[.agg #[.int .i64 t]] w fun e w' => e = .returned (.int .i64 t) ∧ ∃ q os, w' = Go.Sort.grow (w.drewN q) os := by
  go_enter Tryd.func153, Tryd.ntmps153
  go_wp2
  go_ret
  exact ⟨rfl, 0, _, alloc_is_grow _ _⟩
end Go.Proofs.YtbgfannlfagoiaaDoor
