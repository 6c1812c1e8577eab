import Derived.Test.YtbgfannlfagoiaaGreatDoorZ18
import Derived.Test.YtbgfannlfagoiaaGreatDoorZ01
import Derived.Test.YtbgfannlfagoiaaGreatDoorZ13
import Derived.Test.YtbgfannlfagoiaaGreatDoorZ11
namespace Go.Proofs.YtbgfannlfagoiaaGreatDoor
open Go.RowKit Go.Lull
set_option linter.unusedVariables false

def lenV : Value → Nat
 | .slice _ n _ => n
 | _ => 0

/-- append of one match. -/
theorem append_mt (w : World) {p q r : Value} {ops : Array Oper} {rest : List Oper} {o : Oper} {a : Act} {Q : Exit → Act → World → Prop} (hgd : o.guard = none) (s x : Operand)
  (ho : o.op = .call { callee := .builtin .append, args := #[s, x], argTypes := #[55, 55] })
  (v : Value) (n : Nat) (xs : List Value) (hv : a.eval s = v) (hrow : Row w 58 3 v n xs)
  (N : Nat) (hN : N = w.heap.size) (hxv : a.eval x = .slice (some ⟨N, 0, none⟩) 1 1) (h1 : p.oneCell' = true) (h2 : q.oneCell' = true) (h3 : r.oneCell' = true) (hn : n ≤ 1073741824)
  (h : ∀ g off cap w', Row w' 58 3 (.slice (some ⟨g, off, none⟩) (n + 1) cap) (n + 1) (xs ++ [p, q, r]) → (w.alloc (.cells #[p, q, r] 58)).grownBy w' v.ownBlock → (v.ownBlock = some g ∨ g = w.heap.size + 1) → wpList Tryz.prog ops Q rest (a.put o.dst (.slice (some ⟨g, off, none⟩) (n + 1) cap)) w') :
  wpList Tryz.prog ops Q (o :: rest) a (w.alloc (.cells #[p, q, r] 58)) := by
 subst hN
 obtain ⟨i0, hi, hz0, hz1, hz2⟩ := info_parts Tryz.infoMt
 refine wpList_append_row hgd s x 55 ho i0 _ 40 Tryz.underlying55 hi hz0 hz1 hz2 rfl hv (hrow.same (fun k hk => Below.heap_alloc _ _ _ (hrow.lt k hk))) 1 [p, q, r] _ hxv (Src.ofSlice _ Tryz.underlying55 _ 1 1 _ rfl (three_at w _ _ _ _ _ rfl) (by simp [h1, h2, h3])) (by omega) (by unfold maxLen; omega) (by omega) ?_
 intro g off cap w' g1 g2 g3
 exact h g off cap w' g1 g2 (g3.imp id (fun h => by rw [h]; simp))

/-- Drain, in the midst. -/
structure DR (w wr : World) (eb : Nat) (c ck : CE) (n : Nat) (v : Value) (L : List (Mt × Value)) : Prop where
 eg : EG wr eb ck
 ext : Ext w (c.blocks eb) wr (ck.blocks eb)
 row : Row wr 58 3 v L.length (L.flatMap matC)
 own : OWN wr v.ownBlock.toList (L.map fp)
 ap : ∀ b ∈ v.ownBlock.toList ++ eblk (L.map fp), b ∉ ck.blocks eb ∧ (b ∈ c.blocks eb ∨ w.heap.size ≤ b)
 eq : drainE n c.abs = (L.map Prod.fst ++ (drainE (n - L.length) ck.abs).1, (drainE (n - L.length) ck.abs).2)
 le : L.length ≤ n
 nums : (ck.qs.map (·.2.num)).Nodup
 tot : L.length + totF ck.abs.qs ≤ totF c.abs.qs

theorem nums_abs (c : CE) : c.abs.qs.map (·.num) = c.qs.map (·.2.num) := by simp [CE.abs, CQ.abs]

theorem DR.next {w wr w2 w3 : World} {eb n g off cap : Nat} {c ck c' : CE} {v mv : Value} {L : List (Mt × Value)} {m : Mt} {s' : En} {o1 o2 : Obj} (h : DR w wr eb c ck n v L) (hlt : L.length < n) (hs : serveE ck.abs = some (m, s'))
  (he : EG w2 eb c') (ha : c'.abs = s') (hx : Ext wr (ck.blocks eb) w2 (c'.blocks eb)) (hev : EvR w2 mv m.evs) (hap : ∀ b, mv.ownBlock = some b → b ∉ c'.blocks eb ∧ b ∈ ck.blocks eb)
  (hr : Row w3 58 3 (.slice (some ⟨g, off, none⟩) (L.length + 1) cap) (L.length + 1) (L.flatMap matC ++ [.int .i64 m.q, .int .i64 m.cl, mv])) (hg : ((w2.alloc o1).alloc o2).grownBy w3 v.ownBlock) (hat : v.ownBlock = some g ∨ g = w2.heap.size + 1 + 1) :
  DR w w3 eb c c' n (.slice (some ⟨g, off, none⟩) (L.length + 1) cap) (L ++ [(m, mv)]) := by
 obtain ⟨wc, hwc⟩ : ∃ wc, (w2.alloc o1).alloc o2 = wc := ⟨_, rfl⟩
 have hbc : Below w2.heap.size w2 wc := by rw [← hwc]; exact ((Below.refl _ _).alloc (Nat.le_refl _) _).alloc (by simp) _
 have hzc : wc.heap.size = w2.heap.size + 1 + 1 := by rw [← hwc]; simp
 rw [hwc] at hg
 have hvlt : ∀ b, v.ownBlock = some b → b < wr.heap.size := h.row.lt
 have hF3 : Fr v.ownBlock.toList w2 w3 := by
  refine (Fr.of_below _ hbc).grown hg (fun k hk => Or.inl (by rw [hk]; simp))
 have hvn : ∀ b ∈ v.ownBlock.toList, b ∉ c'.blocks eb := by
  intro b hb hm
  rcases hx.sub b hm with h1 | h1
  ·exact (h.ap b (List.mem_append_left _ hb)).1 h1
  ·have := hvlt b (by simpa using hb); omega
 have he3 : EG w3 eb c' := he.fr hF3 hvn
 -- what was drained before
 have hdisL : ∀ b ∈ ck.blocks eb, b ∉ eblk (L.map fp) := fun b hb hm => (h.ap b (List.mem_append_right _ hm)).1 hb
 have hown2 : OWN w2 v.ownBlock.toList (L.map fp) := h.own.fr hx.fr hdisL
 have hmvn : ∀ b, mv.ownBlock = some b → b ∉ v.ownBlock.toList ∧ b ∉ eblk (L.map fp) := by
  intro b hb
  have h1 := (hap b hb).2
  exact ⟨fun hm => (h.ap b (List.mem_append_left _ hm)).1 h1, fun hm => (h.ap b (List.mem_append_right _ hm)).1 h1⟩
 have hown2' : OWN w2 v.ownBlock.toList ((m.evs, mv) :: L.map fp) := hown2.cons hev hmvn
 have hown3 : OWN w3 ((Value.slice (some ⟨g, off, none⟩) (L.length + 1) cap).ownBlock.toList ++ []) ((m.evs, mv) :: L.map fp) := by
  refine OWN.move (v := v) (B := []) (F := v.ownBlock.toList) (by simpa using hown2') ?_ (fun b hb => hr.lt b hb) hF3 (fun b hb hm => hown2'.disj hb hm)
  intro b hb
  obtain rfl : g = b := Option.some.inj hb
  exact hat.imp id (fun h => by omega)
 have hperm : ((m.evs, mv) :: L.map fp).Perm ((L ++ [(m, mv)]).map fp) := by
  rw [List.map_append]
  exact List.perm_append_comm (l₁ := [_])
 have hsz : w.heap.size ≤ wr.heap.size := h.ext.fr.size
 have hsz2 : wr.heap.size ≤ w2.heap.size := hx.fr.size
 have hless := serveE_less hs
 refine ⟨he3, ?_, ?_, ?_, ?_, ?_, ?_, ?_, ?_⟩
 ·have h1 := h.ext.trans hx
  refine ⟨h1.fr.trans' hF3 (fun b hb => (h.ap b (List.mem_append_left _ hb)).2), h1.sub⟩
 ·rw [List.length_append, List.flatMap_append]
  simpa [matC] using hr
 ·rw [List.append_nil] at hown3
  exact hown3.perm hperm
 ·intro b hb
  rcases List.mem_append.1 hb with hb | hb
  ·have : b = g := by simpa [Value.ownBlock] using hb
   subst this
   rcases hat with h1 | h1
   ·exact ⟨hvn b (by simp [h1]), (h.ap b (List.mem_append_left _ (by simp [h1]))).2⟩
   ·refine ⟨fun hm => ?_, Or.inr (by omega)⟩
    have := he.lt b hm
    omega
  ·have hb' := (eblk_perm hperm).mem_iff.2 hb
   rw [eblk_cons] at hb'
   rcases List.mem_append.1 hb' with hb | hb
   ·have h1 := hap b (by simpa using hb)
    exact ⟨h1.1, h.ext.sub b h1.2⟩
   ·refine ⟨fun hm => ?_, (h.ap b (List.mem_append_right _ hb)).2⟩
    rcases hx.sub b hm with h1 | h1
    ·exact hdisL b h1 hb
    ·have := h.own.elt hb; omega
 ·rw [h.eq, ha, List.length_append]
  have h1 : n - L.length = (n - (L.length + 1)) + 1 := by omega
  rw [h1, drainE_some hs]
  simp [List.append_assoc]
 ·simp; omega
 ·rw [← nums_abs, ha, hless.2, nums_abs]; exact h.nums
 ·have := h.tot
  rw [ha, List.length_append]
  have := hless.1
  simp only [List.length_cons, List.length_nil]
  omega

/-- What Drain hands back. -/
def DrainPost (w : World) (eb : Nat) (c : CE) (n : Int) (e : Ending) (w' : World) : Prop :=
 ∃ (v : Value) (L : List (Mt × Value)) (c' : CE), e = .returned v ∧ EG w' eb c' ∧ drainE n.toNat c.abs = (L.map Prod.fst, c'.abs) ∧ Ext w (c.blocks eb) w' (c'.blocks eb) ∧ Row w' 58 3 v L.length (L.flatMap matC) ∧ OWN w' v.ownBlock.toList (L.map fp) ∧ (∀ b ∈ v.ownBlock.toList ++ eblk (L.map fp), b ∉ c'.blocks eb ∧ (b ∈ c.blocks eb ∨ w.heap.size ≤ b))

set_option maxRecDepth 8000 in
set_option maxHeartbeats 2000000 in
theorem drain_eg (w : World) (eb : Nat) (c : CE) (n : Int) (h : EG w eb c) (hn : (c.qs.map (·.2.num)).Nodup) (ht : totF c.abs.qs ≤ 1073741824) :
  Calls Tryz.prog 17 #[.pointer (some ⟨eb, 0, none⟩), .int .i64 n] w (DrainPost w eb c n) := by
 have hmade := Hid.mk' (made_yes eb w h.self)
 have h0 : Hid (DR w w eb c c n.toNat (.slice none 0 0) []) := ⟨h, Ext.refl _ _, ⟨rfl, Or.inl ⟨rfl, rfl⟩⟩, ⟨by simp, by simp [eblk, Value.ownBlock], by simp [Value.ownBlock]⟩, by simp [eblk, Value.ownBlock], by simp, Nat.zero_le _, hn, by simp⟩
 clear h hn
 go_enter Tryz.func17, Tryz.ntmps17
 go_wp2_with (go_at_call 39; refine hmade.out.mono ?_; rintro e w' ⟨rfl, rfl⟩)
 go_loopw [5] (fun v wr => ∃ (L : List (Mt × Value)) (ck : CE), Hid (DR w' wr eb c ck n.toNat v L)) (fun v _ => n.toNat - lenV v)
 case atStart => exact ⟨[], c, h0⟩
 case round =>
  obtain ⟨L, ck, HD⟩ := hrel
  obtain ⟨va, vc, rfl, _⟩ := HD.out.row.form
  by_cases hlt : (L.length : Int) < n
  ·have hlt2 : L.length < n.toNat := by omega
   have hll : L.length ≤ 1073741824 := by have := HD.out.tot; omega
   have hserve := serve_any wr eb ck HD.out.eg HD.out.nums (fun x hx => by
    have h1 := HD.out.tot
    have h2 := totF_mem (qs := ck.abs.qs) (q := x.2.abs) (List.mem_map_of_mem (f := fun x : Nat × CQ => x.2.abs) hx)
    have h3 : x.2.abs.found.length = x.2.fs.length := by simp [CQ.abs]
    omega)
   unfold ServePost at hserve
   cases hs : serveE ck.abs with
   | none =>
    rw [hs] at hserve
    have hfin : Hid (∀ w2, Below wr.heap.size wr w2 → DrainPost w' eb c n (.returned (.slice va L.length vc)) w2) := by
     intro w2 hb
     have hd := HD.out
     refine ⟨_, L, ck, rfl, hd.eg.below hb, ?_, hd.ext.trans (Ext.below hb), hd.row.same (fun b hb' => hb.block b (hd.row.lt b hb')), hd.own.fr (Fr.of_below [] hb) (by simp), hd.ap⟩
     rw [hd.eq, drainE_none hs]
     simp
    have HS := Hid.mk' hserve
    clear hserve hs HD
    go_wp2_with (go_at_call 40; refine HS.out.mono ?_; rintro e w2 ⟨rfl, hb⟩)
    go_ret
    exact hfin.out _ (hb.alloc hb.size _)
   | some x =>
    obtain ⟨m, s'⟩ := x
    rw [hs] at hserve
    have hnext : Hid (∀ w2 w3 g off cap c' mv o1 o2, EG w2 eb c' → c'.abs = s' → Ext wr (ck.blocks eb) w2 (c'.blocks eb) → EvR w2 mv m.evs → (∀ b, mv.ownBlock = some b → b ∉ c'.blocks eb ∧ b ∈ ck.blocks eb) →
      Row w3 58 3 (.slice (some ⟨g, off, none⟩) (L.length + 1) cap) (L.length + 1) (L.flatMap matC ++ [.int .i64 m.q, .int .i64 m.cl, mv]) → ((w2.alloc o1).alloc o2).grownBy w3 (Value.slice va L.length vc).ownBlock → ((Value.slice va L.length vc).ownBlock = some g ∨ g = w2.heap.size + 1 + 1) →
      DR w' w3 eb c c' n.toNat (.slice (some ⟨g, off, none⟩) (L.length + 1) cap) (L ++ [(m, mv)])) :=
     fun w2 w3 g off cap c' mv o1 o2 h1 h2 h3 h4 h5 h6 h7 h8 => HD.out.next hlt2 hs h1 h2 h3 h4 h5 h6 h7 h8
    have hrow2 : Hid (∀ w2 c' o, Ext wr (ck.blocks eb) w2 (c' : List Nat) → Row (w2.alloc o) 58 3 (.slice va L.length vc) L.length (L.flatMap matC)) := by
     intro w2 c' o hx
     have hd := HD.out
     refine (Row.fr hx.fr hd.row (fun b hb hm => (hd.ap b (List.mem_append_left _ (by simp [hb]))).1 hm)).same (fun b hb => Below.heap_alloc _ _ _ ?_)
     have h1 := hd.row.lt b hb
     have h2 := hx.fr.size
     omega
    have HS := Hid.mk' hserve
    clear hserve hs HD
    obtain ⟨mq, mc, me⟩ := m
    go_wp2_with (first | (at_builtin; refine append_mt _ rfl _ _ rfl (.slice va L.length vc) L.length _ rfl (hrow2.out w2 _ _ hx) (w2.heap.size + 1) (by simp) rfl rfl rfl rfl hll ?_) | (go_at_call 40; refine HS.out.mono ?_; rintro e w2 ⟨mv, c', rfl, he, ha, hx, hev, hap⟩; obtain ⟨ta, tc, rfl⟩ := own_form hev))
    intro g off cap w3 g1 g2 g3
    have HN : Hid (DR w' w3 eb c c' n.toNat (.slice (some ⟨g, off, none⟩) (L.length + 1) cap) (L ++ [(⟨mq, mc, me⟩, .slice ta me.length tc)])) := hnext.out w2 w3 g off cap c' _ _ _ he ha hx hev hap g1 g2 (g3.imp id (fun h => by rw [h]; try simp))
    clear g1 g2 g3 he ha hx hev hap
    go_wp2
    go_roundw
    case rel => exact ⟨_, c', HN⟩
    case measure => simp [lenV]; omega
  ·have hfin : Hid (DrainPost w' eb c n (.returned (.slice va L.length vc)) wr) := by
    have hd := HD.out
    refine ⟨_, L, ck, rfl, hd.eg, ?_, hd.ext, hd.row, hd.own, hd.ap⟩
    have h1 := hd.le
    rw [hd.eq, show n.toNat - L.length = 0 by omega]
    simp [drainE]
   clear HD
   go_wp2
   go_ret
   exact hfin.out
end Go.Proofs.YtbgfannlfagoiaaGreatDoor

namespace Go.Proofs.YtbgfannlfagoiaaGreatDoor
open Go.RowKit Go.Lull
set_option linter.unusedVariables false

/-- What the steps that are left say of a run. -/
theorem keep_fails {st : List Stp} {r : Rn} {e : Ev} {num : Nat} (hk : r.k < st.length) (ha : altB st) (h : seeL e (st.drop r.k) 0 = .fails) : keep1 st e r = none ∧ told1 num st e r = none := by
 simp [keep1, told1, showB_see st r.k r.tk e hk ha, h]
theorem keep_on {st : List Stp} {r : Rn} {e : Ev} {num : Nat} (hk : r.k < st.length) (ha : altB st) (h : seeL e (st.drop r.k) 0 = .on) : keep1 st e r = some r ∧ told1 num st e r = none := by
 simp [keep1, told1, showB_see st r.k r.tk e hk ha, h]
theorem keep_took {st : List Stp} {r : Rn} {e : Ev} {num j : Nat} (hk : r.k < st.length) (ha : altB st) (h : seeL e (st.drop r.k) 0 = .took j) (hj : r.k + j ≠ st.length) : keep1 st e r = some ⟨r.dl, r.tk ++ [e], r.k + j⟩ ∧ told1 num st e r = none := by
 simp [keep1, told1, showB_see st r.k r.tk e hk ha, h, hj]
theorem keep_done {st : List Stp} {r : Rn} {e : Ev} {num j : Nat} (hk : r.k < st.length) (ha : altB st) (h : seeL e (st.drop r.k) 0 = .took j) (hj : r.k + j = st.length) : keep1 st e r = none ∧ told1 num st e r = some ⟨num, e.2.1, r.tk ++ [e]⟩ := by
 simp [keep1, told1, showB_see st r.k r.tk e hk ha, h, hj]
theorem seeL_took {e : Ev} : ∀ (l : List Stp) (i j : Nat), seeL e l i = .took j → i < j ∧ j ≤ i + l.length
 | [], i, j, h => by simp [seeL] at h
 | x :: r, i, j, h => by
  unfold seeL at h
  split at h
  ·split at h
   ·cases h
   ·have := seeL_took r (i + 1) j h
    simp; omega
  ·split at h
   ·cases h; simp
   ·cases h

theorem SH.start {w : World} {qb g off cap : Nat} {c : CQ} {e : Ev} (h : QY w qb c) (hv : c.vr = .slice (some ⟨g, off, none⟩) c.rs.length cap) (cur : Array Value) (hg : w.heap[g]? = some (.cells cur 193 (0, 0))) :
  SH w (w.alloc (.cells (evC e).toArray 75)) qb w.heap.size g off cap cur.toList c e 0 [] [] c.vf := by
 have hgb : g ∈ c.base qb := by simp [CQ.base, hv, Value.ownBlock]
 have hal : ∀ b, b ∈ c.blocks qb → (w.alloc (.cells (evC e).toArray 75)).heap[b]? = w.heap[b]? := fun b hb => Below.heap_alloc _ _ _ (h.lt b hb)
 have hbs : ∀ b, b ∈ c.base qb → b ∈ c.blocks qb := fun b hb => List.mem_append_left _ hb
 have hQ := h.same (w' := w.alloc (.cells (evC e).toArray 75)) (by simp) hal
 have hbase : c.base qb = c.vf.ownBlock.toList ++ [g, qb, c.pg] := by simp [CQ.base, hv, Value.ownBlock]
 refine ⟨?_, hQ.stp, ?_, ?_, ?_, heap_alloc_new _ _, (Fr.refl _ _).alloc _, ?_, Nat.le_refl _, Nat.zero_le _, by simp, by simp, by simp, hbs g hgb⟩
 ·have := hQ.blk; rw [hv] at this; exact this
 ·rw [hal g (hbs g hgb), hg]; simp
 ·simpa using hQ.found
 ·have ho := hQ.own
  rw [hbase] at ho
  have hl : (([] : List (Rn × Value)) ++ c.rs.drop 0).map rp ++ (c.fs ++ []).map fp = c.evl := by simp [CQ.evl]
  rw [hl]
  refine ⟨ho.ev, ?_, ?_⟩
  ·have hp : (c.vf.ownBlock.toList ++ [w.heap.size, g, qb, c.pg] ++ eblk c.evl).Perm (w.heap.size :: (c.vf.ownBlock.toList ++ [g, qb, c.pg] ++ eblk c.evl)) := by
    rw [← List.cons_append]
    exact List.Perm.append_right _ List.perm_middle
   refine hp.nodup_iff.2 (List.nodup_cons.2 ⟨fun hm => ?_, ho.nd⟩)
   rw [← hbase] at hm
   exact absurd (h.lt _ hm) (Nat.lt_irrefl _)
  ·intro b hb
   have : b = w.heap.size ∨ b ∈ c.vf.ownBlock.toList ++ [g, qb, c.pg] := by
    simp at hb ⊢
    rcases hb with hb | hb | hb
    ·exact Or.inr (Or.inl hb)
    ·exact Or.inl hb
    ·exact Or.inr (Or.inr hb)
   rcases this with rfl | this
   ·simp
   ·exact ho.lt b this
 ·intro b hb
  left
  rcases hb with hb | hb
  ·exact hbs b (by simp [CQ.base, hb])
  ·refine List.mem_append_right _ ?_
   simpa [CQ.evl] using hb

/-- The runs are shown the event: what is left. -/
theorem SH.finish {w0 w : World} {qb N g off cap : Nat} {cur : List Value} {c : CQ} {e : Ev} {on : List (Rn × Value)} {told : List (Mt × Value)} {vf : Value} {zs : List Value} (h : SH w0 w qb N g off cap cur c e c.rs.length on told vf) (hc : CUR cur off cap c) (hok : QOk c) (hmax : cap ≤ maxLen)
  (hz : zs.length = (c.rs.length - on.length) * 3) (hN : w0.heap.size ≤ N) :
  let c1 : CQ := { c with vr := .slice (some ⟨g, off, none⟩) on.length cap, rs := on, vf := vf, fs := c.fs ++ told }
  let w1 := (w.setCells g (off + on.length * 3) zs).setCell ⟨qb, 3, none⟩ (.slice (some ⟨g, off, none⟩) on.length cap)
  QY w1 qb c1 ∧ c1.abs = shownQ c.abs e ∧ Fr (c.blocks qb) w0 w1 ∧ (∀ b ∈ c1.blocks qb, b ∈ c.blocks qb ∨ w0.heap.size ≤ b) ∧ w1.heap[N]? = some (.cells (evC e).toArray 75 (0, 0)) ∧ N ∉ c1.blocks qb := by
 intro c1 w1
 have hle := h.le
 have hlen := hc.len
 have hcap := hc.cap
 have hnil : (on ++ c.rs.drop c.rs.length).map rp ++ (c.fs ++ told).map fp = c1.evl := by simp [CQ.evl, c1]
 have hown := h.own
 rw [hnil] at hown
 have hset : ∀ b, b ≠ g → b ≠ qb → w1.heap[b]? = w.heap[b]? := fun b h1 h2 => by
  show ((w.setCells g _ zs).setCell ⟨qb, 3, none⟩ _).heap[b]? = _
  rw [Below.heap_setCell _ _ _ _ (by simpa using h2), setCells_other g h1]
 have hnd := (List.nodup_append.1 hown.nd).1
 have hgq : g ≠ qb := by
  intro e
  have := (List.nodup_append.1 hnd).2.1
  simp [e] at this
 have hne : ∀ b, b ∈ vf.ownBlock.toList ++ [N, c.pg] → b ≠ g ∧ b ≠ qb := by
  intro b hb
  have hp : (vf.ownBlock.toList ++ [N, g, qb, c.pg]).Perm ([g, qb] ++ (vf.ownBlock.toList ++ [N, c.pg])) := by
   have h1 : [N, g, qb, c.pg].Perm ([g, qb] ++ [N, c.pg]) := (List.Perm.swap g N [qb, c.pg]).trans (List.Perm.cons g (List.Perm.swap qb N [c.pg]))
   exact (List.Perm.append_left _ h1).trans (List.perm_append_comm_assoc _ _ _)
  have h2 := (List.nodup_append.1 (hp.nodup_iff.1 hnd)).2.2
  exact ⟨fun e => h2 g (by simp) b hb e.symm, fun e => h2 qb (by simp) b hb e.symm⟩
 have hev : ∀ b ∈ eblk c1.evl, b ≠ g ∧ b ≠ qb := fun b hb => ⟨fun e => by subst e; exact hown.disj (by simp) hb, fun e => by subst e; exact hown.disj (by simp) hb⟩
 have hsz : w1.heap.size = w.heap.size := by
  show ((w.setCells g _ zs).setCell ⟨qb, 3, none⟩ _).heap.size = _
  simp [World.setCell, setCells_size]
 have hbase : c1.base qb = vf.ownBlock.toList ++ [g, qb, c.pg] := by simp [CQ.base, c1, Value.ownBlock]
 have hO1 : OWN w1 (vf.ownBlock.toList ++ [N, g, qb, c.pg]) c1.evl := hown.same (by rw [hsz]; exact Nat.le_refl _) (fun b hb => hset b (hev b hb).1 (hev b hb).2)
 have hO2 : OWN w1 (N :: c1.base qb) c1.evl := by
  rw [hbase]
  exact hO1.baseperm List.perm_middle
 refine ⟨⟨?_, ?_, ?_, ?_, ?_, ?_⟩, ?_, ?_, ?_, ?_, ?_⟩
 ·have hb : (w.setCells g (off + on.length * 3) zs).heap[qb]? = some (.cells (qCells c (.slice (some ⟨g, off, none⟩) c.rs.length cap) vf) 166 (0, 0)) := by
   rw [setCells_other g hgq.symm]; exact h.blk
  show ((w.setCells g _ zs).setCell ⟨qb, 3, none⟩ _).heap[qb]? = _
  rw [heap_setCell_same _ qb 3 _ _ _ hb]
  rfl
 ·exact h.stp.same (hset c.pg (hne c.pg (by simp)).1 (hne c.pg (by simp)).2)
 ·have h0 : (cur.take off ++ on.flatMap (runC c.pg c.st.length c.pc)).length = off + on.length * 3 := by
   rw [List.length_append, runC_len, List.length_take]
   omega
  have hcells : w1.heap[g]? = some (.cells (cur.take off ++ on.flatMap (runC c.pg c.st.length c.pc) ++ zs ++ cur.drop (off + on.length * 3 + zs.length)).toArray 193 (0, 0)) := by
   show ((w.setCells g _ zs).setCell ⟨qb, 3, none⟩ _).heap[g]? = _
   rw [Below.heap_setCell _ _ _ _ (by simpa using hgq), heap_setCells_same g _ _ _ _ _ h.cells (by rw [List.length_append, h0, List.length_drop]; omega)]
   congr 3
   rw [List.take_append_of_le_length (by rw [h0]; exact Nat.le_refl _), List.take_of_length_le (by rw [h0]; exact Nat.le_refl _), List.drop_append, h0]
   rw [List.drop_of_length_le (by rw [h0]; omega), List.nil_append, List.drop_drop]
   congr 2
   omega
  refine ⟨runC_len _ _ _ _, Or.inr ⟨g, off, cap, _, rfl, hcells, by show on.length ≤ cap; omega, hmax, ?_, ?_⟩⟩
  ·simp only [List.size_toArray, List.length_append, List.length_drop, h0]
   omega
  ·show List.take (on.length * 3) (List.drop off (cur.take off ++ on.flatMap (runC c.pg c.st.length c.pc) ++ zs ++ _)) = _
   have ht : (cur.take off).length = off := by rw [List.length_take]; omega
   rw [List.append_assoc, List.append_assoc, List.drop_append_of_le_length (by rw [ht]; exact Nat.le_refl _), List.drop_of_length_le (by rw [ht]; exact Nat.le_refl _), List.nil_append]
   rw [List.take_append_of_le_length (by rw [runC_len]; exact Nat.le_refl _), List.take_of_length_le (by rw [runC_len]; exact Nat.le_refl _)]
 ·have := h.found.same (w' := w1) (fun k hk => hset k (hne k (by simp [hk])).1 (hne k (by simp [hk])).2)
  simpa [c1] using this
 ·exact ⟨hO2.ev, (List.nodup_cons.1 hO2.nd).2, fun b hb => hO2.lt b (List.mem_cons_of_mem _ hb)⟩
 ·exact ⟨hok.s1, hok.s8, hok.pc, hok.alt, hok.w0, hok.w1, h.ook⟩
 ·simp only [CQ.abs, shownQ, c1, List.map_append]
  rw [h.aon, h.ato, List.take_of_length_le (Nat.le_refl _)]
 ·exact (h.fr.setCells (Or.inl h.gin) _ _).setCell (Or.inl (by simp [CQ.blocks, CQ.base])) _
 ·intro b hb
  rcases List.mem_append.1 hb with hb | hb
  ·rw [hbase] at hb
   rcases List.mem_append.1 hb with hb | hb
   ·exact h.sub b (Or.inl (by simpa using hb))
   ·simp at hb
    rcases hb with rfl | rfl | rfl
    ·exact Or.inl h.gin
    ·exact Or.inl (by simp [CQ.blocks, CQ.base])
    ·exact Or.inl (by simp [CQ.blocks, CQ.base])
  ·exact h.sub b (Or.inr (by rw [hnil]; exact hb))
 ·rw [hset N (hne N (by simp)).1 (hne N (by simp)).2]; exact h.box
 ·exact (List.nodup_cons.1 hO2.nd).1
end Go.Proofs.YtbgfannlfagoiaaGreatDoor

namespace Go.Proofs.YtbgfannlfagoiaaGreatDoor
open Go.RowKit Go.Lull
set_option linter.unusedVariables false

/-- A query that has a run more, or a match. -/
def addedQ (q : Qy) (e : Ev) : Qy := if q.st.length = 1 then { q with found := q.found ++ [⟨q.num, e.2.1, [e]⟩] } else { q with runs := q.runs ++ [⟨e.2.1 + q.wn, [e], 1⟩] }
theorem beginQ_fits {q : Qy} {e : Ev} (h : fitsB (q.st.getD 0 noStep) e = true) : beginQ q e = addedQ q e := by unfold beginQ; rw [if_pos h]; rfl
theorem beginQ_not {q : Qy} {e : Ev} (h : fitsB (q.st.getD 0 noStep) e = false) : beginQ q e = q := by unfold beginQ; rw [if_neg (by rw [h]; simp)]

theorem own_one {w : World} {g : Nat} {e : Ev} (h : w.heap[g]? = some (.cells (evC e).toArray 75 (0, 0))) : EvR w (.slice (some ⟨g, 0, none⟩) 1 1) [e] :=
 ⟨by simp [evC], Or.inr ⟨g, 1, _, rfl, Nat.zero_le _, h, Nat.le_refl _, by unfold maxLen; omega, rfl, by simp [evC]⟩⟩

theorem addQ_any (w : World) (qb g3 : Nat) (c : CQ) (ev : Ev) (lp : Option Addr) (lc : Nat) (hQ : QY w qb c) (hev : w.heap[g3]? = some (.cells (evC ev).toArray 75 (0, 0))) (hg3 : g3 ∉ c.blocks qb) (hlp : 1 < c.st.length → lp = some ⟨c.pg, 1, none⟩ ∧ lc = c.pc - 1)
  (hn : c.fs.length + c.rs.length ≤ 1073741824) (ht0 : 0 ≤ ev.2.1) (ht1 : ev.2.1 ≤ 1000000) :
  Calls Tryz.prog 169 #[.pointer (some ⟨qb, 0, none⟩), .agg #[.int .i64 (ev.2.1 + c.wn), .slice (some ⟨g3, 0, none⟩) 1 1, .slice lp (c.st.length - 1) lc]] w fun e w' => e = .returned (.tuple #[]) ∧ ∃ c', QY w' qb c' ∧ c'.abs = addedQ c.abs ev ∧ Fr (c.blocks qb) w w' ∧ (∀ b ∈ c'.blocks qb, b ∈ c.blocks qb ∨ b = g3 ∨ w.heap.size ≤ b) := by
 have hok := hQ.ok
 have hg3l := lt_of_block hev
 have hbb : ∀ b ∈ c.base qb, b ∈ c.blocks qb := fun b hb => List.mem_append_left _ hb
 have hown0 : OWN w (c.base qb) ((([ev], (.slice (some ⟨g3, 0, none⟩) 1 1 : Value)) : List Ev × Value) :: c.evl) := hQ.own.cons (own_one hev) (fun b hb => by
  obtain rfl : g3 = b := Option.some.inj hb
  exact ⟨fun hm => hg3 (List.mem_append_left _ hm), fun hm => hg3 (List.mem_append_right _ hm)⟩)
 have hnd := (List.nodup_append.1 hQ.own.nd).1
 by_cases h1 : c.st.length = 1
 ·have hz : c.st.length - 1 = 0 := by omega
  rw [hz]
  refine (addr_tell w qb c.fs.length c.num (ev.2.1 + c.wn) ev.2.1 _ _ c.vr c.vf g3 1 1 lc lp _ (by omega) (by omega) hg3l hQ.blk hQ.found (by rw [cell_of_row w g3 1 _ _ _ hev]; rfl)).mono ?_
  rintro e w' ⟨rfl, vf', hb1, hr1, hf1, hv1⟩
  have hdis : ∀ b ∈ qb :: c.vf.ownBlock.toList, b ∉ eblk ((([ev], (.slice (some ⟨g3, 0, none⟩) 1 1 : Value)) : List Ev × Value) :: c.evl) := by
   intro b hb hm
   refine hown0.disj (b := b) ?_ hm
   rcases List.mem_cons.1 hb with rfl | hb
   ·simp [CQ.base]
   ·simp only [CQ.base]; exact List.mem_append_left _ hb
  have hoth : ∀ b, b ∈ c.vr.ownBlock.toList ++ [c.pg] → w'.heap[b]? = w.heap[b]? := by
   intro b hb
   have hp : (c.base qb).Perm ((qb :: c.vf.ownBlock.toList) ++ (c.vr.ownBlock.toList ++ [c.pg])) := by
    unfold CQ.base
    have h1 : (c.vr.ownBlock.toList ++ [qb, c.pg]).Perm (qb :: (c.vr.ownBlock.toList ++ [c.pg])) := List.perm_middle
    exact (List.Perm.append_left _ h1).trans (List.perm_middle.trans (by rw [List.cons_append]))
   have h2 := (List.nodup_append.1 (hp.nodup_iff.1 hnd)).2.2
   refine hf1.block b (hQ.own.lt b (hp.mem_iff.2 (List.mem_append_right _ hb))) (fun hm => h2 b hm b hb rfl)
  refine ⟨rfl, { c with vf := vf', fs := c.fs ++ [(⟨c.num, ev.2.1, [ev]⟩, .slice (some ⟨g3, 0, none⟩) 1 1)] }, ⟨hb1, hQ.stp.same (hoth c.pg (by simp)), hQ.runs.same (fun k hk => hoth k (by simp [hk])), ?_, ?_, ⟨hok.s1, hok.s8, hok.pc, hok.alt, hok.w0, hok.w1, hok.rok⟩⟩, ?_, ?_, ?_⟩
  ·rw [List.length_append, List.flatMap_append]
   simpa [matC] using hr1
  ·have hm := hown0.move (v := c.vf) (v' := vf') (B := c.vr.ownBlock.toList ++ [qb, c.pg]) hv1 (fun b hb => hr1.lt b hb) hf1 hdis
   refine OWN.perm hm ?_
   show List.Perm _ (c.rs.map rp ++ (c.fs ++ [_]).map fp)
   rw [List.map_append, ← List.append_assoc]
   exact List.perm_append_comm (l₁ := [_])
  ·simp [CQ.abs, addedQ, h1]
  ·refine hf1.mono (fun b hb => Or.inl (hbb b ?_))
   rcases List.mem_cons.1 hb with rfl | hb
   ·simp [CQ.base]
   ·simp only [CQ.base]; exact List.mem_append_left _ hb
  ·intro b hb
   rcases List.mem_append.1 hb with hb | hb
   ·have hb' : b ∈ vf'.ownBlock.toList ++ (c.vr.ownBlock.toList ++ [qb, c.pg]) := hb
    rcases List.mem_append.1 hb' with hb | hb
    ·rcases hv1 b (by simpa using hb) with h2 | h2
     ·exact Or.inl (hbb b (by simp [CQ.base, h2]))
     ·exact Or.inr (Or.inr h2)
    ·exact Or.inl (hbb b (by simp only [CQ.base]; exact List.mem_append_right _ hb))
   ·have hb' : b ∈ eblk (c.rs.map rp ++ (c.fs ++ [((⟨c.num, ev.2.1, [ev]⟩ : Mt), (.slice (some ⟨g3, 0, none⟩) 1 1 : Value))]).map fp) := hb
    rw [List.map_append, ← List.append_assoc, eblk_append] at hb'
    rcases List.mem_append.1 hb' with hb | hb
    ·exact Or.inl (List.mem_append_right _ hb)
    ·simp [eblk, fp, Value.ownBlock] at hb
     exact Or.inr (Or.inl hb)
 ·have hs1 := hok.s1
  obtain ⟨rfl, rfl⟩ := hlp (by omega)
  refine (addr_more w qb c.rs.length (ev.2.1 + c.wn) _ _ _ c.vr c.vf 1 1 (some ⟨g3, 0, none⟩) (c.st.length - 1) (c.pc - 1) (some ⟨c.pg, 1, none⟩) _ (by omega) (by omega) hQ.blk hQ.runs).mono ?_
  rintro e w' ⟨rfl, vr', hb1, hr1, hf1, hv1⟩
  have hown1 : OWN w (c.vr.ownBlock.toList ++ (c.vf.ownBlock.toList ++ [qb, c.pg])) ((([ev], (.slice (some ⟨g3, 0, none⟩) 1 1 : Value)) : List Ev × Value) :: c.evl) := hown0.baseperm (List.perm_append_comm_assoc _ _ _)
  have hdis : ∀ b ∈ qb :: c.vr.ownBlock.toList, b ∉ eblk ((([ev], (.slice (some ⟨g3, 0, none⟩) 1 1 : Value)) : List Ev × Value) :: c.evl) := by
   intro b hb hm
   refine hown1.disj (b := b) ?_ hm
   rcases List.mem_cons.1 hb with rfl | hb
   ·simp
   ·exact List.mem_append_left _ hb
  have hoth : ∀ b, b ∈ c.vf.ownBlock.toList ++ [c.pg] → w'.heap[b]? = w.heap[b]? := by
   intro b hb
   have hp : (c.base qb).Perm ((qb :: c.vr.ownBlock.toList) ++ (c.vf.ownBlock.toList ++ [c.pg])) := by
    unfold CQ.base
    refine (List.perm_append_comm_assoc _ _ _).trans ?_
    have h1 : (c.vf.ownBlock.toList ++ [qb, c.pg]).Perm (qb :: (c.vf.ownBlock.toList ++ [c.pg])) := List.perm_middle
    exact (List.Perm.append_left _ h1).trans (List.perm_middle.trans (by rw [List.cons_append]))
   have h2 := (List.nodup_append.1 (hp.nodup_iff.1 hnd)).2.2
   refine hf1.block b (hQ.own.lt b (hp.mem_iff.2 (List.mem_append_right _ hb))) (fun hm => h2 b hm b hb rfl)
  refine ⟨rfl, { c with vr := vr', rs := c.rs ++ [(⟨ev.2.1 + c.wn, [ev], 1⟩, .slice (some ⟨g3, 0, none⟩) 1 1)] }, ⟨hb1, hQ.stp.same (hoth c.pg (by simp)), ?_, hQ.found.same (fun k hk => hoth k (by simp [hk])), ?_, ⟨hok.s1, hok.s8, hok.pc, hok.alt, hok.w0, hok.w1, ?_⟩⟩, ?_, ?_, ?_⟩
  ·rw [List.length_append, List.flatMap_append]
   simpa [runC] using hr1
  ·have hm := hown1.move (v := c.vr) (v' := vr') (B := c.vf.ownBlock.toList ++ [qb, c.pg]) hv1 (fun b hb => hr1.lt b hb) hf1 hdis
   refine (OWN.perm hm ?_).baseperm (List.perm_append_comm_assoc _ _ _)
   show List.Perm _ ((c.rs ++ [_]).map rp ++ c.fs.map fp)
   rw [List.map_append, List.append_assoc]
   exact List.perm_middle.symm
  ·intro x hx
   rcases List.mem_append.1 hx with hx | hx
   ·exact hok.rok x hx
   ·rw [List.mem_singleton.1 hx]
    have hw0 := hok.w0
    have hw1 := hok.w1
    exact ⟨Nat.le_refl _, by show 1 < c.st.length; omega, Nat.le_refl _, by show 0 ≤ ev.2.1 + c.wn; omega, by show ev.2.1 + c.wn ≤ 1001000; omega⟩
  ·simp [CQ.abs, addedQ, h1]
  ·refine hf1.mono (fun b hb => Or.inl (hbb b ?_))
   rcases List.mem_cons.1 hb with rfl | hb
   ·simp [CQ.base]
   ·simp only [CQ.base]; exact List.mem_append_right _ (List.mem_append_left _ hb)
  ·intro b hb
   rcases List.mem_append.1 hb with hb | hb
   ·have hb' : b ∈ c.vf.ownBlock.toList ++ (vr'.ownBlock.toList ++ [qb, c.pg]) := hb
    rcases List.mem_append.1 hb' with hb | hb
    ·exact Or.inl (hbb b (by simp only [CQ.base]; exact List.mem_append_left _ hb))
    ·rcases List.mem_append.1 hb with hb | hb
     ·rcases hv1 b (by simpa using hb) with h2 | h2
      ·exact Or.inl (hbb b (by simp [CQ.base, h2]))
      ·exact Or.inr (Or.inr h2)
     ·exact Or.inl (hbb b (by simp only [CQ.base]; exact List.mem_append_right _ (List.mem_append_right _ hb)))
   ·have hb' : b ∈ eblk ((c.rs ++ [((⟨ev.2.1 + c.wn, [ev], 1⟩ : Rn), (.slice (some ⟨g3, 0, none⟩) 1 1 : Value))]).map rp ++ c.fs.map fp) := hb
    rw [List.map_append, eblk_append, eblk_append] at hb'
    rcases List.mem_append.1 hb' with hb | hb
    ·rcases List.mem_append.1 hb with hb | hb
     ·exact Or.inl (List.mem_append_right _ (by rw [CQ.evl, eblk_append]; exact List.mem_append_left _ hb))
     ·simp [eblk, rp, Value.ownBlock] at hb
      exact Or.inr (Or.inl hb)
    ·exact Or.inl (List.mem_append_right _ (by rw [CQ.evl, eblk_append]; exact List.mem_append_right _ hb))
end Go.Proofs.YtbgfannlfagoiaaGreatDoor
