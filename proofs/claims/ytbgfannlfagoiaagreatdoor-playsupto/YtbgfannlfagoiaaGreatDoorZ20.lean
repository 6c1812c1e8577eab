import Derived.Test.YtbgfannlfagoiaaGreatDoorZ19
import Derived.Shelf.SlSortCmp.QuietGrown
namespace Go.Proofs.YtbgfannlfagoiaaGreatDoor
open Go.RowKit Go.Lull
set_option linter.unusedVariables false

/-- What show and end hand back. -/
def QPost (w : World) (qb : Nat) (c : CQ) (q : Qy) (e : Ending) (w' : World) : Prop :=
 e = .returned (.tuple #[]) ∧ ∃ c', QY w' qb c' ∧ c'.abs = q ∧ Fr (c.blocks qb) w w' ∧ (∀ b ∈ c'.blocks qb, b ∈ c.blocks qb ∨ w.heap.size ≤ b)

theorem zeroRn (w : World) : (zeroValue 193).run Tryz.prog w = .ok (.agg #[.int .i64 0, .slice none 0 0, .slice none 0 0]) w := by kernel_rfl

/-- append of a run where there is room. -/
theorem append_run_in (w : World) {p q r : Value} {ops : Array Oper} {rest : List Oper} {o : Oper} {a : Act} {Q : Exit → Act → World → Prop} (hgd : o.guard = none) (s x : Operand)
  (ho : o.op = .call { callee := .builtin .append, args := #[s, x], argTypes := #[164, 164] })
  (g off n cap : Nat) (hv : a.eval s = .slice (some ⟨g, off, none⟩) n cap) (cur : Array Value) (hg : (w.alloc (.cells #[p, q, r] 193)).heap[g]? = some (.cells cur 193 (0, 0))) (hcs : off + cap * 3 ≤ cur.size)
  (hxv : a.eval x = .slice (some ⟨w.heap.size, 0, none⟩) 1 1) (h1 : p.oneCell' = true) (h2 : q.oneCell' = true) (h3 : r.oneCell' = true) (hroom : n + 1 ≤ cap)
  (h : wpList Tryz.prog ops Q rest (a.put o.dst (.slice (some ⟨g, off, none⟩) (n + 1) cap)) ((w.alloc (.cells #[p, q, r] 193)).setCells g (off + n * 3) [p, q, r])) :
  wpList Tryz.prog ops Q (o :: rest) a (w.alloc (.cells #[p, q, r] 193)) := by
 obtain ⟨i0, hi, hz0, hz1, hz2⟩ := info_parts Tryz.infoRn
 exact wpList_append_in hgd s x 164 ho i0 Tryz.underlying164 hi hz1 g off n cap hv cur hg hcs 1 [p, q, r] _ hxv (Src.ofSlice _ Tryz.underlying164 _ 1 1 _ rfl (three_at w _ _ _ _ _ rfl) (by simp [h1, h2, h3])) hroom h

set_option maxRecDepth 8000 in
set_option maxHeartbeats 4000000 in
theorem show_row (w : World) (qb g off cap : Nat) (c : CQ) (ev : Ev) (hQ : QY w qb c) (hv : c.vr = .slice (some ⟨g, off, none⟩) c.rs.length cap) (hn : c.fs.length + c.rs.length ≤ 536870912) (ht0 : 0 ≤ ev.2.1) (ht1 : ev.2.1 ≤ 1000000) :
  Calls Tryz.prog 165 #[.pointer (some ⟨qb, 0, none⟩), .agg #[.int .i64 ev.1, .int .i64 ev.2.1, .int .u8 ev.2.2.1.toNat, .int .i64 ev.2.2.2]] w (QPost w qb c (showQ c.abs ev)) := by
 obtain ⟨cur, hg, hcap, hmax, hcl, hcr⟩ : ∃ cur : Array Value, w.heap[g]? = some (.cells cur 193 (0, 0)) ∧ c.rs.length ≤ cap ∧ cap ≤ maxLen ∧ off + cap * 3 ≤ cur.size ∧ (cur.toList.drop off).take (c.rs.length * 3) = c.rs.flatMap (runC c.pg c.st.length c.pc) := by
  rcases hQ.runs.2 with ⟨e, _⟩ | ⟨g', off', cap', cur, e, h1, h2, h3, h4, h5⟩
  ·rw [hv] at e; cases e
  ·rw [hv] at e; cases e; exact ⟨cur, h1, h2, h3, h4, h5⟩
 have hC : CUR cur.toList off cap c := ⟨by simpa using hcl, hcap, hcr⟩
 have hS0 := SH.start (e := ev) hQ hv cur hg
 have hok := hQ.ok
 have hqb : qb < w.heap.size := hQ.lt qb (by simp [CQ.blocks, CQ.base])
 have hq3 : w.cell? ⟨qb, 3, none⟩ = some (.slice (some ⟨g, off, none⟩) c.rs.length cap) := by
  rw [cell_of_row w qb 3 _ _ _ hQ.blk, ← hv]; rfl
 obtain ⟨es, et, ek, evv⟩ := ev
 simp only at ht0 ht1 hS0 ⊢
 have HS0 := Hid.mk' hS0
 have HC := Hid.mk' hC
 have HOK := Hid.mk' hok
 have HQ := Hid.mk' hQ
 clear hS0 hC hok hQ hg hcl hcr
 obtain ⟨qq, hq2⟩ : ∃ qq, showQ c.abs (es, et, ek, evv) = qq := ⟨_, rfl⟩
 rw [hq2]
 have HQ2 := Hid.mk' hq2
 clear hq2
 go_enter Tryz.func165, Tryz.ntmps165
 go_wp2
 obtain ⟨w1, hw1⟩ : ∃ w1, w.alloc (.cells #[.int .i64 es, .int .i64 et, .int .u8 ek.toNat, .int .i64 evv] 75) = w1 := ⟨_, rfl⟩
 rw [hw1]
 have HS1 : Hid (SH w w1 qb w.heap.size g off cap cur.toList c (es, et, ek, evv) 0 [] [] c.vf) := by rw [← hw1]; exact HS0.out
 clear hw1 HS0
 go_loopw [4, 17] (fun v i wr => ∃ (k : Nat) (on : List (Rn × Value)) (told : List (Mt × Value)) (vf : Value), v = .slice (some ⟨g, off, none⟩) on.length cap ∧ i = .int .i64 k ∧ k ≤ c.rs.length ∧ Hid (SH w wr qb w.heap.size g off cap cur.toList c (es, et, ek, evv) k on told vf)) (fun _ i _ => c.rs.length - (intOf i).toNat)
 case atStart => exact ⟨0, [], [], c.vf, rfl, rfl, Nat.zero_le _, HS1⟩
 case round =>
  obtain ⟨k, on, told, vf, rfl, rfl, hk, HS⟩ := hrel
  by_cases hlt : k < c.rs.length
  ·obtain ⟨⟨r, tv⟩, hx⟩ : ∃ x, c.rs[k] = x := ⟨_, rfl⟩
   obtain ⟨dl, tk, rk⟩ := r
   have hrok : ROk c.st ⟨dl, tk, rk⟩ := by have := HOK.out.rok c.rs[k] (List.getElem_mem hlt); rw [hx] at this; exact this
   obtain ⟨hr1, hr2, hr3, hr4, hr5⟩ := hrok
   simp only at hr1 hr2 hr3 hr4 hr5
   have c0 := HS.out.run HC.out hlt 0 (by omega)
   have c1 := HS.out.run HC.out hlt 1 (by omega)
   have c2 := HS.out.run HC.out hlt 2 (by omega)
   rw [hx] at c0 c1 c2
   simp [runC] at c0 c1 c2
   have hN : wr.heap[w.heap.size]? = some (.cells #[.int .i64 es, .int .i64 et, .int .u8 ek.toNat, .int .i64 evv] 75 (0, 0)) := HS.out.box
   have hNl := lt_of_block hN
   have e0 := cell_of_row wr w.heap.size 0 _ _ _ hN
   have e1 := cell_of_row wr w.heap.size 1 _ _ _ hN
   have e2 := cell_of_row wr w.heap.size 2 _ _ _ hN
   have e3 := cell_of_row wr w.heap.size 3 _ _ _ hN
   simp at e0 e1 e2 e3
   have hfront := HS.out.own.perm (HS.out.front hlt)
   have htv : EvR wr tv tk := by have := hfront.ev (rp c.rs[k]) List.mem_cons_self; rw [hx] at this; exact this
   have hs8 := HOK.out.s8
   have hpc := HOK.out.pc
   obtain ⟨ta, tc, rfl⟩ := own_form htv
   have hsee : Hid (∀ W : World, W = wr.alloc (.cells #[.int .i64 dl, .slice ta tk.length tc, .slice (some ⟨c.pg, rk, none⟩) (c.st.length - rk) (c.pc - rk)] 193) →
     Calls Tryz.prog 167 #[.pointer (some ⟨wr.heap.size, 0, none⟩), .agg #[.int .i64 es, .int .i64 et, .int .u8 ek.toNat, .int .i64 evv]] W (SeePost W wr.heap.size c.pg rk (c.pc - rk) dl (c.st.drop rk) tk (.slice ta tk.length tc) (es, et, ek, evv) (seeL (es, et, ek, evv) (c.st.drop rk) 0))) := by
    intro W hW
    have hpg : c.pg < wr.heap.size := HS.out.own.lt c.pg (by simp)
    refine see_any wr.heap.size c.pg rk (c.pc - rk) dl (c.st.drop rk) tk (.slice ta tk.length tc) (es, et, ek, evv) W (by simp; omega) (by simp; omega) (by omega) ?_ ?_ ?_ ?_ ?_ ?_
    ·rw [hW, heap_alloc_new, List.length_drop]
    ·exact (HS.out.stp.same (by rw [hW, Below.heap_alloc _ _ _ hpg])).drop rk
    ·rw [hW]; simp; omega
    ·omega
    ·rw [hW]; exact htv.alloc _
    ·intro e
     have := own_lt htv _ e
     omega
   cases hs : seeL (es, et, ek, evv) (c.st.drop rk) 0 with
   | fails =>
    rw [hs] at hsee
    obtain ⟨hk1, ht1'⟩ := keep_fails (num := c.num) (r := ⟨dl, tk, rk⟩) hr2 HOK.out.alt hs
    have hnext : Hid (∀ W', Below (wr.heap.size + 1) (wr.alloc (.cells #[.int .i64 dl, .slice ta tk.length tc, .slice (some ⟨c.pg, rk, none⟩) (c.st.length - rk) (c.pc - rk)] 193)) W' → SH w W' qb w.heap.size g off cap cur.toList c (es, et, ek, evv) (k + 1) on told vf) := by
     intro W' hb
     refine HS.out.fails (F := []) hlt ?_ (by simp) (by rw [hx]; exact hk1) (by rw [hx]; exact ht1')
     exact Fr.of_below _ (((Below.refl _ wr).alloc (Nat.le_refl _) _).trans (hb.mono (by omega)))
    clear hk1 ht1' hs hfront hN htv
    go_wp2_with (go_at_call 167; refine (hsee.out _ rfl).mono ?_; rintro e w2 ⟨rfl, hb⟩)
    go_roundw
    case rel => exact ⟨k + 1, on, told, vf, rfl, by go_num, by omega, hnext.out _ (by simpa using hb)⟩
    case measure => simp [intOf]; omega
   | on =>
    rw [hs] at hsee
    obtain ⟨hk1, ht1'⟩ := keep_on (num := c.num) (r := ⟨dl, tk, rk⟩) hr2 HOK.out.alt hs
    have hgl : g < wr.heap.size := HS.out.own.lt g (by simp)
    have hnext : Hid (∀ W' o, Below (wr.heap.size + 1) (wr.alloc (.cells #[.int .i64 dl, .slice ta tk.length tc, .slice (some ⟨c.pg, rk, none⟩) (c.st.length - rk) (c.pc - rk)] 193)) W' →
      W'.heap[wr.heap.size]? = some (.cells #[.int .i64 dl, .slice ta tk.length tc, .slice (some ⟨c.pg, rk, none⟩) (c.st.length - rk) (c.pc - rk)] 193 (0, 0)) ∧
      (W'.alloc o).heap[g]? = some (.cells (cur.toList.take off ++ on.flatMap (runC c.pg c.st.length c.pc) ++ cur.toList.drop (off + on.length * 3)).toArray 193 (0, 0)) ∧
      SH w ((W'.alloc o).setCells g (off + on.length * 3) [.int .i64 dl, .slice ta tk.length tc, .slice (some ⟨c.pg, rk, none⟩) (c.st.length - rk) (c.pc - rk)]) qb w.heap.size g off cap cur.toList c (es, et, ek, evv) (k + 1) (on ++ [(⟨dl, tk, rk⟩, .slice ta tk.length tc)]) told vf) := by
     intro W' o hb
     have hB : Below wr.heap.size wr W' := ((Below.refl _ wr).alloc (Nat.le_refl _) _).trans (hb.mono (by omega))
     refine ⟨?_, ?_, ?_⟩
     ·rw [hb.block _ (by omega)]; exact heap_alloc_new _ _
     ·rw [Below.heap_alloc _ _ _ (Nat.lt_of_lt_of_le hgl hB.size), hB.block g hgl]; exact HS.out.cells
     ·refine HS.out.kept (x := (⟨dl, tk, rk⟩, .slice ta tk.length tc)) (F := []) HC.out hlt ((Fr.of_below _ hB).alloc o) (by simp) ?_ (by rw [hx]; exact fun b hb => Or.inl hb) ⟨hr1, hr2, hr3, hr4, hr5⟩ (by rw [hx]; exact hk1) (by rw [hx]; exact ht1')
      exact ((Fr.of_below [] hB).alloc o).own htv (by simp)
    have hroom : Hid (on.length + 1 ≤ cap) := by have := HS.out.le; show _ ≤ _; omega
    have hcs : Hid (off + cap * 3 ≤ (cur.toList.take off ++ on.flatMap (runC c.pg c.st.length c.pc) ++ cur.toList.drop (off + on.length * 3)).toArray.size) := by
     have h1 := HC.out.len
     have h2 := HS.out.le
     unfold Hid
     simp only [List.size_toArray, List.length_append, List.length_take, List.length_drop, runC_len]
     omega
    clear hk1 ht1' hs hfront hN htv
    go_wp2_with (first | (at_builtin; refine append_run_in w2 rfl _ _ rfl g off on.length cap rfl _ HGW.out hcs.out rfl rfl rfl rfl hroom.out ?_) | (go_at_call 167; refine (hsee.out _ rfl).mono ?_; rintro e w2 ⟨rfl, hb⟩; obtain ⟨hbox, hgW, hSH⟩ := hnext.out w2 (.cells #[.int .i64 dl, .slice ta tk.length tc, .slice (some ⟨c.pg, rk, none⟩) (c.st.length - rk) (c.pc - rk)] 193) (by simpa using hb); have b0 := cell_of_row _ _ 0 _ _ _ hbox; have b1 := cell_of_row _ _ 1 _ _ _ hbox; have b2 := cell_of_row _ _ 2 _ _ _ hbox; simp at b0 b1 b2; have HGW := Hid.mk' hgW; have HSH := Hid.mk' hSH; clear hgW hSH hbox hb))
    go_roundw
    case rel => exact ⟨k + 1, on ++ [(⟨dl, tk, rk⟩, .slice ta tk.length tc)], told, vf, by simp, by go_num, by omega, HSH⟩
    case measure => simp [intOf]; omega
   | took j =>
    rw [hs] at hsee
    have hjl := seeL_took _ _ _ hs
    rw [List.length_drop] at hjl
    have hgl : g < wr.heap.size := HS.out.own.lt g (by simp)
    obtain ⟨bo, hbo⟩ : ∃ bo, Obj.cells #[Value.int .i64 dl, .slice ta tk.length tc, .slice (some ⟨c.pg, rk, none⟩) (c.st.length - rk) (c.pc - rk)] 193 = bo := ⟨_, rfl⟩
    have hF : ∀ b ∈ wr.heap.size :: (Value.slice ta tk.length tc).ownBlock.toList, wr.heap.size ≤ b ∨ c.rs[k].2.ownBlock = some b := by
     intro b hb
     rcases List.mem_cons.1 hb with rfl | hb
     ·exact Or.inl (Nat.le_refl _)
     ·rw [hx]; exact Or.inr (by simpa using hb)
    have hNF : ∀ b ∈ wr.heap.size :: (Value.slice ta tk.length tc).ownBlock.toList, b ∉ vf.ownBlock.toList ++ [w.heap.size, g, qb, c.pg] := by
     intro b hb hm
     rcases hF b hb with h1 | h1
     ·exact absurd (HS.out.own.lt b hm) (Nat.not_lt.2 h1)
     ·exact hfront.disj hm (mem_eblk.2 ⟨rp c.rs[k], List.mem_cons_self, h1⟩)
    have hevr : ∀ (W : World) (v : Value), W.ownsRow 0 75 4 v (tk.length + 1) (tk.flatMap evC ++ evC (es, et, ek, evv)) → EvR W v (tk ++ [(es, et, ek, evv)]) := by
     intro W v h
     unfold EvR
     rw [List.length_append, List.flatMap_append]
     simpa using h
    have HF := Hid.mk' hF
    have HNF := Hid.mk' hNF
    have HEV := Hid.mk' hevr
    clear hF hNF hevr
    by_cases hd : rk + j = c.st.length
    ·obtain ⟨hk1, ht1'⟩ := keep_done (num := c.num) (r := ⟨dl, tk, rk⟩) hr2 HOK.out.alt hs hd
     have hif : (if (c.st.drop rk).length ≤ j then (2 : Int) else 0) = 2 := by rw [if_pos (by simp; omega)]
     have hsee2 : Hid (∀ W : World, W = wr.alloc bo → Calls Tryz.prog 167 #[.pointer (some ⟨wr.heap.size, 0, none⟩), .agg #[.int .i64 es, .int .i64 et, .int .u8 ek.toNat, .int .i64 evv]] W fun e w2 => ∃ ta' tc' lp ln lc, e = .returned (.int .i64 2) ∧ w2.heap[wr.heap.size]? = some (.cells #[.int .i64 dl, .slice ta' (tk.length + 1) tc', .slice lp ln lc] 193 (0, 0)) ∧ w2.cell? ⟨w.heap.size, 1, none⟩ = some (.int .i64 et) ∧
       Hid (Calls Tryz.prog 168 #[.pointer (some ⟨qb, 0, none⟩), .agg #[.int .i64 dl, .slice ta' (tk.length + 1) tc', .slice lp ln lc], .int .i64 et] w2 fun e w3 => e = .returned (.tuple #[]) ∧ ∃ vf', Hid (SH w w3 qb w.heap.size g off cap cur.toList c (es, et, ek, evv) (k + 1) on (told ++ [(⟨c.num, et, tk ++ [(es, et, ek, evv)]⟩, .slice ta' (tk.length + 1) tc')]) vf'))) := by
      intro W hW
      refine (hsee.out W (by rw [hbo]; exact hW)).mono ?_
      rintro e w2 ⟨tv', lp, ln, lc, rfl, hbx, hlv, ho, hfr, htb⟩
      rw [hif]
      obtain ⟨ta', tc', rfl⟩ := own_form ho
      have hfr2 : Fr (wr.heap.size :: (Value.slice ta tk.length tc).ownBlock.toList) wr w2 := by
       rw [hW] at hfr
       exact ((Fr.refl _ wr).alloc bo).trans hfr
      have hbl : ∀ b ∈ vf.ownBlock.toList ++ [w.heap.size, g, qb, c.pg], w2.heap[b]? = wr.heap[b]? := fun b hb => hfr2.block b (HS.out.own.lt b hb) (fun hm => HNF.out b hm hb)
      have hblk2 : w2.heap[qb]? = some (.cells (qCells c (.slice (some ⟨g, off, none⟩) c.rs.length cap) vf) 166 (0, 0)) := by rw [hbl qb (by simp)]; exact HS.out.blk
      have hrow2 : Row w2 58 3 vf (c.fs.length + told.length) ((c.fs ++ told).flatMap matC) := HS.out.found.same (fun b hb => hbl b (by simp [hb]))
      have htl : told.length ≤ k := by
       have := congrArg List.length HS.out.ato
       rw [List.length_map] at this
       rw [this]
       refine Nat.le_trans (List.length_filterMap_le _ _) ?_
       simp; omega
      refine ⟨ta', tc', lp, ln, lc, rfl, hbx, ?_, ?_⟩
      ·rw [World.cell?_of_block (a := ⟨w.heap.size, 1, none⟩) (hbl w.heap.size (by simp)), cell_of_row wr w.heap.size 1 _ _ _ HS.out.box]
       rfl
      ·refine (tell_any w2 qb (c.fs.length + told.length) c.num et dl _ _ _ vf _ _ (tk.length + 1) tc' ta' _ (by omega) rfl ⟨_, _, _, rfl⟩ hblk2 hrow2).mono ?_
       rintro e w3 ⟨rfl, vf', h1, h2, h3, h4⟩
       refine ⟨rfl, vf', ?_⟩
       refine HS.out.tell (x := (⟨c.num, et, tk ++ [(es, et, ek, evv)]⟩, .slice ta' (tk.length + 1) tc')) hlt hfr2 HF.out (HEV.out _ _ ho) ?_ (by rw [hx]; exact hk1) (by rw [hx]; exact ht1') h1 ?_ h3 h4
       ·intro b hb
        rw [hx]
        refine (htb b hb).imp id (fun h => ?_)
        rw [hW] at h
        simp at h
        omega
       ·exact h2
     clear hsee hk1 ht1' hs hfront hN htv hif HF HNF HEV
     subst hbo
     go_wp2_with (first | (go_at_call 167; refine (hsee2.out _ rfl).mono ?_; rintro e w2 ⟨ta', tc', lp, ln, lc, rfl, hbx, he1, htell⟩; have b0 := cell_of_row _ _ 0 _ _ _ hbx; have b1 := cell_of_row _ _ 1 _ _ _ hbx; have b2 := cell_of_row _ _ 2 _ _ _ hbx; simp at b0 b1 b2; clear hbx) | (go_at_call 168; refine htell.out.mono ?_; rintro e w3 ⟨rfl, vf', HSH⟩))
     go_roundw
     case rel => exact ⟨k + 1, on, _, vf', rfl, by go_num, by omega, HSH⟩
     case measure => simp [intOf]; omega
    ·obtain ⟨hk1, ht1'⟩ := keep_took (num := c.num) (r := ⟨dl, tk, rk⟩) hr2 HOK.out.alt hs hd
     have hif : (if (c.st.drop rk).length ≤ j then (2 : Int) else 0) = 0 := by rw [if_neg (by simp; omega)]
     have hroom : Hid (on.length + 1 ≤ cap) := by have := HS.out.le; show _ ≤ _; omega
     have hcs : Hid (off + cap * 3 ≤ (cur.toList.take off ++ on.flatMap (runC c.pg c.st.length c.pc) ++ cur.toList.drop (off + on.length * 3)).toArray.size) := by
      have h1 := HC.out.len
      have h2 := HS.out.le
      unfold Hid
      simp only [List.size_toArray, List.length_append, List.length_take, List.length_drop, runC_len]
      omega
     have hsee2 : Hid (∀ W : World, W = wr.alloc bo → Calls Tryz.prog 167 #[.pointer (some ⟨wr.heap.size, 0, none⟩), .agg #[.int .i64 es, .int .i64 et, .int .u8 ek.toNat, .int .i64 evv]] W fun e w2 => ∃ ta' tc', e = .returned (.int .i64 0) ∧ w2.heap[wr.heap.size]? = some (.cells #[.int .i64 dl, .slice ta' (tk.length + 1) tc', .slice (some ⟨c.pg, rk + j, none⟩) (c.st.length - (rk + j)) (c.pc - (rk + j))] 193 (0, 0)) ∧
       Hid (∀ o, (w2.alloc o).heap[g]? = some (.cells (cur.toList.take off ++ on.flatMap (runC c.pg c.st.length c.pc) ++ cur.toList.drop (off + on.length * 3)).toArray 193 (0, 0)) ∧
        SH w ((w2.alloc o).setCells g (off + on.length * 3) [.int .i64 dl, .slice ta' (tk.length + 1) tc', .slice (some ⟨c.pg, rk + j, none⟩) (c.st.length - (rk + j)) (c.pc - (rk + j))]) qb w.heap.size g off cap cur.toList c (es, et, ek, evv) (k + 1) (on ++ [(⟨dl, tk ++ [(es, et, ek, evv)], rk + j⟩, .slice ta' (tk.length + 1) tc')]) told vf)) := by
      intro W hW
      refine (hsee.out W (by rw [hbo]; exact hW)).mono ?_
      rintro e w2 ⟨tv', lp, ln, lc, rfl, hbx, hlv, ho, hfr, htb⟩
      rw [hif]
      obtain ⟨ta', tc', rfl⟩ := own_form ho
      obtain ⟨rfl, rfl, rfl⟩ := hlv (by simp; omega)
      have hfr2 : Fr (wr.heap.size :: (Value.slice ta tk.length tc).ownBlock.toList) wr w2 := by
       rw [hW] at hfr
       exact ((Fr.refl _ wr).alloc bo).trans hfr
      have hbl : ∀ b ∈ vf.ownBlock.toList ++ [w.heap.size, g, qb, c.pg], w2.heap[b]? = wr.heap[b]? := fun b hb => hfr2.block b (HS.out.own.lt b hb) (fun hm => HNF.out b hm hb)
      rw [List.length_drop, Nat.sub_sub, Nat.sub_sub] at hbx
      refine ⟨ta', tc', rfl, hbx, fun o => ⟨?_, ?_⟩⟩
      ·rw [Below.heap_alloc _ _ _ (Nat.lt_of_lt_of_le hgl hfr2.size), hbl g (by simp)]; exact HS.out.cells
      ·refine HS.out.kept (x := (⟨dl, tk ++ [(es, et, ek, evv)], rk + j⟩, .slice ta' (tk.length + 1) tc')) HC.out hlt (hfr2.alloc o) HF.out ?_ ?_ ⟨by show 1 ≤ rk + j; omega, by show rk + j < _; omega, by simp; omega, hr4, hr5⟩ (by rw [hx]; exact hk1) (by rw [hx]; exact ht1')
       ·exact ((Fr.refl [] w2).alloc o).own (HEV.out _ _ ho) (by simp)
       ·intro b hb
        rw [hx]
        refine (htb b hb).imp id (fun h => ?_)
        rw [hW] at h
        simp at h
        omega
     clear hsee hk1 ht1' hs hfront hN htv hif HF HNF HEV
     subst hbo
     go_wp2_with (first | (at_builtin; refine append_run_in w2 rfl _ _ rfl g off on.length cap rfl _ (hnx.out _).1 hcs.out rfl rfl rfl rfl hroom.out ?_) | (go_at_call 167; refine (hsee2.out _ rfl).mono ?_; rintro e w2 ⟨ta', tc', rfl, hbx, hnx⟩; have b0 := cell_of_row _ _ 0 _ _ _ hbx; have b1 := cell_of_row _ _ 1 _ _ _ hbx; have b2 := cell_of_row _ _ 2 _ _ _ hbx; simp at b0 b1 b2; clear hbx))
     go_roundw
     case rel => exact ⟨k + 1, on ++ [(⟨dl, tk ++ [(es, et, ek, evv)], rk + j⟩, .slice ta' (tk.length + 1) tc')], told, vf, by simp, by go_num, by omega, Hid.mk' (hnx.out _).2⟩
     case measure => simp [intOf]; omega
  ·obtain rfl : k = c.rs.length := by omega
   have hon := HS.out.le
   have hzl : (Builtin.zeroCells #[Value.int .i64 0, .slice none 0 0, .slice none 0 0] (c.rs.length - on.length)).toList.length = (c.rs.length - on.length) * 3 := by rw [Array.length_toList, size_zeroCells]; rfl
   obtain ⟨f1, f2, f3, f4, f5, f6⟩ := HS.out.finish HC.out HOK.out hmax hzl (Nat.le_refl _)
   have hblk := HS.out.blk
   have q3 := cell_of_row wr qb 3 _ _ _ hblk
   have fz3 := frozen_of_row wr qb 3 _ _ hblk
   simp [qCells] at q3
   have hlen1 : told.length ≤ c.rs.length := by
    have := congrArg List.length HS.out.ato
    rw [List.length_map] at this
    rw [this]
    refine Nat.le_trans (List.length_filterMap_le _ _) ?_
    simp
   have hcs : off + cap * 3 ≤ (cur.toList.take off ++ on.flatMap (runC c.pg c.st.length c.pc) ++ cur.toList.drop (off + on.length * 3)).toArray.size := by
    have h1 := HC.out.len
    simp only [List.size_toArray, List.length_append, List.length_take, List.length_drop, runC_len]
    omega
   have hcl : ∀ ty, (Builtin.clear_ #[164] ty #[.slice (some ⟨g, off + on.length * 3, none⟩) (c.rs.length - on.length) (cap - on.length)]).run Tryz.prog wr = .ok (.tuple #[]) (wr.setCells g (off + on.length * 3) (Builtin.zeroCells #[Value.int .i64 0, .slice none 0 0, .slice none 0 0] (c.rs.length - on.length)).toList) := by
    intro ty
    exact run_clear_cells (size := 3) 164 ty _ Tryz.underlying164 (zeroRn wr) (by simp [Value.cells, Value.oneCell']) rfl g (off + on.length * 3) (c.rs.length - on.length) (cap - on.length) _ HS.out.cells (by omega)
   have hcl0 : ∀ ty (a : Option Addr) (n : Nat), (Builtin.clear_ #[164] ty #[.slice a 0 n]).run Tryz.prog wr = .ok (.tuple #[]) wr := fun ty a n => by
    cases a <;> simp [Builtin.clear_, run_underlying Tryz.underlying164]
   have hsum : Hid ({ c with vr := .slice (some ⟨g, off, none⟩) on.length cap, rs := on, vf := vf, fs := c.fs ++ told : CQ }.fs.length + { c with vr := .slice (some ⟨g, off, none⟩) on.length cap, rs := on, vf := vf, fs := c.fs ++ told : CQ }.rs.length ≤ 1073741824) := by
    show (c.fs ++ told).length + on.length ≤ 1073741824
    rw [List.length_append]; omega
   obtain ⟨zs, hzs⟩ : ∃ zs, (Builtin.zeroCells #[Value.int .i64 0, .slice none 0 0, .slice none 0 0] (c.rs.length - on.length)).toList = zs := ⟨_, rfl⟩
   rw [hzs] at f1 f3 f5 hcl hzl
   obtain ⟨c1, hc1⟩ : ∃ c1, { c with vr := .slice (some ⟨g, off, none⟩) on.length cap, rs := on, vf := vf, fs := c.fs ++ told : CQ } = c1 := ⟨_, rfl⟩
   rw [hc1] at f1 f2 f4 f6 hsum
   obtain ⟨W, hW⟩ : ∃ W, (wr.setCells g (off + on.length * 3) zs).setCell ⟨qb, 3, none⟩ (.slice (some ⟨g, off, none⟩) on.length cap) = W := ⟨_, rfl⟩
   rw [hW] at f1 f3 f5
   have fz3' : (wr.setCells g (off + on.length * 3) zs).frozen? ⟨qb, 3, none⟩ = false := by rw [World.frozen?_setCells]; exact fz3
   have hgq : qb ≠ g := by
    intro e
    have h1 := HS.out.cells
    rw [← e, hblk] at h1
    injection h1 with h2
    injection h2 with _ h3
    exact absurd h3 (by decide)
   have q3' : (wr.setCells g (off + on.length * 3) zs).cell? ⟨qb, 3, none⟩ = some (.slice (some ⟨g, off, none⟩) c.rs.length cap) := by
    rw [World.cell?_of_block (a := ⟨qb, 3, none⟩) (setCells_other g hgq zs _ wr)]; exact q3
   have HQ1 := Hid.mk' f1
   have HA1 := Hid.mk' f2
   have HF1 := Hid.mk' f3
   have HU1 := Hid.mk' f4
   have HN1 := Hid.mk' f5
   have HL1 := hsum
   have hzW : Hid (cap = on.length → zs = []) := by
    intro h
    apply List.eq_nil_of_length_eq_zero
    rw [hzl]; omega
   have HWW := Hid.mk' hW
   clear f1 f2 f3 f4 f5 f6 hsum hblk hcs hzs hzl hc1 hW HS
   by_cases hce : cap = on.length
   ·have hz0 : c.rs.length - on.length = 0 := by omega
    have hWe : wr.setCell ⟨qb, 3, none⟩ (.slice (some ⟨g, off, none⟩) on.length cap) = W := by
     rw [← HWW.out, hzW.out hce]; rfl
    have HWe : Hid (wr.setCell ⟨qb, 3, none⟩ (.slice (some ⟨g, off, none⟩) on.length on.length) = W) := by rw [hce] at hWe; exact hWe
    clear hWe hcl
    go_wp2_with (simp only [hcl0])
    rw [HWe.out]
    clear q3 q3' fz3 fz3' hcl0
    have hok1 := HQ1.out.ok
    have hs1 := hok1.s1
    obtain ⟨x0, str, hst⟩ : ∃ x0 str, c1.st = x0 :: str := by
     cases h : c1.st with
     | nil => rw [h] at hs1; simp at hs1
     | cons a b => exact ⟨a, b, rfl⟩
    have hc0 : W.cell? ⟨c1.pg, 0, none⟩ = some (stepV x0) := by
     have := HQ1.out.stp 0 (by omega)
     simp [hst] at this
     exact this
    have q1 := cell_of_row W qb 1 _ _ _ HQ1.out.blk
    have q2 := cell_of_row W qb 2 _ _ _ HQ1.out.blk
    have e0 := cell_of_row W w.heap.size 0 _ _ _ HN1.out
    have e1 := cell_of_row W w.heap.size 1 _ _ _ HN1.out
    have e2 := cell_of_row W w.heap.size 2 _ _ _ HN1.out
    have e3 := cell_of_row W w.heap.size 3 _ _ _ HN1.out
    simp [qCells, evC] at q1 q2 e0 e1 e2 e3
    have hM := fun W' => matches_grown x0.2 x0.1 (es, et, ek, evv) W'
    have hget : c1.abs.st.getD 0 noStep = x0 := by show c1.st.getD 0 noStep = x0; rw [hst]; rfl
    obtain ⟨T, hT, mT, nT⟩ : ∃ T, stepV x0 = .iface T (.agg #[.int .u8 x0.2.1.toNat, .int .u8 x0.2.2.1.toNat, .int .i64 x0.2.2.2]) ∧
      (∀ (W : World) (a b c : Value), (method 364 T (.agg #[a, b, c]) "Matches").run Tryz.prog W = .ok (177, .agg #[a, b, c]) W) ∧
      (∀ (W : World) (a b c : Value), (nilAhead 364 T (.agg #[a, b, c]) "Matches").run Tryz.prog W = .ok (some false) W) := by
     cases h : x0.1 with
     | true => exact ⟨_, by simp [stepV, h], not_m, not_n⟩
     | false => exact ⟨_, by simp [stepV, h], must_m, must_n⟩
    rw [hT] at hc0
    obtain ⟨xn, xk, xg, xv⟩ := x0
    simp only at hc0 hM
    have hpc1 := hok1.pc
    have hWz : w.heap.size < W.heap.size := lt_of_block HN1.out
    have hqb1 : qb < W.heap.size := HQ1.out.lt qb (by simp [CQ.blocks, CQ.base])
    have hpgl : c1.pg < W.heap.size := HQ1.out.lt c1.pg (by simp [CQ.blocks, CQ.base])
    cases hf : fitsB (xn, xk, xg, xv) (es, et, ek, evv) with
    | false =>
     have hM2 : ∀ W', Calls Tryz.prog 177 #[.agg #[.int .u8 xk.toNat, .int .u8 xg.toNat, .int .i64 xv], .agg #[.int .i64 es, .int .i64 et, .int .u8 ek.toNat, .int .i64 evv]] W' fun e w' => e = .returned (.bool false) ∧ ∃ q os', w' = Go.Sort.grow (W'.drewN q) os' := by
      intro W'
      have := hM W'
      simp only [hf] at this
      exact this.mono (fun e w' ⟨h1, os, h2⟩ => ⟨h1, 0, os, h2⟩)
     have hend : Hid (∀ w2, Below W.heap.size W w2 → QPost w qb c qq (.returned (.tuple #[])) w2) := by
      intro w2 hb
      refine ⟨rfl, c1, HQ1.out.fr (Fr.of_below [] hb) (by simp), ?_, HF1.out.trans (Fr.of_below _ hb), HU1.out⟩
      rw [← HQ2.out]
      show _ = beginQ (shownQ c.abs _) _
      rw [← HA1.out, beginQ_not (by rw [hget]; exact hf)]
     clear hM hf hst hT hget
     have g1 := cell_grown hqb1 q1
     have g2 := cell_grown hpgl hc0
     have g3 := cell_grown hWz e0
     have g4 := cell_grown hWz e1
     have g5 := cell_grown hWz e2
     have g6 := cell_grown hWz e3
     have hs0 : 0 < c1.st.length := hs1
     have hs0' : (0 : Int) < (c1.st.length : Int) := by omega
     refine wp_region_quiet_grown (by kernel_rfl) (by kernel_rfl) ?_
     repeat (quiet_step (first | (go_at_call 177; refine Calls.grown_of (hM2 _))))
     refine wpQuiet_nil ?_
     intro _ hw'
     obtain ⟨⟨nq, osq⟩, hw''⟩ := hw'
     subst hw''
     have hb : Below W.heap.size W (Go.Sort.grow (W.drewN nq) osq) := ⟨rfl, rfl, rfl, (grow_below (W.drewN nq) osq).size, fun k hk => (grow_below (W.drewN nq) osq).block k hk⟩
     clear g1 g2 g3 g4 g5 g6
     obtain ⟨w2, hw2⟩ : ∃ w2, Go.Sort.grow (W.drewN nq) osq = w2 := ⟨_, rfl⟩
     rw [hw2] at hb ⊢
     clear hw2
     go_wp2
     go_end0
     exact hend.out _ hb
    | true =>
     have hM2 : ∀ W', Calls Tryz.prog 177 #[.agg #[.int .u8 xk.toNat, .int .u8 xg.toNat, .int .i64 xv], .agg #[.int .i64 es, .int .i64 et, .int .u8 ek.toNat, .int .i64 evv]] W' fun e w' => e = .returned (.bool true) ∧ ∃ q os', w' = Go.Sort.grow (W'.drewN q) os' := by
      intro W'
      have := hM W'
      simp only [hf] at this
      exact this.mono (fun e w' ⟨h1, os, h2⟩ => ⟨h1, 0, os, h2⟩)
     have hcells : Hid (∀ w2, Below W.heap.size W w2 → w2.cell? ⟨qb, 1, none⟩ = some (.slice (some ⟨c1.pg, 0, none⟩) c1.st.length c1.pc) ∧ w2.cell? ⟨qb, 2, none⟩ = some (.int .i64 c1.wn) ∧ w2.cell? ⟨w.heap.size, 0, none⟩ = some (.int .i64 es) ∧ w2.cell? ⟨w.heap.size, 1, none⟩ = some (.int .i64 et) ∧ w2.cell? ⟨w.heap.size, 2, none⟩ = some (.int .u8 ek.toNat) ∧ w2.cell? ⟨w.heap.size, 3, none⟩ = some (.int .i64 evv)) := by
      intro w2 hb
      exact ⟨(hb.cell (p := ⟨qb, 1, none⟩) hqb1).trans q1, (hb.cell (p := ⟨qb, 2, none⟩) hqb1).trans q2, (hb.cell (p := ⟨w.heap.size, 0, none⟩) hWz).trans e0, (hb.cell (p := ⟨w.heap.size, 1, none⟩) hWz).trans e1, (hb.cell (p := ⟨w.heap.size, 2, none⟩) hWz).trans e2, (hb.cell (p := ⟨w.heap.size, 3, none⟩) hWz).trans e3⟩
     have hbeg : Hid (∀ w2, Calls Tryz.prog 170 #[.agg #[.slice (some ⟨c1.pg, 0, none⟩) c1.st.length c1.pc, .int .i64 c1.wn], .agg #[.int .i64 es, .int .i64 et, .int .u8 ek.toNat, .int .i64 evv]] w2 fun e w' => ∃ g lp lc, e = .returned (.agg #[.int .i64 (et + c1.wn), .slice (some ⟨g, 0, none⟩) 1 1, .slice lp (c1.st.length - 1) lc]) ∧ Below w2.heap.size w2 w' ∧ w2.heap.size ≤ g ∧
       w'.heap[g]? = some (.cells #[.int .i64 es, .int .i64 et, .int .u8 ek.toNat, .int .i64 evv] 75 (0, 0)) ∧ (1 < c1.st.length → lp = some ⟨c1.pg, 1, none⟩ ∧ lc = c1.pc - 1)) :=
      fun w2 => begin_any w2 c1.pg c1.st.length c1.pc c1.wn (es, et, ek, evv) hs1 hok1.s8 hpc1 hok1.w0 hok1.w1 ht0 ht1
     have hadd : Hid (∀ w2 w3 g3 lp lc, Below W.heap.size W w2 → Below w2.heap.size w2 w3 → w2.heap.size ≤ g3 → w3.heap[g3]? = some (.cells #[.int .i64 es, .int .i64 et, .int .u8 ek.toNat, .int .i64 evv] 75 (0, 0)) → (1 < c1.st.length → lp = some ⟨c1.pg, 1, none⟩ ∧ lc = c1.pc - 1) →
       Calls Tryz.prog 169 #[.pointer (some ⟨qb, 0, none⟩), .agg #[.int .i64 (et + c1.wn), .slice (some ⟨g3, 0, none⟩) 1 1, .slice lp (c1.st.length - 1) lc]] w3 (QPost w qb c qq)) := by
      intro w2 w3 g3 lp lc hb2 hb3 hg3 he3 hlp
      have hb23 : Below W.heap.size W w3 := hb2.trans (hb3.mono hb2.size)
      have hQ3 := HQ1.out.fr (Fr.of_below [] hb23) (by simp)
      refine (addQ_any w3 qb g3 c1 (es, et, ek, evv) lp lc hQ3 he3 (fun hm => ?_) hlp HL1.out ht0 ht1).mono ?_
      ·have := HQ1.out.lt g3 hm
       have := hb2.size
       omega
      ·rintro e w' ⟨rfl, c2, hq2, ha2, hf2, hu2⟩
       refine ⟨rfl, c2, hq2, ?_, ?_, fun b hb => ?_⟩
       ·rw [ha2, HA1.out, ← HQ2.out]
        show _ = beginQ (shownQ c.abs _) _
        rw [← HA1.out, beginQ_fits (by rw [hget]; exact hf)]
       ·exact (HF1.out.trans (Fr.of_below _ hb23)).trans' hf2 HU1.out
       ·rcases hu2 b hb with h | rfl | h
        ·exact HU1.out b h
        ·have := hb2.size; omega
        ·have := hb23.size; omega
     clear hM hf hst hT hget
     have g1 := cell_grown hqb1 q1
     have g2 := cell_grown hpgl hc0
     have g3 := cell_grown hWz e0
     have g4 := cell_grown hWz e1
     have g5 := cell_grown hWz e2
     have g6 := cell_grown hWz e3
     have hs0 : 0 < c1.st.length := hs1
     have hs0' : (0 : Int) < (c1.st.length : Int) := by omega
     refine wp_region_quiet_grown (by kernel_rfl) (by kernel_rfl) ?_
     repeat (quiet_step (first | (go_at_call 177; refine Calls.grown_of (hM2 _))))
     refine wpQuiet_nil ?_
     intro _ hw'
     obtain ⟨⟨nq, osq⟩, hw''⟩ := hw'
     subst hw''
     have hb : Below W.heap.size W (Go.Sort.grow (W.drewN nq) osq) := ⟨rfl, rfl, rfl, (grow_below (W.drewN nq) osq).size, fun k hk => (grow_below (W.drewN nq) osq).block k hk⟩
     clear g1 g2 g3 g4 g5 g6
     obtain ⟨w2, hw2⟩ : ∃ w2, Go.Sort.grow (W.drewN nq) osq = w2 := ⟨_, rfl⟩
     rw [hw2] at hb ⊢
     clear hw2
     obtain ⟨k1, k2, k3, k4, k5, k6⟩ := hcells.out w2 hb
     have HB2 := Hid.mk' hb
     clear hb q1 q2 e0 e1 e2 e3 hc0
     go_wp2
     go_region_with (first | (go_at_call 170; refine (hbeg.out _).mono ?_; rintro e w3 ⟨g3, lp, lc, rfl, hb3, hg3, he3, hlp⟩; have HB3 := Hid.mk' hb3; have HE3 := Hid.mk' he3; have HLP := Hid.mk' hlp; clear hb3 he3 hlp) | (go_at_call 169; refine (hadd.out w2 w3 g3 lp lc HB2.out ⟨HB3.out.os, HB3.out.tape, HB3.out.output, HB3.out.size, HB3.out.block⟩ hg3 HE3.out HLP.out).mono ?_; rintro e w4 ⟨rfl, hP2⟩))
     all_goals
      go_wp2
      go_end0
      exact ⟨rfl, hP2⟩
   ·clear hcl0
    go_wp2_with (simp only [hcl])
    rw [HWW.out]
    clear q3 q3' fz3 fz3' hcl
    have hok1 := HQ1.out.ok
    have hs1 := hok1.s1
    obtain ⟨x0, str, hst⟩ : ∃ x0 str, c1.st = x0 :: str := by
     cases h : c1.st with
     | nil => rw [h] at hs1; simp at hs1
     | cons a b => exact ⟨a, b, rfl⟩
    have hc0 : W.cell? ⟨c1.pg, 0, none⟩ = some (stepV x0) := by
     have := HQ1.out.stp 0 (by omega)
     simp [hst] at this
     exact this
    have q1 := cell_of_row W qb 1 _ _ _ HQ1.out.blk
    have q2 := cell_of_row W qb 2 _ _ _ HQ1.out.blk
    have e0 := cell_of_row W w.heap.size 0 _ _ _ HN1.out
    have e1 := cell_of_row W w.heap.size 1 _ _ _ HN1.out
    have e2 := cell_of_row W w.heap.size 2 _ _ _ HN1.out
    have e3 := cell_of_row W w.heap.size 3 _ _ _ HN1.out
    simp [qCells, evC] at q1 q2 e0 e1 e2 e3
    have hM := fun W' => matches_grown x0.2 x0.1 (es, et, ek, evv) W'
    have hget : c1.abs.st.getD 0 noStep = x0 := by show c1.st.getD 0 noStep = x0; rw [hst]; rfl
    obtain ⟨T, hT, mT, nT⟩ : ∃ T, stepV x0 = .iface T (.agg #[.int .u8 x0.2.1.toNat, .int .u8 x0.2.2.1.toNat, .int .i64 x0.2.2.2]) ∧
      (∀ (W : World) (a b c : Value), (method 364 T (.agg #[a, b, c]) "Matches").run Tryz.prog W = .ok (177, .agg #[a, b, c]) W) ∧
      (∀ (W : World) (a b c : Value), (nilAhead 364 T (.agg #[a, b, c]) "Matches").run Tryz.prog W = .ok (some false) W) := by
     cases h : x0.1 with
     | true => exact ⟨_, by simp [stepV, h], not_m, not_n⟩
     | false => exact ⟨_, by simp [stepV, h], must_m, must_n⟩
    rw [hT] at hc0
    obtain ⟨xn, xk, xg, xv⟩ := x0
    simp only at hc0 hM
    have hpc1 := hok1.pc
    have hWz : w.heap.size < W.heap.size := lt_of_block HN1.out
    have hqb1 : qb < W.heap.size := HQ1.out.lt qb (by simp [CQ.blocks, CQ.base])
    have hpgl : c1.pg < W.heap.size := HQ1.out.lt c1.pg (by simp [CQ.blocks, CQ.base])
    cases hf : fitsB (xn, xk, xg, xv) (es, et, ek, evv) with
    | false =>
     have hM2 : ∀ W', Calls Tryz.prog 177 #[.agg #[.int .u8 xk.toNat, .int .u8 xg.toNat, .int .i64 xv], .agg #[.int .i64 es, .int .i64 et, .int .u8 ek.toNat, .int .i64 evv]] W' fun e w' => e = .returned (.bool false) ∧ ∃ q os', w' = Go.Sort.grow (W'.drewN q) os' := by
      intro W'
      have := hM W'
      simp only [hf] at this
      exact this.mono (fun e w' ⟨h1, os, h2⟩ => ⟨h1, 0, os, h2⟩)
     have hend : Hid (∀ w2, Below W.heap.size W w2 → QPost w qb c qq (.returned (.tuple #[])) w2) := by
      intro w2 hb
      refine ⟨rfl, c1, HQ1.out.fr (Fr.of_below [] hb) (by simp), ?_, HF1.out.trans (Fr.of_below _ hb), HU1.out⟩
      rw [← HQ2.out]
      show _ = beginQ (shownQ c.abs _) _
      rw [← HA1.out, beginQ_not (by rw [hget]; exact hf)]
     clear hM hf hst hT hget
     have g1 := cell_grown hqb1 q1
     have g2 := cell_grown hpgl hc0
     have g3 := cell_grown hWz e0
     have g4 := cell_grown hWz e1
     have g5 := cell_grown hWz e2
     have g6 := cell_grown hWz e3
     have hs0 : 0 < c1.st.length := hs1
     have hs0' : (0 : Int) < (c1.st.length : Int) := by omega
     refine wp_region_quiet_grown (by kernel_rfl) (by kernel_rfl) ?_
     repeat (quiet_step (first | (go_at_call 177; refine Calls.grown_of (hM2 _))))
     refine wpQuiet_nil ?_
     intro _ hw'
     obtain ⟨⟨nq, osq⟩, hw''⟩ := hw'
     subst hw''
     have hb : Below W.heap.size W (Go.Sort.grow (W.drewN nq) osq) := ⟨rfl, rfl, rfl, (grow_below (W.drewN nq) osq).size, fun k hk => (grow_below (W.drewN nq) osq).block k hk⟩
     clear g1 g2 g3 g4 g5 g6
     obtain ⟨w2, hw2⟩ : ∃ w2, Go.Sort.grow (W.drewN nq) osq = w2 := ⟨_, rfl⟩
     rw [hw2] at hb ⊢
     clear hw2
     go_wp2
     go_end0
     exact hend.out _ hb
    | true =>
     have hM2 : ∀ W', Calls Tryz.prog 177 #[.agg #[.int .u8 xk.toNat, .int .u8 xg.toNat, .int .i64 xv], .agg #[.int .i64 es, .int .i64 et, .int .u8 ek.toNat, .int .i64 evv]] W' fun e w' => e = .returned (.bool true) ∧ ∃ q os', w' = Go.Sort.grow (W'.drewN q) os' := by
      intro W'
      have := hM W'
      simp only [hf] at this
      exact this.mono (fun e w' ⟨h1, os, h2⟩ => ⟨h1, 0, os, h2⟩)
     have hcells : Hid (∀ w2, Below W.heap.size W w2 → w2.cell? ⟨qb, 1, none⟩ = some (.slice (some ⟨c1.pg, 0, none⟩) c1.st.length c1.pc) ∧ w2.cell? ⟨qb, 2, none⟩ = some (.int .i64 c1.wn) ∧ w2.cell? ⟨w.heap.size, 0, none⟩ = some (.int .i64 es) ∧ w2.cell? ⟨w.heap.size, 1, none⟩ = some (.int .i64 et) ∧ w2.cell? ⟨w.heap.size, 2, none⟩ = some (.int .u8 ek.toNat) ∧ w2.cell? ⟨w.heap.size, 3, none⟩ = some (.int .i64 evv)) := by
      intro w2 hb
      exact ⟨(hb.cell (p := ⟨qb, 1, none⟩) hqb1).trans q1, (hb.cell (p := ⟨qb, 2, none⟩) hqb1).trans q2, (hb.cell (p := ⟨w.heap.size, 0, none⟩) hWz).trans e0, (hb.cell (p := ⟨w.heap.size, 1, none⟩) hWz).trans e1, (hb.cell (p := ⟨w.heap.size, 2, none⟩) hWz).trans e2, (hb.cell (p := ⟨w.heap.size, 3, none⟩) hWz).trans e3⟩
     have hbeg : Hid (∀ w2, Calls Tryz.prog 170 #[.agg #[.slice (some ⟨c1.pg, 0, none⟩) c1.st.length c1.pc, .int .i64 c1.wn], .agg #[.int .i64 es, .int .i64 et, .int .u8 ek.toNat, .int .i64 evv]] w2 fun e w' => ∃ g lp lc, e = .returned (.agg #[.int .i64 (et + c1.wn), .slice (some ⟨g, 0, none⟩) 1 1, .slice lp (c1.st.length - 1) lc]) ∧ Below w2.heap.size w2 w' ∧ w2.heap.size ≤ g ∧
       w'.heap[g]? = some (.cells #[.int .i64 es, .int .i64 et, .int .u8 ek.toNat, .int .i64 evv] 75 (0, 0)) ∧ (1 < c1.st.length → lp = some ⟨c1.pg, 1, none⟩ ∧ lc = c1.pc - 1)) :=
      fun w2 => begin_any w2 c1.pg c1.st.length c1.pc c1.wn (es, et, ek, evv) hs1 hok1.s8 hpc1 hok1.w0 hok1.w1 ht0 ht1
     have hadd : Hid (∀ w2 w3 g3 lp lc, Below W.heap.size W w2 → Below w2.heap.size w2 w3 → w2.heap.size ≤ g3 → w3.heap[g3]? = some (.cells #[.int .i64 es, .int .i64 et, .int .u8 ek.toNat, .int .i64 evv] 75 (0, 0)) → (1 < c1.st.length → lp = some ⟨c1.pg, 1, none⟩ ∧ lc = c1.pc - 1) →
       Calls Tryz.prog 169 #[.pointer (some ⟨qb, 0, none⟩), .agg #[.int .i64 (et + c1.wn), .slice (some ⟨g3, 0, none⟩) 1 1, .slice lp (c1.st.length - 1) lc]] w3 (QPost w qb c qq)) := by
      intro w2 w3 g3 lp lc hb2 hb3 hg3 he3 hlp
      have hb23 : Below W.heap.size W w3 := hb2.trans (hb3.mono hb2.size)
      have hQ3 := HQ1.out.fr (Fr.of_below [] hb23) (by simp)
      refine (addQ_any w3 qb g3 c1 (es, et, ek, evv) lp lc hQ3 he3 (fun hm => ?_) hlp HL1.out ht0 ht1).mono ?_
      ·have := HQ1.out.lt g3 hm
       have := hb2.size
       omega
      ·rintro e w' ⟨rfl, c2, hq2, ha2, hf2, hu2⟩
       refine ⟨rfl, c2, hq2, ?_, ?_, fun b hb => ?_⟩
       ·rw [ha2, HA1.out, ← HQ2.out]
        show _ = beginQ (shownQ c.abs _) _
        rw [← HA1.out, beginQ_fits (by rw [hget]; exact hf)]
       ·exact (HF1.out.trans (Fr.of_below _ hb23)).trans' hf2 HU1.out
       ·rcases hu2 b hb with h | rfl | h
        ·exact HU1.out b h
        ·have := hb2.size; omega
        ·have := hb23.size; omega
     clear hM hf hst hT hget
     have g1 := cell_grown hqb1 q1
     have g2 := cell_grown hpgl hc0
     have g3 := cell_grown hWz e0
     have g4 := cell_grown hWz e1
     have g5 := cell_grown hWz e2
     have g6 := cell_grown hWz e3
     have hs0 : 0 < c1.st.length := hs1
     have hs0' : (0 : Int) < (c1.st.length : Int) := by omega
     refine wp_region_quiet_grown (by kernel_rfl) (by kernel_rfl) ?_
     repeat (quiet_step (first | (go_at_call 177; refine Calls.grown_of (hM2 _))))
     refine wpQuiet_nil ?_
     intro _ hw'
     obtain ⟨⟨nq, osq⟩, hw''⟩ := hw'
     subst hw''
     have hb : Below W.heap.size W (Go.Sort.grow (W.drewN nq) osq) := ⟨rfl, rfl, rfl, (grow_below (W.drewN nq) osq).size, fun k hk => (grow_below (W.drewN nq) osq).block k hk⟩
     clear g1 g2 g3 g4 g5 g6
     obtain ⟨w2, hw2⟩ : ∃ w2, Go.Sort.grow (W.drewN nq) osq = w2 := ⟨_, rfl⟩
     rw [hw2] at hb ⊢
     clear hw2
     obtain ⟨k1, k2, k3, k4, k5, k6⟩ := hcells.out w2 hb
     have HB2 := Hid.mk' hb
     clear hb q1 q2 e0 e1 e2 e3 hc0
     go_wp2
     go_region_with (first | (go_at_call 170; refine (hbeg.out _).mono ?_; rintro e w3 ⟨g3, lp, lc, rfl, hb3, hg3, he3, hlp⟩; have HB3 := Hid.mk' hb3; have HE3 := Hid.mk' he3; have HLP := Hid.mk' hlp; clear hb3 he3 hlp) | (go_at_call 169; refine (hadd.out w2 w3 g3 lp lc HB2.out ⟨HB3.out.os, HB3.out.tape, HB3.out.output, HB3.out.size, HB3.out.block⟩ hg3 HE3.out HLP.out).mono ?_; rintro e w4 ⟨rfl, hP2⟩))
     all_goals
      go_wp2
      go_end0
      exact ⟨rfl, hP2⟩
end Go.Proofs.YtbgfannlfagoiaaGreatDoor
