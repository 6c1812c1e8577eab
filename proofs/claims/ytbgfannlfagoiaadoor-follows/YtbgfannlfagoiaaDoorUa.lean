import Derived.Test.YtbgfannlfagoiaaDoorKg
import Derived.Test.YtbgfannlfagoiaaDoorKe
import Derived.Test.YtbgfannlfagoiaaDoorPuf
namespace Go.Proofs.YtbgfannlfagoiaaDoor
open Go.RowKit Go.Lull
set_option linter.unusedVariables false

theorem MS.one {w : World} {v : Value} {L : List (Mt × Value)} (h : MS w v L) : ∀ u ∈ L.flatMap matC, u.oneCell' = true := by
  intro u hu
  obtain ⟨x, hx, hu⟩ := List.mem_flatMap.1 hu
  obtain ⟨a, c, he, _⟩ := (h.ev x hx).form
  simp [matC] at hu
  rcases hu with rfl | rfl | rfl
  · rfl
  · rfl
  · rw [he]; rfl
/-- A row of matches, to be appended whole. -/
theorem MS.src {w : World} {v : Value} {L : List (Mt × Value)} (h : MS w v L) : Src Tryd.prog 3 58 v L.length (L.flatMap matC) w := by
  rcases h.row.2 with ⟨e, h0⟩ | ⟨g, off, cap, cur, e, _⟩
  · subst e
    have hL : L = [] := List.eq_nil_of_length_eq_zero h0
    subst hL
    exact Src.ofNil _ Tryd.underlying58 0
  · subst e
    refine Src.ofSlice _ Tryd.underlying58 _ _ _ _ (matC_len L) ?_ h.one
    intro k u hu
    have hk : k < L.length * 3 := by
      have := (List.getElem?_eq_some_iff.1 hu).1
      rwa [matC_len] at this
    rw [Go.WideShapes.add_plain, h.row.cell k hk, hu]
/-- append of a row of matches, be it empty. -/
theorem append_mts0 (w : World) {ops : Array Oper} {rest : List Oper} {o : Oper} {a : Act} {Q : Exit → Act → World → Prop} (hgd : o.guard = none) (s x : Operand)
    (ho : o.op = .call { callee := .builtin .append, args := #[s, x], argTypes := #[58, 58] })
    (v : Value) (n : Nat) (xs : List Value) (hv : a.eval s = v) (hrow : Row w 60 3 v n xs) (xv : Value) (m : Nat) (news : List Value)
    (hxv : a.eval x = xv) (hs : Src Tryd.prog 3 58 xv m news w) (hn : n + m ≤ 100000)
    (h : ∀ va cap w', Row w' 60 3 (.slice va (n + m) cap) (n + m) (xs ++ news) → w.grownBy w' v.ownBlock → (∀ b, (Value.slice va (n + m) cap).ownBlock = some b → v.ownBlock = some b ∨ b = w.heap.size) → wpList Tryd.prog ops Q rest (a.put o.dst (.slice va (n + m) cap)) w') :
    wpList Tryd.prog ops Q (o :: rest) a w := by
  obtain ⟨i0, hi, hz0, hz1, hz2⟩ := info_parts Tryd.infoMt
  rcases Nat.eq_zero_or_pos m with hm | hm
  · subst hm
    have hnl : news = [] := List.eq_nil_of_length_eq_zero (by have := hs.newsLen; omega)
    subst hnl
    obtain ⟨va, cap, rfl, hcap⟩ := hrow.form
    refine wpList_plain hgd fun K hK => ?_
    have hrun : ∀ ty, (Builtin.append_ #[58, 58] ty #[.slice va n cap, xv]).run Tryd.prog w = .ok (.slice va n cap) w := by
      intro ty
      exact run_append_nothing w 58 58 ty 60 i0 Tryd.underlying58 hi va n cap hcap _ (by rw [hz1]; exact hs)
    unfold Oper.wp execOp
    simp only [ho, resolve, invoke, builtin, Sem.run_bind, Sem.run_pure, Result.andThen_ok, List.map_toArray, List.map_cons, List.map_nil, hv, hxv, hrun]
    exact hK _ _ (h va cap w (by simpa using hrow) ⟨rfl, rfl, rfl, Nat.le_refl _, fun _ _ _ => rfl⟩ (fun b hb => Or.inl hb))
  · refine wpList_append_row hgd s x 58 ho i0 _ 40 Tryd.underlying58 hi hz0 hz1 hz2 rfl hv hrow m news _ hxv hs hm (by unfold maxLen; omega) (by omega) ?_
    exact fun g off cap w' r1 r2 r3 => h _ cap w' r1 r2 (fun b hb => by
      have hb' : g = b := Option.some.inj hb
      subst hb'; exact r3)

/-- A block that is none of the Engine's grows. -/
theorem At.grown {N eb : Nat} {w0 w w' : World} {s : En} {F G : List Nat} {ob : Option Nat} (h : At N eb w0 s F w) (hN : N ≤ w0.heap.size) (hg : w.grownBy w' ob) (hob : ∀ b, ob = some b → b ∈ F ∧ N ≤ b) (hG : ∀ b ∈ G, b ∈ F ∨ (w.heap.size ≤ b ∧ b < w'.heap.size)) : At N eb w0 s G w' := by
  obtain ⟨c, hc, rfl, hF⟩ := h
  have hs : ∀ b ∈ c.blocks eb, w'.heap[b]? = w.heap[b]? := fun b hb => hg.block b (hc.eg.lt b hb) (fun e => (hF b (hob b e.symm).1).2 hb)
  refine ⟨c, ⟨hc.eg.same hg.size hs, hc.below.grown hg (Nat.le_trans hN hc.below.size) (fun k hk => (hob k hk).2), hc.new⟩, rfl, fun b hb => ?_⟩
  rcases hG b hb with h1 | h1
  · exact ⟨Nat.lt_of_lt_of_le (hF b h1).1 hg.size, (hF b h1).2⟩
  · exact ⟨h1.2, fun hm => by have := hc.eg.lt b hm; omega⟩

def five (a b c : Nat) : Array Value := #[.int .i64 0, .int .i64 (a : Int), .int .i64 (b : Int), .int .i64 (c : Int), .int .i64 0]
/-- What Fair drained at once stands: its blocks, and the five numbers. -/
structure KP (w0 wr : World) (lb : Nat) (av : Value) (LA : List (Mt × Value)) (x1 x2 x3 : Nat) : Prop where
  la : MS wr av LA
  left : wr.heap[lb]? = some (.cells (five x1 x2 x3) 74)
  ne : lb ∉ av.ownBlock.toList ++ eblk (LA.map fp)
  new : w0.heap.size ≤ lb
theorem five_pop {sk s' : En} {n : Nat} (h1 : 1 ≤ n) (h3 : n ≤ 3) (h0 : wq sk.qs n ≠ 0) (hp : ∀ j : Int, wq s'.qs j = if j = (n : Int) then wq sk.qs j - 1 else wq sk.qs j) :
    (five (wq sk.qs 1) (wq sk.qs 2) (wq sk.qs 3)).setIfInBounds n (.int .i64 ((wq sk.qs n : Int) - 1)) = five (wq s'.qs 1) (wq s'.qs 2) (wq s'.qs 3) := by
  have : n = 1 ∨ n = 2 ∨ n = 3 := by omega
  rcases this with rfl | rfl | rfl
  · rw [hp 1, hp 2, hp 3, if_pos (by decide), if_neg (by decide), if_neg (by decide)]
    have e : ((wq sk.qs 1 - 1 : Nat) : Int) = (wq sk.qs 1 : Int) - 1 := by have h0' : wq sk.qs 1 ≠ 0 := h0; omega
    simp [five, e]
  · rw [hp 1, hp 2, hp 3, if_neg (by decide), if_pos (by decide), if_neg (by decide)]
    have e : ((wq sk.qs 2 - 1 : Nat) : Int) = (wq sk.qs 2 : Int) - 1 := by have h0' : wq sk.qs 2 ≠ 0 := h0; omega
    simp [five, e]
  · rw [hp 1, hp 2, hp 3, if_neg (by decide), if_neg (by decide), if_pos (by decide)]
    have e : ((wq sk.qs 3 - 1 : Nat) : Int) = (wq sk.qs 3 : Int) - 1 := by have h0' : wq sk.qs 3 ≠ 0 := h0; omega
    simp [five, e]
theorem five_at (a b c : Nat) : (five a b c)[1]? = some (.int .i64 (a : Int)) ∧ (five a b c)[2]? = some (.int .i64 (b : Int)) ∧ (five a b c)[3]? = some (.int .i64 (c : Int)) := ⟨rfl, rfl, rfl⟩
theorem cell_blk {w : World} {b k : Nat} {t : TypeId} {cur : Array Value} {v : Value} (h : w.heap[b]? = some (.cells cur t)) (hk : cur[k]? = some v) : w.cell? ⟨b, k, none⟩ = some v := by simp [World.cell?, h, hk]
theorem KP.c {w0 wr : World} {lb : Nat} {av : Value} {LA : List (Mt × Value)} {x1 x2 x3 : Nat} (h : KP w0 wr lb av LA x1 x2 x3) : wr.cell? ⟨lb, 1, none⟩ = some (.int .i64 (x1 : Int)) ∧ wr.cell? ⟨lb, 2, none⟩ = some (.int .i64 (x2 : Int)) ∧ wr.cell? ⟨lb, 3, none⟩ = some (.int .i64 (x3 : Int)) :=
  ⟨cell_blk h.left (five_at _ _ _).1, cell_blk h.left (five_at _ _ _).2.1, cell_blk h.left (five_at _ _ _).2.2⟩
def kb (lb : Nat) (av : Value) (LA : List (Mt × Value)) : List Nat := lb :: (av.ownBlock.toList ++ eblk (LA.map fp))
theorem KP.same {w0 wr w' : World} {lb : Nat} {av : Value} {LA : List (Mt × Value)} {x1 x2 x3 : Nat} (h : KP w0 wr lb av LA x1 x2 x3) (hs : ∀ b ∈ kb lb av LA, w'.heap[b]? = wr.heap[b]?) : KP w0 w' lb av LA x1 x2 x3 :=
  ⟨h.la.same (fun b hb => hs b (List.mem_cons_of_mem _ hb)), by rw [hs lb List.mem_cons_self]; exact h.left, h.ne, h.new⟩
/-- Fair, while it drains in parts. -/
structure PR (w0 wr : World) (ey lb : Nat) (s : En) (av : Value) (LA : List (Mt × Value)) (x1 x2 x3 : Nat) (sv : Value) (LS : List (Mt × Value)) (n : Nat) : Prop where
  at_ : At w0.heap.size ey w0 (drainE n s).2 (kb lb av LA ++ (sv.ownBlock.toList ++ eblk (LS.map fp))) wr
  kp : KP w0 wr lb av LA x1 x2 x3
  ls : MS wr sv LS
  eq : LS.map Prod.fst = (drainE n s).1
  ne : ∀ b, sv.ownBlock = some b → b ∉ kb lb av LA ∧ b ∉ eblk (LS.map fp) ∧ w0.heap.size ≤ b
/-- A part was drained: before it is appended. -/
structure PR2 (w0 wr : World) (ey lb : Nat) (s : En) (av : Value) (LA : List (Mt × Value)) (x1 x2 x3 : Nat) (sv : Value) (LS : List (Mt × Value)) (n : Nat) (v : Value) (L : List (Mt × Value)) : Prop where
  at_ : At w0.heap.size ey w0 (drainE n s).2 ((kb lb av LA ++ (sv.ownBlock.toList ++ eblk (LS.map fp))) ++ (v.ownBlock.toList ++ eblk (L.map fp))) wr
  kp : KP w0 wr lb av LA x1 x2 x3
  ls : MS wr sv LS
  l : MS wr v L
  eq : LS.map Prod.fst ++ L.map Prod.fst = (drainE n s).1
  ne : ∀ b, sv.ownBlock = some b → b ∉ kb lb av LA ∧ b ∉ eblk (LS.map fp) ∧ w0.heap.size ≤ b ∧ b ∉ eblk (L.map fp)
section
variable {w0 wr : World} {ey lb : Nat} {s : En} {av : Value} {LA : List (Mt × Value)} {x1 x2 x3 : Nat} {sv : Value} {LS : List (Mt × Value)} {n : Nat}
theorem drainE_keep : ∀ (n : Nat) (s : En), NR s.qs → NR (drainE n s).2.qs ∧ totF (drainE n s).2.qs ≤ totF s.qs
  | 0, s, h => ⟨h, Nat.le_refl _⟩
  | n + 1, s, h => by
    cases hs : serveE s with
    | none => rw [drainE_none hs]; exact ⟨h, Nat.le_refl _⟩
    | some x =>
      obtain ⟨m, s'⟩ := x
      rw [drainE_some hs]
      have hl := (serveE_less hs).1
      have hn : NR s'.qs := by
        rcases serveE_cases hs with ⟨_, _, rfl⟩ | ⟨_, k, _, rfl⟩
        · exact h.pop _
        · exact h.pop _
      obtain ⟨h1, h2⟩ := drainE_keep n s' hn
      exact ⟨h1, by show totF (drainE n s').2.qs ≤ _; omega⟩
theorem pr_drain (h : PR w0 wr ey lb s av LA x1 x2 x3 sv LS n) (hr : NR s.qs) (ht : totF s.qs ≤ 1000) (p : Int) :
    Calls Tryd.prog 25 #[.pointer (some ⟨ey, 0, none⟩), .int .i64 p] wr fun e w1 => ∃ v L, e = .returned v ∧ Hid (PR2 w0 w1 ey lb s av LA x1 x2 x3 sv LS (n + p.toNat) v L) := by
  have hk := drainE_keep n s hr
  refine (at_drain (n := p) h.at_ (Nat.le_refl _) hk.1 (by omega)).mono ?_
  rintro e w1 ⟨v, L, rfl, hL, hM, hA, hS, hF⟩
  refine ⟨v, L, rfl, ?_, h.kp.same (fun b hb => hS.2 b (List.mem_append_left _ hb)), h.ls.same (fun b hb => hS.2 b (List.mem_append_right _ hb)), hM, ?_, ?_⟩
  · rw [drainE_add]; exact hA
  · rw [drainE_add, h.eq, hL]
  · intro b hb
    obtain ⟨a1, a2, a3⟩ := h.ne b hb
    refine ⟨a1, a2, a3, fun hm => hF b (List.mem_append_right _ hm) ?_⟩
    exact List.mem_append_right _ (List.mem_append_left _ (by simp [hb]))
theorem PR2.done {v v' : Value} {L : List (Mt × Value)} {w' : World} (h : PR2 w0 wr ey lb s av LA x1 x2 x3 sv LS n v L) (hrow : Row w' 60 3 v' (LS.length + L.length) (LS.flatMap matC ++ L.flatMap matC)) (hg : wr.grownBy w' sv.ownBlock)
    (hat : ∀ b, v'.ownBlock = some b → sv.ownBlock = some b ∨ b = wr.heap.size) : PR w0 w' ey lb s av LA x1 x2 x3 v' (LS ++ L) n := by
  have hsub : ∀ b ∈ eblk ((LS ++ L).map fp), b ∈ eblk (LS.map fp) ∨ b ∈ eblk (L.map fp) := by
    intro b hb
    rw [List.map_append] at hb
    simp only [eblk, List.flatMap_append, List.mem_append] at hb ⊢
    exact hb
  have hlt := h.at_.lt
  have hN : w0.heap.size ≤ wr.heap.size := h.at_.below.size
  have hsame : ∀ b, b < wr.heap.size → (∀ k, sv.ownBlock = some k → k ≠ b) → w'.heap[b]? = wr.heap[b]? := fun b hl hk => hg.block b hl (fun e => hk b e.symm rfl)
  refine ⟨?_, h.kp.same (fun b hb => hsame b (hlt b (List.mem_append_left _ (List.mem_append_left _ hb))) (fun k hk e => by subst e; exact (h.ne k hk).1 hb)), ⟨?_, ?_⟩, by rw [List.map_append]; exact h.eq, ?_⟩
  · refine h.at_.grown (Nat.le_refl _) hg (fun b hb => ⟨List.mem_append_left _ (List.mem_append_right _ (List.mem_append_left _ (by simp [hb]))), (h.ne b hb).2.2.1⟩) ?_
    intro b hb
    rcases List.mem_append.1 hb with h1 | h1
    · exact Or.inl (List.mem_append_left _ (List.mem_append_left _ h1))
    · rcases List.mem_append.1 h1 with h2 | h2
      · have hb2 : v'.ownBlock = some b := by simpa using h2
        rcases hat b hb2 with h3 | h3
        · exact Or.inl (List.mem_append_left _ (List.mem_append_right _ (List.mem_append_left _ (by simp [h3]))))
        · exact Or.inr ⟨by omega, hrow.lt b hb2⟩
      · rcases hsub b h2 with h3 | h3
        · exact Or.inl (List.mem_append_left _ (List.mem_append_right _ (List.mem_append_right _ h3)))
        · exact Or.inl (List.mem_append_right _ (List.mem_append_right _ h3))
  · rw [List.length_append, List.flatMap_append]; exact hrow
  · intro x hx
    rcases List.mem_append.1 hx with h1 | h1
    · refine (h.ls.ev x h1).same (fun b hb => hsame b ((h.ls.ev x h1).lt b hb) (fun k hk e => ?_))
      subst e
      exact (h.ne k hk).2.1 (mem_eblk.2 ⟨fp x, List.mem_map.2 ⟨x, h1, rfl⟩, hb⟩)
    · refine (h.l.ev x h1).same (fun b hb => hsame b ((h.l.ev x h1).lt b hb) (fun k hk e => ?_))
      subst e
      exact (h.ne k hk).2.2.2 (mem_eblk.2 ⟨fp x, List.mem_map.2 ⟨x, h1, rfl⟩, hb⟩)
  · intro b hb
    rcases hat b hb with h3 | h3
    · obtain ⟨a1, a2, a3, a4⟩ := h.ne b h3
      exact ⟨a1, fun hm => (hsub b hm).elim a2 a4, a3⟩
    · refine ⟨fun hm => ?_, fun hm => ?_, by omega⟩
      · have := hlt b (List.mem_append_left _ (List.mem_append_left _ hm)); omega
      · rcases hsub b hm with h4 | h4
        · have := hlt b (List.mem_append_left _ (List.mem_append_right _ (List.mem_append_right _ h4))); omega
        · have := hlt b (List.mem_append_right _ (List.mem_append_right _ h4)); omega
end
end Go.Proofs.YtbgfannlfagoiaaDoor

namespace Go.Proofs.YtbgfannlfagoiaaDoor
open Go.RowKit Go.Lull
set_option linter.unusedVariables false

theorem kp_pop {w0 wr : World} {lb n : Nat} {av : Value} {LA : List (Mt × Value)} {sk s' : En} (q : Nat) (h : KP w0 wr lb av LA (wq sk.qs 1) (wq sk.qs 2) (wq sk.qs 3) ∧ Below w0.heap.size w0 wr) (h1 : 1 ≤ n) (h3 : n ≤ 3) (h0 : wq sk.qs n ≠ 0) (hp : ∀ j : Int, wq s'.qs j = if j = (n : Int) then wq sk.qs j - 1 else wq sk.qs j) :
    KP w0 ((wr.drewN q).setCell ⟨lb, n, none⟩ (.int .i64 ((wq sk.qs n : Int) - 1))) lb av LA (wq s'.qs 1) (wq s'.qs 2) (wq s'.qs 3) ∧ Below w0.heap.size w0 ((wr.drewN q).setCell ⟨lb, n, none⟩ (.int .i64 ((wq sk.qs n : Int) - 1))) := by
  obtain ⟨hk, hb⟩ := h
  refine ⟨⟨hk.la.same (fun b hb => ?_), ?_, hk.ne, hk.new⟩, (below_drewN hb q).setCell hk.new _⟩
  · rw [Below.heap_setCell _ _ _ _ (fun e => hk.ne (by rw [← show b = lb from e]; exact hb))]; simp
  · rw [← five_pop h1 h3 h0 hp]
    have hl : (wr.drewN q).heap[lb]? = some (.cells (five (wq sk.qs 1) (wq sk.qs 2) (wq sk.qs 3)) 74) := by simpa using hk.left
    simp only [World.setCell, Array.getElem?_modify, hl]
    simp
/-- Two Engines, and a row of events that is none of theirs. -/
structure TL (w0 wr : World) (ex ey : Nat) (sx sy : En) (lv : Value) (l : List Ev) : Prop where
  tw : TW w0.heap.size ex ey w0 sx sy lv.ownBlock.toList wr
  row : Row wr 56 4 lv l.length (l.flatMap evC)
section
variable {w0 wr w' : World} {ex ey : Nat} {sx sy s' : En} {lv : Value} {l : List Ev}
theorem TL.swap (h : TL w0 wr ex ey sx sy lv l) : TL w0 wr ey ex sy sx lv l := ⟨h.tw.swap, h.row⟩
theorem TL.left (h : TL w0 wr ex ey sx sy lv l) : ∃ G, At w0.heap.size ex w0 sx (G ++ lv.ownBlock.toList) wr ∧ ∀ s' w', At w0.heap.size ex w0 s' (G ++ lv.ownBlock.toList) w' → Same (G ++ lv.ownBlock.toList) wr w' → TL w0 w' ex ey s' sy lv l := by
  obtain ⟨G, h1, h2⟩ := h.tw.left
  refine ⟨G, h1, fun s' w' hA hS => ⟨?_, h.row.same (fun b hb => hS.2 b (List.mem_append_right _ (by simp [hb])))⟩⟩
  have := h2 s' [] w' (by rw [List.append_nil]; exact hA) hS (by simp)
  rwa [List.append_nil] at this
end
/-- The Engine after fed. -/
def finE (a b c : List Int) (l : List Ev) : En := ⟨[2000000, 2000000, 2000000], (pass 2000000 (putAll [] l, (qE a b c).qs)).1, (pass 2000000 (putAll [] l, (qE a b c).qs)).2, 4, 0, (qE a b c).tr⟩
theorem qE_runs (a b c : List Int) : ∀ q ∈ (qE a b c).qs, q.runs = [] := fun q hq => (newQs_num _ _ q hq).2.2.2
theorem tl_fed {w0 wr : World} {ex ey : Nat} {sy : En} {lv : Value} {l : List Ev} {a b c : List Int} (h : TL w0 wr ex ey (qE a b c) sy lv l) (hl : l.length ≤ 40) (hok : ∀ e ∈ l, properB 3 e = true ∧ 1 ≤ e.2.1 ∧ e.2.1 ≤ 60) :
    Calls Tryd.prog 27 #[.pointer (some ⟨ex, 0, none⟩), lv, .slice none 0 0] wr fun e w' => e = .returned (.bool true) ∧ Hid (TL w0 w' ex ey (finE a b c l) sy lv l ∧ SO l.length (finE a b c l)) := by
  obtain ⟨G, h1, h2⟩ := h.left
  have hfs : FS (qE a b c).qs ((qE a b c).next, (qE a b c).tq, (qE a b c).tr) l 0 (qE a b c) := FS.start (SO.start a b c) rfl (qE_runs a b c) (fun e he => (hok e he).2.1)
  refine (fed_nil (w0 := w0) ⟨h1, ⟨Nat.le_refl _, fun _ _ => rfl⟩, hfs⟩ lv none 0 h.row (fun k hk => List.mem_append_right _ (by simp [hk])) hl hok).mono ?_
  rintro e w' ⟨rfl, s', hA, hS, p1, p2, p3, p4⟩
  have hs' : s' = finE a b c l := by
    obtain ⟨mk, bf, qs, nx, tq, tr⟩ := s'
    have e1 : bf = (pass 2000000 (putAll [] l, (qE a b c).qs)).1 := congrArg Prod.fst p1
    have e2 : qs = (pass 2000000 (putAll [] l, (qE a b c).qs)).2 := congrArg Prod.snd p1
    have e3 : nx = 4 := congrArg Prod.fst p3
    have e4 : tq = 0 := congrArg (fun z => z.2.1) p3
    have e5 : tr = (qE a b c).tr := congrArg (fun z => z.2.2) p3
    have e6 : mk = [2000000, 2000000, 2000000] := p4
    subst e1 e2 e3 e4 e5 e6
    rfl
  subst hs'
  exact ⟨rfl, h2 _ w' hA hS, p2⟩
theorem fin_rem (a b c : List Int) (l : List Ev) {k : Nat} (h1 : 1 ≤ k) (h4 : k ≤ 4) : (removeE (finE a b c l) k).1 = (if k < 4 then 0 else 4) ∧ (k < 4 → wq (removeE (finE a b c l) k).2.qs k = 0) := by
  have hn : (finE a b c l).qs.map (·.num) = [1, 2, 3] := by
    show (pass 2000000 (putAll [] l, (qE a b c).qs)).2.map (·.num) = _
    rw [pass_nums]; rfl
  have hnr : NR (finE a b c l).qs := NR.pass (newQs_nr _ _)
  have hfq : FQ (finE a b c l).qs := FQ.pass (fun q hq m hm => by
    have := (newQs_num _ _ q hq).2.2.1
    rw [this] at hm; cases hm)
  obtain ⟨r1, r2, r3, r4, r5, r6, r7⟩ := remove_three (k := (k : Int)) hnr hfq (nums_n13 hn) hn (by omega) (by omega)
  refine ⟨?_, fun h => r5 (by omega)⟩
  rw [r1]
  by_cases h : k < 4
  · rw [if_pos h, if_pos (by omega)]
  · rw [if_neg h, if_neg (by omega)]
theorem fin_facts (a b c : List Int) (l : List Ev) (hso : SO l.length (finE a b c l)) {k : Nat} (h1 : 1 ≤ k) (h4 : k ≤ 4) :
    ((removeE (finE a b c l) k).1 = (if k < 4 then 0 else 4)) ∧ NR (removeE (finE a b c l) k).2.qs ∧ FQ (removeE (finE a b c l) k).2.qs ∧ N13 (removeE (finE a b c l) k).2.qs ∧ (k < 4 → wq (removeE (finE a b c l) k).2.qs k = 0) ∧ totF (removeE (finE a b c l) k).2.qs ≤ 3 * l.length ∧ (removeE (finE a b c l) k).2.tq = 0 := by
  have hn : (finE a b c l).qs.map (·.num) = [1, 2, 3] := by
    show (pass 2000000 (putAll [] l, (qE a b c).qs)).2.map (·.num) = _
    rw [pass_nums]; rfl
  obtain ⟨r1, r2, r3, r4, r5, r6, r7⟩ := remove_three (k := (k : Int)) hso.nr hso.fq (nums_n13 hn) hn (by omega) (by omega)
  refine ⟨?_, r2, r3, r4, fun h => r5 (by omega), Nat.le_trans r6 hso.tot, r7⟩
  rw [r1]
  by_cases h : k < 4
  · rw [if_pos h, if_pos (by omega)]
  · rw [if_neg h, if_neg (by omega)]
section
variable {w0 wr w' : World} {ex ey : Nat} {sx sy s' : En} {lv : Value} {l : List Ev}
theorem tl_remove (h : TL w0 wr ex ey sx sy lv l) (hr : NR sx.qs) (n : Int) :
    Calls Tryd.prog 32 #[.pointer (some ⟨ex, 0, none⟩), .int .i64 n] wr fun e w' => e = .returned (.int .i64 (removeE sx n).1) ∧ Hid (TL w0 w' ex ey (removeE sx n).2 sy lv l) := by
  obtain ⟨G, h1, h2⟩ := h.left
  refine (at_remove (n := n) h1 (Nat.le_refl _) hr).mono ?_
  rintro e w' ⟨rfl, hA, hS⟩
  exact ⟨rfl, h2 _ w' hA hS⟩
theorem tl_waiting (h : TL w0 wr ex ey sx sy lv l) (n : Int) :
    Calls Tryd.prog 23 #[.pointer (some ⟨ex, 0, none⟩), .int .i64 n] wr fun e w' => e = .returned (.int .i64 (wq sx.qs n)) ∧ Hid (TL w0 w' ex ey sx sy lv l) := by
  obtain ⟨G, h1, h2⟩ := h.left
  refine (at_waiting (n := n) h1 (Nat.le_refl _)).mono ?_
  rintro e w' ⟨rfl, hA, hS⟩
  exact ⟨rfl, h2 _ w' hA hS⟩
theorem drainE_kept (n : Nat) (s : En) : (drainE n s).1.length ≤ totF s.qs := by
  induction n generalizing s with
  | zero => simp [drainE]
  | succ m ih =>
    cases hs : serveE s with
    | none => rw [drainE_none hs]; simp
    | some x =>
      obtain ⟨mt, s'⟩ := x
      rw [drainE_some hs]
      have := (serveE_less hs).1
      have := ih s'
      simp only [List.length_cons]; omega
theorem PR2.len {w0 wr : World} {ey lb : Nat} {s : En} {av : Value} {LA : List (Mt × Value)} {x1 x2 x3 : Nat} {sv : Value} {LS : List (Mt × Value)} {n : Nat} {v : Value} {L : List (Mt × Value)} (h : PR2 w0 wr ey lb s av LA x1 x2 x3 sv LS n v L) : LS.length + L.length ≤ totF s.qs := by
  have h1 := congrArg List.length h.eq
  have h2 := drainE_kept n s
  simp only [List.length_append, List.length_map] at h1
  omega
/-- Drained in parts, then to the end: the same as at once. -/
theorem PR.all {w0 wr : World} {ey lb : Nat} {s : En} {av : Value} {LA : List (Mt × Value)} {x1 x2 x3 : Nat} {sv : Value} {LS : List (Mt × Value)} {n : Nat} (h : PR w0 wr ey lb s av LA x1 x2 x3 sv LS (n + 1000)) (hr : NR s.qs) (hf : FQ s.qs) (ht : totF s.qs ≤ 1000) (hLA : LA.map Prod.fst = (drainE 1000 s).1) (hl : LA.length ≤ 1000) :
    Calls Tryd.prog 26 #[av, sv] wr fun e w' => e = .returned (.bool true) ∧ ∃ q, w' = wr.drewN q := by
  refine same_yes wr av sv LA LS h.kp.la h.ls ?_ (by omega)
  rw [hLA, h.eq, drainE_add, drainE_parts hr hf ht (Nat.le_refl _)]
/-- The five numbers are laid, and the first Engine drained. -/
theorem tl_drain {x1 x2 x3 lb : Nat} {s : En} (h : TL w0 wr ex ey s s lv l) (hr : NR s.qs) (ht : totF s.qs ≤ 1000) (hlb : lb = wr.heap.size) (hg : Below wr.heap.size wr w') (hlt : lb < w'.heap.size) (hc : w'.heap[lb]? = some (.cells (five x1 x2 x3) 74)) :
    Calls Tryd.prog 25 #[.pointer (some ⟨ex, 0, none⟩), .int .i64 1000] w' fun e w1 => ∃ va cap LA, e = .returned (.slice va LA.length cap) ∧ LA.map Prod.fst = (drainE 1000 s).1 ∧ Hid (PR w0 w1 ey lb s (.slice va LA.length cap) LA x1 x2 x3 (.slice none 0 0) [] 0) := by
  subst hlb
  have hT := (h.tw.sub (G := []) (by simp)).new (G := [wr.heap.size]) (Nat.le_refl _) hg (by simpa using hlt)
  rw [List.nil_append] at hT
  obtain ⟨G, h1, h2⟩ := hT.left
  refine (at_drain (n := 1000) h1 (Nat.le_refl _) hr (by omega)).mono ?_
  rintro e w1 ⟨v1, L1, rfl, hL1, hM1, hA1, hS1, hF1⟩
  have k1 := h2 _ _ w1 hA1 hS1 (fun b hb hm => hF1 b hb (List.mem_append_left _ hm))
  obtain ⟨G', l1, l2⟩ := k1.swap.left
  obtain ⟨va, cap, rfl, _⟩ := hM1.row.form
  refine ⟨va, cap, L1, rfl, hL1, ?_, ⟨hM1, ?_, fun hm => hF1 _ hm (List.mem_append_right _ (by simp)), h.tw.below.size⟩, ⟨⟨rfl, Or.inl ⟨rfl, rfl⟩⟩, by simp⟩, rfl, fun b hb => by cases hb⟩
  · refine l1.sub (fun x hx => ?_)
    have : x ∈ kb wr.heap.size (.slice va L1.length cap) L1 := by simpa [eblk, Value.ownBlock] using hx
    exact List.mem_append_right _ this
  · rw [hS1.2 _ (List.mem_append_right _ (by simp))]; exact hc
end
end Go.Proofs.YtbgfannlfagoiaaDoor
