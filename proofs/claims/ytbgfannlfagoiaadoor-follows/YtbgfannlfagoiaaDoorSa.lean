import Derived.Test.YtbgfannlfagoiaaDoorUa
import Derived.Test.YtbgfannlfagoiaaDoorPus
namespace Go.Proofs.YtbgfannlfagoiaaDoor
open Go.RowKit Go.Lull
set_option linter.unusedVariables false

/-- The Engine with the one pattern of Silent. -/
def sE (n : Nat) : En := { openE with qs := [⟨1, stSil, (n : Int), [], []⟩], next := 2 }
theorem reg_sil (n : Nat) (h : n < 100) : regE openE [silT n] = (0, 0, 1, sE n) := by
  unfold regE resAll resAll
  rw [silT_ok n h]
  rfl
/-- The Engine with the two patterns of Follows. -/
def fE (n : Nat) : En := { openE with qs := [⟨1, stFol, (n : Int), [], []⟩, ⟨2, stAl, (n : Int), [], []⟩], next := 3 }
theorem reg_fol (n : Nat) (h : n < 100) : regE openE [folT n, aloT n] = (0, 0, 2, fE n) := by
  unfold regE resAll resAll resAll
  rw [folT_ok n h, aloT_ok n h]
  rfl
theorem numS_numT (n : Nat) : numS n = numT n := rfl
theorem SO.sil (n : Nat) : SO 0 (sE n) := by
  refine ⟨rfl, List.Pairwise.nil, (fun e he => by cases he), ?_, Nat.le_refl _, List.pairwise_singleton _ _, by show 1 ≤ 3; omega, ?_⟩
  · intro q hq
    have hq' : q ∈ [(⟨1, stSil, (n : Int), [], []⟩ : Qy)] := hq
    rw [List.mem_singleton] at hq'; subst hq'; exact Nat.le_refl 0
  · intro q hq m hm
    have hq' : q ∈ [(⟨1, stSil, (n : Int), [], []⟩ : Qy)] := hq
    rw [List.mem_singleton] at hq'; subst hq'; cases hm
theorem SO.fol (n : Nat) : SO 0 (fE n) := by
  have hm2 : ∀ q ∈ (fE n).qs, q = ⟨1, stFol, (n : Int), [], []⟩ ∨ q = ⟨2, stAl, (n : Int), [], []⟩ := by
    intro q hq
    have hq' : q ∈ [(⟨1, stFol, (n : Int), [], []⟩ : Qy), ⟨2, stAl, (n : Int), [], []⟩] := hq
    simpa using hq'
  refine ⟨rfl, List.Pairwise.nil, (fun e he => by cases he), ?_, Nat.le_refl _, ?_, by show 2 ≤ 3; omega, ?_⟩
  · intro q hq
    rcases hm2 q hq with rfl | rfl <;> exact Nat.le_refl 0
  · show NR [(⟨1, stFol, (n : Int), [], []⟩ : Qy), ⟨2, stAl, (n : Int), [], []⟩]
    refine List.pairwise_cons.2 ⟨fun q hq => ?_, List.pairwise_singleton _ _⟩
    rw [List.mem_singleton] at hq; subst hq; show 1 < 2; omega
  · intro q hq m hm
    rcases hm2 q hq with rfl | rfl <;> cases hm
/-- One Engine, and a row of events that is none of its own. -/
structure AL (w0 wr : World) (eb : Nat) (s : En) (lv : Value) (l : List Ev) : Prop where
  at_ : At w0.heap.size eb w0 s lv.ownBlock.toList wr
  row : Row wr 56 4 lv l.length (l.flatMap evC)
section
variable {w0 wr : World} {eb : Nat} {s : En} {lv : Value} {l : List Ev}
theorem AL.next {s' : En} {w' : World} (h : AL w0 wr eb s lv l) (hA : At w0.heap.size eb w0 s' lv.ownBlock.toList w') (hS : Same lv.ownBlock.toList wr w') : AL w0 w' eb s' lv l :=
  ⟨hA, h.row.same (fun b hb => hS.2 b (by simp [hb]))⟩
/-- Register of some texts, in a list that was just laid, behind what lays new blocks alone. -/
theorem al_reg {m : Int} (hm : w0.cell? ⟨0, 0, none⟩ = some (.int .i64 m)) (h : AL w0 wr eb openE lv l) {W : World} (hB : Below wr.heap.size wr W) (ss : List ByteArray) (k : Nat) (s' : En) (hk : 0 < k) (hlen : ss.length ≤ 10) (hr : regE openE (ss.map (·.data.toList)) = (0, 0, k, s')) (N : Nat) (hN : N = W.heap.size) :
    Calls Tryd.prog 19 #[.pointer (some ⟨eb, 0, none⟩), .slice (some ⟨N, 0, none⟩) ss.length ss.length] (W.alloc (.cells (ss.map Value.string).toArray 9)) fun e w2 => ∃ g off cap, e = .returned (.tuple #[.slice (some ⟨g, off, none⟩) k cap, .int .i64 0, .int .i64 0]) ∧ k ≤ cap ∧ Hid (AL w0 w2 eb s' lv l) := by
  subst hN
  have hz0 : 0 < w0.heap.size := block_lt_of_cell hm
  have hb1 : Below wr.heap.size wr (W.alloc (.cells (ss.map Value.string).toArray 9)) := hB.alloc hB.size _
  obtain ⟨hA1, hS1⟩ := h.at_.then (Nat.le_refl _) hb1
  have hm1 : (W.alloc (.cells (ss.map Value.string).toArray 9)).cell? ⟨0, 0, none⟩ = some (.int .i64 m) := (hA1.below.cell (p := ⟨0, 0, none⟩) hz0).trans hm
  refine (at_reg (ss := ss) (cap := ss.length) hA1 (Nat.le_refl _) hm1 (tx_new W ss _ rfl) (by omega) (Nat.le_refl _) (by decide)).mono ?_
  rw [hr]
  rintro e w2 ⟨v, rfl, hrow, hA2, hS2, _⟩
  obtain ⟨g, off, cap, rfl, hc⟩ := row_some hrow hk
  exact ⟨g, off, cap, rfl, hc, h.next (hA2.sub (fun x hx => List.mem_append_left _ hx)) (hS1.trans hS2)⟩
end
end Go.Proofs.YtbgfannlfagoiaaDoor

namespace Go.Proofs.YtbgfannlfagoiaaDoor
open Go.RowKit Go.Lull
set_option linter.unusedVariables false

theorem fd_offer2 {w0 w wr : World} {eb : Nat} {F : List Nat} {q0 : List Qy} {z : Nat × Nat × Nat} {l : List Ev} {s : En} {k : Nat} (h : FD w0 w wr eb F q0 z l s k) (hlt : k < l.length) (hl : l.length ≤ 40) (hok : ∀ e ∈ l, properB 3 e = true ∧ 1 ≤ e.2.1 ∧ e.2.1 ≤ 60) (x : Ev) (hx : l[k] = x) :
    Calls Tryd.prog 21 #[.pointer (some ⟨eb, 0, none⟩), .slice (some ⟨wr.heap.size, 0, none⟩) 1 1] (wr.alloc (.cells #[.int .i64 x.1, .int .i64 x.2.1, .int .u8 x.2.2.1.toNat, .int .i64 x.2.2.2] 56)) fun e w1 => e = .returned (.tuple #[.int .i64 1, .int .i64 0]) ∧ ∃ s', s'.marks = s.marks ∧ Hid (FD w0 w w1 eb F q0 z l s' (k + 1)) := by
  obtain ⟨hp, h1, h2⟩ := hok x (by rw [← hx]; exact List.getElem_mem hlt)
  have hof := offer_ok (s := s) (e := x) (by rw [h.fs.so.m3]; exact hp) (by have := h.fs.mark hlt; rw [hx] at this; omega) (by have := h.fs.so.bl; omega)
  refine (at_offer1 (x := x) h.at_ (Nat.le_refl _) h.fs.so.sb rfl).mono ?_
  rw [hof]
  rintro e w1 ⟨rfl, hA, hS⟩
  refine ⟨rfl, { s with buf := putB s.buf x }, rfl, hA, h.same.trans hS, ?_⟩
  have := h.fs.offer hlt (by rw [hx]; omega) (by rw [hx]; omega)
  rw [hx] at this
  exact this
/-- Silent, while it lists what it wants. -/
structure SW (w0 wr : World) (eb : Nat) (s : En) (lv : Value) (l : List Ev) (sv : Value) (LS : List (Mt × Value)) : Prop where
  at_ : At w0.heap.size eb w0 s (lv.ownBlock.toList ++ (sv.ownBlock.toList ++ eblk (LS.map fp))) wr
  row : Row wr 56 4 lv l.length (l.flatMap evC)
  ls : MS wr sv LS
  ne : ∀ b, sv.ownBlock = some b → b ∉ lv.ownBlock.toList ∧ b ∉ eblk (LS.map fp) ∧ w0.heap.size ≤ b
section
variable {w0 wr w' : World} {eb : Nat} {s : En} {lv sv : Value} {l : List Ev} {LS : List (Mt × Value)}
theorem SW.start (h : AL w0 wr eb s lv l) : SW w0 wr eb s lv l (.slice none 0 0) [] :=
  ⟨h.at_.sub (fun x hx => by simpa [eblk, Value.ownBlock] using hx), h.row, ⟨⟨rfl, Or.inl ⟨rfl, rfl⟩⟩, by simp⟩, fun b hb => by cases hb⟩
theorem SW.drewN (h : SW w0 wr eb s lv l sv LS) (q : Nat) : SW w0 (wr.drewN q) eb s lv l sv LS :=
  ⟨(h.at_.then (Nat.le_refl _) (below_drewN (Below.refl _ _) q)).1, h.row.same (fun b hb => by simp), h.ls.same (fun b hb => by simp), h.ne⟩
/-- A match whose events were just laid is appended. -/
theorem SW.push {m : Mt} {ev : List Ev} {g off cap : Nat} {o1 o2 : Obj} (h : SW w0 wr eb s lv l sv LS) (hev : m.evs = ev)
    (hrow1 : Row (wr.alloc o1) 56 4 (.slice (some ⟨wr.heap.size, 0, none⟩) ev.length ev.length) ev.length (ev.flatMap evC))
    (hrow : Row w' 60 3 (.slice (some ⟨g, off, none⟩) (LS.length + 1) cap) (LS.length + 1) (LS.flatMap matC ++ [.int .i64 m.q, .int .i64 m.cl, .slice (some ⟨wr.heap.size, 0, none⟩) ev.length ev.length]))
    (hg : ((wr.alloc o1).alloc o2).grownBy w' sv.ownBlock) (hat : sv.ownBlock = some g ∨ g = wr.heap.size + 1 + 1) :
    SW w0 w' eb s lv l (.slice (some ⟨g, off, none⟩) (LS ++ [(m, Value.slice (some ⟨wr.heap.size, 0, none⟩) ev.length ev.length)]).length cap) (LS ++ [(m, Value.slice (some ⟨wr.heap.size, 0, none⟩) ev.length ev.length)]) := by
  obtain ⟨w2, hw2⟩ : ∃ w2, (wr.alloc o1).alloc o2 = w2 := ⟨_, rfl⟩
  have hb2 : Below wr.heap.size wr w2 := by rw [← hw2]; exact ((Below.refl _ _).alloc (Nat.le_refl _) _).alloc (by simp) _
  have hz2 : w2.heap.size = wr.heap.size + 1 + 1 := by rw [← hw2]; simp
  have hev2 : Row w2 56 4 (.slice (some ⟨wr.heap.size, 0, none⟩) ev.length ev.length) ev.length (ev.flatMap evC) := by
    rw [← hw2]
    exact hrow1.same (fun b hb => Below.heap_alloc _ _ _ (hrow1.lt b hb))
  rw [hw2] at hg
  have hlt := h.at_.lt
  have hN : w0.heap.size ≤ wr.heap.size := h.at_.below.size
  have hsame : ∀ b, b < wr.heap.size → (∀ k, sv.ownBlock = some k → k ≠ b) → w'.heap[b]? = wr.heap[b]? := fun b hl hk => by
    rw [hg.block b (by omega) (fun e => hk b e.symm rfl), hb2.block b hl]
  have hA2 := (h.at_.new (G := [wr.heap.size]) (Nat.le_refl _) hb2 (by intro b hb; simp at hb; subst hb; omega)).1
  have hsub : ∀ b ∈ eblk ((LS ++ [(m, Value.slice (some ⟨wr.heap.size, 0, none⟩) ev.length ev.length)]).map fp), b ∈ eblk (LS.map fp) ∨ b = wr.heap.size := by
    intro b hb
    rw [List.map_append] at hb
    simp only [eblk, List.flatMap_append, List.mem_append] at hb ⊢
    rcases hb with hb | hb
    · exact Or.inl hb
    · right; simpa [fp, Value.ownBlock] using hb
  have hnb : ∀ b, (Value.slice (some ⟨g, off, none⟩) (LS ++ [(m, Value.slice (some ⟨wr.heap.size, 0, none⟩) ev.length ev.length)]).length cap).ownBlock = some b → b = g := fun b hb => (Option.some.inj hb).symm
  have hsz := hg.size
  refine ⟨?_, h.row.same (fun b hb => hsame b (h.row.lt b hb) (fun k hk e => by subst e; exact (h.ne k hk).1 (by simp [hb]))), ⟨?_, ?_⟩, ?_⟩
  · refine hA2.grown (Nat.le_refl _) hg (fun b hb => ⟨List.mem_append_left _ (List.mem_append_right _ (List.mem_append_left _ (by simp [hb]))), (h.ne b hb).2.2⟩) ?_
    intro b hb
    rcases List.mem_append.1 hb with h1 | h1
    · exact Or.inl (List.mem_append_left _ (List.mem_append_left _ h1))
    · rcases List.mem_append.1 h1 with h2 | h2
      · have hb2 := hnb b (by simpa using h2)
        subst hb2
        rcases hat with h3 | h3
        · exact Or.inl (List.mem_append_left _ (List.mem_append_right _ (List.mem_append_left _ (by simp [h3]))))
        · exact Or.inr ⟨by omega, hrow.lt b rfl⟩
      · rcases hsub b h2 with h3 | h3
        · exact Or.inl (List.mem_append_left _ (List.mem_append_right _ (List.mem_append_right _ h3)))
        · exact Or.inl (List.mem_append_right _ (by simp [h3]))
  · rw [List.length_append, List.flatMap_append]; exact hrow
  · intro x hx
    rcases List.mem_append.1 hx with h1 | h1
    · refine (h.ls.ev x h1).same (fun b hb => hsame b ((h.ls.ev x h1).lt b hb) (fun k hk e => ?_))
      subst e
      exact (h.ne k hk).2.1 (mem_eblk.2 ⟨fp x, List.mem_map.2 ⟨x, h1, rfl⟩, hb⟩)
    · rw [List.mem_singleton] at h1
      subst h1
      subst hev
      refine hev2.same (fun b hb => ?_)
      have hb' : wr.heap.size = b := Option.some.inj hb
      subst hb'
      exact hg.block _ (by omega) (fun e => by have := h.ls.row.lt _ e.symm; omega)
  · intro b hb
    have hb' := hnb b hb
    subst hb'
    rcases hat with h3 | h3
    · obtain ⟨a1, a2, a3⟩ := h.ne b h3
      exact ⟨a1, fun hm => (hsub b hm).elim a2 (fun e => by have := h.ls.row.lt b h3; omega), a3⟩
    · refine ⟨fun hm => ?_, fun hm => ?_, by omega⟩
      · have := hlt b (List.mem_append_left _ hm); omega
      · rcases hsub b hm with h4 | h4
        · have := hlt b (List.mem_append_right _ (List.mem_append_right _ h4)); omega
        · omega
end
/-- Silent's end: what waits, what runs, what comes out. -/
theorem sw_end {w0 wr : World} {eb : Nat} {s : En} {lv sv : Value} {l : List Ev} {LS : List (Mt × Value)} {st : List Stp} {n : Int} {R : List Rn} {k : Nat} (h : SW w0 wr eb s lv l sv LS) (hq : s.qs = [⟨1, st, n, R, LS.map Prod.fst⟩]) (hso : SO k s) (hk : k ≤ 300) :
    Calls Tryd.prog 23 #[.pointer (some ⟨eb, 0, none⟩), .int .i64 1] wr fun e w1 => e = .returned (.int .i64 (LS.length : Int)) ∧ Hid (Calls Tryd.prog 24 #[.pointer (some ⟨eb, 0, none⟩), .int .i64 1] w1 fun e w2 => e = .returned (.int .i64 (R.length : Int)) ∧ Hid (Calls Tryd.prog 25 #[.pointer (some ⟨eb, 0, none⟩), .int .i64 1000] w2 fun e w3 => ∃ v, e = .returned v ∧ Hid (Calls Tryd.prog 26 #[v, sv] w3 fun e w4 => e = .returned (.bool true) ∧ Below w0.heap.size w0 w4))) := by
  have ht := hso.tot
  have hfd : findE s 1 = some ⟨1, st, n, R, LS.map Prod.fst⟩ := by unfold findE; rw [hq]; rfl
  have hwt : waitE s 1 = LS.length := by unfold waitE; rw [hfd]; simp
  have hrn : runsE s 1 = R.length := by unfold runsE; rw [hfd]
  have hll : LS.length ≤ 3 * k := by
    have : totF s.qs = LS.length := by rw [hq]; simp [totF]
    omega
  refine (at_waiting (n := 1) h.at_ (Nat.le_refl _)).mono ?_
  rw [hwt]
  rintro e w1 ⟨rfl, hA1, hS1⟩
  refine ⟨rfl, ?_⟩
  refine (at_runs (n := 1) hA1 (Nat.le_refl _)).mono ?_
  rw [hrn]
  rintro e w2 ⟨rfl, hA2, hS2⟩
  refine ⟨rfl, ?_⟩
  refine (at_drain (n := 1000) hA2 (Nat.le_refl _) hso.nr (by omega)).mono ?_
  rintro e w3 ⟨v, L, rfl, hL, hM, hA3, hS3, hF3⟩
  refine ⟨v, rfl, ?_⟩
  have hS := (hS1.trans hS2).trans hS3
  have hls : MS w3 sv LS := h.ls.same (fun b hb => hS.2 b (List.mem_append_right _ hb))
  have hd : (drainE 1000 s).1 = LS.map Prod.fst := drainE_one hq hso.nr hso.fq (by omega)
  have hLL : L.map Prod.fst = LS.map Prod.fst := hL.trans hd
  have hlen : L.length = LS.length := by have := congrArg List.length hLL; simpa using this
  refine (same_yes w3 v sv L LS hM hls hLL (by omega)).mono ?_
  rintro e w4 ⟨rfl, q, rfl⟩
  exact ⟨rfl, below_drewN hA3.below q⟩
end Go.Proofs.YtbgfannlfagoiaaDoor
