import Derived.Test.YtbgfannlfagoiaaGreatDoorZ08
import Derived.Test.YtbgfannlfagoiaaGreatDoorZ09
import Derived.Test.YtbgfannlfagoiaaGreatDoorZ07
namespace Go.Proofs.YtbgfannlfagoiaaGreatDoor
open Go.RowKit Go.Lull
set_option linter.unusedVariables false

/-- path, of a query, over the events up to some place. -/
theorem path_of {w : World} {qb sb sc lc lb : Nat} {q : RQ} {M : Int} (h : QM w qb sb sc lc (some ⟨lb, 0, none⟩) q) (hq : RQok M q) (hlen : q.seen.length ≤ 1000000) (mark : Int) (i : Nat) (hi : i < q.seen.length) (j c : Nat) (hij : i < j) (hj : j ≤ q.seen.length) (hc : j ≤ c) :
  Calls Tryz.prog 99 #[.agg #[.slice (some ⟨sb, 0, none⟩) q.st.length sc, .int .i64 q.wn], .slice (some ⟨lb, 0, none⟩) j c, .int .i64 i, .int .i64 mark] w (PathPost w (pathB q.st q.wn (q.seen.take j) i mark)) := by
 obtain ⟨lb', e1, hE⟩ := h.seen i hi
 obtain rfl : lb = lb' := by simpa using e1
 have hl : (q.seen.take j).length = j := by rw [List.length_take]; omega
 have := path_any q.st q.wn mark sb sc lb c i (q.seen.take j) w (List.length_pos_iff.2 hq.vp.ne) hq.len h.stc (by omega) (by omega) (by omega) hq.w0 hq.w1 (fun k hk => by
  have hk2 : k < q.seen.length := by omega
  rw [getD_take (by omega) hk2]
  have hm : q.seen.getD k noEv ∈ q.seen := by simp [List.getD, hk2]
  exact hq.tm _ hm) h.st (hE.take j)
 rw [hl] at this
 exact this

set_option maxRecDepth 8000 in
set_option maxHeartbeats 1000000 in
theorem at_any {w : World} {qb sb sc lc lb : Nat} {q : RQ} {M : Int} (h : QM w qb sb sc lc (some ⟨lb, 0, none⟩) q) (hq : RQok M q) (hlen : q.seen.length ≤ 1000000) (mark : Int) (i n : Nat) (hi : i < q.seen.length) :
  Calls Tryz.prog 100 #[.pointer (some ⟨qb, 0, none⟩), .int .i64 i, .int .i64 n, .int .i64 mark] w fun e w' => e = .returned (.int .i64 (closeJ q.st q.wn q.seen mark i n : Int)) ∧ Below w.heap.size w w' := by
 have HQ := Hid.mk' h
 have HP : Hid (∀ W j, Below w.heap.size w W → i < j → j ≤ q.seen.length → Calls Tryz.prog 99 #[.agg #[.slice (some ⟨sb, 0, none⟩) q.st.length sc, .int .i64 q.wn], .slice (some ⟨lb, 0, none⟩) j lc, .int .i64 i, .int .i64 mark] W (PathPost W (pathB q.st q.wn (q.seen.take j) i mark))) := by
  intro W j hb h1 h2
  exact path_of (h.below hb) hq hlen mark i hi j lc h1 h2 (by have := h.lc; omega)
 have hlc := h.lc
 have hyes : Hid (∀ j, j < q.seen.length → (∀ j', j' < j → hitB q.st q.wn q.seen mark i n j' = false) → hitB q.st q.wn q.seen mark i n j = true → closeJ q.st q.wn q.seen mark i n = j) := by
  intro j hj h1 h2
  have hf : (List.range q.seen.length).find? (hitB q.st q.wn q.seen mark i n) = some j := by
   rw [List.find?_range_eq_some]
   exact ⟨h2, List.mem_range.2 hj, fun j' hj' => by rw [h1 j' hj']; rfl⟩
  unfold closeJ; rw [hf]; rfl
 have hno : Hid ((∀ j', j' < q.seen.length → hitB q.st q.wn q.seen mark i n j' = false) → closeJ q.st q.wn q.seen mark i n = q.seen.length) := by
  intro h1
  have hf : (List.range q.seen.length).find? (hitB q.st q.wn q.seen mark i n) = none := by
   rw [List.find?_eq_none]
   intro x hx
   rw [h1 x (List.mem_range.1 hx)]; simp
  unfold closeJ; rw [hf]; rfl
 have hhit : Hid (∀ j, i ≤ j → hitB q.st q.wn q.seen mark i n j = ((pathB q.st q.wn (q.seen.take (j + 1)) i mark).2.2.1 && decide ((pathB q.st q.wn (q.seen.take (j + 1)) i mark).1.length = n))) := by
  intro j hj; unfold hitB; simp [hj]
 have hlow : Hid (∀ j, j < i → hitB q.st q.wn q.seen mark i n j = false) := by
  intro j hj; unfold hitB; simp; omega
 clear h hq
 go_enter Tryz.func100, Tryz.ntmps100
 go_wp2
 go_loopw [9] (fun jv wr => ∃ (j : Nat) (z : Int), z = j ∧ jv = .int .i64 z ∧ i ≤ j ∧ j ≤ q.seen.length ∧ Hid (∀ j', j' < j → hitB q.st q.wn q.seen mark i n j' = false) ∧ Hid (Below w.heap.size w wr)) (fun jv _ => q.seen.length - (intOf jv).toNat)
 case atStart => exact ⟨i, i, rfl, rfl, Nat.le_refl _, by omega, hlow, Hid.mk' (Below.refl _ _)⟩
 case round =>
  obtain ⟨j, z, rfl, rfl, hij, hjl, hmiss, hB⟩ := hrel
  have hblk := (HQ.out.below hB.out).blk
  have c1 := cell_of_row wr qb 1 _ _ _ hblk
  have c2 := cell_of_row wr qb 2 _ _ _ hblk
  have c3 := cell_of_row wr qb 3 _ _ _ hblk
  simp at c1 c2 c3
  clear hblk
  by_cases hlt : j < q.seen.length
  ·obtain ⟨R, hR⟩ : ∃ R, pathB q.st q.wn (q.seen.take (j + 1)) i mark = R := ⟨_, rfl⟩
   have hp : Hid (∀ W, Below w.heap.size w W → Calls Tryz.prog 99 #[.agg #[.slice (some ⟨sb, 0, none⟩) q.st.length sc, .int .i64 q.wn], .slice (some ⟨lb, 0, none⟩) (j + 1) lc, .int .i64 i, .int .i64 mark] W fun e w' => ∃ a c, e = .returned (.tuple #[.slice a R.1.length c, .int .i64 R.2.1, .bool R.2.2.1, .bool R.2.2.2]) ∧ Hid (Below w.heap.size w w') ∧ w'.cell? ⟨qb, 1, none⟩ = some (.slice (some ⟨sb, 0, none⟩) q.st.length sc) ∧ w'.cell? ⟨qb, 2, none⟩ = some (.int .i64 q.wn) ∧ w'.cell? ⟨qb, 3, none⟩ = some (.slice (some ⟨lb, 0, none⟩) q.seen.length lc)) := by
    intro W hb
    rw [← hR]
    refine (HP.out W (j + 1) hb (by omega) (by omega)).mono ?_
    rintro e w' ⟨a, c, rfl, hb2, _⟩
    have hB2 : Below w.heap.size w w' := hb.trans (hb2.mono hb.size)
    have hblk := (HQ.out.below hB2).blk
    refine ⟨a, c, rfl, hB2, ?_, ?_, ?_⟩
    ·rw [cell_of_row w' qb 1 _ _ _ hblk]; rfl
    ·rw [cell_of_row w' qb 2 _ _ _ hblk]; rfl
    ·rw [cell_of_row w' qb 3 _ _ _ hblk]; rfl
   have hh := Hid.mk' (hhit.out j hij)
   rw [hR] at hh
   clear hR
   obtain ⟨tk, cl, ok, ov⟩ := R
   simp only at hh hp
   have b1 : (j : Int) + 1 ≤ (lc : Int) := by omega
   have b2 : (0 : Int) ≤ (j : Int) + 1 := by omega
   have w1 : IntKind.i64.wrap ((j : Int) + 1) = (j : Int) + 1 := IntWalk.i64_in _ (by omega)
   have HB := hB.out
   go_wp2
   go_region_held3 (fun w' => w'.cell? ⟨qb, 1, none⟩ = some (.slice (some ⟨sb, 0, none⟩) q.st.length sc) ∧ w'.cell? ⟨qb, 2, none⟩ = some (.int .i64 q.wn) ∧ w'.cell? ⟨qb, 3, none⟩ = some (.slice (some ⟨lb, 0, none⟩) q.seen.length lc))
    (first | (refine ⟨?_, ?_, ?_⟩ <;> (repeat (first | assumption | apply drew_keep | apply alloc_keep))) | go_keep)
    (first | (go_at_call 99; refine (hp.out _ (by repeat (first | exact HB | apply Below.drew))).mono ?_; rintro e w' ⟨a, c, rfl, hBn, k1, k2, k3⟩))
   have hmiss2 : hitB q.st q.wn q.seen mark i n j = false → Hid (∀ j', j' < j + 1 → hitB q.st q.wn q.seen mark i n j' = false) := by
    intro h0 j' hj'
    rcases Nat.lt_or_ge j' j with h1 | h1
    ·exact hmiss.out j' h1
    ·obtain rfl : j' = j := by omega
     exact h0
   have hyes2 : Hid (hitB q.st q.wn q.seen mark i n j = true → closeJ q.st q.wn q.seen mark i n = j) := fun h2 => hyes.out j hlt hmiss.out h2
   cases ok with
   | false =>
    have hm2 := hmiss2 (by rw [hh.out]; rfl)
    clear hmiss2 hyes2 hh
    go_wp2
    go_roundw
    case rel => exact ⟨j + 1, (j : Int) + 1, by omega, rfl, by omega, by omega, hm2, hBn⟩
    case measure => simp [intOf]; omega
   | true =>
    by_cases hn : tk.length = n
    ·have hcl := Hid.mk' (hyes2.out (by rw [hh.out]; simp [hn]))
     clear hmiss2 hyes2 hh
     subst hn
     go_wp2
     go_ret
     rw [hcl.out]
     exact ⟨rfl, hBn.out⟩
    ·have hm2 := hmiss2 (by rw [hh.out]; simp [hn])
     have hn2 : ((tk.length : Int) == (n : Int)) = false := by simp; omega
     have hn3 : ¬ (tk.length : Int) = (n : Int) := by omega
     clear hmiss2 hyes2 hh
     go_wp2
     go_roundw
     case rel => exact ⟨j + 1, (j : Int) + 1, by omega, rfl, by omega, by omega, hm2, hBn⟩
     case measure => simp [intOf]; omega
  ·have hjj : j = q.seen.length := by omega
   subst hjj
   have hfin := Hid.mk' (hno.out hmiss.out)
   clear hmiss
   go_wp2
   go_ret
   rw [hfin.out]
   exact ⟨rfl, hB.out⟩
end Go.Proofs.YtbgfannlfagoiaaGreatDoor

namespace Go.Lull
set_option linter.unusedVariables false

/-! ### Who is served -/
def hasB (M : Int) (q : RQ) : Bool := !(qOf M q).found.isEmpty
def noMt : Mt := ⟨0, 0, []⟩
def headM (M : Int) (q : RQ) : Mt := (qOf M q).found.headD noMt
def bumpQ (n : Nat) (qs : List RQ) : List RQ := qs.map (fun q => if q.id = n then { q with gone := q.gone + 1 } else q)
def lastR (r : RS) : Option RQ := if r.row < 2 then (match r.qs.find? (fun q => (q.id : Int) == r.served) with | some q => (if hasB (markB r.marks) q = true then some q else none) | none => none) else none
def nextR (r : RS) : Option RQ := match r.qs.find? (fun q => hasB (markB r.marks) q && decide (r.served < (q.id : Int))) with | some q => some q | none => r.qs.find? (hasB (markB r.marks))
theorem qOf_bump (M : Int) (q : RQ) : qOf M { q with gone := q.gone + 1 } = { qOf M q with found := (qOf M q).found.tail } := by
 unfold qOf dropF RQ.all
 simp [List.tail_drop]
theorem pop_bump (M : Int) (n : Nat) (qs : List RQ) : popQ n (qs.map (qOf M)) = (bumpQ n qs).map (qOf M) := by
 unfold popQ bumpQ
 rw [List.map_map, List.map_map]
 refine List.map_congr_left (fun q _ => ?_)
 simp only [Function.comp, qOf_num]
 by_cases h : q.id = n
 ·rw [if_pos h, if_pos h, qOf_bump]
  show ({ num := q.id, st := (qOf M q).st, wn := (qOf M q).wn, runs := (qOf M q).runs, found := (qOf M q).found.tail } : Qy) = { num := (qOf M q).num, st := (qOf M q).st, wn := (qOf M q).wn, runs := (qOf M q).runs, found := (qOf M q).found.tail }
  rw [qOf_num]
 ·rw [if_neg h, if_neg h]
theorem has_head {M : Int} {q : RQ} (h : hasB M q = true) : (qOf M q).found.head? = some (headM M q) := by
 unfold hasB at h
 unfold headM
 cases hf : (qOf M q).found with
 | nil => rw [hf] at h; cases h
 | cons a b => rfl
theorem has_not {M : Int} {q : RQ} (h : hasB M q = false) : (qOf M q).found = [] := by
 unfold hasB at h
 cases hf : (qOf M q).found with
 | nil => rfl
 | cons a b => rw [hf] at h; cases h
theorem find_eOf (r : RS) (n : Int) : findE (eOf r) n = (r.qs.find? (fun q => (q.id : Int) == n)).map (qOf (markB r.marks)) := by
 unfold findE eOf
 simp only [List.find?_map]
 congr 1
 refine congrArg (fun p => List.find? p r.qs) ?_
 funext q
 simp [qOf_num]
theorem firstF_find (M : Int) : ∀ l : List RQ, firstF (l.map (qOf M)) = (l.find? (hasB M)).map (fun q => (q.id, headM M q))
 | [] => rfl
 | q :: l => by
  rw [List.map_cons, List.find?_cons]
  unfold firstF
  cases h : hasB M q with
  | true =>
   have := has_head h
   cases hf : (qOf M q).found with
   | nil => rw [hf] at this; cases this
   | cons a b =>
    rw [hf] at this
    simp at this
    simp [qOf_num, this]
  | false =>
   rw [has_not h]
   exact firstF_find M l
theorem find_filter {α : Type} (p q : α → Bool) (l : List α) : (l.filter p).find? q = l.find? (fun x => q x && p x) := by
 induction l with
 | nil => rfl
 | cons a l ih =>
  rw [List.filter_cons, List.find?_cons]
  cases hp : p a with
  | true =>
   rw [if_pos rfl, List.find?_cons]
   cases hq : q a with
   | true => simp
   | false => simp [ih]
  | false =>
   rw [if_neg (by simp)]
   simp [ih]
theorem order_find (M : Int) (qs : List RQ) (t : Nat) : firstF ((qs.map (qOf M)).filter (fun q => decide (t < q.num)) ++ (qs.map (qOf M)).filter (fun q => !decide (t < q.num))) = (match qs.find? (fun q => hasB M q && decide (t < q.id)) with | some q => some (q.id, headM M q) | none => (qs.find? (hasB M)).map (fun q => (q.id, headM M q))) := by
 have e1 : (qs.map (qOf M)).filter (fun q => decide (t < q.num)) = (qs.filter (fun q => decide (t < q.id))).map (qOf M) := by
  rw [List.filter_map]; congr 1; refine congrArg (fun p => List.filter p qs) ?_; funext q; simp [qOf_num]
 have e2 : (qs.map (qOf M)).filter (fun q => !decide (t < q.num)) = (qs.filter (fun q => !decide (t < q.id))).map (qOf M) := by
  rw [List.filter_map]; congr 1; refine congrArg (fun p => List.filter p qs) ?_; funext q; simp [qOf_num]
 rw [e1, e2, ← List.map_append, firstF_find, List.find?_append, find_filter, find_filter]
 cases h : qs.find? (fun q => hasB M q && decide (t < q.id)) with
 | some q => rfl
 | none =>
  have hno : ∀ q ∈ qs, hasB M q = true → ¬ t < q.id := by
   intro q hq hh hlt
   have := List.find?_eq_none.1 h q hq
   simp [hh, hlt] at this
  have : qs.find? (fun q => hasB M q && !decide (t < q.id)) = qs.find? (hasB M) := by
   clear h e1 e2
   induction qs with
   | nil => rfl
   | cons a l ih =>
    rw [List.find?_cons, List.find?_cons]
    cases ha : hasB M a with
    | false => simp; exact ih (fun q hq => hno q (List.mem_cons_of_mem _ hq))
    | true => have := hno a List.mem_cons_self ha; simp [this]
  rw [this]; simp
def rowR (r : RS) (q : RQ) : RS := { r with row := r.row + 1, qs := bumpQ q.id r.qs }
def takeR (r : RS) (q : RQ) : RS := { r with served := q.id, row := 1, qs := bumpQ q.id r.qs }
theorem serve_sim {n : Nat} {r : RS} (hr : RSok n r) : serveE (eOf r) = match lastR r with
  | some q => some (headM (markB r.marks) q, eOf (rowR r q))
  | none => match nextR r with
   | some q => some (headM (markB r.marks) q, eOf (takeR r q))
   | none => none := by
 have hnext : ∀ t : Nat, (eOf r).tq = t → (∀ q ∈ r.qs, hasB (markB r.marks) q = true → (decide (r.served < (q.id : Int)) = decide (t < q.id))) → (match firstF (orderE (eOf r)) with | some (k, m) => some (m, { eOf r with qs := popQ k (eOf r).qs, tq := k, tr := 1 }) | none => none) = match nextR r with | some q => some (headM (markB r.marks) q, eOf (takeR r q)) | none => none := by
  intro t ht hs
  have h1 : orderE (eOf r) = (r.qs.map (qOf (markB r.marks))).filter (fun q => decide (t < q.num)) ++ (r.qs.map (qOf (markB r.marks))).filter (fun q => !decide (t < q.num)) := by
   unfold orderE; rw [ht]; rfl
  rw [h1, order_find]
  have h2 : r.qs.find? (fun q => hasB (markB r.marks) q && decide (t < q.id)) = r.qs.find? (fun q => hasB (markB r.marks) q && decide (r.served < (q.id : Int))) := by
   have : ∀ l : List RQ, (∀ q ∈ l, q ∈ r.qs) → l.find? (fun q => hasB (markB r.marks) q && decide (t < q.id)) = l.find? (fun q => hasB (markB r.marks) q && decide (r.served < (q.id : Int))) := by
    intro l
    induction l with
    | nil => intro _; rfl
    | cons a l ih =>
     intro hl
     rw [List.find?_cons, List.find?_cons, ih (fun q hq => hl q (List.mem_cons_of_mem _ hq))]
     cases ha : hasB (markB r.marks) a with
     | false => rfl
     | true => rw [hs a (hl a List.mem_cons_self) ha]
   exact this r.qs (fun _ h => h)
  rw [h2]
  unfold nextR
  have hdone : ∀ q : RQ, ({ eOf r with qs := popQ q.id (eOf r).qs, tq := q.id, tr := 1 } : En) = eOf (takeR r q) := by
   intro q
   show ({ eOf r with qs := popQ q.id (r.qs.map (qOf (markB r.marks))), tq := q.id, tr := 1 } : En) = _
   rw [pop_bump]
   rfl
  cases h3 : r.qs.find? (fun q => hasB (markB r.marks) q && decide (r.served < (q.id : Int))) with
  | some q => simp only; rw [hdone]
  | none =>
   cases h4 : r.qs.find? (hasB (markB r.marks)) with
   | some q => simp only [Option.map_some]; rw [hdone]
   | none => rfl
 unfold serveE
 rcases hr.turn with ⟨hs, hrow⟩ | ⟨hs, hrow1, hrow2⟩
 ·-- nobody was served yet
  have hl0 : lastR r = none := by
   unfold lastR
   have : r.qs.find? (fun q => (q.id : Int) == r.served) = none := by
    rw [List.find?_eq_none]
    intro q _
    rw [hs]
    have : ¬ (q.id : Int) = -1 := by omega
    simp [this]
   rw [this]; split <;> rfl
  have htq : (eOf r).tq = 0 := by show r.served.toNat = 0; rw [hs]; rfl
  have htr : (eOf r).tr = 0 := hrow
  rw [hl0]
  simp only
  cases hlf : lastF (eOf r) with
  | none =>
   simp only
   -- the first query, if it is there, has none
   have h0 : ∀ q ∈ r.qs, hasB (markB r.marks) q = true → q.id ≠ 0 := by
    intro q hq hh h0
    unfold lastF at hlf
    rw [htr, if_pos (by omega), htq, find_eOf] at hlf
    cases hf : r.qs.find? (fun q => (q.id : Int) == ((0 : Nat) : Int)) with
    | none =>
     have := List.find?_eq_none.1 hf q hq
     simp [h0] at this
    | some q' =>
     have hq' := List.mem_of_find?_eq_some hf
     have hid : q'.id = 0 := by have := List.find?_some hf; simpa using this
     have heq : q' = q := by
      have : ∀ (l : List RQ), l.Pairwise (fun a b => a.id < b.id) → ∀ a ∈ l, ∀ b ∈ l, a.id = b.id → a = b := by
       intro l
       induction l with
       | nil => intro _ a ha; cases ha
       | cons c l ih =>
        intro hl a ha b hb hab
        have hc := List.pairwise_cons.1 hl
        rcases List.mem_cons.1 ha with rfl | ha
        ·rcases List.mem_cons.1 hb with rfl | hb
         ·rfl
         ·have := hc.1 b hb; omega
        ·rcases List.mem_cons.1 hb with hb | hb
         ·have := hc.1 a ha; rw [hb] at hab; omega
         ·exact ih hc.2 a ha b hb hab
      exact this r.qs hr.nr q' hq' q hq (by omega)
     subst heq
     rw [hf] at hlf
     simp only [Option.map_some] at hlf
     rw [has_head hh] at hlf; cases hlf
   exact hnext 0 htq (fun q hq hh => by
    have := h0 q hq hh
    rw [hs]
    have e1 : ((-1 : Int) < (q.id : Int)) := by omega
    have e2 : 0 < q.id := by omega
    simp [e1, e2])
  | some m =>
   simp only
   unfold lastF at hlf
   rw [htr, if_pos (by omega), htq, find_eOf] at hlf
   cases hf : r.qs.find? (fun q => (q.id : Int) == ((0 : Nat) : Int)) with
   | none => rw [hf] at hlf; cases hlf
   | some q =>
    rw [hf] at hlf
    simp only [Option.map_some] at hlf
    have hq := List.mem_of_find?_eq_some hf
    have hid : q.id = 0 := by have := List.find?_some hf; simpa using this
    have hh : hasB (markB r.marks) q = true := by
     cases h : hasB (markB r.marks) q with
     | true => rfl
     | false => rw [has_not h] at hlf; cases hlf
    have hm : m = headM (markB r.marks) q := by rw [has_head hh] at hlf; exact (Option.some.inj hlf).symm
    -- it is the first of all
    have hfirst : nextR r = some q := by
     unfold nextR
     have : r.qs.find? (fun q => hasB (markB r.marks) q && decide (r.served < (q.id : Int))) = some q := by
      have key : ∀ l : List RQ, l.Pairwise (fun a b => a.id < b.id) → q ∈ l → l.head? = some q := by
       intro l hl hm
       cases l with
       | nil => cases hm
       | cons a l =>
        rcases List.mem_cons.1 hm with rfl | hm
        ·rfl
        ·have := (List.pairwise_cons.1 hl).1 q hm; omega
      have hk := key r.qs hr.nr hq
      cases hql : r.qs with
      | nil => rw [hql] at hk; cases hk
      | cons a l =>
       rw [hql] at hk
       have ha : a = q := by simpa using hk
       subst ha
       rw [List.find?_cons, hh, hs]
       have e1 : ((-1 : Int) < (a.id : Int)) := by omega
       simp [e1]
     rw [this]
    rw [hfirst, hm]
    have e1 : ({ eOf r with qs := popQ (eOf r).tq (eOf r).qs, tr := (eOf r).tr + 1 } : En) = eOf (takeR r q) := by
     rw [htq, htr]
     show ({ eOf r with qs := popQ 0 (r.qs.map (qOf (markB r.marks))), tr := 0 + 1 } : En) = _
     rw [pop_bump]
     unfold eOf takeR
     simp [hid, hs]
    rw [e1]
 ·have htq : ((eOf r).tq : Int) = r.served := by show ((r.served.toNat : Nat) : Int) = r.served; omega
  have htr : (eOf r).tr = r.row := rfl
  have hlast : lastF (eOf r) = (lastR r).map (headM (markB r.marks)) := by
   unfold lastF lastR
   rw [htr, find_eOf, htq]
   by_cases h2 : r.row < 2
   ·rw [if_pos h2, if_pos h2]
    cases hf : r.qs.find? (fun q => (q.id : Int) == r.served) with
    | none => rfl
    | some q =>
     simp only [Option.map_some]
     cases hh : hasB (markB r.marks) q with
     | true => rw [has_head hh, if_pos rfl]; rfl
     | false => rw [has_not hh, if_neg (by simp)]; rfl
   ·rw [if_neg h2, if_neg h2]; rfl
  rw [hlast]
  cases hl : lastR r with
  | none =>
   simp only [Option.map_none]
   exact hnext (eOf r).tq rfl (fun q hq hh => by
    rw [← htq]
    by_cases h : (eOf r).tq < q.id
    ·have : ((eOf r).tq : Int) < (q.id : Int) := by omega
     simp [h, this]
    ·have : ¬ ((eOf r).tq : Int) < (q.id : Int) := by omega
     simp [h, this])
  | some q =>
   simp only [Option.map_some]
   have hid : (q.id : Int) = r.served := by
    unfold lastR at hl
    split at hl
    ·cases hf : r.qs.find? (fun q => (q.id : Int) == r.served) with
     | none => rw [hf] at hl; cases hl
     | some q' =>
      rw [hf] at hl
      simp only at hl
      split at hl
      ·have := List.find?_some hf
       cases hl
       simpa using this
      ·cases hl
    ·cases hl
   have hid2 : (eOf r).tq = q.id := by omega
   have e1 : ({ eOf r with qs := popQ (eOf r).tq (eOf r).qs, tr := (eOf r).tr + 1 } : En) = eOf (rowR r q) := by
    rw [hid2]
    show ({ eOf r with qs := popQ q.id (r.qs.map (qOf (markB r.marks))), tr := r.row + 1 } : En) = _
    rw [pop_bump]
    rfl
   rw [e1]
end Go.Lull

namespace Go.Lull
set_option linter.unusedVariables false

/-- What All hands back. -/
theorem all_ref {M : Int} {q : RQ} (hq : RQok M q) (hlen : q.seen.length ≤ 1000000) : (∃ T : List It, T.Pairwise (fun a b => aheadB a b = true) ∧ (∀ x, x ∈ T ↔ x ∈ itemsB q.st q.wn q.id q.seen M q.seen.length) ∧ T.map (·.m) = (q.all M).found) ∧ runsB q.st q.wn q.seen M q.seen.length = (q.all M).runs.length := by
 obtain ⟨h1, _⟩ := gen_pass q.st q.wn hq.vp q.id M hq.sb.ts hq.lt
 obtain ⟨T, t1, t2, t3⟩ := ref_all q.st q.wn hq.vp q.id hq.sb.ts M hlen
 unfold RQ.all
 rw [h1]
 exact ⟨⟨T, t1, t2, t3⟩, runs_count q.st q.wn hq.vp q.seen M⟩

/-! ### Beat -/
def beatR (r : RS) (src : Nat) (t : Int) : RS :=
 { r with marks := r.marks.set src t, waits := r.waits.dropWhile (fun e => decide (e.2.1 < markB (r.marks.set src t))), qs := r.qs.map (fun q => { q with seen := q.seen ++ r.waits.takeWhile (fun e => decide (e.2.1 < markB (r.marks.set src t))) }) }
theorem drop_ge {M : Int} {B : List Ev} (hsb : SB B) : ∀ e ∈ B.dropWhile (fun e => decide (e.2.1 < M)), M ≤ e.2.1 := by
 have hts : TS (B.dropWhile (fun e => decide (e.2.1 < M))) := List.Pairwise.sublist (List.dropWhile_sublist _) hsb.ts
 refine head_ge hts (fun e r he => ?_)
 have := List.head?_dropWhile_not (p := fun e : Ev => decide (e.2.1 < M)) B
 rw [he] at this
 simp at this
 omega
theorem take_lt {M : Int} {B : List Ev} : ∀ e ∈ B.takeWhile (fun e => decide (e.2.1 < M)), e.2.1 < M := by
 intro e he
 have := mem_tw he
 simpa using this
theorem beat_sim {n : Nat} {r : RS} (hr : RSok n r) (src t : Int) : beatE (eOf r) src t =
  if src < 0 ∨ (r.marks.length : Int) ≤ src ∨ t < 0 ∨ 2000000 < t then (1, eOf r) else if t < r.marks.getD src.toNat 0 then (5, eOf r) else (0, eOf (beatR r src.toNat t)) := by
 unfold beatE
 by_cases h1 : src < 0 ∨ (r.marks.length : Int) ≤ src ∨ t < 0 ∨ 2000000 < t
 ·rw [if_pos h1]; exact if_pos h1
 ·rw [if_neg h1]
  refine (if_neg h1).trans ?_
  by_cases h2 : t < r.marks.getD src.toNat 0
  ·rw [if_pos h2]; exact if_pos h2
  ·rw [if_neg h2]
   refine (if_neg h2).trans ?_
   have hM : markB r.marks ≤ markB (r.marks.set src.toNat t) := set_mono (by omega) hr.mne
   have e1 : (pass (markB (r.marks.set src.toNat t)) (r.waits, r.qs.map (qOf (markB r.marks)))).2 = (beatR r src.toNat t).qs.map (qOf (markB (r.marks.set src.toNat t))) := by
    rw [pass_alone, List.map_map]
    unfold beatR
    simp only [List.map_map]
    refine List.map_congr_left (fun q hq => ?_)
    exact qOf_beat hM (hr.qs q hq).1 hr.sb hr.ge
   have e2 : (pass (markB (r.marks.set src.toNat t)) (r.waits, r.qs.map (qOf (markB r.marks)))).1 = (beatR r src.toNat t).waits := pass_buf _ _
   show ((0 : Nat), ({ eOf r with marks := r.marks.set src.toNat t, buf := (pass (markB (r.marks.set src.toNat t)) (r.waits, r.qs.map (qOf (markB r.marks)))).1, qs := (pass (markB (r.marks.set src.toNat t)) (r.waits, r.qs.map (qOf (markB r.marks)))).2 } : En)) = _
   rw [e1, e2]
   rfl
theorem beat_rok {n : Nat} {r : RS} (hr : RSok n r) {src : Nat} {t : Int} (ht : r.marks.getD src 0 ≤ t) : RSok n (beatR r src t) := by
 have hM : markB r.marks ≤ markB (r.marks.set src t) := set_mono ht hr.mne
 have htw : ∀ e ∈ r.waits.takeWhile (fun e => decide (e.2.1 < markB (r.marks.set src t))), e ∈ r.waits := fun e he => (List.takeWhile_sublist _).subset he
 refine ⟨by simpa [beatR] using hr.mne, by simpa [beatR] using hr.m8, List.Pairwise.sublist (List.dropWhile_sublist _) hr.sb, drop_ge hr.sb, fun e he => hr.tm e ((List.dropWhile_sublist _).subset he), ?_, Nat.le_trans (List.dropWhile_sublist _).length_le hr.wl, ?_, ?_, by simpa [beatR] using hr.ql, hr.turn⟩
 ·intro q' hq'
  obtain ⟨q, hq, rfl⟩ := List.mem_map.1 hq'
  obtain ⟨ho, hl⟩ := hr.qs q hq
  refine ⟨⟨ho.vp, ho.len, ho.w0, ho.w1, ?_, ?_, ?_, ?_⟩, ?_⟩
  ·refine List.pairwise_append.2 ⟨ho.sb, List.Pairwise.sublist (List.takeWhile_sublist _) hr.sb, fun x hx y hy => after_time ?_⟩
   have := ho.lt x hx; have := hr.ge y (htw y hy); omega
  ·intro e he
   show e.2.1 < markB (r.marks.set src t)
   rcases List.mem_append.1 he with he | he
   ·have := ho.lt e he; omega
   ·exact take_lt e he
  ·intro e he
   rcases List.mem_append.1 he with he | he
   ·exact ho.tm e he
   ·exact hr.tm e (htw e he)
  ·have hs : SB (q.seen ++ r.waits.takeWhile (fun e => decide (e.2.1 < markB (r.marks.set src t)))) := List.pairwise_append.2 ⟨ho.sb, List.Pairwise.sublist (List.takeWhile_sublist _) hr.sb, fun x hx y hy => after_time (by have := ho.lt x hx; have := hr.ge y (htw y hy); omega)⟩
   have := passQ_app hM hs ho.lt (fun e he => hr.ge e (htw e he)) ⟨q.id, q.st, q.wn, [], []⟩
   show q.gone ≤ (passQ (markB (r.marks.set src t)) (q.seen ++ _) ⟨q.id, q.st, q.wn, [], []⟩).found.length
   rw [← this]
   exact Nat.le_trans ho.gone (passQ_found_le _ _ _)
  ·have h1 : (r.waits.takeWhile (fun e => decide (e.2.1 < markB (r.marks.set src t)))).length + (r.waits.dropWhile (fun e => decide (e.2.1 < markB (r.marks.set src t)))).length = r.waits.length := by
    rw [← List.length_append, List.takeWhile_append_dropWhile]
   show (q.seen ++ _).length + (r.waits.dropWhile _).length ≤ n
   rw [List.length_append]
   omega
 ·show (r.qs.map _).Pairwise _
  rw [List.pairwise_map]
  exact hr.nr
 ·intro q' hq'
  obtain ⟨q, hq, rfl⟩ := List.mem_map.1 hq'
  exact hr.nx q hq

/-! ### Offer -/
theorem put_rok {n : Nat} {r : RS} (hr : RSok n r) {e : Ev} (h1 : markB r.marks ≤ e.2.1) (h0 : 0 ≤ e.2.1) (h2 : e.2.1 ≤ 1000000) : RSok (n + 1) { r with waits := putB r.waits e } := by
 have hl : (putB r.waits e).length = r.waits.length + 1 := by
  have := putAll_len [e] r.waits
  simpa [putAll] using this
 refine ⟨hr.mne, hr.m8, hr.sb.put e, ?_, ?_, ?_, ?_, hr.nr, hr.nx, hr.ql, hr.turn⟩
 ·intro x hx
  rcases (mem_putB _).1 hx with rfl | hx
  ·exact h1
  ·exact hr.ge x hx
 ·intro x hx
  rcases (mem_putB _).1 hx with rfl | hx
  ·exact ⟨h0, h2⟩
  ·exact hr.tm x hx
 ·intro q hq
  obtain ⟨a, b⟩ := hr.qs q hq
  exact ⟨a, by show _ + (putB r.waits e).length ≤ _; rw [hl]; omega⟩
 ·show (putB r.waits e).length ≤ _
  rw [hl]; have := hr.wl; omega
theorem RSok.mono {n m : Nat} {r : RS} (hr : RSok n r) (h : n ≤ m) : RSok m r :=
 ⟨hr.mne, hr.m8, hr.sb, hr.ge, hr.tm, fun q hq => ⟨(hr.qs q hq).1, Nat.le_trans (hr.qs q hq).2 h⟩, Nat.le_trans hr.wl h, hr.nr, hr.nx, hr.ql, hr.turn⟩

/-! ### Remove -/
def removeR (r : RS) (n : Int) : RS := { r with qs := r.qs.filter (fun q => !((q.id : Int) == n)) }
theorem remove_sim (r : RS) (k : Int) : removeE (eOf r) k = match r.qs.find? (fun q => (q.id : Int) == k) with | none => (4, eOf r) | some _ => (0, eOf (removeR r k)) := by
 unfold removeE
 rw [find_eOf]
 cases r.qs.find? (fun q => (q.id : Int) == k) with
 | none => rfl
 | some q =>
  simp only [Option.map_some]
  have e : (r.qs.map (qOf (markB r.marks))).filter (fun q => !((q.num : Int) == k)) = (r.qs.filter (fun q => !((q.id : Int) == k))).map (qOf (markB r.marks)) := by
   rw [List.filter_map]
   congr 1
   refine congrArg (fun p => List.filter p r.qs) ?_
   funext q
   simp [qOf_num]
  show ((0 : Nat), ({ eOf r with qs := (r.qs.map (qOf (markB r.marks))).filter (fun q => !((q.num : Int) == k)) } : En)) = _
  rw [e]
  rfl
theorem remove_rok {n : Nat} {r : RS} (hr : RSok n r) (k : Int) : RSok n (removeR r k) := by
 have hs : ∀ q ∈ (removeR r k).qs, q ∈ r.qs := fun q hq => (List.mem_filter.1 hq).1
 exact ⟨hr.mne, hr.m8, hr.sb, hr.ge, hr.tm, fun q hq => hr.qs q (hs q hq), hr.wl, List.Pairwise.sublist List.filter_sublist hr.nr, fun q hq => hr.nx q (hs q hq), Nat.le_trans (List.length_filter_le _ _) hr.ql, hr.turn⟩
/-! ### How many -/
theorem runs_sim (r : RS) (k : Int) : runsE (eOf r) k = match r.qs.find? (fun q => (q.id : Int) == k) with | none => 0 | some q => (q.all (markB r.marks)).runs.length := by
 unfold runsE
 rw [find_eOf]
 cases r.qs.find? (fun q => (q.id : Int) == k) with
 | none => rfl
 | some q => rfl
theorem wait_sim (r : RS) (k : Int) : waitE (eOf r) k = match r.qs.find? (fun q => (q.id : Int) == k) with | none => 0 | some q => (q.all (markB r.marks)).found.length - q.gone := by
 unfold waitE
 rw [find_eOf]
 cases r.qs.find? (fun q => (q.id : Int) == k) with
 | none => rfl
 | some q => simp [qOf, dropF]
/-! ### Register -/
def newRQ : Nat → List St → List RQ
 | _, [] => []
 | n, s :: l => ⟨n, s.1, s.2.1, [], 0⟩ :: newRQ (n + 1) l
theorem newRQ_len : ∀ (l : List St) (n : Nat), (newRQ n l).length = l.length
 | [], n => rfl
 | s :: l, n => by simp [newRQ, newRQ_len l]
theorem passQ_nil (M : Int) (q : Qy) (h : q.runs = []) : passQ M [] q = q := by
 unfold passQ
 rw [pass_none (s := ([], [q])) (by rw [firstD_comb, ml_one, h]; rfl)]
 rfl
theorem newRQ_qs (M : Int) : ∀ (l : List St) (n : Nat), (newRQ n l).map (qOf M) = newQs n l
 | [], n => rfl
 | s :: l, n => by
  simp only [newRQ, List.map_cons]
  rw [newRQ_qs M l (n + 1)]
  have : qOf M ⟨n, s.1, s.2.1, [], 0⟩ = ⟨n, s.1, s.2.1, [], []⟩ := by
   unfold qOf RQ.all
   rw [passQ_nil M _ rfl]
   rfl
  rw [this]
  rfl
def regR (r : RS) (ps : List St) : RS := { r with qs := r.qs ++ newRQ r.next ps, next := r.next + ps.length }
theorem reg_sim (r : RS) (ts : List (List UInt8)) : regE (eOf r) ts = match resAll ts with
  | .inl p => (2, p, 0, eOf r)
  | .inr ps => if 10 < r.qs.length + ps.length then (3, 0, 0, eOf r) else (0, 0, ps.length, eOf (regR r ps)) := by
 unfold regE
 cases resAll ts with
 | inl p => rfl
 | inr ps =>
  have hl : (eOf r).qs.length = r.qs.length := by simp [eOf]
  simp only [hl]
  split
  ·rfl
  ·congr 3
   unfold eOf regR
   simp only [List.map_append, newRQ_qs]
end Go.Lull
