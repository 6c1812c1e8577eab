import Derived.Test.YtbgfannlfagoiaaGreatDoorZ01
namespace Go.Lull
set_option linter.unusedVariables false

/-- The least deadline that stands first. -/
def ml : List Qy → Option Int
 | [] => none
 | q :: qs => match q.runs with
  | [] => ml qs
  | r :: _ => match ml qs with
   | none => some r.dl
   | some t => some (if t < r.dl then t else r.dl)
def comb (d : Option Deed) : Option Int → Option Deed
 | none => d
 | some t => match d with
  | none => some (.fin t)
  | some x => if t < x.time then some (.fin t) else some x
theorem time_fin (t : Int) : (Deed.fin t).time = t := rfl
theorem time_rel (e : Ev) : (Deed.rel e).time = e.2.1 := rfl
theorem fold_comb : ∀ (qs : List Qy) (d : Option Deed), qs.foldl deed1 d = comb d (ml qs)
 | [], d => rfl
 | q :: qs, d => by
  rw [List.foldl_cons, fold_comb qs, show ml (q :: qs) = (match q.runs with | [] => ml qs | r :: _ => match ml qs with | none => some r.dl | some t => some (if t < r.dl then t else r.dl)) from rfl]
  unfold deed1
  cases hr : q.runs with
  | nil => rfl
  | cons r l =>
   simp only
   cases hm : ml qs with
   | none => cases d with | none => rfl | some x => rfl
   | some t =>
    cases d with
    | none =>
     show comb (some (Deed.fin r.dl)) (some t) = comb none (some (if t < r.dl then t else r.dl))
     by_cases h : t < r.dl
     ·rw [show (if t < r.dl then t else r.dl) = t from if_pos h]; exact if_pos h
     ·rw [show (if t < r.dl then t else r.dl) = r.dl from if_neg h]; exact if_neg h
    | some x =>
     simp only [comb]
     by_cases h1 : r.dl < x.time
     ·rw [if_pos h1]
      simp only [time_fin]
      by_cases h2 : t < r.dl
      ·simp only [h2, if_true]; rw [if_pos (by omega)]
      ·simp only [h2, if_false]; rw [if_pos h1]
     ·rw [if_neg h1]
      by_cases h2 : t < r.dl
      ·simp only [h2, if_true]
      ·simp only [h2, if_false]; rw [if_neg h1, if_neg (by omega)]
theorem firstD_comb (buf : List Ev) (qs : List Qy) : firstD buf qs = comb (buf.head?.map Deed.rel) (ml qs) := fold_comb qs _

/-- Nothing is to be done below a time. -/
def Still (M : Int) (s : List Ev × List Qy) : Prop := (∀ b ∈ s.1.head?, M ≤ b.2.1) ∧ (∀ t ∈ ml s.2, M ≤ t)
theorem comb_still {d : Option Deed} {o : Option Int} {x : Deed} {M : Int} (h : comb d o = some x) : M ≤ x.time ↔ (∀ y ∈ d, M ≤ y.time) ∧ (∀ t ∈ o, M ≤ t) := by
 cases o with
 | none =>
  simp only [comb] at h
  subst h
  simp
 | some t =>
  cases d with
  | none =>
   simp only [comb, Option.some.injEq] at h
   subst h
   simp [time_fin]
  | some y =>
   simp only [comb] at h
   by_cases h1 : t < y.time
   ·rw [if_pos h1] at h
    obtain rfl := Option.some.inj h
    simp [time_fin]
    intro; omega
   ·rw [if_neg h1] at h
    obtain rfl := Option.some.inj h
    simp
    intro; omega
theorem still_iff {M : Int} {s : List Ev × List Qy} : Still M s ↔ ∀ d, firstD s.1 s.2 = some d → M ≤ d.time := by
 rw [firstD_comb]
 cases h : comb (s.1.head?.map Deed.rel) (ml s.2) with
 | none =>
  have hs : s.1.head? = none ∧ ml s.2 = none := by
   cases h1 : s.1.head? with
   | none => cases h2 : ml s.2 with
    | none => exact ⟨rfl, rfl⟩
    | some t => rw [h1, h2] at h; cases h
   | some b => cases h2 : ml s.2 with
    | none => rw [h1, h2] at h; cases h
    | some t => rw [h1, h2] at h; simp only [comb, Option.map_some] at h; split at h <;> cases h
  unfold Still
  rw [hs.1, hs.2]
  simp
 | some x =>
  have := comb_still (M := M) h
  constructor
  ·intro hs d hd
   obtain rfl := Option.some.inj hd
   refine this.2 ⟨?_, hs.2⟩
   intro y hy
   obtain ⟨b, hb, rfl⟩ := Option.map_eq_some_iff.1 hy
   exact hs.1 b hb
  ·intro hd
   obtain ⟨h1, h2⟩ := this.1 (hd x rfl)
   exact ⟨fun b hb => h1 (.rel b) (by rw [hb]; rfl), h2⟩
theorem pass_still {M : Int} {s : List Ev × List Qy} (h : Still M s) : pass M s = s := by
 cases hf : firstD s.1 s.2 with
 | none => exact pass_none hf
 | some d => exact pass_late hf (by have := still_iff.1 h d hf; omega)
theorem passed_still {M : Int} : ∀ (n : Nat) (s : List Ev × List Qy), passM s = n → Still M (pass M s) := by
 intro n
 induction n using Nat.strongRecOn with
 | _ n ih =>
  intro s hn
  cases hf : firstD s.1 s.2 with
  | none => rw [pass_none hf]; exact still_iff.2 (fun d hd => by rw [hf] at hd; cases hd)
  | some d =>
   by_cases ht : d.time < M
   ·rw [pass_step hf ht]
    exact ih _ (by rw [← hn]; exact passM_less hf) _ rfl
   ·rw [pass_late hf ht]; exact still_iff.2 (fun d' hd => by rw [hf] at hd; cases hd; omega)
theorem pass_isStill (M : Int) (s : List Ev × List Qy) : Still M (pass M s) := passed_still _ s rfl
theorem pass_pass {M1 M2 : Int} (hM : M1 ≤ M2) : ∀ (n : Nat) (s : List Ev × List Qy), passM s = n → pass M2 (pass M1 s) = pass M2 s := by
 intro n
 induction n using Nat.strongRecOn with
 | _ n ih =>
  intro s hn
  cases hf : firstD s.1 s.2 with
  | none => rw [pass_none hf]
  | some d =>
   by_cases ht : d.time < M1
   ·rw [pass_step hf ht, pass_step hf (show d.time < M2 by omega)]
    exact ih _ (by rw [← hn]; exact passM_less hf) _ rfl
   ·rw [pass_late hf ht]
theorem pass_trans {M1 M2 : Int} (hM : M1 ≤ M2) (s : List Ev × List Qy) : pass M2 (pass M1 s) = pass M2 s := pass_pass hM _ s rfl

theorem putB_nil (e : Ev) : putB [] e = [e] := rfl
theorem putB_cons_no {b e : Ev} {r : List Ev} (h : after b e = false) : putB (b :: r) e = b :: putB r e := by
 simp [putB, h]
theorem putB_cons_yes {b e : Ev} {r : List Ev} (h : after b e = true) : putB (b :: r) e = e :: b :: r := by
 simp [putB, h]
theorem after_time {b e : Ev} (h : b.2.1 < e.2.1) : after b e = false := by
 rw [Bool.eq_false_iff]; intro h2; rw [after_iff] at h2; omega
theorem put_head {M : Int} {buf : List Ev} {e : Ev} (he : M ≤ e.2.1) (h : ∀ b ∈ buf.head?, M ≤ b.2.1) : ∀ b ∈ (putB buf e).head?, M ≤ b.2.1 := by
 cases buf with
 | nil => rw [putB_nil]; intro b hb; simp at hb; subst hb; exact he
 | cons b r =>
  cases ha : after b e with
  | false => rw [putB_cons_no ha]; simpa using h
  | true => rw [putB_cons_yes ha]; intro x hx; simp at hx; subst hx; exact he
theorem firstD_put {M : Int} {buf : List Ev} {qs : List Qy} {e : Ev} {d : Deed} (he : M ≤ e.2.1) (h : firstD buf qs = some d) (ht : d.time < M) :
  firstD (putB buf e) qs = some d ∧ doD (putB buf e, qs) d = (putB (doD (buf, qs) d).1 e, (doD (buf, qs) d).2) := by
 cases d with
 | rel x =>
  obtain ⟨r, hr⟩ := firstD_rel h
  subst hr
  have ha : after x e = false := after_time (by have : x.2.1 < M := ht; omega)
  rw [putB_cons_no ha]
  exact ⟨h, rfl⟩
 | fin t =>
  refine ⟨?_, rfl⟩
  have ht' : t < M := ht
  rw [firstD_comb] at h ⊢
  cases hm : ml qs with
  | none =>
   rw [hm] at h
   simp only [comb] at h
   obtain ⟨b, _, hb⟩ := Option.map_eq_some_iff.1 h
   cases hb
  | some t' =>
   rw [hm] at h
   have htt : t' = t := by
    cases hh : buf.head? with
    | none => rw [hh] at h; cases h; rfl
    | some b =>
     rw [hh] at h
     simp only [Option.map_some, comb] at h
     split at h
     ·cases h; rfl
     ·cases h
   subst htt
   cases buf with
   | nil =>
    rw [putB_nil]
    exact if_pos (show t' < e.2.1 by omega)
   | cons b r =>
    cases ha : after b e with
    | false => rw [putB_cons_no ha]; exact h
    | true =>
     rw [putB_cons_yes ha]
     exact if_pos (show t' < e.2.1 by omega)
theorem pass_put' {M : Int} {e : Ev} (he : M ≤ e.2.1) : ∀ (n : Nat) (s : List Ev × List Qy), passM s = n → pass M (putB s.1 e, s.2) = (putB (pass M s).1 e, (pass M s).2) := by
 intro n
 induction n using Nat.strongRecOn with
 | _ n ih =>
  intro s hn
  have hstill : Still M s → pass M (putB s.1 e, s.2) = (putB (pass M s).1 e, (pass M s).2) := by
   intro h
   rw [pass_still h, pass_still (s := (putB s.1 e, s.2)) ⟨put_head he h.1, h.2⟩]
  cases hf : firstD s.1 s.2 with
  | none => exact hstill (still_iff.2 (fun d hd => by rw [hf] at hd; cases hd))
  | some d =>
   by_cases ht : d.time < M
   ·obtain ⟨h1, h2⟩ := firstD_put he hf ht
    rw [pass_step hf ht, pass_step (s := (putB s.1 e, s.2)) h1 ht, h2]
    exact ih _ (by rw [← hn]; exact passM_less hf) _ rfl
   ·exact hstill (still_iff.2 (fun d' hd => by rw [hf] at hd; cases hd; omega))
/-- An event that comes later goes among those that wait, or did so at once: that is the same. -/
theorem pass_put {M : Int} {e : Ev} (he : M ≤ e.2.1) (s : List Ev × List Qy) : pass M (putB s.1 e, s.2) = (putB (pass M s).1 e, (pass M s).2) := pass_put' he _ s rfl

def putAll (buf l : List Ev) : List Ev := l.foldl putB buf
theorem putAll_snoc (buf l : List Ev) (e : Ev) : putAll buf (l ++ [e]) = putB (putAll buf l) e := by simp [putAll]
theorem putAll_len (l : List Ev) : ∀ buf, (putAll buf l).length = buf.length + l.length := by
 induction l with
 | nil => intro buf; rfl
 | cons e l ih => intro buf; show (putAll (putB buf e) l).length = _; rw [ih, put_len]; simp; omega

def key (x y : Ev) : Prop := x.1 = y.1 ∧ x.2.1 = y.2.1
instance (x y : Ev) : Decidable (key x y) := by unfold key; infer_instance
theorem after_tot {x y : Ev} (h : ¬ key x y) : after x y = !after y x := by
 cases h1 : after y x with
 | true => rw [after_flip h1]; rfl
 | false =>
  rw [Bool.not_false, after_iff]
  have : ¬ (x.2.1 < y.2.1 ∨ (y.2.1 = x.2.1 ∧ x.1 < y.1)) := by rw [← after_iff, h1]; simp
  unfold key at h
  omega
/-- Events of different keys go in in either order. -/
theorem put_comm {x y : Ev} (h : ¬ key x y) : ∀ buf : List Ev, putB (putB buf x) y = putB (putB buf y) x
 | [] => by
  rw [putB_nil, putB_nil]
  have := after_tot h
  cases h1 : after y x with
  | true => rw [h1] at this; rw [putB_cons_yes h1, putB_cons_no (by simpa using this), putB_nil]
  | false => rw [h1] at this; rw [putB_cons_no h1, putB_cons_yes (by simpa using this), putB_nil]
 | b :: r => by
  have hxy := after_tot h
  cases hx : after b x with
  | true =>
   cases hy : after b y with
   | true =>
    rw [putB_cons_yes hx, putB_cons_yes hy]
    cases h1 : after y x with
    | true => rw [h1] at hxy; rw [putB_cons_yes h1, putB_cons_no (by simpa using hxy), putB_cons_yes hy]
    | false => rw [h1] at hxy; rw [putB_cons_no h1, putB_cons_yes (by simpa using hxy), putB_cons_yes hx]
   | false =>
    rw [putB_cons_yes hx, putB_cons_no hy, putB_cons_yes hx]
    have : after x y = false := by
     cases h2 : after x y with
     | false => rfl
     | true =>
      rw [after_iff] at h2 hx
      have : ¬ (y.2.1 < b.2.1 ∨ (b.2.1 = y.2.1 ∧ y.1 < b.1)) := by rw [← after_iff, hy]; simp
      omega
    rw [putB_cons_no this, putB_cons_no hy]
  | false =>
   cases hy : after b y with
   | true =>
    rw [putB_cons_no hx, putB_cons_yes hy, putB_cons_yes hy]
    have : after y x = false := by
     cases h2 : after y x with
     | false => rfl
     | true =>
      rw [after_iff] at h2 hy
      have : ¬ (x.2.1 < b.2.1 ∨ (b.2.1 = x.2.1 ∧ x.1 < b.1)) := by rw [← after_iff, hx]; simp
      omega
    rw [putB_cons_no this, putB_cons_no hx]
   | false =>
    rw [putB_cons_no hx, putB_cons_no hy, putB_cons_no hy, putB_cons_no hx, put_comm h r]
theorem putAll_cons (buf : List Ev) (e : Ev) (l : List Ev) : putAll buf (e :: l) = putAll (putB buf e) l := rfl
theorem putAll_move {x : Ev} : ∀ (l : List Ev) (buf : List Ev), (∀ y ∈ l, ¬ key y x) → putAll (putB buf x) l = putB (putAll buf l) x
 | [], buf, _ => rfl
 | y :: l, buf, h => by
  rw [putAll_cons, putAll_cons, put_comm (fun hk => h y List.mem_cons_self ⟨hk.1.symm, hk.2.symm⟩), putAll_move l _ (fun z hz => h z (List.mem_cons_of_mem _ hz))]
theorem putAll_append (buf l m : List Ev) : putAll buf (l ++ m) = putAll (putAll buf l) m := List.foldl_append
/-- One that has none of its key ahead may be put first. -/
theorem putAll_front {x : Ev} {A B : List Ev} (buf : List Ev) (h : ∀ y ∈ A, ¬ key y x) : putAll buf (A ++ x :: B) = putAll buf (x :: (A ++ B)) := by
 rw [putAll_append, putAll_cons, putAll_cons, putAll_append, putAll_move A buf h]
/-- A sorted list put in is itself. -/
theorem putB_last {e : Ev} : ∀ (buf : List Ev), (∀ b ∈ buf, after b e = false) → putB buf e = buf ++ [e]
 | [], _ => rfl
 | b :: r, h => by rw [putB_cons_no (h b List.mem_cons_self), putB_last r (fun x hx => h x (List.mem_cons_of_mem _ hx))]; rfl
theorem putAll_sorted : ∀ (l buf : List Ev), SB (buf ++ l) → putAll buf l = buf ++ l
 | [], buf, _ => by simp [putAll]
 | e :: l, buf, h => by
  have h1 := List.pairwise_append.1 h
  rw [putAll_cons, putB_last buf (fun b hb => h1.2.2 b hb e List.mem_cons_self), putAll_sorted l (buf ++ [e]) (by simpa using h)]
  simp
theorem SB.putAll : ∀ (l buf : List Ev), SB buf → SB (putAll buf l)
 | [], buf, h => h
 | e :: l, buf, h => SB.putAll l _ (h.put e)

theorem mem_putB {x e : Ev} (buf : List Ev) : x ∈ putB buf e ↔ x = e ∨ x ∈ buf := by
 rw [putB_place]
 conv => rhs; rw [← List.take_append_drop (placeB buf e) buf]
 simp only [List.mem_append, List.mem_cons]
 constructor
 ·rintro (h | h | h)
  ·exact Or.inr (Or.inl h)
  ·exact Or.inl h
  ·exact Or.inr (Or.inr h)
 ·rintro (h | h | h)
  ·exact Or.inr (Or.inl h)
  ·exact Or.inl h
  ·exact Or.inr (Or.inr h)
theorem mem_putAll {x : Ev} : ∀ (l buf : List Ev), x ∈ putAll buf l ↔ x ∈ buf ∨ x ∈ l
 | [], buf => by simp [putAll]
 | e :: l, buf => by
  rw [putAll_cons, mem_putAll l, mem_putB]
  simp only [List.mem_cons]
  constructor
  ·rintro ((h | h) | h)
   ·exact Or.inr (Or.inl h)
   ·exact Or.inl h
   ·exact Or.inr (Or.inr h)
  ·rintro (h | h | h)
   ·exact Or.inl (Or.inr h)
   ·exact Or.inl (Or.inl h)
   ·exact Or.inr h
end Go.Lull

namespace Go.Lull
set_option linter.unusedVariables false

theorem drainE_add : ∀ (n m : Nat) (s : En), drainE (n + m) s = ((drainE n s).1 ++ (drainE m (drainE n s).2).1, (drainE m (drainE n s).2).2)
 | 0, m, s => by simp [drainE]
 | n + 1, m, s => by
  rw [show n + 1 + m = (n + m) + 1 by omega]
  cases h : serveE s with
  | none => rw [drainE_none h, drainE_none h, drainE_none h]; rfl
  | some x =>
   obtain ⟨m', s'⟩ := x
   rw [drainE_some h, drainE_some h, drainE_add n m s']
   rfl

def wq (qs : List Qy) (j : Int) : Nat := match qs.find? (fun q => (q.num : Int) == j) with | none => 0 | some q => q.found.length
theorem waitE_wq (s : En) (j : Int) : waitE s j = wq s.qs j := rfl
theorem wq_cons (q : Qy) (qs : List Qy) (j : Int) : wq (q :: qs) j = if (q.num : Int) = j then q.found.length else wq qs j := by
 unfold wq
 by_cases h : (q.num : Int) = j
 ·rw [List.find?_cons_of_pos (by simpa using h), if_pos h]
 ·rw [List.find?_cons_of_neg (by simpa using h), if_neg h]
theorem wq_none : ∀ (qs : List Qy) (j : Int), (∀ q ∈ qs, (q.num : Int) ≠ j) → wq qs j = 0
 | [], j, _ => rfl
 | q :: qs, j, h => by rw [wq_cons, if_neg (h q List.mem_cons_self), wq_none qs j (fun x hx => h x (List.mem_cons_of_mem _ hx))]
/-- Numbers that rise. -/
def NR (qs : List Qy) : Prop := qs.Pairwise (fun a b => a.num < b.num)
theorem wq_three : ∀ (qs : List Qy), NR qs → (∀ q ∈ qs, 1 ≤ q.num ∧ q.num ≤ 3) → wq qs 1 + wq qs 2 + wq qs 3 = totF qs
 | [], _, _ => rfl
 | q :: qs, hn, h => by
  have ih := wq_three qs (List.pairwise_cons.1 hn).2 (fun x hx => h x (List.mem_cons_of_mem _ hx))
  have hq := h q List.mem_cons_self
  have h0 : wq qs q.num = 0 := wq_none qs _ (fun x hx => by have := (List.pairwise_cons.1 hn).1 x hx; omega)
  rw [wq_cons, wq_cons, wq_cons, show totF (q :: qs) = q.found.length + totF qs from rfl, ← ih]
  have : q.num = 1 ∨ q.num = 2 ∨ q.num = 3 := by omega
  rcases this with e | e | e <;> rw [e] at h0 ⊢ <;> simp at h0 ⊢ <;> omega
theorem wq_pop (n : Nat) : ∀ (qs : List Qy) (j : Int), wq (popQ n qs) j = if j = (n : Int) then wq qs j - 1 else wq qs j
 | [], j => by simp [popQ, wq]
 | q :: qs, j => by
  have ih := wq_pop n qs j
  have e : popQ n (q :: qs) = (if q.num = n then { q with found := q.found.tail } else q) :: popQ n qs := rfl
  rw [e, wq_cons, wq_cons, ih]
  have e2 : (if q.num = n then { q with found := q.found.tail } else q).num = q.num := by split <;> rfl
  rw [e2]
  by_cases h1 : (q.num : Int) = j
  ·rw [if_pos h1, if_pos h1]
   by_cases h2 : q.num = n
   ·rw [if_pos h2, if_pos (by omega)]; simp
   ·rw [if_neg h2, if_neg (by omega)]
  ·rw [if_neg h1, if_neg h1]
theorem wq_mem {qs : List Qy} (hn : NR qs) {q : Qy} (hq : q ∈ qs) : wq qs q.num = q.found.length := by
 induction qs with
 | nil => cases hq
 | cons a l ih =>
  rw [wq_cons]
  rcases List.mem_cons.1 hq with rfl | hq
  ·rw [if_pos rfl]
  ·have := (List.pairwise_cons.1 hn).1 q hq
   rw [if_neg (by omega)]
   exact ih (List.pairwise_cons.1 hn).2 hq

/-- The matches that wait bear their query's number. -/
def FQ (qs : List Qy) : Prop := ∀ q ∈ qs, ∀ m ∈ q.found, m.q = q.num
theorem FQ.pop {qs : List Qy} (h : FQ qs) (n : Nat) : FQ (popQ n qs) := by
 intro q hq m hm
 obtain ⟨a, ha, rfl⟩ := List.mem_map.1 hq
 split at hm
 ·rename_i hn
  rw [if_pos hn]
  exact h a ha m (List.mem_of_mem_tail hm)
 ·rename_i hn
  rw [if_neg hn]
  exact h a ha m hm
theorem NR.pop {qs : List Qy} (h : NR qs) (n : Nat) : NR (popQ n qs) := by
 unfold NR popQ
 rw [List.pairwise_map]
 refine h.imp ?_
 intro a b hab
 have e : ∀ q : Qy, (if q.num = n then { q with found := q.found.tail } else q).num = q.num := fun q => by split <;> rfl
 rw [e, e]; exact hab

theorem lastF_some {s : En} {m : Mt} (h : lastF s = some m) : s.tr < 2 ∧ ∃ q ∈ s.qs, q.num = s.tq ∧ q.found.head? = some m := by
 unfold lastF at h
 split at h
 ·rename_i ht
  cases hf : findE s s.tq with
  | none => rw [hf] at h; cases h
  | some q =>
   rw [hf] at h
   have := List.find?_some hf
   have h2 : (q.num : Int) = (s.tq : Int) := by simpa using this
   exact ⟨ht, q, List.mem_of_find?_eq_some hf, by omega, h⟩
 ·cases h
theorem firstF_split : ∀ (l : List Qy) (n : Nat) (m : Mt), firstF l = some (n, m) → ∃ A q B, l = A ++ q :: B ∧ q.num = n ∧ q.found.head? = some m ∧ ∀ a ∈ A, a.found = []
 | [], n, m, h => by cases h
 | q :: r, n, m, h => by
  unfold firstF at h
  cases hf : q.found with
  | nil =>
   rw [hf] at h
   obtain ⟨A, x, B, rfl, h2, h3, h4⟩ := firstF_split r n m h
   refine ⟨q :: A, x, B, rfl, h2, h3, ?_⟩
   intro a ha
   rcases List.mem_cons.1 ha with rfl | ha
   ·exact hf
   ·exact h4 a ha
  | cons a b =>
   rw [hf] at h
   cases h
   exact ⟨[], q, r, rfl, rfl, by rw [hf]; rfl, by simp⟩
theorem firstF_none : ∀ (l : List Qy), firstF l = none → ∀ q ∈ l, q.found = []
 | [], _, q, hq => by cases hq
 | a :: r, h, q, hq => by
  unfold firstF at h
  cases hf : a.found with
  | nil =>
   rw [hf] at h
   rcases List.mem_cons.1 hq with rfl | hq
   ·exact hf
   ·exact firstF_none r h q hq
  | cons x y => rw [hf] at h; cases h
theorem mem_orderE {s : En} {q : Qy} : q ∈ orderE s ↔ q ∈ s.qs := by
 unfold orderE
 rw [List.mem_append, List.mem_filter, List.mem_filter]
 constructor
 ·rintro (h | h) <;> exact h.1
 ·intro h
  by_cases hd : s.tq < q.num
  ·exact Or.inl ⟨h, by simpa using hd⟩
  ·exact Or.inr ⟨h, by simpa using hd⟩
theorem serveE_none {s : En} (h : serveE s = none) : ∀ q ∈ s.qs, q.found = [] := by
 unfold serveE at h
 cases hl : lastF s with
 | some m => rw [hl] at h; cases h
 | none =>
  rw [hl] at h
  cases hf : firstF (orderE s) with
  | none => exact fun q hq => firstF_none _ hf q (mem_orderE.2 hq)
  | some x => rw [hf] at h; cases h
theorem totF_zero {qs : List Qy} (h : ∀ q ∈ qs, q.found = []) : totF qs = 0 := by
 induction qs with
 | nil => rfl
 | cons a l ih =>
  show a.found.length + totF l = 0
  rw [h a List.mem_cons_self, ih (fun q hq => h q (List.mem_cons_of_mem _ hq))]; rfl
theorem popQ_eq {n : Nat} : ∀ {qs : List Qy}, NR qs → ∀ {q : Qy}, q ∈ qs → q.num = n → q.found ≠ [] → totF (popQ n qs) + 1 = totF qs
 | [], _, q, hq, _, _ => by cases hq
 | a :: l, hn, q, hq, h1, h2 => by
  have hc := List.pairwise_cons.1 hn
  have e : popQ n (a :: l) = (if a.num = n then { a with found := a.found.tail } else a) :: popQ n l := rfl
  have e2 : ∀ (x : Qy) (l : List Qy), totF (x :: l) = x.found.length + totF l := fun _ _ => rfl
  rw [e, e2, e2]
  rcases List.mem_cons.1 hq with rfl | hq
  ·have hl : popQ n l = l := by
    unfold popQ
    conv => rhs; rw [← List.map_id l]
    apply List.map_congr_left
    intro x hx
    have := hc.1 x hx
    rw [if_neg (by omega)]; rfl
   have : 0 < q.found.length := List.length_pos_iff.2 h2
   rw [if_pos h1, hl]
   simp only [List.length_tail]
   omega
  ·have := popQ_eq hc.2 hq h1 h2
   have h3 := hc.1 q hq
   rw [if_neg (by omega)]
   omega

/-- How a match is served. -/
theorem serveE_cases {s s' : En} {m : Mt} (h : serveE s = some (m, s')) :
  (s.tr < 2 ∧ (∃ q ∈ s.qs, q.num = s.tq ∧ q.found.head? = some m) ∧ s' = { s with qs := popQ s.tq s.qs, tr := s.tr + 1 }) ∨
  (lastF s = none ∧ ∃ n, firstF (orderE s) = some (n, m) ∧ s' = { s with qs := popQ n s.qs, tq := n, tr := 1 }) := by
 unfold serveE at h
 cases hl : lastF s with
 | some m' =>
  rw [hl] at h
  cases h
  exact Or.inl ⟨(lastF_some hl).1, (lastF_some hl).2, rfl⟩
 | none =>
  rw [hl] at h
  cases hf : firstF (orderE s) with
  | none => rw [hf] at h; cases h
  | some x =>
   obtain ⟨n, m'⟩ := x
   rw [hf] at h
   cases h
   exact Or.inr ⟨rfl, n, rfl, rfl⟩
theorem serveE_to {s s' : En} {m : Mt} (h : serveE s = some (m, s')) (hfq : FQ s.qs) : ∃ q ∈ s.qs, q.num = m.q ∧ q.found.head? = some m ∧ s'.qs = popQ m.q s.qs ∧ s'.tq = m.q := by
 rcases serveE_cases h with ⟨_, ⟨q, hq, h1, h2⟩, rfl⟩ | ⟨_, n, hf, rfl⟩
 ·have := hfq q hq m (List.mem_of_mem_head? h2)
  exact ⟨q, hq, this.symm, h2, by rw [this, h1], by rw [this, h1]⟩
 ·obtain ⟨A, q, B, hl, h1, h2, _⟩ := firstF_split _ _ _ hf
  have hq : q ∈ s.qs := mem_orderE.1 (by rw [hl]; simp)
  have := hfq q hq m (List.mem_of_mem_head? h2)
  exact ⟨q, hq, this.symm, h2, by rw [this, h1], by rw [this, h1]⟩

theorem serveE_tot {s s' : En} {m : Mt} (h : serveE s = some (m, s')) (hn : NR s.qs) (hfq : FQ s.qs) : totF s'.qs + 1 = totF s.qs ∧ NR s'.qs ∧ FQ s'.qs := by
 obtain ⟨q, hq, h1, h2, h3, _⟩ := serveE_to h hfq
 rw [h3]
 exact ⟨popQ_eq hn hq h1 (fun e => by rw [e] at h2; cases h2), hn.pop _, hfq.pop _⟩
theorem drainE_len : ∀ (n : Nat) (s : En), NR s.qs → FQ s.qs → totF s.qs ≤ n → (drainE n s).1.length = totF s.qs ∧ serveE (drainE n s).2 = none
 | 0, s, hn, hf, h => by
  refine ⟨?_, ?_⟩
  ·simp only [drainE, List.length_nil]; omega
  ·simp only [drainE]
   cases hs : serveE s with
   | none => rfl
   | some x =>
    obtain ⟨m, s'⟩ := x
    have := (serveE_tot hs hn hf).1
    omega
 | n + 1, s, hn, hf, h => by
  cases hs : serveE s with
  | none =>
   rw [drainE_none hs]
   exact ⟨(totF_zero (serveE_none hs)).symm, hs⟩
  | some x =>
   obtain ⟨m, s'⟩ := x
   rw [drainE_some hs]
   obtain ⟨h1, h2, h3⟩ := serveE_tot hs hn hf
   obtain ⟨k1, k2⟩ := drainE_len n s' h2 h3 (by omega)
   exact ⟨by simp only [List.length_cons]; omega, k2⟩
/-- Drained in parts, then to the end: as at once. -/
theorem drainE_parts {n m k : Nat} {s : En} (hn : NR s.qs) (hf : FQ s.qs) (hk : totF s.qs ≤ k) (hm : k ≤ m) : (drainE n s).1 ++ (drainE m (drainE n s).2).1 = (drainE k s).1 := by
 have h1 := drainE_add n m s
 have h2 := drainE_add k (n + m - k) s
 rw [drainE_none (drainE_len k s hn hf hk).2, show k + (n + m - k) = n + m by omega, h1] at h2
 simpa using congrArg Prod.fst h2

/-- The row in which queries are served, as the looker-on counts it. -/
structure FI (s : En) (row : Nat) (prev : Option Nat) : Prop where
 nr : NR s.qs
 fq : FQ s.qs
 start : prev = none → row = 0 ∧ ∀ q ∈ s.qs, q.num ≠ s.tq
 on : ∀ p, prev = some p → p = s.tq ∧ ((row = s.tr ∧ row ≤ 2) ∨ ∀ q ∈ s.qs, q.num ≠ p → q.found = [])
def nextRow (row : Nat) (prev : Option Nat) (n : Nat) : Nat := match prev with | none => row + 1 | some p => if p = n then row + 1 else 1

theorem pop_empty {qs : List Qy} {n p : Nat} (h : ∀ q ∈ qs, q.num ≠ p → q.found = []) : ∀ q ∈ popQ n qs, q.num ≠ p → q.found = [] := by
 intro q hq hp
 obtain ⟨a, ha, rfl⟩ := List.mem_map.1 hq
 by_cases e : a.num = n
 ·rw [if_pos e] at hp ⊢
  have := h a ha hp
  simp [this]
 ·rw [if_neg e] at hp ⊢
  exact h a ha hp
theorem orderE_last {s : En} (hn : NR s.qs) {A B : List Qy} {q : Qy} (hl : orderE s = A ++ q :: B) (hq : q.num = s.tq) : ∀ x ∈ s.qs, x.num ≠ s.tq → x ∈ A := by
 intro x hx hne
 have hxo := mem_orderE.2 hx
 rw [hl] at hxo
 rcases List.mem_append.1 hxo with h | h
 ·exact h
 ·exfalso
  rcases List.mem_cons.1 h with rfl | h
  ·exact hne hq
  ·-- x stands behind q in the order
   have hqm : q ∈ orderE s := by rw [hl]; simp
   have hpw : (orderE s).Pairwise (fun a b => a.num = s.tq → b.num = s.tq) := by
    unfold orderE
    refine List.pairwise_append.2 ⟨?_, ?_, ?_⟩
    ·refine List.Pairwise.imp_of_mem ?_ (List.Pairwise.filter _ hn)
     intro a b ha hb hab e
     have := (List.mem_filter.1 ha).2
     simp at this; omega
    ·refine List.Pairwise.imp_of_mem ?_ (List.Pairwise.filter _ hn)
     intro a b ha hb hab e
     have := (List.mem_filter.1 hb).2
     simp at this; omega
    ·intro a ha b hb e
     have := (List.mem_filter.1 ha).2
     simp at this; omega
   rw [hl] at hpw
   have := (List.pairwise_cons.1 (List.pairwise_append.1 hpw).2.1).1 x h hq
   exact hne this
theorem FI.step {s s' : En} {row : Nat} {prev : Option Nat} {m : Mt} (h : FI s row prev) (hs : serveE s = some (m, s')) :
  FI s' (nextRow row prev m.q) (some m.q) ∧ (2 < nextRow row prev m.q → ∀ q ∈ s.qs, q.num ≠ m.q → q.found = []) ∧ (∃ q ∈ s.qs, q.num = m.q ∧ q.found ≠ []) ∧ s'.qs = popQ m.q s.qs := by
 obtain ⟨q, hq, h1, h2, h3, h4⟩ := serveE_to hs h.fq
 have hne : q.found ≠ [] := fun e => by rw [e] at h2; cases h2
 have hnq : m.q ∈ s.qs.map (·.num) := List.mem_map.2 ⟨q, hq, h1⟩
 suffices H : (nextRow row prev m.q = s'.tr ∧ nextRow row prev m.q ≤ 2) ∨ ∀ q ∈ s.qs, q.num ≠ m.q → q.found = [] by
  refine ⟨⟨by rw [h3]; exact h.nr.pop _, by rw [h3]; exact h.fq.pop _, (fun e => by cases e), ?_⟩, ?_, ⟨q, hq, h1, hne⟩, h3⟩
  ·intro p hp
   cases hp
   refine ⟨h4.symm, H.imp id (fun H => ?_)⟩
   rw [h3]; exact pop_empty H
  ·intro hrow
   rcases H with H | H
   ·omega
   ·exact H
 cases prev with
 | none =>
  obtain ⟨hr, hno⟩ := h.start rfl
  rcases serveE_cases hs with ⟨_, ⟨x, hx, hx1, _⟩, _⟩ | ⟨_, n, hf, rfl⟩
  ·exact absurd hx1 (hno x hx)
  ·left
   simp [nextRow, hr]
 | some p =>
  obtain ⟨hp, hor⟩ := h.on p rfl
  rcases hor with ⟨hr, hr2⟩ | hemp
  ·rcases serveE_cases hs with ⟨ht, ⟨x, hx, hx1, hx2⟩, rfl⟩ | ⟨_, n, hf, rfl⟩
   ·left
    have hm := h.fq x hx m (List.mem_of_mem_head? hx2)
    simp only [nextRow]
    rw [if_pos (by omega)]
    exact ⟨by omega, by omega⟩
   ·obtain ⟨A, x, B, hl, hx1, hx2, hA⟩ := firstF_split _ _ _ hf
    have hxm : x ∈ s.qs := mem_orderE.1 (by rw [hl]; simp)
    have hm := h.fq x hxm m (List.mem_of_mem_head? hx2)
    by_cases e : p = m.q
    ·right
     intro y hy hyn
     exact hA y (orderE_last h.nr hl (by omega) y hy (by omega))
    ·left
     simp only [nextRow]
     rw [if_neg e]
     exact ⟨rfl, by omega⟩
  ·right
   have : q.num = p := Classical.byContradiction fun e => hne (hemp q hq e)
   intro y hy hyn
   exact hemp y hy (by omega)
end Go.Lull

namespace Go.Lull
set_option linter.unusedVariables false

/-! ### Each query by itself -/
theorem ml_mem {qs : List Qy} {q : Qy} {r : Rn} {l : List Rn} (hq : q ∈ qs) (hr : q.runs = r :: l) : ∃ t, ml qs = some t ∧ t ≤ r.dl := by
 induction qs with
 | nil => cases hq
 | cons a as ih =>
  rw [show ml (a :: as) = (match a.runs with | [] => ml as | r :: _ => match ml as with | none => some r.dl | some t => some (if t < r.dl then t else r.dl)) from rfl]
  rcases List.mem_cons.1 hq with rfl | hq
  ·rw [hr]
   cases hm : ml as with
   | none => exact ⟨_, rfl, Int.le_refl _⟩
   | some t => exact ⟨_, rfl, by split <;> omega⟩
  ·obtain ⟨t, ht, hle⟩ := ih hq
   cases ha : a.runs with
   | nil => exact ⟨t, ht, hle⟩
   | cons x xs => simp only [ht]; exact ⟨_, rfl, by split <;> omega⟩
theorem ml_one (q : Qy) : ml [q] = (q.runs.head?).map (·.dl) := by
 cases h : q.runs with
 | nil => simp [ml, h]
 | cons r l => simp [ml, h]
theorem endQ_same {q : Qy} {t : Int} (h : ∀ r l, q.runs = r :: l → r.dl ≠ t) : endQ q t = q := by
 cases hr : q.runs with
 | nil => cases q; simp_all [endQ]
 | cons r l =>
  have hne : (r.dl == t) = false := by simpa using h r l hr
  cases q
  simp only at hr
  subst hr
  simp [endQ, hne]
theorem Still.one {M : Int} {B : List Ev} {qs : List Qy} (h : Still M (B, qs)) {q : Qy} (hq : q ∈ qs) : Still M (B, [q]) := by
 refine ⟨h.1, ?_⟩
 intro t ht
 rw [ml_one] at ht
 obtain ⟨r, hr, rfl⟩ := Option.map_eq_some_iff.1 ht
 cases hl : q.runs with
 | nil => rw [hl] at hr; cases hr
 | cons x l =>
  rw [hl] at hr
  cases hr
  obtain ⟨t, h1, h2⟩ := ml_mem hq hl
  have := h.2 t h1
  omega
/-- What is done first does to one query what it does to it alone. -/
theorem one_step {M : Int} {B : List Ev} {qs : List Qy} {d : Deed} (h : firstD B qs = some d) (ht : d.time < M) {q : Qy} (hq : q ∈ qs) : pass M (B, [q]) = pass M (doD (B, [q]) d) := by
 cases d with
 | rel e =>
  obtain ⟨r, hr⟩ := firstD_rel h
  subst hr
  refine pass_step ?_ ht
  rw [firstD_comb, ml_one]
  cases hl : q.runs with
  | nil => rfl
  | cons x l =>
   obtain ⟨t, h1, h2⟩ := ml_mem hq hl
   rw [firstD_comb, h1] at h
   have hnt : ¬ t < e.2.1 := by
    intro hlt
    have : comb (some (Deed.rel e)) (some t) = some (Deed.fin t) := if_pos hlt
    simp only [List.head?_cons, Option.map_some] at h
    rw [this] at h
    cases h
   exact if_neg (show ¬ x.dl < e.2.1 by omega)
 | fin t =>
  have ht' : t < M := ht
  by_cases hx : ∃ r l, q.runs = r :: l ∧ r.dl = t
  ·obtain ⟨r, l, hr, hd⟩ := hx
   refine pass_step ?_ ht
   rw [firstD_comb, ml_one, hr]
   simp only [List.head?_cons, Option.map_some, hd]
   rw [firstD_comb] at h
   cases hm : ml qs with
   | none => obtain ⟨_, h1, _⟩ := ml_mem hq hr; rw [hm] at h1; cases h1
   | some t' =>
    rw [hm] at h
    have htt : t' = t := by
     cases hh : B.head? with
     | none => rw [hh] at h; cases h; rfl
     | some b =>
      rw [hh] at h
      simp only [Option.map_some, comb] at h
      split at h
      ·cases h; rfl
      ·cases h
    rw [← htt]; rw [← htt] at h; exact h
  ·have : endQ q t = q := endQ_same (fun r l hr hd => hx ⟨r, l, hr, hd⟩)
   show _ = pass M (B, [endQ q t])
   rw [this]
def passQ (M : Int) (B : List Ev) (q : Qy) : Qy := (pass M (B, [q])).2.headD q
theorem pass_len {M : Int} (s : List Ev × List Qy) : (pass M s).2.length = s.2.length :=
 pass_ind (P := fun x => x.2.length = s.2.length) (fun x d hx _ => by cases d <;> simpa [doD] using hx) _ s rfl rfl
theorem pass_one (M : Int) (B : List Ev) (q : Qy) : (pass M (B, [q])).2 = [passQ M B q] := by
 have := pass_len (M := M) (B, [q])
 unfold passQ
 cases h : (pass M (B, [q])).2 with
 | nil => rw [h] at this; cases this
 | cons a l =>
  cases l with
  | nil => rfl
  | cons b l => rw [h] at this; simp at this
theorem doD_one (B : List Ev) (q : Qy) (d : Deed) : ∃ f : Qy → Qy, (∀ qs, (doD (B, qs) d).2 = qs.map f) ∧ (∀ qs qs', (doD (B, qs) d).1 = (doD (B, qs') d).1) := by
 cases d with
 | rel e => exact ⟨(showQ · e), fun _ => rfl, fun _ _ => rfl⟩
 | fin t => exact ⟨(endQ · t), fun _ => rfl, fun _ _ => rfl⟩
theorem pass_alone' {M : Int} : ∀ (n : Nat) (B : List Ev) (qs : List Qy), passM (B, qs) = n → (pass M (B, qs)).2 = qs.map (passQ M B) := by
 intro n
 induction n using Nat.strongRecOn with
 | _ n ih =>
  intro B qs hn
  have hstill : Still M (B, qs) → (pass M (B, qs)).2 = qs.map (passQ M B) := by
   intro h
   rw [pass_still h]
   show qs = _
   conv => lhs; rw [← List.map_id qs]
   apply List.map_congr_left
   intro q hq
   unfold passQ
   rw [pass_still (h.one hq)]; rfl
  cases hf : firstD B qs with
  | none => exact hstill (still_iff.2 (fun d hd => by rw [hf] at hd; cases hd))
  | some d =>
   by_cases ht : d.time < M
   ·rw [pass_step (s := (B, qs)) hf ht]
    have hl := passM_less (s := (B, qs)) hf
    rw [hn] at hl
    cases d with
    | rel e =>
     refine (ih _ hl _ _ rfl).trans ?_
     show (qs.map (showQ · e)).map (passQ M B.tail) = _
     rw [List.map_map]
     apply List.map_congr_left
     intro q hq
     have h1 := pass_one M B q
     rw [one_step hf ht hq] at h1
     have h2 := pass_one M B.tail (showQ q e)
     have h3 : [passQ M B q] = [passQ M B.tail (showQ q e)] := h1.symm.trans h2
     simpa using h3.symm
    | fin t =>
     refine (ih _ hl _ _ rfl).trans ?_
     show (qs.map (endQ · t)).map (passQ M B) = _
     rw [List.map_map]
     apply List.map_congr_left
     intro q hq
     have h1 := pass_one M B q
     rw [one_step hf ht hq] at h1
     have h2 := pass_one M B (endQ q t)
     have h3 : [passQ M B q] = [passQ M B (endQ q t)] := h1.symm.trans h2
     simpa using h3.symm
   ·exact hstill (still_iff.2 (fun d' hd => by rw [hf] at hd; cases hd; omega))
/-- Queries know nothing of each other. -/
theorem pass_alone (M : Int) (B : List Ev) (qs : List Qy) : (pass M (B, qs)).2 = qs.map (passQ M B) := pass_alone' _ B qs rfl
/-- Those that wait still. -/
theorem pass_buf' {M : Int} : ∀ (n : Nat) (s : List Ev × List Qy), passM s = n → (pass M s).1 = s.1.dropWhile (fun e => decide (e.2.1 < M)) := by
 intro n
 induction n using Nat.strongRecOn with
 | _ n ih =>
  intro s hn
  have hstill : Still M s → (pass M s).1 = s.1.dropWhile (fun e => decide (e.2.1 < M)) := by
   intro h
   rw [pass_still h]
   cases hb : s.1 with
   | nil => rfl
   | cons b r =>
    have := h.1 b (by rw [hb]; rfl)
    rw [List.dropWhile_cons_of_neg (by simp; omega)]
  cases hf : firstD s.1 s.2 with
  | none => exact hstill (still_iff.2 (fun d hd => by rw [hf] at hd; cases hd))
  | some d =>
   by_cases ht : d.time < M
   ·rw [pass_step hf ht, ih _ (by rw [← hn]; exact passM_less hf) _ rfl]
    cases d with
    | rel e =>
     obtain ⟨r, hr⟩ := firstD_rel hf
     show s.1.tail.dropWhile _ = _
     rw [hr, List.tail_cons, List.dropWhile_cons_of_pos (by have h2 : e.2.1 < M := ht; simpa using h2)]
    | fin t => rfl
   ·exact hstill (still_iff.2 (fun d' hd => by rw [hf] at hd; cases hd; omega))
theorem pass_buf (M : Int) (s : List Ev × List Qy) : (pass M s).1 = s.1.dropWhile (fun e => decide (e.2.1 < M)) := pass_buf' _ s rfl

/-! ### What stays of a query -/
theorem showQ_same (q : Qy) (e : Ev) : (showQ q e).num = q.num ∧ (showQ q e).st = q.st ∧ (showQ q e).wn = q.wn := by
 unfold showQ beginQ
 split
 ·split <;> exact ⟨rfl, rfl, rfl⟩
 ·exact ⟨rfl, rfl, rfl⟩
theorem passQ_ind {P : Qy → Prop} (h1 : ∀ q e, P q → P (showQ q e)) (h2 : ∀ q t, P q → P (endQ q t)) (M : Int) (B : List Ev) {q : Qy} (h : P q) : P (passQ M B q) := by
 have := pass_ind (P := fun s => ∀ x ∈ s.2, P x) (wm := M) (fun s d hs _ => by
  cases d with
  | rel e => intro x hx; obtain ⟨y, hy, rfl⟩ := List.mem_map.1 hx; exact h1 y e (hs y hy)
  | fin t => intro x hx; obtain ⟨y, hy, rfl⟩ := List.mem_map.1 hx; exact h2 y t (hs y hy)) _ (B, [q]) rfl (by intro x hx; simp at hx; subst hx; exact h)
 exact this _ (by rw [pass_one]; simp)
theorem passQ_num (M : Int) (B : List Ev) (q : Qy) : (passQ M B q).num = q.num := passQ_ind (P := fun x => x.num = q.num) (fun x e h => by rw [(showQ_same x e).1]; exact h) (fun x t h => h) M B rfl
theorem NR.map {qs : List Qy} (h : NR qs) {f : Qy → Qy} (hf : ∀ q, (f q).num = q.num) : NR (qs.map f) := by
 unfold NR
 rw [List.pairwise_map]
 refine h.imp ?_
 intro a b hab
 rw [hf, hf]; exact hab
theorem NR.pass {M : Int} {B : List Ev} {qs : List Qy} (h : NR qs) : NR (Go.Lull.pass M (B, qs)).2 := by
 rw [pass_alone]; exact h.map (passQ_num M B)
def FQ1 (q : Qy) : Prop := ∀ m ∈ q.found, m.q = q.num
theorem FQ1.show {q : Qy} (h : FQ1 q) (e : Ev) : FQ1 (showQ q e) := by
 have hs : FQ1 (shownQ q e) := by
  intro m hm
  rcases List.mem_append.1 hm with hm | hm
  ·exact h m hm
  ·obtain ⟨r, _, hr⟩ := List.mem_filterMap.1 hm
   unfold told1 at hr
   split at hr
   ·cases hr; rfl
   ·cases hr
 unfold showQ beginQ
 split
 ·split
  ·intro m hm
   rcases List.mem_append.1 hm with hm | hm
   ·exact hs m hm
   ·simp at hm; subst hm; rfl
  ·exact hs
 ·exact hs
theorem FQ1.end_ {q : Qy} (h : FQ1 q) (t : Int) : FQ1 (endQ q t) := by
 intro m hm
 rcases List.mem_append.1 hm with hm | hm
 ·exact h m hm
 ·obtain ⟨r, _, rfl⟩ := List.mem_map.1 hm; rfl
theorem FQ.pass {M : Int} {B : List Ev} {qs : List Qy} (h : FQ qs) : FQ (Go.Lull.pass M (B, qs)).2 := by
 rw [pass_alone]
 intro q hq
 obtain ⟨x, hx, rfl⟩ := List.mem_map.1 hq
 exact passQ_ind (P := FQ1) (fun _ e h => h.show e) (fun _ t h => h.end_ t) M B (h x hx)

/-- Another number. -/
def renum (n : Nat) (q : Qy) : Qy := { q with num := n, found := q.found.map (fun m => { m with q := n }) }
theorem renum_show (n : Nat) (q : Qy) (e : Ev) : showQ (renum n q) e = renum n (showQ q e) := by
 have hs : shownQ (renum n q) e = renum n (shownQ q e) := by
  unfold shownQ renum
  simp only [List.map_append, List.map_filterMap]
  have hfun : told1 n q.st e = fun r => (told1 q.num q.st e r).map (fun m => { m with q := n }) := by
   funext r
   unfold told1
   split <;> rfl
  rw [hfun]
 unfold showQ
 rw [hs]
 unfold beginQ
 have e1 : (renum n (shownQ q e)).st = (shownQ q e).st := rfl
 rw [e1]
 split
 ·split
  ·simp [renum]
  ·rfl
 ·rfl
theorem renum_end (n : Nat) (q : Qy) (t : Int) : endQ (renum n q) t = renum n (endQ q t) := by
 unfold endQ renum
 simp only [List.map_append, List.map_map]
 rfl
theorem pass_renum (n : Nat) {M : Int} : ∀ (k : Nat) (B : List Ev) (q : Qy), passM (B, [q]) = k → pass M (B, [renum n q]) = ((pass M (B, [q])).1, [renum n (passQ M B q)]) := by
 intro k
 induction k using Nat.strongRecOn with
 | _ k ih =>
  intro B q hk
  have hsame : firstD B [renum n q] = firstD B [q] := by rw [firstD_comb, firstD_comb, ml_one, ml_one]; rfl
  cases hf : firstD B [q] with
  | none =>
   have : passQ M B q = q := by unfold passQ; rw [pass_none (s := (B, [q])) hf]; rfl
   rw [pass_none (s := (B, [renum n q])) (by rw [← hf]; exact hsame), pass_none (s := (B, [q])) hf, this]
  | some d =>
   by_cases ht : d.time < M
   ·rw [pass_step (s := (B, [renum n q])) (hsame.trans hf) ht]
    have hl := passM_less (s := (B, [q])) hf
    have h1 := pass_one M B q
    rw [pass_step (s := (B, [q])) hf ht] at h1 ⊢
    rw [hk] at hl
    cases d with
    | rel e =>
     show pass M (B.tail, [showQ (renum n q) e]) = _
     rw [renum_show, ih _ hl _ _ rfl]
     have h2 : [passQ M B.tail (showQ q e)] = [passQ M B q] := (pass_one M B.tail (showQ q e)).symm.trans h1
     have h3 : passQ M B.tail (showQ q e) = passQ M B q := by simpa using h2
     rw [h3]; rfl
    | fin t =>
     show pass M (B, [endQ (renum n q) t]) = _
     rw [renum_end, ih _ hl _ _ rfl]
     have h2 : [passQ M B (endQ q t)] = [passQ M B q] := (pass_one M B (endQ q t)).symm.trans h1
     have h3 : passQ M B (endQ q t) = passQ M B q := by simpa using h2
     rw [h3]; rfl
   ·have : passQ M B q = q := by unfold passQ; rw [pass_late (s := (B, [q])) hf ht]; rfl
    rw [pass_late (s := (B, [renum n q])) (hsame.trans hf) ht, pass_late (s := (B, [q])) hf ht, this]
theorem passQ_renum (n : Nat) (M : Int) (B : List Ev) (q : Qy) : passQ M B (renum n q) = renum n (passQ M B q) := by
 have h := pass_one M B (renum n q)
 rw [pass_renum n _ B q rfl] at h
 simpa using h.symm
end Go.Lull
