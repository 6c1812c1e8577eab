import Derived.Test.YtbgfannlfagoiaaGreatDoorZ02
namespace Go.Lull
set_option linter.unusedVariables false

theorem pass_ind2 {P : List Ev × List Qy → Prop} {wm : Int} (hs : ∀ s d, P s → firstD s.1 s.2 = some d → d.time < wm → P (doD s d)) : ∀ (n : Nat) (s : List Ev × List Qy), passM s = n → P s → P (pass wm s) := by
 intro n
 induction n using Nat.strongRecOn with
 | _ n ih =>
  intro s hn h
  cases hf : firstD s.1 s.2 with
  | none => rw [pass_none hf]; exact h
  | some d =>
   by_cases ht : d.time < wm
   ·rw [pass_step hf ht]
    exact ih (passM (doD s d)) (by rw [← hn]; exact passM_less hf) _ rfl (hs s d h hf ht)
   ·rw [pass_late hf ht]; exact h

def isK (c : UInt8) (e : Ev) : Bool := e.2.2.1 == c
def mustS (c : UInt8) : Stp := (false, c, 0, 0)
def notS (c : UInt8) : Stp := (true, c, 0, 0)
theorem fits_must (c : UInt8) (e : Ev) : fitsB (mustS c) e = isK c e := by simp [fitsB, mustS, isK, signHolds]
theorem fits_not (c : UInt8) (e : Ev) : fitsB (notS c) e = isK c e := by simp [fitsB, notS, isK, signHolds]
theorem isK_ab {e : Ev} (h : isK 97 e = true) : isK 98 e = false := by
 unfold isK at *
 have : e.2.2.1 = 97 := by simpa using h
 rw [this]; rfl

/-- Times that do not fall. -/
def TS (l : List Ev) : Prop := l.Pairwise (fun x y => x.2.1 ≤ y.2.1)
theorem SB.ts {l : List Ev} (h : SB l) : TS l := by
 refine List.Pairwise.imp ?_ h
 intro x y hxy
 have : ¬ (y.2.1 < x.2.1 ∨ (x.2.1 = y.2.1 ∧ y.1 < x.1)) := by rw [← after_iff, hxy]; simp
 omega

theorem first_rel {e : Ev} {r : List Ev} {q : Qy} (h : firstD (e :: r) [q] = some (.rel e)) : ∀ x l, q.runs = x :: l → e.2.1 ≤ x.dl := by
 intro x l hx
 rw [firstD_comb, ml_one, hx] at h
 by_cases hlt : x.dl < e.2.1
 ·have : comb (some (Deed.rel e)) (some x.dl) = some (Deed.fin x.dl) := if_pos hlt
  simp only [List.head?_cons, Option.map_some] at h
  rw [this] at h; cases h
 ·omega
theorem first_fin {B : List Ev} {q : Qy} {t : Int} (h : firstD B [q] = some (.fin t)) : (∃ x l, q.runs = x :: l ∧ x.dl = t) ∧ ∀ b ∈ B.head?, t < b.2.1 := by
 refine ⟨?_, ?_⟩
 ·obtain ⟨q', hq', r, l, h1, h2⟩ := firstD_fin h
  simp at hq'; subst hq'
  exact ⟨r, l, h1, h2⟩
 ·intro b hb
  rw [firstD_comb, ml_one, hb] at h
  cases hr : q.runs.head? with
  | none => rw [hr] at h; cases h
  | some x =>
   rw [hr] at h
   simp only [Option.map_some] at h
   by_cases hlt : x.dl < b.2.1
   ·have : comb (some (Deed.rel b)) (some x.dl) = some (Deed.fin x.dl) := if_pos hlt
    rw [this] at h; cases h; exact hlt
   ·have : comb (some (Deed.rel b)) (some x.dl) = some (Deed.rel b) := if_neg hlt
    rw [this] at h; cases h

/-! ### a !b within w -/
section
variable (w : Int)
/-- Those of some events that are a's and that no b follows in time. -/
def quietL : List Ev → List Ev
 | [] => []
 | e :: r => if isK 97 e = true ∧ (∀ x ∈ r, isK 98 x = true → ¬ x.2.1 ≤ e.2.1 + w) then e :: quietL r else quietL r
def hushed (x e : Ev) : Bool := !(isK 98 x && decide (x.2.1 ≤ e.2.1 + w))
theorem quietL_snoc (x : Ev) : ∀ P : List Ev, quietL w (P ++ [x]) = (quietL w P).filter (hushed w x) ++ (if isK 97 x = true then [x] else [])
 | [] => by
  simp [quietL]
 | e :: r => by
  have ih := quietL_snoc x r
  rw [List.cons_append]
  unfold quietL
  by_cases ha : isK 97 e = true
  ·by_cases hq : ∀ y ∈ r, isK 98 y = true → ¬ y.2.1 ≤ e.2.1 + w
   ·rw [if_pos (show isK 97 e = true ∧ ∀ y ∈ r, isK 98 y = true → ¬ y.2.1 ≤ e.2.1 + w from ⟨ha, hq⟩)]
    by_cases hx : isK 98 x = true ∧ x.2.1 ≤ e.2.1 + w
    ·rw [if_neg (fun h => h.2 x (by simp) hx.1 hx.2), ih, List.filter_cons_of_neg (by simp [hushed, hx.1, hx.2])]
    ·rw [if_pos ⟨ha, fun y hy => by
      rcases List.mem_append.1 hy with hy | hy
      ·exact hq y hy
      ·simp at hy; subst hy; exact fun h1 h2 => hx ⟨h1, h2⟩⟩, ih, List.filter_cons_of_pos (by
       simp only [hushed, Bool.not_eq_true', Bool.and_eq_false_iff, decide_eq_false_iff_not]
       by_cases hb : isK 98 x = true
       ·exact Or.inr (fun h => hx ⟨hb, h⟩)
       ·exact Or.inl (by simpa using hb))]
     rfl
   ·rw [if_neg (fun h => hq (fun y hy => h.2 y (List.mem_append_left _ hy))), if_neg (fun h => hq h.2), ih]
  ·rw [if_neg (fun h => ha h.1), if_neg (fun h => ha h.1), ih]
theorem quietL_mem : ∀ (P : List Ev) (e : Ev), e ∈ quietL w P → e ∈ P
 | [], e, h => by cases h
 | x :: r, e, h => by
  unfold quietL at h
  split at h
  ·rcases List.mem_cons.1 h with rfl | h
   ·exact List.mem_cons_self
   ·exact List.mem_cons_of_mem _ (quietL_mem r e h)
  ·exact List.mem_cons_of_mem _ (quietL_mem r e h)
theorem quietL_sub : ∀ P : List Ev, (quietL w P).Sublist P
 | [] => List.Sublist.refl _
 | x :: r => by
  unfold quietL
  split
  ·exact (quietL_sub r).cons_cons x
  ·exact (quietL_sub r).cons x
def stSil : List Stp := [mustS 97, notS 98]
def mtS (n : Nat) (e : Ev) : Mt := ⟨n, e.2.1 + w, [e]⟩
def rnS (e : Ev) : Rn := ⟨e.2.1 + w, [e], 1⟩
theorem showB_sil (tk : List Ev) (x : Ev) : showB stSil 1 tk x = if isK 98 x = true then .dead else .stands 1 tk := by
 have h : stSil.getD 1 noStep = notS 98 := rfl
 unfold showB
 rw [h, fits_not]
 by_cases hb : isK 98 x = true
 ·rw [if_pos hb, if_pos ⟨rfl, hb⟩]
 ·rw [if_neg hb, if_neg (fun h => hb h.2)]
  rfl
structure SI (l : List Ev) (n : Nat) (M : Int) (s : List Ev × List Qy) : Prop where
 ex : ∃ q P told live, s.2 = [q] ∧ P ++ s.1 = l ∧ quietL w P = told ++ live ∧ q = ⟨n, stSil, w, live.map (rnS w), told.map (mtS w n)⟩ ∧ (∀ t ∈ told, t.2.1 + w < M) ∧ (∀ t ∈ told, ∀ b ∈ s.1, t.2.1 + w < b.2.1) ∧ (∀ p ∈ P, p.2.1 < M)
theorem keep_sil (x : Ev) (live : List Ev) : (live.map (rnS w)).filterMap (keep1 stSil x) = if isK 98 x = true then [] else live.map (rnS w) := by
 by_cases hb : isK 98 x = true
 ·rw [if_pos hb]
  apply List.filterMap_eq_nil_iff.2
  intro r hr
  obtain ⟨e, _, rfl⟩ := List.mem_map.1 hr
  simp [keep1, rnS, showB_sil, hb]
 ·rw [if_neg hb]
  conv => rhs; rw [← List.filterMap_some (l := live.map (rnS w))]
  rw [List.filterMap_map, List.filterMap_map]
  congr 1
  funext e
  simp [keep1, rnS, showB_sil, hb]
theorem told_sil (n : Nat) (x : Ev) (live : List Ev) : (live.map (rnS w)).filterMap (told1 n stSil x) = [] := by
 apply List.filterMap_eq_nil_iff.2
 intro r hr
 obtain ⟨e, _, rfl⟩ := List.mem_map.1 hr
 unfold told1
 simp only [rnS, showB_sil]
 split
 ·rename_i h; split at h <;> cases h
 ·rfl
theorem takeWhile_map_sil (t : Int) : ∀ live : List Ev, (live.map (rnS w)).takeWhile (fun r => r.dl == t) = (live.takeWhile (fun e => e.2.1 + w == t)).map (rnS w) ∧ (live.map (rnS w)).dropWhile (fun r => r.dl == t) = (live.dropWhile (fun e => e.2.1 + w == t)).map (rnS w)
 | [] => ⟨rfl, rfl⟩
 | e :: r => by
  obtain ⟨h1, h2⟩ := takeWhile_map_sil t r
  rw [List.map_cons, List.takeWhile_cons, List.takeWhile_cons, List.dropWhile_cons, List.dropWhile_cons]
  have he : ((rnS w e).dl == t) = (e.2.1 + w == t) := rfl
  rw [he, h1, h2]
  cases (e.2.1 + w == t) <;> exact ⟨rfl, rfl⟩
theorem mem_tw {p : Ev → Bool} : ∀ {l : List Ev} {e : Ev}, e ∈ l.takeWhile p → p e = true
 | [], e, h => by cases h
 | a :: r, e, h => by
  rw [List.takeWhile_cons] at h
  split at h
  ·rename_i ha
   rcases List.mem_cons.1 h with rfl | h
   ·exact ha
   ·exact mem_tw h
  ·cases h
theorem head_ge {c : Int} {l : List Ev} (hs : TS l) (h : ∀ e r, l = e :: r → c ≤ e.2.1) : ∀ e ∈ l, c ≤ e.2.1 := by
 cases l with
 | nil => intro e he; cases he
 | cons a r =>
  have ha := h a r rfl
  intro e he
  rcases List.mem_cons.1 he with rfl | he
  ·exact ha
  ·have := (List.pairwise_cons.1 hs).1 e he; omega
theorem SI.step {l : List Ev} {n : Nat} {M : Int} (hl : TS l) {s : List Ev × List Qy} {d : Deed} (h : SI w l n M s) (hd : firstD s.1 s.2 = some d) (ht : d.time < M) : SI w l n M (doD s d) := by
 obtain ⟨q, P, told, live, h1, h2, h3, h4, h5, h6, h7⟩ := h.ex
 obtain ⟨Bf, qs⟩ := s
 simp only at h1 h2 h6
 subst h1
 have hlive : TS live := by
  have hs : live.Sublist l := by
   refine List.Sublist.trans ?_ (List.Sublist.trans (quietL_sub w P) (by rw [← h2]; exact List.sublist_append_left _ _))
   rw [h3]; exact List.sublist_append_right _ _
  exact List.Pairwise.sublist hs hl
 cases d with
 | rel x =>
  obtain ⟨r, hr⟩ := firstD_rel hd
  simp only at hr
  subst hr
  have hge := first_rel hd
  have hlx : ∀ e ∈ live, x.2.1 ≤ e.2.1 + w := by
   intro e he
   have := head_ge (c := x.2.1 - w) hlive (fun e r hlr => by
    have := hge (rnS w e) (r.map (rnS w)) (by rw [h4, hlr]; rfl)
    have h8 : (rnS w e).dl = e.2.1 + w := rfl
    omega) e he
   omega
  have hx7 : x.2.1 < M := ht
  refine ⟨showQ q x, P ++ [x], told, (if isK 98 x = true then [] else live) ++ (if isK 97 x = true then [x] else []), rfl, ?_, ?_, ?_, h5, fun t ht b hb => h6 t ht b (List.mem_cons_of_mem _ hb), ?_⟩
  ·rw [← h2]; simp [doD]
  ·rw [quietL_snoc, h3, List.filter_append]
   have e1 : told.filter (hushed w x) = told := List.filter_eq_self.2 (fun t ht => by
    have := h6 t ht x List.mem_cons_self
    simp [hushed]; exact Or.inr (by omega))
   have e2 : live.filter (hushed w x) = if isK 98 x = true then [] else live := by
    by_cases hb : isK 98 x = true
    ·rw [if_pos hb]
     apply List.filter_eq_nil_iff.2
     intro e he
     have := hlx e he
     simp [hushed, hb]; omega
    ·rw [if_neg hb]
     exact List.filter_eq_self.2 (fun e he => by simp [hushed, hb])
   rw [e1, e2, List.append_assoc]
  ·subst h4
   unfold showQ shownQ
   simp only [keep_sil, told_sil, List.append_nil]
   unfold beginQ
   have : List.getD stSil 0 noStep = mustS 97 := rfl
   simp only [this, fits_must]
   by_cases ha : isK 97 x = true
   ·rw [if_pos ha, if_pos ha, isK_ab ha]
    simp [stSil, rnS]
   ·rw [if_neg ha, if_neg ha, List.append_nil]
    by_cases hb : isK 98 x = true
    ·rw [if_pos hb, if_pos hb]; rfl
    ·rw [if_neg hb, if_neg hb]
  ·intro p hp
   rcases List.mem_append.1 hp with hp | hp
   ·exact h7 p hp
   ·simp at hp; subst hp; exact hx7
 | fin t =>
  obtain ⟨⟨x, rl, hx, hxt⟩, hB⟩ := first_fin hd
  have htM : t < M := ht
  have hBf : TS Bf := List.Pairwise.sublist (by rw [← h2]; exact List.sublist_append_right _ _) hl
  have hB' : ∀ b ∈ Bf, t < b.2.1 := by
   intro b hb
   have := head_ge (c := t + 1) hBf (fun e r he => by have := hB e (by rw [he]; rfl); omega) b hb
   omega
  obtain ⟨k1, k2⟩ := takeWhile_map_sil w t live
  refine ⟨endQ q t, P, told ++ live.takeWhile (fun e => e.2.1 + w == t), live.dropWhile (fun e => e.2.1 + w == t), rfl, h2, ?_, ?_, ?_, ?_, h7⟩
  ·rw [h3, List.append_assoc, List.takeWhile_append_dropWhile]
  ·subst h4
   unfold endQ
   simp only [k1, k2, List.map_append]
   congr 1
   rw [List.filter_eq_self.2 (fun r hr => by
    obtain ⟨e, _, rfl⟩ := List.mem_map.1 hr
    rfl), List.map_map]
   congr 1
   apply List.map_congr_left
   intro e he
   have := mem_tw he
   have hh : e.2.1 + w = t := by simpa using this
   simp [mtS, rnS, hh]
  ·intro e he
   rcases List.mem_append.1 he with he | he
   ·exact h5 e he
   ·have := mem_tw he
    have hh : e.2.1 + w = t := by simpa using this
    omega
  ·intro e he b hb
   rcases List.mem_append.1 he with he | he
   ·exact h6 e he b hb
   ·have := mem_tw he
    have hh : e.2.1 + w = t := by simpa using this
    have := hB' b hb
    omega
/-- What a query a !b within w is told up to a watermark. -/
theorem silent_pass {l : List Ev} (n : Nat) (M : Int) (hl : TS l) : (pass M (l, [⟨n, stSil, w, [], []⟩])).2 = [⟨n, stSil, w, ((quietL w (l.filter (fun e => decide (e.2.1 < M)))).filter (fun e => !decide (e.2.1 + w < M))).map (rnS w), ((quietL w (l.filter (fun e => decide (e.2.1 < M)))).filter (fun e => decide (e.2.1 + w < M))).map (mtS w n)⟩] := by
 have hI := pass_ind2 (P := SI w l n M) (wm := M) (fun s d h hd ht => h.step w hl hd ht) _ (l, [⟨n, stSil, w, [], []⟩]) rfl ⟨_, [], [], [], rfl, rfl, rfl, rfl, by simp, by simp, by simp⟩
 have hS := pass_isStill M (l, [⟨n, stSil, w, [], []⟩])
 obtain ⟨q, P, told, live, h1, h2, h3, h4, h5, h6, h7⟩ := hI.ex
 rw [h1, h4]
 have hP : l.filter (fun e => decide (e.2.1 < M)) = P := by
  have e0 := congrArg (List.filter (fun e => decide (e.2.1 < M))) h2
  rw [List.filter_append, List.filter_eq_self.2 (fun p hp => by simpa using h7 p hp)] at e0
  rw [← e0]
  have hB : TS (pass M (l, [⟨n, stSil, w, [], []⟩])).1 := List.Pairwise.sublist (List.sublist_append_right P _) (h2.symm ▸ hl : TS (P ++ _))
  rw [List.filter_eq_nil_iff.2, List.append_nil]
  intro b hb
  have := head_ge (c := M) hB (fun e r he => hS.1 e (by rw [he]; rfl)) b hb
  simp; omega
 have hlive : ∀ e ∈ live, M ≤ e.2.1 + w := by
  have hs : TS live := by
   have hs : live.Sublist l := by
    refine List.Sublist.trans ?_ (List.Sublist.trans (quietL_sub w P) (by rw [← h2]; exact List.sublist_append_left _ _))
    rw [h3]; exact List.sublist_append_right _ _
   exact List.Pairwise.sublist hs hl
  intro e he
  have := head_ge (c := M - w) hs (fun e r hlr => by
   have := hS.2 (e.2.1 + w) (by rw [h1, ml_one, h4, hlr]; rfl)
   omega) e he
  omega
 rw [hP, h3, List.filter_append, List.filter_append]
 rw [List.filter_eq_nil_iff.2 (show ∀ e ∈ told, ¬ (!decide (e.2.1 + w < M)) = true by intro e he; have := h5 e he; simp; omega)]
 rw [List.filter_eq_self.2 (show ∀ e ∈ live, (!decide (e.2.1 + w < M)) = true by intro e he; have := hlive e he; simp; omega)]
 rw [List.filter_eq_self.2 (show ∀ e ∈ told, decide (e.2.1 + w < M) = true by intro e he; have := h5 e he; simp; omega)]
 rw [List.filter_eq_nil_iff.2 (show ∀ e ∈ live, ¬ decide (e.2.1 + w < M) = true by intro e he; have := hlive e he; simp; omega)]
 simp
end
end Go.Lull

namespace Go.Lull
set_option linter.unusedVariables false

/-! ### a b within w, and a within w -/
section
variable (w : Int)
/-- The a's behind the last b. -/
def sinceB : List Ev → List Ev
 | [] => []
 | e :: r => if isK 97 e = true ∧ (∀ x ∈ r, isK 98 x = false) then e :: sinceB r else sinceB r
theorem sinceB_snoc (x : Ev) : ∀ P : List Ev, sinceB (P ++ [x]) = if isK 98 x = true then [] else sinceB P ++ (if isK 97 x = true then [x] else [])
 | [] => by
  by_cases ha : isK 97 x = true
  ·simp [sinceB, ha, isK_ab ha]
  ·simp [sinceB, ha]
 | e :: r => by
  have ih := sinceB_snoc x r
  rw [List.cons_append]
  unfold sinceB
  by_cases hb : isK 98 x = true
  ·rw [if_pos hb] at ih ⊢
   rw [if_neg (fun h => by have := h.2 x (by simp); rw [hb] at this; cases this), ih]
  ·rw [if_neg hb] at ih ⊢
   have hb' : isK 98 x = false := by simpa using hb
   by_cases hc : isK 97 e = true ∧ (∀ y ∈ r, isK 98 y = false)
   ·rw [if_pos hc, if_pos ⟨hc.1, fun y hy => by
     rcases List.mem_append.1 hy with hy | hy
     ·exact hc.2 y hy
     ·simp at hy; subst hy; exact hb'⟩, ih]
    rfl
   ·rw [if_neg hc, if_neg (fun h => hc ⟨h.1, fun y hy => h.2 y (List.mem_append_left _ hy)⟩), ih]
theorem sinceB_sub : ∀ P : List Ev, (sinceB P).Sublist P
 | [] => List.Sublist.refl _
 | x :: r => by
  unfold sinceB
  split
  ·exact (sinceB_sub r).cons_cons x
  ·exact (sinceB_sub r).cons x
def inner (x : Ev) (P : List Ev) : List Ev := if isK 98 x = true then (sinceB P).filter (fun e => decide (x.2.1 ≤ e.2.1 + w)) else []
def mtF (n : Nat) (x e : Ev) : Mt := ⟨n, x.2.1, [e, x]⟩
/-- All pairs, in the order of the b's; the events ahead come first. -/
def wantF (n : Nat) : List Ev → List Ev → List Mt
 | P, [] => []
 | P, x :: r => (inner w x P).map (mtF n x) ++ wantF n (P ++ [x]) r
theorem wantF_snoc (n : Nat) (x : Ev) : ∀ (r P : List Ev), wantF w n P (r ++ [x]) = wantF w n P r ++ (inner w x (P ++ r)).map (mtF n x)
 | [], P => by simp [wantF]
 | y :: r, P => by
  rw [List.cons_append]
  simp only [wantF]
  rw [wantF_snoc n x r (P ++ [y]), List.append_assoc, List.append_assoc]
  simp
def stFol : List Stp := [mustS 97, mustS 98]
theorem showB_fol (tk : List Ev) (x : Ev) : showB stFol 1 tk x = if isK 98 x = true then .done (tk ++ [x]) x.2.1 else .stands 1 tk := by
 have h : stFol.getD 1 noStep = mustS 98 := rfl
 unfold showB
 rw [h]
 have hf := fits_must 98 x
 have h1 : (mustS 98).1 = false := rfl
 have h2 : stFol.length = 2 := rfl
 simp only [h1, h2, Bool.false_eq_true, false_and, if_false, h, hf]
 by_cases hb : isK 98 x = true
 ·rw [if_pos hb, if_pos hb]; rfl
 ·rw [if_neg hb, if_neg hb]; rfl
theorem keep_fol (x : Ev) (live : List Ev) : (live.map (rnS w)).filterMap (keep1 stFol x) = if isK 98 x = true then [] else live.map (rnS w) := by
 by_cases hb : isK 98 x = true
 ·rw [if_pos hb]
  apply List.filterMap_eq_nil_iff.2
  intro r hr
  obtain ⟨e, _, rfl⟩ := List.mem_map.1 hr
  simp [keep1, rnS, showB_fol, hb]
 ·rw [if_neg hb]
  conv => rhs; rw [← List.filterMap_some (l := live.map (rnS w))]
  rw [List.filterMap_map, List.filterMap_map]
  congr 1
  funext e
  simp [keep1, rnS, showB_fol, hb]
theorem told_fol (n : Nat) (x : Ev) (live : List Ev) : (live.map (rnS w)).filterMap (told1 n stFol x) = if isK 98 x = true then live.map (mtF n x) else [] := by
 by_cases hb : isK 98 x = true
 ·rw [if_pos hb]
  rw [List.filterMap_map, ← List.filterMap_eq_map]
  congr 1
  funext e
  simp [told1, rnS, showB_fol, hb, mtF]
 ·rw [if_neg hb]
  apply List.filterMap_eq_nil_iff.2
  intro r hr
  obtain ⟨e, _, rfl⟩ := List.mem_map.1 hr
  simp [told1, rnS, showB_fol, hb]
structure FO (l : List Ev) (n : Nat) (s : List Ev × List Qy) : Prop where
 ex : ∃ q P ended live, s.2 = [q] ∧ P ++ s.1 = l ∧ sinceB P = ended ++ live ∧ q = ⟨n, stFol, w, live.map (rnS w), wantF w n [] P⟩ ∧ (∀ t ∈ ended, ∀ b ∈ s.1, t.2.1 + w < b.2.1)
theorem FO.step {l : List Ev} {n : Nat} (hl : TS l) {s : List Ev × List Qy} {d : Deed} (h : FO w l n s) (hd : firstD s.1 s.2 = some d) : FO w l n (doD s d) := by
 obtain ⟨q, P, ended, live, h1, h2, h3, h4, h6⟩ := h.ex
 obtain ⟨Bf, qs⟩ := s
 simp only at h1 h2 h6
 subst h1
 have hlive : TS live := by
  have hs : live.Sublist l := by
   refine List.Sublist.trans ?_ (List.Sublist.trans (sinceB_sub P) (by rw [← h2]; exact List.sublist_append_left _ _))
   rw [h3]; exact List.sublist_append_right _ _
  exact List.Pairwise.sublist hs hl
 cases d with
 | rel x =>
  obtain ⟨r, hr⟩ := firstD_rel hd
  simp only at hr
  subst hr
  have hge := first_rel hd
  have hlx : ∀ e ∈ live, x.2.1 ≤ e.2.1 + w := by
   intro e he
   have := head_ge (c := x.2.1 - w) hlive (fun e r hlr => by
    have := hge (rnS w e) (r.map (rnS w)) (by rw [h4, hlr]; rfl)
    have h8 : (rnS w e).dl = e.2.1 + w := rfl
    omega) e he
   omega
  have hin : inner w x P = if isK 98 x = true then live else [] := by
   unfold inner
   by_cases hb : isK 98 x = true
   ·rw [if_pos hb, if_pos hb, h3, List.filter_append]
    rw [List.filter_eq_nil_iff.2 (show ∀ e ∈ ended, ¬ decide (x.2.1 ≤ e.2.1 + w) = true by intro e he; have := h6 e he x List.mem_cons_self; simp; omega)]
    rw [List.filter_eq_self.2 (show ∀ e ∈ live, decide (x.2.1 ≤ e.2.1 + w) = true by intro e he; simpa using hlx e he)]
    rfl
   ·rw [if_neg hb, if_neg hb]
  refine ⟨showQ q x, P ++ [x], (if isK 98 x = true then [] else ended), (if isK 98 x = true then [] else live) ++ (if isK 97 x = true then [x] else []), rfl, ?_, ?_, ?_, ?_⟩
  ·rw [← h2]; simp [doD]
  ·rw [sinceB_snoc, h3]
   by_cases hb : isK 98 x = true
   ·have ha : ¬ isK 97 x = true := fun ha => by rw [isK_ab ha] at hb; cases hb
    simp [hb, ha]
   ·simp [hb]
  ·subst h4
   rw [wantF_snoc, List.nil_append, hin]
   unfold showQ shownQ
   simp only [keep_fol, told_fol]
   unfold beginQ
   have : List.getD stFol 0 noStep = mustS 97 := rfl
   simp only [this, fits_must]
   by_cases ha : isK 97 x = true
   ·rw [if_pos ha, if_pos ha, isK_ab ha]
    simp [stFol, rnS]
   ·rw [if_neg ha, if_neg ha, List.append_nil]
    by_cases hb : isK 98 x = true
    ·simp [hb]
    ·simp [hb]
  ·intro t ht b hb
   split at ht
   ·cases ht
   ·exact h6 t ht b (List.mem_cons_of_mem _ hb)
 | fin t =>
  obtain ⟨⟨x, rl, hx, hxt⟩, hB⟩ := first_fin hd
  have hBf : TS Bf := List.Pairwise.sublist (by rw [← h2]; exact List.sublist_append_right _ _) hl
  have hB' : ∀ b ∈ Bf, t < b.2.1 := by
   intro b hb
   have := head_ge (c := t + 1) hBf (fun e r he => by have := hB e (by rw [he]; rfl); omega) b hb
   omega
  obtain ⟨k1, k2⟩ := takeWhile_map_sil w t live
  refine ⟨endQ q t, P, ended ++ live.takeWhile (fun e => e.2.1 + w == t), live.dropWhile (fun e => e.2.1 + w == t), rfl, h2, ?_, ?_, ?_⟩
  ·rw [h3, List.append_assoc, List.takeWhile_append_dropWhile]
  ·subst h4
   unfold endQ
   simp only [k1, k2]
   congr 1
   rw [List.filter_eq_nil_iff.2 (fun r hr => by
    obtain ⟨e, _, rfl⟩ := List.mem_map.1 hr
    simp [lastNot, rnS, stFol, mustS])]
   simp
  ·intro e he b hb
   rcases List.mem_append.1 he with he | he
   ·exact h6 e he b hb
   ·have := mem_tw he
    have hh : e.2.1 + w = t := by simpa using this
    have := hB' b hb
    omega
/-- What a query a b within w is told in the end. -/
theorem follows_pass {l : List Ev} (n : Nat) (M : Int) (hl : TS l) (hM : ∀ e ∈ l, e.2.1 < M) : ∃ rs, (pass M (l, [⟨n, stFol, w, [], []⟩])).2 = [⟨n, stFol, w, rs, wantF w n [] l⟩] := by
 have hI := pass_ind (P := FO w l n) (wm := M) (fun s d h hd => h.step w hl hd) _ (l, [⟨n, stFol, w, [], []⟩]) rfl ⟨_, [], [], [], rfl, rfl, rfl, rfl, by simp⟩
 obtain ⟨q, P, ended, live, h1, h2, h3, h4, h6⟩ := hI.ex
 have hB : (pass M (l, [⟨n, stFol, w, [], []⟩])).1 = [] := by
  rw [pass_buf]
  have : ∀ l : List Ev, (∀ e ∈ l, e.2.1 < M) → l.dropWhile (fun e => decide (e.2.1 < M)) = [] := by
   intro l
   induction l with
   | nil => intro _; rfl
   | cons a r ih => intro h; rw [List.dropWhile_cons_of_pos (by simpa using h a List.mem_cons_self)]; exact ih (fun e he => h e (List.mem_cons_of_mem _ he))
  exact this l hM
 rw [hB, List.append_nil] at h2
 subst h2
 exact ⟨_, by rw [h1, h4]⟩
def stAl : List Stp := [mustS 97]
structure FA (l : List Ev) (n : Nat) (s : List Ev × List Qy) : Prop where
 ex : ∃ P, P ++ s.1 = l ∧ s.2 = [⟨n, stAl, w, [], (P.filter (isK 97)).map (fun e => ⟨n, e.2.1, [e]⟩)⟩]
theorem FA.step {l : List Ev} {n : Nat} {s : List Ev × List Qy} {d : Deed} (h : FA w l n s) (hd : firstD s.1 s.2 = some d) : FA w l n (doD s d) := by
 obtain ⟨P, h2, h1⟩ := h.ex
 obtain ⟨Bf, qs⟩ := s
 simp only at h1 h2
 subst h1
 cases d with
 | rel x =>
  obtain ⟨r, hr⟩ := firstD_rel hd
  simp only at hr
  subst hr
  refine ⟨P ++ [x], by rw [← h2]; simp [doD], ?_⟩
  show [showQ _ x] = _
  unfold showQ shownQ beginQ
  have : List.getD stAl 0 noStep = mustS 97 := rfl
  simp only [this, fits_must, List.filterMap_nil, List.append_nil]
  by_cases ha : isK 97 x = true
  ·rw [if_pos ha, if_pos (by rfl)]
   simp [ha]
  ·rw [if_neg ha]
   simp [ha]
 | fin t =>
  refine ⟨P, h2, ?_⟩
  show [endQ _ t] = _
  rw [endQ_same (by intro r l h; cases h)]
theorem alone_pass {l : List Ev} (n : Nat) (M : Int) (hM : ∀ e ∈ l, e.2.1 < M) : (pass M (l, [⟨n, stAl, w, [], []⟩])).2 = [⟨n, stAl, w, [], (l.filter (isK 97)).map (fun e => ⟨n, e.2.1, [e]⟩)⟩] := by
 have hI := pass_ind (P := FA w l n) (wm := M) (fun s d h hd => h.step w hd) _ (l, [⟨n, stAl, w, [], []⟩]) rfl ⟨[], rfl, rfl⟩
 obtain ⟨P, h2, h1⟩ := hI.ex
 have hB : (pass M (l, [⟨n, stAl, w, [], []⟩])).1 = [] := by
  rw [pass_buf]
  have : ∀ l : List Ev, (∀ e ∈ l, e.2.1 < M) → l.dropWhile (fun e => decide (e.2.1 < M)) = [] := by
   intro l
   induction l with
   | nil => intro _; rfl
   | cons a r ih => intro h; rw [List.dropWhile_cons_of_pos (by simpa using h a List.mem_cons_self)]; exact ih (fun e he => h e (List.mem_cons_of_mem _ he))
  exact this l hM
 rw [hB, List.append_nil] at h2
 subst h2
 exact h1
end

/-! ### All that is drained of one query -/
theorem drainE_of : ∀ (n : Nat) (s : En), NR s.qs → FQ s.qs → totF s.qs ≤ n → ∀ q ∈ s.qs, (drainE n s).1.filter (fun m => m.q == q.num) = q.found
 | 0, s, hn, hf, h, q, hq => by
  have := totF_mem hq
  have : q.found = [] := List.eq_nil_of_length_eq_zero (by omega)
  rw [this]; rfl
 | n + 1, s, hn, hf, h, q, hq => by
  cases hs : serveE s with
  | none =>
   rw [drainE_none hs, serveE_none hs q hq]; rfl
  | some x =>
   obtain ⟨m, s'⟩ := x
   rw [drainE_some hs]
   obtain ⟨h1, h2, h3⟩ := serveE_tot hs hn hf
   obtain ⟨q0, hq0, k1, k2, k3, _⟩ := serveE_to hs hf
   have ih := drainE_of n s' h2 h3 (by omega)
   have hmem : (if q.num = m.q then { q with found := q.found.tail } else q) ∈ s'.qs := by
    rw [k3]; exact List.mem_map.2 ⟨q, hq, rfl⟩
   have ih' := ih _ hmem
   have e2 : (if q.num = m.q then { q with found := q.found.tail } else q).num = q.num := by split <;> rfl
   rw [e2] at ih'
   by_cases e : q.num = m.q
   ·have hqq : q = q0 := by
     have hw := wq_mem hn hq
     -- numbers rise: one query a number
     have : ∀ (l : List Qy), NR l → ∀ a ∈ l, ∀ b ∈ l, a.num = b.num → a = b := by
      intro l
      induction l with
      | nil => intro _ a ha; cases ha
      | cons c r ih2 =>
       intro hl a ha b hb hab
       have hc := List.pairwise_cons.1 hl
       rcases List.mem_cons.1 ha with ha | ha
       ·rcases List.mem_cons.1 hb with hb | hb
        ·rw [ha, hb]
        ·have := hc.1 b hb; rw [ha] at hab; omega
       ·rcases List.mem_cons.1 hb with hb | hb
        ·have := hc.1 a ha; rw [hb] at hab; omega
        ·exact ih2 hc.2 a ha b hb hab
     exact this s.qs hn q hq q0 hq0 (by omega)
    subst hqq
    rw [if_pos e] at ih'
    rw [List.filter_cons_of_pos (by simp [e]), ih']
    cases hfo : q.found with
    | nil => rw [hfo] at k2; cases k2
    | cons a b => rw [hfo] at k2; cases k2; rfl
   ·rw [if_neg e] at ih'
    rw [List.filter_cons_of_neg (by simp; omega), ih']
end Go.Lull

namespace Go.Lull
set_option linter.unusedVariables false

/-! ### Any pattern: its runs, and what they tell -/
/-- No two steps that must not come in a row, nor the first. -/
structure VP (st : List Stp) : Prop where
 ne : st ≠ []
 first : (st.getD 0 noStep).1 = false
 row : ∀ k, k + 1 < st.length → (st.getD k noStep).1 = true → (st.getD (k + 1) noStep).1 = false
/-- Must the last step not come? -/
def lateB (st : List Stp) : Bool := (st.getD (st.length - 1) noStep).1
section
variable (st : List Stp) (w : Int)
/-- The run that begins at e, behind some events more. -/
def run1 (e : Ev) (r : List Ev) : List Rn :=
 if fitsB (st.getD 0 noStep) e = true ∧ st.length ≠ 1 then (match goB st (e.2.1 + w) 1 [e] r with | .stands k t => [⟨e.2.1 + w, t, k⟩] | _ => []) else []
def runsOf : List Ev → List Rn
 | [] => []
 | e :: r => run1 st w e r ++ runsOf r
def stepR (x : Ev) (r : Rn) : Option Rn := if r.dl < x.2.1 then some r else keep1 st x r
def newR (x : Ev) : List Rn := if fitsB (st.getD 0 noStep) x = true ∧ st.length ≠ 1 then [⟨x.2.1 + w, [x], 1⟩] else []
theorem goB_snoc (fin : Int) (x : Ev) : ∀ (r : List Ev) (k : Nat) (t : List Ev), TS (r ++ [x]) → goB st fin k t (r ++ [x]) = match goB st fin k t r with | .stands k' t' => (if fin < x.2.1 then .stands k' t' else showB st k' t' x) | .dead => .dead | .done t c => .done t c
 | [], k, t, h => by
  simp only [List.nil_append, goB]
  split
  ·rfl
  ·cases showB st k t x <;> rfl
 | e :: r, k, t, h => by
  have hc := List.pairwise_cons.1 h
  rw [List.cons_append]
  simp only [goB]
  by_cases hf : fin < e.2.1
  ·rw [if_pos hf, if_pos hf]
   have := hc.1 x (by simp)
   simp only
   rw [if_pos (by omega)]
  ·rw [if_neg hf, if_neg hf]
   cases hs : showB st k t e with
   | dead => rfl
   | done a b => rfl
   | stands k' t' => exact goB_snoc fin x r k' t' hc.2
theorem run1_snoc (e x : Ev) (r : List Ev) (h : TS (r ++ [x])) : run1 st w e (r ++ [x]) = (run1 st w e r).filterMap (stepR st x) := by
 unfold run1
 by_cases hc : fitsB (st.getD 0 noStep) e = true ∧ st.length ≠ 1
 ·rw [if_pos hc, if_pos hc, goB_snoc st _ x r 1 [e] h]
  cases goB st (e.2.1 + w) 1 [e] r with
  | dead => rfl
  | done a b => rfl
  | stands k t =>
   simp only
   by_cases hd : e.2.1 + w < x.2.1
   ·rw [if_pos hd]; simp [stepR, hd]
   ·rw [if_neg hd]
    simp only [List.filterMap_cons, List.filterMap_nil, stepR, if_neg hd, keep1]
    cases showB st k t x <;> rfl
 ·rw [if_neg hc, if_neg hc]; rfl
theorem runsOf_snoc (x : Ev) : ∀ P : List Ev, TS (P ++ [x]) → runsOf st w (P ++ [x]) = (runsOf st w P).filterMap (stepR st x) ++ newR st w x
 | [], h => by
  show run1 st w x [] ++ [] = [] ++ newR st w x
  unfold run1 newR
  simp [goB]
 | e :: r, h => by
  have hc := List.pairwise_cons.1 h
  rw [List.cons_append]
  show run1 st w e (r ++ [x]) ++ runsOf st w (r ++ [x]) = (run1 st w e r ++ runsOf st w r).filterMap (stepR st x) ++ newR st w x
  rw [run1_snoc st w e x r hc.2, runsOf_snoc x r hc.2, List.filterMap_append, List.append_assoc]
/-- What is told at an event, behind some others. -/
def toldR (n : Nat) (x : Ev) (r : Rn) : Option Mt := if r.dl < x.2.1 then none else told1 n st x r
def toldAt (n : Nat) (x : Ev) (P : List Ev) : List Mt := (runsOf st w P).filterMap (toldR st n x) ++ (if fitsB (st.getD 0 noStep) x = true ∧ st.length = 1 then [⟨n, x.2.1, [x]⟩] else [])
def foundE (n : Nat) : List Ev → List Ev → List Mt
 | P, [] => []
 | P, x :: r => toldAt st w n x P ++ foundE n (P ++ [x]) r
theorem foundE_snoc (n : Nat) (x : Ev) : ∀ (r P : List Ev), foundE st w n P (r ++ [x]) = foundE st w n P r ++ toldAt st w n x (P ++ r)
 | [], P => by simp [foundE]
 | y :: r, P => by
  rw [List.cons_append]
  simp only [foundE]
  rw [foundE_snoc n x r (P ++ [y]), List.append_assoc, List.append_assoc]
  simp
/-- What is told when deadlines are over. -/
def overL (n : Nat) (R : List Rn) : List Mt := (R.filter (lastNot st)).map (fun r => ⟨n, r.dl, r.tk⟩)
theorem overL_append (n : Nat) (A B : List Rn) : overL st n (A ++ B) = overL st n A ++ overL st n B := by simp [overL]

theorem showB_cases (k : Nat) (t : List Ev) (x : Ev) : showB st k t x = .dead ∨ showB st k t x = .stands k t ∨ ∃ m, (if (st.getD k noStep).1 = true then k + 1 else k) = m ∧ m ≠ st.length ∧ fitsB (st.getD m noStep) x = true ∧ showB st k t x = (if m + 1 = st.length then .done (t ++ [x]) x.2.1 else .stands (m + 1) (t ++ [x])) := by
 unfold showB
 by_cases h1 : (st.getD k noStep).1 = true ∧ fitsB (st.getD k noStep) x = true
 ·rw [if_pos h1]; exact Or.inl rfl
 ·rw [if_neg h1]
  obtain ⟨m, hm⟩ : ∃ m, (if (st.getD k noStep).1 = true then k + 1 else k) = m := ⟨_, rfl⟩
  simp only [hm]
  by_cases h2 : m = st.length
  ·rw [if_pos h2]; exact Or.inr (Or.inl rfl)
  ·rw [if_neg h2]
   by_cases h3 : fitsB (st.getD m noStep) x = true
   ·rw [if_pos h3]; exact Or.inr (Or.inr ⟨m, rfl, h2, h3, rfl⟩)
   ·rw [if_neg h3]; exact Or.inr (Or.inl rfl)
theorem showB_lt {k : Nat} {t : List Ev} {x : Ev} {k' : Nat} {t' : List Ev} (hk : k < st.length) (h : showB st k t x = .stands k' t') : k' < st.length := by
 rcases showB_cases st k t x with h1 | h1 | ⟨m, hm, h2, h3, h4⟩
 ·rw [h1] at h; cases h
 ·rw [h1] at h; cases h; exact hk
 ·rw [h4] at h
  by_cases h5 : m + 1 = st.length
  ·rw [if_pos h5] at h; cases h
  ·rw [if_neg h5] at h; cases h
   have : m ≤ st.length := by rw [← hm]; split <;> omega
   omega
theorem goB_lt (fin : Int) : ∀ (r : List Ev) (k : Nat) (t : List Ev) (k' : Nat) (t' : List Ev), k < st.length → goB st fin k t r = .stands k' t' → k' < st.length
 | [], k, t, k', t', hk, h => by simp only [goB] at h; cases h; exact hk
 | e :: r, k, t, k', t', hk, h => by
  simp only [goB] at h
  split at h
  ·cases h; exact hk
  ·cases hs : showB st k t e with
   | dead => rw [hs] at h; cases h
   | done a b => rw [hs] at h; cases h
   | stands k1 t1 =>
    rw [hs] at h
    exact goB_lt fin r k1 t1 k' t' (showB_lt st hk hs) h
theorem run1_mem {e : Ev} {r : List Ev} {x : Rn} (hne : st ≠ []) (h : x ∈ run1 st w e r) : x.k < st.length ∧ x.dl = e.2.1 + w := by
 unfold run1 at h
 split at h
 ·rename_i hc
  have hl : 0 < st.length := List.length_pos_iff.2 hne
  cases hg : goB st (e.2.1 + w) 1 [e] r with
  | dead => rw [hg] at h; cases h
  | done a b => rw [hg] at h; cases h
  | stands k t =>
   rw [hg] at h
   simp at h
   subst h
   exact ⟨goB_lt st _ r 1 [e] k t (by omega) hg, rfl⟩
 ·cases h
theorem runsOf_mem (hne : st ≠ []) : ∀ {P : List Ev} {x : Rn}, x ∈ runsOf st w P → x.k < st.length ∧ ∃ e ∈ P, x.dl = e.2.1 + w
 | [], x, h => by cases h
 | e :: r, x, h => by
  rcases List.mem_append.1 h with h | h
  ·obtain ⟨h1, h2⟩ := run1_mem st w hne h
   exact ⟨h1, e, List.mem_cons_self, h2⟩
  ·obtain ⟨h1, e', he, h2⟩ := runsOf_mem hne h
   exact ⟨h1, e', List.mem_cons_of_mem _ he, h2⟩
/-- Their deadlines rise. -/
theorem runsOf_sorted (hne : st ≠ []) : ∀ {P : List Ev}, TS P → (runsOf st w P).Pairwise (fun a b => a.dl ≤ b.dl)
 | [], h => List.Pairwise.nil
 | e :: r, h => by
  have hc := List.pairwise_cons.1 h
  refine List.pairwise_append.2 ⟨?_, runsOf_sorted hne hc.2, ?_⟩
  ·have : ∀ a b : Rn, a ∈ run1 st w e r → b ∈ run1 st w e r → a.dl ≤ b.dl := fun a b ha hb => by rw [(run1_mem st w hne ha).2, (run1_mem st w hne hb).2]; exact Int.le_refl _
   exact List.Pairwise.imp_of_mem (fun ha hb _ => this _ _ ha hb) (List.pairwise_of_forall (fun _ _ => trivial) : (run1 st w e r).Pairwise (fun _ _ => True))
  ·intro a ha b hb
   rw [(run1_mem st w hne ha).2]
   obtain ⟨_, e', he, h2⟩ := runsOf_mem st w hne hb
   rw [h2]
   have := hc.1 e' he
   omega

/-- A pattern whose last step must not come tells nothing at an event. -/
theorem late_told (hv : VP st) (hl : lateB st = true) (n : Nat) (x : Ev) {r : Rn} (hk : r.k < st.length) : told1 n st x r = none := by
 unfold told1
 cases hs : showB st r.k r.tk x with
 | dead => rfl
 | stands a b => rfl
 | done a b =>
  exfalso
  rcases showB_cases st r.k r.tk x with h1 | h1 | ⟨m, hm, h2, h3, h4⟩
  ·rw [h1] at hs; cases hs
  ·rw [h1] at hs; cases hs
  ·rw [h4] at hs
   by_cases h5 : m + 1 = st.length
   ·unfold lateB at hl
    rw [← h5, Nat.add_sub_cancel] at hl
    by_cases hN : (st.getD r.k noStep).1 = true
    ·rw [if_pos hN] at hm
     subst hm
     have := hv.row r.k (by omega) hN
     rw [this] at hl; cases hl
    ·rw [if_neg hN] at hm
     subst hm
     exact hN hl
   ·rw [if_neg h5] at hs; cases hs
/-- Any other is silent at its deadlines. -/
theorem early_over (hl : lateB st = false) {r : Rn} (hk : r.k < st.length) : lastNot st r = false := by
 unfold lastNot
 rw [List.all_eq_false]
 refine ⟨st.getD (st.length - 1) noStep, ?_, by unfold lateB at hl; rw [hl]; simp⟩
 have h1 : st.length - 1 < st.length := by omega
 have : st.getD (st.length - 1) noStep = st[st.length - 1] := by simp [List.getD, h1]
 rw [this, List.mem_drop_iff_getElem]
 exact ⟨st.length - 1 - r.k, by omega, by congr 1; omega⟩
theorem late_over (hv : VP st) (hl : lateB st = true) {r : Rn} (hk : r.k < st.length) : lastNot st r = (decide (r.k + 1 = st.length) && (st.getD r.k noStep).1) := by
 by_cases h1 : r.k + 1 = st.length
 ·have h2 : st.drop r.k = [st.getD r.k noStep] := by
   rw [List.drop_eq_getElem_cons hk, List.drop_eq_nil_of_le (by omega)]
   simp [List.getD, hk]
  unfold lastNot
  rw [h2]
  simp [h1]
 ·have h2 : r.k + 1 < st.length := by omega
  unfold lastNot
  rw [List.drop_eq_getElem_cons hk, List.drop_eq_getElem_cons h2]
  have e1 : st.getD r.k noStep = st[r.k] := by simp [List.getD, hk]
  have e2 : st.getD (r.k + 1) noStep = st[r.k + 1] := by simp [List.getD, h2]
  have := hv.row r.k h2
  rw [e1, e2] at this
  simp only [List.all_cons, h1, decide_false, Bool.false_and]
  cases h3 : st[r.k].1 with
  | false => rfl
  | true => rw [this h3]; rfl
end
end Go.Lull
