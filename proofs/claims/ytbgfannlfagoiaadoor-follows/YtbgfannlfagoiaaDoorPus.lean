import Derived.Test.YtbgfannlfagoiaaDoorPure
import Derived.Test.YtbgfannlfagoiaaDoorPuf
namespace Go.Lull
set_option linter.unusedVariables false

section
variable (w M : Int)
/-- Does no b of the rest follow in time, as far as the watermark tells? -/
def calm (e : Ev) (r : List Ev) : Bool := r.all (fun x => !(isK 98 x && decide (x.2.1 ≤ e.2.1 + w) && decide (x.2.1 < M)))
/-- What Silent wants, of the events from some place on. -/
def wantS : List Ev → List Mt
  | [] => []
  | e :: r => if isK 97 e = true ∧ e.2.1 < M ∧ calm w M e r = true ∧ e.2.1 + w < M then mtS w 1 e :: wantS r else wantS r
def liveS : List Ev → Nat
  | [] => 0
  | e :: r => if isK 97 e = true ∧ e.2.1 < M ∧ calm w M e r = true ∧ ¬ e.2.1 + w < M then liveS r + 1 else liveS r
theorem calm_iff (e : Ev) (r : List Ev) : calm w M e r = true ↔ ∀ x ∈ r.filter (fun e => decide (e.2.1 < M)), isK 98 x = true → ¬ x.2.1 ≤ e.2.1 + w := by
  unfold calm
  rw [List.all_eq_true]
  constructor
  · intro h x hx hk hle
    obtain ⟨h1, h2⟩ := List.mem_filter.1 hx
    have := h x h1
    simp [hk, hle] at this
    simp at h2; omega
  · intro h x hx
    by_cases hM : x.2.1 < M
    · have := h x (List.mem_filter.2 ⟨hx, by simpa using hM⟩)
      cases hk : isK 98 x with
      | false => simp
      | true => have h2 := this hk; simp; omega
    · simp [hM]
theorem want_live_eq : ∀ l : List Ev, wantS w M l = ((quietL w (l.filter (fun e => decide (e.2.1 < M)))).filter (fun e => decide (e.2.1 + w < M))).map (mtS w 1) ∧ liveS w M l = ((quietL w (l.filter (fun e => decide (e.2.1 < M)))).filter (fun e => !decide (e.2.1 + w < M))).length
  | [] => ⟨rfl, rfl⟩
  | e :: r => by
    obtain ⟨h1, h2⟩ := want_live_eq r
    unfold wantS liveS
    by_cases hM : e.2.1 < M
    · rw [List.filter_cons_of_pos (by simpa using hM)]
      unfold quietL
      by_cases hq : isK 97 e = true ∧ ∀ x ∈ r.filter (fun e => decide (e.2.1 < M)), isK 98 x = true → ¬ x.2.1 ≤ e.2.1 + w
      · have hc := (calm_iff w M e r).2 hq.2
        rw [if_pos hq]
        by_cases hw : e.2.1 + w < M
        · rw [if_pos ⟨hq.1, hM, hc, hw⟩, if_neg (fun h => h.2.2.2 hw), List.filter_cons_of_pos (by simpa using hw), List.filter_cons_of_neg (by simpa using hw), List.map_cons, h1, h2]
          exact ⟨rfl, rfl⟩
        · rw [if_neg (fun h => hw h.2.2.2), if_pos ⟨hq.1, hM, hc, hw⟩, List.filter_cons_of_neg (by simpa using hw), List.filter_cons_of_pos (by simpa using hw), h1, h2]
          exact ⟨rfl, rfl⟩
      · have hn : ¬ (isK 97 e = true ∧ calm w M e r = true) := fun h => hq ⟨h.1, (calm_iff w M e r).1 h.2⟩
        rw [if_neg hq, if_neg (c := isK 97 e = true ∧ e.2.1 < M ∧ calm w M e r = true ∧ e.2.1 + w < M) (fun h => hn ⟨h.1, h.2.2.1⟩), if_neg (c := isK 97 e = true ∧ e.2.1 < M ∧ calm w M e r = true ∧ ¬ e.2.1 + w < M) (fun h => hn ⟨h.1, h.2.2.1⟩)]
        exact ⟨h1, h2⟩
    · rw [if_neg (fun h => hM h.2.1), if_neg (fun h => hM h.2.1), List.filter_cons_of_neg (by simpa using hM)]
      exact ⟨h1, h2⟩
end

theorem calm_snoc (w M : Int) (e x : Ev) (r : List Ev) : calm w M e (r ++ [x]) = (calm w M e r && !(isK 98 x && decide (x.2.1 ≤ e.2.1 + w) && decide (x.2.1 < M))) := by simp [calm]
theorem isK_nat (c : UInt8) (e : Ev) : isK c e = decide ((e.2.2.1.toNat : Int) = (c.toNat : Int)) := by
  unfold isK
  by_cases h : e.2.2.1 = c
  · rw [h]; simp
  · have h2 : ¬ (e.2.2.1.toNat : Int) = (c.toNat : Int) := fun he => h (UInt8.toNat_inj.1 (by omega))
    simp [h, h2]
theorem want_cons (w M : Int) (e : Ev) (r : List Ev) : wantS w M (e :: r) = if isK 97 e = true ∧ e.2.1 < M ∧ calm w M e r = true ∧ e.2.1 + w < M then mtS w 1 e :: wantS w M r else wantS w M r := rfl
theorem live_cons (w M : Int) (e : Ev) (r : List Ev) : liveS w M (e :: r) = if isK 97 e = true ∧ e.2.1 < M ∧ calm w M e r = true ∧ ¬ e.2.1 + w < M then liveS w M r + 1 else liveS w M r := rfl

/-! ### Its text -/
def silT (n : Nat) : List UInt8 := [97, 32, 33, 98, 32, 119, 105, 116, 104, 105, 110, 32] ++ numT n
def folT (n : Nat) : List UInt8 := [97, 32, 98, 32, 119, 105, 116, 104, 105, 110, 32] ++ numT n
def aloT (n : Nat) : List UInt8 := [97, 32, 119, 105, 116, 104, 105, 110, 32] ++ numT n
theorem silT_ok (n : Nat) (h : n < 100) : resB (silT n) = .inr (stSil, (n : Int), 2) := by
  have e1 : silT n = textC [9, 12] n := rfl
  have e2 : stSil = stpsC true [9, 12] := rfl
  rw [e1, e2]; exact text_ok _ n h (by simp) (by simp)
theorem folT_ok (n : Nat) (h : n < 100) : resB (folT n) = .inr (stFol, (n : Int), 2) := by
  have e1 : folT n = textC [9, 13] n := rfl
  have e2 : stFol = stpsC true [9, 13] := rfl
  rw [e1, e2]; exact text_ok _ n h (by simp) (by simp)
theorem aloT_ok (n : Nat) (h : n < 100) : resB (aloT n) = .inr (stAl, (n : Int), 2) := by
  have e1 : aloT n = textC [9] n := rfl
  have e2 : stAl = stpsC true [9] := rfl
  rw [e1, e2]; exact text_ok _ n h (by simp) (by simp)

/-- A beat that no source is past. -/
theorem beat_up {s : En} {t : Int} (h3 : s.marks.length = 3) (h0 : 0 ≤ t) (h2 : t ≤ 2000000) {k : Nat} (hk : k < 3) (hm : s.marks.getD k 0 ≤ t) : (beatE s k t).1 = 0 ∧ (beatE s k t).2.marks = s.marks.set k t := by
  unfold beatE
  rw [if_neg (by omega), if_neg (by show ¬ t < s.marks.getD k 0; omega)]
  exact ⟨rfl, rfl⟩
def mE (M : Nat) (s : En) : En := (beatE (beatE (beatE s 0 M).2 1 M).2 2 M).2
theorem sil_fin {s : En} {l : List Ev} {n M : Nat} {z : Nat × Nat × Nat} (hF : FS [⟨1, stSil, (n : Int), [], []⟩] z l l.length s) (hm : s.marks = [1, 1, 1]) (hM1 : 1 ≤ M) (hM2 : M ≤ 2000000) (hsb : SB l) :
    (beatE s 0 M).1 = 0 ∧ (beatE (beatE s 0 M).2 1 M).1 = 0 ∧ (beatE (beatE (beatE s 0 M).2 1 M).2 2 M).1 = 0 ∧ ∃ R, (mE M s).qs = [⟨1, stSil, (n : Int), R, wantS n M l⟩] ∧ R.length = liveS n M l ∧ SO l.length (mE M s) := by
  have hd : l.drop l.length = [] := List.drop_length
  have f1 := hF.beat 0 M (by rw [hd]; simp) (by omega) (by omega)
  have f2 := f1.beat 1 M (by rw [hd]; simp) (by omega) (by omega)
  have f3 := f2.beat 2 M (by rw [hd]; simp) (by omega) (by omega)
  have b1 := beat_up (s := s) (t := (M : Int)) (k := 0) hF.so.m3 (by omega) (by omega) (by omega) (by rw [hm]; show (1 : Int) ≤ M; omega)
  have m1 : (beatE s 0 M).2.marks = [(M : Int), 1, 1] := by have := b1.2; rw [hm] at this; exact this
  have b2 := beat_up (s := (beatE s 0 M).2) (t := (M : Int)) (k := 1) f1.so.m3 (by omega) (by omega) (by omega) (by rw [m1]; show (1 : Int) ≤ M; omega)
  have m2 : (beatE (beatE s 0 M).2 1 M).2.marks = [(M : Int), M, 1] := by have := b2.2; rw [m1] at this; exact this
  have b3 := beat_up (s := (beatE (beatE s 0 M).2 1 M).2) (t := (M : Int)) (k := 2) f2.so.m3 (by omega) (by omega) (by omega) (by rw [m2]; show (1 : Int) ≤ M; omega)
  have m3 : (mE M s).marks = [(M : Int), M, M] := by have := b3.2; rw [m2] at this; exact this
  have hp : putAll [] l = l := by have := putAll_sorted l [] (by rw [List.nil_append]; exact hsb); simpa using this
  have he := f3.eq
  rw [List.take_length, hp] at he
  have hmk : markB (mE M s).marks = M := by
    rw [m3]
    have h1 := markB_mem (l := [(M : Int), M, M]) (by simp)
    simpa using h1
  have he2 : ((mE M s).buf, (mE M s).qs) = pass (markB (mE M s).marks) (l, [⟨1, stSil, (n : Int), [], []⟩]) := he
  rw [hmk] at he2
  have hq := congrArg Prod.snd he2
  rw [silent_pass (n : Int) 1 (M : Int) hsb.ts] at hq
  obtain ⟨w1, w2⟩ := want_live_eq (n : Int) (M : Int) l
  refine ⟨b1.1, b2.1, b3.1, ((quietL (n : Int) (l.filter (fun e => decide (e.2.1 < (M : Int))))).filter (fun e => !decide (e.2.1 + (n : Int) < (M : Int)))).map (rnS (n : Int)), ?_, ?_, f3.so⟩
  · rw [w1]; exact hq
  · rw [w2, List.length_map]
/-- One query alone is drained whole. -/
theorem drainE_one {k : Nat} {s : En} {q : Qy} (hq : s.qs = [q]) (hn : NR s.qs) (hf : FQ s.qs) (ht : totF s.qs ≤ k) : (drainE k s).1 = q.found := by
  have h1 := drainE_of k s hn hf ht q (by rw [hq]; simp)
  have h2 := (drainE_len k s hn hf ht).1
  have h3 : totF s.qs = q.found.length := by rw [hq]; simp [totF]
  have h4 : ((drainE k s).1.filter (fun m => m.q == q.num)).length = (drainE k s).1.length := by rw [h1, h2, h3]
  rw [← h1]
  exact (List.filter_eq_self.2 (List.length_filter_eq_length_iff.1 h4)).symm
end Go.Lull
