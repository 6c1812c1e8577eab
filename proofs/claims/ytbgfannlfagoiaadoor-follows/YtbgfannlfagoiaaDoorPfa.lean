import Derived.Test.YtbgfannlfagoiaaDoorPus
import Derived.Test.YtbgfannlfagoiaaDoorPure
namespace Go.Lull
set_option linter.unusedVariables false

/-- Where an element of a filtered list stands. -/
theorem filter_at {α : Type} (p : α → Bool) (D : List α) (i : Nat) (h : i < D.length) (hp : p D[i] = true) : (D.filter p)[((D.take i).filter p).length]? = some D[i] ∧ ((D.take (i + 1)).filter p).length = ((D.take i).filter p).length + 1 := by
  have e : D = D.take i ++ D[i] :: D.drop (i + 1) := by rw [← List.drop_eq_getElem_cons h, List.take_append_drop]
  constructor
  · have e2 : D.filter p = (D.take i).filter p ++ D[i] :: (D.drop (i + 1)).filter p := by
      conv => lhs; rw [e]
      rw [List.filter_append, List.filter_cons_of_pos hp]
    rw [e2, List.getElem?_append_right (Nat.le_refl _)]
    simp
  · rw [List.take_succ_eq_append_getElem h, List.filter_append, List.filter_cons_of_pos hp]
    simp
theorem filter_not (α : Type) (p : α → Bool) (D : List α) (i : Nat) (h : i < D.length) (hp : p D[i] = false) : ((D.take (i + 1)).filter p).length = ((D.take i).filter p).length := by
  rw [List.take_succ_eq_append_getElem h, List.filter_append, List.filter_cons_of_neg (by simp [hp])]
  simp
/-- No b is among these. -/
def noB (r : List Ev) : Bool := r.all (fun x => !(isK 98 x))
theorem noB_snoc (r : List Ev) (x : Ev) : noB (r ++ [x]) = (noB r && !isK 98 x) := by simp [noB]
theorem noB_iff (r : List Ev) : noB r = true ↔ ∀ x ∈ r, isK 98 x = false := by simp [noB]
theorem inner_cons (w : Int) (x e : Ev) (r : List Ev) : inner w x (e :: r) = if isK 97 e = true ∧ isK 98 x = true ∧ x.2.1 ≤ e.2.1 + w ∧ noB r = true then e :: inner w x r else inner w x r := by
  unfold inner
  by_cases hb : isK 98 x = true
  · rw [if_pos hb, if_pos hb]
    rw [show sinceB (e :: r) = if isK 97 e = true ∧ (∀ x ∈ r, isK 98 x = false) then e :: sinceB r else sinceB r from rfl]
    by_cases hc : isK 97 e = true ∧ (∀ x ∈ r, isK 98 x = false)
    · rw [if_pos hc]
      by_cases hw : x.2.1 ≤ e.2.1 + w
      · rw [if_pos ⟨hc.1, hb, hw, (noB_iff r).2 hc.2⟩, List.filter_cons_of_pos (by simpa using hw)]
      · rw [if_neg (fun h => hw h.2.2.1), List.filter_cons_of_neg (by simpa using hw)]
    · rw [if_neg hc, if_neg (fun h => hc ⟨h.1, (noB_iff r).1 h.2.2.2⟩)]
  · rw [if_neg hb, if_neg hb, if_neg (fun h => hb h.2.1)]
def aloM (e : Ev) : Mt := ⟨2, e.2.1, [e]⟩
/-- What the two queries of Follows hold in the end. -/
theorem fol_fin {s : En} {l : List Ev} {n : Nat} (hp : (s.buf, s.qs) = pass 2000000 (putAll [] l, [⟨1, stFol, (n : Int), [], []⟩, ⟨2, stAl, (n : Int), [], []⟩])) (hsb : SB l) (h60 : ∀ e ∈ l, e.2.1 ≤ 60) :
    ∃ rs, s.qs = [⟨1, stFol, (n : Int), rs, wantF n 1 [] l⟩, ⟨2, stAl, (n : Int), [], (l.filter (isK 97)).map aloM⟩] := by
  have hput : putAll [] l = l := by have := putAll_sorted l [] (by rw [List.nil_append]; exact hsb); simpa using this
  rw [hput] at hp
  have hq : s.qs = _ := (congrArg Prod.snd hp).trans (pass_alone _ _ _)
  have hM : ∀ e ∈ l, e.2.1 < 2000000 := fun e he => by have := h60 e he; omega
  obtain ⟨rs, h1⟩ := follows_pass (n : Int) 1 2000000 hsb.ts hM
  have h2 := alone_pass (n : Int) 2 2000000 hM
  rw [pass_one] at h1 h2
  refine ⟨rs, ?_⟩
  rw [hq, List.map_cons, List.map_cons, List.map_nil]
  rw [List.cons.inj h1 |>.1, List.cons.inj h2 |>.1]
  rfl
/-- What is drained of them. -/
theorem fol_drain {s : En} {l : List Ev} {n : Nat} {rs : List Rn} (hq : s.qs = [⟨1, stFol, (n : Int), rs, wantF n 1 [] l⟩, ⟨2, stAl, (n : Int), [], (l.filter (isK 97)).map aloM⟩]) (hn : NR s.qs) (hf : FQ s.qs) (ht : totF s.qs ≤ 1000) :
    ((drainE 1000 s).1.filter (fun m => m.q == 1) = wantF n 1 [] l) ∧ ((drainE 1000 s).1.filter (fun m => m.q == 2) = (l.filter (isK 97)).map aloM) ∧ (drainE 1000 s).1.length ≤ 1000 ∧ ∀ m ∈ (drainE 1000 s).1, m.q = 1 ∨ m.q = 2 := by
  have h1 := drainE_of 1000 s hn hf ht ⟨1, stFol, (n : Int), rs, wantF n 1 [] l⟩ (by rw [hq]; simp)
  have h2 := drainE_of 1000 s hn hf ht ⟨2, stAl, (n : Int), [], (l.filter (isK 97)).map aloM⟩ (by rw [hq]; simp)
  have h3 := (drainE_len 1000 s hn hf ht).1
  refine ⟨h1, h2, by omega, ?_⟩
  have h4 : totF s.qs = (wantF (n : Int) 1 [] l).length + ((l.filter (isK 97)).map aloM).length := by rw [hq]; simp [totF]
  -- the two parts are all of it
  have key : ∀ D : List Mt, (D.filter (fun m => m.q == 1)).length + (D.filter (fun m => m.q == 2)).length ≤ D.length ∧ ((D.filter (fun m => m.q == 1)).length + (D.filter (fun m => m.q == 2)).length = D.length → ∀ m ∈ D, m.q = 1 ∨ m.q = 2) := by
    intro D
    induction D with
    | nil => exact ⟨Nat.le_refl _, fun _ m hm => by cases hm⟩
    | cons a r ih =>
      obtain ⟨ih1, ih2⟩ := ih
      by_cases ha : a.q = 1
      · rw [List.filter_cons_of_pos (by simp [ha]), List.filter_cons_of_neg (by simp [ha])]
        refine ⟨by simp only [List.length_cons]; omega, fun h m hm => ?_⟩
        rcases List.mem_cons.1 hm with rfl | hm
        · exact Or.inl ha
        · exact ih2 (by simp only [List.length_cons] at h; omega) m hm
      · by_cases hb : a.q = 2
        · rw [List.filter_cons_of_neg (by simp [ha]), List.filter_cons_of_pos (by simp [hb])]
          refine ⟨by simp only [List.length_cons]; omega, fun h m hm => ?_⟩
          rcases List.mem_cons.1 hm with rfl | hm
          · exact Or.inr hb
          · exact ih2 (by simp only [List.length_cons] at h; omega) m hm
        · rw [List.filter_cons_of_neg (by simp [ha]), List.filter_cons_of_neg (by simp [hb])]
          refine ⟨by simp only [List.length_cons]; omega, fun h m hm => ?_⟩
          simp only [List.length_cons] at h; omega
  refine (key _).2 ?_
  have h1' : ((drainE 1000 s).1.filter (fun m => m.q == 1)).length = (wantF (n : Int) 1 [] l).length := congrArg List.length h1
  have h2' : ((drainE 1000 s).1.filter (fun m => m.q == 2)).length = ((l.filter (isK 97)).map aloM).length := congrArg List.length h2
  rw [h1', h2', h3, h4]
end Go.Lull
