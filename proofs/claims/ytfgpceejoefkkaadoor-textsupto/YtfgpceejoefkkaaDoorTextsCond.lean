import Derived.Test.YtfgpceejoefkkaaDoorTextsStep
namespace Go.Proofs.YtfgpceejoefkkaaDoor
open Go.RowKit Go.Lull
set_option linter.unusedVariables false

theorem isSign_any (c : UInt8) (w : World) :
    Calls Tryd.prog 58 #[.int .u8 c.toNat] w fun e w' => e = .returned (.bool (signB c)) ∧ w' = w := by
  have hc := toNat_lt c
  unfold signB
  by_cases h1 : c.toNat = 60
  · rw [h1]
    go_enter Tryd.func58, Tryd.ntmps58
    go_wp2
    go_ret
    exact ⟨rfl, rfl⟩
  by_cases h2 : c.toNat = 61
  · rw [h2]
    go_enter Tryd.func58, Tryd.ntmps58
    go_wp2
    go_ret
    exact ⟨rfl, rfl⟩
  by_cases h3 : c.toNat = 62
  · rw [h3]
    go_enter Tryd.func58, Tryd.ntmps58
    go_wp2
    go_ret
    exact ⟨rfl, rfl⟩
  have e1 : ((c.toNat : Int) == 60) = false := by simp; omega
  have e2 : ((c.toNat : Int) == 61) = false := by simp; omega
  have e3 : ((c.toNat : Int) == 62) = false := by simp; omega
  have e : decide (c.toNat = 60 ∨ c.toNat = 61 ∨ c.toNat = 62) = false := by simp; omega
  rw [e]
  clear h1 h2 h3 e
  go_enter Tryd.func58, Tryd.ntmps58
  go_wp2
  go_ret
  exact ⟨rfl, rfl⟩

/-- What readCondition, and stepOf, hand back. -/
def CondPost (o : Option (UInt8 × UInt8 × Int)) (w : World) (e : Ending) (w' : World) : Prop :=
  ∃ (k g v : Int) (b : Bool), e = .returned (.tuple #[.agg #[.int .u8 k, .int .u8 g, .int .i64 v], .bool b]) ∧ b = o.isSome ∧ (∀ x, o = some x → k = x.1.toNat ∧ g = x.2.1.toNat ∧ v = x.2.2) ∧ Below w.heap.size w w'

theorem ex_mid (s : ByteArray) (a b : Nat) : (s.extract a b).data.toList = (s.data.toList.drop a).take (b - a) := by
  rw [Lib.extract_data]
theorem ex_end (s : ByteArray) (a : Nat) : (s.extract a s.size).data.toList = s.data.toList.drop a := by
  rw [ex_mid, List.take_of_length_le (by simp)]
theorem condB_nil_of {s : ByteArray} (h : s.size = 0) : condB s.data.toList = none := by
  have e : s.data.toList = [] := List.length_eq_zero_iff.1 (by simpa using h)
  rw [e]; rfl
theorem head_of {s : ByteArray} (hp : 0 < s.size) : s.data.toList = s[0] :: s.data.toList.drop 1 := by simpa using drop_cons s 0 hp
theorem two_of {s : ByteArray} (hp : 1 < s.size) : s.data.toList = s[0] :: s[1] :: s.data.toList.drop 2 := by
  have h1 := drop_cons s 1 hp
  have h0 := head_of (s := s) (by omega)
  rw [h1] at h0; exact h0
theorem condB_noletter {k : UInt8} {r : List UInt8} (h : letterB k = false) : condB (k :: r) = none := by
  cases r <;> simp [condB, h]
theorem condB_one {k : UInt8} (h : letterB k = true) : condB [k] = some (k, 0, 0) := by simp [condB, h]
theorem condB_nosign {k g : UInt8} {r : List UInt8} (h : signB g = false) : condB (k :: g :: r) = none := by simp [condB, h]
theorem condB_sign {k g : UInt8} {r : List UInt8} (h : letterB k = true) (h2 : signB g = true) : condB (k :: g :: r) = withO (fun n => (k, g, n)) (valB r) := by simp [condB, h, h2]

set_option maxHeartbeats 1000000 in
theorem readCondition_any (s : ByteArray) (w : World) (hs : s.size ≤ 1000000) :
    Calls Tryd.prog 50 #[.string s] w (CondPost (condB s.data.toList) w) := by
  have ht := toList_data s
  by_cases h0 : s.size = 0
  · have e : s.toList = [] := by rw [ht]; exact List.length_eq_zero_iff.1 (by simpa using h0)
    rw [condB_nil_of h0]
    clear ht
    go_enter Tryd.func50, Tryd.ntmps50
    go_wp2
    refine bodyPost_ret (v := .tuple #[.agg #[.int .u8 0, .int .u8 0, .int .i64 0], .bool false]) (by simp [results, Tryd.results50, go_sem]) rfl ⟨0, 0, 0, false, rfl, rfl, (by intro x h; cases h), ?_⟩
    exact (Below.refl _ _).alloc (Nat.le_refl _) _
  have hp : 0 < s.size := by omega
  have e0 := head_of hp
  have hne : ¬ s.toList = [] := by rw [ht, e0]; simp
  have hne2 : s.toList.isEmpty = false := by rw [ht, e0]; rfl
  clear ht
  have hc := toNat_lt s[0]
  by_cases hlo : s[0].toNat < 97
  · rw [e0, condB_noletter (by simp [letterB]; omega)]
    clear e0
    go_enter Tryd.func50, Tryd.ntmps50
    go_wp2
    refine bodyPost_ret (v := .tuple #[.agg #[.int .u8 0, .int .u8 0, .int .i64 0], .bool false]) (by simp [results, Tryd.results50, go_sem]) rfl ⟨0, 0, 0, false, rfl, rfl, (by intro x h; cases h), ?_⟩
    exact (Below.refl _ _).alloc (Nat.le_refl _) _
  by_cases hhi : 122 < s[0].toNat
  · rw [e0, condB_noletter (by simp [letterB]; omega)]
    clear e0
    go_enter Tryd.func50, Tryd.ntmps50
    go_wp2
    refine bodyPost_ret (v := .tuple #[.agg #[.int .u8 0, .int .u8 0, .int .i64 0], .bool false]) (by simp [results, Tryd.results50, go_sem]) rfl ⟨0, 0, 0, false, rfl, rfl, (by intro x h; cases h), ?_⟩
    exact (Below.refl _ _).alloc (Nat.le_refl _) _
  have hL : letterB s[0] = true := by simp [letterB]; omega
  by_cases h1 : s.size ≤ 1
  · have e1 : s.data.toList = [s[0]] := by rw [List.drop_of_length_le (by simp; omega)] at e0; exact e0
    rw [e1, condB_one hL]
    clear e0 e1 hL
    go_enter Tryd.func50, Tryd.ntmps50
    go_wp2
    refine bodyPost_ret (v := .tuple #[.agg #[.int .u8 s[0].toNat, .int .u8 0, .int .i64 0], .bool true]) (by simp [results, Tryd.results50, go_sem]) rfl ⟨s[0].toNat, 0, 0, true, rfl, rfl, (by intro x h; cases h; exact ⟨rfl, rfl, rfl⟩), ?_⟩
    exact (Below.refl _ _).alloc (Nat.le_refl _) _
  have h1' : 1 < s.size := by omega
  have e1 := two_of h1'
  clear e0
  by_cases hg : signB s[1] = true
  · have hx : (s.extract 2 s.size).data.toList = s.data.toList.drop 2 := ex_end s 2
    have hval := fun w => readValue_any (s.extract 2 s.size) w (by rw [ByteArray.size_extract]; omega)
    rw [hx] at hval
    rw [e1, condB_sign hL hg]
    obtain ⟨o, ho⟩ : ∃ o, valB (s.data.toList.drop 2) = o := ⟨_, rfl⟩
    rw [ho] at hval
    rw [ho]
    have H : Hid (signB s[1] = true) := hg
    clear ho hx e1 hL hg
    go_enter Tryd.func50, Tryd.ntmps50
    go_wp2_with (first | (go_at_call 58; refine (isSign_any _ _).mono ?_; rw [H.out]; rintro e w' ⟨rfl, rfl⟩) | (go_at_call 59; refine (hval _).mono ?_; rintro e w' ⟨v, b, rfl, hb, hv, rfl⟩))
    go_region
    all_goals (try go_wp2)
    refine bodyPost_ret (v := .tuple #[.agg #[.int .u8 s[0].toNat, .int .u8 s[1].toNat, .int .i64 v], .bool o.isSome]) (by simp [results, Tryd.results50, go_sem]) rfl ⟨s[0].toNat, s[1].toNat, v, o.isSome, rfl, (withO_isSome _ o).symm, ?_, ?_⟩
    · intro x h
      cases o with
      | none => cases h
      | some n => cases h; exact ⟨rfl, rfl, hv n rfl⟩
    · exact ((Below.refl _ _).alloc (Nat.le_refl _) _).drew
  · rw [e1, condB_nosign (by simpa using hg)]
    have hg' : signB s[1] = false := by simpa using hg
    have H : Hid (signB s[1] = false) := hg'
    clear hg'
    clear e1 hL hg
    go_enter Tryd.func50, Tryd.ntmps50
    go_wp2_with (go_at_call 58; refine (isSign_any _ _).mono ?_; rw [H.out]; rintro e w' ⟨rfl, rfl⟩)
    refine bodyPost_ret (v := .tuple #[.agg #[.int .u8 0, .int .u8 0, .int .i64 0], .bool false]) (by simp [results, Tryd.results50, go_sem]) rfl ⟨0, 0, 0, false, rfl, rfl, (by intro x h; cases h), ?_⟩
    exact (Below.refl _ _).alloc (Nat.le_refl _) _
end Go.Proofs.YtfgpceejoefkkaaDoor
