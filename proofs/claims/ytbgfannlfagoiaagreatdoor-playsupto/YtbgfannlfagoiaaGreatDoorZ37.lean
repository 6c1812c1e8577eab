import Derived.Test.YtbgfannlfagoiaaGreatDoorZ36
namespace Go.Proofs.YtbgfannlfagoiaaGreatDoor
open Go.RowKit Go.Lull
set_option linter.unusedVariables false

set_option maxHeartbeats 400000 in
theorem st_low_0 (s : ByteArray) (w : World) (hs : s.size ≤ 100) (hx0 : 0 < s.size) (hE : ¬ s = ByteArray.empty) (hx : ((s[0].toNat : Int) == 33) = false) (hd : 0 < s.size) (hlo : s[0].toNat < 97) :
  Calls Tryz.prog 110 #[.string s] w (RefStep none w) := by
 go_enter Tryz.func110, Tryz.ntmps110
 go_wp2
 refine bodyPost_ret (v := .tuple #[.agg #[.bool false, .int .u8 0, .int .u8 0, .int .i64 0], .bool false]) (by simp [results, Tryz.results110, go_sem]) rfl ⟨false, 0, 0, 0, false, rfl, rfl, (by intro x h; cases h), ?_⟩
 exact ((Below.refl _ _).alloc (Nat.le_refl _) _).alloc (by simp) _

set_option maxHeartbeats 400000 in
theorem st_high_0 (s : ByteArray) (w : World) (hs : s.size ≤ 100) (hx0 : 0 < s.size) (hE : ¬ s = ByteArray.empty) (hx : ((s[0].toNat : Int) == 33) = false) (hd : 0 < s.size) (hlo : ¬ s[0].toNat < 97) (hhi : 122 < s[0].toNat) :
  Calls Tryz.prog 110 #[.string s] w (RefStep none w) := by
 go_enter Tryz.func110, Tryz.ntmps110
 go_wp2
 refine bodyPost_ret (v := .tuple #[.agg #[.bool false, .int .u8 0, .int .u8 0, .int .i64 0], .bool false]) (by simp [results, Tryz.results110, go_sem]) rfl ⟨false, 0, 0, 0, false, rfl, rfl, (by intro x h; cases h), ?_⟩
 exact ((Below.refl _ _).alloc (Nat.le_refl _) _).alloc (by simp) _

set_option maxHeartbeats 400000 in
theorem st_one_0 (s : ByteArray) (w : World) (hs : s.size ≤ 100) (hx0 : 0 < s.size) (hE : ¬ s = ByteArray.empty) (hx : ((s[0].toNat : Int) == 33) = false) (hd : 0 < s.size) (hlo : ¬ s[0].toNat < 97) (hhi : ¬ 122 < s[0].toNat) (hsz : ((s.size : Int) == 1) = true) (hsz2 : ((1 : Int) == s.size) = true) :
  Calls Tryz.prog 110 #[.string s] w (RefStep (some (false, s[0], 0, 0)) w) := by
 have hc := toNat_lt s[0]
 go_enter Tryz.func110, Tryz.ntmps110
 go_wp2
 refine bodyPost_ret (v := .tuple #[.agg #[.bool false, .int .u8 s[0].toNat, .int .u8 0, .int .i64 0], .bool true]) (by simp [results, Tryz.results110, go_sem]) rfl ⟨false, s[0].toNat, 0, 0, true, rfl, rfl, (by intro x h; cases h; exact ⟨rfl, rfl, rfl, rfl⟩), ?_⟩
 exact ((Below.refl _ _).alloc (Nat.le_refl _) _).alloc (by simp) _

set_option maxHeartbeats 400000 in
theorem st_nosign_0 (s : ByteArray) (w : World) (hs : s.size ≤ 100) (hx0 : 0 < s.size) (hE : ¬ s = ByteArray.empty) (hx : ((s[0].toNat : Int) == 33) = false) (hd : 0 < s.size) (hd1 : 1 < s.size) (hlo : ¬ s[0].toNat < 97) (hhi : ¬ 122 < s[0].toNat) (g60 : ((s[1].toNat : Int) != 60) = true) (p60 : ¬ (s[1].toNat : Int) = 60) (g61 : ((s[1].toNat : Int) != 61) = true) (p61 : ¬ (s[1].toNat : Int) = 61) (g62 : ((s[1].toNat : Int) != 62) = true) (p62 : ¬ (s[1].toNat : Int) = 62) :
  Calls Tryz.prog 110 #[.string s] w (RefStep none w) := by
 have hc := toNat_lt s[0]
 go_enter Tryz.func110, Tryz.ntmps110
 go_wp2
 refine bodyPost_ret (v := .tuple #[.agg #[.bool false, .int .u8 s[0].toNat, .int .u8 s[1].toNat, .int .i64 0], .bool false]) (by simp [results, Tryz.results110, go_sem]) rfl ⟨false, s[0].toNat, s[1].toNat, 0, false, rfl, rfl, (by intro x h; cases h), ?_⟩
 exact ((Below.refl _ _).alloc (Nat.le_refl _) _).alloc (by simp) _

set_option maxHeartbeats 400000 in
theorem st_neg60_0 (s : ByteArray) (w : World) (hs : s.size ≤ 100) (hx0 : 0 < s.size) (hE : ¬ s = ByteArray.empty) (hx : ((s[0].toNat : Int) == 33) = false) (hd : 0 < s.size) (hd1 : 1 < s.size) (hlo : ¬ s[0].toNat < 97) (hhi : ¬ 122 < s[0].toNat) (q : (s[1].toNat : Int) = 60) (o : Option Nat) (res : Option Stp) (hi1 : -1 ≤ numI o) (hi2 : numI o ≤ 1000) (hm1 : 2 < s.size) (hx45 : ((s[2].toNat : Int) == 45) = true) (hdig : ∀ w, Calls Tryz.prog 111 #[.string (s.extract 3 s.size), .int .i64 1000] w fun e w' => e = .returned (.int .i64 (numI o)) ∧ w' = w) (hfin1 : Hid (∀ b : Bool, b = decide (0 < numI o) → b = res.isSome)) (hfin2 : Hid (∀ x, res = some x → false = x.1 ∧ (s[0].toNat : Int) = x.2.1.toNat ∧ (60 : Int) = x.2.2.1.toNat ∧ -numI o = x.2.2.2)) :
  Calls Tryz.prog 110 #[.string s] w (RefStep res w) := by
 have hc := toNat_lt s[0]
 go_enter Tryz.func110, Tryz.ntmps110
 go_wp2_with (go_at_call 111; refine (hdig _).mono ?_; rintro e w' ⟨rfl, rfl⟩)
 refine bodyPost_ret (v := .tuple #[.agg #[.bool false, .int .u8 s[0].toNat, .int .u8 60, .int .i64 (-numI o)], .bool (decide (0 < numI o))]) (by simp [results, Tryz.results110, go_sem]) rfl ⟨false, s[0].toNat, 60, (-numI o), (decide (0 < numI o)), rfl, hfin1.out _ rfl, hfin2.out, ?_⟩
 exact ((Below.refl _ _).alloc (Nat.le_refl _) _).alloc (by simp) _

set_option maxHeartbeats 400000 in
theorem st_pos60a_0 (s : ByteArray) (w : World) (hs : s.size ≤ 100) (hx0 : 0 < s.size) (hE : ¬ s = ByteArray.empty) (hx : ((s[0].toNat : Int) == 33) = false) (hd : 0 < s.size) (hd1 : 1 < s.size) (hlo : ¬ s[0].toNat < 97) (hhi : ¬ 122 < s[0].toNat) (q : (s[1].toNat : Int) = 60) (o : Option Nat) (res : Option Stp) (hi1 : -1 ≤ numI o) (hi2 : numI o ≤ 1000) (key : s.size ≤ 2) (hdig : ∀ w, Calls Tryz.prog 111 #[.string (s.extract 2 s.size), .int .i64 1000] w fun e w' => e = .returned (.int .i64 (numI o)) ∧ w' = w) (hfin1 : Hid (∀ b : Bool, b = decide (0 ≤ numI o) → b = res.isSome)) (hfin2 : Hid (∀ x, res = some x → false = x.1 ∧ (s[0].toNat : Int) = x.2.1.toNat ∧ (60 : Int) = x.2.2.1.toNat ∧ numI o = x.2.2.2)) :
  Calls Tryz.prog 110 #[.string s] w (RefStep res w) := by
 have hc := toNat_lt s[0]
 go_enter Tryz.func110, Tryz.ntmps110
 go_wp2_with (go_at_call 111; refine (hdig _).mono ?_; rintro e w' ⟨rfl, rfl⟩)
 refine bodyPost_ret (v := .tuple #[.agg #[.bool false, .int .u8 s[0].toNat, .int .u8 60, .int .i64 (numI o)], .bool (decide (0 ≤ numI o))]) (by simp [results, Tryz.results110, go_sem]) rfl ⟨false, s[0].toNat, 60, (numI o), (decide (0 ≤ numI o)), rfl, hfin1.out _ rfl, hfin2.out, ?_⟩
 exact ((Below.refl _ _).alloc (Nat.le_refl _) _).alloc (by simp) _

set_option maxHeartbeats 400000 in
theorem st_pos60b_0 (s : ByteArray) (w : World) (hs : s.size ≤ 100) (hx0 : 0 < s.size) (hE : ¬ s = ByteArray.empty) (hx : ((s[0].toNat : Int) == 33) = false) (hd : 0 < s.size) (hd1 : 1 < s.size) (hlo : ¬ s[0].toNat < 97) (hhi : ¬ 122 < s[0].toNat) (q : (s[1].toNat : Int) = 60) (o : Option Nat) (res : Option Stp) (hi1 : -1 ≤ numI o) (hi2 : numI o ≤ 1000) (h2 : 2 < s.size) (key : ((s[2].toNat : Int) == 45) = false) (hdig : ∀ w, Calls Tryz.prog 111 #[.string (s.extract 2 s.size), .int .i64 1000] w fun e w' => e = .returned (.int .i64 (numI o)) ∧ w' = w) (hfin1 : Hid (∀ b : Bool, b = decide (0 ≤ numI o) → b = res.isSome)) (hfin2 : Hid (∀ x, res = some x → false = x.1 ∧ (s[0].toNat : Int) = x.2.1.toNat ∧ (60 : Int) = x.2.2.1.toNat ∧ numI o = x.2.2.2)) :
  Calls Tryz.prog 110 #[.string s] w (RefStep res w) := by
 have hc := toNat_lt s[0]
 go_enter Tryz.func110, Tryz.ntmps110
 go_wp2_with (go_at_call 111; refine (hdig _).mono ?_; rintro e w' ⟨rfl, rfl⟩)
 refine bodyPost_ret (v := .tuple #[.agg #[.bool false, .int .u8 s[0].toNat, .int .u8 60, .int .i64 (numI o)], .bool (decide (0 ≤ numI o))]) (by simp [results, Tryz.results110, go_sem]) rfl ⟨false, s[0].toNat, 60, (numI o), (decide (0 ≤ numI o)), rfl, hfin1.out _ rfl, hfin2.out, ?_⟩
 exact ((Below.refl _ _).alloc (Nat.le_refl _) _).alloc (by simp) _

set_option maxHeartbeats 400000 in
theorem st_neg61_0 (s : ByteArray) (w : World) (hs : s.size ≤ 100) (hx0 : 0 < s.size) (hE : ¬ s = ByteArray.empty) (hx : ((s[0].toNat : Int) == 33) = false) (hd : 0 < s.size) (hd1 : 1 < s.size) (hlo : ¬ s[0].toNat < 97) (hhi : ¬ 122 < s[0].toNat) (q : (s[1].toNat : Int) = 61) (o : Option Nat) (res : Option Stp) (hi1 : -1 ≤ numI o) (hi2 : numI o ≤ 1000) (hm1 : 2 < s.size) (hx45 : ((s[2].toNat : Int) == 45) = true) (hdig : ∀ w, Calls Tryz.prog 111 #[.string (s.extract 3 s.size), .int .i64 1000] w fun e w' => e = .returned (.int .i64 (numI o)) ∧ w' = w) (hfin1 : Hid (∀ b : Bool, b = decide (0 < numI o) → b = res.isSome)) (hfin2 : Hid (∀ x, res = some x → false = x.1 ∧ (s[0].toNat : Int) = x.2.1.toNat ∧ (61 : Int) = x.2.2.1.toNat ∧ -numI o = x.2.2.2)) :
  Calls Tryz.prog 110 #[.string s] w (RefStep res w) := by
 have hc := toNat_lt s[0]
 go_enter Tryz.func110, Tryz.ntmps110
 go_wp2_with (go_at_call 111; refine (hdig _).mono ?_; rintro e w' ⟨rfl, rfl⟩)
 refine bodyPost_ret (v := .tuple #[.agg #[.bool false, .int .u8 s[0].toNat, .int .u8 61, .int .i64 (-numI o)], .bool (decide (0 < numI o))]) (by simp [results, Tryz.results110, go_sem]) rfl ⟨false, s[0].toNat, 61, (-numI o), (decide (0 < numI o)), rfl, hfin1.out _ rfl, hfin2.out, ?_⟩
 exact ((Below.refl _ _).alloc (Nat.le_refl _) _).alloc (by simp) _

set_option maxHeartbeats 400000 in
theorem st_pos61a_0 (s : ByteArray) (w : World) (hs : s.size ≤ 100) (hx0 : 0 < s.size) (hE : ¬ s = ByteArray.empty) (hx : ((s[0].toNat : Int) == 33) = false) (hd : 0 < s.size) (hd1 : 1 < s.size) (hlo : ¬ s[0].toNat < 97) (hhi : ¬ 122 < s[0].toNat) (q : (s[1].toNat : Int) = 61) (o : Option Nat) (res : Option Stp) (hi1 : -1 ≤ numI o) (hi2 : numI o ≤ 1000) (key : s.size ≤ 2) (hdig : ∀ w, Calls Tryz.prog 111 #[.string (s.extract 2 s.size), .int .i64 1000] w fun e w' => e = .returned (.int .i64 (numI o)) ∧ w' = w) (hfin1 : Hid (∀ b : Bool, b = decide (0 ≤ numI o) → b = res.isSome)) (hfin2 : Hid (∀ x, res = some x → false = x.1 ∧ (s[0].toNat : Int) = x.2.1.toNat ∧ (61 : Int) = x.2.2.1.toNat ∧ numI o = x.2.2.2)) :
  Calls Tryz.prog 110 #[.string s] w (RefStep res w) := by
 have hc := toNat_lt s[0]
 go_enter Tryz.func110, Tryz.ntmps110
 go_wp2_with (go_at_call 111; refine (hdig _).mono ?_; rintro e w' ⟨rfl, rfl⟩)
 refine bodyPost_ret (v := .tuple #[.agg #[.bool false, .int .u8 s[0].toNat, .int .u8 61, .int .i64 (numI o)], .bool (decide (0 ≤ numI o))]) (by simp [results, Tryz.results110, go_sem]) rfl ⟨false, s[0].toNat, 61, (numI o), (decide (0 ≤ numI o)), rfl, hfin1.out _ rfl, hfin2.out, ?_⟩
 exact ((Below.refl _ _).alloc (Nat.le_refl _) _).alloc (by simp) _

set_option maxHeartbeats 400000 in
theorem st_pos61b_0 (s : ByteArray) (w : World) (hs : s.size ≤ 100) (hx0 : 0 < s.size) (hE : ¬ s = ByteArray.empty) (hx : ((s[0].toNat : Int) == 33) = false) (hd : 0 < s.size) (hd1 : 1 < s.size) (hlo : ¬ s[0].toNat < 97) (hhi : ¬ 122 < s[0].toNat) (q : (s[1].toNat : Int) = 61) (o : Option Nat) (res : Option Stp) (hi1 : -1 ≤ numI o) (hi2 : numI o ≤ 1000) (h2 : 2 < s.size) (key : ((s[2].toNat : Int) == 45) = false) (hdig : ∀ w, Calls Tryz.prog 111 #[.string (s.extract 2 s.size), .int .i64 1000] w fun e w' => e = .returned (.int .i64 (numI o)) ∧ w' = w) (hfin1 : Hid (∀ b : Bool, b = decide (0 ≤ numI o) → b = res.isSome)) (hfin2 : Hid (∀ x, res = some x → false = x.1 ∧ (s[0].toNat : Int) = x.2.1.toNat ∧ (61 : Int) = x.2.2.1.toNat ∧ numI o = x.2.2.2)) :
  Calls Tryz.prog 110 #[.string s] w (RefStep res w) := by
 have hc := toNat_lt s[0]
 go_enter Tryz.func110, Tryz.ntmps110
 go_wp2_with (go_at_call 111; refine (hdig _).mono ?_; rintro e w' ⟨rfl, rfl⟩)
 refine bodyPost_ret (v := .tuple #[.agg #[.bool false, .int .u8 s[0].toNat, .int .u8 61, .int .i64 (numI o)], .bool (decide (0 ≤ numI o))]) (by simp [results, Tryz.results110, go_sem]) rfl ⟨false, s[0].toNat, 61, (numI o), (decide (0 ≤ numI o)), rfl, hfin1.out _ rfl, hfin2.out, ?_⟩
 exact ((Below.refl _ _).alloc (Nat.le_refl _) _).alloc (by simp) _

set_option maxHeartbeats 400000 in
theorem st_neg62_0 (s : ByteArray) (w : World) (hs : s.size ≤ 100) (hx0 : 0 < s.size) (hE : ¬ s = ByteArray.empty) (hx : ((s[0].toNat : Int) == 33) = false) (hd : 0 < s.size) (hd1 : 1 < s.size) (hlo : ¬ s[0].toNat < 97) (hhi : ¬ 122 < s[0].toNat) (q : (s[1].toNat : Int) = 62) (o : Option Nat) (res : Option Stp) (hi1 : -1 ≤ numI o) (hi2 : numI o ≤ 1000) (hm1 : 2 < s.size) (hx45 : ((s[2].toNat : Int) == 45) = true) (hdig : ∀ w, Calls Tryz.prog 111 #[.string (s.extract 3 s.size), .int .i64 1000] w fun e w' => e = .returned (.int .i64 (numI o)) ∧ w' = w) (hfin1 : Hid (∀ b : Bool, b = decide (0 < numI o) → b = res.isSome)) (hfin2 : Hid (∀ x, res = some x → false = x.1 ∧ (s[0].toNat : Int) = x.2.1.toNat ∧ (62 : Int) = x.2.2.1.toNat ∧ -numI o = x.2.2.2)) :
  Calls Tryz.prog 110 #[.string s] w (RefStep res w) := by
 have hc := toNat_lt s[0]
 go_enter Tryz.func110, Tryz.ntmps110
 go_wp2_with (go_at_call 111; refine (hdig _).mono ?_; rintro e w' ⟨rfl, rfl⟩)
 refine bodyPost_ret (v := .tuple #[.agg #[.bool false, .int .u8 s[0].toNat, .int .u8 62, .int .i64 (-numI o)], .bool (decide (0 < numI o))]) (by simp [results, Tryz.results110, go_sem]) rfl ⟨false, s[0].toNat, 62, (-numI o), (decide (0 < numI o)), rfl, hfin1.out _ rfl, hfin2.out, ?_⟩
 exact ((Below.refl _ _).alloc (Nat.le_refl _) _).alloc (by simp) _

set_option maxHeartbeats 400000 in
theorem st_pos62a_0 (s : ByteArray) (w : World) (hs : s.size ≤ 100) (hx0 : 0 < s.size) (hE : ¬ s = ByteArray.empty) (hx : ((s[0].toNat : Int) == 33) = false) (hd : 0 < s.size) (hd1 : 1 < s.size) (hlo : ¬ s[0].toNat < 97) (hhi : ¬ 122 < s[0].toNat) (q : (s[1].toNat : Int) = 62) (o : Option Nat) (res : Option Stp) (hi1 : -1 ≤ numI o) (hi2 : numI o ≤ 1000) (key : s.size ≤ 2) (hdig : ∀ w, Calls Tryz.prog 111 #[.string (s.extract 2 s.size), .int .i64 1000] w fun e w' => e = .returned (.int .i64 (numI o)) ∧ w' = w) (hfin1 : Hid (∀ b : Bool, b = decide (0 ≤ numI o) → b = res.isSome)) (hfin2 : Hid (∀ x, res = some x → false = x.1 ∧ (s[0].toNat : Int) = x.2.1.toNat ∧ (62 : Int) = x.2.2.1.toNat ∧ numI o = x.2.2.2)) :
  Calls Tryz.prog 110 #[.string s] w (RefStep res w) := by
 have hc := toNat_lt s[0]
 go_enter Tryz.func110, Tryz.ntmps110
 go_wp2_with (go_at_call 111; refine (hdig _).mono ?_; rintro e w' ⟨rfl, rfl⟩)
 refine bodyPost_ret (v := .tuple #[.agg #[.bool false, .int .u8 s[0].toNat, .int .u8 62, .int .i64 (numI o)], .bool (decide (0 ≤ numI o))]) (by simp [results, Tryz.results110, go_sem]) rfl ⟨false, s[0].toNat, 62, (numI o), (decide (0 ≤ numI o)), rfl, hfin1.out _ rfl, hfin2.out, ?_⟩
 exact ((Below.refl _ _).alloc (Nat.le_refl _) _).alloc (by simp) _

set_option maxHeartbeats 400000 in
theorem st_pos62b_0 (s : ByteArray) (w : World) (hs : s.size ≤ 100) (hx0 : 0 < s.size) (hE : ¬ s = ByteArray.empty) (hx : ((s[0].toNat : Int) == 33) = false) (hd : 0 < s.size) (hd1 : 1 < s.size) (hlo : ¬ s[0].toNat < 97) (hhi : ¬ 122 < s[0].toNat) (q : (s[1].toNat : Int) = 62) (o : Option Nat) (res : Option Stp) (hi1 : -1 ≤ numI o) (hi2 : numI o ≤ 1000) (h2 : 2 < s.size) (key : ((s[2].toNat : Int) == 45) = false) (hdig : ∀ w, Calls Tryz.prog 111 #[.string (s.extract 2 s.size), .int .i64 1000] w fun e w' => e = .returned (.int .i64 (numI o)) ∧ w' = w) (hfin1 : Hid (∀ b : Bool, b = decide (0 ≤ numI o) → b = res.isSome)) (hfin2 : Hid (∀ x, res = some x → false = x.1 ∧ (s[0].toNat : Int) = x.2.1.toNat ∧ (62 : Int) = x.2.2.1.toNat ∧ numI o = x.2.2.2)) :
  Calls Tryz.prog 110 #[.string s] w (RefStep res w) := by
 have hc := toNat_lt s[0]
 go_enter Tryz.func110, Tryz.ntmps110
 go_wp2_with (go_at_call 111; refine (hdig _).mono ?_; rintro e w' ⟨rfl, rfl⟩)
 refine bodyPost_ret (v := .tuple #[.agg #[.bool false, .int .u8 s[0].toNat, .int .u8 62, .int .i64 (numI o)], .bool (decide (0 ≤ numI o))]) (by simp [results, Tryz.results110, go_sem]) rfl ⟨false, s[0].toNat, 62, (numI o), (decide (0 ≤ numI o)), rfl, hfin1.out _ rfl, hfin2.out, ?_⟩
 exact ((Below.refl _ _).alloc (Nat.le_refl _) _).alloc (by simp) _

end Go.Proofs.YtbgfannlfagoiaaGreatDoor

namespace Go.Proofs.YtbgfannlfagoiaaGreatDoor
open Go.RowKit Go.Lull
set_option linter.unusedVariables false

set_option maxHeartbeats 400000 in
theorem st_end_1 (s : ByteArray) (w : World) (hs : s.size ≤ 100) (hx0 : 0 < s.size) (hE : ¬ s = ByteArray.empty) (hx : ((s[0].toNat : Int) == 33) = true) (h0 : s.size ≤ 1) :
  Calls Tryz.prog 110 #[.string s] w (RefStep none w) := by
 go_enter Tryz.func110, Tryz.ntmps110
 go_wp2
 refine bodyPost_ret (v := .tuple #[.agg #[.bool true, .int .u8 0, .int .u8 0, .int .i64 0], .bool false]) (by simp [results, Tryz.results110, go_sem]) rfl ⟨true, 0, 0, 0, false, rfl, rfl, (by intro x h; cases h), ?_⟩
 exact ((Below.refl _ _).alloc (Nat.le_refl _) _).alloc (by simp) _

set_option maxHeartbeats 400000 in
theorem st_low_1 (s : ByteArray) (w : World) (hs : s.size ≤ 100) (hx0 : 0 < s.size) (hE : ¬ s = ByteArray.empty) (hx : ((s[0].toNat : Int) == 33) = true) (hd : 1 < s.size) (hlo : s[1].toNat < 97) :
  Calls Tryz.prog 110 #[.string s] w (RefStep none w) := by
 go_enter Tryz.func110, Tryz.ntmps110
 go_wp2
 refine bodyPost_ret (v := .tuple #[.agg #[.bool true, .int .u8 0, .int .u8 0, .int .i64 0], .bool false]) (by simp [results, Tryz.results110, go_sem]) rfl ⟨true, 0, 0, 0, false, rfl, rfl, (by intro x h; cases h), ?_⟩
 exact ((Below.refl _ _).alloc (Nat.le_refl _) _).alloc (by simp) _

set_option maxHeartbeats 400000 in
theorem st_high_1 (s : ByteArray) (w : World) (hs : s.size ≤ 100) (hx0 : 0 < s.size) (hE : ¬ s = ByteArray.empty) (hx : ((s[0].toNat : Int) == 33) = true) (hd : 1 < s.size) (hlo : ¬ s[1].toNat < 97) (hhi : 122 < s[1].toNat) :
  Calls Tryz.prog 110 #[.string s] w (RefStep none w) := by
 go_enter Tryz.func110, Tryz.ntmps110
 go_wp2
 refine bodyPost_ret (v := .tuple #[.agg #[.bool true, .int .u8 0, .int .u8 0, .int .i64 0], .bool false]) (by simp [results, Tryz.results110, go_sem]) rfl ⟨true, 0, 0, 0, false, rfl, rfl, (by intro x h; cases h), ?_⟩
 exact ((Below.refl _ _).alloc (Nat.le_refl _) _).alloc (by simp) _

set_option maxHeartbeats 400000 in
theorem st_one_1 (s : ByteArray) (w : World) (hs : s.size ≤ 100) (hx0 : 0 < s.size) (hE : ¬ s = ByteArray.empty) (hx : ((s[0].toNat : Int) == 33) = true) (hd : 1 < s.size) (hlo : ¬ s[1].toNat < 97) (hhi : ¬ 122 < s[1].toNat) (hsz : ((s.size : Int) == 2) = true) (hsz2 : ((2 : Int) == s.size) = true) :
  Calls Tryz.prog 110 #[.string s] w (RefStep (some (true, s[1], 0, 0)) w) := by
 have hc := toNat_lt s[1]
 go_enter Tryz.func110, Tryz.ntmps110
 go_wp2
 refine bodyPost_ret (v := .tuple #[.agg #[.bool true, .int .u8 s[1].toNat, .int .u8 0, .int .i64 0], .bool true]) (by simp [results, Tryz.results110, go_sem]) rfl ⟨true, s[1].toNat, 0, 0, true, rfl, rfl, (by intro x h; cases h; exact ⟨rfl, rfl, rfl, rfl⟩), ?_⟩
 exact ((Below.refl _ _).alloc (Nat.le_refl _) _).alloc (by simp) _

set_option maxHeartbeats 400000 in
theorem st_nosign_1 (s : ByteArray) (w : World) (hs : s.size ≤ 100) (hx0 : 0 < s.size) (hE : ¬ s = ByteArray.empty) (hx : ((s[0].toNat : Int) == 33) = true) (hd : 1 < s.size) (hd1 : 2 < s.size) (hlo : ¬ s[1].toNat < 97) (hhi : ¬ 122 < s[1].toNat) (g60 : ((s[2].toNat : Int) != 60) = true) (p60 : ¬ (s[2].toNat : Int) = 60) (g61 : ((s[2].toNat : Int) != 61) = true) (p61 : ¬ (s[2].toNat : Int) = 61) (g62 : ((s[2].toNat : Int) != 62) = true) (p62 : ¬ (s[2].toNat : Int) = 62) :
  Calls Tryz.prog 110 #[.string s] w (RefStep none w) := by
 have hc := toNat_lt s[1]
 go_enter Tryz.func110, Tryz.ntmps110
 go_wp2
 refine bodyPost_ret (v := .tuple #[.agg #[.bool true, .int .u8 s[1].toNat, .int .u8 s[2].toNat, .int .i64 0], .bool false]) (by simp [results, Tryz.results110, go_sem]) rfl ⟨true, s[1].toNat, s[2].toNat, 0, false, rfl, rfl, (by intro x h; cases h), ?_⟩
 exact ((Below.refl _ _).alloc (Nat.le_refl _) _).alloc (by simp) _

set_option maxHeartbeats 400000 in
theorem st_neg60_1 (s : ByteArray) (w : World) (hs : s.size ≤ 100) (hx0 : 0 < s.size) (hE : ¬ s = ByteArray.empty) (hx : ((s[0].toNat : Int) == 33) = true) (hd : 1 < s.size) (hd1 : 2 < s.size) (hlo : ¬ s[1].toNat < 97) (hhi : ¬ 122 < s[1].toNat) (q : (s[2].toNat : Int) = 60) (o : Option Nat) (res : Option Stp) (hi1 : -1 ≤ numI o) (hi2 : numI o ≤ 1000) (hm1 : 3 < s.size) (hx45 : ((s[3].toNat : Int) == 45) = true) (hdig : ∀ w, Calls Tryz.prog 111 #[.string (s.extract 4 s.size), .int .i64 1000] w fun e w' => e = .returned (.int .i64 (numI o)) ∧ w' = w) (hfin1 : Hid (∀ b : Bool, b = decide (0 < numI o) → b = res.isSome)) (hfin2 : Hid (∀ x, res = some x → true = x.1 ∧ (s[1].toNat : Int) = x.2.1.toNat ∧ (60 : Int) = x.2.2.1.toNat ∧ -numI o = x.2.2.2)) :
  Calls Tryz.prog 110 #[.string s] w (RefStep res w) := by
 have hc := toNat_lt s[1]
 go_enter Tryz.func110, Tryz.ntmps110
 go_wp2_with (go_at_call 111; refine (hdig _).mono ?_; rintro e w' ⟨rfl, rfl⟩)
 refine bodyPost_ret (v := .tuple #[.agg #[.bool true, .int .u8 s[1].toNat, .int .u8 60, .int .i64 (-numI o)], .bool (decide (0 < numI o))]) (by simp [results, Tryz.results110, go_sem]) rfl ⟨true, s[1].toNat, 60, (-numI o), (decide (0 < numI o)), rfl, hfin1.out _ rfl, hfin2.out, ?_⟩
 exact ((Below.refl _ _).alloc (Nat.le_refl _) _).alloc (by simp) _

set_option maxHeartbeats 400000 in
theorem st_pos60a_1 (s : ByteArray) (w : World) (hs : s.size ≤ 100) (hx0 : 0 < s.size) (hE : ¬ s = ByteArray.empty) (hx : ((s[0].toNat : Int) == 33) = true) (hd : 1 < s.size) (hd1 : 2 < s.size) (hlo : ¬ s[1].toNat < 97) (hhi : ¬ 122 < s[1].toNat) (q : (s[2].toNat : Int) = 60) (o : Option Nat) (res : Option Stp) (hi1 : -1 ≤ numI o) (hi2 : numI o ≤ 1000) (key : s.size ≤ 3) (hdig : ∀ w, Calls Tryz.prog 111 #[.string (s.extract 3 s.size), .int .i64 1000] w fun e w' => e = .returned (.int .i64 (numI o)) ∧ w' = w) (hfin1 : Hid (∀ b : Bool, b = decide (0 ≤ numI o) → b = res.isSome)) (hfin2 : Hid (∀ x, res = some x → true = x.1 ∧ (s[1].toNat : Int) = x.2.1.toNat ∧ (60 : Int) = x.2.2.1.toNat ∧ numI o = x.2.2.2)) :
  Calls Tryz.prog 110 #[.string s] w (RefStep res w) := by
 have hc := toNat_lt s[1]
 go_enter Tryz.func110, Tryz.ntmps110
 go_wp2_with (go_at_call 111; refine (hdig _).mono ?_; rintro e w' ⟨rfl, rfl⟩)
 refine bodyPost_ret (v := .tuple #[.agg #[.bool true, .int .u8 s[1].toNat, .int .u8 60, .int .i64 (numI o)], .bool (decide (0 ≤ numI o))]) (by simp [results, Tryz.results110, go_sem]) rfl ⟨true, s[1].toNat, 60, (numI o), (decide (0 ≤ numI o)), rfl, hfin1.out _ rfl, hfin2.out, ?_⟩
 exact ((Below.refl _ _).alloc (Nat.le_refl _) _).alloc (by simp) _

set_option maxHeartbeats 400000 in
theorem st_pos60b_1 (s : ByteArray) (w : World) (hs : s.size ≤ 100) (hx0 : 0 < s.size) (hE : ¬ s = ByteArray.empty) (hx : ((s[0].toNat : Int) == 33) = true) (hd : 1 < s.size) (hd1 : 2 < s.size) (hlo : ¬ s[1].toNat < 97) (hhi : ¬ 122 < s[1].toNat) (q : (s[2].toNat : Int) = 60) (o : Option Nat) (res : Option Stp) (hi1 : -1 ≤ numI o) (hi2 : numI o ≤ 1000) (h2 : 3 < s.size) (key : ((s[3].toNat : Int) == 45) = false) (hdig : ∀ w, Calls Tryz.prog 111 #[.string (s.extract 3 s.size), .int .i64 1000] w fun e w' => e = .returned (.int .i64 (numI o)) ∧ w' = w) (hfin1 : Hid (∀ b : Bool, b = decide (0 ≤ numI o) → b = res.isSome)) (hfin2 : Hid (∀ x, res = some x → true = x.1 ∧ (s[1].toNat : Int) = x.2.1.toNat ∧ (60 : Int) = x.2.2.1.toNat ∧ numI o = x.2.2.2)) :
  Calls Tryz.prog 110 #[.string s] w (RefStep res w) := by
 have hc := toNat_lt s[1]
 go_enter Tryz.func110, Tryz.ntmps110
 go_wp2_with (go_at_call 111; refine (hdig _).mono ?_; rintro e w' ⟨rfl, rfl⟩)
 refine bodyPost_ret (v := .tuple #[.agg #[.bool true, .int .u8 s[1].toNat, .int .u8 60, .int .i64 (numI o)], .bool (decide (0 ≤ numI o))]) (by simp [results, Tryz.results110, go_sem]) rfl ⟨true, s[1].toNat, 60, (numI o), (decide (0 ≤ numI o)), rfl, hfin1.out _ rfl, hfin2.out, ?_⟩
 exact ((Below.refl _ _).alloc (Nat.le_refl _) _).alloc (by simp) _

set_option maxHeartbeats 400000 in
theorem st_neg61_1 (s : ByteArray) (w : World) (hs : s.size ≤ 100) (hx0 : 0 < s.size) (hE : ¬ s = ByteArray.empty) (hx : ((s[0].toNat : Int) == 33) = true) (hd : 1 < s.size) (hd1 : 2 < s.size) (hlo : ¬ s[1].toNat < 97) (hhi : ¬ 122 < s[1].toNat) (q : (s[2].toNat : Int) = 61) (o : Option Nat) (res : Option Stp) (hi1 : -1 ≤ numI o) (hi2 : numI o ≤ 1000) (hm1 : 3 < s.size) (hx45 : ((s[3].toNat : Int) == 45) = true) (hdig : ∀ w, Calls Tryz.prog 111 #[.string (s.extract 4 s.size), .int .i64 1000] w fun e w' => e = .returned (.int .i64 (numI o)) ∧ w' = w) (hfin1 : Hid (∀ b : Bool, b = decide (0 < numI o) → b = res.isSome)) (hfin2 : Hid (∀ x, res = some x → true = x.1 ∧ (s[1].toNat : Int) = x.2.1.toNat ∧ (61 : Int) = x.2.2.1.toNat ∧ -numI o = x.2.2.2)) :
  Calls Tryz.prog 110 #[.string s] w (RefStep res w) := by
 have hc := toNat_lt s[1]
 go_enter Tryz.func110, Tryz.ntmps110
 go_wp2_with (go_at_call 111; refine (hdig _).mono ?_; rintro e w' ⟨rfl, rfl⟩)
 refine bodyPost_ret (v := .tuple #[.agg #[.bool true, .int .u8 s[1].toNat, .int .u8 61, .int .i64 (-numI o)], .bool (decide (0 < numI o))]) (by simp [results, Tryz.results110, go_sem]) rfl ⟨true, s[1].toNat, 61, (-numI o), (decide (0 < numI o)), rfl, hfin1.out _ rfl, hfin2.out, ?_⟩
 exact ((Below.refl _ _).alloc (Nat.le_refl _) _).alloc (by simp) _

set_option maxHeartbeats 400000 in
theorem st_pos61a_1 (s : ByteArray) (w : World) (hs : s.size ≤ 100) (hx0 : 0 < s.size) (hE : ¬ s = ByteArray.empty) (hx : ((s[0].toNat : Int) == 33) = true) (hd : 1 < s.size) (hd1 : 2 < s.size) (hlo : ¬ s[1].toNat < 97) (hhi : ¬ 122 < s[1].toNat) (q : (s[2].toNat : Int) = 61) (o : Option Nat) (res : Option Stp) (hi1 : -1 ≤ numI o) (hi2 : numI o ≤ 1000) (key : s.size ≤ 3) (hdig : ∀ w, Calls Tryz.prog 111 #[.string (s.extract 3 s.size), .int .i64 1000] w fun e w' => e = .returned (.int .i64 (numI o)) ∧ w' = w) (hfin1 : Hid (∀ b : Bool, b = decide (0 ≤ numI o) → b = res.isSome)) (hfin2 : Hid (∀ x, res = some x → true = x.1 ∧ (s[1].toNat : Int) = x.2.1.toNat ∧ (61 : Int) = x.2.2.1.toNat ∧ numI o = x.2.2.2)) :
  Calls Tryz.prog 110 #[.string s] w (RefStep res w) := by
 have hc := toNat_lt s[1]
 go_enter Tryz.func110, Tryz.ntmps110
 go_wp2_with (go_at_call 111; refine (hdig _).mono ?_; rintro e w' ⟨rfl, rfl⟩)
 refine bodyPost_ret (v := .tuple #[.agg #[.bool true, .int .u8 s[1].toNat, .int .u8 61, .int .i64 (numI o)], .bool (decide (0 ≤ numI o))]) (by simp [results, Tryz.results110, go_sem]) rfl ⟨true, s[1].toNat, 61, (numI o), (decide (0 ≤ numI o)), rfl, hfin1.out _ rfl, hfin2.out, ?_⟩
 exact ((Below.refl _ _).alloc (Nat.le_refl _) _).alloc (by simp) _

set_option maxHeartbeats 400000 in
theorem st_pos61b_1 (s : ByteArray) (w : World) (hs : s.size ≤ 100) (hx0 : 0 < s.size) (hE : ¬ s = ByteArray.empty) (hx : ((s[0].toNat : Int) == 33) = true) (hd : 1 < s.size) (hd1 : 2 < s.size) (hlo : ¬ s[1].toNat < 97) (hhi : ¬ 122 < s[1].toNat) (q : (s[2].toNat : Int) = 61) (o : Option Nat) (res : Option Stp) (hi1 : -1 ≤ numI o) (hi2 : numI o ≤ 1000) (h2 : 3 < s.size) (key : ((s[3].toNat : Int) == 45) = false) (hdig : ∀ w, Calls Tryz.prog 111 #[.string (s.extract 3 s.size), .int .i64 1000] w fun e w' => e = .returned (.int .i64 (numI o)) ∧ w' = w) (hfin1 : Hid (∀ b : Bool, b = decide (0 ≤ numI o) → b = res.isSome)) (hfin2 : Hid (∀ x, res = some x → true = x.1 ∧ (s[1].toNat : Int) = x.2.1.toNat ∧ (61 : Int) = x.2.2.1.toNat ∧ numI o = x.2.2.2)) :
  Calls Tryz.prog 110 #[.string s] w (RefStep res w) := by
 have hc := toNat_lt s[1]
 go_enter Tryz.func110, Tryz.ntmps110
 go_wp2_with (go_at_call 111; refine (hdig _).mono ?_; rintro e w' ⟨rfl, rfl⟩)
 refine bodyPost_ret (v := .tuple #[.agg #[.bool true, .int .u8 s[1].toNat, .int .u8 61, .int .i64 (numI o)], .bool (decide (0 ≤ numI o))]) (by simp [results, Tryz.results110, go_sem]) rfl ⟨true, s[1].toNat, 61, (numI o), (decide (0 ≤ numI o)), rfl, hfin1.out _ rfl, hfin2.out, ?_⟩
 exact ((Below.refl _ _).alloc (Nat.le_refl _) _).alloc (by simp) _

set_option maxHeartbeats 400000 in
theorem st_neg62_1 (s : ByteArray) (w : World) (hs : s.size ≤ 100) (hx0 : 0 < s.size) (hE : ¬ s = ByteArray.empty) (hx : ((s[0].toNat : Int) == 33) = true) (hd : 1 < s.size) (hd1 : 2 < s.size) (hlo : ¬ s[1].toNat < 97) (hhi : ¬ 122 < s[1].toNat) (q : (s[2].toNat : Int) = 62) (o : Option Nat) (res : Option Stp) (hi1 : -1 ≤ numI o) (hi2 : numI o ≤ 1000) (hm1 : 3 < s.size) (hx45 : ((s[3].toNat : Int) == 45) = true) (hdig : ∀ w, Calls Tryz.prog 111 #[.string (s.extract 4 s.size), .int .i64 1000] w fun e w' => e = .returned (.int .i64 (numI o)) ∧ w' = w) (hfin1 : Hid (∀ b : Bool, b = decide (0 < numI o) → b = res.isSome)) (hfin2 : Hid (∀ x, res = some x → true = x.1 ∧ (s[1].toNat : Int) = x.2.1.toNat ∧ (62 : Int) = x.2.2.1.toNat ∧ -numI o = x.2.2.2)) :
  Calls Tryz.prog 110 #[.string s] w (RefStep res w) := by
 have hc := toNat_lt s[1]
 go_enter Tryz.func110, Tryz.ntmps110
 go_wp2_with (go_at_call 111; refine (hdig _).mono ?_; rintro e w' ⟨rfl, rfl⟩)
 refine bodyPost_ret (v := .tuple #[.agg #[.bool true, .int .u8 s[1].toNat, .int .u8 62, .int .i64 (-numI o)], .bool (decide (0 < numI o))]) (by simp [results, Tryz.results110, go_sem]) rfl ⟨true, s[1].toNat, 62, (-numI o), (decide (0 < numI o)), rfl, hfin1.out _ rfl, hfin2.out, ?_⟩
 exact ((Below.refl _ _).alloc (Nat.le_refl _) _).alloc (by simp) _

set_option maxHeartbeats 400000 in
theorem st_pos62a_1 (s : ByteArray) (w : World) (hs : s.size ≤ 100) (hx0 : 0 < s.size) (hE : ¬ s = ByteArray.empty) (hx : ((s[0].toNat : Int) == 33) = true) (hd : 1 < s.size) (hd1 : 2 < s.size) (hlo : ¬ s[1].toNat < 97) (hhi : ¬ 122 < s[1].toNat) (q : (s[2].toNat : Int) = 62) (o : Option Nat) (res : Option Stp) (hi1 : -1 ≤ numI o) (hi2 : numI o ≤ 1000) (key : s.size ≤ 3) (hdig : ∀ w, Calls Tryz.prog 111 #[.string (s.extract 3 s.size), .int .i64 1000] w fun e w' => e = .returned (.int .i64 (numI o)) ∧ w' = w) (hfin1 : Hid (∀ b : Bool, b = decide (0 ≤ numI o) → b = res.isSome)) (hfin2 : Hid (∀ x, res = some x → true = x.1 ∧ (s[1].toNat : Int) = x.2.1.toNat ∧ (62 : Int) = x.2.2.1.toNat ∧ numI o = x.2.2.2)) :
  Calls Tryz.prog 110 #[.string s] w (RefStep res w) := by
 have hc := toNat_lt s[1]
 go_enter Tryz.func110, Tryz.ntmps110
 go_wp2_with (go_at_call 111; refine (hdig _).mono ?_; rintro e w' ⟨rfl, rfl⟩)
 refine bodyPost_ret (v := .tuple #[.agg #[.bool true, .int .u8 s[1].toNat, .int .u8 62, .int .i64 (numI o)], .bool (decide (0 ≤ numI o))]) (by simp [results, Tryz.results110, go_sem]) rfl ⟨true, s[1].toNat, 62, (numI o), (decide (0 ≤ numI o)), rfl, hfin1.out _ rfl, hfin2.out, ?_⟩
 exact ((Below.refl _ _).alloc (Nat.le_refl _) _).alloc (by simp) _

set_option maxHeartbeats 400000 in
theorem st_pos62b_1 (s : ByteArray) (w : World) (hs : s.size ≤ 100) (hx0 : 0 < s.size) (hE : ¬ s = ByteArray.empty) (hx : ((s[0].toNat : Int) == 33) = true) (hd : 1 < s.size) (hd1 : 2 < s.size) (hlo : ¬ s[1].toNat < 97) (hhi : ¬ 122 < s[1].toNat) (q : (s[2].toNat : Int) = 62) (o : Option Nat) (res : Option Stp) (hi1 : -1 ≤ numI o) (hi2 : numI o ≤ 1000) (h2 : 3 < s.size) (key : ((s[3].toNat : Int) == 45) = false) (hdig : ∀ w, Calls Tryz.prog 111 #[.string (s.extract 3 s.size), .int .i64 1000] w fun e w' => e = .returned (.int .i64 (numI o)) ∧ w' = w) (hfin1 : Hid (∀ b : Bool, b = decide (0 ≤ numI o) → b = res.isSome)) (hfin2 : Hid (∀ x, res = some x → true = x.1 ∧ (s[1].toNat : Int) = x.2.1.toNat ∧ (62 : Int) = x.2.2.1.toNat ∧ numI o = x.2.2.2)) :
  Calls Tryz.prog 110 #[.string s] w (RefStep res w) := by
 have hc := toNat_lt s[1]
 go_enter Tryz.func110, Tryz.ntmps110
 go_wp2_with (go_at_call 111; refine (hdig _).mono ?_; rintro e w' ⟨rfl, rfl⟩)
 refine bodyPost_ret (v := .tuple #[.agg #[.bool true, .int .u8 s[1].toNat, .int .u8 62, .int .i64 (numI o)], .bool (decide (0 ≤ numI o))]) (by simp [results, Tryz.results110, go_sem]) rfl ⟨true, s[1].toNat, 62, (numI o), (decide (0 ≤ numI o)), rfl, hfin1.out _ rfl, hfin2.out, ?_⟩
 exact ((Below.refl _ _).alloc (Nat.le_refl _) _).alloc (by simp) _

end Go.Proofs.YtbgfannlfagoiaaGreatDoor
