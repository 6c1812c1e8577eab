import Derived.Test.YtbgfannlfagoiaaDoorGa
import Derived.Laws.IdiomStrings
import Derived.Test.YtbgfannlfagoiaaDoorKit
namespace Go.Proofs.YtbgfannlfagoiaaDoor
open Go.RowKit Go.Lull
set_option linter.unusedVariables false

/-- Which of n things a raw number speaks of. -/
def absI (c : Int) : Int := if c < 0 then -(c + 1) else c
def pickI (c n : Int) : Int := absI c % n
theorem absI_nn (c : Int) : 0 ≤ absI c := by unfold absI; split <;> omega
theorem pickI_nn (c n : Int) (h : 0 < n) : 0 ≤ pickI c n ∧ pickI c n < n := ⟨Int.emod_nonneg _ (by omega), Int.emod_lt_of_pos _ h⟩

def I64 (c : Int) : Prop := -9223372036854775808 ≤ c ∧ c ≤ 9223372036854775807

set_option maxHeartbeats 400000 in
theorem pick_any (c n : Int) (w : World) (hc : I64 c) (h0 : 0 < n) (h1 : n ≤ 1099511627776) :
    Calls Tryd.prog 16 #[.int .i64 c, .int .i64 n] w fun e w' => e = .returned (.int .i64 (pickI c n)) ∧ w' = w := by
  obtain ⟨hc1, hc2⟩ := hc
  by_cases h : c < 0
  · have hp : pickI c n = (-(c + 1)) % n := by simp [pickI, absI, h]
    rw [hp]
    have h3 : 0 ≤ -(c + 1) := by omega
    have h4 : -(c + 1) ≤ 9223372036854775807 := by omega
    clear hp
    go_enter Tryd.func16, Tryd.ntmps16
    go_wp2
    go_ret
    exact ⟨ret_i (by rw [← Int.neg_tmod, Int.tmod_eq_emod_of_nonneg h3]), rfl⟩
  · have hp : pickI c n = c % n := by simp [pickI, absI, h]
    rw [hp]
    have h3 : 0 ≤ c := by omega
    clear hp
    go_enter Tryd.func16, Tryd.ntmps16
    go_wp2
    go_ret
    exact ⟨rfl, rfl⟩

def digB (n : Nat) : UInt8 := UInt8.ofNat (48 + n)
def numS (n : Nat) : List UInt8 := if n < 10 then [digB n] else [digB (n / 10), digB (n % 10)]

theorem conv_one (w : World) (z : Int) (o : Obj) (N c : Nat) (hN : N = w.heap.size) (ho : o = .cells #[.int .u8 z] 5) :
    (convert 95 9 (.slice (some ⟨N, 0, none⟩) 1 c)).run Tryd.prog (w.alloc o) = .ok (.string ⟨#[UInt8.ofNat z.toNat]⟩) (w.alloc o) := by
  subst hN ho
  rw [run_convert_bytes_string _ 95 9 5 _ _ _ Tryd.underlying95 Tryd.underlying5 Tryd.underlying9]
  have hl := run_loadCells_list (P := Tryd.prog) (w.alloc (.cells #[.int .u8 z] 5)) ⟨w.heap.size, 0, none⟩ ([z].map (Value.int .u8)) (fun j v hj => by
    match j, hj with
    | 0, hj => simp at hj; subst hj; simp [Addr.add]
    | j + 1, hj => simp at hj)
  simp only [List.length_map, List.length_cons, List.length_nil] at hl
  rw [run_bytesToString _ _ 1 c _ hl]
  rfl

set_option maxHeartbeats 400000 in
theorem keepNum_one (n : Nat) (w : World) (h : n < 10) :
    Calls Tryd.prog 20 #[.int .i64 n] w fun e w' => e = .returned (.string ⟨(numS n).toArray⟩) ∧ ∃ q os, w' = Go.Sort.grow (w.drewN q) os := by
  have hn : numS n = [digB n] := by simp [numS, h]
  rw [hn]
  clear hn
  have hcv := fun z => conv_one w z (.cells #[.int .u8 z] 5) w.heap.size 1 rfl rfl
  go_enter Tryd.func20, Tryd.ntmps20
  go_wp2
  go_ret
  refine ⟨?_, 0, _, alloc_is_grow _ _⟩
  simp [digB]

theorem grow_two (w : World) (q q' : Nat) (os os' : Array Obj) : Go.Sort.grow ((Go.Sort.grow (w.drewN q) os).drewN q') os' = Go.Sort.grow (w.drewN (q + q')) (os ++ os') := by
  show Go.Sort.grow (Go.Sort.grow ((w.drewN q).drewN q') os) os' = _
  rw [Go.Sort.grow_grow, World.drewN_drewN]

set_option maxHeartbeats 400000 in
theorem keepNum_any (n : Nat) (w : World) (h : n < 100) :
    Calls Tryd.prog 20 #[.int .i64 n] w fun e w' => e = .returned (.string ⟨(numS n).toArray⟩) ∧ ∃ q os, w' = Go.Sort.grow (w.drewN q) os := by
  by_cases h1 : n < 10
  · exact keepNum_one n w h1
  · have hn : numS n = [digB (n / 10), digB (n % 10)] := by simp [numS, h1]
    have hd : numS (n / 10) = [digB (n / 10)] := by simp [numS]; omega
    have hm : numS (n % 10) = [digB (n % 10)] := by simp [numS]; omega
    have c1 := fun W => keepNum_one (n / 10) W (by omega)
    have c2 := fun W => keepNum_one (n % 10) W (by omega)
    rw [hd] at c1
    rw [hm] at c2
    rw [hn]
    have C1 : Hid (∀ (z : Int) W, z = ((n / 10 : Nat) : Int) → Calls Tryd.prog 20 #[.int .i64 z] W fun e w' => e = .returned (.string ⟨#[digB (n / 10)]⟩) ∧ ∃ q os, w' = Go.Sort.grow (W.drewN q) os) := fun z W hz => by rw [hz]; exact c1 W
    have C2 : Hid (∀ (z : Int) W, z = ((n % 10 : Nat) : Int) → Calls Tryd.prog 20 #[.int .i64 z] W fun e w' => e = .returned (.string ⟨#[digB (n % 10)]⟩) ∧ ∃ q os, w' = Go.Sort.grow (W.drewN q) os) := fun z W hz => by rw [hz]; exact c2 W
    clear hn hd hm c1 c2
    have hr : Hid (∀ p q : UInt8, (⟨#[p]⟩ : ByteArray) ++ ⟨#[q]⟩ = ⟨#[p, q]⟩) := fun p q => by rfl
    go_enter Tryd.func20, Tryd.ntmps20
    go_wp2_with (first | (go_at_call 20; refine (C1.out _ _ (by omega)).mono ?_; rintro e w1 ⟨rfl, q1, os1, rfl⟩) | (go_at_call 20; refine (C2.out _ _ (by omega)).mono ?_; rintro e w2 ⟨rfl, q2, os2, rfl⟩))
    go_ret
    exact ⟨by rw [← hr.out]; rfl, q1 + q2, _, grow_two _ _ _ _ _⟩
end Go.Proofs.YtbgfannlfagoiaaDoor

namespace Go.Proofs.YtbgfannlfagoiaaDoor
open Go.RowKit Go.Lull
set_option linter.unusedVariables false

/-- A list of raw numbers that came in. -/
structure RAW (w : World) (v : Value) (l : List Int) : Prop where
  ex : ∃ a b off cap, v = .slice a l.length cap ∧ l.length ≤ cap ∧ (l ≠ [] → a = some ⟨b, off, none⟩ ∧ b < w.heap.size) ∧ ∀ k, (h : k < l.length) → w.cell? ⟨b, off + k, none⟩ = some (.int .i64 l[k])
  fits : ∀ c ∈ l, I64 c
  len : l.length ≤ maxLen
theorem RAW.below {w w' : World} {v : Value} {l : List Int} {B : Nat} (h : RAW w v l) (hb : Below B w w') (hB : ∀ b, v.ownBlock = some b → b < B) : RAW w' v l := by
  obtain ⟨a, b, off, cap, rfl, hc, h1, h2⟩ := h.ex
  refine ⟨⟨a, b, off, cap, rfl, hc, fun hn => ⟨(h1 hn).1, Nat.lt_of_lt_of_le (h1 hn).2 hb.size⟩, fun k hk => ?_⟩, h.fits, h.len⟩
  have hn : l ≠ [] := fun e => by rw [e] at hk; cases hk
  rw [hb.cell (p := ⟨b, off + k, none⟩) (hB b (by rw [(h1 hn).1]; rfl))]
  exact h2 k hk

/-- An event by a raw number. -/
def evP (p : Int) : Ev := (p % 3, 1 + p / 9 % 60, UInt8.ofNat (97 + (p / 3 % 3).toNat), p / 540 % 5 - 2)
def evsB (raw : List Int) : List Ev := (raw.take 40).map (fun c => evP (pickI c 1099511627776))
theorem evsB_len (raw : List Int) : (evsB raw).length ≤ 40 := by simp [evsB]; omega
theorem evsB_snoc (raw : List Int) (k : Nat) (hk : k < raw.length) (h40 : k < 40) : evsB (raw.take (k + 1)) = evsB (raw.take k) ++ [evP (pickI raw[k] 1099511627776)] := by
  unfold evsB
  rw [List.take_take, List.take_take, Nat.min_eq_right (by omega), Nat.min_eq_right (by omega), List.take_succ_eq_append_getElem hk, List.map_append]
  rfl
theorem evsB_take (raw : List Int) (k : Nat) (h : raw.length ≤ k ∨ 40 ≤ k) : evsB (raw.take k) = evsB raw := by
  unfold evsB
  rcases h with h | h
  · rw [List.take_of_length_le h]
  · rw [List.take_take, Nat.min_eq_left h]

theorem Tryd.infoEv2 : (Tryd.prog.info? 56).map (fun i => (i.zero, i.size, i.bytes)) = some (some (.agg #[.int .i64 0, .int .i64 0, .int .u8 0, .int .i64 0]), 4, 32) := by kernel_rfl

/-- append of one event that was just made. -/
theorem append_ev1 (w : World) {ops : Array Oper} {rest : List Oper} {o : Oper} {a : Act} {Q : Exit → Act → World → Prop} (hgd : o.guard = none) (s x : Operand)
    (ho : o.op = .call { callee := .builtin .append, args := #[s, x], argTypes := #[30, 30] })
    (v : Value) (n : Nat) (xs : List Value) (p0 p1 p2 p3 : Value) (hone : ∀ u ∈ [p0, p1, p2, p3], u.oneCell' = true) (hv : a.eval s = v) (hrow : Row w 56 4 v n xs)
    (hxv : a.eval x = .slice (some ⟨w.heap.size, 0, none⟩) 1 1) (hn : n ≤ 100000)
    (h : ∀ g off cap w', Row w' 56 4 (.slice (some ⟨g, off, none⟩) (n + 1) cap) (n + 1) (xs ++ [p0, p1, p2, p3]) → (w.alloc (.cells #[p0, p1, p2, p3] 56)).grownBy w' v.ownBlock → (v.ownBlock = some g ∨ g = w.heap.size + 1) → wpList Tryd.prog ops Q rest (a.put o.dst (.slice (some ⟨g, off, none⟩) (n + 1) cap)) w') :
    wpList Tryd.prog ops Q (o :: rest) a (w.alloc (.cells #[p0, p1, p2, p3] 56)) := by
  obtain ⟨i0, hi, hz0, hz1, hz2⟩ := info_parts Tryd.infoEv2
  refine wpList_append_row hgd s x 30 ho i0 _ 32 Tryd.underlying30 hi hz0 hz1 hz2 rfl hv (hrow.same (fun k hk => Below.heap_alloc _ _ _ (hrow.lt k hk))) 1 [p0, p1, p2, p3] _ hxv (Src.ofSlice _ Tryd.underlying30 _ 1 1 _ rfl ?_ hone) (by omega) (by unfold maxLen; omega) (by omega) ?_
  · intro j u hj
    match j, hj with
    | 0, hj => simp at hj; subst hj; simp [Addr.add]
    | 1, hj => simp at hj; subst hj; simp [Addr.add]
    | 2, hj => simp at hj; subst hj; simp [Addr.add]
    | 3, hj => simp at hj; subst hj; simp [Addr.add]
    | j + 4, hj => simp at hj
  · intro g off cap w' h1 h2 h3
    exact h g off cap w' h1 h2 (h3.imp id (fun h => by rw [h]; simp))

/-- A new list of events. -/
structure NewEv (w w' : World) (v : Value) (l : List Ev) : Prop where
  below : Below w.heap.size w w'
  row : Row w' 56 4 v l.length (l.flatMap evC)
  new : ∀ b, v.ownBlock = some b → w.heap.size ≤ b
theorem NewEv.nil (w : World) : NewEv w w (.slice none 0 0) [] := ⟨Below.refl _ _, ⟨rfl, Or.inl ⟨rfl, rfl⟩⟩, fun b hb => by cases hb⟩
theorem NewEv.then {w w1 w2 : World} {v : Value} {l : List Ev} (h : NewEv w w1 v l) (hb : Below w1.heap.size w1 w2) : NewEv w w2 v l :=
  ⟨h.below.trans (hb.mono h.below.size), h.row.same (fun k hk => hb.block k (h.row.lt k hk)), h.new⟩

set_option maxRecDepth 8000 in
set_option maxHeartbeats 1000000 in
theorem events_any (w : World) (v : Value) (raw : List Int) (h : RAW w v raw) :
    Calls Tryd.prog 18 #[v] w fun e w' => ∃ v', e = .returned v' ∧ NewEv w w' v' (evsB raw) := by
  obtain ⟨a, b, off, cap, rfl, hcap, hat, hcell⟩ := h.ex
  have hfit := h.fits
  have hlen := h.len
  have hml : raw.length ≤ 9223372036854775807 := by unfold maxLen at hlen; omega
  have HC := Hid.mk' hcell
  have HA := Hid.mk' hat
  have HF := Hid.mk' hfit
  clear h hcell hat hfit
  go_enter Tryd.func18, Tryd.ntmps18
  go_wp2
  go_loopw [3, 4] (fun lv i wr => ∃ (k : Nat), i = .int .i64 k ∧ k ≤ raw.length ∧ k ≤ 40 ∧ Hid (NewEv w wr lv (evsB (raw.take k)))) (fun _ i _ => 40 - (intOf i).toNat)
  case atStart => exact ⟨0, rfl, Nat.zero_le _, Nat.zero_le _, Hid.mk' (by simpa [evsB] using NewEv.nil w)⟩
  case round =>
    obtain ⟨k, rfl, hk, hk40, hN⟩ := hrel
    obtain ⟨la, lcap, hlv, _⟩ := hN.out.row.form
    subst hlv
    have hel : (evsB (raw.take k)).length = k := by simp [evsB]; omega
    have hR : Hid (Row wr 56 4 (.slice la k lcap) k ((evsB (raw.take k)).flatMap evC)) := by have := hN.out.row; rw [hel] at this; exact this
    rw [hel] at hN ⊢
    clear hel
    by_cases hlt : k < raw.length
    · by_cases h40 : k < 40
      · have hne : raw ≠ [] := fun e => by rw [e] at hlt; cases hlt
        obtain ⟨rfl, hbl⟩ := HA.out hne
        obtain ⟨c, hc⟩ : ∃ c, raw[k] = c := ⟨_, rfl⟩
        have hcc : wr.cell? ⟨b, off + k, none⟩ = some (.int .i64 c) := by
          rw [hN.out.below.cell (p := ⟨b, off + k, none⟩) hbl, HC.out k hlt, hc]
        have hpick := pick_any c 1099511627776 wr (HF.out c (by rw [← hc]; exact List.getElem_mem hlt)) (by omega) (by omega)
        obtain ⟨p, hp⟩ : ∃ p, pickI c 1099511627776 = p := ⟨_, rfl⟩
        have hp0 := (pickI_nn c 1099511627776 (by omega))
        rw [hp] at hpick hp0
        obtain ⟨hp1, hp2⟩ := hp0
        have HX : Hid (evsB (raw.take (k + 1)) = evsB (raw.take k) ++ [evP p]) := by
          unfold Hid; rw [evsB_snoc raw k hlt h40, hc, hp]
        clear hc hp
        have h40' : (k : Int) < 40 := by omega
        go_wp2_with (first | (go_at_call 16; refine hpick.mono ?_; rintro e w' ⟨rfl, rfl⟩) | (at_builtin; refine append_ev1 _ rfl _ _ rfl (.slice la k lcap) k _ _ _ _ _ (by simp [Value.oneCell']) rfl hR.out rfl (by omega) ?_))
        intro g2 off2 cap2 w3 hrow3 hgrow3 hor3
        have hN3 : NewEv w w3 (.slice (some ⟨g2, off2, none⟩) (k + 1) cap2) (evsB (raw.take (k + 1))) := by
          have hsz := hN.out.below.size
          have hb3 : Below w.heap.size w w3 := (hN.out.below.alloc hsz _).grown hgrow3 (by simp; omega) hN.out.new
          refine ⟨hb3, ?_, ?_⟩
          · rw [HX.out]
            have e1 : (evsB (raw.take k) ++ [evP p]).length = k + 1 := by simp [evsB]; omega
            rw [e1, List.flatMap_append]
            have e2 : [evP p].flatMap evC = [.int .i64 (p % 3), .int .i64 (1 + p / 9 % 60), .int .u8 (97 + p / 3 % 3), .int .i64 (p / 540 % 5 - 2)] := by
              have e3 : ((UInt8.ofNat (97 + (p / 3 % 3).toNat)).toNat : Int) = 97 + p / 3 % 3 := by
                have := Int.emod_nonneg (p / 3) (show (3 : Int) ≠ 0 by omega)
                have := Int.emod_lt_of_pos (p / 3) (show (0 : Int) < 3 by omega)
                simp only [UInt8.toNat_ofNat']
                omega
              simp only [List.flatMap_cons, List.flatMap_nil, List.append_nil, evC, evP, e3]
            rw [e2]
            exact hrow3
          · intro x hx
            rcases hor3 with h | h
            · exact hN.out.new x (by rw [h]; exact hx)
            · have hx' : g2 = x := Option.some.inj hx
              omega
        have HN3 := Hid.mk' hN3
        clear hN3 hrow3 hgrow3 hor3
        go_wp2
        go_roundw
        case rel => exact ⟨k + 1, by go_num, by omega, by omega, HN3⟩
        case measure => simp [intOf]; omega
      · have h40' : ¬ (k : Int) < 40 := by omega
        go_wp2
        go_ret
        exact ⟨_, rfl, by rw [← evsB_take raw k (Or.inr (by omega))]; exact hN.out⟩
    · go_wp2
      go_ret
      exact ⟨_, rfl, by rw [← evsB_take raw k (Or.inl (by omega))]; exact hN.out⟩
end Go.Proofs.YtbgfannlfagoiaaDoor
