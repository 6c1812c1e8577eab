import Derived.Test.YtbgfannlfagoiaaGreatDoorZ25
import Derived.Deep.RegionWith
namespace Go.Proofs.YtbgfannlfagoiaaGreatDoor
open Go.RowKit Go.Lull
set_option linter.unusedVariables false

/-- What Add leaves. -/
def AddPost (w : World) (pb o : Nat) (bv : Value) (n : Nat) (xs : List Value) (e : Ending) (w' : World) : Prop :=
 e = .returned (.tuple #[]) ∧ ∃ bv' w1, w' = w1.setCell ⟨pb, o, none⟩ bv' ∧ Row w1 75 4 bv' (n + 1) xs ∧ Fr bv.ownBlock.toList w w1 ∧ (∀ b, bv'.ownBlock = some b → bv.ownBlock = some b ∨ w.heap.size ≤ b)

/-- An event's cells, in the row of those that wait. -/
theorem buf_cells {w : World} {g off n cap : Nat} {buf : List Ev} (h : Row w 75 4 (.slice (some ⟨g, off, none⟩) n cap) n (buf.flatMap evC)) (hn : buf.length = n) (k : Nat) (hk : k < buf.length) :
  w.cell? ⟨g, off + k * 4, none⟩ = some (.int .i64 buf[k].1) ∧ w.cell? ⟨g, off + k * 4 + 1, none⟩ = some (.int .i64 buf[k].2.1) ∧ w.cell? ⟨g, off + k * 4 + 2, none⟩ = some (.int .u8 buf[k].2.2.1.toNat) ∧ w.cell? ⟨g, off + k * 4 + 3, none⟩ = some (.int .i64 buf[k].2.2.2) := by
 obtain ⟨A, B, hAB, hA⟩ : ∃ A B, buf = A ++ buf[k] :: B ∧ A.length = k := ⟨buf.take k, buf.drop (k + 1), by rw [← List.drop_eq_getElem_cons hk, List.take_append_drop], by simp; omega⟩
 have hl : ∀ l : List Ev, (l.flatMap evC).length = l.length * 4 := by
  intro l
  induction l with
  | nil => rfl
  | cons x r ih => rw [List.flatMap_cons, List.length_append, ih]; simp [evC]; omega
 have hat : ∀ j, j < 4 → (buf.flatMap evC)[k * 4 + j]? = (evC buf[k])[j]? := by
  intro j hj
  conv => lhs; rw [hAB]
  rw [List.flatMap_append, List.flatMap_cons, List.getElem?_append_right (by rw [hl, hA]; omega), hl, hA, show k * 4 + j - k * 4 = j by omega, List.getElem?_append_left (by simp [evC]; omega)]
 obtain ⟨hxl, h0 | ⟨g', off', cap', cur, e, hg, hnc, hcm, hcs, hxs⟩⟩ := h
 ·omega
 ·cases e
  have hc : ∀ j, j < 4 → w.cell? ⟨g, off + k * 4 + j, none⟩ = (evC buf[k])[j]? := by
   intro j hj
   rw [cell_of_row w g _ _ _ _ hg, ← hat j hj, ← hxs, List.getElem?_take_of_lt (by omega), List.getElem?_drop, Nat.add_assoc]
   simp
  refine ⟨?_, ?_, ?_, ?_⟩
  ·have := hc 0 (by omega); simpa [evC] using this
  ·have := hc 1 (by omega); simpa [evC] using this
  ·have := hc 2 (by omega); simpa [evC] using this
  ·have := hc 3 (by omega); simpa [evC] using this

set_option maxRecDepth 8000 in
set_option maxHeartbeats 4000000 in
theorem add_buf (w : World) (pb o : Nat) (bv : Value) (buf : List Ev) (e : Ev) (hp : w.cell? ⟨pb, o, none⟩ = some bv) (hfz : w.frozen? ⟨pb, o, none⟩ = false) (hrow : Row w 75 4 bv buf.length (buf.flatMap evC)) (hne : bv.ownBlock ≠ some pb) (hn : buf.length < 60) (hs : SB buf) :
  Calls Tryz.prog 89 #[.pointer (some ⟨pb, o, none⟩), .agg #[.int .i64 e.1, .int .i64 e.2.1, .int .u8 e.2.2.1.toNat, .int .i64 e.2.2.2]] w (AddPost w pb o bv buf.length ((putB buf e).flatMap evC)) := by
 obtain ⟨a, cap, hbv, hcap⟩ := hrow.form
 subst hbv
 have hpz := block_lt_of_cell hp
 have hpz' : pb < w.heap.size := hpz
 obtain ⟨es, et, ek, ev⟩ := e
 obtain ⟨o1, ho1⟩ : ∃ o1 : Obj, Obj.cells #[.pointer (some ⟨pb, o, none⟩)] 156 = o1 := ⟨_, rfl⟩
 obtain ⟨o2, ho2⟩ : ∃ o2 : Obj, Obj.cells #[.int .i64 es, .int .i64 et, .int .u8 ek.toNat, .int .i64 ev] 75 = o2 := ⟨_, rfl⟩
 have HB : Hid (Below w.heap.size w ((w.alloc o1).alloc o2)) := Hid.mk' (((Below.refl _ _).alloc (Nat.le_refl _) _).alloc (by simp) _)
 have hsz0 : ((w.alloc o1).alloc o2).heap.size = w.heap.size + 1 + 1 := by simp
 -- what a world that came later still holds
 have hK : Hid (∀ W, Below (w.heap.size + 1 + 1) ((w.alloc o1).alloc o2) W → W.cell? ⟨w.heap.size, 0, none⟩ = some (.pointer (some ⟨pb, o, none⟩)) ∧ W.cell? ⟨pb, o, none⟩ = some (.slice a buf.length cap) ∧
   W.cell? ⟨w.heap.size + 1, 0, none⟩ = some (.int .i64 es) ∧ W.cell? ⟨w.heap.size + 1, 1, none⟩ = some (.int .i64 et) ∧ W.cell? ⟨w.heap.size + 1, 2, none⟩ = some (.int .u8 ek.toNat) ∧ W.cell? ⟨w.heap.size + 1, 3, none⟩ = some (.int .i64 ev)) := by
  intro W hb
  have hW : ∀ p : Addr, p.block < w.heap.size + 1 + 1 → W.cell? p = ((w.alloc o1).alloc o2).cell? p := fun p hp => hb.cell hp
  refine ⟨?_, ?_, ?_, ?_, ?_, ?_⟩
  ·rw [hW _ (by show w.heap.size < _; omega)]; subst ho1 ho2; simp [go_sem]
  ·rw [hW _ (by simp; omega), HB.out.cell (p := ⟨pb, o, none⟩) hpz]; exact hp
  ·rw [hW _ (by simp)]; subst ho1 ho2; simp [go_sem]
  ·rw [hW _ (by simp)]; subst ho1 ho2; simp [go_sem]
  ·rw [hW _ (by simp)]; subst ho1 ho2; simp [go_sem]
  ·rw [hW _ (by simp)]; subst ho1 ho2; simp [go_sem]
 have HR := Hid.mk' hrow
 have hsrch : Hid (Calls Tryz.prog 105 #[.int .i64 buf.length, .func (.func 106) #[] #[.pointer (some ⟨w.heap.size, 0, none⟩), .pointer (some ⟨w.heap.size + 1, 0, none⟩)]] ((w.alloc o1).alloc o2) fun e w' => e = .returned (.int .i64 (placeB buf (es, et, ek, ev))) ∧ Below (w.heap.size + 1 + 1) ((w.alloc o1).alloc o2) w') := by
  refine Hid.mk' ?_
  rw [← hsz0]
  refine search_any _ buf.length (placeB buf (es, et, ek, ev)) (fun k => if h : k < buf.length then after buf[k] (es, et, ek, ev) else false) _ _ (by omega) (place_le _ _) ?_ ?_ ?_
  ·intro k hk
   have := place_le buf (es, et, ek, ev)
   rw [dif_pos (by omega)]
   exact place_lo _ buf k (by omega) hk
  ·intro k hk hk2
   rw [dif_pos hk2]
   exact place_hi _ buf hs k hk2 hk
  ·intro W k hk hb
   rw [hsz0] at hb
   obtain ⟨k1, k2, k3, k4, k5, k6⟩ := hK.out W hb
   have hrw : Row W 75 4 (.slice a buf.length cap) buf.length (buf.flatMap evC) := by
    refine HR.out.same (fun b hb' => ?_)
    have hl := HR.out.lt b (by simpa using hb')
    rw [hb.block b (by omega), HB.out.block b hl]
   obtain ⟨g, off, hva⟩ : ∃ g off, a = some ⟨g, off, none⟩ := by
    rcases hrw.2 with ⟨_, h0⟩ | ⟨g, off, cap, cur, e, _⟩
    ·omega
    ·cases e; exact ⟨g, off, rfl⟩
   subst hva
   obtain ⟨x0, x1, x2, x3⟩ := buf_cells hrw rfl k hk
   rw [dif_pos hk, ← orI_after]
   exact add1_any W k w.heap.size (w.heap.size + 1) pb o g off buf.length cap buf[k] (es, et, ek, ev) hk (by omega) k1 k2 x0 x1 x2 x3 k3 k4 k5 k6
 have hins : Hid (∀ W, Below (w.heap.size + 1 + 1) ((w.alloc o1).alloc o2) W → Calls Tryz.prog 108 #[.slice a buf.length cap, .int .i64 (placeB buf (es, et, ek, ev)), .slice (some ⟨W.heap.size, 0, none⟩) 1 1] (W.alloc o2).drew
   fun e w2 => ∃ bv', e = .returned bv' ∧ w2.cell? ⟨w.heap.size, 0, none⟩ = some (.pointer (some ⟨pb, o, none⟩)) ∧ w2.cell? ⟨pb, o, none⟩ = some (.slice a buf.length cap) ∧ (w2.cell? ⟨w.heap.size + 1, 0, none⟩ = some (.int .i64 es) ∧ w2.cell? ⟨w.heap.size + 1, 1, none⟩ = some (.int .i64 et) ∧ w2.cell? ⟨w.heap.size + 1, 2, none⟩ = some (.int .u8 ek.toNat) ∧ w2.cell? ⟨w.heap.size + 1, 3, none⟩ = some (.int .i64 ev)) ∧ w2.frozen? ⟨pb, o, none⟩ = false ∧ Hid (AddPost w pb o (.slice a buf.length cap) buf.length ((putB buf (es, et, ek, ev)).flatMap evC) (.returned (.tuple #[])) (w2.setCell ⟨pb, o, none⟩ bv')) ∧ ∃ x y z, bv' = .slice x y z) := by
  intro W hb
  have hsz := hb.size
  rw [hsz0] at hsz
  have hBW : Below w.heap.size w (W.alloc o2).drew := ((HB.out.trans (hb.mono (by omega))).alloc (by omega) _).drew
  have hrw : Row (W.alloc o2).drew 75 4 (.slice a buf.length cap) buf.length (buf.flatMap evC) :=
   HR.out.same (fun b hb' => hBW.block b (HR.out.lt b (by simpa using hb')))
  refine (insert_ev (W.alloc o2).drew _ buf.length (placeB buf (es, et, ek, ev)) W.heap.size 1 (buf.flatMap evC) (evC (es, et, ek, ev)) (by omega) (place_le _ _) hrw (evC_one' buf) ?_ rfl ?_ ?_).mono ?_
  ·show (W.alloc o2).heap[W.heap.size]? = _
   rw [heap_alloc_new, ← ho2]; rfl
  ·intro u hu
   have := evC_one' [(es, et, ek, ev)] u (by simpa using hu)
   exact this
  ·intro hh
   have := HR.out.lt W.heap.size (by rw [hh])
   omega
  ·rintro e2 w2 ⟨bv', rfl, r1, r2, r3⟩
   rw [← put_cells] at r1
   have hnb : pb ∉ (Value.slice a buf.length cap).ownBlock.toList := by
    intro hm
    exact hne (by simpa using hm)
   have hb1 : w2.heap[pb]? = w.heap[pb]? := by
    rw [r2.block pb (by have := hBW.size; omega) hnb, hBW.block pb hpz']
   have hb2 : ∀ N, w.heap.size ≤ N → N < w.heap.size + 1 + 1 → w2.heap[N]? = (W.alloc o2).drew.heap[N]? := fun N h1 h2 => r2.block _ (by have := hBW.size; simp; omega) (by
    intro hm
    have := HR.out.lt N (by simpa using hm)
    omega)
   have h3 : Below (w.heap.size + 1 + 1) ((w.alloc o1).alloc o2) (W.alloc o2).drew := (hb.alloc (by omega) _).drew
   have hb3 : ∀ j, w2.cell? ⟨w.heap.size + 1, j, none⟩ = (W.alloc o2).drew.cell? ⟨w.heap.size + 1, j, none⟩ := fun j => World.cell?_of_block (a := ⟨w.heap.size + 1, j, none⟩) (hb2 (w.heap.size + 1) (by omega) (by omega))
   obtain ⟨_, _, q3, q4, q5, q6⟩ := hK.out _ h3
   obtain ⟨x, y, e', _⟩ := r1.form
   refine ⟨bv', rfl, ?_, ?_, ⟨(hb3 _).trans q3, (hb3 _).trans q4, (hb3 _).trans q5, (hb3 _).trans q6⟩, ?_, ⟨rfl, bv', w2, rfl, r1, ?_, ?_⟩, x, _, y, e'⟩
   ·rw [World.cell?_of_block (a := ⟨w.heap.size, 0, none⟩) (hb2 w.heap.size (by omega) (by omega))]
    exact (hK.out _ h3).1
   ·rw [World.cell?_of_block (a := ⟨pb, o, none⟩) hb1]; exact hp
   ·rw [World.frozen?_of_block (a := ⟨pb, o, none⟩) hb1]; exact hfz
   ·exact (Fr.of_below _ hBW).trans r2
   ·intro b hb'
    rcases r3 b hb' with h | h
    ·exact Or.inl h
    ·refine Or.inr ?_
     have := hBW.size
     omega
 obtain ⟨PL, hPL⟩ : ∃ PL, placeB buf (es, et, ek, ev) = PL := ⟨_, rfl⟩
 rw [hPL] at hsrch hins
 obtain ⟨PO, hPO⟩ : ∃ PO, AddPost w pb o (.slice a buf.length cap) buf.length ((putB buf (es, et, ek, ev)).flatMap evC) = PO := ⟨_, rfl⟩
 rw [hPO] at hins ⊢
 subst ho1 ho2
 clear hPL hPO hrow hs hne
 have k0 := hK.out _ (Below.refl _ _)
 obtain ⟨k1, k2, k3⟩ := k0
 clear k3
 simp only
 go_enter Tryz.func89, Tryz.ntmps89
 go_wp2_with (go_at_call 105; refine hsrch.out.mono ?_; rintro e w1 ⟨rfl, hb⟩; obtain ⟨m1, m2, m3, m4, m5, m6⟩ := hK.out w1 hb)
 have t1 : (w1.alloc (.cells #[.int .i64 es, .int .i64 et, .int .u8 ek.toNat, .int .i64 ev] 75)).cell? ⟨w.heap.size, 0, none⟩ = some (.pointer (some ⟨pb, o, none⟩)) := (World.cell?_alloc_some w1 _ _ (by rw [m1]; rfl)).trans m1
 have t2 : (w1.alloc (.cells #[.int .i64 es, .int .i64 et, .int .u8 ek.toNat, .int .i64 ev] 75)).cell? ⟨pb, o, none⟩ = some (.slice a buf.length cap) := (World.cell?_alloc_some w1 _ _ (by rw [m2]; rfl)).trans m2
 have hI := Hid.mk' (hins.out w1 hb)
 clear hp k1 k2 hcap hK HR HB hsrch hn hpz hfz hins hb hsz0 hpz'
 generalize w.heap.size = NN at m1 m2 m3 m4 m5 m6 t1 t2 hI ⊢
 generalize buf.length = LL at m1 m2 m3 m4 m5 m6 t1 t2 hI ⊢
 clear w
 go_region_with (go_at_call 108; with_reducible refine hI.out.mono ?_; rintro e w2 ⟨bv', rfl, n1, n2, ⟨q3, q4, q5, q6⟩, n3, hP, x, y, z, rfl⟩)
 all_goals
  go_end0
  exact hP.out
end Go.Proofs.YtbgfannlfagoiaaGreatDoor
