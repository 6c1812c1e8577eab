/- For every list of texts of bulk at most 1048576, Texts answers true: Register of a new Engine tells the numbers, or the error and the place, that the document asks for (P4). Conditions: the list's bulk (values and letters together) is at most 1048576; the two tables of unicode/utf8 that the program names start as the program's text lays them (the card ties that; they are not read on this road). -/
import Derived.Test.YtbgfannlfagoiaaDoorCards
import Derived.Test.YtbgfannlfagoiaaDoorTie
import Derived.Test.YtbgfannlfagoiaaDoorTg
import Derived.ProofKit
import Derived.OpenShut
import Derived.LaidMore
import Derived.Lay
import Derived.SevenTiedAt
import Derived.Stop.Joined
import Derived.Deep.DeepHandedRow
import Derived.SliceStrings
import Derived.Shelf.LaysM
namespace Go.Proofs.YtbgfannlfagoiaaDoor
open Go.ChangeShapes Go.WideShapes Go.ChangeAt Go.RowKit Go.Lull
set_option linter.unusedVariables false

theorem ownT : ownKnob Tryd.prog.godebug = none := by kernel_rfl
theorem laidOutT : laidOutB Tryd.prog = true := by kernel_rfl
theorem cellsStr : Tryd.prog.cellsOf 9 = 1 := by kernel_rfl

theorem strs_bulk {H : Type} (l : List ByteArray) : l.length ≤ Rows.uptoBulkAll (strs l : List (DataW H)) := by
  induction l with
  | nil => exact Nat.zero_le _
  | cons s l ih =>
    show l.length + 1 ≤ (s.data.toList.length + 1) + Rows.uptoBulkAll (strs l)
    omega

set_option maxRecDepth 100000 in
theorem texts_lifted (os : Os) (started : os.Started) (H : Type) (enc : TypeId × Value → H) (F : Stop.Interp) :
    ReturnsInHanded {} Tryd.checked os 3 .any ((Rows.OpenSpec.upto Rows.textsSpec).preRow enc Tryd.prog Tryd.f3 Rows.textsUptoRow.domain false Rows.textsUptoRow.laid) (((Rows.OpenSpec.upto Rows.textsSpec).at F).post enc Tryd.prog Tryd.f3 false true false false) := by
  have hx : DataW.whole enc Tryd.prog ((World.laidAll Tryd.prog os Rows.textsUptoRow.laid).forCall (fun _ _ => 0) ⟨#[], #[.slice none 0 0], []⟩).memory Tryd.f3.params.toList (Rows.OpenSpec.upto Rows.textsSpec).vars false #[Value.slice none 0 0].toList 8 = some ([.nil], [], []) := by kernel_rfl
  have hok : Input.okWideB Tryd.checked.prog ((World.laidAll Tryd.prog os Rows.textsUptoRow.laid).forCall (fun _ _ => 0) ⟨#[], #[.slice none 0 0], []⟩) 3 ⟨#[], #[.slice none 0 0], []⟩ = true := by kernel_rfl
  refine returnsInHanded_of_row (C := Tryd.checked) (s := Rows.OpenSpec.upto Rows.textsSpec) ownT started (by kernel_rfl) Tryd.func3
    ⟨World.laidAll Tryd.prog os Rows.textsUptoRow.laid, fun _ _ => 0, ⟨#[], #[.slice none 0 0], []⟩, World.laidAll_os _ _ _, World.shaped_of_ZipB (by kernel_rfl) (by kernel_rfl), (Input.okWide_of_okWideB (base := 0) hok).1, (Input.okWide_of_okWideB hok).2,
      OpenSpec.preRow_of_cond 8 hx (by kernel_rfl) (fun k hk => by cases hk; kernel_rfl) (by kernel_rfl) (by rw [MakeChecks.laidMetH_plain _ _ _ (by kernel_rfl)]; exact laidMet_laidAll _ (by kernel_rfl) (by kernel_rfl)), by
        simp only [Assume.holds]
        exact ⟨by simp, by simp, fun _ => Modest.zero, by simp, by simp⟩⟩ ?_
  intro W base args ds gs before hval0 hW _ hcond _ _ hsh _
  have hval : ∀ (j : Nat) t v, Tryd.f3.params[j]? = some t → args[j]? = some v → Value.okWide Tryd.prog W .any base t v := hval0
  have hW' := hW
  obtain ⟨p, q, hA0, hV, rfl, hfz, hnd⟩ := hW
  have hA : DataW.TrodAll enc Tryd.prog W 0 (fun _ => true) true Tryd.f3.params.toList args.toList ds p := hA0
  rw [Tryd.params3] at hA hval
  obtain ⟨v0, vs0, d0, ds0, p0, q0, hargs, rfl, rfl, h0, r0⟩ := trodAll_cons hA
  obtain ⟨rfl, rfl, rfl⟩ := trodAll_nil r0
  obtain rfl : args = #[v0] := by cases args; simp_all
  obtain ⟨rfl, rfl⟩ := trodVars_none hV
  obtain ⟨a0, len0, cap0, rfl⟩ := okWide_slice Tryd.underlying22 (hval 0 22 v0 rfl rfl)
  have k0 := h0
  have lt0 : ∀ x ∈ p0, x.block < W.heap.size := by obtain ⟨m, hm⟩ := k0; exact DataW.trod_lt m _ _ _ hm
  have hk : Rows.uptoBulkAll ([d0] ++ []) ≤ 1048576 := of_decide_eq_true (hcond _ rfl)
  obtain ⟨m, hm⟩ := Go.Proofs.cell_of_shapedOpen_int (zero := #[.int .i64 0]) (t := 3) hsh (g := 0) (of_decide_eq_true (by kernel_rfl)) (by kernel_rfl) rfl (by kernel_rfl) (by kernel_rfl) Tryd.underlying3
  have walk : Calls Tryd.prog 3 #[.slice a0 len0 cap0] W fun e w' => e = .returned (.bool true) ∧ Below W.heap.size W w' := by
    obtain ⟨fuel, hf⟩ := h0
    rcases open_strings Tryd.underlying22 Tryd.underlying9 cellsStr hf with ⟨hcs, _⟩ | ⟨x, l, c, ss, hcs, _, hl, hmx, hz, hx, hcell, hws⟩
    · simp [Value.cells] at hcs
      obtain ⟨rfl, rfl, rfl⟩ := hcs
      exact texts_any W none 0 0 0 [] m hm ⟨fun h => absurd rfl h, fun h => absurd rfl h, fun k hk => by cases hk⟩ (by simp) (by simp)
    · simp [Value.cells] at hcs
      obtain ⟨rfl, rfl, rfl⟩ := hcs
      have hss : ss.length = cap0 := by simpa using hz
      have hlen : len0 ≤ 1048576 := by
        have e : d0 = .slice (strs (ss.take len0)) (strs (ss.drop len0)) := (Prod.mk.inj hx).1
        rw [e] at hk
        have h1 := strs_bulk (H := H) (ss.take len0)
        have h2 : Rows.uptoBulkAll ([(DataW.slice (strs (ss.take len0)) (strs (ss.drop len0)) : DataW H)] ++ []) = Rows.uptoBulkAll (strs (ss.take len0) : List (DataW H)) + Rows.uptoBulkAll (strs (ss.drop len0) : List (DataW H)) + 1 + 0 := rfl
        rw [h2] at hk
        rw [List.length_take] at h1
        omega
      have hlt : (ss.take len0).length = len0 := by rw [List.length_take]; omega
      have hX : ∃ b off, TX W (some x) b off (ss.take len0) := by
        obtain ⟨b, off, spot⟩ := x
        by_cases he : ss.take len0 = []
        · exact ⟨0, 0, fun h => absurd he h, fun h => absurd he h, fun k hk => by rw [he] at hk; cases hk⟩
        · have hp : 0 < (ss.take len0).length := List.length_pos_iff.2 he
          have hspot : spot = none := by
            have := World.cell?_spot (hcell 0 (by omega))
            simpa [Addr.add] using this
          subst hspot
          refine ⟨b, off, fun _ => rfl, fun _ => ?_, fun k hk => ?_⟩
          · have := block_lt_of_cell (hcell 0 (by omega))
            simpa [Addr.add] using this
          · have hk2 : k < ss.length := by rw [hlt] at hk; omega
            have := hcell k hk2
            rw [Go.WideShapes.add_plain] at this
            rw [this]
            simp [hk2]
      obtain ⟨b, off, hX⟩ := hX
      have := texts_any W (some x) b off cap0 (ss.take len0) m hm hX (by omega) (by omega)
      rw [hlt] at this
      exact this
  refine walk.mono fun e W' ⟨he, bel⟩ => ?_
  subst he
  exact ⟨_, rfl, _, _, _, [], _, [], hW', trodAll_mk1 (shut_bool Tryd.underlying4 _), (trodAll_cons_mk (Below.trod laidOutT (by kernel_rfl) (of_decide_eq_true (by kernel_rfl)) k0 bel lt0) trodAll_mk0), rfl, bel.frame _, fun h => by cases h⟩

theorem texts_row : Rows.TextsUptoSaid :=
  OpenClaim.holds_of_cond 3 Tryd.f3 rfl rfl rfl rfl rfl rfl rfl ⟨rfl, rfl, rfl, rfl, rfl⟩ rfl rfl rfl rfl rfl (by kernel_rfl) Tryd.func3 (by kernel_rfl)
    (of_decide_eq_true (by kernel_rfl)) (by unfold Func.isWrapper; first | (rw [if_pos (by decide +kernel)]; kernel_rfl) | (rw [if_neg (by decide +kernel)]; exact ⟨rfl, rfl⟩))
    (fun os started H enc _ F => by rw [OpenClaim.pre_eq_preRow]; exact texts_lifted os started H enc F)

theorem texts_holds : Rows.TextsUptoCardSaid :=
  Claim7.holds_tied_plain_at .later [] _ _ _ _ texts_row (fun _ h => by cases h) (by kernel_rfl) (fun _ h => by cases h) textsUpto_row_tie rfl ⟨rfl, rfl⟩ (by kernel_rfl) rfl
    (fun f fn hf hfn => by
      obtain rfl : f = 3 := Option.some.inj ((show Tryd.prog.funcNamed "lull/lulllaw.Texts" = some 3 by kernel_rfl).symm.trans hf) |>.symm
      obtain rfl : fn = Tryd.f3 := (Option.some.inj (Tryd.func3.symm.trans hfn)).symm
      exact ⟨by kernel_rfl, fun j t ht => by
        rw [Tryd.params3] at ht
        have hm : t ∈ [22] := by simpa using Array.mem_of_getElem? ht
        have hall : ([22].all fun u => !Tryd.prog.wantsStandIn u) = true := by kernel_rfl
        exact (show Tryd.prog.wantsStandIn t = false by simpa using List.all_eq_true.1 hall t hm)⟩)
    (by kernel_rfl)
#print axioms texts_holds
end Go.Proofs.YtbgfannlfagoiaaDoor
