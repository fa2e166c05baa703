/- The law JtreeShows, where what it reads is of bulk at most 1048576: the call returns true and leaves what was there as it was; the library's variables that its row lists are what the program's text lays. -/
import Derived.Test.YtiejpenffpjmeaaDoorBase
import Derived.Test.YtiejpenffpjmeaaDoorOpen
import Derived.Test.YtiejpenffpjmeaaDoorLawShows
import Derived.Test.YtiejpenffpjmeaaDoorCards
import Derived.Test.YtiejpenffpjmeaaDoorTie
import Derived.Deep.DeepHandedRow
namespace Go.Proofs.YtiejpenffpjmeaaDoor.jtreeShowsUpto
open Go.ChangeShapes Go.WideShapes Go.ChangeAt Go.RowKit
open Go.ChangeMaps (open_string shut_string)

/-- No handle stands in the list. -/
theorem noHandle (w : World) (h : laidMet Tryd.prog laidL w) : laidMetH Tryd.prog laidL w := by
  have e : (laidL.filter fun x => x.2.handleName?.isSome) = [] := by kernel_rfl
  unfold laidMetH
  rw [e]
  exact h
theorem handled (w : World) (h : laidMetH Tryd.prog laidL w) : laidMet Tryd.prog laidL w := by
  have e : (laidL.filter fun x => x.2.handleName?.isSome) = [] := by kernel_rfl
  unfold laidMetH at h
  rw [e] at h
  exact h
theorem reads (os : Os) {H : Type} (enc : TypeId × Value → H) : ∃ places, DataW.whole enc Tryd.prog ((laidWorld os).forCall (fun _ _ => 0) ⟨#[], #[Value.agg #[.int .i64 0, .string ByteArray.empty, .int .i64 0, .slice none 0 0, .int .i64 0]], []⟩).memory Tryd.f4.params.toList Rows.jtreeShowsSpec.vars false (#[Value.agg #[.int .i64 0, .string ByteArray.empty, .int .i64 0, .slice none 0 0, .int .i64 0]]).toList 8 = some ([.agg [.lit (.int .i64 0), .lit (.string []), .lit (.int .i64 0), .nil, .lit (.int .i64 0)]], [], places) :=
  ⟨[], by kernel_rfl⟩

set_option maxRecDepth 100000 in
theorem lifted (os : Os) (started : os.Started) (H : Type) (enc : TypeId × Value → H) (F : Stop.Interp) :
    ReturnsInHanded {} Tryd.checked os 4 .any ((Rows.OpenSpec.upto Rows.jtreeShowsSpec).preRow enc Tryd.prog Tryd.f4 Rows.jtreeShowsUptoRow.domain false Rows.jtreeShowsUptoRow.laid) (((Rows.OpenSpec.upto Rows.jtreeShowsSpec).at F).post enc Tryd.prog Tryd.f4 false true false false) := by
  obtain ⟨places, hx⟩ := reads os enc
  refine returnsInHanded_of_row (C := Tryd.checked) (s := Rows.OpenSpec.upto Rows.jtreeShowsSpec) own started (by kernel_rfl) Tryd.func4
    (witness_row_at (enc := enc) (C := Tryd.checked) false (laidWorld os) #[Value.agg #[.int .i64 0, .string ByteArray.empty, .int .i64 0, .slice none 0 0, .int .i64 0]] rfl (by kernel_rfl) (by kernel_rfl) (by kernel_rfl)
      (OpenSpec.preRow_of_cond 8 hx (by kernel_rfl) (fun k hk => by cases hk; kernel_rfl) (by kernel_rfl) (noHandle _ (laidWorld_met os _)))) ?_
  intro W base args ds gs before hval0 hW _ hcond _ hL _ _
  have hE := env_of (handled _ hL)
  have hk : Rows.uptoSmall H (ds ++ gs) = true := hcond _ rfl
  have goal : Calls Tryd.prog 4 args W fun e W' => ∃ v, e = .returned v ∧ Rows.jtreeShowsSpec.post enc Tryd.prog Tryd.f4 false true false false W args v W' := by
    have hval : ∀ (j : Nat) t v, Tryd.f4.params[j]? = some t → args[j]? = some v → Value.okWide Tryd.prog W .any base t v := hval0
    have hW' : DataW.Whole enc Tryd.prog Tryd.f4.params.toList Rows.jtreeShowsSpec.vars false W args.toList ds gs before := hW
    have hWW := hW'
    obtain ⟨p, q, hA0, hV, rfl, hfz, hnd⟩ := hWW
    have hA : DataW.TrodAll enc Tryd.prog W 0 (fun _ => true) true Tryd.f4.params.toList args.toList ds p := hA0
    rw [Tryd.params4] at hA hval
    obtain ⟨v0, vs0, d0, ds0, p0, q0, hargs, rfl, rfl, h0, r0⟩ := trodAll_cons hA
    obtain ⟨rfl, rfl, rfl⟩ := trodAll_nil r0
    obtain rfl : args = #[v0] := by cases args; simp_all
    obtain ⟨rfl, rfl⟩ := trodVars_none hV
    obtain ⟨a0, w0, s0⟩ := open_node (hval 0 24 v0 rfl rfl) h0
    have hbulk : Rows.uptoBulkAll ([d0] ++ []) ≤ 1048576 := of_decide_eq_true hk
    simp only [List.append_nil, Rows.uptoBulkAll] at hbulk
    clear hA0 hval0 hx hk hcond
    simp only [List.append_nil] at hW'
    refine (shows_law a0 v0 W w0 (by omega) hE (env_pos hE)).mono fun e W' ⟨he, bel⟩ => ?_
    subst he
    exact ⟨_, rfl, _, _, _, [], _, [], hW', trodAll_mk1 (shut_bool Tryd.underlying4 _), (trodAll_cons_mk (Below.trod laidOut (by kernel_rfl) (of_decide_eq_true (by kernel_rfl)) h0 bel (node_lt h0)) trodAll_mk0), rfl, bel.frame _, fun h => by cases h⟩
  exact goal

theorem over : Rows.JtreeShowsUptoSaid :=
  OpenClaim.holds_of_cond 4 Tryd.f4 rfl rfl rfl rfl rfl rfl rfl ⟨rfl, rfl, rfl, rfl, rfl⟩ rfl rfl rfl rfl rfl (by kernel_rfl) Tryd.func4 (by kernel_rfl)
    (of_decide_eq_true (by kernel_rfl)) (by unfold Func.isWrapper; first | (rw [if_pos (by decide +kernel)]; kernel_rfl) | (rw [if_neg (by decide +kernel)]; exact ⟨rfl, rfl⟩))
    (fun os started H enc _ F => by rw [OpenClaim.pre_eq_preRow]; exact lifted os started H enc F)

/-- The card: the row, its listed variables tied to the program's text. -/
theorem proved : Rows.JtreeShowsUptoCardSaid :=
  Claim7.holds_tied_plain_at .later [] [.data, .data, .data] true Rows.jtreeShowsUptoCard.stood.harness false
    over (fun _ h => by cases h) (by kernel_rfl) (fun _ h => by cases h) jtreeShowsUpto_row_tie rfl ⟨rfl, rfl⟩ (by kernel_rfl) rfl
    (fun f fn hf hfn => by
      obtain rfl : f = 4 := Option.some.inj ((show Tryd.prog.funcNamed Rows.jtreeShowsUptoRow.func = some 4 by kernel_rfl).symm.trans hf) |>.symm
      obtain rfl : fn = Tryd.f4 := (Option.some.inj (Tryd.func4.symm.trans hfn)).symm
      exact ⟨by kernel_rfl, fun j t ht => by
        rw [Tryd.params4] at ht
        have h9 : t = 24 := by
          rcases j with _ | j
          · obtain rfl : 24 = t := Option.some.inj ht
            simp
          · simp at ht
        subst h9
        exact (show Tryd.prog.wantsStandIn 24 = false by kernel_rfl)⟩)
    (by kernel_rfl)
#print axioms proved
end Go.Proofs.YtiejpenffpjmeaaDoor.jtreeShowsUpto
