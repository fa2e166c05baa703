/- The law JtreeApart, where what it reads is of bulk at most 1048576: the call returns true and leaves what was there as it was; the library's variables that its row lists are what the program's text lays. -/
import Derived.Test.YtiejpenffpjmeaaDoorBase
import Derived.Test.YtiejpenffpjmeaaDoorOpen
import Derived.Test.YtiejpenffpjmeaaDoorLawApart
import Derived.Test.YtiejpenffpjmeaaDoorCards
import Derived.Test.YtiejpenffpjmeaaDoorTie
import Derived.Deep.DeepHandedRow
namespace Go.Proofs.YtiejpenffpjmeaaDoor.jtreeApartUpto
open Go.ChangeShapes Go.WideShapes Go.ChangeAt Go.RowKit
open Go.ChangeMaps (open_string shut_string)

/-- No handle stands in the list. -/
theorem noHandle (w : World) (h : laidMet Tryd.prog laidL w) : laidMetH Tryd.prog laidL w := by
  have e : (laidL.filter fun x => x.2.handleName?.isSome) = [] := by kernel_rfl
  unfold laidMetH
  rw [e]
  exact h
theorem handled (w : World) (h : laidMetH Tryd.prog laidL w) : laidMet Tryd.prog laidL w := by
  have e : (laidL.filter fun x => x.2.handleName?.isSome) = [] := by kernel_rfl
  unfold laidMetH at h
  rw [e] at h
  exact h
theorem reads (os : Os) {H : Type} (enc : TypeId × Value → H) : ∃ places, DataW.whole enc Tryd.prog ((laidWorld os).forCall (fun _ _ => 0) ⟨#[], #[Value.agg #[.int .i64 0, .string ByteArray.empty, .int .i64 0, .slice none 0 0, .int .i64 0], Value.agg #[.int .i64 0, .string ByteArray.empty, .int .i64 0, .slice none 0 0, .int .i64 0]], []⟩).memory Tryd.f7.params.toList Rows.jtreeApartSpec.vars false (#[Value.agg #[.int .i64 0, .string ByteArray.empty, .int .i64 0, .slice none 0 0, .int .i64 0], Value.agg #[.int .i64 0, .string ByteArray.empty, .int .i64 0, .slice none 0 0, .int .i64 0]]).toList 8 = some ([.agg [.lit (.int .i64 0), .lit (.string []), .lit (.int .i64 0), .nil, .lit (.int .i64 0)], .agg [.lit (.int .i64 0), .lit (.string []), .lit (.int .i64 0), .nil, .lit (.int .i64 0)]], [], places) :=
  ⟨[], by kernel_rfl⟩

set_option maxRecDepth 100000 in
theorem lifted (os : Os) (started : os.Started) (H : Type) (enc : TypeId × Value → H) (F : Stop.Interp) :
    ReturnsInHanded {} Tryd.checked os 7 .any ((Rows.OpenSpec.upto Rows.jtreeApartSpec).preRow enc Tryd.prog Tryd.f7 Rows.jtreeApartUptoRow.domain false Rows.jtreeApartUptoRow.laid) (((Rows.OpenSpec.upto Rows.jtreeApartSpec).at F).post enc Tryd.prog Tryd.f7 false true false false) := by
  obtain ⟨places, hx⟩ := reads os enc
  refine returnsInHanded_of_row (C := Tryd.checked) (s := Rows.OpenSpec.upto Rows.jtreeApartSpec) own started (by kernel_rfl) Tryd.func7
    (witness_row_at (enc := enc) (C := Tryd.checked) false (laidWorld os) #[Value.agg #[.int .i64 0, .string ByteArray.empty, .int .i64 0, .slice none 0 0, .int .i64 0], Value.agg #[.int .i64 0, .string ByteArray.empty, .int .i64 0, .slice none 0 0, .int .i64 0]] rfl (by kernel_rfl) (by kernel_rfl) (by kernel_rfl)
      (OpenSpec.preRow_of_cond 8 hx (by kernel_rfl) (fun k hk => by cases hk; kernel_rfl) (by kernel_rfl) (noHandle _ (laidWorld_met os _)))) ?_
  intro W base args ds gs before hval0 hW _ hcond _ hL _ _
  have hE := env_of (handled _ hL)
  have hk : Rows.uptoSmall H (ds ++ gs) = true := hcond _ rfl
  have goal : Calls Tryd.prog 7 args W fun e W' => ∃ v, e = .returned v ∧ Rows.jtreeApartSpec.post enc Tryd.prog Tryd.f7 false true false false W args v W' := by
    have hval : ∀ (j : Nat) t v, Tryd.f7.params[j]? = some t → args[j]? = some v → Value.okWide Tryd.prog W .any base t v := hval0
    have hW' : DataW.Whole enc Tryd.prog Tryd.f7.params.toList Rows.jtreeApartSpec.vars false W args.toList ds gs before := hW
    have hWW := hW'
    obtain ⟨p, q, hA0, hV, rfl, hfz, hnd⟩ := hWW
    have hA : DataW.TrodAll enc Tryd.prog W 0 (fun _ => true) true Tryd.f7.params.toList args.toList ds p := hA0
    rw [Tryd.params7] at hA hval
    obtain ⟨v0, vs0, d0, ds0, p0, q0, hargs, rfl, rfl, h0, r0⟩ := trodAll_cons hA
    obtain ⟨v1, vs1, d1, ds1, p1, q1, hargs1, rfl, rfl, h1, r1⟩ := trodAll_cons r0
    obtain ⟨rfl, rfl, rfl⟩ := trodAll_nil r1
    subst hargs1
    obtain rfl : args = #[v0, v1] := by cases args; simp_all
    obtain ⟨rfl, rfl⟩ := trodVars_none hV
    obtain ⟨a0, w0, s0⟩ := open_node (hval 0 24 v0 rfl rfl) h0
    obtain ⟨a1, w1, s1⟩ := open_node (hval 1 24 v1 rfl rfl) h1
    have hbulk : Rows.uptoBulkAll ([d0, d1] ++ []) ≤ 1048576 := of_decide_eq_true hk
    simp only [List.append_nil, Rows.uptoBulkAll] at hbulk
    clear hA0 hval0 hx hk hcond
    simp only [List.append_nil] at hW'
    refine (apart_law a0 a1 v0 v1 W w0 w1 (by omega) (by omega) hE (env_pos hE)).mono fun e W' ⟨he, bel⟩ => ?_
    subst he
    exact ⟨_, rfl, _, _, _, [], _, [], hW', trodAll_mk1 (shut_bool Tryd.underlying4 _), (trodAll_cons_mk (Below.trod laidOut (by kernel_rfl) (of_decide_eq_true (by kernel_rfl)) h0 bel (node_lt h0)) (trodAll_cons_mk (Below.trod laidOut (by kernel_rfl) (of_decide_eq_true (by kernel_rfl)) h1 bel (node_lt h1)) trodAll_mk0)), rfl, bel.frame _, fun h => by cases h⟩
  exact goal

theorem over : Rows.JtreeApartUptoSaid :=
  OpenClaim.holds_of_cond 7 Tryd.f7 rfl rfl rfl rfl rfl rfl rfl ⟨rfl, rfl, rfl, rfl, rfl⟩ rfl rfl rfl rfl rfl (by kernel_rfl) Tryd.func7 (by kernel_rfl)
    (of_decide_eq_true (by kernel_rfl)) (by unfold Func.isWrapper; first | (rw [if_pos (by decide +kernel)]; kernel_rfl) | (rw [if_neg (by decide +kernel)]; exact ⟨rfl, rfl⟩))
    (fun os started H enc _ F => by rw [OpenClaim.pre_eq_preRow]; exact lifted os started H enc F)

/-- The card: the row, its listed variables tied to the program's text. -/
theorem proved : Rows.JtreeApartUptoCardSaid :=
  Claim7.holds_tied_plain_at .later [] [.data, .data, .data] true Rows.jtreeApartUptoCard.stood.harness false
    over (fun _ h => by cases h) (by kernel_rfl) (fun _ h => by cases h) jtreeApartUpto_row_tie rfl ⟨rfl, rfl⟩ (by kernel_rfl) rfl
    (fun f fn hf hfn => by
      obtain rfl : f = 7 := Option.some.inj ((show Tryd.prog.funcNamed Rows.jtreeApartUptoRow.func = some 7 by kernel_rfl).symm.trans hf) |>.symm
      obtain rfl : fn = Tryd.f7 := (Option.some.inj (Tryd.func7.symm.trans hfn)).symm
      exact ⟨by kernel_rfl, fun j t ht => by
        rw [Tryd.params7] at ht
        have h9 : t = 24 := by
          rcases j with _ | _ | j
          · obtain rfl : 24 = t := Option.some.inj ht
            simp
          · obtain rfl : 24 = t := Option.some.inj ht
            simp
          · simp at ht
        subst h9
        exact (show Tryd.prog.wantsStandIn 24 = false by kernel_rfl)⟩)
    (by kernel_rfl)
#print axioms proved
end Go.Proofs.YtiejpenffpjmeaaDoor.jtreeApartUpto
