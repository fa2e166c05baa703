/- The law BitsUnions: whatever the input, the call returns true and leaves what was there as it was. -/
import Derived.Test.YtpfmncdodcbamaaRows
import Derived.Test.YtpfmncdodcbamaaLawUnions
import Derived.WalkKit
import Derived.ProofKit
import Derived.OpenShut
import Derived.ShutString
import Derived.ChangeOld
import Derived.Below
import Derived.Deep.Matrix
namespace Go.Proofs.Ytpfmncdodcbamaa.bitsUnions
open Go.ChangeShapes Go.WideShapes Go.ChangeAt Go.RowKit
open Go.ChangeMaps (open_string shut_string)

theorem own : ownKnob Try.prog.godebug = none := by kernel_rfl
theorem laidOut : laidOutB Try.prog = true := by kernel_rfl

theorem walk (a0 : Option Addr) (len0 cap0 : Nat) (css : List (List Int)) (w : World) (h : RowsIn w a0 len0 css) :
    Calls Try.prog 4 #[.slice a0 len0 cap0] w fun e w' => e = .returned (.bool true) ∧ Below w.heap.size w w' := unions_walk a0 len0 cap0 css w h

set_option maxRecDepth 100000 in
theorem lifted (os : Os) (started : os.Started) (H : Type) (enc : TypeId × Value → H) :
    ReturnsInHanded {} Try.checked os 4 .any (Rows.bitsUnionsSpec.pre6 enc Try.prog Try.f4 Rows.bitsUnionsRow.domain false) (Rows.bitsUnionsSpec.post enc Try.prog Try.f4 false true false false) := by
  refine returnsInHanded_of_change (C := Try.checked) own started (by kernel_rfl) Try.func4
    (ChangeSpec.witness6 (enc := enc) (C := Try.checked) false ⟨#[], #[.slice none 0 0], []⟩ 8 (by kernel_rfl) (by kernel_rfl) (by kernel_rfl) (by kernel_rfl)) ?_
  intro W base args ds gs before hval0 hW hcnd _
  have hval : ∀ (j : Nat) t v, Try.f4.params[j]? = some t → args[j]? = some v → Value.okWide Try.prog W .any base t v := hval0
  have hW' := hW
  obtain ⟨p, q, hA0, hV, rfl, hfz, hnd⟩ := hW
  have hA : DataW.TrodAll enc Try.prog W 0 (fun _ => true) true Try.f4.params.toList args.toList ds p := hA0
  rw [Try.params4] at hA hval
  obtain ⟨v0, vs0, d0, ds0, p0, q0, hargs, rfl, rfl, h0, r0⟩ := trodAll_cons hA
  obtain ⟨rfl, rfl, rfl⟩ := trodAll_nil r0
  obtain rfl : args = #[v0] := by cases args; simp_all
  obtain ⟨rfl, rfl⟩ := trodVars_none hV
  obtain ⟨a0, len0, cap0, rfl⟩ := okWide_slice Try.underlying31 (hval 0 31 v0 rfl rfl)
  have k0 := h0
  have lt0 : ∀ x ∈ p0, x.block < W.heap.size := by obtain ⟨m, hm⟩ := k0; exact DataW.trod_lt m _ _ _ hm
  obtain ⟨css, w0⟩ : ∃ css, RowsIn W a0 len0 css := by
    obtain ⟨fuel, hf⟩ := h0
    rcases Go.Deep.open_int_rows Try.underlying31 Try.underlying22 Try.underlying3 (by kernel_rfl) (by kernel_rfl) hf with ⟨hcs, _⟩ | ⟨x, l, c, AA, L, C, Z, hcs, _, hl, _, _, hrow⟩
    · simp [Value.cells] at hcs
      obtain ⟨rfl, rfl, rfl⟩ := hcs
      exact ⟨[], rfl, fun h => absurd h (by omega)⟩
    · simp [Value.cells] at hcs
      obtain ⟨rfl, rfl, rfl⟩ := hcs
      refine ⟨(List.range len0).map (fun r => (Z r).take (min (L r) 200)), by simp, fun hn => ⟨x, rfl, ?_, fun j zs hj => ?_⟩⟩
      · have := World.block_lt_of_cell? _ _ (hrow 0 (by omega)).1
        rwa [add_block] at this
      · rw [List.getElem?_map] at hj
        obtain ⟨r, hr, rfl⟩ := Option.map_eq_some_iff.1 hj
        obtain ⟨hr1, hr2⟩ := List.getElem?_eq_some_iff.1 hr
        simp at hr1 hr2
        subst hr2
        obtain ⟨g1, g2, g3, g4, g5, g6, g7⟩ := hrow j (by omega)
        unfold maxLen at g3
        refine ⟨AA j, L j, C j, g1, g2, g3, by rw [List.length_take, g4]; omega, by omega, ⟨by omega, g3⟩, fun z hz => ?_, fun hm => ?_⟩
        · have := bounds_i64 (g5 z (List.mem_of_mem_take hz))
          unfold I64
          omega
        · cases hA : AA j with
          | none => have := g6 hA; omega
          | some a' =>
            obtain ⟨_, g8⟩ := g7 a' hA
            have hc0 := g8 0 (by omega)
            refine ⟨a', rfl, by have := World.block_lt_of_cell? _ _ hc0; rwa [add_block] at this, fun i z hi => ?_⟩
            have hil := (List.getElem?_eq_some_iff.1 hi).1
            rw [List.length_take] at hil
            rw [List.getElem?_take_of_lt (by omega)] at hi
            rw [g8 i (by omega), List.getD_eq_getElem?_getD, hi]
            rfl
  clear hA0 hval0
  refine (walk a0 len0 cap0 css W w0).mono fun e W' ⟨he, bel⟩ => ?_
  subst he
  exact ⟨_, rfl, _, _, _, [], _, [], hW', trodAll_mk1 (shut_bool Try.underlying4 _), (trodAll_cons_mk (Below.trod laidOut (by kernel_rfl) (of_decide_eq_true (by kernel_rfl)) k0 bel lt0) trodAll_mk0), rfl, bel.frame _, fun h => by cases h⟩

theorem over : Rows.bitsUnionsRow.holds Try.pinned (OpenSpec.ofChange Rows.bitsUnionsSpec) :=
  OpenClaim.holds_of_wide 4 Try.f4 rfl rfl rfl rfl rfl rfl rfl ⟨rfl, rfl, rfl, rfl, rfl⟩ rfl rfl rfl rfl rfl (by kernel_rfl) Try.func4 (by kernel_rfl)
    (of_decide_eq_true (by kernel_rfl)) (by unfold Func.isWrapper; first | (rw [if_pos (by decide +kernel)]; kernel_rfl) | (rw [if_neg (by decide +kernel)]; exact ⟨rfl, rfl⟩))
    (fun os started H enc _ => lifted os started H enc)

theorem proved : Rows.BitsUnionsSaid := over
#print axioms proved
end Go.Proofs.Ytpfmncdodcbamaa.bitsUnions
