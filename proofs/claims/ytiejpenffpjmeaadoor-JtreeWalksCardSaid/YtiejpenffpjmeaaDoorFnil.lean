/- A function value against nil. -/
import Derived.Test.YtiejpenffpjmeaaDoorSound
namespace Go.Proofs.YtiejpenffpjmeaaDoor
open Go.RowKit Go.Proofs
theorem under27 : (match Tryd.prog.underlying 27 with | some (.func ..) => true | _ => false) = true := by kernel_rfl
theorem run_eql_fn (f : Fn) (a c : Array Value) (w : World) : (binOp .eql 27 (.func f a c) .nilFunc).run Tryd.prog w = .ok (.bool false) w := by
  obtain ⟨d, hd⟩ : ∃ d, Tryd.prog.underlying 27 = some d := by
    cases h : Tryd.prog.underlying 27 with
    | none => have := under27; rw [h] at this; cases this
    | some d => exact ⟨d, rfl⟩
  have h2 := under27
  rw [hd] at h2
  cases d <;> first | (cases h2; done) | skip
  have e : (Op.equalIn Op.maxDepth 27 (.func f a c) .nilFunc).run Tryd.prog w = .ok false w := by
    unfold Op.maxDepth Op.equalIn
    rw [Sem.run_bind, run_underlying hd]
    rfl
  simp [binOp, Op.equal, e]
end Go.Proofs.YtiejpenffpjmeaaDoor
