/- What all laws' rows share: how arguments open. -/
import Derived.Test.YtpbbinppikaamaaRows
import Derived.Test.YtpbbinppikaamaaObj
import Derived.WalkKit
import Derived.ProofKit
import Derived.OpenShut
import Derived.ShutString
import Derived.ChangeOld
import Derived.Below
import Derived.Lib.SmallJoins
namespace Go.Proofs.Ytpbbinppikaamaa
open Go.ChangeShapes Go.WideShapes Go.ChangeAt Go.RowKit
open Go.ChangeMaps (open_string shut_string)

theorem ownK : ownKnob Try.prog.godebug = none := by kernel_rfl
theorem laidOut : laidOutB Try.prog = true := by kernel_rfl
open Go.Joins
variable {H : Type} {enc : TypeId × Value → H}
theorem cells32 : Try.prog.cellsOf 32 = 3 := by kernel_rfl
/-- A value that comes in: its three parts. -/
theorem open_val {W : World} {r : Reach} {b0 : Nat} {v : Value} {d : DataW H} {ps : List MemPlace} (hval : Value.okWide Try.prog W r b0 32 v) (h : DataW.Trod enc Try.prog W 0 (fun _ => true) true 32 v d ps) :
    ∃ x : V, v = x.v ∧ d = .agg [.lit (.int .i64 x.k), .lit (.int .i64 x.n), .lit (.string x.s.data.toList)] ∧ ps = [] ∧ (Lit.int .i64 x.k).wf = true ∧ (Lit.int .i64 x.n).wf = true ∧ x.s.size ≤ maxLen := by
  obtain ⟨c0, c1, c2, y0, y1, y2, m, rfl, rfl, rfl, h0, h1, h2⟩ := open_agg3 Try.underlying32 (by kernel_rfl) cells32 hval h
  obtain ⟨k, e0, rfl, wk⟩ := DataW.trod_int Try.underlying3 h0
  obtain ⟨n, e1, rfl, wn⟩ := DataW.trod_int Try.underlying2 h1
  obtain ⟨s, e2, rfl, ws⟩ := DataW.trod_string Try.underlying9 h2
  simp at e0 e1 e2
  subst e0 e1 e2
  exact ⟨⟨k, n, s⟩, rfl, rfl, rfl, wk, wn, ws⟩
theorem shut_val {W : World} {base : Nat} {sp : Nat → Bool} {held : Bool} {x : V} (wk : (Lit.int .i64 x.k).wf = true) (wn : (Lit.int .i64 x.n).wf = true) (ws : x.s.size ≤ maxLen) :
    DataW.Trod enc Try.prog W base sp held 32 x.v (.agg [.lit (.int .i64 x.k), .lit (.int .i64 x.n), .lit (.string x.s.data.toList)]) [] :=
  shut_agg3 (y0 := (.lit (.int .i64 x.k), [])) (y1 := (.lit (.int .i64 x.n), [])) (y2 := (.lit (.string x.s.data.toList), [])) Try.underlying32 (by kernel_rfl) cells32 (shut_int Try.underlying3 wk) (shut_int Try.underlying2 wn) (shut_string Try.underlying9 ws)
def I64 (n : Int) : Prop := -9223372036854775808 ≤ n ∧ n ≤ 9223372036854775807
theorem i64_of {n : Int} (h : (Lit.int .i64 n).wf = true) : I64 n := by
  have := bounds_i64 h
  unfold I64
  omega
end Go.Proofs.Ytpbbinppikaamaa
