/- gumshoeref09.Right: the document's own answer. -/
import Derived.Test.YtconnhphkbgbkaaGreatDoorCdRef4
import Derived.Test.YtconnhphkbgbkaaGreatDoorCdMiss
import Derived.StillTailTactics
import Derived.Deep.RegionHeld3
namespace Go.Proofs.YtconnhphkbgbkaaGreatDoor
open Go.RowKit Go.Proofs

theorem nm_size (op : Int) : (nm op).size ≤ 100 := by
  unfold nm
  have h : ∀ p ∈ nmL, p.2.size ≤ 100 := by
    unfold nmL
    intro p hp
    simp only [List.mem_cons, List.not_mem_nil, or_false] at hp
    rcases hp with rfl | rfl | rfl | rfl | rfl | rfl | rfl | rfl | rfl | rfl | rfl | rfl | rfl | rfl | rfl | rfl | rfl | rfl | rfl | rfl | rfl | rfl | rfl | rfl | rfl | rfl <;> decide
  cases hf : nmL.find? fun p => decide (p.1 = op) with
  | none => decide
  | some q => exact h q (List.mem_of_find?_eq_some hf)
def insD (n : Nat) (p : Proc) (x : Ins) : Bool := if nm x.op = ⟨#[45]⟩ then false else rinsB (nm x.op) x p n
set_option maxRecDepth 100000 in
set_option maxHeartbeats 4000000 in
theorem rins_no (vx vp : Value) (x : Ins) (p : Proc) (funs : Nat) (w : World) (hx : InsAt w vx x) (hp : ProcAt w vp p) (hno : nm x.op = ⟨#[45]⟩) :
    Calls Tryz.prog 31 #[vx, vp, .int .i64 funs] w fun e w' => e = .returned (.bool false) ∧ Below w.heap.size w w' := by
  obtain ⟨u, rfl, -, -⟩ := hx
  obtain ⟨v, rfl, -, -⟩ := hp
  unfold insV procV
  have HN := Lib.hid (fun w => names_any x.op w)
  rw [hno] at HN
  have HB := Lib.hid (two_box w (.cells #[.int .i64 x.op, .int .i64 x.d, .int .i64 x.a, .int .i64 x.b, .int .i64 x.c, .string x.s, .int .i64 x.n, u] 33) (.cells #[.int .i64 p.regs, v] 36))
  have e45 : ((⟨#[45]⟩ : ByteArray).toList == ([45] : Bs)) = true := by kernel_rfl
  clear hno
  go_enter Tryz.func31, Tryz.ntmps31
  go_wp2_with fail
  go_at_call 56
  refine (HN.out _).mono ?_
  rintro e w1 ⟨rfl, rfl⟩
  go_wp2
  go_ret
  exact ⟨rfl, HB.out⟩
theorem rins_all (vx vp : Value) (x : Ins) (p : Proc) (funs : Nat) (w : World) (hx : InsAt w vx x) (hp : ProcAt w vp p) (hf : funs ≤ 1000) :
    Calls Tryz.prog 31 #[vx, vp, .int .i64 funs] w fun e w' => e = .returned (.bool (insD funs p x)) ∧ Below w.heap.size w w' := by
  by_cases h : nm x.op = ⟨#[45]⟩
  · have e : insD funs p x = false := if_pos h
    rw [e]
    exact rins_no vx vp x p funs w hx hp h
  · have e : insD funs p x = rinsB (nm x.op) x p funs := if_neg h
    rw [e]
    exact rins_any vx vp x p funs w hx hp hf (nm_size _) h
end Go.Proofs.YtconnhphkbgbkaaGreatDoor
