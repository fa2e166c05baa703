/- What code.table asks: arguments. All of its functions; code.fits. -/
import Derived.Test.YtconnhphkbgbkaaGreatDoorCdDem3
import Derived.Test.YtconnhphkbgbkaaGreatDoorCdSame
namespace Go.Proofs.YtconnhphkbgbkaaGreatDoor
open Go.RowKit Go.Proofs

def within (r : Int) (n : Int) : Bool := decide (0 ≤ n ∧ n < r)
theorem all_take {α : Type} {p : α → Bool} {l : List α} {k : Nat} {x : α} (h : (l.take k).all p = true) (hx : l[k]? = some x) (hp : p x = true) : (l.take (k + 1)).all p = true := by
  rw [List.take_add_one, hx, List.all_append, h]
  simp [hp]
theorem all_not {α : Type} {p : α → Bool} {l : List α} {k : Nat} {x : α} (hx : l[k]? = some x) (hp : p x = false) : l.all p = false := by
  rw [List.all_eq_false]
  exact ⟨x, List.mem_of_getElem? hx, by simp [hp]⟩
theorem all_done {α : Type} {p : α → Bool} {l : List α} {k : Nat} (h : (l.take k).all p = true) (hk : l.length ≤ k) : l.all p = true := by
  rwa [List.take_of_length_le hk] at h

set_option maxRecDepth 100000 in
set_option maxHeartbeats 4000000 in
theorem dargs (w0 wX w : World) (B : Nat) (x : Ins) (u : Value) (R : Room) (h : MidF w0 wX w B x u) :
    Calls Tryz.prog 49 #[.pointer (some ⟨B, 0, none⟩), roomV R] w fun e w' => e = .returned (.bool (Dm.args.ok x R)) ∧ ∃ u', MidF w0 wX w' B (Dm.args.next x) u' := by
  have HM := Lib.hid (MidF.set (h.on (below_box w (.cells #[.int .i64 R.regs, .int .i64 R.places, .int .i64 R.procs] 63))) 7 (.slice none 0 0) { x with l := [] } (.slice none 0 0) rfl (SlAt.nil _ _ _) h.fine)
  have HN := Lib.hid h.lt
  have hc := fun o => (h.on (below_box w o)).cells.c7
  have hfr := fun o => (h.on (below_box w o)).cells.f 7
  have nB : ¬ B = w.heap.size := by have := HN.out; omega
  have HI := Lib.hid h.ints
  obtain ⟨A, cap, rfl⟩ := SlAt.form HI.out
  obtain ⟨-, hca, hcm, -⟩ := SlAt.get HI.out
  have hm1 : cap ≤ 9223372036854775807 := hcm
  clear h hcm
  unfold roomV
  simp only [Dm.ok, Dm.next]
  change Calls _ _ _ _ fun e w' => e = .returned (.bool (x.l.all (within R.regs))) ∧ _
  generalize R.regs = r at HM ⊢
  go_enter Tryz.func49, Tryz.ntmps49
  go_wp2
  go_loopw [17] (fun i wr => ∃ k : Nat, k ≤ x.l.length ∧ i = .int .i64 k ∧ (x.l.take k).all (within r) = true ∧ MidF w0 wX wr B { x with l := [] } (.slice none 0 0) ∧ wr.cell? ⟨w.heap.size, 0, none⟩ = some (.int .i64 r)) (fun i _ => x.l.length - (intOf i).toNat)
  case atStart =>
    refine ⟨0, Nat.zero_le _, rfl, rfl, HM.out, ?_⟩
    exact (World.cell?_setCell_far _ ⟨B, 7, none⟩ ⟨w.heap.size, 0, none⟩ _ nB).trans (World.cell?_alloc_new w _ _ 0)
  case round =>
    obtain ⟨k, hk, rfl, hall, hM, hr⟩ := hrel
    have HAll := Lib.hid hall
    have HM2 := Lib.hid hM
    clear hall hM
    by_cases hlt : k < x.l.length
    · obtain ⟨g, off, z, rfl, hg, hx, -, hz⟩ := int_get HI.out k hlt
      rw [← HM2.out.bel.cell (p := ⟨g, off + k, none⟩) hg] at hz
      have g1 : (k : Int) < x.l.length := by omega
      have HX := Lib.hid hx
      clear hx
      by_cases z0 : z < 0
      · have HR := Lib.hid (all_not HX.out (p := within r) (decide_eq_false (by omega)))
        go_wp2
        go_ret
        exact ⟨ret_b HR.out.symm, _, HM2.out⟩
      · by_cases z1 : z < r
        · have HR := Lib.hid (all_take HAll.out HX.out (p := within r) (decide_eq_true (by omega)))
          go_wp2
          go_roundw
          case rel => exact ⟨k + 1, by omega, by go_num, HR.out, HM2.out, hr⟩
          case measure => simp [intOf]; omega
        · have HR := Lib.hid (all_not HX.out (p := within r) (decide_eq_false (by omega)))
          go_wp2
          go_ret
          exact ⟨ret_b HR.out.symm, _, HM2.out⟩
    · have g1 : ¬ (k : Int) < x.l.length := by omega
      have HR := Lib.hid (all_done HAll.out (by omega))
      go_wp2
      go_ret
      exact ⟨ret_b HR.out.symm, _, HM2.out⟩

/-- What each function of the table does. -/
theorem dem_any (m : Dm) (g : Nat) (caps : Array Value) : DemOK m g caps := by
  intro w0 wX w B x u R h hd
  cases m with
  | reg least f =>
    obtain ⟨bf, bl, i, e, hi, hf, hl⟩ := hd
    injection e with e1 e2 e3
    injection e1 with e1
    subst e1 e3
    unfold fldFn at hi
    split at hi <;> simp only [Option.some.injEq, reduceCtorEq] at hi
    all_goals subst hi
    · exact dreg1 least bf bl w0 wX w B x u R h hf hl
    · exact dreg2 least bf bl w0 wX w B x u R h hf hl
    · exact dreg3 least bf bl w0 wX w B x u R h hf hl
    · exact dreg4 least bf bl w0 wX w B x u R h hf hl
    · exact dreg5 least bf bl w0 wX w B x u R h hf hl
    · exact dreg6 least bf bl w0 wX w B x u R h hf hl
  | num k =>
    obtain ⟨bf, i, e, hi, hf⟩ := hd
    injection e with e1 e2 e3
    injection e1 with e1
    subst e1 e3
    unfold kndFn at hi
    split at hi <;> simp only [Option.some.injEq, reduceCtorEq] at hi
    all_goals subst hi
    · exact dnum7 bf w0 wX w B x u R h hf
    · exact dnum8 bf w0 wX w B x u R h hf
    · exact dnum9 bf w0 wX w B x u R h hf
    · exact dnum10 bf w0 wX w B x u R h hf
  | key =>
    injection hd with e1 e2 e3
    injection e1 with e1
    subst e1 e3
    exact dkey w0 wX w B x u R h
  | sign =>
    injection hd with e1 e2 e3
    injection e1 with e1
    subst e1 e3
    exact dsign w0 wX w B x u R h
  | val =>
    injection hd with e1 e2 e3
    injection e1 with e1
    subst e1 e3
    exact dval w0 wX w B x u R h
  | args =>
    injection hd with e1 e2 e3
    injection e1 with e1
    subst e1 e3
    exact dargs w0 wX w B x u R h
theorem DemAt.form {w : World} {v : Value} {m : Dm} (h : DemAt w v m) : ∃ g caps, v = .func (.func g) #[] caps := by
  cases m with
  | reg l f =>
    obtain ⟨bf, bl, i, h1, -⟩ := h
    exact ⟨_, _, h1⟩
  | num k =>
    obtain ⟨bf, i, h1, -⟩ := h
    exact ⟨_, _, h1⟩
  | _ => exact ⟨_, _, h⟩
end Go.Proofs.YtconnhphkbgbkaaGreatDoor
