/- code.misshapen; slices.ContainsFunc with it. -/
import Derived.Test.YtconnhphkbgbkaaGreatDoorCdRows
import Derived.Test.YtconnhphkbgbkaaGreatDoorCdVal
namespace Go.Proofs.YtconnhphkbgbkaaGreatDoor
open Go.RowKit Go.Proofs

theorem lastOp_at {p : Proc} {k : Nat} {x : Ins} (hk : p.ins.length = k + 1) (hx : p.ins[k]? = some x) : lastOp p = x.op := by
  unfold lastOp
  rw [List.getLast?_eq_getElem?, hk]
  show ((p.ins[k]?).map _).getD 0 = _
  rw [hx]
  rfl
set_option maxRecDepth 100000 in
set_option maxHeartbeats 4000000 in
theorem miss_any (v : Value) (p : Proc) (w : World) (h : ProcAt w v p) : Calls Tryz.prog 22 #[v] w fun e w' => e = .returned (.bool (missB p)) ∧ Below w.heap.size w w' := by
  obtain ⟨u, rfl, hs, hr⟩ := h
  obtain ⟨A, cap, rfl⟩ := SlAt.form hs
  obtain ⟨-, hca, hcm, -⟩ := SlAt.get hs
  have hm1 : cap ≤ 9223372036854775807 := hcm
  have HB := Lib.hid (below_box w (.cells #[.int .i64 p.regs, .slice A p.ins.length cap] 36))
  clear hcm hr
  unfold procV
  by_cases h1 : p.regs < 0
  · have HR := Lib.hid (show missB p = true from decide_eq_true (.inl h1))
    go_enter Tryz.func22, Tryz.ntmps22
    go_wp2
    go_ret
    exact ⟨ret_b HR.out.symm, HB.out⟩
  by_cases h2 : 60000 < p.regs
  · have HR := Lib.hid (show missB p = true from decide_eq_true (.inr (.inl h2)))
    go_enter Tryz.func22, Tryz.ntmps22
    go_wp2
    go_ret
    exact ⟨ret_b HR.out.symm, HB.out⟩
  by_cases h3 : p.ins.length < 1
  · have HR := Lib.hid (show missB p = true from decide_eq_true (.inr (.inr (.inl h3))))
    have h3' : (p.ins.length : Int) < 1 := by omega
    clear h3
    go_enter Tryz.func22, Tryz.ntmps22
    go_wp2
    go_ret
    exact ⟨ret_b HR.out.symm, HB.out⟩
  by_cases h4 : 60000 < p.ins.length
  · have HR := Lib.hid (show missB p = true from decide_eq_true (.inr (.inr (.inr (.inl h4)))))
    have h3' : ¬ (p.ins.length : Int) < 1 := by omega
    have h4' : (60000 : Int) < p.ins.length := by omega
    clear h3 h4
    go_enter Tryz.func22, Tryz.ntmps22
    go_wp2
    go_ret
    exact ⟨ret_b HR.out.symm, HB.out⟩
  obtain ⟨k, hk⟩ : ∃ k, p.ins.length = k + 1 := ⟨p.ins.length - 1, by omega⟩
  obtain ⟨g, off, x, A2, cap2, rfl, hg, hx, -, -, c0, -⟩ := ins_get hs k (by omega)
  have hlast := lastOp_at hk hx
  have hc0 : ∀ o, (w.alloc o).cell? ⟨g, off + k * 8, none⟩ = some (.int .i64 x.op) := fun o => ((below_box w o).cell (p := ⟨g, off + k * 8, none⟩) hg).trans c0
  have hHR := Lib.hid (show missB p = decide (x.op ≠ 20) by
    unfold missB
    rw [decide_eq_decide, hlast]
    constructor
    · rintro (h | h | h | h | h)
      · exact (h1 h).elim
      · exact (h2 h).elim
      · exact (h3 h).elim
      · exact (h4 h).elim
      · exact h
    · exact fun h => .inr (.inr (.inr (.inr h))))
  have e1 : ¬ (p.ins.length : Int) < 1 := by omega
  have e2 : ¬ (60000 : Int) < (p.ins.length : Int) := by omega
  have e3 : (p.ins.length : Int) - 1 = (k : Int) := by omega
  have e4 : (k : Int) < p.ins.length := by omega
  clear hs c0 hx h3 h4 hlast hk
  by_cases h5 : x.op = 20
  · have q : (x.op != 20) = false := by simp [h5]
    have HR := Lib.hid (show missB p = false by rw [hHR.out]; simp [h5])
    clear h5
    go_enter Tryz.func22, Tryz.ntmps22
    go_wp2
    go_ret
    exact ⟨ret_b HR.out.symm, HB.out⟩
  · have q : (x.op != 20) = true := by simp [h5]
    have HR := Lib.hid (show missB p = true by rw [hHR.out]; simp [h5])
    clear h5
    go_enter Tryz.func22, Tryz.ntmps22
    go_wp2
    go_ret
    exact ⟨ret_b HR.out.symm, HB.out⟩
end Go.Proofs.YtconnhphkbgbkaaGreatDoor
