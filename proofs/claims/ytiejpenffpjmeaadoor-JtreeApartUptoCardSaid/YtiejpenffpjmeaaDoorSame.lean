/- jtree.Same, gumshoeref03.Same. -/
import Derived.Test.YtiejpenffpjmeaaDoorNodes
namespace Go.Proofs.YtiejpenffpjmeaaDoor
open Go.RowKit Go.Proofs

theorem bs_ne {a b : Bs} (h : a ≠ b) : (!(bs a).toList == (bs b).toList) = true := by
  have : ((bs a).toList == (bs b).toList) = false := by
    rw [beq_eq_false_iff_ne, Lib.toList_data, Lib.toList_data, bs_list, bs_list]
    exact h
  rw [this]; rfl
theorem sameT_eq (a b : Tr) : sameT a b = (decide (a.op = b.op) && (decide (a.s = b.s) && (decide (a.n = b.n) && sameL a.l b.l))) := by
  cases a; cases b; rw [sameT]; rfl

set_option maxRecDepth 100000 in
set_option maxHeartbeats 4000000 in
theorem same_any (a : Tr) : ∀ (b : Tr) (va vb : Value) (w : World), At w w.heap.size a va → At w w.heap.size b vb →
    Calls Tryd.prog 20 #[va, vb] w fun e w' => e = .returned (.bool (sameT a b)) ∧ Below w.heap.size w w' := by
  refine tree_ind (P := fun a => ∀ (b : Tr) (va vb : Value) (w : World), At w w.heap.size a va → At w w.heap.size b vb → Calls Tryd.prog 20 #[va, vb] w fun e w' => e = .returned (.bool (sameT a b)) ∧ Below w.heap.size w w') ?_ a
  clear a
  intro a ih b va vb w ha hb
  have IH := Lib.hid ih
  clear ih
  rw [At_iff] at ha hb
  obtain ⟨ua, rfl, ⟨A, ca, rfl, hca, ha⟩, hsa⟩ := ha
  obtain ⟨ub, rfl, ⟨B, cb, rfl, hcb, hb⟩, hsb⟩ := hb
  have HA := Lib.hid ha
  have HB := Lib.hid hb
  have hr := sameT_eq a b
  obtain ⟨r, er⟩ : ∃ r, sameT a b = r := ⟨_, rfl⟩
  have IH := Lib.hid (fun u (hu : u ∈ a.l) => IH.out u (size_part hu))
  unfold nodeV
  rw [er] at hr ⊢
  obtain ⟨oa, eoa⟩ : ∃ x, a.op = x := ⟨_, rfl⟩
  obtain ⟨ob, eob⟩ : ∃ x, b.op = x := ⟨_, rfl⟩
  obtain ⟨na, ena⟩ : ∃ x, a.n = x := ⟨_, rfl⟩
  obtain ⟨nb, enb⟩ : ∃ x, b.n = x := ⟨_, rfl⟩
  obtain ⟨sa, esa⟩ : ∃ x, a.s = x := ⟨_, rfl⟩
  obtain ⟨sb, esb⟩ : ∃ x, b.s = x := ⟨_, rfl⟩
  obtain ⟨la, ela⟩ : ∃ x, a.l = x := ⟨_, rfl⟩
  obtain ⟨lb, elb⟩ : ∃ x, b.l = x := ⟨_, rfl⟩
  rw [ela] at HA IH hr hca ⊢
  rw [elb] at HB hr hcb ⊢
  rw [eoa, eob, ena, enb, esa, esb] at hr
  rw [eoa, eob, ena, enb, esa, esb]
  clear er eoa eob ena enb esa esb ela elb ha hb hsa hsb
  have hca' := hca
  have hcb' := hcb
  unfold maxLen at hca' hcb'
  by_cases h1 : oa = ob
  · subst h1
    by_cases h2 : sa = sb
    · subst h2
      by_cases h3 : na = nb
      · subst h3
        by_cases h4 : la.length = lb.length
        · have HR := Lib.hid (show r = sameL la lb by rw [hr]; simp)
          obtain ⟨len, el⟩ : ∃ k, la.length = k := ⟨_, rfl⟩
          have HL := Lib.hid (And.intro el (h4.symm.trans el))
          rw [← h4, el]
          rw [el] at HA hca'
          rw [← h4, el] at HB hcb'
          clear hr h4 el hca hcb
          go_enter Tryd.func20, Tryd.ntmps20
          go_wp2
          obtain ⟨w2, hw2⟩ : ∃ x, ((w.alloc (.cells #[.int .i64 oa, .string (bs sa), .int .i64 na, .slice A len ca, .int .i64 a.line] 24)).alloc (.cells #[.int .i64 oa, .string (bs sa), .int .i64 na, .slice B len cb, .int .i64 b.line] 24)) = x := ⟨_, rfl⟩
          obtain ⟨hsz, hbel, c1, c2⟩ : w2.heap.size = w.heap.size + 2 ∧ Below w.heap.size w w2 ∧ w2.cell? ⟨w.heap.size, 3, none⟩ = some (.slice A len ca) ∧ w2.cell? ⟨w.heap.size + 1, 3, none⟩ = some (.slice B len cb) := by
            subst hw2
            refine ⟨by simp, ((Below.refl _ w).alloc (Nat.le_refl _) _).alloc (by simp) _, by go_simp, by go_simp⟩
          rw [hw2]
          clear hw2
          go_loopw [37] (fun i wr => ∃ k : Nat, k ≤ len ∧ i = .int .i64 k ∧ (∀ (j : Nat) x y, j < k → la[j]? = some x → lb[j]? = some y → sameT x y = true) ∧ Below w2.heap.size w2 wr) (fun i _ => len - (intOf i).toNat)
          case atStart => exact ⟨0, Nat.zero_le _, rfl, fun _ _ _ h => absurd h (by omega), Below.refl _ _⟩
          case round =>
            obtain ⟨k, hk, rfl, hpre, hB⟩ := hrel
            have HP := Lib.hid hpre
            clear hpre
            have d1 := (hB.cell (p := ⟨w.heap.size, 3, none⟩) (by simp; omega)).trans c1
            have d2 := (hB.cell (p := ⟨w.heap.size + 1, 3, none⟩) (by simp; omega)).trans c2
            have hbw := hbel.trans (hB.mono (by omega))
            by_cases hlt : k < len
            · obtain ⟨ga, fa, rfl, hga, HA⟩ := HA.out (by omega)
              obtain ⟨gb, fb, rfl, hgb, HB⟩ := HB.out (by omega)
              obtain ⟨x, ex⟩ : ∃ x, la[k]? = some x := ⟨_, List.getElem?_eq_getElem (by rw [HL.out.1]; exact hlt)⟩
              obtain ⟨y, ey⟩ : ∃ x, lb[k]? = some x := ⟨_, List.getElem?_eq_getElem (by rw [HL.out.2]; exact hlt)⟩
              obtain ⟨vx, hx, x0, x1, x2, x3, x4⟩ := AtL.get la k x (AtL.keep (W' := wr) (n' := w.heap.size) la HA hga (Nat.le_refl _) fun _ hp => hbw.cell hp) ex
              obtain ⟨vy, hy, y0, y1, y2, y3, y4⟩ := AtL.get lb k y (AtL.keep (W' := wr) (n' := w.heap.size) lb HB hgb (Nat.le_refl _) fun _ hp => hbw.cell hp) ey
              have IHk := Lib.hid (IH.out x (List.mem_of_getElem? ex) y _ _ wr.drew (At.keep (n' := wr.heap.size) x hx (by have := hB.size; omega) fun _ _ => rfl) (At.keep (n' := wr.heap.size) y hy (by have := hB.size; omega) fun _ _ => rfl))
              clear HA HB hx hy
              obtain ⟨r', er⟩ : ∃ r', sameT x y = r' := ⟨_, rfl⟩
              rw [er] at IHk
              have ER := Lib.hid er
              have EX := Lib.hid (And.intro ex ey)
              clear er ex ey
              cases r' with
              | true =>
                go_wp2
                go_still_tail 10, (by kernel_rfl)
                change wpList _ _ _ _ _ wr.drew
                go_wp2_with (go_at_call 20; refine IHk.out.mono ?_; rintro e w' ⟨rfl, hb⟩)
                go_roundw
                case rel => exact ⟨k + 1, by omega, by go_num, fun j x' y' hj hx hy => by
                  by_cases hjk : j < k
                  · exact HP.out j x' y' hjk hx hy
                  · obtain rfl : j = k := by omega
                    rw [EX.out.1] at hx
                    rw [EX.out.2] at hy
                    cases hx
                    cases hy
                    exact ER.out, hB.drew.trans (hb.mono hB.size)⟩
                case measure => simp [intOf]; omega
              | false =>
                have HN := Lib.hid (show r = false by
                  rw [HR.out]
                  cases hh : sameL la lb with
                  | false => rfl
                  | true =>
                    have := ((sameL_iff la lb).1 hh).2 k x y EX.out.1 EX.out.2
                    rw [ER.out] at this
                    cases this)
                go_wp2
                go_still_tail 10, (by kernel_rfl)
                change wpList _ _ _ _ _ wr.drew
                go_wp2_with (go_at_call 20; refine IHk.out.mono ?_; rintro e w' ⟨rfl, hb⟩)
                go_ret
                exact ⟨ret_b HN.out.symm, hbw.drew.trans (hb.mono (by have := hB.size; show _ ≤ wr.heap.size; omega))⟩
            · obtain rfl : k = len := by omega
              go_wp2
              go_ret
              exact ⟨ret_b (by
                rw [HR.out]
                symm
                exact (sameL_iff la lb).2 ⟨HL.out.1.trans HL.out.2.symm, fun i x y hx hy => HP.out i x y (by have := (List.getElem?_eq_some_iff.1 hx).1; have := HL.out.1; omega) hx hy⟩), hbw⟩
        · have HR := Lib.hid (show r = false by
            rw [hr]
            cases hh : sameL la lb with
            | false => simp
            | true => exact absurd ((sameL_iff la lb).1 hh).1 h4)
          have d : (la.length != lb.length) = true := by rw [bne_iff_ne]; exact h4
          have d' : ((la.length : Int) != (lb.length : Int)) = true := by rw [bne_iff_ne]; omega
          clear hr h4
          go_enter Tryd.func20, Tryd.ntmps20
          go_wp2
          go_ret
          exact ⟨ret_b HR.out.symm, ((Below.refl _ w).alloc (Nat.le_refl _) _).alloc (by simp) _⟩
      · have HR := Lib.hid (show r = false by rw [hr]; simp [h3])
        have d : (na != nb) = true := by rw [bne_iff_ne]; exact h3
        clear hr h3
        go_enter Tryd.func20, Tryd.ntmps20
        go_wp2
        go_ret
        exact ⟨ret_b HR.out.symm, ((Below.refl _ w).alloc (Nat.le_refl _) _).alloc (by simp) _⟩
    · have HR := Lib.hid (show r = false by rw [hr]; simp [h2])
      have d := bs_ne h2
      clear hr h2
      go_enter Tryd.func20, Tryd.ntmps20
      go_wp2
      go_ret
      exact ⟨ret_b HR.out.symm, ((Below.refl _ w).alloc (Nat.le_refl _) _).alloc (by simp) _⟩
  · have HR := Lib.hid (show r = false by rw [hr]; simp [h1])
    have d : (oa != ob) = true := by rw [bne_iff_ne]; exact h1
    clear hr h1
    go_enter Tryd.func20, Tryd.ntmps20
    go_wp2
    go_ret
    exact ⟨ret_b HR.out.symm, ((Below.refl _ w).alloc (Nat.le_refl _) _).alloc (by simp) _⟩
end Go.Proofs.YtiejpenffpjmeaaDoor
