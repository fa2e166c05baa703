/- gumshoeref09.number. -/
import Derived.Test.YtconnhphkbgbkaaGreatDoorCdRef2
namespace Go.Proofs.YtconnhphkbgbkaaGreatDoor
open Go.RowKit Go.Proofs

def rnumB (S : ByteArray) (n : Int) (places funs : Nat) : Bool :=
  if hasN S 78 then true
  else if hasN S 118 then decide (0 ≤ n ∧ n < funs * 1000 ∧ n % 1000 < 200)
  else if hasN S 109 then decide (4 ≤ n ∧ n ≤ 1000000)
  else if hasN S 102 then decide (0 < n ∧ n < funs)
  else if hasN S 106 then decide (0 ≤ n ∧ n < places)
  else decide (n = 0)
set_option maxRecDepth 100000 in
set_option maxHeartbeats 8000000 in
theorem rnumber_any (S : ByteArray) (x : Ins) (u : Value) (p : Proc) (A : Option Addr) (cap funs : Nat) (w : World) (hS : S.size ≤ 100) (hn : I64 x.n) (hf : funs ≤ 1000) :
    Calls Tryz.prog 61 #[.agg #[.int .i64 x.op, .int .i64 x.d, .int .i64 x.a, .int .i64 x.b, .int .i64 x.c, .string x.s, .int .i64 x.n, u], .string S, .agg #[.int .i64 p.regs, .slice A p.ins.length cap], .int .i64 funs] w
      fun e w' => e = .returned (.bool (rnumB S x.n p.ins.length funs)) ∧ Below w.heap.size w w' := by
  have HB := Lib.hid (fun o p => two_box w o p)
  have H78 := Lib.hid (fun w => has_any S 78 78 rfl hS w)
  have H118 := Lib.hid (fun w => has_any S 118 118 rfl hS w)
  have H109 := Lib.hid (fun w => has_any S 109 109 rfl hS w)
  have H102 := Lib.hid (fun w => has_any S 102 102 rfl hS w)
  have H106 := Lib.hid (fun w => has_any S 106 106 rfl hS w)
  obtain ⟨z, hz⟩ : ∃ z, rnumB S x.n p.ins.length funs = z := ⟨_, rfl⟩
  unfold I64 at hn
  obtain ⟨hn1, hn2⟩ := hn
  rw [hz]
  unfold rnumB at hz
  cases h78 : hasN S 78
  case false =>
    rw [h78] at H78 hz
    rw [if_neg (by simp)] at hz
    clear h78
    cases h118 : hasN S 118
    case false =>
      rw [h118] at H118 hz
      rw [if_neg (by simp)] at hz
      clear h118
      cases h109 : hasN S 109
      case false =>
        rw [h109] at H109 hz
        rw [if_neg (by simp)] at hz
        clear h109
        cases h102 : hasN S 102
        case false =>
          rw [h102] at H102 hz
          rw [if_neg (by simp)] at hz
          clear h102
          cases h106 : hasN S 106
          case false =>
            rw [h106] at H106 hz
            rw [if_neg (by simp)] at hz
            by_cases t1 : x.n = 0
            · have HZ := Lib.hid hz
              clear hz
              go_enter Tryz.func61, Tryz.ntmps61
              go_wp2_with fail
              go_at_call 58
              refine (H78.out _).mono ?_
              rintro e w78 ⟨rfl, rfl⟩
              go_wp2_with fail
              go_at_call 58
              refine (H118.out _).mono ?_
              rintro e w118 ⟨rfl, rfl⟩
              go_wp2_with fail
              go_at_call 58
              refine (H109.out _).mono ?_
              rintro e w109 ⟨rfl, rfl⟩
              go_wp2_with fail
              go_at_call 58
              refine (H102.out _).mono ?_
              rintro e w102 ⟨rfl, rfl⟩
              go_wp2_with fail
              go_at_call 58
              refine (H106.out _).mono ?_
              rintro e w106 ⟨rfl, rfl⟩
              go_wp2
              go_ret
              exact ⟨ret_b (by rw [← HZ.out]; simp [t1]), HB.out _ _⟩
            · have HZ := Lib.hid hz
              clear hz
              go_enter Tryz.func61, Tryz.ntmps61
              go_wp2_with fail
              go_at_call 58
              refine (H78.out _).mono ?_
              rintro e w78 ⟨rfl, rfl⟩
              go_wp2_with fail
              go_at_call 58
              refine (H118.out _).mono ?_
              rintro e w118 ⟨rfl, rfl⟩
              go_wp2_with fail
              go_at_call 58
              refine (H109.out _).mono ?_
              rintro e w109 ⟨rfl, rfl⟩
              go_wp2_with fail
              go_at_call 58
              refine (H102.out _).mono ?_
              rintro e w102 ⟨rfl, rfl⟩
              go_wp2_with fail
              go_at_call 58
              refine (H106.out _).mono ?_
              rintro e w106 ⟨rfl, rfl⟩
              go_wp2
              go_ret
              exact ⟨ret_b (by rw [← HZ.out]; simp [t1]), HB.out _ _⟩
          case true =>
            rw [h106] at H106 hz
            rw [if_pos rfl] at hz
            clear h106
            by_cases t1 : 0 ≤ x.n
            · by_cases t2 : x.n < p.ins.length
              · have HZ := Lib.hid hz
                clear hz
                go_enter Tryz.func61, Tryz.ntmps61
                go_wp2_with fail
                go_at_call 58
                refine (H78.out _).mono ?_
                rintro e w78 ⟨rfl, rfl⟩
                go_wp2_with fail
                go_at_call 58
                refine (H118.out _).mono ?_
                rintro e w118 ⟨rfl, rfl⟩
                go_wp2_with fail
                go_at_call 58
                refine (H109.out _).mono ?_
                rintro e w109 ⟨rfl, rfl⟩
                go_wp2_with fail
                go_at_call 58
                refine (H102.out _).mono ?_
                rintro e w102 ⟨rfl, rfl⟩
                go_wp2_with fail
                go_at_call 58
                refine (H106.out _).mono ?_
                rintro e w106 ⟨rfl, rfl⟩
                go_wp2
                go_ret
                exact ⟨ret_b (by rw [← HZ.out]; first | (simp; omega) | simp [t1, t2]), HB.out _ _⟩
              · have HZ := Lib.hid hz
                clear hz
                go_enter Tryz.func61, Tryz.ntmps61
                go_wp2_with fail
                go_at_call 58
                refine (H78.out _).mono ?_
                rintro e w78 ⟨rfl, rfl⟩
                go_wp2_with fail
                go_at_call 58
                refine (H118.out _).mono ?_
                rintro e w118 ⟨rfl, rfl⟩
                go_wp2_with fail
                go_at_call 58
                refine (H109.out _).mono ?_
                rintro e w109 ⟨rfl, rfl⟩
                go_wp2_with fail
                go_at_call 58
                refine (H102.out _).mono ?_
                rintro e w102 ⟨rfl, rfl⟩
                go_wp2_with fail
                go_at_call 58
                refine (H106.out _).mono ?_
                rintro e w106 ⟨rfl, rfl⟩
                go_wp2
                go_ret
                exact ⟨ret_b (by rw [← HZ.out]; first | (simp; omega) | simp [t1, t2]), HB.out _ _⟩
            · have HZ := Lib.hid hz
              clear hz
              go_enter Tryz.func61, Tryz.ntmps61
              go_wp2_with fail
              go_at_call 58
              refine (H78.out _).mono ?_
              rintro e w78 ⟨rfl, rfl⟩
              go_wp2_with fail
              go_at_call 58
              refine (H118.out _).mono ?_
              rintro e w118 ⟨rfl, rfl⟩
              go_wp2_with fail
              go_at_call 58
              refine (H109.out _).mono ?_
              rintro e w109 ⟨rfl, rfl⟩
              go_wp2_with fail
              go_at_call 58
              refine (H102.out _).mono ?_
              rintro e w102 ⟨rfl, rfl⟩
              go_wp2_with fail
              go_at_call 58
              refine (H106.out _).mono ?_
              rintro e w106 ⟨rfl, rfl⟩
              go_wp2
              go_ret
              exact ⟨ret_b (by rw [← HZ.out]; simp; omega), HB.out _ _⟩
        case true =>
          rw [h102] at H102 hz
          rw [if_pos rfl] at hz
          clear h102
          by_cases t1 : 0 < x.n
          · by_cases t2 : x.n < funs
            · have HZ := Lib.hid hz
              clear hz
              go_enter Tryz.func61, Tryz.ntmps61
              go_wp2_with fail
              go_at_call 58
              refine (H78.out _).mono ?_
              rintro e w78 ⟨rfl, rfl⟩
              go_wp2_with fail
              go_at_call 58
              refine (H118.out _).mono ?_
              rintro e w118 ⟨rfl, rfl⟩
              go_wp2_with fail
              go_at_call 58
              refine (H109.out _).mono ?_
              rintro e w109 ⟨rfl, rfl⟩
              go_wp2_with fail
              go_at_call 58
              refine (H102.out _).mono ?_
              rintro e w102 ⟨rfl, rfl⟩
              go_wp2
              go_ret
              exact ⟨ret_b (by rw [← HZ.out]; first | (simp; omega) | simp [t1, t2]), HB.out _ _⟩
            · have HZ := Lib.hid hz
              clear hz
              go_enter Tryz.func61, Tryz.ntmps61
              go_wp2_with fail
              go_at_call 58
              refine (H78.out _).mono ?_
              rintro e w78 ⟨rfl, rfl⟩
              go_wp2_with fail
              go_at_call 58
              refine (H118.out _).mono ?_
              rintro e w118 ⟨rfl, rfl⟩
              go_wp2_with fail
              go_at_call 58
              refine (H109.out _).mono ?_
              rintro e w109 ⟨rfl, rfl⟩
              go_wp2_with fail
              go_at_call 58
              refine (H102.out _).mono ?_
              rintro e w102 ⟨rfl, rfl⟩
              go_wp2
              go_ret
              exact ⟨ret_b (by rw [← HZ.out]; first | (simp; omega) | simp [t1, t2]), HB.out _ _⟩
          · have HZ := Lib.hid hz
            clear hz
            go_enter Tryz.func61, Tryz.ntmps61
            go_wp2_with fail
            go_at_call 58
            refine (H78.out _).mono ?_
            rintro e w78 ⟨rfl, rfl⟩
            go_wp2_with fail
            go_at_call 58
            refine (H118.out _).mono ?_
            rintro e w118 ⟨rfl, rfl⟩
            go_wp2_with fail
            go_at_call 58
            refine (H109.out _).mono ?_
            rintro e w109 ⟨rfl, rfl⟩
            go_wp2_with fail
            go_at_call 58
            refine (H102.out _).mono ?_
            rintro e w102 ⟨rfl, rfl⟩
            go_wp2
            go_ret
            exact ⟨ret_b (by rw [← HZ.out]; simp; omega), HB.out _ _⟩
      case true =>
        rw [h109] at H109 hz
        rw [if_pos rfl] at hz
        clear h109
        by_cases t1 : 4 ≤ x.n
        · by_cases t2 : x.n ≤ 1000000
          · have HZ := Lib.hid hz
            clear hz
            go_enter Tryz.func61, Tryz.ntmps61
            go_wp2_with fail
            go_at_call 58
            refine (H78.out _).mono ?_
            rintro e w78 ⟨rfl, rfl⟩
            go_wp2_with fail
            go_at_call 58
            refine (H118.out _).mono ?_
            rintro e w118 ⟨rfl, rfl⟩
            go_wp2_with fail
            go_at_call 58
            refine (H109.out _).mono ?_
            rintro e w109 ⟨rfl, rfl⟩
            go_wp2
            go_ret
            exact ⟨ret_b (by rw [← HZ.out]; first | (simp; omega) | simp [t1, t2]), HB.out _ _⟩
          · have HZ := Lib.hid hz
            clear hz
            go_enter Tryz.func61, Tryz.ntmps61
            go_wp2_with fail
            go_at_call 58
            refine (H78.out _).mono ?_
            rintro e w78 ⟨rfl, rfl⟩
            go_wp2_with fail
            go_at_call 58
            refine (H118.out _).mono ?_
            rintro e w118 ⟨rfl, rfl⟩
            go_wp2_with fail
            go_at_call 58
            refine (H109.out _).mono ?_
            rintro e w109 ⟨rfl, rfl⟩
            go_wp2
            go_ret
            exact ⟨ret_b (by rw [← HZ.out]; first | (simp; omega) | simp [t1, t2]), HB.out _ _⟩
        · have HZ := Lib.hid hz
          clear hz
          go_enter Tryz.func61, Tryz.ntmps61
          go_wp2_with fail
          go_at_call 58
          refine (H78.out _).mono ?_
          rintro e w78 ⟨rfl, rfl⟩
          go_wp2_with fail
          go_at_call 58
          refine (H118.out _).mono ?_
          rintro e w118 ⟨rfl, rfl⟩
          go_wp2_with fail
          go_at_call 58
          refine (H109.out _).mono ?_
          rintro e w109 ⟨rfl, rfl⟩
          go_wp2
          go_ret
          exact ⟨ret_b (by rw [← HZ.out]; simp; omega), HB.out _ _⟩
    case true =>
      rw [h118] at H118 hz
      rw [if_pos rfl] at hz
      clear h118
      have hw : wrap64 ((funs : Int) * 1000) = (funs : Int) * 1000 := by unfold wrap64; omega
      by_cases t1 : 0 ≤ x.n
      · have htm : x.n.tmod 1000 = x.n % 1000 := Int.tmod_eq_emod_of_nonneg t1
        by_cases t2 : x.n < funs * 1000
        · have HZ := Lib.hid hz
          clear hz
          go_enter Tryz.func61, Tryz.ntmps61
          go_wp2_with fail
          go_at_call 58
          refine (H78.out _).mono ?_
          rintro e w78 ⟨rfl, rfl⟩
          go_wp2_with fail
          go_at_call 58
          refine (H118.out _).mono ?_
          rintro e w118 ⟨rfl, rfl⟩
          go_wp2
          go_ret
          exact ⟨ret_b (by rw [← HZ.out]; first | (simp; omega) | simp [t1, t2]), HB.out _ _⟩
        · have HZ := Lib.hid hz
          clear hz
          go_enter Tryz.func61, Tryz.ntmps61
          go_wp2_with fail
          go_at_call 58
          refine (H78.out _).mono ?_
          rintro e w78 ⟨rfl, rfl⟩
          go_wp2_with fail
          go_at_call 58
          refine (H118.out _).mono ?_
          rintro e w118 ⟨rfl, rfl⟩
          go_wp2
          go_ret
          exact ⟨ret_b (by rw [← HZ.out]; first | (simp; omega) | simp [t1, t2]), HB.out _ _⟩
      · have HZ := Lib.hid hz
        clear hz
        go_enter Tryz.func61, Tryz.ntmps61
        go_wp2_with fail
        go_at_call 58
        refine (H78.out _).mono ?_
        rintro e w78 ⟨rfl, rfl⟩
        go_wp2_with fail
        go_at_call 58
        refine (H118.out _).mono ?_
        rintro e w118 ⟨rfl, rfl⟩
        go_wp2
        go_ret
        exact ⟨ret_b (by rw [← HZ.out]; simp; omega), HB.out _ _⟩
  case true =>
    rw [h78] at H78 hz
    rw [if_pos rfl] at hz
    clear h78
    subst hz
    go_enter Tryz.func61, Tryz.ntmps61
    go_wp2_with fail
    go_at_call 58
    refine (H78.out _).mono ?_
    rintro e w78 ⟨rfl, rfl⟩
    go_wp2
    go_ret
    exact ⟨rfl, HB.out _ _⟩
end Go.Proofs.YtconnhphkbgbkaaGreatDoor
