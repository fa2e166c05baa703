/- The first hundred. -/
import Derived.Test.YtfiockconbaniaaGrHead
namespace Go.Proofs.Ytfiockconbaniaa
set_option linter.unusedSimpArgs false
set_option linter.unusedVariables false
open Go.RowKit Go.Proofs

theorem SlAt.take {α : Type} {k : Nat} {P : World → List Value → α → Prop} {W : World} {A : Option Addr} {n c m : Nat} {l : List α} (h : SlAt k P W (.slice A n c) l) (hm : m ≤ n) : SlAt k P W (.slice A m c) (l.take m) := by
  obtain ⟨A', cap, e, ⟨h1, h2⟩, h3⟩ := h
  injection e with e1 e2 e3
  subst e1 e2 e3
  refine ⟨_, _, by rw [List.length_take, Nat.min_eq_left hm], ⟨by rw [List.length_take]; omega, h2⟩, fun h0 => ?_⟩
  rw [List.length_take] at h0
  obtain ⟨g, off, e, hg, hx⟩ := h3 (by omega)
  refine ⟨g, off, e, hg, fun i x hi => hx i x ?_⟩
  by_cases hlt : i < m
  · rwa [List.getElem?_take_of_lt hlt] at hi
  · rw [List.getElem?_eq_none (by rw [List.length_take]; omega)] at hi
    cases hi
set_option maxHeartbeats 1000000 in
theorem some_any (A : Option Addr) (n c : Nat) (w : World) (hc : n ≤ c) (hm : c ≤ 9223372036854775807) : Calls Try.prog 15 #[.slice A n c] w fun e w' => e = .returned (.slice A (min n 100) c) ∧ w = w' := by
  by_cases h : n ≤ 100
  · have e1 : min n 100 = n := by omega
    have e2 : min (n : Int) 100 = (n : Int) := by omega
    rw [e1]
    clear e1
    go_enter Try.func15, Try.ntmps15
    go_wp2
    go_ret
    exact ⟨rfl, rfl⟩
  · have e1 : min n 100 = 100 := by omega
    have e2 : min (n : Int) 100 = 100 := by omega
    have e3 : 100 ≤ c := by omega
    rw [e1]
    clear e1
    go_enter Try.func15, Try.ntmps15
    go_wp2
    go_ret
    exact ⟨rfl, rfl⟩
set_option maxHeartbeats 1000000 in
theorem few_any (A : Option Addr) (n c : Nat) (w : World) (hc : n ≤ c) (hm : c ≤ 9223372036854775807) : Calls Try.prog 11 #[.slice A n c] w fun e w' => e = .returned (.slice A (min n 100) c) ∧ w = w' := by
  by_cases h : n ≤ 100
  · have e1 : min n 100 = n := by omega
    have e2 : min (n : Int) 100 = (n : Int) := by omega
    rw [e1]
    clear e1
    go_enter Try.func11, Try.ntmps11
    go_wp2
    go_ret
    exact ⟨rfl, rfl⟩
  · have e1 : min n 100 = 100 := by omega
    have e2 : min (n : Int) 100 = 100 := by omega
    have e3 : 100 ≤ c := by omega
    rw [e1]
    clear e1
    go_enter Try.func11, Try.ntmps11
    go_wp2
    go_ret
    exact ⟨rfl, rfl⟩
theorem OutI.later {w w' w'' : World} {v : Value} {l : List Int} (h : OutI w w' v l) (hb : Below w'.heap.size w' w'') : Ints9 w'' v l := SlAt.below (k := 1) (P := IntP) IntP.keeps h.at_ hb
end Go.Proofs.Ytfiockconbaniaa
