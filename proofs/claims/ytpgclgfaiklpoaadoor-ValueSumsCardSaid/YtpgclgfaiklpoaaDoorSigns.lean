/- The signs and their makings: value.makings. -/
import Derived.Test.YtpgclgfaiklpoaaDoorMake2
import Derived.Maps.Own
import Derived.Maps.OwnSet
import Derived.Maps.OwnIn
namespace Go.Proofs.YtpgclgfaiklpoaaDoor
open Go.RowKit Go.Proofs Go.Maps

/-- How a function value reads, for this proof: by its number. -/
def fnElem : Value → Option (DataW Unit × List MemPlace)
  | .func (.func i) a c => if a.size = 0 ∧ c.size = 0 then some (.lit (.int .i64 (i : Nat)), []) else none
  | .nilFunc => some (.lit (.int .i64 (-1)), [])
  | _ => none
theorem fnElem_mk (i : Nat) : fnElem (.func (.func i) #[] #[]) = some (.lit (.int .i64 i), []) := by simp [fnElem]
theorem fnElem_inv {v : Value} {i : Nat} {ps : List MemPlace} (h : fnElem v = some (.lit (.int .i64 (i : Int)), ps)) : v = .func (.func i) #[] #[] := by
  unfold fnElem at h
  split at h
  · rename_i j a c
    split at h
    · rename_i hs
      obtain ⟨h1, h2⟩ := hs
      simp only [Option.some.injEq, Prod.mk.injEq, DataW.lit.injEq, Lit.int.injEq, true_and] at h
      have hj : j = i := Int.ofNat.inj h.1
      have ea : a = #[] := Array.eq_empty_of_size_eq_zero h1
      have ec : c = #[] := Array.eq_empty_of_size_eq_zero h2
      rw [hj, ea, ec]
    · cases h
  · simp at h
  · cases h
theorem strKey : Keyed Tryd.prog 9 := string_keyed Tryd.underlying9
theorem zero42 (w : World) : (zeroValue 42).run Tryd.prog w = .ok .nilFunc w := by kernel_rfl

/-- The signs' table as it is laid. -/
def tabOf (acc : List (Bs × Nat)) : DataW Unit := acc.foldl (fun m x => m.put (.string x.1) (.lit (.int .i64 x.2))) (.map [])
theorem tabOf_snoc (acc : List (Bs × Nat)) (x : Bs × Nat) : tabOf (acc ++ [x]) = (tabOf acc).put (.string x.1) (.lit (.int .i64 x.2)) := by simp [tabOf]
def SM (w : World) (b : Nat) (acc : List (Bs × Nat)) : Prop := w.ownsMap Tryd.prog 9 fnElem b acc.length (tabOf acc)
theorem SM.put {w0 w : World} {B b : Nat} {acc : List (Bs × Nat)} (h : SM w b acc ∧ Below B w0 w) (hn : decide (acc.length < 100) = true) (hBb : B ≤ b) (s : ByteArray) (i : Nat) (hs : decide (s.size ≤ 100) = true) :
    ∃ w', (Instr.mapUpdate 44 (.map (some b)) (.string s) (.func (.func i) #[] #[])).run Tryd.prog w = .ok () w' ∧ (SM w' b (acc ++ [(s.data.toList, i)]) ∧ Below B w0 w') := by
  have hn := of_decide_eq_true hn
  have hs := of_decide_eq_true hs
  obtain ⟨w', hrun, r1, r2⟩ := World.ownsMap.update h.1 strKey Tryd.underlying44 (by unfold maxLen; omega) (WideMaps.keyOf_string_mk Tryd.underlying9 (s := s) (by unfold maxLen; omega)) (fnElem_mk i)
  refine ⟨w', hrun, ?_, h.2.trans ?_⟩
  · unfold SM
    rw [tabOf_snoc, List.length_append]
    exact r1
  · exact ⟨r2.os, r2.tape, r2.output, r2.size, fun i hi => r2.block i (by have := World.ownsMap.lt h.1; omega) (fun e => by cases e; omega)⟩

/-- The signs, each with the number of its making. -/
def signsL : List (Bs × Nat) := [([43], 38), ([45], 39), ([42], 40), ([60], 41), ([60, 61], 43), ([61, 61, 61], 44), ([33, 61, 61], 45)]

set_option maxRecDepth 100000 in
set_option maxHeartbeats 4000000 in
theorem makings_any (w : World) : Calls Tryd.prog 35 #[] w fun e w' => ∃ b, e = .returned (.map (some b)) ∧ SM w' b signsL ∧ w.heap.size ≤ b ∧ Below w.heap.size w w' := by
  have hmm := @run_makeMap Tryd.prog
  have H0 : SM (w.alloc (.map #[] 0)) w.heap.size [] ∧ Below w.heap.size w (w.alloc (.map #[] 0)) := ⟨World.ownsMap_made w _ _ _, below_box _ _⟩
  obtain ⟨w1, e1, H1⟩ := SM.put H0 rfl (Nat.le_refl _) ⟨#[43]⟩ 38 rfl
  clear H0
  obtain ⟨w2, e2, H2⟩ := SM.put H1 rfl (Nat.le_refl _) ⟨#[45]⟩ 39 rfl
  clear H1
  obtain ⟨w3, e3, H3⟩ := SM.put H2 rfl (Nat.le_refl _) ⟨#[42]⟩ 40 rfl
  clear H2
  obtain ⟨w4, e4, H4⟩ := SM.put H3 rfl (Nat.le_refl _) ⟨#[60]⟩ 41 rfl
  clear H3
  obtain ⟨w5, e5, H5⟩ := SM.put H4 rfl (Nat.le_refl _) ⟨#[60, 61]⟩ 43 rfl
  clear H4
  obtain ⟨w6, e6, H6⟩ := SM.put H5 rfl (Nat.le_refl _) ⟨#[61, 61, 61]⟩ 44 rfl
  clear H5
  obtain ⟨w7, e7, H7⟩ := SM.put H6 rfl (Nat.le_refl _) ⟨#[33, 61, 61]⟩ 45 rfl
  clear H6
  have H := Lib.hid H7
  clear H7
  go_enter Tryd.func35, Tryd.ntmps35
  go_wp2
  go_ret
  exact ⟨_, rfl, H.out.1, Nat.le_refl _, H.out.2⟩

theorem tab_eq : tabOf signsL = .map [(.string [33, 61, 61], .lit (.int .i64 45)), (.string [42], .lit (.int .i64 40)), (.string [43], .lit (.int .i64 38)), (.string [45], .lit (.int .i64 39)), (.string [60], .lit (.int .i64 41)), (.string [60, 61], .lit (.int .i64 43)), (.string [61, 61, 61], .lit (.int .i64 44))] := by
  rfl
def isSign (l : Bs) : Bool := signsL.any (fun x => x.1 == l)
theorem look_none {w : World} {b : Nat} (h : SM w b signsL) (s : ByteArray) (hs : s.size ≤ maxLen) (hn : isSign s.data.toList = false) :
    ∃ v, (Instr.lookup 44 (.map (some b)) (.string s) true).run Tryd.prog w = .ok (.tuple #[v, .bool false]) w := by
  obtain ⟨v, ps, hrun, hv⟩ := World.ownsMap.look_ok h strKey Tryd.underlying44 (zero42 w) (zd := .lit (.int .i64 (-1))) (zp := []) rfl (WideMaps.keyOf_string_mk Tryd.underlying9 hs)
  refine ⟨v, ?_⟩
  rw [hrun]
  have e : Maps.has (tabOf signsL) (.string s.data.toList) = false := by
    rw [tab_eq]
    generalize s.data.toList = l at hn ⊢
    revert hn
    simp [isSign, signsL, Maps.has, Lit.sameKey]
    intros
    simp [*]
  rw [e]
theorem look_sign {w : World} {b : Nat} (h : SM w b signsL) (s : ByteArray) (i : Nat) (hs : s.size ≤ maxLen) (hi : (s.data.toList, i) ∈ signsL) :
    (Instr.lookup 44 (.map (some b)) (.string s) true).run Tryd.prog w = .ok (.tuple #[.func (.func i) #[] #[], .bool true]) w := by
  obtain ⟨v, ps, hrun, hv⟩ := World.ownsMap.look_ok h strKey Tryd.underlying44 (zero42 w) (zd := .lit (.int .i64 (-1))) (zp := []) rfl (WideMaps.keyOf_string_mk Tryd.underlying9 hs)
  rw [tab_eq] at hrun hv
  generalize s.data.toList = l at hi hrun hv
  simp only [signsL, List.mem_cons, Prod.mk.injEq, List.not_mem_nil, or_false] at hi
  rcases hi with ⟨rfl, rfl⟩ | ⟨rfl, rfl⟩ | ⟨rfl, rfl⟩ | ⟨rfl, rfl⟩ | ⟨rfl, rfl⟩ | ⟨rfl, rfl⟩ | ⟨rfl, rfl⟩
  all_goals
    obtain rfl := fnElem_inv (i := _) hv
    exact hrun
end Go.Proofs.YtpgclgfaiklpoaaDoor
