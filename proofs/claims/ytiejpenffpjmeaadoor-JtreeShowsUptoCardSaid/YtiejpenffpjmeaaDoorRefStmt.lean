/- gumshoeref03.stmt. -/
import Derived.Test.YtiejpenffpjmeaaDoorRefExpr
namespace Go.Proofs.YtiejpenffpjmeaaDoor
set_option linter.unusedSimpArgs false
set_option linter.unusedVariables false
open Go.RowKit Go.Proofs

def RefWalkS (op : Int) : Prop := ∀ (h : Int) (t : Tr) (A : Option Addr) (c : Nat) (w : World), t.op = op → 1 ≤ h → h ≤ 1000 → At w w.heap.size t (nodeV t (.slice A t.l.length c)) → (∀ y ∈ t.l, RefE (h - 1) y) → (∀ y ∈ t.l, RefS (h - 1) y) → t.l.length ≤ 1000000 →
  Calls Tryd.prog 38 #[nodeV t (.slice A t.l.length c), .int .i64 h] w (Says (isS t ∧ OK h t) w)
/-- The parts of a row that lies. -/
theorem row_elem {W1 : World} {l : List Tr} {A : Option Addr} {c : Nat} (hr : Row W1 W1.heap.size l (.slice A l.length c)) (hl : 0 < l.length) :
    ∃ g off, A = some ⟨g, off, none⟩ ∧ l.length ≤ c ∧ ∀ w', Below W1.heap.size W1 w' → ∀ k y, l[k]? = some y → ∃ Av cv, At w' w'.heap.size y (nodeV y (.slice Av y.l.length cv)) ∧ w'.cell? ⟨g, off + k * 5, none⟩ = some (.int .i64 y.op) ∧ w'.cell? ⟨g, off + k * 5 + 1, none⟩ = some (.string (bs y.s)) ∧ w'.cell? ⟨g, off + k * 5 + 2, none⟩ = some (.int .i64 y.n) ∧
      w'.cell? ⟨g, off + k * 5 + 3, none⟩ = some (.slice Av y.l.length cv) ∧ w'.cell? ⟨g, off + k * 5 + 4, none⟩ = some (.int .i64 y.line) := by
  obtain ⟨A', c', e', ⟨hlc, -⟩, hrow⟩ := hr
  cases e'
  obtain ⟨g, off, rfl, hg, ha⟩ := hrow hl
  refine ⟨g, off, rfl, hlc, fun w' hb k y hy => ?_⟩
  obtain ⟨Av, cv, hA, x⟩ := elem_at ha hg hb hy
  exact ⟨Av, cv, At.keep y hA hb.size fun _ _ => rfl, x⟩

set_option maxRecDepth 100000 in
set_option maxHeartbeats 4000000 in
theorem rst_30 : RefWalkS 30 := by
  intro h t A c w e h1 h2 hA hE hS hl
  obtain ⟨W1, hr⟩ : ∃ W, RIn h t A c w W := ⟨_, r_in h t A c w hA⟩
  have hbx := hr.cells
  have hiS : isS t := by unfold isS hasB; rw [e]; rfl
  have HR := Lib.hid hr
  have HN := Lib.hid hr.name
  have HX := Lib.hid (fun w' (hb : Below W1.heap.size W1 w') => box_in hb hr.box)
  have HOp := Lib.hid e
  have HOK := Lib.hid (ok_iff h t)
  have HInv := Lib.hid (inv_30 e)
  have HI := Lib.hid hiS
  have HE := Lib.hid hE
  have HS := Lib.hid hS
  have HLn := Lib.hid hl
  have hW : w.alloc (.cells #[.int .i64 30, .string (bs t.s), .int .i64 t.n, .slice A t.l.length c, .int .i64 t.line] 24) = W1 := by rw [← e]; exact hr.world
  unfold BoxAt at hbx
  rw [e] at hbx
  obtain ⟨f0, f1, f2, f3, f4⟩ := hbx
  unfold nodeV
  rw [e]
  obtain ⟨rn, en⟩ : ∃ b, isNameL t.s = b := ⟨_, rfl⟩
  rw [en] at HN
  have HEn := Lib.hid en
  clear hA hE hS hr hiS e en
  have HAll := Lib.hid (all_any (h - 1) t.l _ W1 HR.out.row HE.out hl)
  by_cases hn : t.n = 0
  · have d2 : (t.n != 0) = false := by rw [hn]; rfl
    have HNx := Lib.hid hn
    clear hn
    cases rn with
    | true =>
      by_cases hk : t.l.length ≤ 1
      · have HKx := Lib.hid hk
        go_enter Tryd.func38, Tryd.ntmps38
        go_wp2_with (first | (go_at_call 39; refine (HN.out _).mono ?_; rintro e w' ⟨rfl, rfl⟩) | (go_at_call 42; refine HAll.out.mono ?_; rintro e w5 ⟨b, rfl, hb, hb5⟩; have HB := Lib.hid (And.intro hb hb5); clear hb hb5))
        go_ret
        refine ⟨b, by first | rfl | simp, ?_, HR.out.low.trans (HB.out.2.mono HR.out.low.size)⟩
        rw [HB.out.1, HOK.out, HInv.out]
        constructor
        · intro hh
          refine ⟨HI.out, by omega, ⟨HEn.out, HNx.out, ?_⟩, fun y hy => (hh y hy).2⟩
          by_cases hz : t.l.length = 0
          · exact .inl (List.eq_nil_of_length_eq_zero hz)
          · obtain ⟨a, hl0⟩ := len1 (l := t.l) (by have := HKx.out; omega)
            exact .inr ⟨a, hl0, (hh a (by rw [hl0]; simp)).1⟩
        · rintro ⟨-, -, ⟨-, -, hl0 | ⟨a, hl0, ea⟩⟩, hp⟩ y hy
          · rw [hl0] at hy
            cases hy
          · refine ⟨?_, hp y hy⟩
            rw [hl0] at hy
            simp only [List.mem_cons, List.not_mem_nil, or_false] at hy
            subst hy
            exact ea
      · have hk2 : 1 < t.l.length := by omega
        have HKx := Lib.hid hk
        go_enter Tryd.func38, Tryd.ntmps38
        go_wp2_with (first | (go_at_call 39; refine (HN.out _).mono ?_; rintro e w' ⟨rfl, rfl⟩))
        go_ret
        refine ⟨false, by first | rfl | simp, ⟨fun hf => absurd hf (by simp), fun hh => ?_⟩, HR.out.low⟩
        have hi := HInv.out.1 (HOK.out.1 hh.2).2.1
        exfalso
        rcases hi.2.2 with hl0 | ⟨a, hl0, -⟩
        · exact HKx.out (by rw [hl0]; simp)
        · exact HKx.out (by rw [hl0]; simp)
    | false =>
      go_enter Tryd.func38, Tryd.ntmps38
      go_wp2_with (first | (go_at_call 39; refine (HN.out _).mono ?_; rintro e w' ⟨rfl, rfl⟩))
      go_ret
      refine ⟨false, by first | rfl | simp, ⟨fun hf => absurd hf (by simp), fun hh => ?_⟩, HR.out.low⟩
      have hi := HInv.out.1 (HOK.out.1 hh.2).2.1
      exact absurd (hi.1.symm.trans HEn.out) (by simp)
  · have d2 : (t.n != 0) = true := by simpa using hn
    have HNx := Lib.hid hn
    clear hn
    go_enter Tryd.func38, Tryd.ntmps38
    go_wp2_with (first | (go_at_call 39; refine (HN.out _).mono ?_; rintro e w' ⟨rfl, rfl⟩))
    go_ret
    refine ⟨false, by first | rfl | simp, ⟨fun hf => absurd hf (by simp), fun hh => ?_⟩, HR.out.low⟩
    have hi := HInv.out.1 (HOK.out.1 hh.2).2.1
    exact absurd hi.2.1 HNx.out

set_option maxRecDepth 100000 in
set_option maxHeartbeats 4000000 in
theorem rst_39 : RefWalkS 39 := by
  intro h t A c w e h1 h2 hA hE hS hl
  obtain ⟨W1, hr⟩ : ∃ W, RIn h t A c w W := ⟨_, r_in h t A c w hA⟩
  have hbx := hr.cells
  have hiS : isS t := by unfold isS hasB; rw [e]; rfl
  have HR := Lib.hid hr
  have HN := Lib.hid hr.name
  have HX := Lib.hid (fun w' (hb : Below W1.heap.size W1 w') => box_in hb hr.box)
  have HOp := Lib.hid e
  have HOK := Lib.hid (ok_iff h t)
  have HInv := Lib.hid (inv_39 e)
  have HI := Lib.hid hiS
  have HE := Lib.hid hE
  have HS := Lib.hid hS
  have HLn := Lib.hid hl
  have hW : w.alloc (.cells #[.int .i64 39, .string (bs t.s), .int .i64 t.n, .slice A t.l.length c, .int .i64 t.line] 24) = W1 := by rw [← e]; exact hr.world
  unfold BoxAt at hbx
  rw [e] at hbx
  obtain ⟨f0, f1, f2, f3, f4⟩ := hbx
  unfold nodeV
  rw [e]
  obtain ⟨rn, en⟩ : ∃ b, isNameL t.s = b := ⟨_, rfl⟩
  rw [en] at HN
  have HEn := Lib.hid en
  clear hA hE hS hr hiS e en
  by_cases hn : t.n = 0
  · have d2 : (t.n != 0) = false := by rw [hn]; rfl
    have HNx := Lib.hid hn
    clear hn
    by_cases hs : t.s = []
    · have d1 : ((bs t.s).toList == []) = true := by rw [hs, Lib.toList_data, bs_list]; rfl
      have HSx := Lib.hid hs
      clear hs
      by_cases hk : t.l.length = 0
      · have d3 : ((t.l.length : Int) == 0) = true := by rw [hk]; rfl
        have HKx := Lib.hid hk
        clear hk
        go_enter Tryd.func38, Tryd.ntmps38
        go_wp2_with (first | (go_at_call 39; refine (HN.out _).mono ?_; rintro e w' ⟨rfl, rfl⟩))
        go_ret
        refine ⟨true, by first | rfl | simp, ⟨fun _ => ⟨HI.out, HOK.out.2 ⟨by omega, HInv.out.2 ⟨HSx.out, HNx.out, List.eq_nil_of_length_eq_zero HKx.out⟩, fun y hy => ?_⟩⟩, fun _ => rfl⟩, HR.out.low⟩
        rw [List.eq_nil_of_length_eq_zero HKx.out] at hy
        cases hy
      · have d3 : ((t.l.length : Int) == 0) = false := by rw [beq_eq_false_iff_ne]; omega
        have HKx := Lib.hid hk
        clear hk
        go_enter Tryd.func38, Tryd.ntmps38
        go_wp2_with (first | (go_at_call 39; refine (HN.out _).mono ?_; rintro e w' ⟨rfl, rfl⟩))
        go_ret
        refine ⟨false, by first | rfl | simp, ⟨fun hf => absurd hf (by simp), fun hh => ?_⟩, HR.out.low⟩
        have hi := HInv.out.1 (HOK.out.1 hh.2).2.1
        exact absurd (by rw [hi.2.2]; rfl) HKx.out
    · have d1 : ((bs t.s).toList == []) = false := by rw [Lib.toList_data, bs_list, beq_eq_false_iff_ne]; exact hs
      have HSx := Lib.hid hs
      clear hs
      go_enter Tryd.func38, Tryd.ntmps38
      go_wp2_with (first | (go_at_call 39; refine (HN.out _).mono ?_; rintro e w' ⟨rfl, rfl⟩))
      go_ret
      refine ⟨false, by first | rfl | simp, ⟨fun hf => absurd hf (by simp), fun hh => ?_⟩, HR.out.low⟩
      have hi := HInv.out.1 (HOK.out.1 hh.2).2.1
      exact absurd hi.1 HSx.out
  · have d2 : (t.n != 0) = true := by simpa using hn
    have HNx := Lib.hid hn
    clear hn
    go_enter Tryd.func38, Tryd.ntmps38
    go_wp2_with (first | (go_at_call 39; refine (HN.out _).mono ?_; rintro e w' ⟨rfl, rfl⟩))
    go_ret
    refine ⟨false, by first | rfl | simp, ⟨fun hf => absurd hf (by simp), fun hh => ?_⟩, HR.out.low⟩
    have hi := HInv.out.1 (HOK.out.1 hh.2).2.1
    exact absurd hi.2.1 HNx.out

set_option maxRecDepth 100000 in
set_option maxHeartbeats 4000000 in
theorem rst_41 : RefWalkS 41 := by
  intro h t A c w e h1 h2 hA hE hS hl
  obtain ⟨W1, hr⟩ : ∃ W, RIn h t A c w W := ⟨_, r_in h t A c w hA⟩
  have hbx := hr.cells
  have hiS : isS t := by unfold isS hasB; rw [e]; rfl
  have HR := Lib.hid hr
  have HN := Lib.hid hr.name
  have HX := Lib.hid (fun w' (hb : Below W1.heap.size W1 w') => box_in hb hr.box)
  have HOp := Lib.hid e
  have HOK := Lib.hid (ok_iff h t)
  have HInv := Lib.hid (inv_41 e)
  have HI := Lib.hid hiS
  have HE := Lib.hid hE
  have HS := Lib.hid hS
  have HLn := Lib.hid hl
  have hW : w.alloc (.cells #[.int .i64 41, .string (bs t.s), .int .i64 t.n, .slice A t.l.length c, .int .i64 t.line] 24) = W1 := by rw [← e]; exact hr.world
  unfold BoxAt at hbx
  rw [e] at hbx
  obtain ⟨f0, f1, f2, f3, f4⟩ := hbx
  unfold nodeV
  rw [e]
  obtain ⟨rn, en⟩ : ∃ b, isNameL t.s = b := ⟨_, rfl⟩
  rw [en] at HN
  have HEn := Lib.hid en
  clear hA hE hS hr hiS e en
  have HFn := Lib.hid (fun_any (h - 1) t.l _ W1 HR.out.row HE.out HS.out hl)
  by_cases hn : t.n = 0
  · have d2 : (t.n != 0) = false := by rw [hn]; rfl
    have HNx := Lib.hid hn
    clear hn
    cases rn with
    | true =>
      go_enter Tryd.func38, Tryd.ntmps38
      go_wp2_with (first | (go_at_call 39; refine (HN.out _).mono ?_; rintro e w' ⟨rfl, rfl⟩) | (go_at_call 41; refine HFn.out.mono ?_; rintro e w5 ⟨b, rfl, hb, hb5⟩; have HB := Lib.hid (And.intro hb hb5); clear hb hb5))
      go_ret
      refine ⟨b, by first | rfl | simp, ?_, HR.out.low.trans (HB.out.2.mono HR.out.low.size)⟩
      rw [HB.out.1, HOK.out, HInv.out]
      constructor
      · rintro ⟨hle, xs, b', hl0, hx, hb1, hb2⟩
        refine ⟨HI.out, by omega, ⟨HEn.out, HNx.out, hle, xs, b', hl0, fun x hx' => (hx x hx').1, hb1⟩, fun y hy => ?_⟩
        rw [hl0, List.mem_append, List.mem_singleton] at hy
        rcases hy with hy | rfl
        · exact (hx y hy).2
        · exact hb2
      · rintro ⟨-, -, ⟨-, -, hle, xs, b', hl0, hx, hb1⟩, hp⟩
        exact ⟨hle, xs, b', hl0, fun x hx' => ⟨hx x hx', hp x (by rw [hl0]; simp [hx'])⟩, hb1, hp b' (by rw [hl0]; simp)⟩
    | false =>
      go_enter Tryd.func38, Tryd.ntmps38
      go_wp2_with (first | (go_at_call 39; refine (HN.out _).mono ?_; rintro e w' ⟨rfl, rfl⟩))
      go_ret
      refine ⟨false, by first | rfl | simp, ⟨fun hf => absurd hf (by simp), fun hh => ?_⟩, HR.out.low⟩
      have hi := HInv.out.1 (HOK.out.1 hh.2).2.1
      exact absurd (hi.1.symm.trans HEn.out) (by simp)
  · have d2 : (t.n != 0) = true := by simpa using hn
    have HNx := Lib.hid hn
    clear hn
    go_enter Tryd.func38, Tryd.ntmps38
    go_wp2_with (first | (go_at_call 39; refine (HN.out _).mono ?_; rintro e w' ⟨rfl, rfl⟩))
    go_ret
    refine ⟨false, by first | rfl | simp, ⟨fun hf => absurd hf (by simp), fun hh => ?_⟩, HR.out.low⟩
    have hi := HInv.out.1 (HOK.out.1 hh.2).2.1
    exact absurd hi.2.1 HNx.out
end Go.Proofs.YtiejpenffpjmeaaDoor
