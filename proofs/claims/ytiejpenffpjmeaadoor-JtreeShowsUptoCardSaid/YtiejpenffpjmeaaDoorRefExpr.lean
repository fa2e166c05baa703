/- gumshoeref03.expr: what is plain and has parts. -/
import Derived.Test.YtiejpenffpjmeaaDoorRefFun
import Derived.Test.YtiejpenffpjmeaaDoorRefs
namespace Go.Proofs.YtiejpenffpjmeaaDoor
set_option linter.unusedSimpArgs false
set_option linter.unusedVariables false
open Go.RowKit Go.Proofs

def RefWalk (op : Int) : Prop := ∀ (h : Int) (t : Tr) (A : Option Addr) (c : Nat) (w : World), t.op = op → 1 ≤ h → h ≤ 1000 → At w w.heap.size t (nodeV t (.slice A t.l.length c)) → (∀ y ∈ t.l, RefE (h - 1) y) → t.l.length ≤ 1000000 →
  Calls Tryd.prog 30 #[nodeV t (.slice A t.l.length c), .int .i64 h] w (Says (isE t ∧ OK h t) w)

/-- What an expression's walk is told. -/
structure RIn (h : Int) (t : Tr) (A : Option Addr) (c : Nat) (w W1 : World) : Prop where
  world : w.alloc (.cells #[.int .i64 t.op, .string (bs t.s), .int .i64 t.n, .slice A t.l.length c, .int .i64 t.line] 24) = W1
  low : Below w.heap.size w W1
  box : W1.heap[w.heap.size]? = some (.cells #[.int .i64 t.op, .string (bs t.s), .int .i64 t.n, .slice A t.l.length c, .int .i64 t.line] 24 (0, 0))
  row : Row W1 W1.heap.size t.l (.slice A t.l.length c)
  name : ∀ w', Calls Tryd.prog 39 #[.string (bs t.s)] w' fun e w'' => e = .returned (.bool (isNameL t.s)) ∧ w' = w''
  word : ∀ w', Calls Tryd.prog 40 #[.string (bs t.s)] w' fun e w'' => e = .returned (.bool (isWordL t.s)) ∧ w' = w''
theorem r_in (h : Int) (t : Tr) (A : Option Addr) (c : Nat) (w : World) (hA : At w w.heap.size t (nodeV t (.slice A t.l.length c))) :
    RIn h t A c w (w.alloc (.cells #[.int .i64 t.op, .string (bs t.s), .int .i64 t.n, .slice A t.l.length c, .int .i64 t.line] 24)) := by
  obtain ⟨u, e, hr, hf⟩ := (At_iff _ _ _ _).1 hA
  have hb : Below w.heap.size w (w.alloc (.cells #[.int .i64 t.op, .string (bs t.s), .int .i64 t.n, .slice A t.l.length c, .int .i64 t.line] 24)) := (Below.refl _ w).alloc (Nat.le_refl _) _
  unfold nodeV at e
  simp only [Value.agg.injEq, Array.mk.injEq, List.cons.injEq, and_true, true_and] at e
  subst e
  refine { world := rfl, low := hb, box := heap_alloc_new w _, row := hr.keep hb.size fun p hp => hb.cell hp, name := fun w' => ?_, word := fun w' => ?_ }
  · have := risName_any (bs t.s) w' (by rw [bs_size]; exact hf.1)
    rw [bs_list] at this
    exact this
  · have := risWord_any (bs t.s) w'
    rw [bs_list] at this
    exact this
theorem RIn.cells {h : Int} {t : Tr} {A : Option Addr} {c : Nat} {w W1 : World} (r : RIn h t A c w W1) : BoxAt W1 w.heap.size t (.slice A t.l.length c) := box_in (Below.refl _ _) r.box

set_option maxRecDepth 100000 in
set_option maxHeartbeats 4000000 in
theorem rex_14 : RefWalk 14 := by
  intro h t A c w e h1 h2 hA hE hl
  obtain ⟨W1, hr⟩ : ∃ W, RIn h t A c w W := ⟨_, r_in h t A c w hA⟩
  have hall := all_any (h - 1) t.l _ W1 hr.row hE hl
  have hbx := hr.cells
  have hiE : isE t := by unfold isE hasB; rw [e]; rfl
  have HR := Lib.hid hr
  have HN := Lib.hid hr.name
  have HWd := Lib.hid hr.word
  have HAll := Lib.hid hall
  have HOK := Lib.hid (ok_iff h t)
  have HInv := Lib.hid (inv_14 e)
  have HE := Lib.hid hiE
  have hW : w.alloc (.cells #[.int .i64 14, .string (bs t.s), .int .i64 t.n, .slice A t.l.length c, .int .i64 t.line] 24) = W1 := by rw [← e]; exact hr.world
  unfold BoxAt at hbx
  rw [e] at hbx
  obtain ⟨f0, f1, f2, f3, f4⟩ := hbx
  unfold nodeV
  rw [e]
  obtain ⟨rn, en⟩ : ∃ b, isNameL t.s = b := ⟨_, rfl⟩
  obtain ⟨rw_, ew⟩ : ∃ b, isWordL t.s = b := ⟨_, rfl⟩
  rw [en] at HN
  rw [ew] at HWd
  clear hA hE hr hall hiE e en ew
  by_cases hs : t.s = []
  · have d1 : ((bs t.s).toList == []) = true := by rw [hs, Lib.toList_data, bs_list]; rfl
    have HSx := Lib.hid hs
    clear hs
    by_cases hn : t.n = 0
    · have d2 : (t.n == 0) = true := by rw [hn]; rfl
      have HNx := Lib.hid hn
      clear hn
      by_cases hk : t.l.length = 2
      · have d3 : ((t.l.length : Int) == 2) = true := by rw [hk]; rfl
        have HK := Lib.hid hk
        clear hk
        go_enter Tryd.func30, Tryd.ntmps30
        go_wp2_with (first | (go_at_call 39; refine (HN.out _).mono ?_; rintro e w' ⟨rfl, rfl⟩) | (go_at_call 40; refine (HWd.out _).mono ?_; rintro e w' ⟨rfl, rfl⟩) | (go_at_call 42; refine HAll.out.mono ?_; rintro e w5 ⟨b, rfl, hb, hb5⟩; have HB := Lib.hid (And.intro hb hb5); clear hb hb5))
        go_ret
        refine ⟨b, by first | rfl | simp, ?_, HR.out.low.trans (HB.out.2.mono HR.out.low.size)⟩
        rw [HB.out.1, HOK.out, HInv.out]
        constructor
        · intro hh
          refine ⟨HE.out, by omega, ⟨HSx.out, HNx.out, ?_⟩, fun y hy => (hh y hy).2⟩
          obtain ⟨a, b, hl0⟩ := len2 HK.out
          exact ⟨a, b, hl0, (hh a (by rw [hl0]; simp)).1, (hh b (by rw [hl0]; simp)).1⟩
        · rintro ⟨-, -, ⟨-, -, a, b, hl0, ea, eb⟩, hp⟩ y hy
          refine ⟨?_, hp y hy⟩
          rw [hl0] at hy
          simp only [List.mem_cons, List.not_mem_nil, or_false] at hy
          rcases hy with rfl | rfl
          · exact ea
          · exact eb
      · have d3 : ((t.l.length : Int) == 2) = false := by simp; omega
        have HK := Lib.hid hk
        clear hk
        go_enter Tryd.func30, Tryd.ntmps30
        go_wp2_with (first | (go_at_call 39; refine (HN.out _).mono ?_; rintro e w' ⟨rfl, rfl⟩) | (go_at_call 40; refine (HWd.out _).mono ?_; rintro e w' ⟨rfl, rfl⟩) | (go_at_call 42; refine HAll.out.mono ?_; rintro e w5 ⟨b, rfl, hb, hb5⟩; have HB := Lib.hid (And.intro hb hb5); clear hb hb5))
        go_ret
        refine ⟨false, by first | rfl | simp, ⟨fun hf => absurd hf (by simp), fun hh => ?_⟩, HR.out.low⟩
        have hi := HInv.out.1 (HOK.out.1 hh.2).2.1
        obtain ⟨-, -, a, b, hl0, -⟩ := hi
        exact absurd (by rw [hl0]; rfl) HK.out
    · have d2 : (t.n == 0) = false := by simpa using hn
      have HNx := Lib.hid hn
      clear hn
      go_enter Tryd.func30, Tryd.ntmps30
      go_wp2_with (first | (go_at_call 39; refine (HN.out _).mono ?_; rintro e w' ⟨rfl, rfl⟩) | (go_at_call 40; refine (HWd.out _).mono ?_; rintro e w' ⟨rfl, rfl⟩) | (go_at_call 42; refine HAll.out.mono ?_; rintro e w5 ⟨b, rfl, hb, hb5⟩; have HB := Lib.hid (And.intro hb hb5); clear hb hb5))
      go_ret
      refine ⟨false, by first | rfl | simp, ⟨fun hf => absurd hf (by simp), fun hh => ?_⟩, HR.out.low⟩
      have hi := HInv.out.1 (HOK.out.1 hh.2).2.1
      exact absurd hi.2.1 HNx.out
  · have d1 : ((bs t.s).toList == []) = false := by rw [Lib.toList_data, bs_list, beq_eq_false_iff_ne]; exact hs
    have HSx := Lib.hid hs
    clear hs
    go_enter Tryd.func30, Tryd.ntmps30
    go_wp2_with (first | (go_at_call 39; refine (HN.out _).mono ?_; rintro e w' ⟨rfl, rfl⟩) | (go_at_call 40; refine (HWd.out _).mono ?_; rintro e w' ⟨rfl, rfl⟩) | (go_at_call 42; refine HAll.out.mono ?_; rintro e w5 ⟨b, rfl, hb, hb5⟩; have HB := Lib.hid (And.intro hb hb5); clear hb hb5))
    go_ret
    refine ⟨false, by first | rfl | simp, ⟨fun hf => absurd hf (by simp), fun hh => ?_⟩, HR.out.low⟩
    have hi := HInv.out.1 (HOK.out.1 hh.2).2.1
    exact absurd hi.1 HSx.out

set_option maxRecDepth 100000 in
set_option maxHeartbeats 4000000 in
theorem rex_19 : RefWalk 19 := by
  intro h t A c w e h1 h2 hA hE hl
  obtain ⟨W1, hr⟩ : ∃ W, RIn h t A c w W := ⟨_, r_in h t A c w hA⟩
  have hall := all_any (h - 1) t.l _ W1 hr.row hE hl
  have hbx := hr.cells
  have hiE : isE t := by unfold isE hasB; rw [e]; rfl
  have HR := Lib.hid hr
  have HN := Lib.hid hr.name
  have HWd := Lib.hid hr.word
  have HAll := Lib.hid hall
  have HOK := Lib.hid (ok_iff h t)
  have HInv := Lib.hid (inv_19 e)
  have HE := Lib.hid hiE
  have hW : w.alloc (.cells #[.int .i64 19, .string (bs t.s), .int .i64 t.n, .slice A t.l.length c, .int .i64 t.line] 24) = W1 := by rw [← e]; exact hr.world
  unfold BoxAt at hbx
  rw [e] at hbx
  obtain ⟨f0, f1, f2, f3, f4⟩ := hbx
  unfold nodeV
  rw [e]
  obtain ⟨rn, en⟩ : ∃ b, isNameL t.s = b := ⟨_, rfl⟩
  obtain ⟨rw_, ew⟩ : ∃ b, isWordL t.s = b := ⟨_, rfl⟩
  rw [en] at HN
  rw [ew] at HWd
  clear hA hE hr hall hiE e en ew
  by_cases hs : t.s = []
  · have d1 : ((bs t.s).toList == []) = true := by rw [hs, Lib.toList_data, bs_list]; rfl
    have HSx := Lib.hid hs
    clear hs
    by_cases hn : t.n = 0
    · have d2 : (t.n == 0) = true := by rw [hn]; rfl
      have HNx := Lib.hid hn
      clear hn
      by_cases hk : t.l.length = 1
      · have d3 : ((t.l.length : Int) == 1) = true := by rw [hk]; rfl
        have HK := Lib.hid hk
        clear hk
        go_enter Tryd.func30, Tryd.ntmps30
        go_wp2_with (first | (go_at_call 39; refine (HN.out _).mono ?_; rintro e w' ⟨rfl, rfl⟩) | (go_at_call 40; refine (HWd.out _).mono ?_; rintro e w' ⟨rfl, rfl⟩) | (go_at_call 42; refine HAll.out.mono ?_; rintro e w5 ⟨b, rfl, hb, hb5⟩; have HB := Lib.hid (And.intro hb hb5); clear hb hb5))
        go_ret
        refine ⟨b, by first | rfl | simp, ?_, HR.out.low.trans (HB.out.2.mono HR.out.low.size)⟩
        rw [HB.out.1, HOK.out, HInv.out]
        constructor
        · intro hh
          refine ⟨HE.out, by omega, ⟨HSx.out, HNx.out, ?_⟩, fun y hy => (hh y hy).2⟩
          obtain ⟨a, hl0⟩ := len1 HK.out
          exact ⟨a, hl0, (hh a (by rw [hl0]; simp)).1⟩
        · rintro ⟨-, -, ⟨-, -, a, hl0, ea⟩, hp⟩ y hy
          refine ⟨?_, hp y hy⟩
          rw [hl0] at hy
          simp only [List.mem_cons, List.not_mem_nil, or_false] at hy
          subst hy
          exact ea
      · have d3 : ((t.l.length : Int) == 1) = false := by simp; omega
        have HK := Lib.hid hk
        clear hk
        go_enter Tryd.func30, Tryd.ntmps30
        go_wp2_with (first | (go_at_call 39; refine (HN.out _).mono ?_; rintro e w' ⟨rfl, rfl⟩) | (go_at_call 40; refine (HWd.out _).mono ?_; rintro e w' ⟨rfl, rfl⟩) | (go_at_call 42; refine HAll.out.mono ?_; rintro e w5 ⟨b, rfl, hb, hb5⟩; have HB := Lib.hid (And.intro hb hb5); clear hb hb5))
        go_ret
        refine ⟨false, by first | rfl | simp, ⟨fun hf => absurd hf (by simp), fun hh => ?_⟩, HR.out.low⟩
        have hi := HInv.out.1 (HOK.out.1 hh.2).2.1
        obtain ⟨-, -, a, hl0, -⟩ := hi
        exact absurd (by rw [hl0]; rfl) HK.out
    · have d2 : (t.n == 0) = false := by simpa using hn
      have HNx := Lib.hid hn
      clear hn
      go_enter Tryd.func30, Tryd.ntmps30
      go_wp2_with (first | (go_at_call 39; refine (HN.out _).mono ?_; rintro e w' ⟨rfl, rfl⟩) | (go_at_call 40; refine (HWd.out _).mono ?_; rintro e w' ⟨rfl, rfl⟩) | (go_at_call 42; refine HAll.out.mono ?_; rintro e w5 ⟨b, rfl, hb, hb5⟩; have HB := Lib.hid (And.intro hb hb5); clear hb hb5))
      go_ret
      refine ⟨false, by first | rfl | simp, ⟨fun hf => absurd hf (by simp), fun hh => ?_⟩, HR.out.low⟩
      have hi := HInv.out.1 (HOK.out.1 hh.2).2.1
      exact absurd hi.2.1 HNx.out
  · have d1 : ((bs t.s).toList == []) = false := by rw [Lib.toList_data, bs_list, beq_eq_false_iff_ne]; exact hs
    have HSx := Lib.hid hs
    clear hs
    go_enter Tryd.func30, Tryd.ntmps30
    go_wp2_with (first | (go_at_call 39; refine (HN.out _).mono ?_; rintro e w' ⟨rfl, rfl⟩) | (go_at_call 40; refine (HWd.out _).mono ?_; rintro e w' ⟨rfl, rfl⟩) | (go_at_call 42; refine HAll.out.mono ?_; rintro e w5 ⟨b, rfl, hb, hb5⟩; have HB := Lib.hid (And.intro hb hb5); clear hb hb5))
    go_ret
    refine ⟨false, by first | rfl | simp, ⟨fun hf => absurd hf (by simp), fun hh => ?_⟩, HR.out.low⟩
    have hi := HInv.out.1 (HOK.out.1 hh.2).2.1
    exact absurd hi.1 HSx.out

set_option maxRecDepth 100000 in
set_option maxHeartbeats 4000000 in
theorem rex_20 : RefWalk 20 := by
  intro h t A c w e h1 h2 hA hE hl
  obtain ⟨W1, hr⟩ : ∃ W, RIn h t A c w W := ⟨_, r_in h t A c w hA⟩
  have hall := all_any (h - 1) t.l _ W1 hr.row hE hl
  have hbx := hr.cells
  have hiE : isE t := by unfold isE hasB; rw [e]; rfl
  have HR := Lib.hid hr
  have HN := Lib.hid hr.name
  have HWd := Lib.hid hr.word
  have HAll := Lib.hid hall
  have HOK := Lib.hid (ok_iff h t)
  have HInv := Lib.hid (inv_20 e)
  have HE := Lib.hid hiE
  have hW : w.alloc (.cells #[.int .i64 20, .string (bs t.s), .int .i64 t.n, .slice A t.l.length c, .int .i64 t.line] 24) = W1 := by rw [← e]; exact hr.world
  unfold BoxAt at hbx
  rw [e] at hbx
  obtain ⟨f0, f1, f2, f3, f4⟩ := hbx
  unfold nodeV
  rw [e]
  obtain ⟨rn, en⟩ : ∃ b, isNameL t.s = b := ⟨_, rfl⟩
  obtain ⟨rw_, ew⟩ : ∃ b, isWordL t.s = b := ⟨_, rfl⟩
  rw [en] at HN
  rw [ew] at HWd
  clear hA hE hr hall hiE e en ew
  by_cases hs : t.s = []
  · have d1 : ((bs t.s).toList == []) = true := by rw [hs, Lib.toList_data, bs_list]; rfl
    have HSx := Lib.hid hs
    clear hs
    by_cases hn : t.n = 0
    · have d2 : (t.n == 0) = true := by rw [hn]; rfl
      have HNx := Lib.hid hn
      clear hn
      by_cases hk : t.l.length = 1
      · have d3 : ((t.l.length : Int) == 1) = true := by rw [hk]; rfl
        have HK := Lib.hid hk
        clear hk
        go_enter Tryd.func30, Tryd.ntmps30
        go_wp2_with (first | (go_at_call 39; refine (HN.out _).mono ?_; rintro e w' ⟨rfl, rfl⟩) | (go_at_call 40; refine (HWd.out _).mono ?_; rintro e w' ⟨rfl, rfl⟩) | (go_at_call 42; refine HAll.out.mono ?_; rintro e w5 ⟨b, rfl, hb, hb5⟩; have HB := Lib.hid (And.intro hb hb5); clear hb hb5))
        go_ret
        refine ⟨b, by first | rfl | simp, ?_, HR.out.low.trans (HB.out.2.mono HR.out.low.size)⟩
        rw [HB.out.1, HOK.out, HInv.out]
        constructor
        · intro hh
          refine ⟨HE.out, by omega, ⟨HSx.out, HNx.out, ?_⟩, fun y hy => (hh y hy).2⟩
          obtain ⟨a, hl0⟩ := len1 HK.out
          exact ⟨a, hl0, (hh a (by rw [hl0]; simp)).1⟩
        · rintro ⟨-, -, ⟨-, -, a, hl0, ea⟩, hp⟩ y hy
          refine ⟨?_, hp y hy⟩
          rw [hl0] at hy
          simp only [List.mem_cons, List.not_mem_nil, or_false] at hy
          subst hy
          exact ea
      · have d3 : ((t.l.length : Int) == 1) = false := by simp; omega
        have HK := Lib.hid hk
        clear hk
        go_enter Tryd.func30, Tryd.ntmps30
        go_wp2_with (first | (go_at_call 39; refine (HN.out _).mono ?_; rintro e w' ⟨rfl, rfl⟩) | (go_at_call 40; refine (HWd.out _).mono ?_; rintro e w' ⟨rfl, rfl⟩) | (go_at_call 42; refine HAll.out.mono ?_; rintro e w5 ⟨b, rfl, hb, hb5⟩; have HB := Lib.hid (And.intro hb hb5); clear hb hb5))
        go_ret
        refine ⟨false, by first | rfl | simp, ⟨fun hf => absurd hf (by simp), fun hh => ?_⟩, HR.out.low⟩
        have hi := HInv.out.1 (HOK.out.1 hh.2).2.1
        obtain ⟨-, -, a, hl0, -⟩ := hi
        exact absurd (by rw [hl0]; rfl) HK.out
    · have d2 : (t.n == 0) = false := by simpa using hn
      have HNx := Lib.hid hn
      clear hn
      go_enter Tryd.func30, Tryd.ntmps30
      go_wp2_with (first | (go_at_call 39; refine (HN.out _).mono ?_; rintro e w' ⟨rfl, rfl⟩) | (go_at_call 40; refine (HWd.out _).mono ?_; rintro e w' ⟨rfl, rfl⟩) | (go_at_call 42; refine HAll.out.mono ?_; rintro e w5 ⟨b, rfl, hb, hb5⟩; have HB := Lib.hid (And.intro hb hb5); clear hb hb5))
      go_ret
      refine ⟨false, by first | rfl | simp, ⟨fun hf => absurd hf (by simp), fun hh => ?_⟩, HR.out.low⟩
      have hi := HInv.out.1 (HOK.out.1 hh.2).2.1
      exact absurd hi.2.1 HNx.out
  · have d1 : ((bs t.s).toList == []) = false := by rw [Lib.toList_data, bs_list, beq_eq_false_iff_ne]; exact hs
    have HSx := Lib.hid hs
    clear hs
    go_enter Tryd.func30, Tryd.ntmps30
    go_wp2_with (first | (go_at_call 39; refine (HN.out _).mono ?_; rintro e w' ⟨rfl, rfl⟩) | (go_at_call 40; refine (HWd.out _).mono ?_; rintro e w' ⟨rfl, rfl⟩) | (go_at_call 42; refine HAll.out.mono ?_; rintro e w5 ⟨b, rfl, hb, hb5⟩; have HB := Lib.hid (And.intro hb hb5); clear hb hb5))
    go_ret
    refine ⟨false, by first | rfl | simp, ⟨fun hf => absurd hf (by simp), fun hh => ?_⟩, HR.out.low⟩
    have hi := HInv.out.1 (HOK.out.1 hh.2).2.1
    exact absurd hi.1 HSx.out

set_option maxRecDepth 100000 in
set_option maxHeartbeats 4000000 in
theorem rex_21 : RefWalk 21 := by
  intro h t A c w e h1 h2 hA hE hl
  obtain ⟨W1, hr⟩ : ∃ W, RIn h t A c w W := ⟨_, r_in h t A c w hA⟩
  have hall := all_any (h - 1) t.l _ W1 hr.row hE hl
  have hbx := hr.cells
  have hiE : isE t := by unfold isE hasB; rw [e]; rfl
  have HR := Lib.hid hr
  have HN := Lib.hid hr.name
  have HWd := Lib.hid hr.word
  have HAll := Lib.hid hall
  have HOK := Lib.hid (ok_iff h t)
  have HInv := Lib.hid (inv_21 e)
  have HE := Lib.hid hiE
  have hW : w.alloc (.cells #[.int .i64 21, .string (bs t.s), .int .i64 t.n, .slice A t.l.length c, .int .i64 t.line] 24) = W1 := by rw [← e]; exact hr.world
  unfold BoxAt at hbx
  rw [e] at hbx
  obtain ⟨f0, f1, f2, f3, f4⟩ := hbx
  unfold nodeV
  rw [e]
  obtain ⟨rn, en⟩ : ∃ b, isNameL t.s = b := ⟨_, rfl⟩
  obtain ⟨rw_, ew⟩ : ∃ b, isWordL t.s = b := ⟨_, rfl⟩
  rw [en] at HN
  rw [ew] at HWd
  clear hA hE hr hall hiE e en ew
  by_cases hs : t.s = []
  · have d1 : ((bs t.s).toList == []) = true := by rw [hs, Lib.toList_data, bs_list]; rfl
    have HSx := Lib.hid hs
    clear hs
    by_cases hn : t.n = 0
    · have d2 : (t.n == 0) = true := by rw [hn]; rfl
      have HNx := Lib.hid hn
      clear hn
      by_cases hk : t.l.length = 2
      · have d3 : ((t.l.length : Int) == 2) = true := by rw [hk]; rfl
        have HK := Lib.hid hk
        clear hk
        go_enter Tryd.func30, Tryd.ntmps30
        go_wp2_with (first | (go_at_call 39; refine (HN.out _).mono ?_; rintro e w' ⟨rfl, rfl⟩) | (go_at_call 40; refine (HWd.out _).mono ?_; rintro e w' ⟨rfl, rfl⟩) | (go_at_call 42; refine HAll.out.mono ?_; rintro e w5 ⟨b, rfl, hb, hb5⟩; have HB := Lib.hid (And.intro hb hb5); clear hb hb5))
        go_ret
        refine ⟨b, by first | rfl | simp, ?_, HR.out.low.trans (HB.out.2.mono HR.out.low.size)⟩
        rw [HB.out.1, HOK.out, HInv.out]
        constructor
        · intro hh
          refine ⟨HE.out, by omega, ⟨HSx.out, HNx.out, ?_⟩, fun y hy => (hh y hy).2⟩
          obtain ⟨a, b, hl0⟩ := len2 HK.out
          exact ⟨a, b, hl0, (hh a (by rw [hl0]; simp)).1, (hh b (by rw [hl0]; simp)).1⟩
        · rintro ⟨-, -, ⟨-, -, a, b, hl0, ea, eb⟩, hp⟩ y hy
          refine ⟨?_, hp y hy⟩
          rw [hl0] at hy
          simp only [List.mem_cons, List.not_mem_nil, or_false] at hy
          rcases hy with rfl | rfl
          · exact ea
          · exact eb
      · have d3 : ((t.l.length : Int) == 2) = false := by simp; omega
        have HK := Lib.hid hk
        clear hk
        go_enter Tryd.func30, Tryd.ntmps30
        go_wp2_with (first | (go_at_call 39; refine (HN.out _).mono ?_; rintro e w' ⟨rfl, rfl⟩) | (go_at_call 40; refine (HWd.out _).mono ?_; rintro e w' ⟨rfl, rfl⟩) | (go_at_call 42; refine HAll.out.mono ?_; rintro e w5 ⟨b, rfl, hb, hb5⟩; have HB := Lib.hid (And.intro hb hb5); clear hb hb5))
        go_ret
        refine ⟨false, by first | rfl | simp, ⟨fun hf => absurd hf (by simp), fun hh => ?_⟩, HR.out.low⟩
        have hi := HInv.out.1 (HOK.out.1 hh.2).2.1
        obtain ⟨-, -, a, b, hl0, -⟩ := hi
        exact absurd (by rw [hl0]; rfl) HK.out
    · have d2 : (t.n == 0) = false := by simpa using hn
      have HNx := Lib.hid hn
      clear hn
      go_enter Tryd.func30, Tryd.ntmps30
      go_wp2_with (first | (go_at_call 39; refine (HN.out _).mono ?_; rintro e w' ⟨rfl, rfl⟩) | (go_at_call 40; refine (HWd.out _).mono ?_; rintro e w' ⟨rfl, rfl⟩) | (go_at_call 42; refine HAll.out.mono ?_; rintro e w5 ⟨b, rfl, hb, hb5⟩; have HB := Lib.hid (And.intro hb hb5); clear hb hb5))
      go_ret
      refine ⟨false, by first | rfl | simp, ⟨fun hf => absurd hf (by simp), fun hh => ?_⟩, HR.out.low⟩
      have hi := HInv.out.1 (HOK.out.1 hh.2).2.1
      exact absurd hi.2.1 HNx.out
  · have d1 : ((bs t.s).toList == []) = false := by rw [Lib.toList_data, bs_list, beq_eq_false_iff_ne]; exact hs
    have HSx := Lib.hid hs
    clear hs
    go_enter Tryd.func30, Tryd.ntmps30
    go_wp2_with (first | (go_at_call 39; refine (HN.out _).mono ?_; rintro e w' ⟨rfl, rfl⟩) | (go_at_call 40; refine (HWd.out _).mono ?_; rintro e w' ⟨rfl, rfl⟩) | (go_at_call 42; refine HAll.out.mono ?_; rintro e w5 ⟨b, rfl, hb, hb5⟩; have HB := Lib.hid (And.intro hb hb5); clear hb hb5))
    go_ret
    refine ⟨false, by first | rfl | simp, ⟨fun hf => absurd hf (by simp), fun hh => ?_⟩, HR.out.low⟩
    have hi := HInv.out.1 (HOK.out.1 hh.2).2.1
    exact absurd hi.1 HSx.out

set_option maxRecDepth 100000 in
set_option maxHeartbeats 4000000 in
theorem rex_22 : RefWalk 22 := by
  intro h t A c w e h1 h2 hA hE hl
  obtain ⟨W1, hr⟩ : ∃ W, RIn h t A c w W := ⟨_, r_in h t A c w hA⟩
  have hall := all_any (h - 1) t.l _ W1 hr.row hE hl
  have hbx := hr.cells
  have hiE : isE t := by unfold isE hasB; rw [e]; rfl
  have HR := Lib.hid hr
  have HN := Lib.hid hr.name
  have HWd := Lib.hid hr.word
  have HAll := Lib.hid hall
  have HOK := Lib.hid (ok_iff h t)
  have HInv := Lib.hid (inv_22 e)
  have HE := Lib.hid hiE
  have hW : w.alloc (.cells #[.int .i64 22, .string (bs t.s), .int .i64 t.n, .slice A t.l.length c, .int .i64 t.line] 24) = W1 := by rw [← e]; exact hr.world
  unfold BoxAt at hbx
  rw [e] at hbx
  obtain ⟨f0, f1, f2, f3, f4⟩ := hbx
  unfold nodeV
  rw [e]
  obtain ⟨rn, en⟩ : ∃ b, isNameL t.s = b := ⟨_, rfl⟩
  obtain ⟨rw_, ew⟩ : ∃ b, isWordL t.s = b := ⟨_, rfl⟩
  rw [en] at HN
  rw [ew] at HWd
  clear hA hE hr hall hiE e en ew
  by_cases hs : t.s = []
  · have d1 : ((bs t.s).toList == []) = true := by rw [hs, Lib.toList_data, bs_list]; rfl
    have HSx := Lib.hid hs
    clear hs
    by_cases hn : t.n = 0
    · have d2 : (t.n == 0) = true := by rw [hn]; rfl
      have HNx := Lib.hid hn
      clear hn
      by_cases hk : t.l.length = 2
      · have d3 : ((t.l.length : Int) == 2) = true := by rw [hk]; rfl
        have HK := Lib.hid hk
        clear hk
        go_enter Tryd.func30, Tryd.ntmps30
        go_wp2_with (first | (go_at_call 39; refine (HN.out _).mono ?_; rintro e w' ⟨rfl, rfl⟩) | (go_at_call 40; refine (HWd.out _).mono ?_; rintro e w' ⟨rfl, rfl⟩) | (go_at_call 42; refine HAll.out.mono ?_; rintro e w5 ⟨b, rfl, hb, hb5⟩; have HB := Lib.hid (And.intro hb hb5); clear hb hb5))
        go_ret
        refine ⟨b, by first | rfl | simp, ?_, HR.out.low.trans (HB.out.2.mono HR.out.low.size)⟩
        rw [HB.out.1, HOK.out, HInv.out]
        constructor
        · intro hh
          refine ⟨HE.out, by omega, ⟨HSx.out, HNx.out, ?_⟩, fun y hy => (hh y hy).2⟩
          obtain ⟨a, b, hl0⟩ := len2 HK.out
          exact ⟨a, b, hl0, (hh a (by rw [hl0]; simp)).1, (hh b (by rw [hl0]; simp)).1⟩
        · rintro ⟨-, -, ⟨-, -, a, b, hl0, ea, eb⟩, hp⟩ y hy
          refine ⟨?_, hp y hy⟩
          rw [hl0] at hy
          simp only [List.mem_cons, List.not_mem_nil, or_false] at hy
          rcases hy with rfl | rfl
          · exact ea
          · exact eb
      · have d3 : ((t.l.length : Int) == 2) = false := by simp; omega
        have HK := Lib.hid hk
        clear hk
        go_enter Tryd.func30, Tryd.ntmps30
        go_wp2_with (first | (go_at_call 39; refine (HN.out _).mono ?_; rintro e w' ⟨rfl, rfl⟩) | (go_at_call 40; refine (HWd.out _).mono ?_; rintro e w' ⟨rfl, rfl⟩) | (go_at_call 42; refine HAll.out.mono ?_; rintro e w5 ⟨b, rfl, hb, hb5⟩; have HB := Lib.hid (And.intro hb hb5); clear hb hb5))
        go_ret
        refine ⟨false, by first | rfl | simp, ⟨fun hf => absurd hf (by simp), fun hh => ?_⟩, HR.out.low⟩
        have hi := HInv.out.1 (HOK.out.1 hh.2).2.1
        obtain ⟨-, -, a, b, hl0, -⟩ := hi
        exact absurd (by rw [hl0]; rfl) HK.out
    · have d2 : (t.n == 0) = false := by simpa using hn
      have HNx := Lib.hid hn
      clear hn
      go_enter Tryd.func30, Tryd.ntmps30
      go_wp2_with (first | (go_at_call 39; refine (HN.out _).mono ?_; rintro e w' ⟨rfl, rfl⟩) | (go_at_call 40; refine (HWd.out _).mono ?_; rintro e w' ⟨rfl, rfl⟩) | (go_at_call 42; refine HAll.out.mono ?_; rintro e w5 ⟨b, rfl, hb, hb5⟩; have HB := Lib.hid (And.intro hb hb5); clear hb hb5))
      go_ret
      refine ⟨false, by first | rfl | simp, ⟨fun hf => absurd hf (by simp), fun hh => ?_⟩, HR.out.low⟩
      have hi := HInv.out.1 (HOK.out.1 hh.2).2.1
      exact absurd hi.2.1 HNx.out
  · have d1 : ((bs t.s).toList == []) = false := by rw [Lib.toList_data, bs_list, beq_eq_false_iff_ne]; exact hs
    have HSx := Lib.hid hs
    clear hs
    go_enter Tryd.func30, Tryd.ntmps30
    go_wp2_with (first | (go_at_call 39; refine (HN.out _).mono ?_; rintro e w' ⟨rfl, rfl⟩) | (go_at_call 40; refine (HWd.out _).mono ?_; rintro e w' ⟨rfl, rfl⟩) | (go_at_call 42; refine HAll.out.mono ?_; rintro e w5 ⟨b, rfl, hb, hb5⟩; have HB := Lib.hid (And.intro hb hb5); clear hb hb5))
    go_ret
    refine ⟨false, by first | rfl | simp, ⟨fun hf => absurd hf (by simp), fun hh => ?_⟩, HR.out.low⟩
    have hi := HInv.out.1 (HOK.out.1 hh.2).2.1
    exact absurd hi.1 HSx.out

set_option maxRecDepth 100000 in
set_option maxHeartbeats 4000000 in
theorem rex_23 : RefWalk 23 := by
  intro h t A c w e h1 h2 hA hE hl
  obtain ⟨W1, hr⟩ : ∃ W, RIn h t A c w W := ⟨_, r_in h t A c w hA⟩
  have hall := all_any (h - 1) t.l _ W1 hr.row hE hl
  have hbx := hr.cells
  have hiE : isE t := by unfold isE hasB; rw [e]; rfl
  have HR := Lib.hid hr
  have HN := Lib.hid hr.name
  have HWd := Lib.hid hr.word
  have HAll := Lib.hid hall
  have HOK := Lib.hid (ok_iff h t)
  have HInv := Lib.hid (inv_23 e)
  have HE := Lib.hid hiE
  have hW : w.alloc (.cells #[.int .i64 23, .string (bs t.s), .int .i64 t.n, .slice A t.l.length c, .int .i64 t.line] 24) = W1 := by rw [← e]; exact hr.world
  unfold BoxAt at hbx
  rw [e] at hbx
  obtain ⟨f0, f1, f2, f3, f4⟩ := hbx
  unfold nodeV
  rw [e]
  obtain ⟨rn, en⟩ : ∃ b, isNameL t.s = b := ⟨_, rfl⟩
  obtain ⟨rw_, ew⟩ : ∃ b, isWordL t.s = b := ⟨_, rfl⟩
  rw [en] at HN
  rw [ew] at HWd
  clear hA hE hr hall hiE e en ew
  by_cases hs : t.s = []
  · have d1 : ((bs t.s).toList == []) = true := by rw [hs, Lib.toList_data, bs_list]; rfl
    have HSx := Lib.hid hs
    clear hs
    by_cases hn : t.n = 0
    · have d2 : (t.n == 0) = true := by rw [hn]; rfl
      have HNx := Lib.hid hn
      clear hn
      by_cases hk : t.l.length = 3
      · have d3 : ((t.l.length : Int) == 3) = true := by rw [hk]; rfl
        have HK := Lib.hid hk
        clear hk
        go_enter Tryd.func30, Tryd.ntmps30
        go_wp2_with (first | (go_at_call 39; refine (HN.out _).mono ?_; rintro e w' ⟨rfl, rfl⟩) | (go_at_call 40; refine (HWd.out _).mono ?_; rintro e w' ⟨rfl, rfl⟩) | (go_at_call 42; refine HAll.out.mono ?_; rintro e w5 ⟨b, rfl, hb, hb5⟩; have HB := Lib.hid (And.intro hb hb5); clear hb hb5))
        go_ret
        refine ⟨b, by first | rfl | simp, ?_, HR.out.low.trans (HB.out.2.mono HR.out.low.size)⟩
        rw [HB.out.1, HOK.out, HInv.out]
        constructor
        · intro hh
          refine ⟨HE.out, by omega, ⟨HSx.out, HNx.out, ?_⟩, fun y hy => (hh y hy).2⟩
          obtain ⟨a, b, c, hl0⟩ := len3 HK.out
          exact ⟨a, b, c, hl0, (hh a (by rw [hl0]; simp)).1, (hh b (by rw [hl0]; simp)).1, (hh c (by rw [hl0]; simp)).1⟩
        · rintro ⟨-, -, ⟨-, -, a, b, c, hl0, ea, eb, ec⟩, hp⟩ y hy
          refine ⟨?_, hp y hy⟩
          rw [hl0] at hy
          simp only [List.mem_cons, List.not_mem_nil, or_false] at hy
          rcases hy with rfl | rfl | rfl
          · exact ea
          · exact eb
          · exact ec
      · have d3 : ((t.l.length : Int) == 3) = false := by simp; omega
        have HK := Lib.hid hk
        clear hk
        go_enter Tryd.func30, Tryd.ntmps30
        go_wp2_with (first | (go_at_call 39; refine (HN.out _).mono ?_; rintro e w' ⟨rfl, rfl⟩) | (go_at_call 40; refine (HWd.out _).mono ?_; rintro e w' ⟨rfl, rfl⟩) | (go_at_call 42; refine HAll.out.mono ?_; rintro e w5 ⟨b, rfl, hb, hb5⟩; have HB := Lib.hid (And.intro hb hb5); clear hb hb5))
        go_ret
        refine ⟨false, by first | rfl | simp, ⟨fun hf => absurd hf (by simp), fun hh => ?_⟩, HR.out.low⟩
        have hi := HInv.out.1 (HOK.out.1 hh.2).2.1
        obtain ⟨-, -, a, b, c, hl0, -⟩ := hi
        exact absurd (by rw [hl0]; rfl) HK.out
    · have d2 : (t.n == 0) = false := by simpa using hn
      have HNx := Lib.hid hn
      clear hn
      go_enter Tryd.func30, Tryd.ntmps30
      go_wp2_with (first | (go_at_call 39; refine (HN.out _).mono ?_; rintro e w' ⟨rfl, rfl⟩) | (go_at_call 40; refine (HWd.out _).mono ?_; rintro e w' ⟨rfl, rfl⟩) | (go_at_call 42; refine HAll.out.mono ?_; rintro e w5 ⟨b, rfl, hb, hb5⟩; have HB := Lib.hid (And.intro hb hb5); clear hb hb5))
      go_ret
      refine ⟨false, by first | rfl | simp, ⟨fun hf => absurd hf (by simp), fun hh => ?_⟩, HR.out.low⟩
      have hi := HInv.out.1 (HOK.out.1 hh.2).2.1
      exact absurd hi.2.1 HNx.out
  · have d1 : ((bs t.s).toList == []) = false := by rw [Lib.toList_data, bs_list, beq_eq_false_iff_ne]; exact hs
    have HSx := Lib.hid hs
    clear hs
    go_enter Tryd.func30, Tryd.ntmps30
    go_wp2_with (first | (go_at_call 39; refine (HN.out _).mono ?_; rintro e w' ⟨rfl, rfl⟩) | (go_at_call 40; refine (HWd.out _).mono ?_; rintro e w' ⟨rfl, rfl⟩) | (go_at_call 42; refine HAll.out.mono ?_; rintro e w5 ⟨b, rfl, hb, hb5⟩; have HB := Lib.hid (And.intro hb hb5); clear hb hb5))
    go_ret
    refine ⟨false, by first | rfl | simp, ⟨fun hf => absurd hf (by simp), fun hh => ?_⟩, HR.out.low⟩
    have hi := HInv.out.1 (HOK.out.1 hh.2).2.1
    exact absurd hi.1 HSx.out
end Go.Proofs.YtiejpenffpjmeaaDoor
