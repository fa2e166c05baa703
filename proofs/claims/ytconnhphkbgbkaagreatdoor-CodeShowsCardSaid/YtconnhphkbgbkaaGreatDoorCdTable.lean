/- code.table: what each operation asks for. -/
import Derived.Test.YtconnhphkbgbkaaGreatDoorCdFits
namespace Go.Proofs.YtconnhphkbgbkaaGreatDoor
open Go.RowKit Go.Proofs Go.Maps

abbrev Ent := Int × Nat × List Value
def slD (g n : Nat) : DataW Unit := .agg [.lit (.int .i64 g), .lit (.int .i64 n)]
def slElem : Value → Option (DataW Unit × List MemPlace)
  | .slice (some ⟨g, 0, none⟩) n m => if n = m then some (slD g n, []) else none
  | .slice none 0 0 => some (.agg [], [])
  | _ => none
theorem slElem_mk (g n : Nat) : slElem (.slice (some ⟨g, 0, none⟩) n n) = some (slD g n, []) := by simp [slElem]
theorem slElem_inv {v : Value} {g n : Nat} {ps : List MemPlace} (h : slElem v = some (slD g n, ps)) : v = .slice (some ⟨g, 0, none⟩) n n := by
  unfold slElem at h
  split at h
  · rename_i g' n' m'
    split at h
    · rename_i hs
      subst hs
      simp only [slD, Option.some.injEq, Prod.mk.injEq, DataW.agg.injEq, List.cons.injEq, DataW.lit.injEq, Lit.int.injEq, true_and, and_true] at h
      obtain ⟨⟨h1, h2⟩, -⟩ := h
      have := Int.ofNat.inj h1
      have := Int.ofNat.inj h2
      subst_vars
      rfl
    · cases h
  · simp [slD] at h
  · cases h
theorem intKey9 : Keyed Tryz.prog 3 := int_keyed Tryz.underlying3
theorem zeroS (w : World) : (zeroValue 59).run Tryz.prog w = .ok (.slice none 0 0) w := by kernel_rfl
def mapE : List Ent → DataW Unit
  | [] => .map []
  | p :: r => (mapE r).put (.int .i64 p.1) (slD p.2.1 p.2.2.length)
theorem key_is {k : Int} (h : I64 k) : keyOf Tryz.prog 3 (.int .i64 k) = some (.int .i64 k) :=
  keyOf_int_mk Tryz.underlying3 (by unfold I64 at h; simp [Lit.wf, IntKind.min, IntKind.max, IntKind.bits, IntKind.signed]; omega)
/-- The map under way, at block B, over the world w0; its rows. -/
structure TabSt (w0 w : World) (acc : List Ent) : Prop where
  map : w.ownsMap (H := Unit) Tryz.prog 3 slElem w0.heap.size acc.length (mapE acc)
  bel : Below w0.heap.size w0 w
  rows : ∀ e ∈ acc, w.heap[e.2.1]? = some (.cells e.2.2.toArray 75 (0, 0)) ∧ e.2.1 ≠ w0.heap.size
theorem TabSt.put {w0 w : World} {acc : List Ent} (h : TabSt w0 w acc) (hn : decide (acc.length < 100) = true) (k : Int) (vs : List Value) (n : Nat) (cs : Array Value) (hk : decide (0 ≤ k ∧ k ≤ 100) = true) (hv : vs.length = n) (hc : vs.toArray = cs) :
    ∃ w', (Instr.mapUpdate 57 (.map (some w0.heap.size)) (.int .i64 k) (.slice (some ⟨w.heap.size, 0, none⟩) n n)).run Tryz.prog (w.alloc (.cells cs 75)) = .ok () w' ∧ TabSt w0 w' ((k, w.heap.size, vs) :: acc) := by
  have hn := of_decide_eq_true hn
  have hk := of_decide_eq_true hk
  subst hv hc
  have hb := below_box w (.cells vs.toArray 75)
  have hlt := World.ownsMap.lt h.map
  have hm : (w.alloc (.cells vs.toArray 75)).ownsMap (H := Unit) Tryz.prog 3 slElem w0.heap.size acc.length (mapE acc) := by
    obtain ⟨es, clock, h1, h2⟩ := h.map
    exact ⟨es, clock, (hb.block _ hlt).trans h1, h2⟩
  obtain ⟨w', hrun, r1, r2⟩ := World.ownsMap.update hm intKey9 Tryz.underlying57 (by unfold maxLen; omega) (key_is (k := k) (by unfold I64; omega)) (slElem_mk w.heap.size vs.length)
  have hkeep : ∀ i, i < (w.alloc (.cells vs.toArray 75)).heap.size → i ≠ w0.heap.size → w'.heap[i]? = (w.alloc (.cells vs.toArray 75)).heap[i]? := fun i hi hne => r2.block i hi (fun e => by cases e; exact hne rfl)
  refine ⟨w', hrun, r1, ⟨?_, ?_, ?_, ?_, ?_⟩, fun e he => ?_⟩
  · exact r2.os.trans (hb.os.trans h.bel.os)
  · exact r2.tape.trans (hb.tape.trans h.bel.tape)
  · exact r2.output.trans (hb.output.trans h.bel.output)
  · have := r2.size
    have := h.bel.size
    simp at *
    omega
  · intro i hi
    have := h.bel.size
    exact (hkeep i (by simp; omega) (by omega)).trans ((hb.block i (by omega)).trans (h.bel.block i hi))
  · have hws := h.bel.size
    rcases List.mem_cons.1 he with rfl | he
    · exact ⟨(hkeep _ (by simp) (by show w.heap.size ≠ _; omega)).trans (heap_alloc_new w _), by show w.heap.size ≠ _; omega⟩
    · obtain ⟨h1, h2⟩ := h.rows e he
      exact ⟨(hkeep _ (by have := heap_lt h1; simp; omega) h2).trans ((hb.block _ (heap_lt h1)).trans h1), h2⟩

set_option maxHeartbeats 2000000 in
theorem register_any (least : Int) (i : Nat) (f : Fld) (hi : fldFn i = some f) (w : World) : Calls Tryz.prog 35 #[.int .i64 least, .func (.func i) #[] #[]] w fun e w' => (∃ p q, e = .returned (.func (.func 63) #[] #[p, q]) ∧ DemAt w' (.func (.func 63) #[] #[p, q]) (.reg least f)) ∧ Below w.heap.size w w' := by
  have hb := two_box w (.cells #[.int .i64 least] 3) (.cells #[.func (.func i) #[] #[]] 79)
  have hd : DemAt ((w.alloc (.cells #[.int .i64 least] 3)).alloc (.cells #[.func (.func i) #[] #[]] 79)) (.func (.func 63) #[] #[.pointer (some ⟨(w.alloc (.cells #[.int .i64 least] 3)).heap.size, 0, none⟩), .pointer (some ⟨w.heap.size, 0, none⟩)]) (.reg least f) := by
    refine ⟨_, _, i, rfl, hi, ?_, ?_⟩
    · exact World.cell?_alloc_new (w.alloc (.cells #[.int .i64 least] 3)) #[.func (.func i) #[] #[]] 79 0
    · exact ((below_box _ _).cell (p := ⟨w.heap.size, 0, none⟩) (by simp)).trans (World.cell?_alloc_new w _ _ 0)
  rw [World.size_alloc] at hd
  have HD := Lib.hid hd
  have HB := Lib.hid hb
  clear hd hb
  go_enter Tryz.func35, Tryz.ntmps35
  go_wp2
  go_ret
  exact ⟨⟨_, _, rfl, HD.out⟩, HB.out⟩
set_option maxHeartbeats 2000000 in
theorem numberD_any (i : Nat) (k : Knd) (hi : kndFn i = some k) (w : World) : Calls Tryz.prog 42 #[.func (.func i) #[] #[]] w fun e w' => (∃ p, e = .returned (.func (.func 64) #[] #[p]) ∧ DemAt w' (.func (.func 64) #[] #[p]) (.num k)) ∧ Below w.heap.size w w' := by
  have HB := Lib.hid (below_box w (.cells #[.func (.func i) #[] #[]] 81))
  have HD := Lib.hid (show DemAt (w.alloc (.cells #[.func (.func i) #[] #[]] 81)) (.func (.func 64) #[] #[.pointer (some ⟨w.heap.size, 0, none⟩)]) (.num k) from ⟨_, i, rfl, hi, World.cell?_alloc_new w _ _ 0⟩)
  go_enter Tryz.func42, Tryz.ntmps42
  go_wp2
  go_ret
  exact ⟨⟨_, rfl, HD.out⟩, HB.out⟩

/-- The functions that stand in the table: what they ask. -/
def DemsAt (w : World) : List Value → List Dm → Prop
  | [], [] => True
  | v :: r, m :: s => DemAt w v m ∧ DemsAt w r s
  | _, _ => False
def RelE (w : World) : List Ent → List (Int × List Dm) → Prop
  | [], [] => True
  | e :: r, t :: s => e.1 = t.1 ∧ DemsAt w e.2.2 t.2 ∧ RelE w r s
  | _, _ => False
/-- The table lies in block b. -/
def TabAt (w : World) (b : Nat) : Prop := ∃ (w0 : World) (acc : List Ent), w0.heap.size = b ∧ TabSt w0 w acc ∧ RelE w0 acc tabL.reverse

set_option maxRecDepth 100000 in
set_option maxHeartbeats 20000000 in
theorem table_any (w : World) : Calls Tryz.prog 23 #[] w fun e w' => ∃ b, e = .returned (.map (some b)) ∧ TabAt w' b ∧ w.heap.size ≤ b ∧ Below w.heap.size w w' := by
  have hmm := @run_makeMap Tryz.prog
  have HR := Lib.hid (fun least i f hi w => register_any least i f hi w)
  have HN := Lib.hid (fun i k hi w => numberD_any i k hi w)
  go_enter Tryz.func23, Tryz.ntmps23
  go_wp2_with fail
  go_at_call 35
  refine (HR.out (0) 36 .d rfl _).mono ?_
  rintro e w1 ⟨⟨p1, q1, rfl, hd1⟩, hb1⟩
  have G1 := Lib.hid (And.intro hb1 hd1)
  clear hb1 hd1
  go_wp2_with fail
  go_at_call 35
  refine (HR.out (0) 37 .a rfl _).mono ?_
  rintro e w2 ⟨⟨p2, q2, rfl, hd2⟩, hb2⟩
  have G2 := Lib.hid (And.intro (G1.out.1.trans (hb2.mono G1.out.1.size)) (And.intro hd2 (((G1.out.2).below hb2))))
  clear hb2 hd2 G1
  go_wp2_with fail
  go_at_call 35
  refine (HR.out (0) 38 .b rfl _).mono ?_
  rintro e w3 ⟨⟨p3, q3, rfl, hd3⟩, hb3⟩
  have G3 := Lib.hid (And.intro (G2.out.1.trans (hb3.mono G2.out.1.size)) (And.intro hd3 (And.intro ((G2.out.2.1).below hb3) (((G2.out.2.2).below hb3)))))
  clear hb3 hd3 G2
  go_wp2_with fail
  go_at_call 35
  refine (HR.out (0) 39 .c rfl _).mono ?_
  rintro e w4 ⟨⟨p4, q4, rfl, hd4⟩, hb4⟩
  have G4 := Lib.hid (And.intro (G3.out.1.trans (hb4.mono G3.out.1.size)) (And.intro hd4 (And.intro ((G3.out.2.1).below hb4) (And.intro ((G3.out.2.2.1).below hb4) (((G3.out.2.2.2).below hb4))))))
  clear hb4 hd4 G3
  go_wp2_with fail
  go_at_call 35
  refine (HR.out (-1) 40 .a rfl _).mono ?_
  rintro e w5 ⟨⟨p5, q5, rfl, hd5⟩, hb5⟩
  have G5 := Lib.hid (And.intro (G4.out.1.trans (hb5.mono G4.out.1.size)) (And.intro hd5 (And.intro ((G4.out.2.1).below hb5) (And.intro ((G4.out.2.2.1).below hb5) (And.intro ((G4.out.2.2.2.1).below hb5) (((G4.out.2.2.2.2).below hb5)))))))
  clear hb5 hd5 G4
  go_wp2_with fail
  go_at_call 35
  refine (HR.out (-1) 41 .b rfl _).mono ?_
  rintro e w6 ⟨⟨p6, q6, rfl, hd6⟩, hb6⟩
  have G6 := Lib.hid (And.intro (G5.out.1.trans (hb6.mono G5.out.1.size)) (And.intro hd6 (And.intro ((G5.out.2.1).below hb6) (And.intro ((G5.out.2.2.1).below hb6) (And.intro ((G5.out.2.2.2.1).below hb6) (And.intro ((G5.out.2.2.2.2.1).below hb6) (((G5.out.2.2.2.2.2).below hb6))))))))
  clear hb6 hd6 G5
  go_wp2_with fail
  go_at_call 42
  refine (HN.out 43 .mark rfl _).mono ?_
  rintro e w7 ⟨⟨p7, rfl, hd7⟩, hb7⟩
  have G7 := Lib.hid (And.intro (G6.out.1.trans (hb7.mono G6.out.1.size)) (And.intro hd7 (And.intro ((G6.out.2.1).below hb7) (And.intro ((G6.out.2.2.1).below hb7) (And.intro ((G6.out.2.2.2.1).below hb7) (And.intro ((G6.out.2.2.2.2.1).below hb7) (And.intro ((G6.out.2.2.2.2.2.1).below hb7) (((G6.out.2.2.2.2.2.2).below hb7)))))))))
  clear hb7 hd7 G6
  go_wp2_with fail
  go_at_call 42
  refine (HN.out 44 .place rfl _).mono ?_
  rintro e w8 ⟨⟨p8, rfl, hd8⟩, hb8⟩
  have G8 := Lib.hid (And.intro (G7.out.1.trans (hb8.mono G7.out.1.size)) (And.intro hd8 (And.intro ((G7.out.2.1).below hb8) (And.intro ((G7.out.2.2.1).below hb8) (And.intro ((G7.out.2.2.2.1).below hb8) (And.intro ((G7.out.2.2.2.2.1).below hb8) (And.intro ((G7.out.2.2.2.2.2.1).below hb8) (And.intro ((G7.out.2.2.2.2.2.2.1).below hb8) (((G7.out.2.2.2.2.2.2.2).below hb8))))))))))
  clear hb8 hd8 G7
  go_wp2_with fail
  go_at_call 42
  refine (HN.out 45 .fun_ rfl _).mono ?_
  rintro e w9 ⟨⟨p9, rfl, hd9⟩, hb9⟩
  have G9 := Lib.hid (And.intro (G8.out.1.trans (hb9.mono G8.out.1.size)) (And.intro hd9 (And.intro ((G8.out.2.1).below hb9) (And.intro ((G8.out.2.2.1).below hb9) (And.intro ((G8.out.2.2.2.1).below hb9) (And.intro ((G8.out.2.2.2.2.1).below hb9) (And.intro ((G8.out.2.2.2.2.2.1).below hb9) (And.intro ((G8.out.2.2.2.2.2.2.1).below hb9) (And.intro ((G8.out.2.2.2.2.2.2.2.1).below hb9) (((G8.out.2.2.2.2.2.2.2.2).below hb9)))))))))))
  clear hb9 hd9 G8
  go_wp2_with fail
  go_at_call 42
  refine (HN.out 46 .var_ rfl _).mono ?_
  rintro e w10 ⟨⟨p10, rfl, hd10⟩, hb10⟩
  have G10 := Lib.hid (And.intro (G9.out.1.trans (hb10.mono G9.out.1.size)) (And.intro hd10 (And.intro ((G9.out.2.1).below hb10) (And.intro ((G9.out.2.2.1).below hb10) (And.intro ((G9.out.2.2.2.1).below hb10) (And.intro ((G9.out.2.2.2.2.1).below hb10) (And.intro ((G9.out.2.2.2.2.2.1).below hb10) (And.intro ((G9.out.2.2.2.2.2.2.1).below hb10) (And.intro ((G9.out.2.2.2.2.2.2.2.1).below hb10) (And.intro ((G9.out.2.2.2.2.2.2.2.2.1).below hb10) (((G9.out.2.2.2.2.2.2.2.2.2).below hb10))))))))))))
  clear hb10 hd10 G9
  have H0 : TabSt w10 (w10.alloc (.map #[] 0)) [] := ⟨World.ownsMap_made w10 _ _ _, below_box _ _, fun e he => by cases he⟩
  obtain ⟨x1, e1, H1⟩ := H0.put rfl 1 [.func (.func 63) #[] #[p1, q1], .func (.func 47) #[] #[]] 2 #[.func (.func 63) #[] #[p1, q1], .func (.func 47) #[] #[]] rfl rfl rfl
  clear H0
  rw [World.size_alloc] at e1
  obtain ⟨x2, e2, H2⟩ := H1.put rfl 2 [.func (.func 63) #[] #[p1, q1], .func (.func 64) #[] #[p10]] 2 #[.func (.func 63) #[] #[p1, q1], .func (.func 64) #[] #[p10]] rfl rfl rfl
  clear H1
  obtain ⟨x3, e3, H3⟩ := H2.put rfl 3 [.func (.func 63) #[] #[p2, q2], .func (.func 64) #[] #[p10]] 2 #[.func (.func 63) #[] #[p2, q2], .func (.func 64) #[] #[p10]] rfl rfl rfl
  clear H2
  obtain ⟨x4, e4, H4⟩ := H3.put rfl 4 [.func (.func 63) #[] #[p1, q1]] 1 #[.func (.func 63) #[] #[p1, q1]] rfl rfl rfl
  clear H3
  obtain ⟨x5, e5, H5⟩ := H4.put rfl 5 [.func (.func 63) #[] #[p1, q1]] 1 #[.func (.func 63) #[] #[p1, q1]] rfl rfl rfl
  clear H4
  obtain ⟨x6, e6, H6⟩ := H5.put rfl 6 [.func (.func 63) #[] #[p1, q1], .func (.func 64) #[] #[p7]] 2 #[.func (.func 63) #[] #[p1, q1], .func (.func 64) #[] #[p7]] rfl rfl rfl
  clear H5
  obtain ⟨x7, e7, H7⟩ := H6.put rfl 7 [.func (.func 63) #[] #[p1, q1], .func (.func 64) #[] #[p9]] 2 #[.func (.func 63) #[] #[p1, q1], .func (.func 64) #[] #[p9]] rfl rfl rfl
  clear H6
  obtain ⟨x8, e8, H8⟩ := H7.put rfl 8 [.func (.func 63) #[] #[p1, q1], .func (.func 63) #[] #[p2, q2], .func (.func 48) #[] #[]] 3 #[.func (.func 63) #[] #[p1, q1], .func (.func 63) #[] #[p2, q2], .func (.func 48) #[] #[]] rfl rfl rfl
  clear H7
  obtain ⟨x9, e9, H9⟩ := H8.put rfl 9 [.func (.func 63) #[] #[p2, q2], .func (.func 48) #[] #[], .func (.func 63) #[] #[p3, q3]] 3 #[.func (.func 63) #[] #[p2, q2], .func (.func 48) #[] #[], .func (.func 63) #[] #[p3, q3]] rfl rfl rfl
  clear H8
  obtain ⟨x10, e10, H10⟩ := H9.put rfl 10 [.func (.func 63) #[] #[p1, q1], .func (.func 63) #[] #[p2, q2], .func (.func 63) #[] #[p3, q3]] 3 #[.func (.func 63) #[] #[p1, q1], .func (.func 63) #[] #[p2, q2], .func (.func 63) #[] #[p3, q3]] rfl rfl rfl
  clear H9
  obtain ⟨x11, e11, H11⟩ := H10.put rfl 11 [.func (.func 63) #[] #[p2, q2], .func (.func 63) #[] #[p3, q3], .func (.func 63) #[] #[p4, q4]] 3 #[.func (.func 63) #[] #[p2, q2], .func (.func 63) #[] #[p3, q3], .func (.func 63) #[] #[p4, q4]] rfl rfl rfl
  clear H10
  obtain ⟨x12, e12, H12⟩ := H11.put rfl 12 [.func (.func 63) #[] #[p1, q1], .func (.func 63) #[] #[p2, q2], .func (.func 63) #[] #[p6, q6], .func (.func 49) #[] #[], .func (.func 64) #[] #[p7]] 5 #[.func (.func 63) #[] #[p1, q1], .func (.func 63) #[] #[p2, q2], .func (.func 63) #[] #[p6, q6], .func (.func 49) #[] #[], .func (.func 64) #[] #[p7]] rfl rfl rfl
  clear H11
  obtain ⟨x13, e13, H13⟩ := H12.put rfl 13 [.func (.func 63) #[] #[p1, q1], .func (.func 63) #[] #[p2, q2], .func (.func 49) #[] #[], .func (.func 64) #[] #[p7]] 4 #[.func (.func 63) #[] #[p1, q1], .func (.func 63) #[] #[p2, q2], .func (.func 49) #[] #[], .func (.func 64) #[] #[p7]] rfl rfl rfl
  clear H12
  obtain ⟨x14, e14, H14⟩ := H13.put rfl 14 [.func (.func 63) #[] #[p1, q1], .func (.func 63) #[] #[p2, q2], .func (.func 50) #[] #[], .func (.func 63) #[] #[p3, q3]] 4 #[.func (.func 63) #[] #[p1, q1], .func (.func 63) #[] #[p2, q2], .func (.func 50) #[] #[], .func (.func 63) #[] #[p3, q3]] rfl rfl rfl
  clear H13
  obtain ⟨x15, e15, H15⟩ := H14.put rfl 15 [.func (.func 63) #[] #[p1, q1], .func (.func 63) #[] #[p2, q2]] 2 #[.func (.func 63) #[] #[p1, q1], .func (.func 63) #[] #[p2, q2]] rfl rfl rfl
  clear H14
  obtain ⟨x16, e16, H16⟩ := H15.put rfl 16 [.func (.func 63) #[] #[p1, q1], .func (.func 63) #[] #[p2, q2]] 2 #[.func (.func 63) #[] #[p1, q1], .func (.func 63) #[] #[p2, q2]] rfl rfl rfl
  clear H15
  obtain ⟨x17, e17, H17⟩ := H16.put rfl 17 [.func (.func 63) #[] #[p1, q1], .func (.func 63) #[] #[p2, q2]] 2 #[.func (.func 63) #[] #[p1, q1], .func (.func 63) #[] #[p2, q2]] rfl rfl rfl
  clear H16
  obtain ⟨x18, e18, H18⟩ := H17.put rfl 18 [.func (.func 64) #[] #[p8]] 1 #[.func (.func 64) #[] #[p8]] rfl rfl rfl
  clear H17
  obtain ⟨x19, e19, H19⟩ := H18.put rfl 19 [.func (.func 63) #[] #[p2, q2], .func (.func 64) #[] #[p8]] 2 #[.func (.func 63) #[] #[p2, q2], .func (.func 64) #[] #[p8]] rfl rfl rfl
  clear H18
  obtain ⟨x20, e20, H20⟩ := H19.put rfl 20 [.func (.func 63) #[] #[p5, q5]] 1 #[.func (.func 63) #[] #[p5, q5]] rfl rfl rfl
  clear H19
  obtain ⟨x21, e21, H21⟩ := H20.put rfl 21 [.func (.func 63) #[] #[p2, q2]] 1 #[.func (.func 63) #[] #[p2, q2]] rfl rfl rfl
  clear H20
  obtain ⟨x22, e22, H22⟩ := H21.put rfl 22 [.func (.func 63) #[] #[p1, q1], .func (.func 64) #[] #[p8]] 2 #[.func (.func 63) #[] #[p1, q1], .func (.func 64) #[] #[p8]] rfl rfl rfl
  clear H21
  obtain ⟨x23, e23, H23⟩ := H22.put rfl 23 [] 0 #[] rfl rfl rfl
  clear H22
  obtain ⟨x24, e24, H24⟩ := H23.put rfl 26 [.func (.func 63) #[] #[p1, q1]] 1 #[.func (.func 63) #[] #[p1, q1]] rfl rfl rfl
  clear H23
  obtain ⟨x25, e25, H25⟩ := H24.put rfl 24 [.func (.func 63) #[] #[p1, q1], .func (.func 63) #[] #[p2, q2]] 2 #[.func (.func 63) #[] #[p1, q1], .func (.func 63) #[] #[p2, q2]] rfl rfl rfl
  clear H24
  obtain ⟨x26, e26, H26⟩ := H25.put rfl 25 [.func (.func 63) #[] #[p1, q1], .func (.func 63) #[] #[p2, q2], .func (.func 64) #[] #[p8]] 3 #[.func (.func 63) #[] #[p1, q1], .func (.func 63) #[] #[p2, q2], .func (.func 64) #[] #[p8]] rfl rfl rfl
  clear H25
  have H := Lib.hid H26
  clear H26
  go_wp2
  go_ret
  refine ⟨_, rfl, ⟨w10, _, rfl, H.out, ?_⟩, G10.out.1.size, G10.out.1.trans (H.out.bel.mono G10.out.1.size)⟩
  obtain ⟨-, h10, h9, h8, h7, h6, h5, h4, h3, h2, h1⟩ := G10.out
  simp only [tabL, List.reverse_cons, List.reverse_nil, List.nil_append, List.cons_append, RelE, DemsAt, DemAt, rD, rA, rB, rC, and_true, true_and] at *
  simp only [h1, h2, h3, h4, h5, h6, h7, h8, h9, h10, and_self]
end Go.Proofs.YtconnhphkbgbkaaGreatDoor
