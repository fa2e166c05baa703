/- The signs and their makings: value.makings; value.Two of undefined values. -/
import Derived.Test.YtconnhphkbgbkaaGreatDoorCdVal
import Derived.Maps.Own
import Derived.Maps.OwnSet
import Derived.Maps.OwnIn
namespace Go.Proofs.YtconnhphkbgbkaaGreatDoor
open Go.RowKit Go.Proofs Go.Maps

/-- How a function value reads, for this proof: by its number. -/
def fnElem : Value → Option (DataW Unit × List MemPlace)
  | .func (.func i) a c => if a.size = 0 ∧ c.size = 0 then some (.lit (.int .i64 (i : Nat)), []) else none
  | .nilFunc => some (.lit (.int .i64 (-1)), [])
  | _ => none
theorem fnElem_mk (i : Nat) : fnElem (.func (.func i) #[] #[]) = some (.lit (.int .i64 i), []) := by simp [fnElem]
theorem fnElem_inv {v : Value} {i : Nat} {ps : List MemPlace} (h : fnElem v = some (.lit (.int .i64 (i : Int)), ps)) : v = .func (.func i) #[] #[] := by
  unfold fnElem at h
  split at h
  · rename_i j a c
    split at h
    · rename_i hs
      obtain ⟨h1, h2⟩ := hs
      simp only [Option.some.injEq, Prod.mk.injEq, DataW.lit.injEq, Lit.int.injEq, true_and] at h
      have hj : j = i := Int.ofNat.inj h.1
      have ea : a = #[] := Array.eq_empty_of_size_eq_zero h1
      have ec : c = #[] := Array.eq_empty_of_size_eq_zero h2
      rw [hj, ea, ec]
    · cases h
  · simp at h
  · cases h
theorem strKey : Keyed Tryz.prog 9 := string_keyed Tryz.underlying9
theorem zeroF (w : World) : (zeroValue 102).run Tryz.prog w = .ok .nilFunc w := by kernel_rfl

/-- The signs' table as it is laid. -/
def tabOf (acc : List (Bs × Nat)) : DataW Unit := acc.foldl (fun m x => m.put (.string x.1) (.lit (.int .i64 x.2))) (.map [])
theorem tabOf_snoc (acc : List (Bs × Nat)) (x : Bs × Nat) : tabOf (acc ++ [x]) = (tabOf acc).put (.string x.1) (.lit (.int .i64 x.2)) := by simp [tabOf]
def SM (w : World) (b : Nat) (acc : List (Bs × Nat)) : Prop := w.ownsMap Tryz.prog 9 fnElem b acc.length (tabOf acc)
theorem SM.put {w0 w : World} {B b : Nat} {acc : List (Bs × Nat)} (h : SM w b acc ∧ Below B w0 w) (hn : decide (acc.length < 100) = true) (hBb : B ≤ b) (s : ByteArray) (i : Nat) (hs : decide (s.size ≤ 100) = true) :
    ∃ w', (Instr.mapUpdate 104 (.map (some b)) (.string s) (.func (.func i) #[] #[])).run Tryz.prog w = .ok () w' ∧ (SM w' b (acc ++ [(s.data.toList, i)]) ∧ Below B w0 w') := by
  have hn := of_decide_eq_true hn
  have hs := of_decide_eq_true hs
  obtain ⟨w', hrun, r1, r2⟩ := World.ownsMap.update h.1 strKey Tryz.underlying104 (by unfold maxLen; omega) (WideMaps.keyOf_string_mk Tryz.underlying9 (s := s) (by unfold maxLen; omega)) (fnElem_mk i)
  refine ⟨w', hrun, ?_, h.2.trans ?_⟩
  · unfold SM
    rw [tabOf_snoc, List.length_append]
    exact r1
  · exact ⟨r2.os, r2.tape, r2.output, r2.size, fun i hi => r2.block i (by have := World.ownsMap.lt h.1; omega) (fun e => by cases e; omega)⟩

/-- The signs, each with the number of its making. -/
def signsN : List (Bs × Nat) := [([43], 85), ([45], 86), ([42], 89), ([60], 90), ([60, 61], 93), ([61, 61, 61], 94), ([33, 61, 61], 95)]

set_option maxRecDepth 100000 in
set_option maxHeartbeats 4000000 in
theorem makings_any (w : World) : Calls Tryz.prog 75 #[] w fun e w' => ∃ b, e = .returned (.map (some b)) ∧ SM w' b signsN ∧ w.heap.size ≤ b ∧ Below w.heap.size w w' := by
  have hmm := @run_makeMap Tryz.prog
  have H0 : SM (w.alloc (.map #[] 0)) w.heap.size [] ∧ Below w.heap.size w (w.alloc (.map #[] 0)) := ⟨World.ownsMap_made w _ _ _, below_box _ _⟩
  obtain ⟨w1, e1, H1⟩ := SM.put H0 rfl (Nat.le_refl _) ⟨#[43]⟩ 85 rfl
  clear H0
  obtain ⟨w2, e2, H2⟩ := SM.put H1 rfl (Nat.le_refl _) ⟨#[45]⟩ 86 rfl
  clear H1
  obtain ⟨w3, e3, H3⟩ := SM.put H2 rfl (Nat.le_refl _) ⟨#[42]⟩ 89 rfl
  clear H2
  obtain ⟨w4, e4, H4⟩ := SM.put H3 rfl (Nat.le_refl _) ⟨#[60]⟩ 90 rfl
  clear H3
  obtain ⟨w5, e5, H5⟩ := SM.put H4 rfl (Nat.le_refl _) ⟨#[60, 61]⟩ 93 rfl
  clear H4
  obtain ⟨w6, e6, H6⟩ := SM.put H5 rfl (Nat.le_refl _) ⟨#[61, 61, 61]⟩ 94 rfl
  clear H5
  obtain ⟨w7, e7, H7⟩ := SM.put H6 rfl (Nat.le_refl _) ⟨#[33, 61, 61]⟩ 95 rfl
  clear H6
  have H := Lib.hid H7
  clear H7
  go_enter Tryz.func75, Tryz.ntmps75
  go_wp2
  go_ret
  exact ⟨_, rfl, H.out.1, Nat.le_refl _, H.out.2⟩

theorem tab_eq : tabOf signsN = .map [(.string [33, 61, 61], .lit (.int .i64 95)), (.string [42], .lit (.int .i64 89)), (.string [43], .lit (.int .i64 85)), (.string [45], .lit (.int .i64 86)), (.string [60], .lit (.int .i64 90)), (.string [60, 61], .lit (.int .i64 93)), (.string [61, 61, 61], .lit (.int .i64 94))] := by
  rfl
def isSignN (l : Bs) : Bool := signsN.any (fun x => x.1 == l)
theorem look_none {w : World} {b : Nat} (h : SM w b signsN) (s : ByteArray) (hs : s.size ≤ maxLen) (hn : isSignN s.data.toList = false) :
    ∃ v, (Instr.lookup 104 (.map (some b)) (.string s) true).run Tryz.prog w = .ok (.tuple #[v, .bool false]) w := by
  obtain ⟨v, ps, hrun, hv⟩ := World.ownsMap.look_ok h strKey Tryz.underlying104 (zeroF w) (zd := .lit (.int .i64 (-1))) (zp := []) rfl (WideMaps.keyOf_string_mk Tryz.underlying9 hs)
  refine ⟨v, ?_⟩
  rw [hrun]
  have e : Maps.has (tabOf signsN) (.string s.data.toList) = false := by
    rw [tab_eq]
    generalize s.data.toList = l at hn ⊢
    revert hn
    simp [isSignN, signsN, Maps.has, Lit.sameKey]
    intros
    simp [*]
  rw [e]
theorem look_sign {w : World} {b : Nat} (h : SM w b signsN) (s : ByteArray) (i : Nat) (hs : s.size ≤ maxLen) (hi : (s.data.toList, i) ∈ signsN) :
    (Instr.lookup 104 (.map (some b)) (.string s) true).run Tryz.prog w = .ok (.tuple #[.func (.func i) #[] #[], .bool true]) w := by
  obtain ⟨v, ps, hrun, hv⟩ := World.ownsMap.look_ok h strKey Tryz.underlying104 (zeroF w) (zd := .lit (.int .i64 (-1))) (zp := []) rfl (WideMaps.keyOf_string_mk Tryz.underlying9 hs)
  rw [tab_eq] at hrun hv
  generalize s.data.toList = l at hi hrun hv
  simp only [signsN, List.mem_cons, Prod.mk.injEq, List.not_mem_nil, or_false] at hi
  rcases hi with ⟨rfl, rfl⟩ | ⟨rfl, rfl⟩ | ⟨rfl, rfl⟩ | ⟨rfl, rfl⟩ | ⟨rfl, rfl⟩ | ⟨rfl, rfl⟩ | ⟨rfl, rfl⟩
  all_goals
    obtain rfl := fnElem_inv (i := _) hv
    exact hrun
theorem sign_cases (l : Bs) : isSignN l = false ∨ l = [43] ∨ l = [45] ∨ l = [42] ∨ l = [60] ∨ l = [60, 61] ∨ l = [61, 61, 61] ∨ l = [33, 61, 61] := by
  cases h : isSignN l with
  | false => exact .inl rfl
  | true =>
    simp [isSignN, signsN] at h
    refine .inr ?_
    rcases h with h | h | h | h | h | h | h <;> simp [← h]
theorem isSign_no {s : ByteArray} (h : isSignN s.data.toList = false) : isSignB s = false := by
  unfold isSignB
  rw [← h]
  generalize s.data.toList = l
  rw [Bool.eq_iff_iff]
  simp [isSignN, signsN, signL9]
  grind
theorem set3a {w W : World} (h : Below w.heap.size w W) (b : Nat) (hb : w.heap.size ≤ b) (x y z : Value) (o : Obj) : Below w.heap.size w ((((W.setCell ⟨b, 0, none⟩ x).setCell ⟨b, 1, none⟩ y).setCell ⟨b, 2, none⟩ z).alloc o) :=
  (set3 h b hb x y z).alloc (set3 h b hb x y z).size o
/-- What Two gives of undefined values. -/
def TwoU (w : World) (c : Int) (e : Ending) (w' : World) : Prop := (∃ k n : Int, e = .returned (.tuple #[.agg #[.int .i64 k, .int .i64 n, .string ⟨#[]⟩], .int .i64 c])) ∧ Below w.heap.size w w'
set_option maxRecDepth 100000 in
set_option maxHeartbeats 4000000 in
theorem two_none (s : ByteArray) (w : World) (hs : s.size ≤ maxLen) (hn : isSignN s.data.toList = false) : Calls Tryz.prog 66 #[.string s, undV, undV] w (TwoU w 60) := by
  have HB := Lib.hid (three_box w zeroO zeroO zeroO)
  have HR := Lib.hid (res_mk w zeroO zeroO)
  have HL := Lib.hid (fun (w' : World) (mb : Nat) (h : SM w' mb signsN) => look_none h s hs hn)
  clear hs hn
  go_enter Tryz.func66, Tryz.ntmps66
  go_wp2_with fail
  go_at_call 75
  refine (makings_any _).mono ?_
  rintro e w1 ⟨mb, rfl, hM, hmb, hb1⟩
  obtain ⟨lv, hlk⟩ := HL.out _ _ hM
  have HB1 := Lib.hid (HB.out.trans (hb1.mono HB.out.size))
  obtain ⟨⟨r0, r1, r2⟩, ⟨f0, f1, f2⟩⟩ := HR.out.below hb1
  clear hb1 hM hmb
  go_wp2
  exact bodyPost_ret (v := .tuple #[.agg #[.int .i64 0, .int .i64 0, .string ⟨#[]⟩], .int .i64 60]) (by simp [results, Tryz.results66, go_sem, r0, r1, r2]) rfl ⟨⟨_, _, rfl⟩, set3 HB1.out _ (by omega) _ _ _⟩

set_option maxRecDepth 100000 in
set_option maxHeartbeats 4000000 in
theorem two_s0 (w : World) : Calls Tryz.prog 66 #[.string ⟨#[43]⟩, undV, undV] w (TwoU w 0) := by
  have HC := Lib.hid (fun w => sum_und w)
  have HB := Lib.hid (three_box w zeroO zeroO zeroO)
  have HS := Lib.hid (six_mk3 w)
  have HR := Lib.hid (res_mk w zeroO zeroO)
  have HL := Lib.hid (fun (w' : World) (mb : Nat) (h : SM w' mb signsN) => look_sign h ⟨#[43]⟩ 85 (by unfold maxLen; decide) (by decide))
  have n1 : ¬ w.heap.size = w.heap.size + 1 + 1 := by omega
  have n2 : ¬ w.heap.size + 1 + 1 = w.heap.size := by omega
  go_enter Tryz.func66, Tryz.ntmps66
  go_wp2_with fail
  go_at_call 75
  refine (makings_any _).mono ?_
  rintro e w1 ⟨mb, rfl, hM, hmb, hb1⟩
  have hlk := HL.out _ _ hM
  obtain ⟨HB1, HS1, HR1⟩ := stepD HB.out HS.out HR.out hb1
  clear hb1 hM hmb
  obtain ⟨⟨x0, x1, x2⟩, ⟨y0, y1, y2⟩⟩ := HS1.out
  go_wp2_with fail
  go_at_call 85
  refine (HC.out _).mono ?_
  rintro e w2 ⟨⟨v, rfl, x, y, rfl⟩, hb2⟩
  obtain ⟨HB2, HS2, HR2⟩ := stepD HB1.out HS1.out HR1.out hb2
  have hz1 := World.block_lt_of_cell? _ _ HR2.out.1.1
  simp only [] at hz1
  have n3 : ¬ w.heap.size + 1 + 1 = w2.heap.size := by omega
  have n4 : ¬ w2.heap.size = w.heap.size + 1 + 1 := by omega
  clear hb2
  obtain ⟨⟨q0, q1, q2⟩, ⟨g0, g1, g2⟩⟩ := HR2.out
  obtain ⟨⟨r0, r1, r2⟩, ⟨f0, f1, f2⟩⟩ := HR2.out.below (below_box w2 (.cells #[.int .i64 x, .int .i64 y, .string ⟨#[]⟩] 71))
  go_wp2
  exact bodyPost_ret (v := .tuple #[.agg #[.int .i64 x, .int .i64 y, .string ⟨#[]⟩], .int .i64 0]) (by simp [results, Tryz.results66, go_sem, q0, q1, q2, hz1]) rfl ⟨⟨_, _, rfl⟩, set3a HB2.out (w.heap.size + 1 + 1) (by omega) _ _ _ _⟩

set_option maxRecDepth 100000 in
set_option maxHeartbeats 4000000 in
theorem two_s1 (w : World) : Calls Tryz.prog 66 #[.string ⟨#[45]⟩, undV, undV] w (TwoU w 0) := by
  have HC := Lib.hid (fun w => mk1_und w)
  have HB := Lib.hid (three_box w zeroO zeroO zeroO)
  have HS := Lib.hid (six_mk3 w)
  have HR := Lib.hid (res_mk w zeroO zeroO)
  have HL := Lib.hid (fun (w' : World) (mb : Nat) (h : SM w' mb signsN) => look_sign h ⟨#[45]⟩ 86 (by unfold maxLen; decide) (by decide))
  have n1 : ¬ w.heap.size = w.heap.size + 1 + 1 := by omega
  have n2 : ¬ w.heap.size + 1 + 1 = w.heap.size := by omega
  go_enter Tryz.func66, Tryz.ntmps66
  go_wp2_with fail
  go_at_call 75
  refine (makings_any _).mono ?_
  rintro e w1 ⟨mb, rfl, hM, hmb, hb1⟩
  have hlk := HL.out _ _ hM
  obtain ⟨HB1, HS1, HR1⟩ := stepD HB.out HS.out HR.out hb1
  clear hb1 hM hmb
  obtain ⟨⟨x0, x1, x2⟩, ⟨y0, y1, y2⟩⟩ := HS1.out
  go_wp2_with fail
  go_at_call 86
  refine (HC.out _).mono ?_
  rintro e w2 ⟨⟨v, rfl, x, y, rfl⟩, hb2⟩
  obtain ⟨HB2, HS2, HR2⟩ := stepD HB1.out HS1.out HR1.out hb2
  have hz1 := World.block_lt_of_cell? _ _ HR2.out.1.1
  simp only [] at hz1
  have n3 : ¬ w.heap.size + 1 + 1 = w2.heap.size := by omega
  have n4 : ¬ w2.heap.size = w.heap.size + 1 + 1 := by omega
  clear hb2
  obtain ⟨⟨q0, q1, q2⟩, ⟨g0, g1, g2⟩⟩ := HR2.out
  obtain ⟨⟨r0, r1, r2⟩, ⟨f0, f1, f2⟩⟩ := HR2.out.below (below_box w2 (.cells #[.int .i64 x, .int .i64 y, .string ⟨#[]⟩] 71))
  go_wp2
  exact bodyPost_ret (v := .tuple #[.agg #[.int .i64 x, .int .i64 y, .string ⟨#[]⟩], .int .i64 0]) (by simp [results, Tryz.results66, go_sem, q0, q1, q2, hz1]) rfl ⟨⟨_, _, rfl⟩, set3a HB2.out (w.heap.size + 1 + 1) (by omega) _ _ _ _⟩

set_option maxRecDepth 100000 in
set_option maxHeartbeats 4000000 in
theorem two_s2 (w : World) : Calls Tryz.prog 66 #[.string ⟨#[42]⟩, undV, undV] w (TwoU w 0) := by
  have HC := Lib.hid (fun w => mk2_und w)
  have HB := Lib.hid (three_box w zeroO zeroO zeroO)
  have HS := Lib.hid (six_mk3 w)
  have HR := Lib.hid (res_mk w zeroO zeroO)
  have HL := Lib.hid (fun (w' : World) (mb : Nat) (h : SM w' mb signsN) => look_sign h ⟨#[42]⟩ 89 (by unfold maxLen; decide) (by decide))
  have n1 : ¬ w.heap.size = w.heap.size + 1 + 1 := by omega
  have n2 : ¬ w.heap.size + 1 + 1 = w.heap.size := by omega
  go_enter Tryz.func66, Tryz.ntmps66
  go_wp2_with fail
  go_at_call 75
  refine (makings_any _).mono ?_
  rintro e w1 ⟨mb, rfl, hM, hmb, hb1⟩
  have hlk := HL.out _ _ hM
  obtain ⟨HB1, HS1, HR1⟩ := stepD HB.out HS.out HR.out hb1
  clear hb1 hM hmb
  obtain ⟨⟨x0, x1, x2⟩, ⟨y0, y1, y2⟩⟩ := HS1.out
  go_wp2_with fail
  go_at_call 89
  refine (HC.out _).mono ?_
  rintro e w2 ⟨⟨v, rfl, x, y, rfl⟩, hb2⟩
  obtain ⟨HB2, HS2, HR2⟩ := stepD HB1.out HS1.out HR1.out hb2
  have hz1 := World.block_lt_of_cell? _ _ HR2.out.1.1
  simp only [] at hz1
  have n3 : ¬ w.heap.size + 1 + 1 = w2.heap.size := by omega
  have n4 : ¬ w2.heap.size = w.heap.size + 1 + 1 := by omega
  clear hb2
  obtain ⟨⟨q0, q1, q2⟩, ⟨g0, g1, g2⟩⟩ := HR2.out
  obtain ⟨⟨r0, r1, r2⟩, ⟨f0, f1, f2⟩⟩ := HR2.out.below (below_box w2 (.cells #[.int .i64 x, .int .i64 y, .string ⟨#[]⟩] 71))
  go_wp2
  exact bodyPost_ret (v := .tuple #[.agg #[.int .i64 x, .int .i64 y, .string ⟨#[]⟩], .int .i64 0]) (by simp [results, Tryz.results66, go_sem, q0, q1, q2, hz1]) rfl ⟨⟨_, _, rfl⟩, set3a HB2.out (w.heap.size + 1 + 1) (by omega) _ _ _ _⟩

set_option maxRecDepth 100000 in
set_option maxHeartbeats 4000000 in
theorem two_s3 (w : World) : Calls Tryz.prog 66 #[.string ⟨#[60]⟩, undV, undV] w (TwoU w 0) := by
  have HC := Lib.hid (fun w => mk3_und w)
  have HB := Lib.hid (three_box w zeroO zeroO zeroO)
  have HS := Lib.hid (six_mk3 w)
  have HR := Lib.hid (res_mk w zeroO zeroO)
  have HL := Lib.hid (fun (w' : World) (mb : Nat) (h : SM w' mb signsN) => look_sign h ⟨#[60]⟩ 90 (by unfold maxLen; decide) (by decide))
  have n1 : ¬ w.heap.size = w.heap.size + 1 + 1 := by omega
  have n2 : ¬ w.heap.size + 1 + 1 = w.heap.size := by omega
  go_enter Tryz.func66, Tryz.ntmps66
  go_wp2_with fail
  go_at_call 75
  refine (makings_any _).mono ?_
  rintro e w1 ⟨mb, rfl, hM, hmb, hb1⟩
  have hlk := HL.out _ _ hM
  obtain ⟨HB1, HS1, HR1⟩ := stepD HB.out HS.out HR.out hb1
  clear hb1 hM hmb
  obtain ⟨⟨x0, x1, x2⟩, ⟨y0, y1, y2⟩⟩ := HS1.out
  go_wp2_with fail
  go_at_call 90
  refine (HC.out _).mono ?_
  rintro e w2 ⟨⟨v, rfl, x, y, rfl⟩, hb2⟩
  obtain ⟨HB2, HS2, HR2⟩ := stepD HB1.out HS1.out HR1.out hb2
  have hz1 := World.block_lt_of_cell? _ _ HR2.out.1.1
  simp only [] at hz1
  have n3 : ¬ w.heap.size + 1 + 1 = w2.heap.size := by omega
  have n4 : ¬ w2.heap.size = w.heap.size + 1 + 1 := by omega
  clear hb2
  obtain ⟨⟨q0, q1, q2⟩, ⟨g0, g1, g2⟩⟩ := HR2.out
  obtain ⟨⟨r0, r1, r2⟩, ⟨f0, f1, f2⟩⟩ := HR2.out.below (below_box w2 (.cells #[.int .i64 x, .int .i64 y, .string ⟨#[]⟩] 71))
  go_wp2
  exact bodyPost_ret (v := .tuple #[.agg #[.int .i64 x, .int .i64 y, .string ⟨#[]⟩], .int .i64 0]) (by simp [results, Tryz.results66, go_sem, q0, q1, q2, hz1]) rfl ⟨⟨_, _, rfl⟩, set3a HB2.out (w.heap.size + 1 + 1) (by omega) _ _ _ _⟩

set_option maxRecDepth 100000 in
set_option maxHeartbeats 4000000 in
theorem two_s4 (w : World) : Calls Tryz.prog 66 #[.string ⟨#[60, 61]⟩, undV, undV] w (TwoU w 0) := by
  have HC := Lib.hid (fun w => mk4_und w)
  have HB := Lib.hid (three_box w zeroO zeroO zeroO)
  have HS := Lib.hid (six_mk3 w)
  have HR := Lib.hid (res_mk w zeroO zeroO)
  have HL := Lib.hid (fun (w' : World) (mb : Nat) (h : SM w' mb signsN) => look_sign h ⟨#[60, 61]⟩ 93 (by unfold maxLen; decide) (by decide))
  have n1 : ¬ w.heap.size = w.heap.size + 1 + 1 := by omega
  have n2 : ¬ w.heap.size + 1 + 1 = w.heap.size := by omega
  go_enter Tryz.func66, Tryz.ntmps66
  go_wp2_with fail
  go_at_call 75
  refine (makings_any _).mono ?_
  rintro e w1 ⟨mb, rfl, hM, hmb, hb1⟩
  have hlk := HL.out _ _ hM
  obtain ⟨HB1, HS1, HR1⟩ := stepD HB.out HS.out HR.out hb1
  clear hb1 hM hmb
  obtain ⟨⟨x0, x1, x2⟩, ⟨y0, y1, y2⟩⟩ := HS1.out
  go_wp2_with fail
  go_at_call 93
  refine (HC.out _).mono ?_
  rintro e w2 ⟨⟨v, rfl, x, y, rfl⟩, hb2⟩
  obtain ⟨HB2, HS2, HR2⟩ := stepD HB1.out HS1.out HR1.out hb2
  have hz1 := World.block_lt_of_cell? _ _ HR2.out.1.1
  simp only [] at hz1
  have n3 : ¬ w.heap.size + 1 + 1 = w2.heap.size := by omega
  have n4 : ¬ w2.heap.size = w.heap.size + 1 + 1 := by omega
  clear hb2
  obtain ⟨⟨q0, q1, q2⟩, ⟨g0, g1, g2⟩⟩ := HR2.out
  obtain ⟨⟨r0, r1, r2⟩, ⟨f0, f1, f2⟩⟩ := HR2.out.below (below_box w2 (.cells #[.int .i64 x, .int .i64 y, .string ⟨#[]⟩] 71))
  go_wp2
  exact bodyPost_ret (v := .tuple #[.agg #[.int .i64 x, .int .i64 y, .string ⟨#[]⟩], .int .i64 0]) (by simp [results, Tryz.results66, go_sem, q0, q1, q2, hz1]) rfl ⟨⟨_, _, rfl⟩, set3a HB2.out (w.heap.size + 1 + 1) (by omega) _ _ _ _⟩

set_option maxRecDepth 100000 in
set_option maxHeartbeats 4000000 in
theorem two_s5 (w : World) : Calls Tryz.prog 66 #[.string ⟨#[61, 61, 61]⟩, undV, undV] w (TwoU w 0) := by
  have HC := Lib.hid (fun w => mk5_und w)
  have HB := Lib.hid (three_box w zeroO zeroO zeroO)
  have HS := Lib.hid (six_mk3 w)
  have HR := Lib.hid (res_mk w zeroO zeroO)
  have HL := Lib.hid (fun (w' : World) (mb : Nat) (h : SM w' mb signsN) => look_sign h ⟨#[61, 61, 61]⟩ 94 (by unfold maxLen; decide) (by decide))
  have n1 : ¬ w.heap.size = w.heap.size + 1 + 1 := by omega
  have n2 : ¬ w.heap.size + 1 + 1 = w.heap.size := by omega
  go_enter Tryz.func66, Tryz.ntmps66
  go_wp2_with fail
  go_at_call 75
  refine (makings_any _).mono ?_
  rintro e w1 ⟨mb, rfl, hM, hmb, hb1⟩
  have hlk := HL.out _ _ hM
  obtain ⟨HB1, HS1, HR1⟩ := stepD HB.out HS.out HR.out hb1
  clear hb1 hM hmb
  obtain ⟨⟨x0, x1, x2⟩, ⟨y0, y1, y2⟩⟩ := HS1.out
  go_wp2_with fail
  go_at_call 94
  refine (HC.out _).mono ?_
  rintro e w2 ⟨⟨v, rfl, x, y, rfl⟩, hb2⟩
  obtain ⟨HB2, HS2, HR2⟩ := stepD HB1.out HS1.out HR1.out hb2
  have hz1 := World.block_lt_of_cell? _ _ HR2.out.1.1
  simp only [] at hz1
  have n3 : ¬ w.heap.size + 1 + 1 = w2.heap.size := by omega
  have n4 : ¬ w2.heap.size = w.heap.size + 1 + 1 := by omega
  clear hb2
  obtain ⟨⟨q0, q1, q2⟩, ⟨g0, g1, g2⟩⟩ := HR2.out
  obtain ⟨⟨r0, r1, r2⟩, ⟨f0, f1, f2⟩⟩ := HR2.out.below (below_box w2 (.cells #[.int .i64 x, .int .i64 y, .string ⟨#[]⟩] 71))
  go_wp2
  exact bodyPost_ret (v := .tuple #[.agg #[.int .i64 x, .int .i64 y, .string ⟨#[]⟩], .int .i64 0]) (by simp [results, Tryz.results66, go_sem, q0, q1, q2, hz1]) rfl ⟨⟨_, _, rfl⟩, set3a HB2.out (w.heap.size + 1 + 1) (by omega) _ _ _ _⟩

set_option maxRecDepth 100000 in
set_option maxHeartbeats 4000000 in
theorem two_s6 (w : World) : Calls Tryz.prog 66 #[.string ⟨#[33, 61, 61]⟩, undV, undV] w (TwoU w 0) := by
  have HC := Lib.hid (fun w => mk6_und w)
  have HB := Lib.hid (three_box w zeroO zeroO zeroO)
  have HS := Lib.hid (six_mk3 w)
  have HR := Lib.hid (res_mk w zeroO zeroO)
  have HL := Lib.hid (fun (w' : World) (mb : Nat) (h : SM w' mb signsN) => look_sign h ⟨#[33, 61, 61]⟩ 95 (by unfold maxLen; decide) (by decide))
  have n1 : ¬ w.heap.size = w.heap.size + 1 + 1 := by omega
  have n2 : ¬ w.heap.size + 1 + 1 = w.heap.size := by omega
  go_enter Tryz.func66, Tryz.ntmps66
  go_wp2_with fail
  go_at_call 75
  refine (makings_any _).mono ?_
  rintro e w1 ⟨mb, rfl, hM, hmb, hb1⟩
  have hlk := HL.out _ _ hM
  obtain ⟨HB1, HS1, HR1⟩ := stepD HB.out HS.out HR.out hb1
  clear hb1 hM hmb
  obtain ⟨⟨x0, x1, x2⟩, ⟨y0, y1, y2⟩⟩ := HS1.out
  go_wp2_with fail
  go_at_call 95
  refine (HC.out _).mono ?_
  rintro e w2 ⟨⟨v, rfl, x, y, rfl⟩, hb2⟩
  obtain ⟨HB2, HS2, HR2⟩ := stepD HB1.out HS1.out HR1.out hb2
  have hz1 := World.block_lt_of_cell? _ _ HR2.out.1.1
  simp only [] at hz1
  have n3 : ¬ w.heap.size + 1 + 1 = w2.heap.size := by omega
  have n4 : ¬ w2.heap.size = w.heap.size + 1 + 1 := by omega
  clear hb2
  obtain ⟨⟨q0, q1, q2⟩, ⟨g0, g1, g2⟩⟩ := HR2.out
  obtain ⟨⟨r0, r1, r2⟩, ⟨f0, f1, f2⟩⟩ := HR2.out.below (below_box w2 (.cells #[.int .i64 x, .int .i64 y, .string ⟨#[]⟩] 71))
  go_wp2
  exact bodyPost_ret (v := .tuple #[.agg #[.int .i64 x, .int .i64 y, .string ⟨#[]⟩], .int .i64 0]) (by simp [results, Tryz.results66, go_sem, q0, q1, q2, hz1]) rfl ⟨⟨_, _, rfl⟩, set3a HB2.out (w.heap.size + 1 + 1) (by omega) _ _ _ _⟩

theorem two_und (s : ByteArray) (w : World) (hs : s.size ≤ maxLen) : Calls Tryz.prog 66 #[.string s, undV, undV] w (TwoU w (if isSignB s = true then 0 else 60)) := by
  have of : ∀ l : Bs, s.data.toList = l → s = ⟨l.toArray⟩ := fun l h => by subst h; rfl
  rcases sign_cases s.data.toList with h | h | h | h | h | h | h | h
  · rw [isSign_no h]
    exact two_none s w hs h
  · rw [of _ h]
    exact two_s0 w
  · rw [of _ h]
    exact two_s1 w
  · rw [of _ h]
    exact two_s2 w
  · rw [of _ h]
    exact two_s3 w
  · rw [of _ h]
    exact two_s4 w
  · rw [of _ h]
    exact two_s5 w
  · rw [of _ h]
    exact two_s6 w
end Go.Proofs.YtconnhphkbgbkaaGreatDoor
