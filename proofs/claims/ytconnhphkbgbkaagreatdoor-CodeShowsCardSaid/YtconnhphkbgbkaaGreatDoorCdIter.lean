/- code.instructions: all procs' instructions come to the loop body one by one, each with its proc. -/
import Derived.Test.YtconnhphkbgbkaaGreatDoorCdRows
import Derived.Test.YtconnhphkbgbkaaGreatDoorJRange
import Derived.Shelf.Abstract
import Derived.Shelf.RegionOpen
import Derived.TacticsInMore
import Derived.LoopNIn
import Derived.LoopIn
namespace Go.Proofs.YtconnhphkbgbkaaGreatDoor
open Go.RowKit Go.Proofs Go.Shelf

attribute [local go_sem] Oper.semAt_some

/-- A loop with a number that is nowhere in the program. -/
theorem loop_ghost {F : Fence} {n : Nat} {P : Program} {Q : Exit → Act → World → Prop} {c : Code} (inv : Nat → Act → World → Prop)
    (h : ∀ m a w, inv m a w → c.wpIn F n P (Exit.then (fun a' w' => ∃ k, k < m ∧ inv k a' w') Q) a w) (m : Nat) (a : Act) (w : World) (h0 : inv m a w) : (Code.loop c).wpIn F n P Q a w := by
  refine wpIn_loop_rounds (m + 1) ?_
  have key : ∀ (j m : Nat) (a : Act) (w : World), m < j → inv m a w → Code.roundsIn F n P c Q j a w := by
    intro j
    induction j with
    | zero => intro m a w hm; omega
    | succ j ih =>
      intro m a w hm hi
      rw [roundsIn_succ]
      refine wpIn_mono (h m a w hi) ?_
      intro e a' w' hq
      cases e with
      | normal =>
        obtain ⟨k, hk, hi'⟩ := hq
        exact ih k a' w' (by omega) hi'
      | _ => exact hq
  exact key (m + 1) m a w (by omega) h0

/-- The places of all instructions, from the k-th proc on. -/
def idxFrom : Nat → List Proc → List (Nat × Nat)
  | _, [] => []
  | k, p :: r => (List.range' 0 p.ins.length).map (fun j => (k, j)) ++ idxFrom (k + 1) r
def idx (l : List Proc) : List (Nat × Nat) := idxFrom 0 l
/-- What is left from a place on. -/
def restO (l : List Proc) (k : Nat) : List (Nat × Nat) := idxFrom k (l.drop k)
def restI (l : List Proc) (p : Proc) (k j : Nat) : List (Nat × Nat) := (List.range' j (p.ins.length - j)).map (fun j => (k, j)) ++ restO l (k + 1)
theorem restO_in {l : List Proc} {k : Nat} {p : Proc} (h : l[k]? = some p) : restO l k = restI l p k 0 := by
  obtain ⟨hk, rfl⟩ := List.getElem?_eq_some_iff.1 h
  unfold restO restI
  rw [List.drop_eq_getElem_cons hk, idxFrom]
  rfl
theorem restI_step {l : List Proc} {k j : Nat} {p : Proc} (h : j < p.ins.length) : restI l p k j = (k, j) :: restI l p k (j + 1) := by
  unfold restI
  rw [show p.ins.length - j = (p.ins.length - (j + 1)) + 1 by omega, List.range'_succ]
  rfl
theorem restI_end {l : List Proc} {k j : Nat} {p : Proc} (h : p.ins.length ≤ j) : restI l p k j = restO l (k + 1) := by
  unfold restI
  rw [show p.ins.length - j = 0 by omega]
  rfl
theorem restO_end {l : List Proc} {k : Nat} (h : l.length ≤ k) : restO l k = [] := by
  unfold restO
  rw [List.drop_eq_nil_of_le h, idxFrom]
/-- Where the procs and the instructions lie, by value. -/
structure Rows9 (w0 : World) (A : Option Addr) (l : List Proc) (U : Nat → Value) (V : Nat → Nat → Value) : Prop where
  proc : ∀ i p, l[i]? = some p → (∃ g off, A = some ⟨g, off, none⟩ ∧ g < w0.heap.size ∧ w0.cell? ⟨g, off + i * 2, none⟩ = some (.int .i64 p.regs) ∧ w0.cell? ⟨g, off + i * 2 + 1, none⟩ = some (U i)) ∧ SlAt 8 InsP w0 (U i) p.ins ∧ I64 p.regs
  ins : ∀ i p j x, l[i]? = some p → p.ins[j]? = some x → ∃ g off c, U i = .slice (some ⟨g, off, none⟩) p.ins.length c ∧ g < w0.heap.size ∧ (∃ A' cap', V i j = .slice A' x.l.length cap') ∧ Ints9 w0 (V i j) x.l ∧ x.Fine ∧
    w0.cell? ⟨g, off + j * 8, none⟩ = some (.int .i64 x.op) ∧ w0.cell? ⟨g, off + j * 8 + 1, none⟩ = some (.int .i64 x.d) ∧ w0.cell? ⟨g, off + j * 8 + 2, none⟩ = some (.int .i64 x.a) ∧ w0.cell? ⟨g, off + j * 8 + 3, none⟩ = some (.int .i64 x.b) ∧
    w0.cell? ⟨g, off + j * 8 + 4, none⟩ = some (.int .i64 x.c) ∧ w0.cell? ⟨g, off + j * 8 + 5, none⟩ = some (.string x.s) ∧ w0.cell? ⟨g, off + j * 8 + 6, none⟩ = some (.int .i64 x.n) ∧ w0.cell? ⟨g, off + j * 8 + 7, none⟩ = some (V i j)
theorem Rows9.of {w0 : World} {A : Option Addr} {n cap : Nat} {l : List Proc} (h : CodeAt w0 (.slice A n cap) l) : ∃ U V, Rows9 w0 A l U V := by
  have hn : n = l.length := (SlAt.get h).1
  have key : ∀ i, ∃ u : Value, ∀ p, l[i]? = some p → (∃ g off, A = some ⟨g, off, none⟩ ∧ g < w0.heap.size ∧ w0.cell? ⟨g, off + i * 2, none⟩ = some (.int .i64 p.regs) ∧ w0.cell? ⟨g, off + i * 2 + 1, none⟩ = some u) ∧ SlAt 8 InsP w0 u p.ins ∧ I64 p.regs := fun i => by
    by_cases hi : i < l.length
    · obtain ⟨g, off, p, A', cap', e, hg, hp, h1, h2, h3, h4⟩ := CodeAt.get h i (by omega)
      refine ⟨.slice A' p.ins.length cap', fun p' hp' => ?_⟩
      obtain rfl : p = p' := Option.some.inj (hp.symm.trans hp')
      exact ⟨⟨g, off, e, hg, h3, h4⟩, h1, h2⟩
    · exact ⟨undef, fun p hp => by rw [List.getElem?_eq_none (by omega)] at hp; cases hp⟩
  obtain ⟨U, hU⟩ := Classical.axiomOfChoice key
  have key2 : ∀ (q : Nat × Nat), ∃ v : Value, ∀ p x, l[q.1]? = some p → p.ins[q.2]? = some x → ∃ g off c, U q.1 = .slice (some ⟨g, off, none⟩) p.ins.length c ∧ g < w0.heap.size ∧ (∃ A' cap', v = .slice A' x.l.length cap') ∧ Ints9 w0 v x.l ∧ x.Fine ∧
    w0.cell? ⟨g, off + q.2 * 8, none⟩ = some (.int .i64 x.op) ∧ w0.cell? ⟨g, off + q.2 * 8 + 1, none⟩ = some (.int .i64 x.d) ∧ w0.cell? ⟨g, off + q.2 * 8 + 2, none⟩ = some (.int .i64 x.a) ∧ w0.cell? ⟨g, off + q.2 * 8 + 3, none⟩ = some (.int .i64 x.b) ∧
    w0.cell? ⟨g, off + q.2 * 8 + 4, none⟩ = some (.int .i64 x.c) ∧ w0.cell? ⟨g, off + q.2 * 8 + 5, none⟩ = some (.string x.s) ∧ w0.cell? ⟨g, off + q.2 * 8 + 6, none⟩ = some (.int .i64 x.n) ∧ w0.cell? ⟨g, off + q.2 * 8 + 7, none⟩ = some v := fun q => by
    cases hp : l[q.1]? with
    | none => exact ⟨undef, fun p x h => by cases h⟩
    | some p =>
      have hs := (hU q.1 p hp).2.1
      obtain ⟨A2, c2, e2⟩ := SlAt.form hs
      cases hx : p.ins[q.2]? with
      | none => exact ⟨undef, fun p' x h h' => by cases h; rw [hx] at h'; cases h'⟩
      | some x =>
        have hlt : q.2 < p.ins.length := (List.getElem?_eq_some_iff.1 hx).1
        rw [e2] at hs
        obtain ⟨g, off, x', A', cap', rfl, hg, hx', h1, h2, h3⟩ := ins_get hs q.2 hlt
        obtain rfl : x = x' := Option.some.inj (hx.symm.trans hx')
        refine ⟨.slice A' x.l.length cap', fun p' x'' h h' => ?_⟩
        cases h
        obtain rfl : x = x'' := Option.some.inj (hx.symm.trans h')
        exact ⟨g, off, c2, e2, hg, ⟨_, _, rfl⟩, h1, h2, h3⟩
  obtain ⟨V, hV⟩ := Classical.axiomOfChoice key2
  exact ⟨U, fun i j => V (i, j), fun i p hp => hU i p hp, fun i p j x hp hx => hV (i, j) p x hp hx⟩

/-- What comes to the body for a place. -/
def enc9 (l : List Proc) (U : Nat → Value) (V : Nat → Nat → Value) (q : Nat × Nat) : Array Value :=
  match l[q.1]? with
  | none => #[undef, undef]
  | some p => match p.ins[q.2]? with
    | none => #[undef, undef]
    | some x => #[.agg #[.int .i64 p.regs, U q.1], .agg #[.int .i64 x.op, .int .i64 x.d, .int .i64 x.a, .int .i64 x.b, .int .i64 x.c, .string x.s, .int .i64 x.n, V q.1 q.2]]
theorem enc9_eq {l : List Proc} {U : Nat → Value} {V : Nat → Nat → Value} {i j : Nat} {p : Proc} {x : Ins} (hp : l[i]? = some p) (hx : p.ins[j]? = some x) :
    enc9 l U V (i, j) = #[.agg #[.int .i64 p.regs, U i], .agg #[.int .i64 x.op, .int .i64 x.d, .int .i64 x.a, .int .i64 x.b, .int .i64 x.c, .string x.s, .int .i64 x.n, V i j]] := by
  unfold enc9
  simp only [hp, hx]
theorem enc9_size (l : List Proc) (U : Nat → Value) (V : Nat → Nat → Value) (q : Nat × Nat) : (enc9 l U V q).size = 2 := by
  unfold enc9
  split
  · rfl
  · split <;> rfl

theorem below_box9 (w : World) (o : Obj) : Below w.heap.size w (w.alloc o) := (Below.refl _ w).alloc (Nat.le_refl _) _
set_option maxRecDepth 100000 in
set_option maxHeartbeats 4000000 in
theorem ins1_in (n : Nat) (hn : 1 ≤ n) (lf Bp len cap : Nat) (A : Option Addr) (l : List Proc) (U : Nat → Value) (V : Nat → Nat → Value) (w0 : World) (mine : World → Nat → Prop) (J Jx : List (Nat × Nat) → World → Prop) (W : World)
    (hlen : len = l.length) (hcap : len ≤ cap ∧ cap ≤ maxLen) (hrows : Rows9 w0 A l U V)
    (hJ : ∀ pre A B, J pre A → ItKeeps mine W.heap.size A B → J pre B) (hM : ∀ pre A k, J pre A → mine A k → k < A.heap.size) (hMs : ∀ A B k, ItKeeps mine W.heap.size A B → mine B k → mine A k) (hmn : ∀ W k, mine W k → w0.heap.size ≤ k)
    (hY : ∀ pre y W1, J pre W1 → pre ++ [y] <+: idx l → YieldAt Fence.wide (n - 1) Tryz.prog lf (enc9 l U V y) W1 fun e W' =>
      (e = .returned (.bool true) ∧ J (pre ++ [y]) W' ∧ RdKeeps mine W1 W') ∨ (e = .returned (.bool false) ∧ Jx (pre ++ [y]) W'))
    (hBp : W.heap[Bp]? = some (.cells #[.slice A len cap] 22 (0, 0))) (hn0 : Below w0.heap.size w0 W) (h0 : J [] W) :
    CallsIn Fence.wide n Tryz.prog 33 #[.func (.yield lf) #[] #[], .pointer (some ⟨Bp, 0, none⟩)] W fun e W' => (∃ v, e = .returned v) ∧ (J (idx l) W' ∨ ∃ pre, pre <+: idx l ∧ Jx pre W') := by
  have c0 : W.cell? ⟨Bp, 0, none⟩ = some (.slice A len cap) := cell_of_row W Bp 0 _ _ _ hBp
  obtain ⟨hc1, hc2⟩ := hcap
  have hc3 : cap ≤ 9223372036854775807 := hc2
  have HR := Lib.hid hrows
  have HL := Lib.hid hlen
  have HJ := Lib.hid hJ
  have HM := Lib.hid hM
  have HMs := Lib.hid hMs
  have HY := Lib.hid hY
  have Hmn := Lib.hid hmn
  have H0 := Lib.hid (And.intro hn0 h0)
  clear hrows hlen hJ hM hMs hY hmn hn0 h0 hc2 hBp
  refine callsIn_of_wp Tryz.func33 rfl trivial ?_ rfl
  simp only [Tryz.ntmps33, List.size_toArray, List.length_cons, List.length_nil, Nat.reduceAdd, Nat.reduceSub, Array.replicate_succ, Array.replicate_zero, List.push_toArray, List.append_toArray, List.nil_append, List.cons_append]
  gi_wp2
  obtain ⟨N, hN⟩ : ∃ N, W.heap.size = N := ⟨_, rfl⟩
  rw [hN] at HJ HMs
  obtain ⟨inv, hinv⟩ : ∃ inv : Nat → Act → World → Prop, inv = (fun m a' wr => ∃ (u2 u3 u4 u5 u6 u10 u11 u12 u13 u14 u15 u16 u17 u18 u19 u20 u21 u22 u23 u24 u25 u26 : Value), (∃ (k : Nat) (pre : List (Nat × Nat)), k ≤ len ∧ m = len - k ∧ J pre wr ∧ pre ++ restO l k = idx l ∧ Below w0.heap.size w0 wr ∧ N ≤ wr.heap.size ∧
    a' = { tmps := (.func (.yield lf) #[] #[] :: .pointer (some ⟨Bp, 0, none⟩) :: u2 :: u3 :: u4 :: u5 :: u6 :: .slice A len cap :: .int .i64 len :: .int .i64 k :: u10 :: u11 :: u12 :: u13 :: u14 :: u15 :: u16 :: u17 :: u18 :: u19 :: u20 :: u21 :: u22 :: u23 :: u24 :: u25 :: u26 :: []).toArray, defers := [] })) := ⟨_, rfl⟩
  have HInv := Lib.hid hinv
  clear hinv
  refine loop_ghost inv ?_ len _ _ (by
      rw [HInv.out]
      (repeat' apply Exists.intro); exact ⟨Nat.zero_le _, by omega, H0.out.2, rfl, H0.out.1, by omega, rfl⟩)
  intro m a' wr hI
  rw [HInv.out] at hI
  obtain ⟨u2, u3, u4, u5, u6, u10, u11, u12, u13, u14, u15, u16, u17, u18, u19, u20, u21, u22, u23, u24, u25, u26, k, pre, hk, rfl, hJp, hpre, hb, hz, rfl⟩ := hI
  have HJp := Lib.hid hJp
  have HP := Lib.hid hpre
  have HB := Lib.hid (And.intro hb hz)
  clear hJp hpre hb hz
  by_cases hlt : k < len
  · obtain ⟨p, hp⟩ : ∃ p, l[k]? = some p := ⟨_, List.getElem?_eq_getElem (by rw [← HL.out]; exact hlt)⟩
    obtain ⟨⟨g, off, rfl, hg, d0, d1⟩, hs, hri⟩ := HR.out.proc k p hp
    obtain ⟨A', cap', hU⟩ := SlAt.form hs
    rw [hU] at hs d1
    obtain ⟨-, hca, hcm, -⟩ := SlAt.get hs
    have hcm2 : cap' ≤ 9223372036854775807 := hcm
    rw [← HB.out.1.cell (p := ⟨g, off + k * 2, none⟩) hg] at d0
    rw [← HB.out.1.cell (p := ⟨g, off + k * 2 + 1, none⟩) hg] at d1
    have g1 : (k : Int) < len := by omega
    have HPI := Lib.hid (And.intro hp (And.intro hs hU))
    have HPR := Lib.hid (show pre ++ restI l p k 0 = idx l by rw [← restO_in hp]; exact HP.out)
    have hB4 := below_box9 wr (.cells #[.int .i64 p.regs, .slice A' p.ins.length cap'] 36)
    have hk4 : ItKeeps mine N wr (wr.alloc (.cells #[.int .i64 p.regs, .slice A' p.ins.length cap'] 36)) := .of_below hB4
    have HJ4 := Lib.hid (HJ.out _ _ _ HJp.out hk4)
    have HN4 := Lib.hid (show ¬ mine (wr.alloc (.cells #[.int .i64 p.regs, .slice A' p.ins.length cap'] 36)) wr.heap.size from fun hm => by
      have := HM.out _ _ _ HJp.out (HMs.out _ _ _ hk4 hm)
      omega)
    have HB4 := Lib.hid (And.intro (HB.out.1.trans (hB4.mono HB.out.1.size)) (heap_alloc_new wr (.cells #[.int .i64 p.regs, .slice A' p.ins.length cap'] 36)))
    have hz4 : N ≤ (wr.alloc (.cells #[.int .i64 p.regs, .slice A' p.ins.length cap'] 36)).heap.size := by have := HB.out.2; simp; omega
    have HZ4 := Lib.hid hz4
    clear hp hs hU hcm hri hk4 hB4 hz4 HJp HP
    gi_wp2
    obtain ⟨N4, hN4⟩ : ∃ N4, wr.heap.size = N4 := ⟨_, rfl⟩
    obtain ⟨W4, hW4⟩ : ∃ W4, wr.alloc (.cells #[.int .i64 p.regs, .slice A' p.ins.length cap'] 36) = W4 := ⟨_, rfl⟩
    rw [hW4] at HJ4 HN4 HB4 HZ4 ⊢
    rw [hN4] at HN4 HB4 ⊢
    clear d0 d1 HB hN4 hW4
    obtain ⟨inv2, hinv2⟩ : ∃ inv : Nat → Act → World → Prop, inv = (fun m2 a' wr => ∃ (z2 z3 z5 z6 z10 z11 z12 z13 z17 z18 z19 z20 z21 z22 z23 z24 z25 z26 : Value), (∃ (j : Nat) (pre : List (Nat × Nat)), j ≤ p.ins.length ∧ m2 = p.ins.length - j ∧ J pre wr ∧ pre ++ restI l p k j = idx l ∧ Below w0.heap.size w0 wr ∧ N ≤ wr.heap.size ∧ ¬ mine wr N4 ∧ wr.heap[N4]? = some (.cells #[.int .i64 p.regs, .slice A' p.ins.length cap'] 36 (0, 0)) ∧
      a' = { tmps := (.func (.yield lf) #[] #[] :: .pointer (some ⟨Bp, 0, none⟩) :: z2 :: z3 :: .pointer (some ⟨N4, 0, none⟩) :: z5 :: z6 :: .slice (some ⟨g, off, none⟩) len cap :: .int .i64 len :: .int .i64 k :: z10 :: z11 :: z12 :: z13 :: .slice A' p.ins.length cap' :: .int .i64 p.ins.length :: .int .i64 j :: z17 :: z18 :: z19 :: z20 :: z21 :: z22 :: z23 :: z24 :: z25 :: z26 :: []).toArray, defers := [] })) := ⟨_, rfl⟩
    have HInv2 := Lib.hid hinv2
    clear hinv2
    refine loop_ghost inv2 ?_ p.ins.length _ _ (by
        rw [HInv2.out]
        (repeat' apply Exists.intro); exact ⟨Nat.zero_le _, by omega, HJ4.out, HPR.out, HB4.out.1, HZ4.out, HN4.out, HB4.out.2, rfl⟩)
    clear HJ4 HN4 HB4 HZ4 HPR
    intro m2 a' wq hI
    rw [HInv2.out] at hI
    obtain ⟨z2, z3, z5, z6, z10, z11, z12, z13, z17, z18, z19, z20, z21, z22, z23, z24, z25, z26, j, pre2, hj, rfl, hJp, hpre, hb, hz, hnm, hbox, rfl⟩ := hI
    have HJp := Lib.hid hJp
    have HP := Lib.hid hpre
    have HB := Lib.hid (And.intro hb (And.intro hz (And.intro hnm hbox)))
    have e0 := cell_of_row wq N4 0 _ _ _ hbox
    have e1 := cell_of_row wq N4 1 _ _ _ hbox
    have n4 := heap_lt hbox
    clear hJp hpre hb hz hnm hbox
    by_cases hlj : j < p.ins.length
    · obtain ⟨x, hx⟩ : ∃ x, p.ins[j]? = some x := ⟨_, List.getElem?_eq_getElem hlj⟩
      obtain ⟨gi, oi, ci, hU2, hgi, ⟨A2, cap2, hV2⟩, -, -, f0, f1, f2, f3, f4, f5, f6, f7⟩ := HR.out.ins k p j x HPI.out.1 hx
      rw [HPI.out.2.2] at hU2
      injection hU2 with q1 q2 q3
      subst q1 q3
      have HENC := Lib.hid (enc9_eq (U := U) (V := V) HPI.out.1 hx)
      rw [HPI.out.2.2, hV2] at HENC
      rw [hV2] at f7
      rw [← HB.out.1.cell (p := ⟨gi, oi + j * 8, none⟩) hgi] at f0
      rw [← HB.out.1.cell (p := ⟨gi, oi + j * 8 + 1, none⟩) hgi] at f1
      rw [← HB.out.1.cell (p := ⟨gi, oi + j * 8 + 2, none⟩) hgi] at f2
      rw [← HB.out.1.cell (p := ⟨gi, oi + j * 8 + 3, none⟩) hgi] at f3
      rw [← HB.out.1.cell (p := ⟨gi, oi + j * 8 + 4, none⟩) hgi] at f4
      rw [← HB.out.1.cell (p := ⟨gi, oi + j * 8 + 5, none⟩) hgi] at f5
      rw [← HB.out.1.cell (p := ⟨gi, oi + j * 8 + 6, none⟩) hgi] at f6
      rw [← HB.out.1.cell (p := ⟨gi, oi + j * 8 + 7, none⟩) hgi] at f7
      have g2 : (j : Int) < p.ins.length := by omega
      have n5 : ¬ N4 = wq.heap.size := by omega
      have HST := Lib.hid (restI_step (l := l) (k := k) hlj)
      obtain ⟨W6, hW6⟩ : ∃ W6, wq.alloc (.cells #[.int .i64 x.op, .int .i64 x.d, .int .i64 x.a, .int .i64 x.b, .int .i64 x.c, .string x.s, .int .i64 x.n, .slice A2 x.l.length cap2] 33) = W6 := ⟨_, rfl⟩
      have hB6 : Below wq.heap.size wq W6 := by rw [← hW6]; exact below_box9 _ _
      have hk6 : ItKeeps mine N wq W6 := .of_below hB6
      have HJ6 := HJ.out _ _ _ HJp.out hk6
      have hYY := HY.out pre2 (k, j) W6 HJ6 ⟨restI l p k (j + 1), by rw [List.append_assoc]; show pre2 ++ ((k, j) :: restI l p k (j + 1)) = idx l; rw [← HST.out]; exact HP.out⟩
      rw [HENC.out] at hYY
      obtain ⟨fn, tmps, assign, rbody, hy, hRR⟩ := hYY
      have HRR := Lib.hid hRR
      have H6 := Lib.hid (And.intro (HB.out.1.trans (hB6.mono HB.out.1.size)) (And.intro (Nat.le_trans HB.out.2.1 hB6.size) (And.intro (fun hm => HB.out.2.2.1 (HMs.out _ _ _ hk6 hm)) ((hB6.block _ n4).trans HB.out.2.2.2))))
      rw [← hW6] at hy
      have HW6 := Lib.hid hW6
      clear hx hV2 hW6 hB6 hk6 HJ6 hRR HENC HJp HB
      gi_wp2
      rw [HW6.out]
      refine HRR.out.mono ?_
      rintro e W7 (⟨rfl, hJ7, hk7⟩ | ⟨rfl, hJx7⟩)
      · obtain ⟨h1, h2, h3, h4⟩ := H6.out
        have hb7 : Below w0.heap.size w0 W7 := ⟨hk7.os.trans h1.os, hk7.tape.trans h1.tape, hk7.output.trans h1.output, Nat.le_trans h1.size hk7.size, fun i hi => (hk7.keep i (by have := h1.size; omega) (fun hm => by have := Hmn.out _ _ hm; omega)).trans (h1.block i hi)⟩
        have HE := Lib.hid (And.intro hJ7 (And.intro hb7 (And.intro (Nat.le_trans h2 hk7.size) (And.intro (show ¬ mine W7 N4 from fun hm => (hk7.new _ hm).elim h3 (fun h => by have := heap_lt h4; omega)) ((hk7.keep _ (heap_lt h4) h3).trans h4)))))
        clear hJ7 hk7 h1 h2 h3 h4 hb7
        gi_wp2
        refine ⟨p.ins.length - (j + 1), by omega, ?_⟩
        have hw : wrap64 ((j : Int) + 1) = ((j + 1 : Nat) : Int) := by have := Nat.lt_of_lt_of_le hlj hca; unfold wrap64; omega
        first | rw [hw] | skip
        rw [HInv2.out]
        have hj1 : j + 1 ≤ p.ins.length := hlj
        (iterate 18 apply Exists.intro)
        refine ⟨j + 1, pre2 ++ [(k, j)], hj1, rfl, HE.out.1, by rw [List.append_assoc]; show pre2 ++ ((k, j) :: restI l p k (j + 1)) = idx l; rw [← HST.out]; exact HP.out, HE.out.2.1, HE.out.2.2.1, HE.out.2.2.2.1, HE.out.2.2.2.2, ?_⟩
        rfl
      · gi_wp2
        refine bodyPost_ret (results_none rfl _ _ _) rfl ?_
        exact ⟨⟨_, rfl⟩, .inr ⟨pre2 ++ [(k, j)], ⟨restI l p k (j + 1), by rw [List.append_assoc]; show pre2 ++ ((k, j) :: restI l p k (j + 1)) = idx l; rw [← HST.out]; exact HP.out⟩, hJx7⟩⟩
    · have g2 : ¬ (j : Int) < p.ins.length := by omega
      have HRE := Lib.hid (show pre2 ++ restO l (k + 1) = idx l by rw [← restI_end (j := j) (p := p) (by omega)]; exact HP.out)
      gi_wp2
      refine ⟨len - (k + 1), by omega, ?_⟩
      have hw : wrap64 ((k : Int) + 1) = ((k + 1 : Nat) : Int) := by unfold wrap64; omega
      first | rw [hw] | skip
      rw [HInv.out]
      have hk1 : k + 1 ≤ len := hlt
      (iterate 22 apply Exists.intro)
      refine ⟨k + 1, pre2, hk1, rfl, HJp.out, HRE.out, HB.out.1, HB.out.2.1, ?_⟩
      rfl
  · have g1 : ¬ (k : Int) < len := by omega
    have HE := Lib.hid (show J (idx l) wr by rw [← HP.out, restO_end (by rw [← HL.out]; omega), List.append_nil]; exact HJp.out)
    gi_wp2
    go_end0
    exact ⟨⟨_, rfl⟩, .inl HE.out⟩

set_option maxHeartbeats 1000000 in
theorem instr_in (n : Nat) (A : Option Addr) (len cap : Nat) (w : World) : CallsIn Fence.wide n Tryz.prog 20 #[.slice A len cap] w fun e w' => e = .returned (.func (.func 33) #[] #[.pointer (some ⟨w.heap.size, 0, none⟩)]) ∧ w' = w.alloc (.cells #[.slice A len cap] 22) := by
  refine callsIn_of_wp Tryz.func20 rfl trivial ?_ rfl
  simp only [Tryz.ntmps20, List.size_toArray, List.length_cons, List.length_nil, Nat.reduceAdd, Nat.reduceSub, Array.replicate_succ, Array.replicate_zero, List.push_toArray, List.append_toArray, List.nil_append, List.cons_append]
  gi_wp2
  go_ret
  exact ⟨rfl, rfl⟩
theorem ins_seq (n : Nat) (hn : 1 ≤ n) (Bp len cap : Nat) (A : Option Addr) (l : List Proc) (U : Nat → Value) (V : Nat → Nat → Value) (w0 : World) (mine : World → Nat → Prop) (w : World) (hlen : len = l.length) (hcap : len ≤ cap ∧ cap ≤ maxLen) (hrows : Rows9 w0 A l U V)
    (hmn : ∀ W k, mine W k → w0.heap.size ≤ k) (hBp : w.heap[Bp]? = some (.cells #[.slice A len cap] 22 (0, 0))) (hn0 : Below w0.heap.size w0 w) :
    SeqRows Fence.wide n Tryz.prog 33 #[.pointer (some ⟨Bp, 0, none⟩)] (enc9 l U V) mine (idx l) w := fun lf J Jx W hW hJ hM hMs hY h0 =>
  ins1_in n hn lf Bp len cap A l U V w0 mine J Jx W hlen hcap hrows hJ hM hMs hmn hY ((hW.block Bp (Array.getElem?_eq_some_iff.1 hBp).1).trans hBp) (hn0.trans (hW.mono hn0.size)) h0
end Go.Proofs.YtconnhphkbgbkaaGreatDoor
