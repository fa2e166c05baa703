/- jtree.levels and its closure: a tree's parts come to the loop body one by one, each with its level. -/
import Derived.Test.YtikbfoichhkeaaaGreatProg
import Derived.Shelf.Abstract
import Derived.Shelf.RegionOpen
import Derived.TacticsInMore
import Derived.LoopNIn
import Derived.LoopIn
import Derived.Maps.AppendAt
import Derived.Maps.OwnIn
import Derived.Laws.OwnMore
import Derived.Test.YtikbfoichhkeaaaGreatVm02
import Derived.Test.YtikbfoichhkeaaaGreatVm06
set_option linter.unusedSimpArgs false
set_option linter.unusedVariables false
set_option maxRecDepth 100000
set_option maxHeartbeats 40000000
namespace Go.Proofs.YtikbfoichhkeaaaGreat
section
open Go.RowKit Go.Proofs Go.Shelf
attribute [local go_sem] Oper.semAt_some
theorem loop_ghost {F : Fence} {n : Nat} {P : Program} {Q : Exit → Act → World → Prop} {c : Code} (inv : Nat → Act → World → Prop)
  (h : ∀ m a w, inv m a w → c.wpIn F n P (Exit.then (fun a' w' => ∃ k, k < m ∧ inv k a' w') Q) a w) (m : Nat) (a : Act) (w : World) (h0 : inv m a w) : (Code.loop c).wpIn F n P Q a w := by
 refine wpIn_loop_rounds (m + 1) ?_
 have key : ∀ (j m : Nat) (a : Act) (w : World), m < j → inv m a w → Code.roundsIn F n P c Q j a w := by
  intro j
  induction j with
  | zero => intro m a w hm; omega
  | succ j ih =>
   intro m a w hm hi
   rw [roundsIn_succ]
   refine wpIn_mono (h m a w hi) ?_
   intro e a' w' hq
   cases e with
   | normal =>
    obtain ⟨k, hk, hi'⟩ := hq
    exact ih k a' w' (by omega) hi'
   | _ => exact hq
 exact key (m + 1) m a w (by omega) h0
theorem heft_len : ∀ st : List (List Lo), st.length ≤ heft st
 | [] => by simp
 | a :: b => by
  have := heft_len b
  rw [heft_cons, List.length_cons]
  omega
theorem info22 : (Tryz.prog.info? 22).map (fun i => (i.zero, i.size, i.bytes)) = some (some (.slice none 0 0), 1, 24) := by kernel_rfl
theorem ownsRow_block {W W' : World} {base e size n : Nat} {v : Value} {xs : List Value} (h : W.ownsRow base e size v n xs) (hb : ∀ k, v.ownBlock = some k → W'.heap[k]? = W.heap[k]?) : W'.ownsRow base e size v n xs := by
 refine ⟨h.1, ?_⟩
 rcases h.2 with h | ⟨g, cap, cur, rfl, h1, h2, h3⟩
 ·exact .inl h
 ·exact .inr ⟨g, cap, cur, rfl, h1, (hb g rfl).trans h2, h3⟩
theorem ownsRow_front {W : World} {base e g n cap : Nat} {xs : List Value} {u : Value} (h : W.ownsRow base e 1 (.slice (some ⟨g, 0, none⟩) (n + 1) cap) (n + 1) (xs ++ [u])) : W.ownsRow base e 1 (.slice (some ⟨g, 0, none⟩) n cap) n xs := by
 have hl : xs.length = n := by have := h.1; simp at this; exact this
 refine ⟨by rw [hl]; simp, ?_⟩
 rcases h.2 with ⟨h, _⟩ | ⟨g', cap', cur, h', h1, h2, h3, h4, h5, h6⟩
 ·cases h
 ·simp only [Value.slice.injEq, Option.some.injEq, Addr.mk.injEq, and_true, true_and] at h'
  obtain ⟨rfl, rfl⟩ := h'
  refine .inr ⟨g, cap, cur, rfl, h1, h2, by omega, h4, h5, ?_⟩
  have h7 := congrArg (List.take n) h6
  rw [List.take_take, List.take_left' (by rw [hl])] at h7
  rw [← h7]
  congr 1
  omega
theorem loRow_same {W W' : World} {S : Nat → Prop} {l : List Lo} {v : Value} (h : LoRow W S l v) (hk : ∀ k, S k → W'.heap[k]? = W.heap[k]?) : LoRow W' S l v :=
 h.keep (fun _ h => h) fun p hp => by
  unfold World.cell?
  rw [hk _ hp]
def Plus (n0 g : Nat) (k : Nat) : Prop := k < n0 ∨ k = g
def Stack (W : World) (base : Nat) (S : Nat → Prop) (v : Value) (st : List (List Lo)) : Prop :=
 ∃ us : List Value, us.length = st.length ∧ W.ownsRow base 22 1 v st.length us.reverse ∧ ∀ (i : Nat) r u, st[i]? = some r → us[i]? = some u → LoRow W S r u
theorem levels1_in (n : Nat) (hn : 1 ≤ n) (l Bp n0 : Nat) (x : Lo) (mine : World → Nat → Prop) (J Jx : List (Lo × Nat) → World → Prop) (W : World) (hsz : x.size ≤ 1000000)
  (hJ : ∀ pre A B, J pre A → ItKeeps mine W.heap.size A B → J pre B) (hM : ∀ pre A k, J pre A → mine A k → k < A.heap.size) (hMs : ∀ A B k, ItKeeps mine W.heap.size A B → mine B k → mine A k) (hmn : ∀ W k, mine W k → n0 ≤ k)
  (hY : ∀ pre y W1, J pre W1 → pre ++ [y] <+: x.levels 1 → YieldAt Fence.wide (n - 1) Tryz.prog l #[y.1.val, .int .i64 y.2] W1 fun e W' =>
   (e = .returned (.bool true) ∧ J (pre ++ [y]) W' ∧ RdKeeps mine W1 W') ∨ (e = .returned (.bool false) ∧ Jx (pre ++ [y]) W'))
  (hBp : W.heap[Bp]? = some (.cells #[.int .i64 x.op, .string (bs x.s), .int .i64 x.n, x.v, .int .i64 x.line] 24 (0, 0))) (hn0 : n0 ≤ W.heap.size) (hx : LoAt W (fun k => k < n0) x) (h0 : J [] W) :
  CallsIn Fence.wide n Tryz.prog 123 #[.func (.yield l) #[] #[], .pointer (some ⟨Bp, 0, none⟩)] W fun e W' => (∃ v, e = .returned v) ∧ (J (x.levels 1) W' ∨ ∃ pre, pre <+: x.levels 1 ∧ Jx pre W') := by
 have c0 : W.cell? ⟨Bp, 0, none⟩ = some (.int .i64 x.op) := cell_of_row W Bp 0 _ _ _ hBp
 have c1 : W.cell? ⟨Bp, 1, none⟩ = some (.string (bs x.s)) := cell_of_row W Bp 1 _ _ _ hBp
 have c2 : W.cell? ⟨Bp, 2, none⟩ = some (.int .i64 x.n) := cell_of_row W Bp 2 _ _ _ hBp
 have c3 : W.cell? ⟨Bp, 3, none⟩ = some x.v := cell_of_row W Bp 3 _ _ _ hBp
 have c4 : W.cell? ⟨Bp, 4, none⟩ = some (.int .i64 x.line) := cell_of_row W Bp 4 _ _ _ hBp
 have hvs : ∃ A cap, x.v = .slice A x.l.length cap := by
  rw [LoAt_iff] at hx
  obtain ⟨_, A, cap, e, _⟩ := hx
  exact ⟨A, cap, e⟩
 obtain ⟨Av, cv, hvs⟩ := hvs
 have HX := Lib.hid hx
 rw [hvs] at c3
 clear hx
 refine callsIn_of_wp Tryz.func123 rfl trivial ?_ rfl
 simp only [Tryz.ntmps123, List.size_toArray, List.length_cons, List.length_nil, Nat.reduceAdd, Nat.reduceSub, Array.replicate_succ, Array.replicate_zero, List.push_toArray, List.append_toArray, List.nil_append, List.cons_append]
 gi_wp2
 obtain ⟨N, hN⟩ : ∃ N, W.heap.size = N := ⟨_, rfl⟩
 obtain ⟨W2, hW2⟩ : ∃ w2, ((W.alloc (.cells #[.int .i64 x.op, .string (bs x.s), .int .i64 x.n, .slice Av x.l.length cv, .int .i64 x.line] 24)).alloc (.cells #[.slice (some ⟨W.heap.size, 0, none⟩) 1 1] 22)) = w2 := ⟨_, rfl⟩
 have HS : W2.heap.size = N + 2 ∧ Below W.heap.size W W2 ∧ Stack W2 (N + 1) (Plus n0 N) (.slice (some ⟨N + 1, 0, none⟩) 1 1) [[x]] := by
  have hb : Below W.heap.size W W2 := by rw [← hW2]; exact ((Below.refl _ W).alloc (Nat.le_refl _) _).alloc (by simp) _
  have hbk : W2.heap[N]? = some (.cells #[.int .i64 x.op, .string (bs x.s), .int .i64 x.n, x.v, .int .i64 x.line] 24 (0, 0)) := by
   rw [← hW2, ← hN, hvs]
   exact (Below.heap_alloc _ _ _ (by simp)).trans (heap_alloc_new W _)
  refine ⟨by rw [← hW2, ← hN]; simp, hb, [.slice (some ⟨N, 0, none⟩) 1 1], rfl, ?_, ?_⟩
  ·have := World.ownsRow_lit (base := N + 1) (e := 22) (size := 1) (W.alloc (.cells #[.int .i64 x.op, .string (bs x.s), .int .i64 x.n, .slice Av x.l.length cv, .int .i64 x.line] 24)) #[.slice (some ⟨W.heap.size, 0, none⟩) 1 1] 1 (by simp; omega) (by unfold maxLen; decide) rfl
   rw [hW2, World.size_alloc, hN] at this
   simpa using this
  ·intro i r u hr hu
   cases i with
   | succ i => simp at hr
   | zero =>
    simp at hr hu
    subst hr hu
    refine ⟨_, 1, rfl, ⟨Nat.le_refl _, by unfold maxLen; decide⟩, fun _ => ⟨N, 0, rfl, .inr rfl, ?_⟩⟩
    rw [LoAtL_cons]
    exact ⟨⟨LoAt.keep x HX.out (fun k hk => .inl hk) (fun p hp => hb.cell (by omega)), cell_of_row W2 N 0 _ _ _ hbk, cell_of_row W2 N 1 _ _ _ hbk, cell_of_row W2 N 2 _ _ _ hbk, cell_of_row W2 N 3 _ _ _ hbk, cell_of_row W2 N 4 _ _ _ hbk⟩, LoAtL_nil _ _ _ _⟩
 rw [hW2]
 rw [hN] at hJ hMs hn0 HS ⊢
 obtain ⟨hz2, hb2, hst⟩ := HS
 have HJ2 := hJ [] W W2 h0 (.of_below (by rw [hN]; exact hb2))
 have hnew : ∀ k, N ≤ k → ¬ mine W2 k := fun k hk hm => by
  have := hM [] W k h0 (hMs W W2 k (.of_below (by rw [hN]; exact hb2)) hm)
  omega
 have HJ := Lib.hid hJ
 have HM := Lib.hid hM
 have HMs := Lib.hid hMs
 have HY := Lib.hid hY
 have Hmn := Lib.hid hmn
 have hstart : ∃ st pre, heft st = 2 * x.size + 1 ∧ Stack W2 (N + 1) (Plus n0 N) (.slice (some ⟨N + 1, 0, none⟩) 1 1) st ∧ J pre W2 ∧ pre ++ rem st = x.levels 1 ∧ N + 2 ≤ W2.heap.size ∧ ¬ mine W2 N ∧ (∀ g, Value.ownBlock (.slice (some ⟨N + 1, 0, none⟩) 1 1) = some g → ¬ mine W2 g) := by
  refine ⟨[[x]], [], by rw [heft_cons, loSizes_cons, loSizes_nil]; rfl, hst, HJ2, ?_, by omega, hnew N (Nat.le_refl _), fun g hg => ?_⟩
  ·rw [rem, rem_nil, loLevels_cons, loLevels_nil]; simp
  ·simp [Value.ownBlock] at hg
   exact hnew g (by omega)
 have HSt := Lib.hid hstart
 clear hJ hM hMs hY hmn hstart hst HJ2 hnew hW2 hb2 hz2 hvs hBp h0 c0 c1 c2 c3 c4
 refine loop_ghost (fun m a' wr => ∃ (v u4 u5 u6 u10 u11 u12 u13 u14 u15 u16 u17 u18 u19 u20 u21 u22 u23 u24 u25 u26 u27 u28 u29 u30 u31 u32 u33 u34 u35 u36 u37 u38 u39 u40 u41 u42 u43 u44 u45 : Value), (∃ st pre, heft st = m ∧ Stack wr (N + 1) (Plus n0 N) v st ∧ J pre wr ∧ pre ++ rem st = x.levels 1 ∧ N + 2 ≤ wr.heap.size ∧ ¬ mine wr N ∧ (∀ g, v.ownBlock = some g → ¬ mine wr g)) ∧ m ≤ 2 * x.size + 1 ∧
  a' = { tmps := (.func (.yield l) #[] #[] :: .pointer (some ⟨Bp, 0, none⟩) :: undef :: v :: u4 :: u5 :: u6 :: .agg #[.int .i64 x.op, .string (bs x.s), .int .i64 x.n, .slice Av x.l.length cv, .int .i64 x.line] :: .slice (some ⟨N, 0, none⟩) 1 1 :: .slice (some ⟨N + 1, 0, none⟩) 1 1 :: u10 :: u11 :: u12 :: u13 :: u14 :: u15 :: u16 :: u17 :: u18 :: u19 :: u20 :: u21 :: u22 :: u23 :: u24 :: u25 :: u26 :: u27 :: u28 :: u29 :: u30 :: u31 :: u32 :: u33 :: u34 :: u35 :: u36 :: u37 :: u38 :: u39 :: u40 :: u41 :: u42 :: u43 :: u44 :: u45 :: []).toArray, defers := [] }) ?_ (2 * x.size + 1) _ _ (by
   (repeat' apply Exists.intro); exact ⟨HSt.out, Nat.le_refl _, rfl⟩)
 clear HSt
 rintro m a' wr ⟨v, u4, u5, u6, u10, u11, u12, u13, u14, u15, u16, u17, u18, u19, u20, u21, u22, u23, u24, u25, u26, u27, u28, u29, u30, u31, u32, u33, u34, u35, u36, u37, u38, u39, u40, u41, u42, u43, u44, u45, ⟨st, pre, hm, hst, hJp, hpre, hsz2, hgP, hgv⟩, hm2, rfl⟩
 subst hm
 obtain ⟨us, hul, hrow, hrows⟩ := hst
 cases st with
 | nil =>
  have hz : v = .slice none 0 0 ∨ ∃ g cap, v = .slice (some ⟨g, 0, none⟩) 0 cap := by
   rcases hrow.2 with ⟨h, _⟩ | ⟨g, cap, _, h, _⟩
   ·exact .inl h
   ·exact .inr ⟨g, cap, h⟩
  have hpre' : pre = x.levels 1 := by rw [← hpre, rem_nil, List.append_nil]
  have HP := Lib.hid (show J (x.levels 1) wr by rw [← hpre']; exact hJp)
  clear hrow hrows hpre hpre' hJp
  rcases hz with rfl | ⟨g, cap, rfl⟩
  all_goals
   gi_wp2
   go_end0
   exact ⟨⟨_, rfl⟩, .inl HP.out⟩
 | cons r st =>
  obtain ⟨u, us, rfl⟩ : ∃ u us', us = u :: us' := by
   cases us with
   | nil => simp at hul
   | cons u us' => exact ⟨u, us', rfl⟩
  have hul' : us.length = st.length := by simpa using hul
  obtain ⟨g, cap, rfl⟩ : ∃ g cap, v = .slice (some ⟨g, 0, none⟩) (st.length + 1) cap := by
   rcases hrow.2 with ⟨_, h⟩ | ⟨g, cap, _, h, _⟩
   ·simp at h
   ·exact ⟨g, cap, h⟩
  rw [List.length_cons] at hrow
  have hgN : N + 1 ≤ g ∧ g < wr.heap.size := hrow.lt g rfl
  have hcap : st.length + 1 ≤ cap ∧ cap ≤ maxLen := by
   rcases hrow.2 with ⟨h, _⟩ | ⟨g', cap', cur, h, _, _, h1, h2, _⟩
   ·cases h
   ·simp at h
    rw [← h.2] at h1 h2
    exact ⟨h1, h2⟩
  have hcu : wr.cell? ⟨g, st.length, none⟩ = some u := by
   rw [hrow.cellAt st.length (by omega), List.reverse_cons, List.getElem?_append_right (by rw [List.length_reverse]; omega)]
   simp [hul']
  have hfz := hrow.frozenAt st.length
  have hru := hrows 0 r u rfl rfl
  have hsl := heft_len st
  have hcm : cap ≤ 9223372036854775807 := by have := hcap.2; unfold maxLen at this; omega
  have hc1 := hcap.1
  have hst1 : st.length ≤ 2 * x.size + 1 := by rw [heft_cons] at hm2; omega
  obtain ⟨len, hlen⟩ : ∃ k, st.length = k := ⟨_, rfl⟩
  have HROW := Lib.hid hrow
  have HROWS := Lib.hid hrows
  have HP := Lib.hid hpre
  have HM2 := Lib.hid hm2
  have HUL := Lib.hid hul'
  have HGV := Lib.hid (hgv g (by simp [Value.ownBlock]))
  have HGP := Lib.hid hgP
  have HL := Lib.hid hlen
  have HJp := Lib.hid hJp
  clear hrow hrows hpre hm2 hul hul' hgv hgP hcap hsl hJp
  rw [hlen] at hcu hfz hc1 hst1 ⊢
  clear hlen
  cases r with
  | nil =>
   obtain ⟨A, cu, rfl, hcu2, -⟩ := hru
   gi_wp2
   refine ⟨heft st, heft_pop st, ?_⟩
   (repeat' apply Exists.intro)
   refine ⟨⟨st, pre, rfl, ⟨us, HUL.out, ?_, fun i r u hr hu => HROWS.out (i + 1) r u hr hu⟩, HJp.out, by rw [← HP.out, rem_pop], hsz2, HGP.out, fun g' hg' => ?_⟩, ?_, rfl⟩
   ·have := HROW.out
    rw [List.reverse_cons, HL.out] at this
    rw [HL.out]
    exact ownsRow_front this
   ·simp [Value.ownBlock] at hg'
    rw [← hg']
    exact HGV.out
   ·have := HM2.out
    have := heft_pop st
    omega
  | cons y r =>
   obtain ⟨gy, off, cy, rfl, hy1, hy2, hSg, hLy, y0, y1, y2, y3, y4, hrest⟩ := hru.head
   have hvy : ∃ A c, y.v = .slice A y.l.length c := by
    rw [LoAt_iff] at hLy
    obtain ⟨_, A, c, e, _⟩ := hLy
    exact ⟨A, c, e⟩
   obtain ⟨Ay, cay, hvy⟩ := hvy
   rw [hvy] at y3
   unfold maxLen at hy2
   have HLy := Lib.hid hLy
   have HRest := Lib.hid hrest
   obtain ⟨rv, hrv, hrl⟩ : ∃ rv, (rv = .slice (some ⟨gy, off, none⟩) 0 0 ∧ cy = 1 ∧ r.length = 0 ∨ rv = .slice (some ⟨gy, off + 5, none⟩) r.length (cy - 1) ∧ cy ≠ 1) ∧ LoRow wr (Plus n0 N) r rv := by
    by_cases h1 : cy = 1
    ·exact ⟨_, .inl ⟨rfl, h1, by omega⟩, by have := hrest (some ⟨gy, off, none⟩) (fun h => by omega); rw [h1, show r.length = 0 by omega] at this; exact this⟩
    ·exact ⟨_, .inr ⟨rfl, h1⟩, hrest _ (fun _ => rfl)⟩
   have hpre2 : pre ++ [(y, len + 1)] ++ rem (y.l :: r :: st) = x.levels 1 := by
    rw [← HP.out, rem_step, HL.out]
    simp
   obtain ⟨W3, hW3⟩ : ∃ W3, ((wr.setCell ⟨g, len, none⟩ rv).alloc (.cells #[.int .i64 y.op, .string (bs y.s), .int .i64 y.n, .slice Ay y.l.length cay, .int .i64 y.line] 24)) = W3 := ⟨_, rfl⟩
   have hset : ∀ k, k ≠ g → (wr.setCell ⟨g, len, none⟩ rv).heap[k]? = wr.heap[k]? := fun k hk => heap_setCell_other wr ⟨g, len, none⟩ k rv hk
   have h3 : ∀ k, k < wr.heap.size → k ≠ g → W3.heap[k]? = wr.heap[k]? := fun k hk hkg => by
    rw [← hW3]
    exact (Below.heap_alloc _ _ _ (by simpa using hk)).trans (hset k hkg)
   have hz3 : W3.heap.size = wr.heap.size + 1 := by rw [← hW3]; simp
   have g3 : ItKeeps mine N wr W3 := by
    refine ⟨by rw [← hW3]; rfl, by rw [← hW3]; rfl, by rw [← hW3]; rfl, by omega, fun k hk hm => h3 k hk (fun e => ?_)⟩
    subst e
    rcases hm with h | h
    ·omega
    ·exact HGV.out h
   have hbx : W3.heap[wr.heap.size]? = some (.cells #[.int .i64 y.op, .string (bs y.s), .int .i64 y.n, .slice Ay y.l.length cay, .int .i64 y.line] 24 (0, 0)) := by
    have := heap_alloc_new (wr.setCell ⟨g, len, none⟩ rv) (.cells #[.int .i64 y.op, .string (bs y.s), .int .i64 y.n, .slice Ay y.l.length cay, .int .i64 y.line] 24)
    rw [hW3] at this
    simpa using this
   have hrow3 : W3.ownsRow (N + 1) 22 1 (.slice (some ⟨g, 0, none⟩) (len + 1) cap) (len + 1) (us.reverse ++ [rv]) := by
    have h := HROW.out
    rw [HL.out] at h
    have h2 := ((h.stored len rv).1.alloc (.cells #[.int .i64 y.op, .string (bs y.s), .int .i64 y.n, .slice Ay y.l.length cay, .int .i64 y.line] 24))
    rw [hW3] at h2
    have hul := HUL.out
    rw [HL.out] at hul
    have e : (Value.slice (some ⟨gy, off, none⟩) (r.length + 1) cy :: us).reverse = us.reverse ++ [Value.slice (some ⟨gy, off, none⟩) (r.length + 1) cy] := by simp
    rw [e, List.set_append_right _ _ (by rw [List.length_reverse]; omega), List.length_reverse, hul, Nat.sub_self] at h2
    exact h2
   have J3 := HJ.out pre wr W3 HJp.out g3
   have hnm : ∀ k, N ≤ k → (k < wr.heap.size → ¬ mine wr k) → ¬ mine W3 k := fun k hk h hm => by
    have hw := HMs.out wr W3 k g3 hm
    exact h (HM.out pre wr k HJp.out hw) hw
   obtain ⟨fn, tmps, assign, rbody, hy, hR⟩ := HY.out pre (y, len + 1) W3 J3 ⟨_, hpre2⟩
   have hy' : (Instr.yield l #[.agg #[.int .i64 y.op, .string (bs y.s), .int .i64 y.n, .slice Ay y.l.length cay, .int .i64 y.line], .int .i64 ((len : Int) + 1)]).run Tryz.prog W3 = .ok (.round l fn tmps assign rbody) W3 := by
    unfold Lo.val at hy
    rw [hvy] at hy
    simpa using hy
   rw [← hW3] at hy'
   have HR := Lib.hid hR
   have H3 := Lib.hid (And.intro h3 (And.intro hz3 (And.intro hbx (And.intro hrow3 hnm))))
   have HRL := Lib.hid hrl
   have HPre2 := Lib.hid hpre2
   have HW3 := Lib.hid hW3
   clear hLy hrest hru hSg hset h3 hz3 g3 hbx hrow3 hnm hR hy hrl hpre2 hW3 J3
   obtain ⟨i0, hi, hz0, hz1, hz2⟩ := info_parts info22
   have HI := Lib.hid (And.intro hi (And.intro hz0 (And.intro hz1 hz2)))
   clear hi hz0 hz1 hz2
   rcases hrv with ⟨rfl, rfl, hr0⟩ | ⟨rfl, hcy⟩
   ·gi_wp2
    rw [HW3.out]
    refine HR.out.mono ?_
    rintro e W4 (⟨rfl, hJ4, hk4⟩ | ⟨rfl, hJx4⟩)
    ·obtain ⟨h3, hz3, hbx, hrow3, hnm⟩ := H3.out
     have hs4 := hk4.size
     have hn4 : ∀ k, N ≤ k → k < W3.heap.size → (k < wr.heap.size → ¬ mine wr k) → ¬ mine W4 k := fun k hk hl h hm => by
      rcases hk4.new k hm with h' | h'
      ·exact hnm k hk h h'
      ·omega
     have k4 : ∀ k, N ≤ k → k < W3.heap.size → (k < wr.heap.size → ¬ mine wr k) → W4.heap[k]? = W3.heap[k]? := fun k hk hl h => hk4.keep k hl (hnm k hk h)
     have d3 : W4.cell? ⟨wr.heap.size, 3, none⟩ = some (.slice Ay y.l.length cay) := cell_of_row W4 _ 3 _ _ _ ((k4 _ (by omega) (by omega) (fun h => absurd h (by omega))).trans hbx)
     have row4 := ownsRow_block (W' := W4) hrow3 (fun k hk => by
      simp [Value.ownBlock] at hk
      subst hk
      exact k4 g (by omega) (by omega) (fun _ => HGV.out))
     have S4 : ∀ k, Plus n0 N k → W4.heap[k]? = wr.heap[k]? := fun k hk => by
      rcases hk with hk | rfl
      ·exact (hk4.keep k (by omega) (fun h => by have := Hmn.out W3 k h; omega)).trans (h3 k (by omega) (by omega))
      ·exact (k4 k (Nat.le_refl _) (by omega) (fun _ => HGP.out)).trans (h3 k (by omega) (by omega))
     have HS4 := Lib.hid (And.intro S4 hn4)
     have HJ4 := Lib.hid hJ4
     clear h3 hbx hrow3 hnm k4 S4 hn4 hJ4
     gi_wp2_with (gi_at_builtin; refine wpListIn_append_own_at _ rfl (.tmp 41) (.tmp 44) 167 rfl (N + 1) 22 i0 (.slice none 0 0) 1 24 Tryz.underlying167 HI.out.1 HI.out.2.1 HI.out.2.2.1 HI.out.2.2.2 rfl (by decide) (.slice (some ⟨g, 0, none⟩) (len + 1) cap) _ _ rfl (row4.alloc _) ⟨W4.heap.size, 0, none⟩ 1 1 [.slice Ay y.l.length cay] rfl rfl (cell_one_new _ _ _) (by simp [Value.oneCell']) (by unfold maxLen; omega) (by omega) (by simp; omega) ?_; intro v' w5 hown hg5 _ hat; have HG := Lib.hid (And.intro hown (And.intro hg5 hat)); clear hown hg5 hat)
     obtain ⟨hown, hg5, hat⟩ := HG.out
     have hs5 := hg5.size
     rw [World.size_alloc] at hs5 hat
     have G5 : ∀ k, k < W4.heap.size → k ≠ g → w5.heap[k]? = W4.heap[k]? := fun k hk hkg =>
      (hg5.block k (by simp; omega) (fun e => hkg (by simp [Value.ownBlock] at e; exact e))).trans (Below.heap_alloc _ _ _ hk)
     have g5 : ItKeeps mine N W4 w5 := ⟨hg5.os, hg5.tape, hg5.output, by omega, fun k hk hm => G5 k hk (fun e => by
      subst e
      rcases hm with h | h
      ·omega
      ·exact HS4.out.2 k (by omega) (by omega) (fun _ => HGV.out) h)⟩
     have S5 : ∀ k, Plus n0 N k → w5.heap[k]? = wr.heap[k]? := fun k hk => (G5 k (by rcases hk with h | h <;> omega) (by rcases hk with h | h <;> omega)).trans (HS4.out.1 k hk)
     have hn5 : ∀ k, k < W3.heap.size → N ≤ k → (k < wr.heap.size → ¬ mine wr k) → ¬ mine w5 k := fun k hk hN h hm => HS4.out.2 k hN hk h (HMs.out W4 w5 k g5 hm)
     refine ⟨heft (y.l :: r :: st), heft_step y r st, ?_⟩
     (repeat' apply Exists.intro)
     refine ⟨⟨y.l :: r :: st, pre ++ [(y, len + 1)], rfl, ⟨.slice Ay y.l.length cay :: (Value.slice (some ⟨gy, off, none⟩) 0 0) :: us, ?_, ?_, ?_⟩, HJ.out _ W4 w5 HJ4.out g5, HPre2.out, by omega, hn5 N (by omega) (Nat.le_refl _) (fun _ => HGP.out), fun k hk => ?_⟩, ?_, rfl⟩
     ·simp [HUL.out]
     ·have e : (Value.slice Ay y.l.length cay :: (Value.slice (some ⟨gy, off, none⟩) 0 0) :: us).reverse = us.reverse ++ [(Value.slice (some ⟨gy, off, none⟩) 0 0)] ++ [Value.slice Ay y.l.length cay] := by simp
      rw [e, List.length_cons, List.length_cons, HL.out]
      exact hown
     ·intro i r' u hr hu
      match i, hr, hu with
      | 0, hr, hu =>
       simp at hr hu
       subst hr hu
       have := (LoAt_iff _ _ _).1 HLy.out
       rw [hvy] at this
       exact loRow_same this.2 S5
      | 1, hr, hu =>
       simp at hr hu
       subst hr hu
       exact loRow_same HRL.out S5
      | i + 2, hr, hu => exact loRow_same (HROWS.out (i + 1) r' u (by simpa using hr) (by simpa using hu)) S5
     ·rcases hat with h | h
      ·rw [h] at hk
       simp [Value.ownBlock] at hk
       rw [← hk]
       exact hn5 g (by omega) (by omega) (fun _ => HGV.out)
      ·rw [h] at hk
       have hkk : W4.heap.size + 1 = k := by simpa using hk
       intro hm
       have := HM.out _ W4 k HJ4.out (HMs.out W4 w5 k g5 hm)
       omega
     ·have := HM2.out
      have := heft_step y r st
      omega
    ·gi_wp2
     refine bodyPost_ret (results_none rfl _ _ _) rfl ?_
     exact ⟨⟨_, rfl⟩, .inr ⟨pre ++ [(y, len + 1)], ⟨_, HPre2.out⟩, hJx4⟩⟩
   ·gi_wp2
    rw [HW3.out]
    refine HR.out.mono ?_
    rintro e W4 (⟨rfl, hJ4, hk4⟩ | ⟨rfl, hJx4⟩)
    ·obtain ⟨h3, hz3, hbx, hrow3, hnm⟩ := H3.out
     have hs4 := hk4.size
     have hn4 : ∀ k, N ≤ k → k < W3.heap.size → (k < wr.heap.size → ¬ mine wr k) → ¬ mine W4 k := fun k hk hl h hm => by
      rcases hk4.new k hm with h' | h'
      ·exact hnm k hk h h'
      ·omega
     have k4 : ∀ k, N ≤ k → k < W3.heap.size → (k < wr.heap.size → ¬ mine wr k) → W4.heap[k]? = W3.heap[k]? := fun k hk hl h => hk4.keep k hl (hnm k hk h)
     have d3 : W4.cell? ⟨wr.heap.size, 3, none⟩ = some (.slice Ay y.l.length cay) := cell_of_row W4 _ 3 _ _ _ ((k4 _ (by omega) (by omega) (fun h => absurd h (by omega))).trans hbx)
     have row4 := ownsRow_block (W' := W4) hrow3 (fun k hk => by
      simp [Value.ownBlock] at hk
      subst hk
      exact k4 g (by omega) (by omega) (fun _ => HGV.out))
     have S4 : ∀ k, Plus n0 N k → W4.heap[k]? = wr.heap[k]? := fun k hk => by
      rcases hk with hk | rfl
      ·exact (hk4.keep k (by omega) (fun h => by have := Hmn.out W3 k h; omega)).trans (h3 k (by omega) (by omega))
      ·exact (k4 k (Nat.le_refl _) (by omega) (fun _ => HGP.out)).trans (h3 k (by omega) (by omega))
     have HS4 := Lib.hid (And.intro S4 hn4)
     have HJ4 := Lib.hid hJ4
     clear h3 hbx hrow3 hnm k4 S4 hn4 hJ4
     gi_wp2_with (gi_at_builtin; refine wpListIn_append_own_at _ rfl (.tmp 41) (.tmp 44) 167 rfl (N + 1) 22 i0 (.slice none 0 0) 1 24 Tryz.underlying167 HI.out.1 HI.out.2.1 HI.out.2.2.1 HI.out.2.2.2 rfl (by decide) (.slice (some ⟨g, 0, none⟩) (len + 1) cap) _ _ rfl (row4.alloc _) ⟨W4.heap.size, 0, none⟩ 1 1 [.slice Ay y.l.length cay] rfl rfl (cell_one_new _ _ _) (by simp [Value.oneCell']) (by unfold maxLen; omega) (by omega) (by simp; omega) ?_; intro v' w5 hown hg5 _ hat; have HG := Lib.hid (And.intro hown (And.intro hg5 hat)); clear hown hg5 hat)
     obtain ⟨hown, hg5, hat⟩ := HG.out
     have hs5 := hg5.size
     rw [World.size_alloc] at hs5 hat
     have G5 : ∀ k, k < W4.heap.size → k ≠ g → w5.heap[k]? = W4.heap[k]? := fun k hk hkg =>
      (hg5.block k (by simp; omega) (fun e => hkg (by simp [Value.ownBlock] at e; exact e))).trans (Below.heap_alloc _ _ _ hk)
     have g5 : ItKeeps mine N W4 w5 := ⟨hg5.os, hg5.tape, hg5.output, by omega, fun k hk hm => G5 k hk (fun e => by
      subst e
      rcases hm with h | h
      ·omega
      ·exact HS4.out.2 k (by omega) (by omega) (fun _ => HGV.out) h)⟩
     have S5 : ∀ k, Plus n0 N k → w5.heap[k]? = wr.heap[k]? := fun k hk => (G5 k (by rcases hk with h | h <;> omega) (by rcases hk with h | h <;> omega)).trans (HS4.out.1 k hk)
     have hn5 : ∀ k, k < W3.heap.size → N ≤ k → (k < wr.heap.size → ¬ mine wr k) → ¬ mine w5 k := fun k hk hN h hm => HS4.out.2 k hN hk h (HMs.out W4 w5 k g5 hm)
     refine ⟨heft (y.l :: r :: st), heft_step y r st, ?_⟩
     (repeat' apply Exists.intro)
     refine ⟨⟨y.l :: r :: st, pre ++ [(y, len + 1)], rfl, ⟨.slice Ay y.l.length cay :: (Value.slice (some ⟨gy, off + 5, none⟩) r.length (cy - 1)) :: us, ?_, ?_, ?_⟩, HJ.out _ W4 w5 HJ4.out g5, HPre2.out, by omega, hn5 N (by omega) (Nat.le_refl _) (fun _ => HGP.out), fun k hk => ?_⟩, ?_, rfl⟩
     ·simp [HUL.out]
     ·have e : (Value.slice Ay y.l.length cay :: (Value.slice (some ⟨gy, off + 5, none⟩) r.length (cy - 1)) :: us).reverse = us.reverse ++ [(Value.slice (some ⟨gy, off + 5, none⟩) r.length (cy - 1))] ++ [Value.slice Ay y.l.length cay] := by simp
      rw [e, List.length_cons, List.length_cons, HL.out]
      exact hown
     ·intro i r' u hr hu
      match i, hr, hu with
      | 0, hr, hu =>
       simp at hr hu
       subst hr hu
       have := (LoAt_iff _ _ _).1 HLy.out
       rw [hvy] at this
       exact loRow_same this.2 S5
      | 1, hr, hu =>
       simp at hr hu
       subst hr hu
       exact loRow_same HRL.out S5
      | i + 2, hr, hu => exact loRow_same (HROWS.out (i + 1) r' u (by simpa using hr) (by simpa using hu)) S5
     ·rcases hat with h | h
      ·rw [h] at hk
       simp [Value.ownBlock] at hk
       rw [← hk]
       exact hn5 g (by omega) (by omega) (fun _ => HGV.out)
      ·rw [h] at hk
       have hkk : W4.heap.size + 1 = k := by simpa using hk
       intro hm
       have := HM.out _ W4 k HJ4.out (HMs.out W4 w5 k g5 hm)
       omega
     ·have := HM2.out
      have := heft_step y r st
      omega
    ·gi_wp2
     refine bodyPost_ret (results_none rfl _ _ _) rfl ?_
     exact ⟨⟨_, rfl⟩, .inr ⟨pre ++ [(y, len + 1)], ⟨_, HPre2.out⟩, hJx4⟩⟩
theorem levels_in (n : Nat) (x : Lo) (w : World) :
  CallsIn Fence.wide n Tryz.prog 98 #[x.val] w fun e w' => e = .returned (.func (.func 123) #[] #[.pointer (some ⟨w.heap.size, 0, none⟩)]) ∧
   w' = w.alloc (.cells #[.int .i64 x.op, .string (bs x.s), .int .i64 x.n, x.v, .int .i64 x.line] 24) := by
 unfold Lo.val
 refine callsIn_of_wp Tryz.func98 rfl trivial ?_ rfl
 simp only [Tryz.ntmps98, List.size_toArray, List.length_cons, List.length_nil, Nat.reduceAdd, Nat.reduceSub, Array.replicate_succ, Array.replicate_zero, List.push_toArray, List.append_toArray, List.nil_append, List.cons_append]
 gi_wp2
 go_ret
 exact ⟨rfl, rfl⟩
theorem levels_seq {L : Prop} (n : Nat) (hn : 1 ≤ n) (Bp n0 : Nat) (x : Lo) (mine : World → Nat → Prop) (w : World) (hsz : x.size ≤ 1000000) (hmn : ∀ W k, mine W k → n0 ≤ k)
  (hBp : w.heap[Bp]? = some (.cells #[.int .i64 x.op, .string (bs x.s), .int .i64 x.n, x.v, .int .i64 x.line] 24 (0, 0))) (hn0 : n0 ≤ w.heap.size) (hx : LoAt w (fun k => k < n0) x) :
  SeqRows Fence.wide n Tryz.prog 123 #[.pointer (some ⟨Bp, 0, none⟩)] (fun y : Lo × Nat => #[y.1.val, .int .i64 y.2]) mine (x.levels 1) w L := fun l J Jx W hW _ hJ hM hMs hY h0 =>
 levels1_in n hn l Bp n0 x mine J Jx W hsz hJ (fun pre A k h hk => by obtain ⟨o, h1, -⟩ := hM pre A k h hk; exact (Array.getElem?_eq_some_iff.1 h1).1) hMs hmn hY ((hW.block Bp (Array.getElem?_eq_some_iff.1 hBp).1).trans hBp) (Nat.le_trans hn0 hW.size) (LoAt.keep x hx (fun _ h => h) (fun _ hp => hW.cell (Nat.lt_of_lt_of_le hp hn0))) h0
end
end Go.Proofs.YtikbfoichhkeaaaGreat
