/- scope.within: the place of the parts. scope.preorder: the parts come to yield one by one, each with its place. -/
import Derived.OwnWalkIn
import Derived.Carry
import Derived.Shelf.Abstract
import Derived.Shelf.RegionOpen
import Derived.Sort.CutIn
import Derived.LoopNIn
import Derived.TacticsInMore
import Derived.LoopIn
import Derived.StillTailTactics
import Derived.Test.YtikbfoichhkeaaaGreatVm08
import Derived.Test.YtikbfoichhkeaaaGreatVm10
set_option linter.unusedSimpArgs false
set_option linter.unusedVariables false
set_option maxRecDepth 100000
set_option maxHeartbeats 40000000
namespace Go.Proofs.YtikbfoichhkeaaaGreat
section
open Go.RowKit Go.Proofs Go.Shelf
def placeV (f : Int) (loop : Bool) : Value := .agg #[.int .i64 f, .bool loop]
def inFun (op k f : Int) : Int := if (op == 41) || (op == 10) then k else f
def inLoop (op : Int) (loop : Bool) : Bool := if (op == 41) || (op == 10) then false else loop || (op == 34) || (op == 35)
theorem results_place (fn : Func) (s : Nat) (tmps : Array Value) {b : Nat} {W : World} {v0 v1 : Value} (hfn : fn.results = #[.cell s 122]) (hs : tmps.getD s undef = .pointer (some ⟨b, 0, none⟩)) (hc : W.heap[b]? = some (.cells #[v0, v1] 122 (0, 0))) :
  (results fn tmps).run Tryz.prog W = .ok (.agg #[v0, v1]) W := by
 have c0 := cell_of_row _ _ 0 _ _ _ hc
 have c1 := cell_of_row _ _ 1 _ _ _ hc
 simp only [List.getElem?_toArray, List.getElem?_cons_zero, List.getElem?_cons_succ] at c0 c1
 have hs' : tmps[s]?.getD undef = .pointer (some ⟨b, 0, none⟩) := by rw [← Array.getD_eq_getD_getElem?]; exact hs
 simp [results, hfn, hs', go_sem, c0, c1]
theorem place_fin {w W : World} {u0 u1 v0 v1 : Value} {b : Nat} (hb : w.heap.size ≤ b) (hw : Below w.heap.size w W) (h : W.heap[b]? = some (.cells #[u0, u1] 122 (0, 0))) :
  ((W.setCell ⟨b, 0, none⟩ v0).setCell ⟨b, 1, none⟩ v1).heap[b]? = some (.cells #[v0, v1] 122 (0, 0)) ∧ Below w.heap.size w ((W.setCell ⟨b, 0, none⟩ v0).setCell ⟨b, 1, none⟩ v1) := by
 refine ⟨blk_set (blk_set h 0 v0) 1 v1, hw.trans ?_⟩
 have h1 := Only.setCell (F := fun k => k = b) W rfl 0 v0
 have h2 := Only.setCell (F := fun k => k = b) (W.setCell ⟨b, 0, none⟩ v0) rfl 1 v1
 exact (h1.trans' h2).to_below hw.size (fun i hi _ => by omega)
theorem within_any (f : Int) (loop : Bool) (b o : Nat) (op k : Int) (w : World) (hb : b < w.heap.size) (h0 : w.cell? ⟨b, o, none⟩ = some (.int .i64 op)) (h2 : w.cell? ⟨b, o + 2, none⟩ = some (.int .i64 k)) :
  Calls Tryz.prog 126 #[placeV f loop, .pointer (some ⟨b, o, none⟩)] w fun e w' => e = .returned (placeV (inFun op k f) (inLoop op loop)) ∧ Below w.heap.size w w' := by
 unfold placeV
 go_enter Tryz.func126, Tryz.ntmps126
 go_upto_region 1 with fail
 have hb0 := (below_alloc9 w (.cells #[.int .i64 f, .bool loop] 122)).alloc (by simp) (.cells #[.int .i64 0, .bool false] 122)
 have bA := ((below_alloc9 (w.alloc (.cells #[.int .i64 f, .bool loop] 122)) (.cells #[.int .i64 0, .bool false] 122)).block w.heap.size (by simp)).trans (heap_alloc_new w _)
 have bB := heap_alloc_new (w.alloc (.cells #[.int .i64 f, .bool loop] 122)) (.cells #[.int .i64 0, .bool false] 122)
 simp only [World.size_alloc] at bB
 obtain ⟨W, eW⟩ : ∃ W, (w.alloc (.cells #[.int .i64 f, .bool loop] 122)).alloc (.cells #[.int .i64 0, .bool false] 122) = W := ⟨_, rfl⟩
 rw [eW] at bA bB hb0 ⊢
 have n0 := ((bcell hb0).1 b o hb).trans h0
 have n2 := ((bcell hb0).1 b (o + 2) hb).trans h2
 have a0 := cell_of_row W _ 0 _ _ _ bA
 have a1 := cell_of_row W _ 1 _ _ _ bA
 have b0 := cell_of_row W _ 0 _ _ _ bB
 have b1 := cell_of_row W _ 1 _ _ _ bB
 have fa0 := frozen_of_row W _ 0 _ _ bA
 have fa1 := frozen_of_row W _ 1 _ _ bA
 have fb0 := frozen_of_row W _ 0 _ _ bB
 have fb1 := frozen_of_row W _ 1 _ _ bB
 simp at a0 a1 b0 b1
 have HB := Lib.hid (And.intro bA (And.intro bB hb0))
 have bA1 := (Only.setCell (F := fun q => q = w.heap.size) W rfl 1 (.bool true))
 have HC := Lib.hid (And.intro ((bA1.block (w.heap.size + 1) (heap_lt bB) (by omega)).trans bB) (hb0.trans (bA1.to_below hb0.size (fun i hi _ => by omega))))
 clear bA bB hb0 eW h0 h2 bA1
 cases e41 : (op == 41)
 case true =>
  go_wp2
  refine bodyPost_ret (results_place _ _ _ rfl rfl (place_fin (v0 := .int .i64 k) (v1 := .bool false) (Nat.le_succ _) HB.out.2.2 HB.out.2.1).1) rfl ⟨?_, (place_fin (v0 := .int .i64 k) (v1 := .bool false) (Nat.le_succ _) HB.out.2.2 HB.out.2.1).2⟩
  unfold inFun inLoop
  rw [e41]
  cases loop <;> rfl
 case false =>
  cases e10 : (op == 10)
  case true =>
   go_wp2
   refine bodyPost_ret (results_place _ _ _ rfl rfl (place_fin (v0 := .int .i64 k) (v1 := .bool false) (Nat.le_succ _) HB.out.2.2 HB.out.2.1).1) rfl ⟨?_, (place_fin (v0 := .int .i64 k) (v1 := .bool false) (Nat.le_succ _) HB.out.2.2 HB.out.2.1).2⟩
   unfold inFun inLoop
   rw [e41, e10]
   cases loop <;> rfl
  case false =>
   cases e34 : (op == 34)
   case true =>
    go_wp2
    refine bodyPost_ret (results_place _ _ _ rfl rfl (place_fin (v0 := .int .i64 f) (v1 := .bool true) (Nat.le_succ _) HC.out.2 HC.out.1).1) rfl ⟨?_, (place_fin (v0 := .int .i64 f) (v1 := .bool true) (Nat.le_succ _) HC.out.2 HC.out.1).2⟩
    unfold inFun inLoop
    rw [e41, e10, e34]
    cases loop <;> rfl
   case false =>
    cases e35 : (op == 35)
    case true =>
     go_wp2
     refine bodyPost_ret (results_place _ _ _ rfl rfl (place_fin (v0 := .int .i64 f) (v1 := .bool true) (Nat.le_succ _) HC.out.2 HC.out.1).1) rfl ⟨?_, (place_fin (v0 := .int .i64 f) (v1 := .bool true) (Nat.le_succ _) HC.out.2 HC.out.1).2⟩
     unfold inFun inLoop
     rw [e41, e10, e34, e35]
     cases loop <;> rfl
    case false =>
     go_wp2
     refine bodyPost_ret (results_place _ _ _ rfl rfl (place_fin (v0 := .int .i64 f) (v1 := .bool loop) (Nat.le_succ _) HB.out.2.2 HB.out.2.1).1) rfl ⟨?_, (place_fin (v0 := .int .i64 f) (v1 := .bool loop) (Nat.le_succ _) HB.out.2.2 HB.out.2.1).2⟩
     unfold inFun inLoop
     rw [e41, e10, e34, e35]
     cases loop <;> rfl
end
section
open Go.RowKit Go.Proofs
theorem lo_ind {P : Lo → Prop} (h : ∀ x, (∀ y, y.size < x.size → P y) → P x) (x : Lo) : P x := by
 have key : ∀ n (x : Lo), x.size ≤ n → P x := by
  intro n
  induction n with
  | zero => intro x hx; have := lo_size_eq x; omega
  | succ n ih => intro x hx; exact h x fun y hy => ih y (by omega)
 exact key _ x (Nat.le_refl _)
theorem loSizes_mem : ∀ {l : List Lo} {x : Lo}, x ∈ l → x.size ≤ loSizes l
 | a :: r, x, h => by
  rw [loSizes_cons]
  rcases List.mem_cons.1 h with rfl | h
  ·omega
  ·have := loSizes_mem h
   omega
theorem evAL_drop : ∀ {l : List Lo} {i : Nat} {y : Lo} (b o : Nat) (a : Int) (loop : Bool) (k : Nat), l[i]? = some y →
  ∃ k', evAL (l.drop i) b (o + i * 5) a loop k = evA y b (o + i * 5) a loop k ++ evAL (l.drop (i + 1)) b (o + (i + 1) * 5) a loop k' := by
 intro l i y b o a loop k h
 obtain ⟨hk, rfl⟩ := List.getElem?_eq_some_iff.1 h
 rw [List.drop_eq_getElem_cons hk, evAL_cons]
 exact ⟨_, by rw [show o + i * 5 + 5 = o + (i + 1) * 5 by omega]⟩
theorem adL_get : ∀ (l : List Lo) (b o i : Nat) (y : Lo), l[i]? = some y → ∀ p ∈ adA y b (o + i * 5), p ∈ adL l b o
 | a :: r, b, o, 0, y, hy, p, hp => by
  simp at hy
  subst hy
  rw [adL, List.mem_append]
  exact .inl (by simpa using hp)
 | a :: r, b, o, i + 1, y, hy, p, hp => by
  rw [adL, List.mem_append]
  exact .inr (adL_get r b (o + 5) i y (by simpa using hy) p (by rw [show o + 5 + i * 5 = o + (i + 1) * 5 by omega]; exact hp))
theorem adL_get0 {l : List Lo} {b i : Nat} {y : Lo} (h : l[i]? = some y) : ∀ p ∈ adA y b (i * 5), p ∈ adL l b 0 := by
 intro p hp
 exact adL_get l b 0 i y h p (by rw [Nat.zero_add]; exact hp)
theorem StatL_get0 {W : World} {l : List Lo} {b i : Nat} {x : Lo} (h : StatL W l b 0) (hx : l[i]? = some x) : Stat W x b (i * 5) := by
 have := StatL_get l b 0 i x h hx
 rwa [Nat.zero_add] at this
theorem cell_lt {W : World} {b o : Nat} {v : Value} (h : W.cell? ⟨b, o, none⟩ = some v) : b < W.heap.size := by
 refine Nat.lt_of_not_le fun hn => ?_
 rw [World.cell?, Array.getElem?_eq_none hn] at h
 cases h
theorem it_box {mine : World → Nat → Prop} {base N : Nat} {A B : World} (h : Only (fun i => i = N) A B) (hb : base ≤ N) (hm : ¬ mine A N) : ItKeeps mine base A B :=
 ⟨h.os, h.tape, h.output, h.size, fun k hk e => h.block k hk fun e' => by
  subst e'
  rcases e with e | e
  ·omega
  ·exact hm e⟩
theorem rd_box {mine : World → Nat → Prop} {N : Nat} {W A B : World} (h : RdKeeps mine W A) (g : Only (fun i => i = N) A B) (hN : W.heap.size ≤ N) (hd : ∀ k, mine B k → mine A k) : RdKeeps mine W B :=
 ⟨g.os.trans h.os, g.tape.trans h.tape, g.output.trans h.output, Nat.le_trans h.size g.size, fun k hk hm => (g.block k (Nat.lt_of_lt_of_le hk h.size) (fun e => by omega)).trans (h.keep k hk hm), fun k hk => h.new k (hd k hk)⟩
theorem set2_only (w : World) (N : Nat) (u v : Value) : Only (fun i => i = N) w ((w.setCell ⟨N, 0, none⟩ u).setCell ⟨N, 1, none⟩ v) :=
 (Only.setCell (F := fun i => i = N) w rfl 0 u).trans' (Only.setCell (F := fun i => i = N) _ rfl 1 v)
theorem preorder_any (lf base : Nat) (xs : List Ev6) (mine : World → Nat → Prop) (J Jx : List Ev6 → World → Prop)
  (hJ : ∀ pre A B, J pre A → ItKeeps mine base A B → J pre B) (hM : ∀ pre A k, J pre A → mine A k → k < A.heap.size) (hMs : ∀ A B k, ItKeeps mine base A B → mine B k → mine A k)
  (hY : ∀ pre x W1, J pre W1 → pre ++ [x] <+: xs → YieldAt Fence.wide 0 Tryz.prog lf #[.pointer (some ⟨x.b, x.o, none⟩), placeV x.fn x.loop] W1 fun e W' => (e = .returned (.bool true) ∧ J (pre ++ [x]) W' ∧ RdKeeps mine W1 W') ∨ (e = .returned (.bool false) ∧ Jx (pre ++ [x]) W'))
  (hN : ∀ pre A, J pre A → ∀ e ∈ pre, isFun e.x.op = true → A.cell? ⟨e.b, e.o + 2, none⟩ = some (.int .i64 e.no)) (x : Lo) :
  ∀ (b o : Nat) (a : Int) (loop : Bool) (k : Nat) (pre rest : List Ev6) (W : World), base ≤ W.heap.size → (∀ pre A, J pre A → Stat A x b o ∧ ∀ p ∈ adA x b o, ∃ n, A.cell? ⟨p.1, p.2 + 2, none⟩ = some (.int .i64 n)) → J pre W → pre ++ (evA x b o a loop k ++ rest) = xs →
   Calls Tryz.prog 101 #[.pointer (some ⟨b, o, none⟩), placeV a loop, .func (.yield lf) #[] #[]] W fun e W' => (e = .returned (.bool true) ∧ J (pre ++ evA x b o a loop k) W' ∧ RdKeeps mine W W') ∨ (e = .returned (.bool false) ∧ ∃ pre', pre' <+: xs ∧ Jx pre' W') := by
 refine lo_ind (P := fun x => ∀ (b o : Nat) (a : Int) (loop : Bool) (k : Nat) (pre rest : List Ev6) (W : World), base ≤ W.heap.size → (∀ pre A, J pre A → Stat A x b o ∧ ∀ p ∈ adA x b o, ∃ n, A.cell? ⟨p.1, p.2 + 2, none⟩ = some (.int .i64 n)) → J pre W → pre ++ (evA x b o a loop k ++ rest) = xs →
   Calls Tryz.prog 101 #[.pointer (some ⟨b, o, none⟩), placeV a loop, .func (.yield lf) #[] #[]] W fun e W' => (e = .returned (.bool true) ∧ J (pre ++ evA x b o a loop k) W' ∧ RdKeeps mine W W') ∨ (e = .returned (.bool false) ∧ ∃ pre', pre' <+: xs ∧ Jx pre' W')) ?_ x
 clear x
 intro x ih b o a loop k pre rest W hbase hSt hJ0 hxs
 obtain ⟨a2, loop2, k2, hev, hpl⟩ : ∃ a2 loop2 k2, evA x b o a loop k = ⟨b, o, x, a, loop, k⟩ :: evAL x.l (rowB x.v) 0 a2 loop2 k2 ∧ ∀ n : Int, (isFun x.op = true → n = k) → placeV (inFun x.op n a) (inLoop x.op loop) = placeV a2 loop2 := by
  rw [evA_eq]
  by_cases hf : isFun x.op = true
  ·rw [if_pos hf]
   refine ⟨_, _, _, rfl, fun n hn => ?_⟩
   rw [hn hf, inFun, inLoop]
   unfold isFun at hf
   rw [if_pos hf, if_pos hf]
  ·rw [if_neg hf]
   refine ⟨_, _, _, rfl, fun n hn => ?_⟩
   rw [inFun, inLoop]
   unfold isFun at hf
   rw [if_neg hf, if_neg hf, Bool.or_assoc]
 rw [hev] at hxs ⊢
 clear hev
 have hal := below_alloc9 W (.cells #[.int .i64 a, .bool loop] 122)
 have hbx := heap_alloc_new W (.cells #[.int .i64 a, .bool loop] 122)
 obtain ⟨W1, eW⟩ : ∃ W1, W.alloc (.cells #[.int .i64 a, .bool loop] 122) = W1 := ⟨_, rfl⟩
 rw [eW] at hal hbx
 have hk1 : ItKeeps mine base W W1 := .of_below hal
 have hJ1 := hJ _ _ _ hJ0 hk1
 have hN1 : ¬ mine W1 W.heap.size := fun hm => by
  have := hM _ _ _ hJ0 (hMs _ _ _ hk1 hm)
  omega
 have hR1 : RdKeeps mine W W1 := .of_below hal (fun k hk => hMs _ _ _ hk1 hk)
 obtain ⟨fn, tmps, assign, rbody, hy, hRR⟩ := yieldAt_any (m' := 4) (hY pre ⟨b, o, x, a, loop, k⟩ W1 hJ1 ⟨_, by rw [List.append_assoc, List.singleton_append]; exact hxs⟩)
 have HRR := Lib.hid hRR
 have H1 := Lib.hid (And.intro hbx (And.intro hJ1 (And.intro hN1 hR1)))
 have HI := Lib.hid ih
 have HX := Lib.hid hxs
 have HY := Lib.hid hY
 have HJ := Lib.hid hJ
 have HM := Lib.hid hM
 have HMs := Lib.hid hMs
 have HSt := Lib.hid hSt
 have HN := Lib.hid hN
 have HP := Lib.hid hpl
 have HW := Lib.hid (And.intro eW hbase)
 clear ih hRR hxs hY hJ hM hMs hSt hN hJ0 hpl hal hbx hk1 hJ1 hN1 hR1 eW hbase
 refine (callsIn_wide (n := 5)).1 ?_
 unfold placeV
 refine callsIn_of_wp Tryz.func101 rfl trivial ?_ rfl
 simp only [Tryz.ntmps101, List.size_toArray, List.length_cons, List.length_nil, Nat.reduceAdd, Nat.reduceSub, Array.replicate_succ, Array.replicate_zero, List.push_toArray, List.append_toArray, List.nil_append, List.cons_append]
 gi_upto_region 1 with fail
 rw [HW.out.1]
 have x0 := cell_of_row W1 _ 0 _ _ _ H1.out.1
 have x1 := cell_of_row W1 _ 1 _ _ _ H1.out.1
 simp at x0 x1
 obtain ⟨N, eN⟩ : ∃ N, W.heap.size = N := ⟨_, rfl⟩
 rw [eN] at x0 x1 ⊢
 unfold placeV at hy
 gi_wp2
 refine HRR.out.mono ?_
 rintro e W7 (⟨rfl, hJ7, hk7⟩ | ⟨rfl, hJx7⟩)
 rotate_left 1
 ·have HL := Lib.hid hJx7
  clear hJx7
  gi_wp2
  go_ret
  exact .inr ⟨rfl, _, ⟨_, by rw [List.append_assoc, List.singleton_append]; exact HX.out⟩, HL.out⟩
 have hb1 : W1.heap[N]? = some (.cells #[.int .i64 a, .bool loop] 122 (0, 0)) := by rw [← eN]; exact H1.out.1
 have hN1 : ¬ mine W1 N := by rw [← eN]; exact H1.out.2.2.1
 have hbx7 := (hk7.keep N (heap_lt hb1) hN1).trans hb1
 have hN7 : ¬ mine W7 N := fun hm => (hk7.new N hm).elim hN1 (fun h => by have := heap_lt hb1; omega)
 have y0 := cell_of_row W7 N 0 _ _ _ hbx7
 have y1 := cell_of_row W7 N 1 _ _ _ hbx7
 simp at y0 y1
 have hst7 := HSt.out _ _ hJ7
 obtain ⟨n7, hn7⟩ := hst7.2 (b, o) (by rw [adA_eq]; simp)
 simp only at hn7
 have hc7 := ((Stat_eq _ _ _ _).1 hst7.1).2.1.1
 have hbl := cell_lt hc7
 have hpl := HP.out n7 (fun hf => by
  have h9 := HN.out _ _ hJ7 ⟨b, o, x, a, loop, k⟩ (by simp) hf
  simp only at h9
  rw [hn7] at h9
  simpa using h9)
 have hWi := within_any a loop b o x.op n7 W7 hbl hc7 hn7
 rw [hpl] at hWi
 unfold placeV at hWi
 have HWi := Lib.hid hWi
 have HE := Lib.hid (And.intro hbx7 (And.intro hJ7 (And.intro hN7 (H1.out.2.2.2.then_ hk7))))
 clear hb1 hN1 hbx7 hN7 hst7 hn7 hc7 hbl hpl hJ7 hk7 hWi
 gi_wp2_with fail
 refine ⟨trivial, ?_⟩
 gi_at_call 126
 refine (callsIn_wide.2 HWi.out).mono ?_
 rintro e w8 ⟨rfl, hb8⟩
 have hbx8 := (hb8.block N (heap_lt HE.out.1)).trans HE.out.1
 have hJ8 := HJ.out _ _ _ HE.out.2.1 (.of_below hb8)
 have hN8 : ¬ mine w8 N := fun hm => HE.out.2.2.1 (HMs.out _ _ _ (.of_below hb8) hm)
 have hR8 := HE.out.2.2.2.then_ (RdKeeps.of_below hb8 fun k hk => HMs.out _ _ _ (.of_below hb8) hk)
 have z0 := cell_of_row w8 N 0 _ _ _ hbx8
 have z1 := cell_of_row w8 N 1 _ _ _ hbx8
 have fz0 := frozen_of_row w8 N 0 _ _ hbx8
 have fz1 := frozen_of_row w8 N 1 _ _ hbx8
 simp at z0 z1
 have ho9 := set2_only w8 N (.int .i64 a2) (.bool loop2)
 have hb9 : ((w8.setCell ⟨N, 0, none⟩ (.int .i64 a2)).setCell ⟨N, 1, none⟩ (.bool loop2)).heap[N]? = some (.cells #[.int .i64 a2, .bool loop2] 122 (0, 0)) := blk_set (blk_set hbx8 0 _) 1 _
 have hit := it_box (base := base) ho9 (by have := HW.out.2; omega) hN8
 have hJ9 := HJ.out _ _ _ hJ8 hit
 have hR9 := rd_box hR8 ho9 (Nat.le_of_eq eN) (fun k hk => HMs.out _ _ _ hit hk)
 have hN9 : ¬ mine ((w8.setCell ⟨N, 0, none⟩ (.int .i64 a2)).setCell ⟨N, 1, none⟩ (.bool loop2)) N := fun hm => hN8 (HMs.out _ _ _ hit hm)
 have hst := (Stat_eq _ _ _ _).1 (HSt.out _ _ hJ9).1
 obtain ⟨A, hv, hA⟩ : ∃ A, x.v = .slice A x.l.length x.l.length ∧ (0 < x.l.length → A = some ⟨rowB x.v, 0, none⟩) := by
  rcases hst.2.2.1 with ⟨e1, e2⟩ | ⟨g, e⟩
  ·exact ⟨none, by rw [e1]; exact e2, fun h => by rw [e1] at h; simp at h⟩
  ·exact ⟨_, e, fun _ => by rw [e]; rfl⟩
 have c3 := hst.2.1.2.2.1
 rw [hv] at c3
 have hlen : x.l.length ≤ 9223372036854775807 := hst.2.2.2.1
 have HE9 := Lib.hid (And.intro hJ9 (And.intro hR9 (And.intro hN9 hb9)))
 have HV := Lib.hid (And.intro hv hA)
 clear hbx8 hJ8 hN8 hR8 ho9 hb9 hit hJ9 hR9 hN9 hst hv hA hb8
 gi_wp2
 gi_loopw [21] (fun i wr => ∃ (j : Nat) (kk : Nat) (prel : List Ev6), j ≤ x.l.length ∧ i = .int .i64 j ∧ J prel wr ∧ prel ++ (evAL (x.l.drop j) (rowB x.v) (j * 5) a2 loop2 kk ++ rest) = xs ∧ pre ++ (⟨b, o, x, a, loop, k⟩ :: evAL x.l (rowB x.v) 0 a2 loop2 k2) = prel ++ evAL (x.l.drop j) (rowB x.v) (j * 5) a2 loop2 kk ∧ RdKeeps mine W wr ∧ wr.heap[N]? = some (.cells #[.int .i64 a2, .bool loop2] 122 (0, 0)) ∧ ¬ mine wr N) (fun i _ => x.l.length - (intOf i).toNat)
 case atStart => exact ⟨0, k2, pre ++ [⟨b, o, x, a, loop, k⟩], Nat.zero_le _, rfl, HE9.out.1, by rw [← HX.out, Nat.zero_mul]; simp, by rw [Nat.zero_mul]; simp, HE9.out.2.1, HE9.out.2.2.2, HE9.out.2.2.1⟩
 case round =>
  obtain ⟨j, kk, prel, hj, rfl, hJk, hxk, hpk, hRk, hbk, hnk⟩ := hrel
  have q0 := cell_of_row wr N 0 _ _ _ hbk
  have q1 := cell_of_row wr N 1 _ _ _ hbk
  simp at q0 q1
  by_cases hlt : j < x.l.length
  ·have g1 : (j : Int) < x.l.length := by omega
   have hst := (Stat_eq _ _ _ _).1 (HSt.out _ _ hJk).1
   have c3' := hst.2.1.2.2.1
   rw [HV.out.1, HV.out.2 (by omega)] at c3'
   clear hst
   obtain ⟨y, hy9⟩ : ∃ y, x.l[j]? = some y := ⟨_, List.getElem?_eq_getElem hlt⟩
   obtain ⟨kk', hdr⟩ := evAL_drop (rowB x.v) 0 a2 loop2 kk hy9
   simp only [Nat.zero_add] at hdr
   have hbd : Below wr.heap.size wr wr.drew := (Below.refl _ wr).drew
   have hkd : ItKeeps mine base wr wr.drew := .of_below hbd
   have hRd : RdKeeps mine wr wr.drew := .of_below hbd (fun k hk => HMs.out _ _ _ hkd hk)
   have hsz : y.size < x.size := by have := loSizes_mem (List.mem_of_getElem? hy9); have := lo_size_eq x; omega
   have HC := Lib.hid (HI.out y hsz (rowB x.v) (j * 5) a2 loop2 kk prel (evAL (x.l.drop (j + 1)) (rowB x.v) ((j + 1) * 5) a2 loop2 kk' ++ rest) wr.drew (by have := hRk.size; have := HW.out.2; show base ≤ wr.heap.size; omega)
    (fun pre A hA => ⟨StatL_get0 ((Stat_eq _ _ _ _).1 (HSt.out pre A hA).1).2.2.2.2 hy9, fun p hp => (HSt.out pre A hA).2 p (by rw [adA_eq]; exact List.mem_cons_of_mem _ (adL_get0 hy9 p hp))⟩)
    (HJ.out _ _ _ hJk hkd) (by rw [← hxk, hdr, List.append_assoc]))
   have HK := Lib.hid (And.intro (show prel ++ evA y (rowB x.v) (j * 5) a2 loop2 kk ++ (evAL (x.l.drop (j + 1)) (rowB x.v) ((j + 1) * 5) a2 loop2 kk' ++ rest) = xs by rw [← hxk, hdr]; simp) (And.intro (show pre ++ (⟨b, o, x, a, loop, k⟩ :: evAL x.l (rowB x.v) 0 a2 loop2 k2) = prel ++ evA y (rowB x.v) (j * 5) a2 loop2 kk ++ evAL (x.l.drop (j + 1)) (rowB x.v) ((j + 1) * 5) a2 loop2 kk' by rw [hpk, hdr]; simp) (And.intro (hRk.then_ hRd) (And.intro ((hbd.block N (heap_lt hbk)).trans hbk) (fun hm => hnk (HMs.out _ _ _ hkd hm))))))
   clear hbd hkd hRd hsz hdr hJk hxk hpk hRk hbk hnk hy9
   gi_wp2_with fail
   refine wpIn_wide.2 ?_
   go_still_tail 8, (by kernel_rfl)
   change wpList _ _ _ _ _ wr.drew
   go_wp2_with fail
   go_at_call 101
   refine HC.out.mono ?_
   rintro e w2 (⟨rfl, hJ2, hR2⟩ | ⟨rfl, pre', hpre', hJx'⟩)
   ·have HL := Lib.hid (And.intro hJ2 (And.intro (HK.out.2.2.1.then_ hR2) (And.intro ((hR2.keep N (heap_lt HK.out.2.2.2.1) HK.out.2.2.2.2).trans HK.out.2.2.2.1) (fun hm => (hR2.new N hm).elim HK.out.2.2.2.2 (fun h => by have := heap_lt HK.out.2.2.2.1; omega)))))
    clear hJ2 hR2
    go_wp2
    gi_wp2
    go_roundw
    case rel => exact ⟨j + 1, kk', _, by omega, by go_num, HL.out.1, HK.out.1, HK.out.2.1, HL.out.2.1, HL.out.2.2.1, HL.out.2.2.2⟩
    case measure => simp [intOf]; omega
   ·have HL := Lib.hid (And.intro hpre' hJx')
    clear hpre' hJx'
    go_wp2
    gi_wp2
    go_ret
    exact .inr ⟨rfl, _, HL.out.1, HL.out.2⟩
  ·have g1 : ¬ (j : Int) < x.l.length := by omega
   have HL := Lib.hid (And.intro (show J (pre ++ ⟨b, o, x, a, loop, k⟩ :: evAL x.l (rowB x.v) 0 a2 loop2 k2) wr by rw [hpk, List.drop_eq_nil_of_le (by omega), evAL_nil, List.append_nil]; exact hJk) hRk)
   clear hJk hxk hpk hRk hbk hnk
   gi_wp2
   go_ret
   exact .inl ⟨rfl, HL.out.1, HL.out.2⟩
end
end Go.Proofs.YtikbfoichhkeaaaGreat
