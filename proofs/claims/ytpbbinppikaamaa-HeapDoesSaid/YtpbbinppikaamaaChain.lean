/- heap.chain and its closure: the objects of a chain come to the loop body one by one. -/
import Derived.Test.YtpbbinppikaamaaOwn
import Derived.Test.YtpbbinppikaamaaRange
import Derived.Shelf.Abstract
import Derived.Shelf.RegionOpen
import Derived.TacticsInMore
import Derived.LoopNIn
import Derived.LoopIn
namespace Go.Proofs.Ytpbbinppikaamaa
open Go.RowKit Go.Proofs Go.Maps Go.Shelf

attribute [local go_sem] Oper.semAt_some

/-- A loop with a number that is nowhere in the program. -/
theorem loop_ghost {F : Fence} {n : Nat} {P : Program} {Q : Exit → Act → World → Prop} {c : Code} (inv : Nat → Act → World → Prop)
    (h : ∀ m a w, inv m a w → c.wpIn F n P (Exit.then (fun a' w' => ∃ k, k < m ∧ inv k a' w') Q) a w) (m : Nat) (a : Act) (w : World) (h0 : inv m a w) : (Code.loop c).wpIn F n P Q a w := by
  refine wpIn_loop_rounds (m + 1) ?_
  have key : ∀ (j m : Nat) (a : Act) (w : World), m < j → inv m a w → Code.roundsIn F n P c Q j a w := by
    intro j
    induction j with
    | zero => intro m a w hm; omega
    | succ j ih =>
      intro m a w hm hi
      rw [roundsIn_succ]
      refine wpIn_mono (h m a w hi) ?_
      intro e a' w' hq
      cases e with
      | normal =>
        obtain ⟨k, hk, hi'⟩ := hq
        exact ih k a' w' (by omega) hi'
      | _ => exact hq
  exact key (m + 1) m a w (by omega) h0

/-- The pointer to the object at a place. -/
def cur (sp : List Spot) (L : Hp) (q : Int) : Value := (at? L q).elim (.pointer none) (fun _ => (sp[q.toNat]?).elim undef ptr)
/-- What a round is handed. -/
def encS (sp : List Spot) (i : Nat) : Array Value := #[(sp[i]?).elim undef ptr]
/-- A heap's pointer, nil too. -/
def HeapV (w : World) (hp : Value) (F : Nat → Prop) (T : Nat) (L : Hp) (v : Value) (sp : List Spot) : Prop :=
  (hp = .pointer none ∧ L = [] ∧ sp = []) ∨ ∃ b, hp = .pointer (some ⟨b, 0, none⟩) ∧ HeapAt w F b T L v sp
section
variable {w w' : World} {hp v : Value} {F : Nat → Prop} {T : Nat} {L : Hp} {sp : List Spot}
theorem HeapV.keep (h : HeapV w hp F T L v sp) (hk : ∀ i, F i → i < w.heap.size → w'.heap[i]? = w.heap[i]?) (hs : w.heap.size ≤ w'.heap.size) : HeapV w' hp F T L v sp := by
  rcases h with h | ⟨b, h1, h2⟩
  · exact .inl h
  · exact .inr ⟨b, h1, h2.keep (fun i hi => hk i hi (h2.lt i hi)) hs⟩
theorem HeapV.obj (h : HeapV w hp F T L v sp) {i : Nat} {p : Spot} {o : Ob} (hp : sp[i]? = some p) (ho : L[i]? = some o) : ObAt w T p o := by
  rcases h with ⟨_, rfl, rfl⟩ | ⟨b, h1, h2⟩
  · simp at hp
  · exact h2.obj i p o hp ho
theorem HeapV.has (h : HeapV w hp F T L v sp) {i : Nat} {o : Ob} (ho : L[i]? = some o) : ∃ p, sp[i]? = some p ∧ ObAt w T p o := by
  rcases h with ⟨_, rfl, rfl⟩ | ⟨b, h1, h2⟩
  · simp at ho
  · exact h2.has ho
theorem HeapV.ptr (h : HeapV w hp F T L v sp) : hp = .pointer none ∨ ∃ b, hp = .pointer (some ⟨b, 0, none⟩) := by
  rcases h with ⟨h, _⟩ | ⟨b, h, _⟩
  · exact .inl h
  · exact .inr ⟨b, h⟩
end
theorem at_cur0 {F : Nat → Prop} {b T : Nat} {L : Hp} {v : Value} {sp : List Spot} (q : Int) (w : World) (h : HeapAt w F b T L v sp) (h2 : Wf L) (h3 : L.length ≤ 5000) :
    Calls Try.prog 33 #[.pointer (some ⟨b, 0, none⟩), .int .i64 q] w fun e w' => e = .returned (cur sp L q) ∧ w = w' := by
  unfold cur
  cases ho : at? L q with
  | none => exact at_out q w ⟨⟨v, sp, h⟩, h2, h3⟩ ho
  | some o =>
    obtain ⟨n, rfl, hn, hL⟩ := at?_some ho
    obtain ⟨p, hp, -⟩ := h.has hL
    simp only [Option.elim, Int.toNat_natCast, hp]
    exact at_in n p w h h2 h3 hp
theorem at_cur {hp : Value} {F : Nat → Prop} {T : Nat} {L : Hp} {v : Value} {sp : List Spot} (q : Int) (w : World) (h : HeapV w hp F T L v sp) (h2 : Wf L) (h3 : L.length ≤ 5000) :
    Calls Try.prog 33 #[hp, .int .i64 q] w fun e w' => e = .returned (cur sp L q) ∧ w = w' := by
  rcases h with ⟨rfl, rfl, rfl⟩ | ⟨b, rfl, h⟩
  · have e : cur [] [] q = .pointer none := by unfold cur at?; split <;> simp
    rw [e]
    exact at_nil q w
  · exact at_cur0 q w h h2 h3
theorem chain_step {L : Hp} (hw : Wf L) {q : Int} {o : Ob} (h : at? L q = some o) : chain L q = q.toNat :: chain L o.proto := by
  obtain ⟨n, rfl, hn, hL⟩ := at?_some h
  rw [chain_some hw hL]
  rfl

set_option maxRecDepth 100000 in
set_option maxHeartbeats 2000000 in
theorem chain1_in (n : Nat) (hn : 1 ≤ n) (l Bh Bp : Nat) {F : Nat → Prop} {hp : Value} {T : Nat} {L : Hp} {v : Value} {sp : List Spot} (p : Int) (mine : World → Nat → Prop) (J Jx : List Nat → World → Prop) (W : World) (hw : Wf L) (h3 : L.length ≤ 5000)
    (hJ : ∀ pre A B, J pre A → ItKeeps mine W.heap.size A B → J pre B)
    (hY : ∀ pre y W1, J pre W1 → pre ++ [y] <+: chain L p → YieldAt Fence.wide (n - 1) Try.prog l (encS sp y) W1 fun e W' =>
      (e = .returned (.bool true) ∧ J (pre ++ [y]) W' ∧ RdKeeps mine W1 W') ∨ (e = .returned (.bool false) ∧ Jx (pre ++ [y]) W'))
    (hB1 : Boxed W Bh 24 (hp)) (hB2 : Boxed W Bp 3 (.int .i64 p)) (hh : HeapV W hp F T L v sp) (hmF : ∀ A k, mine A k → ¬ F k ∧ k ≠ Bh ∧ k ≠ Bp) (h0 : J [] W) :
    CallsIn Fence.wide n Try.prog 40 #[.func (.yield l) #[] #[], .pointer (some ⟨Bh, 0, none⟩), .pointer (some ⟨Bp, 0, none⟩)] W fun e W' => (∃ v, e = .returned v) ∧ (J (chain L p) W' ∨ ∃ pre, pre <+: chain L p ∧ Jx pre W') := by
  have c1 := hB1.cell
  have c2 := hB2.cell
  have HA := Lib.hid (callsIn_wide.2 (at_cur p W hh hw h3) : CallsIn Fence.wide (n - 1) _ _ _ _ _)
  have HS := Lib.hid (And.intro hh (And.intro hB1 (And.intro hB2 h0)))
  have HJ := Lib.hid hJ
  have HY := Lib.hid hY
  have HM := Lib.hid hmF
  clear hJ hY hmF hh hB1 hB2 h0
  refine callsIn_of_wp Try.func40 rfl trivial ?_ rfl
  simp only [Try.ntmps40, List.size_toArray, List.length_cons, List.length_nil, Nat.reduceAdd, Nat.reduceSub, Array.replicate_succ, Array.replicate_zero, List.push_toArray, List.append_toArray, List.nil_append, List.cons_append]
  gi_wp2_with (refine ⟨trivial, ?_⟩; gi_at_call 33; refine (HA.out).mono ?_; rintro e w' ⟨rfl, rfl⟩)
  have HSt := Lib.hid (⟨p, [], rfl, Nat.le_refl _, by simp, HS.out.2.2.2, HS.out.1, HS.out.2.1, Nat.le_refl _⟩ : ∃ (q : Int) (pre : List Nat), cur sp L p = cur sp L q ∧ (q + 1).toNat ≤ (p + 1).toNat ∧ pre ++ chain L q = chain L p ∧ J pre W ∧ HeapV W hp F T L v sp ∧ Boxed W Bh 24 (hp) ∧ W.heap.size ≤ W.heap.size)
  clear HS c1 c2 HA
  refine loop_ghost (fun m a' wr => ∃ (c u3 u5 u6 u7 u8 u9 u10 u11 u12 u13 u14 u15 u16 u17 u18 u19 u20 : Value), (∃ (q : Int) (pre : List Nat), c = cur sp L q ∧ (q + 1).toNat ≤ m ∧ pre ++ chain L q = chain L p ∧ J pre wr ∧ HeapV wr hp F T L v sp ∧ Boxed wr Bh 24 (hp) ∧ W.heap.size ≤ wr.heap.size) ∧
    a' = { tmps := (.func (.yield l) #[] #[] :: .pointer (some ⟨Bh, 0, none⟩) :: .pointer (some ⟨Bp, 0, none⟩) :: u3 :: c :: u5 :: u6 :: u7 :: u8 :: u9 :: u10 :: u11 :: u12 :: u13 :: u14 :: u15 :: u16 :: u17 :: u18 :: u19 :: u20 :: []).toArray, defers := [] }) ?_ (p + 1).toNat _ _ (by
      (repeat' apply Exists.intro); exact ⟨HSt.out, rfl⟩)
  clear HSt
  rintro m a' wr ⟨c, u3, u5, u6, u7, u8, u9, u10, u11, u12, u13, u14, u15, u16, u17, u18, u19, u20, ⟨q, pre, rfl, hm, hpre, hJp, hh, hB1, hsz⟩, rfl⟩
  have c1 := hB1.cell
  cases ho : at? L q with
  | none =>
    have hp' : pre = chain L p := by rw [← hpre, chain_none ho, List.append_nil]
    have HP := Lib.hid (show J (chain L p) wr by rw [← hp']; exact hJp)
    have ec : cur sp L q = .pointer none := by simp [cur, ho]
    rw [ec]
    clear hp' hJp hh hB1 hpre ho ec
    gi_wp2
    go_end0
    exact ⟨⟨_, rfl⟩, .inl HP.out⟩
  | some o =>
    obtain ⟨i, rfl, hi, hL⟩ := at?_some ho
    obtain ⟨s, hs, hob⟩ := hh.has hL
    have ec : cur sp L i = .pointer (some ⟨s.b, 0, none⟩) := by simp [cur, ho, hs, ptr]
    have hst := chain_step hw ho
    simp only [Int.toNat_natCast] at hst
    have hlt := hw i o hL
    obtain ⟨fn, tmps, assign, rbody, hy, hR⟩ := HY.out pre i wr hJp ⟨chain L o.proto, by rw [← hpre, hst]; simp⟩
    have hy' : (Instr.yield l #[.pointer (some ⟨s.b, 0, none⟩)]).run Try.prog wr = .ok (.round l fn tmps assign rbody) wr := by
      unfold encS at hy
      rw [hs] at hy
      exact hy
    have HR := Lib.hid hR
    have HP := Lib.hid (show (pre ++ [i]) ++ chain L o.proto = chain L p by rw [← hpre, hst]; simp)
    have HH := Lib.hid (And.intro hh (And.intro hB1 (And.intro hob (And.intro hL hs))))
    rw [ec]
    clear hJp hh hB1 hpre ho ec hy hR hst hob hs hL
    gi_wp2
    refine HR.out.mono ?_
    rintro e W4 (⟨rfl, hJ4, hk4⟩ | ⟨rfl, hJx4⟩)
    · have hF4 : ∀ k, F k → k < wr.heap.size → W4.heap[k]? = wr.heap[k]? := fun k hk hl => hk4.keep k hl (fun hm => (HM.out _ _ hm).1 hk)
      have hh4 := HH.out.1.keep hF4 hk4.size
      have hB4 : Boxed W4 Bh 24 (hp) := (hk4.keep Bh HH.out.2.1.lt (fun hm => (HM.out _ _ hm).2.1 rfl)).trans HH.out.2.1
      have hob4 := hh4.obj HH.out.2.2.2.2 HH.out.2.2.2.1
      have d1 := hB4.cell
      have e1 := hob4.cell 1 (.int .i64 o.proto) rfl
      have hs4 := hk4.size
      have HA4 := Lib.hid (fun (k : Nat) => (callsIn_wide.2 (at_cur o.proto (W4.drewN k) (hh4.keep (w' := W4.drewN k) (fun _ _ _ => rfl) (Nat.le_refl _)) hw h3) : CallsIn Fence.wide (n - 1) _ _ _ _ _))
      have HB := Lib.hid (And.intro hh4 (And.intro hB4 (And.intro hJ4 hs4)))
      clear hF4 hh4 hB4 hob4 hJ4 hk4
      gi_wp2
      gi_region_with (refine ⟨trivial, ?_⟩; gi_at_call 33; refine (HA4.out 1).mono ?_; rintro e w' ⟨rfl, rfl⟩)
      all_goals
        refine ⟨(o.proto + 1).toNat, ?_, ?_⟩
        · omega
        · (repeat' apply Exists.intro)
          exact ⟨⟨o.proto, pre ++ [i], rfl, Nat.le_refl _, HP.out, HJ.out _ _ _ HB.out.2.2.1 (.of_below (below_drewN (Below.refl _ W4) 1)), HB.out.1.keep (fun _ _ _ => rfl) (Nat.le_refl _), HB.out.2.1, Nat.le_trans hsz hs4⟩, rfl⟩
    · gi_wp2
      refine bodyPost_ret (results_none rfl _ _ _) rfl ?_
      exact ⟨⟨_, rfl⟩, .inr ⟨pre ++ [i], ⟨_, HP.out⟩, hJx4⟩⟩
/-- What heap.chain hands back: it hands over the chain's objects in turn, or a part of them where a round has said 'no more'. -/
theorem chain_rows (n : Nat) (hn : 1 ≤ n) {Bh Bp : Nat} {F : Nat → Prop} {hp : Value} {T : Nat} {L : Hp} {v : Value} {sp : List Spot} (p : Int) (mine : World → Nat → Prop) (w : World) (hw : Wf L) (h3 : L.length ≤ 5000)
    (hB1 : Boxed w Bh 24 (hp)) (hB2 : Boxed w Bp 3 (.int .i64 p)) (hh : HeapV w hp F T L v sp) (hmF : ∀ A k, mine A k → ¬ F k ∧ k ≠ Bh ∧ k ≠ Bp) :
    SeqRows Fence.wide n Try.prog 40 #[.pointer (some ⟨Bh, 0, none⟩), .pointer (some ⟨Bp, 0, none⟩)] (encS sp) mine (chain L p) w := fun l J Jx W hW hJ _ _ hY h0 =>
  chain1_in n hn l Bh Bp p mine J Jx W hw h3 hJ hY ((hW.block Bh hB1.lt).trans hB1) ((hW.block Bp hB2.lt).trans hB2) (hh.keep (fun i _ hl => hW.block i hl) hW.size) hmF h0
set_option maxHeartbeats 400000 in
theorem chain_in (n : Nat) (v : Value) (p : Int) (hv : v = .pointer none ∨ ∃ b, v = .pointer (some ⟨b, 0, none⟩)) (w : World) :
    CallsIn Fence.wide n Try.prog 35 #[v, .int .i64 p] w fun e w' => e = .returned (.func (.func 40) #[] #[.pointer (some ⟨w.heap.size, 0, none⟩), .pointer (some ⟨w.heap.size + 1, 0, none⟩)]) ∧
      w' = (w.alloc (.cells #[v] 24)).alloc (.cells #[.int .i64 p] 3) := by
  rcases hv with rfl | ⟨b, rfl⟩
  all_goals
    refine callsIn_of_wp Try.func35 rfl trivial ?_ rfl
    simp only [Try.ntmps35, List.size_toArray, List.length_cons, List.length_nil, Nat.reduceAdd, Nat.reduceSub, Array.replicate_succ, Array.replicate_zero, List.push_toArray, List.append_toArray, List.nil_append, List.cons_append]
    gi_wp2
    go_ret
    exact ⟨rfl, rfl⟩
end Go.Proofs.Ytpbbinppikaamaa
