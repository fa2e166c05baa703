/- The two iterators: slices.Values of edges, and graph.facts. -/
import Derived.Test.YtfiockconbaniaaGrRange
import Derived.Test.YtfiockconbaniaaGrRefE
import Derived.Shelf.Abstract
import Derived.Shelf.RegionOpen
import Derived.TacticsInMore
import Derived.LoopNIn
import Derived.LoopIn
namespace Go.Proofs.Ytfiockconbaniaa
set_option linter.unusedSimpArgs false
set_option linter.unusedVariables false
open Go.RowKit Go.Proofs Go.Shelf

attribute [local go_sem] Oper.semAt_some
/-- A loop with a number that is nowhere in the program. -/
theorem loop_ghost {F : Fence} {n : Nat} {P : Program} {Q : Exit → Act → World → Prop} {c : Code} (inv : Nat → Act → World → Prop)
    (h : ∀ m a w, inv m a w → c.wpIn F n P (Exit.then (fun a' w' => ∃ k, k < m ∧ inv k a' w') Q) a w) (m : Nat) (a : Act) (w : World) (h0 : inv m a w) : (Code.loop c).wpIn F n P Q a w := by
  refine wpIn_loop_rounds (m + 1) ?_
  have key : ∀ (j m : Nat) (a : Act) (w : World), m < j → inv m a w → Code.roundsIn F n P c Q j a w := by
    intro j
    induction j with
    | zero => intro m a w hm; omega
    | succ j ih =>
      intro m a w hm hi
      rw [roundsIn_succ]
      refine wpIn_mono (h m a w hi) ?_
      intro e a' w' hq
      cases e with
      | normal =>
        obtain ⟨k, hk, hi'⟩ := hq
        exact ih k a' w' (by omega) hi'
      | _ => exact hq
  exact key (m + 1) m a w (by omega) h0
def edV (e : Ed) : Value := .agg #[.int .i64 e.fr, .int .i64 e.mark, .int .i64 e.to]
def ftV (f : Ft) : Value := .agg #[.int .i64 f.kind, .int .i64 f.a, .string f.s, .int .i64 f.b]
/-- The blocks of a slice value. -/
def blkS (A : Option Addr) (k : Nat) : Prop := ∃ a, A = some a ∧ a.block = k
theorem cell_block {w w' : World} {b : Nat} (h : w'.heap[b]? = w.heap[b]?) (p : Addr) (hp : p.block = b) : w'.cell? p = w.cell? p := by
  subst hp
  simp only [World.cell?, h]
theorem pre_take {α : Type} {xs : List α} {k : Nat} {x : α} (h : xs[k]? = some x) : xs.take k ++ [x] <+: xs := by
  rw [← take_at h]
  exact List.take_prefix _ _
set_option maxRecDepth 100000 in
set_option maxHeartbeats 4000000 in
theorem vals_seq (n : Nat) (hn : 1 ≤ n) (Bp len cap : Nat) (A : Option Addr) (l : List Ed) (w : World) (hl : Edges9 w (.slice A len cap) l) (hBp : w.heap[Bp]? = some (.cells #[.slice A len cap] 30 (0, 0))) (L : Prop) :
    SeqP Fence.wide n Try.prog 48 #[.pointer (some ⟨Bp, 0, none⟩)] (fun e => #[edV e]) (blkS A) l w L := by
  intro lf J Jx W hW hJL hJ hY h0
  obtain ⟨hnl, hnc, hcm, -⟩ := SlAt.get hl
  have hcx : cap ≤ 9223372036854775807 := hcm
  have c0 : W.cell? ⟨Bp, 0, none⟩ = some (.slice A len cap) := cell_of_row W Bp 0 _ _ _ ((hW.block Bp (heap_lt hBp)).trans hBp)
  have HL := Lib.hid hnl.symm
  have HR := Lib.hid (And.intro hl hW)
  have HJ := Lib.hid hJ
  have HY := Lib.hid hY
  have H0 := Lib.hid h0
  clear hl hW hJL hJ hY h0 hnl hcm hBp
  refine callsIn_of_wp Try.func48 rfl trivial ?_ rfl
  simp only [Try.ntmps48, List.size_toArray, List.length_cons, List.length_nil, Nat.reduceAdd, Nat.reduceSub, Array.replicate_succ, Array.replicate_zero, List.push_toArray, List.append_toArray, List.nil_append, List.cons_append]
  gi_wp2
  obtain ⟨N, hN⟩ : ∃ N, W.heap.size = N := ⟨_, rfl⟩
  rw [hN] at HJ
  obtain ⟨inv, hinv⟩ : ∃ inv : Nat → Act → World → Prop, inv = (fun m a' wr => ∃ (u2 u3 u4 u8 u9 u10 u11 u12 u13 u14 u15 : Value), (∃ (k : Nat), k ≤ len ∧ m = len - k ∧ J (l.take k) wr ∧ N ≤ wr.heap.size ∧ (∀ b, blkS A b → wr.heap[b]? = W.heap[b]?) ∧
    a' = { tmps := (.func (.yield lf) #[] #[] :: .pointer (some ⟨Bp, 0, none⟩) :: u2 :: u3 :: u4 :: .slice A len cap :: .int .i64 len :: .int .i64 k :: u8 :: u9 :: u10 :: u11 :: u12 :: u13 :: u14 :: u15 :: []).toArray, defers := [] })) := ⟨_, rfl⟩
  have HInv := Lib.hid hinv
  clear hinv
  refine loop_ghost inv ?_ len _ _ (by
      rw [HInv.out]
      (repeat' apply Exists.intro); exact ⟨Nat.zero_le _, by omega, by simpa using H0.out, by omega, fun _ _ => rfl, rfl⟩)
  intro m a' wr hI
  rw [HInv.out] at hI
  obtain ⟨u2, u3, u4, u8, u9, u10, u11, u12, u13, u14, u15, k, hk, rfl, hJp, hz, hbk, rfl⟩ := hI
  have HJp := Lib.hid hJp
  have HB := Lib.hid (And.intro hz hbk)
  clear hJp hz
  by_cases hlt : k < len
  · obtain ⟨g, off, x, rfl, hg, hx, -, d0, d1, d2⟩ := ed_get (HR.out.1.below EdP.keeps HR.out.2) k hlt
    have hq : ∀ o, wr.cell? ⟨g, o, none⟩ = W.cell? ⟨g, o, none⟩ := fun o => cell_block (hbk g ⟨_, rfl, rfl⟩) ⟨g, o, none⟩ rfl
    have e0 := (hq _).trans d0
    have e1 := (hq _).trans d1
    have e2 := (hq _).trans d2
    have g1 : (k : Int) < len := by omega
    have hgw : g < wr.heap.size := Nat.lt_of_lt_of_le hg (by rw [hN]; exact HB.out.1)
    have hB4 : Below wr.heap.size wr (wr.alloc (.cells #[.int .i64 x.fr, .int .i64 x.mark, .int .i64 x.to] 44)) := (Below.refl _ wr).alloc (Nat.le_refl _) _
    have HJ4 := Lib.hid (HJ.out _ _ _ HJp.out (.of_below hB4))
    have HX := Lib.hid hx
    obtain ⟨fn, tmps, assign, rbody, hy, hRR⟩ := HY.out (l.take k) x _ HJ4.out (pre_take hx)
    unfold edV at hy
    have HRR := Lib.hid hRR
    have HBb := Lib.hid (show ∀ b, blkS (some ⟨g, off, none⟩) b → (wr.alloc (.cells #[.int .i64 x.fr, .int .i64 x.mark, .int .i64 x.to] 44)).heap[b]? = W.heap[b]? ∧ b < (wr.alloc (.cells #[.int .i64 x.fr, .int .i64 x.mark, .int .i64 x.to] 44)).heap.size from fun b hb => by
      obtain ⟨a, ea, eb⟩ := hb
      cases ea
      simp only at eb
      subst eb
      exact ⟨(hB4.block g hgw).trans (hbk g ⟨_, rfl, rfl⟩), by simp; omega⟩)
    have HZ := Lib.hid (show N ≤ (wr.alloc (.cells #[.int .i64 x.fr, .int .i64 x.mark, .int .i64 x.to] 44)).heap.size by have := HB.out.1; simp; omega)
    clear hRR hx hbk hB4 d0 d1 d2 hq hg hgw
    gi_wp2
    refine HRR.out.mono ?_
    rintro e W7 (⟨rfl, hJ7, hk7⟩ | ⟨rfl, hJx7⟩)
    · have HE := Lib.hid (And.intro hJ7 (And.intro (Nat.le_trans HZ.out hk7.size) (fun b hb => (hk7.keep b (HBb.out b hb).2 (.inl hb)).trans (HBb.out b hb).1)))
      clear hJ7 hk7
      gi_wp2
      refine ⟨len - (k + 1), by omega, ?_⟩
      have hw : wrap64 ((k : Int) + 1) = ((k + 1 : Nat) : Int) := by unfold wrap64; omega
      first | rw [hw] | skip
      rw [HInv.out]
      have hk1 : k + 1 ≤ len := hlt
      (iterate 11 apply Exists.intro)
      refine ⟨k + 1, hk1, rfl, by rw [take_at HX.out]; exact HE.out.1, HE.out.2.1, HE.out.2.2, ?_⟩
      rfl
    · gi_wp2
      refine bodyPost_ret (results_none rfl _ _ _) rfl ?_
      exact ⟨⟨_, rfl⟩, .inr ⟨l.take k ++ [x], pre_take HX.out, hJx7⟩⟩
  · have g1 : ¬ (k : Int) < len := by omega
    have HE := Lib.hid (show J l wr by
      have h := HJp.out
      rwa [List.take_of_length_le (by have := HL.out; omega)] at h)
    gi_wp2
    go_end0
    exact ⟨⟨_, rfl⟩, .inl HE.out⟩
set_option maxHeartbeats 1000000 in
theorem vals_in (n : Nat) (A : Option Addr) (len cap : Nat) (w : World) : CallsIn Fence.wide n Try.prog 30 #[.slice A len cap] w fun e w' => e = .returned (.func (.func 48) #[] #[.pointer (some ⟨w.heap.size, 0, none⟩)]) ∧ w' = w.alloc (.cells #[.slice A len cap] 30) := by
  refine callsIn_of_wp Try.func30 rfl trivial ?_ rfl
  simp only [Try.ntmps30, List.size_toArray, List.length_cons, List.length_nil, Nat.reduceAdd, Nat.reduceSub, Array.replicate_succ, Array.replicate_zero, List.push_toArray, List.append_toArray, List.nil_append, List.cons_append]
  gi_wp2
  go_ret
  exact ⟨rfl, rfl⟩
/-- Those of a kind. -/
def kindL (kd : Int) (l : List Ft) : List Ft := l.filter fun f => f.kind == kd
theorem kindL_snoc (kd : Int) (l : List Ft) (x : Ft) : kindL kd (l ++ [x]) = if (x.kind == kd) = true then kindL kd l ++ [x] else kindL kd l := by
  unfold kindL
  rw [List.filter_append]
  by_cases h : (x.kind == kd) = true
  · rw [if_pos h]; simp only [List.filter_cons, h]; rfl
  · rw [if_neg h]; simp only [List.filter_cons, h]; simp
theorem kind_pre (kd : Int) {l : List Ft} {k : Nat} {x : Ft} (h : l[k]? = some x) (hk : x.kind = kd) : kindL kd (l.take k) ++ [x] <+: kindL kd l := by
  have h1 := pre_take h
  obtain ⟨t, ht⟩ := h1
  refine ⟨kindL kd t, ?_⟩
  have h2 := congrArg (kindL kd) ht
  rw [← h2]
  unfold kindL
  simp [List.filter_append, hk]
set_option maxRecDepth 100000 in
set_option maxHeartbeats 4000000 in
theorem facts_seq (n : Nat) (hn : 1 ≤ n) (Bp Bk len cap : Nat) (kd : Int) (A : Option Addr) (l : List Ft) (w : World) (hl : Facts9 w (.slice A len cap) l) (hBp : w.heap[Bp]? = some (.cells #[.slice A len cap] 26 (0, 0))) (hBk : w.heap[Bk]? = some (.cells #[.int .i64 kd] 3 (0, 0))) (L : Prop) :
    SeqP Fence.wide n Try.prog 58 #[.pointer (some ⟨Bp, 0, none⟩), .pointer (some ⟨Bk, 0, none⟩)] (fun e => #[ftV e]) (fun k => blkS A k ∨ k = Bk) (kindL kd l) w L := by
  intro lf J Jx W hW hJL hJ hY h0
  obtain ⟨hnl, hnc, hcm, -⟩ := SlAt.get hl
  have hcx : cap ≤ 9223372036854775807 := hcm
  have c0 : W.cell? ⟨Bp, 0, none⟩ = some (.slice A len cap) := cell_of_row W Bp 0 _ _ _ ((hW.block Bp (heap_lt hBp)).trans hBp)
  have x0 := (hW.block Bk (heap_lt hBk)).trans hBk
  have lk := heap_lt x0
  have HL := Lib.hid hnl.symm
  have HX0 := Lib.hid x0
  have HR := Lib.hid (And.intro hl hW)
  have HJ := Lib.hid hJ
  have HY := Lib.hid hY
  have H0 := Lib.hid h0
  clear hl hW hJL hJ hY h0 hnl hcm hBp hBk x0
  refine callsIn_of_wp Try.func58 rfl trivial ?_ rfl
  simp only [Try.ntmps58, List.size_toArray, List.length_cons, List.length_nil, Nat.reduceAdd, Nat.reduceSub, Array.replicate_succ, Array.replicate_zero, List.push_toArray, List.append_toArray, List.nil_append, List.cons_append]
  gi_wp2
  obtain ⟨N, hN⟩ : ∃ N, W.heap.size = N := ⟨_, rfl⟩
  rw [hN] at HJ
  obtain ⟨inv, hinv⟩ : ∃ inv : Nat → Act → World → Prop, inv = (fun m a' wr => ∃ (u3 u4 u5 u9 u10 u11 u12 u13 u14 u15 u16 u17 u18 u19 u20 u21 u22 : Value), (∃ (k : Nat), k ≤ len ∧ m = len - k ∧ J (kindL kd (l.take k)) wr ∧ N ≤ wr.heap.size ∧ (∀ b, (blkS A b ∨ b = Bk) → wr.heap[b]? = W.heap[b]?) ∧
    a' = { tmps := (.func (.yield lf) #[] #[] :: .pointer (some ⟨Bp, 0, none⟩) :: .pointer (some ⟨Bk, 0, none⟩) :: u3 :: u4 :: u5 :: .slice A len cap :: .int .i64 len :: .int .i64 k :: u9 :: u10 :: u11 :: u12 :: u13 :: u14 :: u15 :: u16 :: u17 :: u18 :: u19 :: u20 :: u21 :: u22 :: []).toArray, defers := [] })) := ⟨_, rfl⟩
  have HInv := Lib.hid hinv
  clear hinv
  refine loop_ghost inv ?_ len _ _ (by
      rw [HInv.out]
      (repeat' apply Exists.intro); exact ⟨Nat.zero_le _, by omega, by simpa [kindL] using H0.out, by omega, fun _ _ => rfl, rfl⟩)
  intro m a' wr hI
  rw [HInv.out] at hI
  obtain ⟨u3, u4, u5, u9, u10, u11, u12, u13, u14, u15, u16, u17, u18, u19, u20, u21, u22, k, hk, rfl, hJp, hz, hbk, rfl⟩ := hI
  have HJp := Lib.hid hJp
  have HB := Lib.hid (And.intro hz hbk)
  clear hJp hz
  by_cases hlt : k < len
  · obtain ⟨g, off, x, rfl, hg, hx, -, d0, d1, d2, d3⟩ := ft_get (HR.out.1.below FtP.keeps HR.out.2) k hlt
    have hq : ∀ o, wr.cell? ⟨g, o, none⟩ = W.cell? ⟨g, o, none⟩ := fun o => cell_block (hbk g (.inl ⟨_, rfl, rfl⟩)) ⟨g, o, none⟩ rfl
    have e0 := (hq _).trans d0
    have e1 := (hq _).trans d1
    have e2 := (hq _).trans d2
    have e3 := (hq _).trans d3
    have g1 : (k : Int) < len := by omega
    have hgw : g < wr.heap.size := Nat.lt_of_lt_of_le hg (by rw [hN]; exact HB.out.1)
    have hlk : Bk < wr.heap.size := Nat.lt_of_lt_of_le lk (by rw [hN]; exact HB.out.1)
    have ek := cell_of_row wr Bk 0 _ _ _ ((hbk Bk (.inr rfl)).trans HX0.out)
    simp at ek
    have hB4 : Below wr.heap.size wr (wr.alloc (.cells #[.int .i64 x.kind, .int .i64 x.a, .string x.s, .int .i64 x.b] 49)) := (Below.refl _ wr).alloc (Nat.le_refl _) _
    have HJ4 := Lib.hid (HJ.out _ _ _ HJp.out (.of_below hB4))
    have HX := Lib.hid hx
    have HBb := Lib.hid (show ∀ b, (blkS (some ⟨g, off, none⟩) b ∨ b = Bk) → (wr.alloc (.cells #[.int .i64 x.kind, .int .i64 x.a, .string x.s, .int .i64 x.b] 49)).heap[b]? = W.heap[b]? ∧ b < (wr.alloc (.cells #[.int .i64 x.kind, .int .i64 x.a, .string x.s, .int .i64 x.b] 49)).heap.size from fun b hb => by
      rcases hb with ⟨a, ea, eb⟩ | rfl
      · cases ea
        simp only at eb
        subst eb
        exact ⟨(hB4.block g hgw).trans (hbk g (.inl ⟨_, rfl, rfl⟩)), by simp; omega⟩
      · exact ⟨(hB4.block b hlk).trans (hbk b (.inr rfl)), by simp; omega⟩)
    have HZ := Lib.hid (show N ≤ (wr.alloc (.cells #[.int .i64 x.kind, .int .i64 x.a, .string x.s, .int .i64 x.b] 49)).heap.size by have := HB.out.1; simp; omega)
    by_cases hA : x.kind = kd
    · have hA' : (x.kind == kd) = true := by simpa using hA
      obtain ⟨fn, tmps, assign, rbody, hy, hRR⟩ := HY.out (kindL kd (l.take k)) x _ HJ4.out (kind_pre kd hx hA)
      unfold ftV at hy
      have HRR := Lib.hid hRR
      have HA := Lib.hid hA
      clear hRR hx hbk hB4 d0 d1 d2 d3 hq hg hgw hA
      gi_wp2
      refine HRR.out.mono ?_
      rintro e W7 (⟨rfl, hJ7, hk7⟩ | ⟨rfl, hJx7⟩)
      · have HE := Lib.hid (And.intro hJ7 (And.intro (Nat.le_trans HZ.out hk7.size) (fun b hb => (hk7.keep b (HBb.out b hb).2 (.inl hb)).trans (HBb.out b hb).1)))
        clear hJ7 hk7
        gi_wp2
        refine ⟨len - (k + 1), by omega, ?_⟩
        have hw : wrap64 ((k : Int) + 1) = ((k + 1 : Nat) : Int) := by unfold wrap64; omega
        first | rw [hw] | skip
        rw [HInv.out]
        have hk1 : k + 1 ≤ len := hlt
        (iterate 17 apply Exists.intro)
        refine ⟨k + 1, hk1, rfl, by rw [take_at HX.out, kindL_snoc, if_pos (by simpa using HA.out)]; exact HE.out.1, HE.out.2.1, HE.out.2.2, ?_⟩
        rfl
      · gi_wp2
        refine bodyPost_ret (results_none rfl _ _ _) rfl ?_
        exact ⟨⟨_, rfl⟩, .inr ⟨kindL kd (l.take k) ++ [x], kind_pre kd HX.out HA.out, hJx7⟩⟩
    · have hA' : (x.kind == kd) = false := by simpa using hA
      have HA := Lib.hid hA
      clear hx hbk hB4 d0 d1 d2 d3 hq hg hgw hA
      gi_wp2
      refine ⟨fun _ h => (by cases h), ?_⟩
      gi_wp2
      refine ⟨len - (k + 1), by omega, ?_⟩
      have hw : wrap64 ((k : Int) + 1) = ((k + 1 : Nat) : Int) := by unfold wrap64; omega
      first | rw [hw] | skip
      rw [HInv.out]
      have hk1 : k + 1 ≤ len := hlt
      (iterate 17 apply Exists.intro)
      refine ⟨k + 1, hk1, rfl, by rw [take_at HX.out, kindL_snoc, if_neg (by simpa using HA.out)]; exact HJ4.out, HZ.out, fun b hb => (HBb.out b hb).1, ?_⟩
      rfl
  · have g1 : ¬ (k : Int) < len := by omega
    have HE := Lib.hid (show J (kindL kd l) wr by
      have h := HJp.out
      rwa [List.take_of_length_le (by have := HL.out; omega)] at h)
    gi_wp2
    go_end0
    exact ⟨⟨_, rfl⟩, .inl HE.out⟩
set_option maxHeartbeats 1000000 in
theorem facts_in (n : Nat) (A : Option Addr) (len cap : Nat) (kd : Int) (w : World) : CallsIn Fence.wide n Try.prog 41 #[.slice A len cap, .int .i64 kd] w fun e w' => e = .returned (.func (.func 58) #[] #[.pointer (some ⟨w.heap.size, 0, none⟩), .pointer (some ⟨w.heap.size + 1, 0, none⟩)]) ∧ w' = (w.alloc (.cells #[.slice A len cap] 26)).alloc (.cells #[.int .i64 kd] 3) := by
  refine callsIn_of_wp Try.func41 rfl trivial ?_ rfl
  simp only [Try.ntmps41, List.size_toArray, List.length_cons, List.length_nil, Nat.reduceAdd, Nat.reduceSub, Array.replicate_succ, Array.replicate_zero, List.push_toArray, List.append_toArray, List.nil_append, List.cons_append]
  gi_wp2
  go_ret
  exact ⟨rfl, rfl⟩
end Go.Proofs.Ytfiockconbaniaa
