/- bits.merged and its closure: what two lists have comes to the loop body one by one. -/
import Derived.RangeFuncNested
import Derived.RangeFuncBound
import Derived.RangeFuncCalls
import Derived.RangeFuncLeaves
import Derived.Shelf.Abstract
import Derived.Shelf.RegionOpen
import Derived.WalkKit
import Derived.OwnWalkIn
import Derived.TacticsInMore
import Derived.LoopNIn
import Derived.LoopIn
import Derived.Sort.CutIn
import Derived.Test.YtpfmncdodcbamaaLeast
namespace Go.Proofs.Ytpfmncdodcbamaa
open Go.RowKit Go.Proofs Go.Shelf

attribute [local go_sem] Oper.semAt_some

/-- What a round that goes on keeps: what lay below n₀, and all cells but those of int64s and block Bo. -/
def KpM (n₀ Bo : Nat) (W W' : World) : Prop :=
  Below n₀ W W' ∧ ∀ (k : Nat) (cs : Array Value) (t : TypeId), k ≠ Bo → t ≠ 3 → W.heap[k]? = some (.cells cs t (0, 0)) → W'.heap[k]? = some (.cells cs t (0, 0))
theorem KpM.trans {n₀ Bo : Nat} {A B C : World} (h : KpM n₀ Bo A B) (k : KpM n₀ Bo B C) : KpM n₀ Bo A C :=
  ⟨h.1.trans k.1, fun i cs t h1 h2 h3 => k.2 i cs t h1 h2 (h.2 i cs t h1 h2 h3)⟩
theorem KpM.book {n₀ Bo : Nat} {w : World} (hn : n₀ ≤ w.heap.size) (W : World) (l : Nat) (o o' : Obj) (hl : w.heap.size ≤ l) (h : W.heap[l]? = some o) (h1 : o.isCells = false) (h2 : o.isWalk = false) : KpM n₀ Bo W (W.putObj l o') :=
  ⟨belowK_b hn W l o o' hl h h1 h2, fun k cs t _ _ hk => by
    refine ((grownBy_putObj' W l o').block k (Array.getElem?_eq_some_iff.1 hk).1 (fun e => ?_)).trans hk
    obtain rfl : k = l := by injection e
    rw [hk] at h; cases h; cases h1⟩
theorem KpM.refl (n₀ Bo : Nat) (W : World) : KpM n₀ Bo W W := ⟨Below.refl _ _, fun _ _ _ _ _ h => h⟩
theorem KpM.below {n₀ Bo : Nat} {W W' : World} (h : Below W.heap.size W W') (hn : n₀ ≤ W.heap.size) : KpM n₀ Bo W W' :=
  ⟨h.mono hn, fun k _ _ _ _ hk => (h.block k (Array.getElem?_eq_some_iff.1 hk).1).trans hk⟩

theorem grownBy_of_below {a w : World} (h : Below a.heap.size a w) (row : Option Nat) : a.grownBy w row := ⟨h.os, h.tape, h.output, h.size, fun i hi _ => h.block i hi⟩

theorem mrg_nil : mrg [] [] = [] := by rw [mrg]
theorem mrg_head : ∀ (l m : List Int), ¬ (l = [] ∧ m = []) → ∃ f, (mrg l m).head? = some f
  | [], [], h => absurd ⟨rfl, rfl⟩ h
  | a :: la, [], _ => ⟨_, by rw [mrg]; rfl⟩
  | [], b :: lb, _ => ⟨_, by rw [mrg]; rfl⟩
  | a :: la, b :: lb, _ => by
    rw [mrg]
    by_cases h1 : a < b
    · rw [if_pos h1]; exact ⟨_, rfl⟩
    · rw [if_neg h1]
      by_cases h2 : b < a
      · rw [if_pos h2]; exact ⟨_, rfl⟩
      · rw [if_neg h2]; exact ⟨_, rfl⟩
theorem mrg_step : ∀ (l m : List Int) (f : Fnd), (mrg l m).head? = some f →
    mrg l m = f :: mrg (if f.2.1 then l.drop 1 else l) (if f.2.2 then m.drop 1 else m) ∧ (f.2.1 = true → l ≠ []) ∧ (f.2.2 = true → m ≠ []) ∧ (f.2.1 = true ∨ f.2.2 = true)
  | [], [], f, h => by rw [mrg_nil] at h; cases h
  | a :: la, [], f, h => by rw [mrg] at h ⊢; cases h; simp
  | [], b :: lb, f, h => by rw [mrg] at h ⊢; cases h; simp
  | a :: la, b :: lb, f, h => by
    rw [mrg] at h ⊢
    by_cases h1 : a < b
    · rw [if_pos h1] at h ⊢; cases h; simp
    · rw [if_neg h1] at h ⊢
      by_cases h2 : b < a
      · rw [if_pos h2] at h ⊢; cases h; simp
      · rw [if_neg h2] at h ⊢; cases h; simp

set_option maxRecDepth 100000 in
set_option maxHeartbeats 1000000 in
theorem merged1_in (n : Nat) (hn : 1 ≤ n) (l Ba Bb Bo n₀ : Nat) (hoa : Ba ≠ Bo) (hob : Bb ≠ Bo) (A A' : Option Addr) (na ca nb cb : Nat) (zs zs' : List Int) (J Jx : List Fnd → World → Prop) (W : World)
    (hJ : AbidesFrom W.heap.size J)
    (hY : ∀ pre x W, J pre W → pre.length < (mrg zs zs').length → YieldAt Fence.wide (n - 1) Try.prog l #[.agg #[.int .i64 x.1, .bool x.2.1, .bool x.2.2]] W fun e W' =>
      (e = .returned (.bool true) ∧ J (pre ++ [x]) W' ∧ KpM n₀ Bo W W') ∨ (e = .returned (.bool false) ∧ Jx (pre ++ [x]) W'))
    (hBa : Boxed W Ba 22 (.slice A na ca)) (hBb : Boxed W Bb 22 (.slice A' nb cb)) (hn₀ : n₀ ≤ W.heap.size) (hBo : Bo < W.heap.size)
    (hA : Ints W n₀ A na ca zs) (hB : Ints W n₀ A' nb cb zs') (h0 : J [] W) :
    CallsIn Fence.wide n Try.prog 41 #[.func (.yield l) #[] #[], .pointer (some ⟨Ba, 0, none⟩), .pointer (some ⟨Bb, 0, none⟩)] W fun e W' => (∃ v, e = .returned v) ∧
      ((∃ ys, ys = mrg zs zs' ∧ J ys W') ∨ (∃ pre, pre <+: mrg zs zs' ∧ Jx pre W')) := by
  refine callsIn_of_wp Try.func41 rfl trivial ?_ rfl
  simp only [Try.ntmps41, List.size_toArray, List.length_cons, List.length_nil, Nat.reduceAdd, Nat.reduceSub, Array.replicate_succ, Array.replicate_zero, List.push_toArray, List.append_toArray, List.nil_append, List.cons_append]
  gi_wp2
  gi_loopw [4, 5] (fun vi vj wr => ∃ (i j : Nat) (pre : List Fnd), vi = .int .i64 i ∧ vj = .int .i64 j ∧ i ≤ na ∧ j ≤ nb ∧ pre ++ mrg (zs.drop i) (zs'.drop j) = mrg zs zs' ∧ J pre wr ∧ W.heap.size ≤ wr.heap.size ∧ n₀ ≤ wr.heap.size ∧
      Boxed wr Ba 22 (.slice A na ca) ∧ Boxed wr Bb 22 (.slice A' nb cb) ∧ Ints wr n₀ A na ca zs ∧ Ints wr n₀ A' nb cb zs')
    (fun vi vj _ => (na - (intOf vi).toNat) + (nb - (intOf vj).toNat))
  case atStart =>
    exact ⟨0, 0, [], rfl, rfl, by omega, by omega, by simp, h0, Nat.le_refl _, hn₀, hBa, hBb, hA, hB⟩
  case round =>
    obtain ⟨i, j, pre, rfl, rfl, hi, hj, hm, hJs, hsz, hle, bA, bB, iA, iB⟩ := hrel
    have hna : na ≤ 281474976710656 := iA.2.2.1.1
    have hnb : nb ≤ 281474976710656 := iB.2.2.1.1
    have hca : na ≤ ca := iA.2.1
    have hcb : nb ≤ cb := iB.2.1
    have hca2 : ca ≤ 9223372036854775807 := iA.2.2.1.2
    have hcb2 : cb ≤ 9223372036854775807 := iB.2.2.1.2
    have HM := Lib.hid hm
    clear hm
    have cA := bA.cell
    have cB := bB.cell
    have lA := bA.lt
    have lB := bB.lt
    by_cases hend : na ≤ i ∧ nb ≤ j
    · obtain ⟨he1, he2⟩ := hend
      obtain rfl : i = na := by omega
      obtain rfl : j = nb := by omega
      gi_wp2
      go_end0
      refine ⟨⟨_, rfl⟩, .inl ⟨pre, ?_, hJs⟩⟩
      have := HM.out
      rw [List.drop_eq_nil_of_le (by rw [iA.1]; exact Nat.le_refl _), List.drop_eq_nil_of_le (by rw [iB.1]; exact Nat.le_refl _), mrg_nil, List.append_nil] at this
      exact this
    · have hcase : i < na ∨ (¬ i < na ∧ j < nb) := by omega
      obtain ⟨f, hf⟩ : ∃ f, (mrg (zs.drop i) (zs'.drop j)).head? = some f := mrg_head _ _ (by rintro ⟨e1, e2⟩; have g1 := List.drop_eq_nil_iff.1 e1; have g2 := List.drop_eq_nil_iff.1 e2; rw [iA.1] at g1; rw [iB.1] at g2; omega)
      have HF := Lib.hid hf
      clear hf
      have hleast : ∀ (A A' : Option Addr) (p c p' c' : Nat) (w : World), Ints w w.heap.size A p c (zs.drop i) → Ints w w.heap.size A' p' c' (zs'.drop j) →
          CallsIn Fence.wide (n - 1) Try.prog 42 #[.slice A p c, .slice A' p' c'] w fun e w' => e = .returned (.agg #[.int .i64 f.1, .bool f.2.1, .bool f.2.2]) ∧ Below w.heap.size w w' :=
        fun A A' p c p' c' w h1 h2 => callsIn_wide.2 (least_any A A' p c p' c' (zs.drop i) (zs'.drop j) f w h1 h2 HF.out)
      have HL := Lib.hid hleast
      clear hleast
      have jA := iA.cut hi
      have jB := iB.cut hj
      have HJ := Lib.hid (And.intro jA jB)
      clear jA jB
      rcases hcase with h1 | ⟨h1, h2⟩
      all_goals
        gi_wp2
        gi_cut [6] from 7 (fun s6 wc => ∃ b, s6 = .pointer (some ⟨b, 0, none⟩) ∧ wr.heap.size ≤ b ∧ Below wr.heap.size wr wc ∧ wc.heap[b]? = some (.cells #[.int .i64 f.1, .bool f.2.1, .bool f.2.2] 52 (0, 0)))
        case first =>
          gi_region_with (refine ⟨trivial, ?_⟩; gi_at_call 42; refine (HL.out _ _ _ _ _ _ _ (by first | exact HJ.out.1.more hle | exact (HJ.out.1.alloc hle _).more (by simp; omega)) (by first | exact HJ.out.2.more hle | exact (HJ.out.2.alloc hle _).more (by simp; omega))).mono ?_; rintro e w' ⟨rfl, hbw⟩; obtain ⟨hc1, hf1⟩ := bcell hbw; have hz1 := hbw.size; (try simp only [World.size_alloc] at hz1); generalize (if ca = i then A else Option.map (fun x => x.add i) A) = X1; generalize (if cb = j then A' else Option.map (fun x => x.add j) A') = X2)
          all_goals
            gi_wp2
            gi_meet
            case rel =>
              have hz2 := hbw.size
              simp at hz2
              first
                | exact ⟨_, rfl, hz2, ((Below.refl wr.heap.size wr).drew.trans hbw).alloc hz2 _, heap_alloc_new w' _⟩
                | exact ⟨wr.heap.size, rfl, Nat.le_refl _, ((((((Below.refl wr.heap.size wr).alloc (Nat.le_refl _) _).drew).trans (hbw.mono (by simp))).setCell (Nat.le_refl _) _).setCell (Nat.le_refl _) _).setCell (Nat.le_refl _) _,
                    blk_set (blk_set (blk_set ((hbw.block wr.heap.size (by simp)).trans (heap_alloc_new wr _)) 0 _) 1 _) 2 _⟩
        case rest =>
          obtain ⟨b, rfl, hb, hbl, hblk⟩ := hcut
          have hbB : Boxed wc Bb 22 (.slice A' nb cb) := (hbl.block Bb lB).trans bB
          have hbA : Boxed wc Ba 22 (.slice A na ca) := (hbl.block Ba lA).trans bA
          have c0 : wc.cell? ⟨b, 0, none⟩ = some (.int .i64 f.1) := cell_of_row wc b 0 _ _ _ hblk
          have c1 : wc.cell? ⟨b, 1, none⟩ = some (.bool f.2.1) := cell_of_row wc b 1 _ _ _ hblk
          have c2 : wc.cell? ⟨b, 2, none⟩ = some (.bool f.2.2) := cell_of_row wc b 2 _ _ _ hblk
          have hJc : J pre wc := hJ pre wr wc none hJs (grownBy_of_below hbl none) (fun r e => by cases e)
          obtain ⟨hstep, hne1, hne2, hor⟩ := mrg_step _ _ f HF.out
          have hlen : pre.length < (mrg zs zs').length := by rw [← HM.out, hstep]; simp
          obtain ⟨fn, tmps, assign, body, hy, hR⟩ := hY pre f wc hJc hlen
          have hgo : ∀ (i' j' : Nat), (if f.2.1 then (zs.drop i).drop 1 else zs.drop i) = zs.drop i' → (if f.2.2 then (zs'.drop j).drop 1 else zs'.drop j) = zs'.drop j' → (pre ++ [f]) ++ mrg (zs.drop i') (zs'.drop j') = mrg zs zs' := by
            intro i' j' e1 e2
            rw [← HM.out, hstep, e1, e2]; simp
          have hi1 : f.2.1 = true → i < na := fun hx => by
            have := hne1 hx
            rcases Nat.lt_or_ge i na with h | h
            · exact h
            · exact absurd (List.drop_eq_nil_of_le (by rw [iA.1]; exact h)) this
          have hj1 : f.2.2 = true → j < nb := fun hx => by
            have := hne2 hx
            rcases Nat.lt_or_ge j nb with h | h
            · exact h
            · exact absurd (List.drop_eq_nil_of_le (by rw [iB.1]; exact h)) this
          have HG := Lib.hid hgo
          have HI := Lib.hid hi1
          have HJ1 := Lib.hid hj1
          have HO := Lib.hid hor
          have hsl := hbl.size
          clear hstep hgo hi1 hj1 hor hne1 hne2
          gi_wp2
          refine hR.mono ?_
          rintro e W3 (⟨rfl, hJ3, hk3⟩ | ⟨rfl, hJx3⟩)
          · have c1' : W3.cell? ⟨b, 1, none⟩ = some (.bool f.2.1) := cell_of_row W3 b 1 _ _ _ (hk3.2 b _ 52 (by omega) (by decide) hblk)
            have c2' : W3.cell? ⟨b, 2, none⟩ = some (.bool f.2.2) := cell_of_row W3 b 2 _ _ _ (hk3.2 b _ 52 (by omega) (by decide) hblk)
            have bA3 : Boxed W3 Ba 22 (.slice A na ca) := hk3.2 Ba _ 22 hoa (by decide) hbA
            have bB3 : Boxed W3 Bb 22 (.slice A' nb cb) := hk3.2 Bb _ 22 hob (by decide) hbB
            have iA3 : Ints W3 n₀ A na ca zs := (iA.below (hbl.mono hle)).below hk3.1
            have iB3 : Ints W3 n₀ A' nb cb zs' := (iB.below (hbl.mono hle)).below hk3.1
            have hs3 := hk3.1.size
            obtain ⟨z, x, y⟩ := f
            have HB := Lib.hid (And.intro bA3 bB3)
            clear bA3 bB3 hbA hbB hblk
            cases x <;> cases y
            · exact absurd HO.out (by simp)
            · have := HJ1.out rfl
              gi_wp2
              go_roundw
              case rel => exact ⟨i, j + 1, pre ++ [(z, false, true)], rfl, by go_num, hi, by omega, HG.out i (j + 1) rfl (by simp), hJ3, by omega, by omega, HB.out.1, HB.out.2, iA3, iB3⟩
              case measure => simp [intOf]; omega
            · have := HI.out rfl
              first
                | (exfalso; omega)
                | (gi_wp2
                   go_roundw
                   case rel => exact ⟨i + 1, j, pre ++ [(z, true, false)], by go_num, rfl, by omega, hj, HG.out (i + 1) j (by simp) rfl, hJ3, by omega, by omega, HB.out.1, HB.out.2, iA3, iB3⟩
                   case measure => simp [intOf]; omega)
            · have := HI.out rfl
              have := HJ1.out rfl
              first
                | (exfalso; omega)
                | (gi_wp2
                   go_roundw
                   case rel => exact ⟨i + 1, j + 1, pre ++ [(z, true, true)], by go_num, by go_num, by omega, by omega, HG.out (i + 1) (j + 1) (by simp) (by simp), hJ3, by omega, by omega, HB.out.1, HB.out.2, iA3, iB3⟩
                   case measure => simp [intOf]; omega)
          · gi_wp2
            refine bodyPost_ret (results_none rfl _ _ _) rfl ?_
            refine ⟨⟨_, rfl⟩, .inr ⟨pre ++ [f], ?_, hJx3⟩⟩
            have := HG.out (if f.2.1 then i + 1 else i) (if f.2.2 then j + 1 else j) (by split <;> simp) (by split <;> simp)
            exact ⟨_, this⟩

set_option maxHeartbeats 1000000 in
/-- bits.merged: the two lists are boxed. -/
theorem merged_in (n : Nat) (A A' : Option Addr) (na ca nb cb : Nat) (w : World) :
    CallsIn Fence.wide n Try.prog 36 #[.slice A na ca, .slice A' nb cb] w fun e w' => e = .returned (.func (.func 41) #[] #[.pointer (some ⟨w.heap.size, 0, none⟩), .pointer (some ⟨w.heap.size + 1, 0, none⟩)]) ∧
      w' = (w.alloc (.cells #[.slice A na ca] 22)).alloc (.cells #[.slice A' nb cb] 22) := by
  refine callsIn_of_wp Try.func36 rfl trivial ?_ rfl
  simp only [Try.ntmps36, List.size_toArray, List.length_cons, List.length_nil, Nat.reduceAdd, Nat.reduceSub, Array.replicate_succ, Array.replicate_zero, List.push_toArray, List.append_toArray, List.nil_append, List.cons_append]
  gi_wp2
  go_ret
  exact ⟨rfl, rfl⟩

/-- What bits.merged hands back: it hands over what the two lists have, in turn, or a part of it where a round has said 'no more'. -/
theorem merged_stops (n : Nat) (hn : 1 ≤ n) (Ba Bb Bo n₀ : Nat) (hoa : Ba ≠ Bo) (hob : Bb ≠ Bo) (A A' : Option Addr) (na ca nb cb : Nat) (zs zs' : List Int) (w : World)
    (hBa : Boxed w Ba 22 (.slice A na ca)) (hBb : Boxed w Bb 22 (.slice A' nb cb)) (hn₀ : n₀ ≤ w.heap.size) (hBo : Bo < w.heap.size) (hA : Ints w n₀ A na ca zs) (hB : Ints w n₀ A' nb cb zs') :
    SeqStopsK Fence.wide n Try.prog 41 #[.pointer (some ⟨Ba, 0, none⟩), .pointer (some ⟨Bb, 0, none⟩)] (fun x : Fnd => #[.agg #[.int .i64 x.1, .bool x.2.1, .bool x.2.2]]) (KpM n₀ Bo)
      (fun ys => ys = mrg zs zs') (fun pre => pre <+: mrg zs zs') (mrg zs zs').length w := fun l J Jx W hW hJ _ hY h0 =>
  merged1_in n hn l Ba Bb Bo n₀ hoa hob A A' na ca nb cb zs zs' J Jx W hJ hY ((hW.block Ba hBa.lt).trans hBa) ((hW.block Bb hBb.lt).trans hBb) (Nat.le_trans hn₀ hW.size) (Nat.lt_of_lt_of_le hBo hW.size) (hA.below (hW.mono hn₀)) (hB.below (hW.mono hn₀)) h0
end Go.Proofs.Ytpfmncdodcbamaa
