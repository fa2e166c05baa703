/- jlex.tokens and its closure: the tokens come to the loop body one by one, an error last. -/
import Derived.RangeFuncNested
import Derived.RangeFuncBound
import Derived.RangeFuncCalls
import Derived.RangeFuncLeaves
import Derived.Shelf.Abstract
import Derived.Shelf.RegionOpen
import Derived.WalkKit
import Derived.OwnWalkIn
import Derived.TacticsInMore
import Derived.LoopNIn
import Derived.LoopIn
import Derived.Sort.CutIn
import Derived.Test.YtfjfbpmlohgghaaDoorEvents
namespace Go.Proofs.YtfjfbpmlohgghaaDoor
open Go.RowKit Go.Proofs Go.Shelf

attribute [local go_sem] Oper.semAt_some

/-- What a round that goes on keeps: what lay below n₀, and whatever a walk leans on. -/
def KW (n₀ : Nat) (W W' : World) : Prop := Below n₀ W W' ∧ KeepsWalks W W'
theorem KW.trans {n₀ : Nat} {A B C : World} (h : KW n₀ A B) (k : KW n₀ B C) : KW n₀ A C := ⟨h.1.trans k.1, h.2.trans k.2⟩
theorem KW.book {n₀ : Nat} {w : World} (hn : n₀ ≤ w.heap.size) (W : World) (l : Nat) (o o' : Obj) (hl : w.heap.size ≤ l) (h : W.heap[l]? = some o) (h1 : o.isCells = false) (h2 : o.isWalk = false) : KW n₀ W (W.putObj l o') :=
  ⟨belowK_b hn W l o o' hl h h1 h2, walksK_b W l o o' hl h h1 h2⟩
theorem KW.refl (n₀ : Nat) (W : World) : KW n₀ W W := ⟨Below.refl _ _, KeepsWalks.refl _⟩
theorem WM.walks {W W' : World} {b : Nat} {acc : List Bs} (h : WM W b acc) (hk : KeepsWalks W W') : WM W' b acc := by
  obtain ⟨es, clock, h1, h2⟩ := h
  exact ⟨es, clock, hk.same b _ h1 rfl, h2⟩
theorem grownBy_of_below {a w : World} (h : Below a.heap.size a w) (row : Option Nat) : a.grownBy w row := ⟨h.os, h.tape, h.output, h.size, fun i hi _ => h.block i hi⟩

theorem blk_set {w : World} {g : Nat} {t : TypeId} {cs : Array Value} (h : w.heap[g]? = some (.cells cs t (0, 0))) (i : Nat) (u : Value) :
    (w.setCell ⟨g, i, none⟩ u).heap[g]? = some (.cells (cs.setIfInBounds i u) t (0, 0)) := by
  simp [World.setCell, Array.getElem?_modify, h]
def encE (x : Ev) : Array Value := #[tokV x.1, .int .i64 x.2]
theorem bcell {W w1 : World} (hb : Below W.heap.size W w1) : (∀ b o, b < W.heap.size → w1.cell? ⟨b, o, none⟩ = W.cell? ⟨b, o, none⟩) ∧ (∀ b o, b < W.heap.size → w1.frozen? ⟨b, o, none⟩ = W.frozen? ⟨b, o, none⟩) :=
  ⟨fun b o h => hb.cell (p := ⟨b, o, none⟩) h, fun b o h => hb.frozen (p := ⟨b, o, none⟩) h⟩
theorem cnt_any (s : ByteArray) (w : World) (c : Nat) (h : s.data.toList.count 10 = c) : Calls Tryd.prog 33 #[.string s, .string ⟨#[10]⟩] w fun e w' => e = .returned (.int .i64 c) ∧ w = w' := by
  refine (Tryd.strings_Count_one s 10 w).mono fun e w' hh => ⟨?_, hh.2.symm⟩
  rw [hh.1, ← h]
  rfl

set_option maxRecDepth 100000 in
set_option maxHeartbeats 1000000 in
theorem tokens1_in (n : Nat) (hn : 1 ≤ n) (l Bx n₀ : Nat) (s : ByteArray) (hs : s.size ≤ 100000) (J Jx : List Ev → World → Prop) (W : World)
    (hJ : AbidesFrom W.heap.size J)
    (hY : ∀ pre x W, J pre W → pre.length < (evs 1 s.data.toList).length → YieldAt Fence.wide (n - 1) Tryd.prog l (encE x) W fun e W' =>
      (e = .returned (.bool true) ∧ J (pre ++ [x]) W' ∧ KW n₀ W W') ∨ (e = .returned (.bool false) ∧ Jx (pre ++ [x]) W'))
    (hBs : Boxed W Bx 9 (.string s)) (hE : Env W) (hn3 : 3 ≤ n₀) (h0 : J [] W) :
    CallsIn Fence.wide n Tryd.prog 31 #[.func (.yield l) #[] #[], .pointer (some ⟨Bx, 0, none⟩)] W fun e W' => (∃ v, e = .returned v) ∧
      ((∃ ys, ys = evs 1 s.data.toList ∧ J ys W') ∨ (∃ pre, pre <+: evs 1 s.data.toList ∧ Jx pre W')) := by
  have cS := hBs.cell
  have lS := hBs.lt
  refine callsIn_of_wp Tryd.func31 rfl trivial ?_ rfl
  simp only [Tryd.ntmps31, List.size_toArray, List.length_cons, List.length_nil, Nat.reduceAdd, Nat.reduceSub, Array.replicate_succ, Array.replicate_zero, List.push_toArray, List.append_toArray, List.nil_append, List.cons_append]
  gi_wp2
  gi_cut [3, 4, 5] from 10 (fun s3 s4 s5 wc => ∃ b, s3 = .map (some b) ∧ s4 = .string s ∧ s5 = .int .i64 1 ∧ WM wc b wordsL ∧ Below W.heap.size W wc)
  case first =>
    gi_region_with (refine ⟨trivial, ?_⟩; gi_at_call 20; refine (callsIn_wide.2 (words_any _)).mono ?_; rintro e w' ⟨b, rfl, hw, hb, hB⟩; have cS1 : w'.cell? ⟨Bx, 0, none⟩ = some (.string s) := (hB.cell (p := ⟨Bx, 0, none⟩) lS).trans cS)
    all_goals
      gi_wp2
      gi_meet
      case rel =>
        refine ⟨b, rfl, rfl, rfl, hw, ?_⟩
        first
          | exact (Below.refl W.heap.size W).drew.trans hB
          | exact ((Below.refl W.heap.size W).trans hB).drew
          | exact ((Below.refl W.heap.size W).drew.trans hB).drew
  case rest =>
    obtain ⟨b, rfl, rfl, rfl, hw, hB⟩ := hcut
    have hJ0 : J [] wc := hJ [] W wc none h0 (grownBy_of_below hB none) (fun r e => by cases e)
    have hsz0 := hB.size
    have hE0 := hE.kept hB
    clear cS lS hBs h0 hE
    gi_wp2
    gi_loopw [4, 5] (fun v4 v5 wr => ∃ (r : ByteArray) (ln : Nat) (pre : List Ev), v4 = .string r ∧ v5 = .int .i64 ln ∧ ln + r.size ≤ 200000 ∧ r.size ≤ 100000 ∧ pre ++ evs ln r.data.toList = evs 1 s.data.toList ∧ J pre wr ∧ WM wr b wordsL ∧ Env wr ∧ W.heap.size ≤ wr.heap.size)
      (fun v4 _ _ => match v4 with | .string x => x.size | _ => 0)
    case atStart => exact ⟨s, 1, [], rfl, rfl, by omega, hs, rfl, hJ0, hw, hE0, hsz0⟩
    case round =>
      obtain ⟨r, ln, pre, rfl, rfl, hb1, hb2, hev, hJr, hwr, hEr, hsz⟩ := hrel
      have HV := Lib.hid hev
      clear hev hJ0 hE0 hsz0 hw hB
      have hg1 := gapL_le _ r.data.toList (Nat.le_refl _)
      have hg2 := gapL_e _ r.data.toList (Nat.le_refl _)
      rw [len_toList] at hg1
      have hcnt : endsL r.data.toList ≤ (gapL r.data.toList).1 := by
        unfold endsL
        refine Nat.le_trans List.count_le_length ?_
        rw [List.length_take]
        omega
      have hcon := fun (w : World) (hE : Env w) => gap_any r w hE (by omega)
      have heb := fun h => evs_bad (line := ln) (l := r.data.toList) h
      have hee := fun h1 h2 => evs_end (line := ln) (l := r.data.toList) h1 h2
      have her := fun h1 h2 h3 => evs_err (line := ln) (l := r.data.toList) h1 h2 h3
      have het := fun h1 h2 h3 h4 => evs_tok (line := ln) (l := r.data.toList) h1 h2 h3 h4
      have hcl : (r.extract 0 (gapL r.data.toList).1).data.toList.count 10 = endsL r.data.toList := by rw [ext_take]; rfl
      obtain ⟨⟨g, er⟩, hgl⟩ : ∃ x, gapL r.data.toList = x := ⟨_, rfl⟩
      obtain ⟨c, hc⟩ : ∃ c, endsL r.data.toList = c := ⟨_, rfl⟩
      rw [hgl] at hg1 hg2 hcnt hcon heb hee her het hcl
      rw [hc] at hcnt heb her het hcl
      simp only at hg1 hg2 hcnt hcon heb hee her het hcl
      have HC1 := Lib.hid hcon
      have HC2 := Lib.hid (fun w => cnt_any (r.extract 0 g) w c hcl)
      have HE1 := Lib.hid heb
      have HE2 := Lib.hid hee
      have HE3 := Lib.hid her
      have HE4 := Lib.hid het
      clear hcon hcl heb hee her het hgl hc
      have hwlt := hwr.lt
      rcases hg2 with rfl | rfl
      · by_cases hgr : g = r.size
        · have HX := Lib.hid (HE2.out rfl (by rw [List.drop_eq_nil_of_le (by rw [len_toList]; omega)]))
          have hz0 := empty_yes (r.extract g r.size) (by rw [ext_size]; omega)
          have hz1 := empty_list (r.extract g r.size) (by rw [ext_size]; omega)
          clear hgr
          gi_wp2_with (first | (refine ⟨trivial, ?_⟩; gi_at_call 32; refine (callsIn_wide.2 (HC1.out _ (hEr.kept ((Below.refl _ wr).alloc (Nat.le_refl _) _)))).mono ?_; rintro e w1 ⟨rfl, hb⟩) | (refine ⟨trivial, ?_⟩; gi_at_call 33; refine (callsIn_wide.2 (HC2.out _)).mono ?_; rintro e w' ⟨rfl, rfl⟩))
          refine bodyPost_ret (results_none rfl _ _ _) rfl ?_
          have hBx : Below wr.heap.size wr w1 := ((Below.refl _ wr).alloc (Nat.le_refl _) _).trans (hb.mono (by simp))
          exact ⟨⟨_, rfl⟩, .inl ⟨pre, by rw [← HV.out, HX.out, List.append_nil], hJ pre wr w1 none hJr (grownBy_of_below hBx none) (fun r e => by cases e)⟩⟩
        · have hgr2 : g < r.size := by omega
          have hne : r.data.toList.drop g ≠ [] := fun e => by
            have := List.drop_eq_nil_iff.1 e
            rw [len_toList] at this
            omega
          have hfl := fun h => firstL_len (r.data.toList.drop g) hne h
          have hft := firstL_t (r.data.toList.drop g)
          have hcon := fun w' (hb : Below wr.heap.size wr w') => first_any (r.extract g r.size) b w' (by rw [ext_size]; omega) (by rw [ext_size]; omega) (hwr.below hwlt hb) (hEr.kept hb)
          have he3 := HE3.out rfl hne
          have he4 := HE4.out rfl hne
          have hz0 := empty_no (r.extract g r.size) (by rw [ext_size]; omega)
          rw [ext_drop] at hcon
          obtain ⟨⟨⟨kd, ts, nn, l0, n0⟩, len, er⟩, ho⟩ : ∃ o, firstL (r.data.toList.drop g) = o := ⟨_, rfl⟩
          rw [ho] at hfl hft hcon he3 he4
          obtain ⟨rfl, rfl⟩ := hft
          unfold oneV tokV at hcon
          simp only at hfl hcon he3 he4
          have HC3 := Lib.hid hcon
          have HF := Lib.hid hfl
          have H3 := Lib.hid he3
          have H4 := Lib.hid he4
          clear hcon hfl he3 he4 ho hne hgr
          by_cases her : er = 0
          · subst her
            obtain ⟨hl1, hl2⟩ := HF.out rfl
            rw [List.length_drop, len_toList] at hl2
            have HX := Lib.hid (H4.out rfl hl1)
            have hszx := Lib.hid (ext_size r g)
            gi_upto_region 9 with (first | (refine ⟨trivial, ?_⟩; gi_at_call 32; refine (callsIn_wide.2 (HC1.out _ (hEr.kept ((Below.refl _ wr).alloc (Nat.le_refl _) _)))).mono ?_; rintro e w1 ⟨rfl, hb⟩) | (refine ⟨trivial, ?_⟩; gi_at_call 33; refine (callsIn_wide.2 (HC2.out _)).mono ?_; rintro e w' ⟨rfl, rfl⟩) | (refine ⟨trivial, ?_⟩; gi_at_call 34; refine (callsIn_wide.2 (HC3.out _ (((Below.refl _ wr).alloc (Nat.le_refl _) _).trans (hb.mono (by simp))))).mono ?_; rintro e w2 ⟨rfl, hb2⟩; have hblk2 : w2.heap[wr.heap.size]? = some (.cells #[.int .i64 0, .string ⟨#[]⟩, .int .i64 0, .int .i64 0, .bool false] 30 (0, 0)) := (hb2.block wr.heap.size (by have := hb.size; simp at this; omega)).trans ((hb.block wr.heap.size (by simp)).trans (heap_alloc_new wr _)); have c0 : w2.cell? ⟨wr.heap.size, 0, none⟩ = some (.int .i64 0) := cell_of_row w2 wr.heap.size 0 _ _ _ hblk2; have c1 : w2.cell? ⟨wr.heap.size, 1, none⟩ = some (.string ⟨#[]⟩) := cell_of_row w2 wr.heap.size 1 _ _ _ hblk2; have c2 : w2.cell? ⟨wr.heap.size, 2, none⟩ = some (.int .i64 0) := cell_of_row w2 wr.heap.size 2 _ _ _ hblk2; have c3 : w2.cell? ⟨wr.heap.size, 3, none⟩ = some (.int .i64 0) := cell_of_row w2 wr.heap.size 3 _ _ _ hblk2; have c4 : w2.cell? ⟨wr.heap.size, 4, none⟩ = some (.bool false) := cell_of_row w2 wr.heap.size 4 _ _ _ hblk2; have f0 := fun j => frozen_of_row w2 wr.heap.size j _ _ hblk2; have HB2 := Lib.hid hblk2; clear hblk2))
            have hBx : Below wr.heap.size wr w2 := (((Below.refl _ wr).alloc (Nat.le_refl _) _).trans (hb.mono (by simp))).trans (hb2.mono (by have := hb.size; simp at this; omega))
            gi_cut [] from 38 (fun wx => wx.heap[wr.heap.size]? = some (.cells #[.int .i64 kd, .string (bs ts), .int .i64 nn, .int .i64 ((ln + c : Nat) : Int), .bool (decide (0 < c))] 30 (0, 0)) ∧ Below wr.heap.size wr wx)
            case first =>
              gi_wp2
              gi_meet
              case rel =>
                refine ⟨?_, ((((((hBx.setCell (Nat.le_refl _) _).setCell (Nat.le_refl _) _).setCell (Nat.le_refl _) _).setCell (Nat.le_refl _) _).setCell (Nat.le_refl _) _).setCell (Nat.le_refl _) _).setCell (Nat.le_refl _) _⟩
                rw [blk_set (blk_set (blk_set (blk_set (blk_set (blk_set (blk_set HB2.out 0 _) 1 _) 2 _) 3 _) 4 _) 3 _) 4 _]
                simp
            case rest =>
              obtain ⟨hblk, hBl⟩ := hcut
              have c0 : wc.cell? ⟨wr.heap.size, 0, none⟩ = some (.int .i64 kd) := cell_of_row wc wr.heap.size 0 _ _ _ hblk
              have c1 : wc.cell? ⟨wr.heap.size, 1, none⟩ = some (.string (bs ts)) := cell_of_row wc wr.heap.size 1 _ _ _ hblk
              have c2 : wc.cell? ⟨wr.heap.size, 2, none⟩ = some (.int .i64 nn) := cell_of_row wc wr.heap.size 2 _ _ _ hblk
              have c3 : wc.cell? ⟨wr.heap.size, 3, none⟩ = some (.int .i64 ((ln + c : Nat) : Int)) := cell_of_row wc wr.heap.size 3 _ _ _ hblk
              have c4 : wc.cell? ⟨wr.heap.size, 4, none⟩ = some (.bool (decide (0 < c))) := cell_of_row wc wr.heap.size 4 _ _ _ hblk
              have hJc : J pre wc := hJ pre wr wc none hJr (grownBy_of_below hBl none) (fun r e => by cases e)
              have hwc := hwr.below hwlt hBl
              have hEc := hEr.kept hBl
              have hsl := hBl.size
              have hlen : pre.length < (evs 1 s.data.toList).length := by rw [← HV.out, HX.out]; simp
              obtain ⟨fn, tmps, assign, body, hy, hR⟩ := hY pre ({ kind := kd, s := ts, n := nn, line := ln + c, nl := decide (0 < c) }, 0) wc hJc hlen
              have hy2 : (Instr.yield l #[.agg #[.int .i64 kd, .string (bs ts), .int .i64 nn, .int .i64 (↑ln + ↑c), .bool (decide (0 < c))], .int .i64 0]).run Tryd.prog wc = .ok (Next.round l fn tmps assign body) wc := hy
              clear hblk hy
              gi_wp2
              refine hR.mono ?_
              rintro e W3 (⟨rfl, hJ3, hk3⟩ | ⟨rfl, hJx3⟩)
              · have hwW := hwc.walks hk3.2
                have hEW := hEc.below hn3 hk3.1
                have hsW := hk3.2.size
                gi_wp2
                go_roundw
                case rel =>
                  refine ⟨(r.extract g r.size).extract len (r.size - g), ln + c, pre ++ [({ kind := kd, s := ts, n := nn, line := ln + c, nl := decide (0 < c) }, 0)], rfl, by go_num, ?_, ?_, ?_, hJ3, hwW, hEW, by omega⟩
                  · rw [← hszx.out, ext_size, hszx.out]; omega
                  · rw [← hszx.out, ext_size, hszx.out]; omega
                  · rw [← HV.out, HX.out, ← hszx.out, ext_drop, ext_drop]; simp
                case measure => simp; omega
              · gi_wp2
                refine bodyPost_ret (results_none rfl _ _ _) rfl ?_
                exact ⟨⟨_, rfl⟩, .inr ⟨_, by rw [← HV.out, HX.out]; exact List.prefix_append_right_inj _ |>.2 (by simp), hJx3⟩⟩
          · have HX := Lib.hid (H3.out her)
            have hne0 : (er == 0) = false := by simpa using her
            gi_upto_region 9 with (first | (refine ⟨trivial, ?_⟩; gi_at_call 32; refine (callsIn_wide.2 (HC1.out _ (hEr.kept ((Below.refl _ wr).alloc (Nat.le_refl _) _)))).mono ?_; rintro e w1 ⟨rfl, hb⟩) | (refine ⟨trivial, ?_⟩; gi_at_call 33; refine (callsIn_wide.2 (HC2.out _)).mono ?_; rintro e w' ⟨rfl, rfl⟩) | (refine ⟨trivial, ?_⟩; gi_at_call 34; refine (callsIn_wide.2 (HC3.out _ (((Below.refl _ wr).alloc (Nat.le_refl _) _).trans (hb.mono (by simp))))).mono ?_; rintro e w2 ⟨rfl, hb2⟩; have hblk2 : w2.heap[wr.heap.size]? = some (.cells #[.int .i64 0, .string ⟨#[]⟩, .int .i64 0, .int .i64 0, .bool false] 30 (0, 0)) := (hb2.block wr.heap.size (by have := hb.size; simp at this; omega)).trans ((hb.block wr.heap.size (by simp)).trans (heap_alloc_new wr _)); have c0 : w2.cell? ⟨wr.heap.size, 0, none⟩ = some (.int .i64 0) := cell_of_row w2 wr.heap.size 0 _ _ _ hblk2; have c1 : w2.cell? ⟨wr.heap.size, 1, none⟩ = some (.string ⟨#[]⟩) := cell_of_row w2 wr.heap.size 1 _ _ _ hblk2; have c2 : w2.cell? ⟨wr.heap.size, 2, none⟩ = some (.int .i64 0) := cell_of_row w2 wr.heap.size 2 _ _ _ hblk2; have c3 : w2.cell? ⟨wr.heap.size, 3, none⟩ = some (.int .i64 0) := cell_of_row w2 wr.heap.size 3 _ _ _ hblk2; have c4 : w2.cell? ⟨wr.heap.size, 4, none⟩ = some (.bool false) := cell_of_row w2 wr.heap.size 4 _ _ _ hblk2; have f0 := fun j => frozen_of_row w2 wr.heap.size j _ _ hblk2; have HB2 := Lib.hid hblk2; clear hblk2))
            have hBx : Below wr.heap.size wr w2 := (((Below.refl _ wr).alloc (Nat.le_refl _) _).trans (hb.mono (by simp))).trans (hb2.mono (by have := hb.size; simp at this; omega))
            gi_cut [] from 38 (fun wx => wx.heap[wr.heap.size]? = some (.cells #[.int .i64 kd, .string (bs ts), .int .i64 nn, .int .i64 ((ln + c : Nat) : Int), .bool (decide (0 < c))] 30 (0, 0)) ∧ Below wr.heap.size wr wx)
            case first =>
              gi_wp2
              gi_meet
              case rel =>
                refine ⟨?_, ((((((hBx.setCell (Nat.le_refl _) _).setCell (Nat.le_refl _) _).setCell (Nat.le_refl _) _).setCell (Nat.le_refl _) _).setCell (Nat.le_refl _) _).setCell (Nat.le_refl _) _).setCell (Nat.le_refl _) _⟩
                rw [blk_set (blk_set (blk_set (blk_set (blk_set (blk_set (blk_set HB2.out 0 _) 1 _) 2 _) 3 _) 4 _) 3 _) 4 _]
                simp
            case rest =>
              obtain ⟨hblk, hBl⟩ := hcut
              have c0 : wc.cell? ⟨wr.heap.size, 0, none⟩ = some (.int .i64 kd) := cell_of_row wc wr.heap.size 0 _ _ _ hblk
              have c1 : wc.cell? ⟨wr.heap.size, 1, none⟩ = some (.string (bs ts)) := cell_of_row wc wr.heap.size 1 _ _ _ hblk
              have c2 : wc.cell? ⟨wr.heap.size, 2, none⟩ = some (.int .i64 nn) := cell_of_row wc wr.heap.size 2 _ _ _ hblk
              have c3 : wc.cell? ⟨wr.heap.size, 3, none⟩ = some (.int .i64 ((ln + c : Nat) : Int)) := cell_of_row wc wr.heap.size 3 _ _ _ hblk
              have c4 : wc.cell? ⟨wr.heap.size, 4, none⟩ = some (.bool (decide (0 < c))) := cell_of_row wc wr.heap.size 4 _ _ _ hblk
              have hJc : J pre wc := hJ pre wr wc none hJr (grownBy_of_below hBl none) (fun r e => by cases e)
              have hwc := hwr.below hwlt hBl
              have hEc := hEr.kept hBl
              have hsl := hBl.size
              have hlen : pre.length < (evs 1 s.data.toList).length := by rw [← HV.out, HX.out]; simp
              obtain ⟨fn, tmps, assign, body, hy, hR⟩ := hY pre ({ kind := kd, s := ts, n := nn, line := ln + c, nl := decide (0 < c) }, er) wc hJc hlen
              have hy2 : (Instr.yield l #[.agg #[.int .i64 kd, .string (bs ts), .int .i64 nn, .int .i64 (↑ln + ↑c), .bool (decide (0 < c))], .int .i64 er]).run Tryd.prog wc = .ok (Next.round l fn tmps assign body) wc := hy
              clear hblk hy
              gi_wp2
              refine hR.mono ?_
              rintro e W3 (⟨rfl, hJ3, hk3⟩ | ⟨rfl, hJx3⟩)
              · gi_wp2
                refine bodyPost_ret (results_none rfl _ _ _) rfl ?_
                exact ⟨⟨_, rfl⟩, .inl ⟨_, by rw [← HV.out, HX.out], hJ3⟩⟩
              · gi_wp2
                refine bodyPost_ret (results_none rfl _ _ _) rfl ?_
                exact ⟨⟨_, rfl⟩, .inr ⟨_, by rw [← HV.out, HX.out]; exact List.prefix_append_right_inj _ |>.2 (by simp), hJx3⟩⟩

      · have HX := Lib.hid (HE1.out (by decide))
        gi_upto_region 9 with (first | (refine ⟨trivial, ?_⟩; gi_at_call 32; refine (callsIn_wide.2 (HC1.out _ (hEr.kept ((Below.refl _ wr).alloc (Nat.le_refl _) _)))).mono ?_; rintro e w1 ⟨rfl, hb⟩) | (refine ⟨trivial, ?_⟩; gi_at_call 33; refine (callsIn_wide.2 (HC2.out _)).mono ?_; rintro e w' ⟨rfl, rfl⟩))
        have hBx : Below wr.heap.size wr w1 := ((Below.refl _ wr).alloc (Nat.le_refl _) _).trans (hb.mono (by simp))
        have hblk0 := (hb.block wr.heap.size (by simp)).trans (heap_alloc_new wr _)
        have hblkA : w1.heap[wr.heap.size]? = some (.cells #[.int .i64 0, .string ⟨#[]⟩, .int .i64 0, .int .i64 0, .bool false] 30 (0, 0)) := hblk0
        gi_cut [] from 38 (fun wx => wx.heap[wr.heap.size]? = some (.cells #[.int .i64 0, .string ⟨#[]⟩, .int .i64 0, .int .i64 ((ln + c : Nat) : Int), .bool (decide (0 < c))] 30 (0, 0)) ∧ Below wr.heap.size wr wx)
        case first =>
          have c0 : w1.cell? ⟨wr.heap.size, 0, none⟩ = some (.int .i64 0) := cell_of_row w1 wr.heap.size 0 _ _ _ hblkA
          have c1 : w1.cell? ⟨wr.heap.size, 1, none⟩ = some (.string ⟨#[]⟩) := cell_of_row w1 wr.heap.size 1 _ _ _ hblkA
          have c2 : w1.cell? ⟨wr.heap.size, 2, none⟩ = some (.int .i64 0) := cell_of_row w1 wr.heap.size 2 _ _ _ hblkA
          have c3 : w1.cell? ⟨wr.heap.size, 3, none⟩ = some (.int .i64 0) := cell_of_row w1 wr.heap.size 3 _ _ _ hblkA
          have c4 : w1.cell? ⟨wr.heap.size, 4, none⟩ = some (.bool false) := cell_of_row w1 wr.heap.size 4 _ _ _ hblkA
          have f0 := fun j => frozen_of_row w1 wr.heap.size j _ _ hblkA
          gi_wp2
          gi_meet
          case rel =>
            refine ⟨?_, (hBx.setCell (Nat.le_refl _) _).setCell (Nat.le_refl _) _⟩
            rw [blk_set (blk_set hblkA 3 _) 4 _]
            simp
        case rest =>
          obtain ⟨hblk, hBl⟩ := hcut
          have c0 : wc.cell? ⟨wr.heap.size, 0, none⟩ = some (.int .i64 0) := cell_of_row wc wr.heap.size 0 _ _ _ hblk
          have c1 : wc.cell? ⟨wr.heap.size, 1, none⟩ = some (.string ⟨#[]⟩) := cell_of_row wc wr.heap.size 1 _ _ _ hblk
          have c2 : wc.cell? ⟨wr.heap.size, 2, none⟩ = some (.int .i64 0) := cell_of_row wc wr.heap.size 2 _ _ _ hblk
          have c3 : wc.cell? ⟨wr.heap.size, 3, none⟩ = some (.int .i64 ((ln + c : Nat) : Int)) := cell_of_row wc wr.heap.size 3 _ _ _ hblk
          have c4 : wc.cell? ⟨wr.heap.size, 4, none⟩ = some (.bool (decide (0 < c))) := cell_of_row wc wr.heap.size 4 _ _ _ hblk
          have hJc : J pre wc := hJ pre wr wc none hJr (grownBy_of_below hBl none) (fun r e => by cases e)
          have hwc := hwr.below hwlt hBl
          have hEc := hEr.kept hBl
          have hsl := hBl.size
          have hlen : pre.length < (evs 1 s.data.toList).length := by rw [← HV.out, HX.out]; simp
          obtain ⟨fn, tmps, assign, body, hy, hR⟩ := hY pre ({ Tok.zero with line := ln + c, nl := decide (0 < c) }, 23) wc hJc hlen
          have hy2 : (Instr.yield l #[.agg #[.int .i64 0, .string ⟨#[]⟩, .int .i64 0, .int .i64 (↑ln + ↑c), .bool (decide (0 < c))], .int .i64 23]).run Tryd.prog wc = .ok (Next.round l fn tmps assign body) wc := hy
          clear hblk hy
          gi_wp2
          refine hR.mono ?_
          rintro e W3 (⟨rfl, hJ3, hk3⟩ | ⟨rfl, hJx3⟩)
          · gi_wp2
            refine bodyPost_ret (results_none rfl _ _ _) rfl ?_
            exact ⟨⟨_, rfl⟩, .inl ⟨_, by rw [← HV.out, HX.out], hJ3⟩⟩
          · gi_wp2
            refine bodyPost_ret (results_none rfl _ _ _) rfl ?_
            exact ⟨⟨_, rfl⟩, .inr ⟨_, by rw [← HV.out, HX.out]; exact List.prefix_append_right_inj _ |>.2 (by simp), hJx3⟩⟩

set_option maxHeartbeats 1000000 in
/-- jlex.tokens: the text is boxed. -/
theorem tokens_in (n : Nat) (s : ByteArray) (w : World) :
    CallsIn Fence.wide n Tryd.prog 28 #[.string s] w fun e w' => e = .returned (.func (.func 31) #[] #[.pointer (some ⟨w.heap.size, 0, none⟩)]) ∧ w' = w.alloc (.cells #[.string s] 9) := by
  refine callsIn_of_wp Tryd.func28 rfl trivial ?_ rfl
  simp only [Tryd.ntmps28, List.size_toArray, List.length_cons, List.length_nil, Nat.reduceAdd, Nat.reduceSub, Array.replicate_succ, Array.replicate_zero, List.push_toArray, List.append_toArray, List.nil_append, List.cons_append]
  gi_wp2
  go_ret
  exact ⟨rfl, rfl⟩

/-- What jlex.tokens hands back: it hands over the text's tokens, in turn, or a part of them where a round has said 'no more'. -/
theorem tokens_stops (n : Nat) (hn : 1 ≤ n) (Bx n₀ : Nat) (s : ByteArray) (hs : s.size ≤ 100000) (w : World) (hBx : Boxed w Bx 9 (.string s)) (hE : Env w) (hn3 : 3 ≤ n₀) :
    SeqStopsK Fence.wide n Tryd.prog 31 #[.pointer (some ⟨Bx, 0, none⟩)] encE (KW n₀) (fun ys => ys = evs 1 s.data.toList) (fun pre => pre <+: evs 1 s.data.toList) (evs 1 s.data.toList).length w := fun l J Jx W hW hJ _ hY h0 =>
  tokens1_in n hn l Bx n₀ s hs J Jx W hJ hY ((hW.block Bx hBx.lt).trans hBx) (hE.kept hW) hn3 h0
end Go.Proofs.YtfjfbpmlohgghaaDoor
