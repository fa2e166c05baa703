/- The law's walk: texts that are too long, and too many tokens. -/
import Derived.Test.YtfjfbpmlohgghaaDoorShown
import Derived.Test.YtfjfbpmlohgghaaDoorMathL
import Derived.Test.YtfjfbpmlohgghaaDoorQuote
namespace Go.Proofs.YtfjfbpmlohgghaaDoor
open Go.RowKit Go.Proofs

set_option maxRecDepth 100000 in
set_option maxHeartbeats 2000000 in
theorem long_out (n m : Int) (w : World) (hE : Env w) (h : n < 65000 ∨ (¬ n < 65000 ∧ 70000 < n) ∨ (¬ n < 65000 ∧ ¬ 70000 < n ∧ m < 19990) ∨ (¬ n < 65000 ∧ ¬ 70000 < n ∧ ¬ m < 19990 ∧ 20010 < m)) :
    Calls Tryd.prog 7 #[.int .i64 n, .int .i64 m] w fun e w' => e = .returned (.bool true) ∧ Below w.heap.size w w' := by
  have HS := Lib.hid (shown_any w hE)
  rcases h with h | ⟨h, h2⟩ | ⟨h, h2, h3⟩ | ⟨h, h2, h3, h4⟩
  all_goals
    go_enter Tryd.func7, Tryd.ntmps7
    go_wp2_with (go_at_call 10; refine HS.out.mono ?_; rintro e w1 ⟨rfl, hB1⟩)
    go_ret
    exact ⟨rfl, hB1⟩

def reps (c : UInt8) (k : Nat) : Bs := List.replicate k c
theorem reps_len (c : UInt8) (k : Nat) : (reps c k).length = k := List.length_replicate
theorem reps_succ (c : UInt8) (k : Nat) : reps c (k + 1) = reps c k ++ [c] := List.replicate_succ'
theorem no_row {B : Nat} : ∀ k, (none : Option Nat) = some k → B ≤ k := fun _ h => by cases h

set_option maxRecDepth 100000 in
set_option maxHeartbeats 4000000 in
theorem long_in (n m : Nat) (o1 o2 : Lexed) (w : World) (hE : Env w) (hn : 65000 ≤ n) (hn2 : n ≤ 70000) (hm : 19990 ≤ m) (hm2 : m ≤ 20010)
    (H1 : ∀ w, Env w → Calls Tryd.prog 18 #[.string (bs (reps 97 n))] w (LexPost w o1)) (H2 : ∀ w, Env w → Calls Tryd.prog 18 #[.string (bs (reps 59 m))] w (LexPost w o2))
    (g1 : o1.line = 0 ∧ (n ≤ 65536 ∧ o1.e = 0 ∨ 65536 < n ∧ o1.e = 20)) (g2 : m ≤ 20000 ∧ o2.line = 0 ∧ o2.e = 0 ∨ 20000 < m ∧ o2.line = 1 ∧ o2.e = 20) :
    Calls Tryd.prog 7 #[.int .i64 n, .int .i64 m] w fun e w' => e = .returned (.bool true) ∧ Below w.heap.size w w' := by
  obtain ⟨t1, ln1, e1⟩ := o1
  obtain ⟨t2, ln2, e2⟩ := o2
  dsimp only at g1 g2
  have HS := Lib.hid (shown_any w hE)
  obtain ⟨i0, hi, hz0, hz1, hz2⟩ := info_parts info5
  have HI := Lib.hid (And.intro hi (And.intro hz0 (And.intro hz1 hz2)))
  clear hi hz0 hz1 hz2
  have H1 := Lib.hid H1
  have H2 := Lib.hid H2
  have g1 := Lib.hid g1
  have g2 := Lib.hid g2
  have f1 : ¬ (n : Int) < 65000 := by omega
  have f2 : ¬ (70000 : Int) < n := by omega
  have f3 : ¬ (m : Int) < 19990 := by omega
  have f4 : ¬ (20010 : Int) < m := by omega
  go_enter Tryd.func7, Tryd.ntmps7
  go_wp2_with (first | (go_at_call 10; refine HS.out.mono ?_; rintro e w1 ⟨rfl, hB1⟩; have hs1 := hB1.size) | (at_make; refine wpList_make_own _ rfl _ _ 31 rfl w.heap.size 5 i0 (.int .u8 0) 1 Tryd.underlying31 HI.out.1 HI.out.2.1 HI.out.2.2.1 .i64 .i64 70000 70000 rfl rfl rfl (by rw [HI.out.2.2.2]; decide) (by unfold maxLen; decide) hs1 ?_; intro w2 hown hgrow; have hB2 := hB1.grown hgrow hs1 no_row; clear hgrow))
  go_loopw [6, 7] (fun v i wr => ∃ k : Nat, k ≤ n ∧ i = .int .i64 k ∧ wr.ownsRow w.heap.size 5 1 v (reps 97 k).length (Lib.byteCells (reps 97 k)) ∧ Below w.heap.size w wr) (fun _ i _ => n - (intOf i).toNat)
  case atStart => exact ⟨0, Nat.zero_le _, rfl, hown, hB2⟩
  case round =>
    obtain ⟨k, hk, rfl, hrow, hB⟩ := hrel
    have hsz := hB.size
    have hl := reps_len 97 k
    clear hown hB2
    by_cases hlt : k < n
    · go_wp2_with (at_builtin; refine wpList_append_own _ rfl _ _ 31 rfl w.heap.size 5 i0 (.int .u8 0) 1 1 Tryd.underlying31 HI.out.1 HI.out.2.1 HI.out.2.2.1 HI.out.2.2.2 rfl (by decide) _ _ _ rfl (hrow.alloc _) ⟨wr.heap.size, 0, none⟩ 1 1 [.int .u8 97] rfl rfl (cell_one_new _ _ _) (by simp [Value.oneCell']) (by unfold maxLen; omega) (by omega) (by simp; omega) ?_; intro v' w' hown hg _; have HG := Lib.hid (And.intro hown hg); clear hown hg)
      go_roundw
      case rel =>
        refine ⟨k + 1, by omega, by go_num, ?_, (hB.alloc hB.size _).grown HG.out.2 (by simp; omega) (own_row_ge hrow)⟩
        have := HG.out.1
        rw [reps_succ]
        simpa [Lib.byteCells] using this
      case measure => simp [intOf]; omega
    · obtain rfl : k = n := by omega
      have hcv := byteRow_str hrow
      have hE1 := hE.kept hB
      clear hrow
      go_wp2_with (first | (go_at_call 18; refine (H1.out _ hE1).mono ?_; intro e w3 hp; obtain ⟨A1, cap1, rfl, hb3⟩ := lex_slice hp; have hB3 := hB.trans (hb3.mono hsz); have hs3 := hB3.size; clear hp hb3 hcv) | (at_make; refine wpList_make_own _ rfl _ _ 31 rfl w.heap.size 5 i0 (.int .u8 0) 1 Tryd.underlying31 HI.out.1 HI.out.2.1 HI.out.2.2.1 .i64 .i64 20010 20010 rfl rfl rfl (by rw [HI.out.2.2.2]; decide) (by unfold maxLen; decide) hs3 ?_; intro w4 hown hgrow; have hB4 := hB3.grown hgrow hs3 no_row; clear hgrow))
      go_loopw [11, 12] (fun v i wr => ∃ j : Nat, j ≤ m ∧ i = .int .i64 j ∧ wr.ownsRow w.heap.size 5 1 v (reps 59 j).length (Lib.byteCells (reps 59 j)) ∧ Below w.heap.size w wr) (fun _ i _ => m - (intOf i).toNat)
      case atStart => exact ⟨0, Nat.zero_le _, rfl, hown, hB4⟩
      case round =>
        obtain ⟨j, hj, rfl, hrow2, hB5⟩ := hrel
        have hsz5 := hB5.size
        have hl5 := reps_len 59 j
        clear hown hB4
        by_cases hlt2 : j < m
        · go_wp2_with (at_builtin; refine wpList_append_own _ rfl _ _ 31 rfl w.heap.size 5 i0 (.int .u8 0) 1 1 Tryd.underlying31 HI.out.1 HI.out.2.1 HI.out.2.2.1 HI.out.2.2.2 rfl (by decide) _ _ _ rfl (hrow2.alloc _) ⟨_, 0, none⟩ 1 1 [.int .u8 59] rfl rfl (cell_one_new _ _ _) (by simp [Value.oneCell']) (by unfold maxLen; omega) (by omega) (by simp; omega) ?_; intro v' w' hown hg _; have HG := Lib.hid (And.intro hown hg); clear hown hg)
          go_roundw
          case rel =>
            refine ⟨j + 1, by omega, by go_num, ?_, (hB5.alloc hB5.size _).grown HG.out.2 (by simp; omega) (own_row_ge hrow2)⟩
            have := HG.out.1
            rw [reps_succ]
            simpa [Lib.byteCells] using this
          case measure => simp [intOf]; omega
        · obtain rfl : j = m := by omega
          have hcv5 := byteRow_str hrow2
          have hE5 := hE.kept hB5
          clear hrow2
          obtain ⟨rfl, G1⟩ := g1.out
          have G2 := g2.out
          clear g1 g2
          rcases G1 with ⟨p1, rfl⟩ | ⟨p1, rfl⟩ <;> rcases G2 with ⟨p2, rfl, rfl⟩ | ⟨p2, rfl, rfl⟩
          · have c1 : ¬ (65536 : Int) < k := by omega
            have c2 : ¬ (20000 : Int) < j := by omega
            clear p1 p2
            go_wp2_with (go_at_call 18; refine (H2.out _ hE5).mono ?_; intro e w6 hp; obtain ⟨A2, cap2, rfl, hb6⟩ := lex_slice hp; have hB6 := hB5.trans (hb6.mono hsz5); clear hp hb6 hcv5)
            go_ret
            refine ⟨ret_b ?_, hB6⟩
            simp <;> omega
          · have c1 : ¬ (65536 : Int) < k := by omega
            have c2 : (20000 : Int) < j := by omega
            clear p1 p2
            go_wp2_with (go_at_call 18; refine (H2.out _ hE5).mono ?_; intro e w6 hp; obtain ⟨A2, cap2, rfl, hb6⟩ := lex_slice hp; have hB6 := hB5.trans (hb6.mono hsz5); clear hp hb6 hcv5)
            go_ret
            refine ⟨ret_b ?_, hB6⟩
            simp <;> omega
          · have c1 : (65536 : Int) < k := by omega
            have c2 : ¬ (20000 : Int) < j := by omega
            clear p1 p2
            go_wp2_with (go_at_call 18; refine (H2.out _ hE5).mono ?_; intro e w6 hp; obtain ⟨A2, cap2, rfl, hb6⟩ := lex_slice hp; have hB6 := hB5.trans (hb6.mono hsz5); clear hp hb6 hcv5)
            go_ret
            refine ⟨ret_b ?_, hB6⟩
            simp <;> omega
          · have c1 : (65536 : Int) < k := by omega
            have c2 : (20000 : Int) < j := by omega
            clear p1 p2
            go_wp2_with (go_at_call 18; refine (H2.out _ hE5).mono ?_; intro e w6 hp; obtain ⟨A2, cap2, rfl, hb6⟩ := lex_slice hp; have hB6 := hB5.trans (hb6.mono hsz5); clear hp hb6 hcv5)
            go_ret
            refine ⟨ret_b ?_, hB6⟩
            simp <;> omega

theorem lexes (l : Bs) (hl : l.length ≤ maxLen) : ∃ o, (∀ w, Env w → Calls Tryd.prog 18 #[.string (bs l)] w (LexPost w o)) ∧ (l.length ≤ 65536 ∧ o = lexE l ∨ 65536 < l.length ∧ o = ⟨[], 0, 20⟩) := by
  by_cases h : l.length ≤ 65536
  · refine ⟨lexE l, fun w hE => ?_, .inl ⟨h, rfl⟩⟩
    have := lex_any (bs l) w (by rw [bs_size]; exact h) hE
    rwa [bs_list] at this
  · exact ⟨_, fun w hE => lex_long (bs l) w (by rw [bs_size]; exact hl) (by rw [bs_size]; omega), .inr ⟨by omega, rfl⟩⟩
theorem long_walk (n m : Int) (w : World) (hE : Env w) : Calls Tryd.prog 7 #[.int .i64 n, .int .i64 m] w fun e w' => e = .returned (.bool true) ∧ Below w.heap.size w w' := by
  by_cases h : n < 65000 ∨ (¬ n < 65000 ∧ 70000 < n) ∨ (¬ n < 65000 ∧ ¬ 70000 < n ∧ m < 19990) ∨ (¬ n < 65000 ∧ ¬ 70000 < n ∧ ¬ m < 19990 ∧ 20010 < m)
  · exact long_out n m w hE h
  · obtain ⟨N, rfl⟩ : ∃ N : Nat, n = N := ⟨n.toNat, by omega⟩
    obtain ⟨M, rfl⟩ : ∃ M : Nat, m = M := ⟨m.toNat, by omega⟩
    have hN := reps_len 97 N
    have hM := reps_len 59 M
    obtain ⟨o1, H1, g1⟩ := lexes (reps 97 N) (by unfold maxLen; omega)
    obtain ⟨o2, H2, g2⟩ := lexes (reps 59 M) (by unfold maxLen; omega)
    refine long_in N M o1 o2 w hE (by omega) (by omega) (by omega) (by omega) H1 H2 ?_ ?_
    · rcases g1 with ⟨p, rfl⟩ | ⟨p, rfl⟩
      · have := lex_as N (by omega)
        exact ⟨this.1, .inl ⟨by omega, this.2⟩⟩
      · exact ⟨rfl, .inr ⟨by omega, rfl⟩⟩
    · rcases g2 with ⟨p, rfl⟩ | ⟨p, rfl⟩
      · by_cases h2 : M ≤ 20000
        · exact .inl ⟨h2, lex_semis M h2⟩
        · exact .inr ⟨by omega, lex_semis_long M (by omega)⟩
      · omega
end Go.Proofs.YtfjfbpmlohgghaaDoor
