/- The law ValueBig's walk. -/
import Derived.Test.YtpgclgfaiklpoaaDoorShown
import Derived.Deep.OwnRows
import Derived.Maps.AppendAt
import Derived.OwnWalk
namespace Go.Proofs.YtpgclgfaiklpoaaDoor
open Go.RowKit Go.Proofs

theorem info5 : (Tryd.prog.info? 5).map (fun i => (i.zero, i.size, i.bytes)) = some (some (.int .u8 0), 1, 1) := by kernel_rfl
theorem own_row_ge {W : World} {B e size n : Nat} {v : Value} {xs : List Value} (h : W.ownsRow B e size v n xs) : ∀ r, v.ownBlock = some r → B ≤ r := fun r hr => by
  rcases h.2 with ⟨rfl, _⟩ | ⟨g, cap, cur, rfl, h1, _⟩
  · simp [Value.ownBlock] at hr
  · simp [Value.ownBlock] at hr
    omega
theorem no_row {B : Nat} : ∀ k, (none : Option Nat) = some k → B ≤ k := fun _ h => by cases h
def reps (k : Nat) : Bs := List.replicate k 97
theorem reps_len (k : Nat) : (reps k).length = k := List.length_replicate
theorem reps_succ (k : Nat) : reps (k + 1) = reps k ++ [97] := List.replicate_succ'

set_option maxRecDepth 100000 in
set_option maxHeartbeats 2000000 in
theorem big_out (n : Int) (w : World) (hE : Env w) (h : n < 65000 ∨ (¬ n < 65000 ∧ 70000 < n)) :
    Calls Tryd.prog 9 #[.int .i64 n] w fun e w' => e = .returned (.bool true) ∧ Below w.heap.size w w' := by
  have HS := Lib.hid (shown_any w hE)
  rcases h with h | ⟨h, h2⟩
  all_goals
    go_enter Tryd.func9, Tryd.ntmps9
    go_wp2_with (go_at_call 11; refine HS.out.mono ?_; rintro e w1 ⟨rfl, hB1⟩)
    go_ret
    exact ⟨rfl, hB1⟩

/-- What the sum is: too long, or so long. -/
theorem two_big (k : Nat) (hk : k ≤ 70000) : (65534 < k ∧ twoV [43] (.text (kb (reps k))) (.text ⟨#[98, 99]⟩) = .tuple #[.agg #[.int .i64 0, .int .i64 0, .string ⟨#[]⟩], .int .i64 61]) ∨
    (k ≤ 65534 ∧ ∃ S : ByteArray, S.size = k + 2 ∧ twoV [43] (.text (kb (reps k))) (.text ⟨#[98, 99]⟩) = .tuple #[.agg #[.int .i64 4, .int .i64 0, .string S], .int .i64 0]) := by
  have e : twoV [43] (.text (kb (reps k))) (.text ⟨#[98, 99]⟩) = okV (.text (kb (reps k) ++ ⟨#[98, 99]⟩)) := rfl
  have hs : (kb (reps k) ++ (⟨#[98, 99]⟩ : ByteArray)).size = k + 2 := by
    rw [ByteArray.size_append, kb_size, reps_len]
    rfl
  rw [e]
  by_cases h : 65534 < k
  · refine .inl ⟨h, ?_⟩
    exact if_pos (by show 65536 < (kb (reps k) ++ (⟨#[98, 99]⟩ : ByteArray)).size; omega)
  · refine .inr ⟨by omega, _, hs, ?_⟩
    exact if_neg (by show ¬ 65536 < (kb (reps k) ++ (⟨#[98, 99]⟩ : ByteArray)).size; omega)

set_option maxRecDepth 100000 in
set_option maxHeartbeats 4000000 in
theorem big_in (n : Nat) (w : World) (hE : Env w) (hn : 65000 ≤ n) (hn2 : n ≤ 70000) :
    Calls Tryd.prog 9 #[.int .i64 n] w fun e w' => e = .returned (.bool true) ∧ Below w.heap.size w w' := by
  have HE := Lib.hid (fun (w' : World) (hb : Below w.heap.size w w') => hE.kept hb)
  have HS := Lib.hid (shown_any w hE)
  obtain ⟨i0, hi, hz0, hz1, hz2⟩ := info_parts info5
  have HI := Lib.hid (And.intro hi (And.intro hz0 (And.intro hz1 hz2)))
  clear hi hz0 hz1 hz2
  have hT := two_big n hn2
  have hks : (kb (reps n)).size ≤ 281474976710656 := by rw [kb_size, reps_len]; omega
  have HX := Lib.hid (fun s w => text_mk s w)
  have HA := Lib.hid (fun w hE => two_any ⟨#[43]⟩ (.text (kb (reps n))) (.text ⟨#[98, 99]⟩) hks (show _ ≤ 281474976710656 by decide) w hE (by decide))
  have f1 : ¬ (n : Int) < 65000 := by omega
  have f2 : ¬ (70000 : Int) < n := by omega
  simp only [J.v] at HX HA
  have HT := Lib.hid hT
  clear hT hE hks
  go_enter Tryd.func9, Tryd.ntmps9
  go_wp2_with (first | (go_at_call 11; refine HS.out.mono ?_; rintro e w1 ⟨rfl, hB1⟩; have hs1 := hB1.size) | (at_make; refine wpList_make_own _ rfl _ _ 37 rfl w.heap.size 5 i0 (.int .u8 0) 1 Tryd.underlying37 HI.out.1 HI.out.2.1 HI.out.2.2.1 .i64 .i64 70000 70000 rfl rfl rfl (by rw [HI.out.2.2.2]; decide) (by unfold maxLen; decide) hs1 ?_; intro w2 hown hgrow; have hB2 := hB1.grown hgrow hs1 no_row; clear hgrow))
  go_loopw [4, 5] (fun v i wr => ∃ k : Nat, k ≤ n ∧ i = .int .i64 k ∧ wr.ownsRow w.heap.size 5 1 v (reps k).length (Lib.byteCells (reps k)) ∧ Below w.heap.size w wr) (fun _ i _ => n - (intOf i).toNat)
  case atStart => exact ⟨0, Nat.zero_le _, rfl, hown, hB2⟩
  case round =>
    obtain ⟨k, hk, rfl, hrow, hB⟩ := hrel
    have hsz := hB.size
    have hl := reps_len k
    clear hown hB2
    by_cases hlt : k < n
    · go_wp2_with (at_builtin; refine wpList_append_own _ rfl _ _ 37 rfl w.heap.size 5 i0 (.int .u8 0) 1 1 Tryd.underlying37 HI.out.1 HI.out.2.1 HI.out.2.2.1 HI.out.2.2.2 rfl (by decide) _ _ _ rfl (hrow.alloc _) ⟨wr.heap.size, 0, none⟩ 1 1 [.int .u8 97] rfl rfl (cell_one_new _ _ _) (by simp [Value.oneCell']) (by unfold maxLen; omega) (by omega) (by simp; omega) ?_; intro v' w' hown hg _; have HG := Lib.hid (And.intro hown hg); clear hown hg)
      go_roundw
      case rel =>
        refine ⟨k + 1, by omega, by go_num, ?_, (hB.alloc hB.size _).grown HG.out.2 (by simp; omega) (own_row_ge hrow)⟩
        have := HG.out.1
        rw [reps_succ]
        simpa [Lib.byteCells] using this
      case measure => simp [intOf]; omega
    · obtain rfl : k = n := by omega
      have hcv := byteRow_str hrow
      have BC := Lib.hid hB
      rcases HT.out with ⟨hc, hT⟩ | ⟨hc, S, hS, hT⟩
      · rw [hT] at HA
        have g1 : (65534 : Int) < k := by omega
        have g2 : (65536 : Int) < (k : Int) + 2 := by omega
        clear hrow HT hT hc
        go_wp2_with fail
        go_at_call 27
        refine (HX.out _ _).mono ?_
        rintro e w3 ⟨rfl, hb⟩
        replace BC := stepE BC.out hb
        clear hb hcv
        go_wp2_with fail
        go_at_call 27
        refine (HX.out _ _).mono ?_
        rintro e w4 ⟨rfl, hb⟩
        replace BC := stepE BC.out hb
        clear hb
        go_wp2_with fail
        go_at_call 24
        refine (HA.out _ (HE.out _ BC.out)).mono ?_
        rintro e w5 ⟨rfl, hb⟩
        replace BC := stepE BC.out hb
        clear hb
        go_wp2
        go_ret
        exact ⟨rfl, BC.out.alloc BC.out.size _⟩
      · rw [hT] at HA
        have g1 : ¬ (65534 : Int) < k := by omega
        have g2 : ¬ (65536 : Int) < (k : Int) + 2 := by omega
        have g3 : (S.size : Int) = (k : Int) + 2 := by omega
        have G3 := Lib.hid g3
        clear hrow HT hT hc hS g3
        go_wp2_with fail
        go_at_call 27
        refine (HX.out _ _).mono ?_
        rintro e w3 ⟨rfl, hb⟩
        replace BC := stepE BC.out hb
        clear hb hcv
        go_wp2_with fail
        go_at_call 27
        refine (HX.out _ _).mono ?_
        rintro e w4 ⟨rfl, hb⟩
        replace BC := stepE BC.out hb
        clear hb
        go_wp2_with fail
        go_at_call 24
        refine (HA.out _ (HE.out _ BC.out)).mono ?_
        rintro e w5 ⟨rfl, hb⟩
        replace BC := stepE BC.out hb
        clear hb
        have g4 : decide ((65536 : Int) < (k : Int) + 2) = false := by rw [decide_eq_false_iff_not]; omega
        have g5 : (k : Int) ≤ 65534 := by omega
        clear g1 g2
        go_wp2
        go_ret
        refine ⟨ret_b ?_, BC.out.alloc BC.out.size _⟩
        rw [beq_iff_eq]
        exact G3.out
theorem big_walk (n : Int) (w : World) (hE : Env w) : Calls Tryd.prog 9 #[.int .i64 n] w fun e w' => e = .returned (.bool true) ∧ Below w.heap.size w w' := by
  by_cases h : n < 65000 ∨ (¬ n < 65000 ∧ 70000 < n)
  · exact big_out n w hE h
  · obtain ⟨N, rfl⟩ : ∃ N : Nat, n = N := ⟨n.toNat, by omega⟩
    exact big_in N w hE (by omega) (by omega)
end Go.Proofs.YtpgclgfaiklpoaaDoor
