/- heap.New. -/
import Derived.Test.YtpbbinppikaamaaAll
import Derived.Test.YtpbbinppikaamaaAlloc2
namespace Go.Proofs.Ytpbbinppikaamaa
open Go.RowKit Go.Proofs Go.Maps

/-- All blocks from B on. -/
def From (B : Nat) (w : World) : Nat → Prop := fun i => B ≤ i ∧ i < w.heap.size
theorem IsH.since {w w' : World} {B b T : Nat} {L : Hp} (h : IsH w' (ext (From B w) w w') b T L) (hB : B ≤ w.heap.size) (hs : w.heap.size ≤ w'.heap.size) : IsH w' (From B w') b T L :=
  h.mono (fun i hi => by
    rcases hi with hi | hi
    · exact ⟨hi.1, by have := hi.2; omega⟩
    · exact ⟨by omega, hi.2⟩) (fun i hi => hi.2)
theorem Only.since {w w' : World} {B : Nat} (h : Only (From B w) w w') (hB : B ≤ w.heap.size) : Below B w w' := h.below hB (fun _ hi => hi.1)
/-- The objects without their keys. -/
def bare0 : Hp := [⟨0, -1, 0, 0, []⟩, ⟨1, 0, 0, 0, []⟩, ⟨2, 1, -1, 0, []⟩, ⟨3, 1, -2, 0, []⟩]
theorem new_put : putL (putL bare0 1 callB ⟨5, 2, ⟨#[]⟩⟩) 1 applyB ⟨5, 3, ⟨#[]⟩⟩ = new0 := by
  have e1 : putL bare0 1 callB ⟨5, 2, ⟨#[]⟩⟩ = setO bare0 1 callB ⟨5, 2, ⟨#[]⟩⟩ := by
    unfold putL
    rw [if_pos (by decide +kernel)]
    rfl
  rw [e1]
  have e2 : putL (setO bare0 1 callB ⟨5, 2, ⟨#[]⟩⟩) 1 applyB ⟨5, 3, ⟨#[]⟩⟩ = setO (setO bare0 1 callB ⟨5, 2, ⟨#[]⟩⟩) 1 applyB ⟨5, 3, ⟨#[]⟩⟩ := by
    unfold putL
    rw [if_pos (by decide +kernel)]
    rfl
  rw [e2]
  rfl
theorem isH_empty (w : World) : IsH (w.alloc (.cells #[.slice none 0 0] 60)) (From w.heap.size (w.alloc (.cells #[.slice none 0 0] 60))) w.heap.size 0 [] := by
  refine ⟨⟨.slice none 0 0, [], heap_alloc_new _ _, ⟨Nat.le_refl _, by simp⟩, World.ownsRow_nil _ _ _ _, fun k hk => by simp [Value.ownBlock] at hk, rfl, fun i p o hp => by simp at hp, fun p hp => by simp at hp, List.Pairwise.nil, fun i hi => hi.2⟩, fun i o h => by simp at h, by simp⟩
theorem below_box (w : World) (o : Obj) : Below w.heap.size w (w.alloc o) := (Below.refl _ w).alloc (Nat.le_refl _) o
theorem idx0 (w : World) : (Instr.index 61 (.agg #[.int .i64 0, .int .i64 (-1), .int .i64 0, .int .i64 0, .int .i64 1, .int .i64 0, .int .i64 0, .int .i64 0, .int .i64 2, .int .i64 1, .int .i64 (-1), .int .i64 0, .int .i64 3, .int .i64 1, .int .i64 (-2), .int .i64 0]) (.int .i64 0)).run Try.prog w = .ok (.agg #[.int .i64 0, .int .i64 (-1), .int .i64 0, .int .i64 0]) w := by kernel_rfl
theorem idx1 (w : World) : (Instr.index 61 (.agg #[.int .i64 0, .int .i64 (-1), .int .i64 0, .int .i64 0, .int .i64 1, .int .i64 0, .int .i64 0, .int .i64 0, .int .i64 2, .int .i64 1, .int .i64 (-1), .int .i64 0, .int .i64 3, .int .i64 1, .int .i64 (-2), .int .i64 0]) (.int .i64 1)).run Try.prog w = .ok (.agg #[.int .i64 1, .int .i64 0, .int .i64 0, .int .i64 0]) w := by kernel_rfl
theorem idx2 (w : World) : (Instr.index 61 (.agg #[.int .i64 0, .int .i64 (-1), .int .i64 0, .int .i64 0, .int .i64 1, .int .i64 0, .int .i64 0, .int .i64 0, .int .i64 2, .int .i64 1, .int .i64 (-1), .int .i64 0, .int .i64 3, .int .i64 1, .int .i64 (-2), .int .i64 0]) (.int .i64 2)).run Try.prog w = .ok (.agg #[.int .i64 2, .int .i64 1, .int .i64 (-1), .int .i64 0]) w := by kernel_rfl
theorem idx3 (w : World) : (Instr.index 61 (.agg #[.int .i64 0, .int .i64 (-1), .int .i64 0, .int .i64 0, .int .i64 1, .int .i64 0, .int .i64 0, .int .i64 0, .int .i64 2, .int .i64 1, .int .i64 (-1), .int .i64 0, .int .i64 3, .int .i64 1, .int .i64 (-2), .int .i64 0]) (.int .i64 3)).run Try.prog w = .ok (.agg #[.int .i64 3, .int .i64 1, .int .i64 (-2), .int .i64 0]) w := by kernel_rfl
theorem putE0 (L : Hp) (n : Int) (o : Ob) (h : at? L 1 = some o) (hl : L.length = 4) (hn : n = 2 ∨ n = 3) : putE L 1 ⟨5, n, ⟨#[]⟩⟩ = 0 := by
  unfold putE
  rw [if_neg (by rw [h]; simp), if_pos]
  unfold okPut
  rw [hl]
  rcases hn with rfl | rfl <;> decide +kernel
set_option maxRecDepth 100000 in
set_option maxHeartbeats 4000000 in
theorem New_any (w : World) : Calls Try.prog 12 #[] w fun e w' => ∃ b, e = .returned (.pointer (some ⟨b, 0, none⟩)) ∧ IsH w' (From w.heap.size w') b 2 new0 ∧ Below w.heap.size w w' := by
  have H0 := Lib.hid (isH_empty w)
  have HA := Lib.hid (fun (k : Nat) (a1 a2 a3 a4 : Int) (wr W : World) (h : IsH wr (From w.heap.size wr) w.heap.size 0 (bare0.take k)) (hb : Below w.heap.size w wr) (hbW : Below wr.heap.size wr W) (hL : allocL (bare0.take k) a1 a2 a3 a4 = bare0.take (k + 1)) =>
    ((Alloc_any a1 a2 a3 a4 W ((h.below hbW).mono (G := From w.heap.size W) (fun i hi => ⟨hi.1, by have := hi.2; have := hbW.size; omega⟩) (fun i hi => hi.2))).mono (fun e w' h' => by
      obtain ⟨h1, h2, h3⟩ := h'
      have hs := hb.size
      have hs2 := hbW.size
      rw [hL] at h2
      exact ⟨⟨_, h1⟩, h2.since (by omega) h3.size, (hb.trans (hbW.mono hs)).trans (h3.since (by omega))⟩) :
      Calls Try.prog 23 #[.pointer (some ⟨w.heap.size, 0, none⟩), .agg #[.int .i64 a1, .int .i64 a2, .int .i64 a3, .int .i64 a4]] W fun e w' => (∃ v, e = .returned v) ∧ IsH w' (From w.heap.size w') w.heap.size 0 (bare0.take (k + 1)) ∧ Below w.heap.size w w'))
  go_enter Try.func12, Try.ntmps12
  go_wp2
  go_loopw [11] (fun i wr => ∃ k : Nat, k ≤ 4 ∧ i = .int .i64 k ∧ IsH wr (From w.heap.size wr) w.heap.size 0 (bare0.take k) ∧ Below w.heap.size w wr) (fun i _ => 4 - (intOf i).toNat)
  case atStart => exact ⟨0, by omega, rfl, H0.out, below_box w _⟩
  case round =>
    obtain ⟨k, hk, rfl, hI, hB⟩ := hrel
    by_cases hlt : k < 4
    · have hcase : k = 0 ∨ k = 1 ∨ k = 2 ∨ k = 3 := by omega
      have HI := Lib.hid (And.intro hI hB)
      have hlt' : (k : Int) < 4 := by omega
      clear hI hB
      rcases hcase with rfl | rfl | rfl | rfl
      · have HC := Lib.hid (HA.out 0 0 (-1) 0 0 wr (wr.alloc (.cells #[.int .i64 0, .int .i64 (-1), .int .i64 0, .int .i64 0] 30)) HI.out.1 HI.out.2 (below_box _ _) rfl)
        clear HA
        have hx := idx0
        go_wp2_with (go_at_call 23; (with_reducible refine (HC.out).mono ?_); rintro e w' ⟨⟨v, rfl⟩, h1, h2⟩)
        go_roundw
        case rel => exact ⟨1, by omega, by go_num, h1, h2⟩
        case measure => simp [intOf]
      · have HC := Lib.hid (HA.out 1 1 0 0 0 wr (wr.alloc (.cells #[.int .i64 1, .int .i64 0, .int .i64 0, .int .i64 0] 30)) HI.out.1 HI.out.2 (below_box _ _) rfl)
        clear HA
        have hx := idx1
        go_wp2_with (go_at_call 23; (with_reducible refine (HC.out).mono ?_); rintro e w' ⟨⟨v, rfl⟩, h1, h2⟩)
        go_roundw
        case rel => exact ⟨2, by omega, by go_num, h1, h2⟩
        case measure => simp [intOf]
      · have HC := Lib.hid (HA.out 2 2 1 (-1) 0 wr (wr.alloc (.cells #[.int .i64 2, .int .i64 1, .int .i64 (-1), .int .i64 0] 30)) HI.out.1 HI.out.2 (below_box _ _) rfl)
        clear HA
        have hx := idx2
        go_wp2_with (go_at_call 23; (with_reducible refine (HC.out).mono ?_); rintro e w' ⟨⟨v, rfl⟩, h1, h2⟩)
        go_roundw
        case rel => exact ⟨3, by omega, by go_num, h1, h2⟩
        case measure => simp [intOf]
      · have HC := Lib.hid (HA.out 3 3 1 (-2) 0 wr (wr.alloc (.cells #[.int .i64 3, .int .i64 1, .int .i64 (-2), .int .i64 0] 30)) HI.out.1 HI.out.2 (below_box _ _) rfl)
        clear HA
        have hx := idx3
        go_wp2_with (go_at_call 23; (with_reducible refine (HC.out).mono ?_); rintro e w' ⟨⟨v, rfl⟩, h1, h2⟩)
        go_roundw
        case rel => exact ⟨4, by omega, by go_num, h1, h2⟩
        case measure => simp [intOf]
    · obtain rfl : k = 4 := by omega
      have HI := Lib.hid (And.intro hI hB)
      have HR := Lib.hid (fun n w => ref_any n w)
      have HP := Lib.hid (fun (W1 W2 : World) (T : Nat) (L : Hp) (s : ByteArray) (n : Int) (h : IsH W1 (From w.heap.size W1) w.heap.size T L) (hb : Below w.heap.size w W1) (hbW : Below W1.heap.size W1 W2) (hs : s.size ≤ maxLen) (hT : T ≤ 1000000) =>
        ((Put_any 1 s ⟨5, n, ⟨#[]⟩⟩ W2 ((h.below hbW).mono (G := From w.heap.size W2) (fun i hi => ⟨hi.1, by have := hi.2; have := hbW.size; omega⟩) (fun i hi => hi.2)) hs hT).mono (fun e w' h' => by
          obtain ⟨h1, h2, h3⟩ := h'
          have hs := hb.size
          have hs2 := hbW.size
          exact ⟨⟨_, h1⟩, h2.since (by omega) h3.size, (hb.trans (hbW.mono hs)).trans (h3.since (by omega))⟩) :
          Calls Try.prog 26 #[.pointer (some ⟨w.heap.size, 0, none⟩), .int .i64 1, .string s, V.v ⟨5, n, ⟨#[]⟩⟩] W2 fun e w' => (∃ v, e = .returned v) ∧ IsH w' (From w.heap.size w') w.heap.size (T + 1) (putL L 1 s ⟨5, n, ⟨#[]⟩⟩) ∧ Below w.heap.size w w'))
      simp only [V.v] at HR HP
      clear hI hB HA H0
      go_wp2_with fail
      go_at_call 28
      refine (HR.out _ _).mono ?_
      rintro e w1 ⟨rfl, hb1⟩
      go_wp2_with fail
      go_at_call 26
      refine (HP.out wr w1 0 _ callB 2 HI.out.1 HI.out.2 hb1 (by unfold maxLen; decide) (by omega)).mono ?_
      rintro e w2 ⟨⟨v, rfl⟩, hI2, hB2⟩
      go_wp2_with fail
      go_at_call 28
      refine (HR.out _ _).mono ?_
      rintro e w3 ⟨rfl, hb3⟩
      go_wp2_with fail
      go_at_call 26
      refine (HP.out w2 w3 1 _ applyB 3 hI2 hB2 hb3 (by unfold maxLen; decide) (by omega)).mono ?_
      rintro e w4 ⟨⟨v2, rfl⟩, hI4, hB4⟩
      have e4 : putL (putL (bare0.take 4) 1 callB ⟨5, 2, ⟨#[]⟩⟩) 1 applyB ⟨5, 3, ⟨#[]⟩⟩ = new0 := new_put
      rw [e4] at hI4
      go_wp2
      go_ret
      exact ⟨_, rfl, hI4, hB4⟩
end Go.Proofs.Ytpbbinppikaamaa
