/- The laws' head: what three edges reach, what two facts call. -/
import Derived.Test.YtfiockconbaniaaGrReachB
namespace Go.Proofs.Ytfiockconbaniaa
set_option linter.unusedSimpArgs false
set_option linter.unusedVariables false
open Go.RowKit Go.Proofs

theorem reached_any (A : Option Addr) (len cap : Nat) (l : List Ed) (w : World) (hl : Edges9 w (.slice A len cap) l) (hsm : len ≤ 1000) :
    Calls Try.prog 14 #[.slice A len cap] w fun e W' => ∃ v, e = .returned v ∧ ∃ cur, OutI w W' v cur ∧ IsReach (prE l) cur := callsIn_wide.1 (reached_in 8 (Nat.le_refl _) A len cap l w hl hsm)
theorem callees_any (A : Option Addr) (len cap : Nat) (l : List Ft) (m : Int) (w : World) (hl : Facts9 w (.slice A len cap) l) (hsm : len ≤ 100000) :
    Calls Try.prog 19 #[.slice A len cap, .int .i64 m] w fun e W' => ∃ v', e = .returned v' ∧ OutI w W' v' (setI (calL m l)) := callsIn_wide.1 (callees_in 3 (Nat.le_refl _) A len cap l m w hl hsm)
theorem entered_any (A : Option Addr) (len cap : Nat) (l : List Ft) (w : World) (hl : Facts9 w (.slice A len cap) l) (hsm : len ≤ 100000) :
    Calls Try.prog 21 #[.slice A len cap] w fun e W' => ∃ v', e = .returned v' ∧ OutI w W' v' (setI (entL l)) := callsIn_wide.1 (entered_in 3 (Nat.le_refl _) A len cap l w hl hsm)
theorem FtP.cells : Cells 4 FtP := fun _ _ _ h => by
  obtain ⟨rfl, -⟩ := h
  refine ⟨rfl, fun u hu => ?_⟩
  simp only [List.mem_cons, List.not_mem_nil, or_false] at hu
  rcases hu with rfl | rfl | rfl | rfl <;> rfl
theorem same_true (A A' : Option Addr) (n c n' c' : Nat) (xs : List Int) (w : World) (hr : Ints9 w (.slice A n c) xs) (hr' : Ints9 w (.slice A' n' c') xs) :
    Calls Try.prog 13 #[.slice A n c, .slice A' n' c'] w fun e w' => e = .returned (.bool true) ∧ Below w.heap.size w w' := by
  refine (same_any A A' n c n' c' xs xs w hr hr').mono ?_
  rintro e w' ⟨rfl, q, rfl⟩
  exact ⟨by simp, below_drewN (Below.refl _ _) _⟩
/-- A list that is written out. -/
theorem lits_at {α : Type} {k : Nat} {T : TypeId} {P : World → List Value → α → Prop} (hP : Cells k P) (hK : Keeps P) (w : World) (L : List (List Value × α)) (hL : ∀ q ∈ L, P w q.1 q.2) (hn : L.length ≤ 1000) :
    SlAt k P (w.alloc (.cells (flat9 L).toArray T)) (.slice (some ⟨w.heap.size, 0, none⟩) L.length L.length) (L.map (·.2)) := by
  have h := World.ownsRow_lit (base := w.heap.size) (e := T) (size := k) w (flat9 L).toArray L.length (Nat.le_refl _) (by unfold maxLen; omega) (by simpa using flat9_len L fun q hq => (hP _ _ _ (hL q hq)).1)
  have h2 : OwnR k T P w (w.alloc (.cells (flat9 L).toArray T)) w.heap.size (.slice (some ⟨w.heap.size, 0, none⟩) L.length L.length) (L.map (·.2)) := ⟨L, rfl, hL, by simpa using h⟩
  exact h2.at_ hP hK ((Below.refl _ w).alloc (Nat.le_refl _) _)
def edL (e : Ed) : List Value × Ed := ([.int .i64 e.fr, .int .i64 e.mark, .int .i64 e.to], e)
def ftL (f : Ft) : List Value × Ft := ([.int .i64 f.kind, .int .i64 f.a, .string f.s, .int .i64 f.b], f)
def inL (n : Int) : List Value × Int := ([.int .i64 n], n)
def es3 : List Ed := [⟨0, 9, 2⟩, ⟨2, 11, 3⟩, ⟨1, 12, 4⟩]
def fs2 : List Ft := [⟨5, 9, ⟨#[]⟩, 5⟩, ⟨5, 9, ⟨#[]⟩, 4⟩]
theorem es3_reach : IsReach (prE es3) [0, 2, 3] := by
  have e1 : ((0 : Int), (2 : Int)) ∈ prE es3 := by simp [es3]
  have e2 : ((2 : Int), (3 : Int)) ∈ prE es3 := by simp [es3]
  have r2 : ReachI (prE es3) 2 := .step 0 2 e1 .zero
  refine reach_closed (by simp [upI]) (by simp) (fun x hx => ?_) (fun e he h1 => ?_)
  · simp at hx
    rcases hx with rfl | rfl | rfl
    · exact .zero
    · exact r2
    · exact .step 2 3 e2 r2
  · simp [es3] at he
    rcases he with rfl | rfl | rfl
    · simp
    · simp
    · simp at h1
theorem fs2_calls : setI (calL 9 fs2) = [4, 5] := by decide
set_option maxRecDepth 100000 in
set_option maxHeartbeats 4000000 in
theorem shown_any (w : World) : Calls Try.prog 7 #[] w fun e w' => e = .returned (.bool true) ∧ Below w.heap.size w w' := by
  have hal1 : Below w.heap.size w (w.alloc (.cells #[.int .i64 0, .int .i64 9, .int .i64 2, .int .i64 2, .int .i64 11, .int .i64 3, .int .i64 1, .int .i64 12, .int .i64 4] 44)) := (Below.refl _ w).alloc (Nat.le_refl _) _
  have hs1 := lits_at (T := 44) EdP.cells EdP.keeps w (es3.map edL) (fun q hq => by
    obtain ⟨x, hx, rfl⟩ := List.mem_map.1 hq
    refine ⟨rfl, ?_⟩
    simp [es3] at hx
    rcases hx with rfl | rfl | rfl <;> exact ⟨by unfold I64; simp [edL], by unfold I64; simp [edL], by unfold I64; simp [edL]⟩) (by decide)
  obtain ⟨w1, e1⟩ : ∃ x, w.alloc (.cells #[.int .i64 0, .int .i64 9, .int .i64 2, .int .i64 2, .int .i64 11, .int .i64 3, .int .i64 1, .int .i64 12, .int .i64 4] 44) = x := ⟨_, rfl⟩
  have hs1' : Edges9 w1 (.slice (some ⟨w.heap.size, 0, none⟩) 3 3) es3 := by rw [← e1]; exact hs1
  rw [e1] at hal1
  have HR := Lib.hid (reached_any (some ⟨w.heap.size, 0, none⟩) 3 3 es3 w1 hs1' (by omega))
  have H1 := Lib.hid (And.intro e1 hal1)
  clear hs1 hs1' hal1 e1
  go_enter Try.func7, Try.ntmps7
  go_wp2_with fail
  rw [H1.out.1]
  go_at_call 14
  (with_reducible refine (HR.out).mono ?_)
  rintro e w2 ⟨v2, rfl, cur, ho2, hr2⟩
  obtain rfl : cur = [0, 2, 3] := hr2.eq es3_reach
  obtain ⟨A2, c2, rfl⟩ := ho2.at_.form
  have hal3 : Below w2.heap.size w2 (w2.alloc (.cells #[.int .i64 5, .int .i64 9, .string ⟨#[]⟩, .int .i64 5, .int .i64 5, .int .i64 9, .string ⟨#[]⟩, .int .i64 4] 49)) := (Below.refl _ w2).alloc (Nat.le_refl _) _
  have hs3 := lits_at (T := 49) FtP.cells FtP.keeps w2 (fs2.map ftL) (fun q hq => by
    obtain ⟨x, hx, rfl⟩ := List.mem_map.1 hq
    refine ⟨rfl, ?_⟩
    simp [fs2] at hx
    rcases hx with rfl | rfl <;> exact ⟨by unfold I64; simp [ftL], by unfold I64; simp [ftL], Nat.zero_le _, by unfold I64; simp [ftL]⟩) (by decide)
  have z3 : w2.heap.size + 1 = (w2.alloc (.cells #[.int .i64 5, .int .i64 9, .string ⟨#[]⟩, .int .i64 5, .int .i64 5, .int .i64 9, .string ⟨#[]⟩, .int .i64 4] 49)).heap.size := by simp
  obtain ⟨w3, e3⟩ : ∃ x, w2.alloc (.cells #[.int .i64 5, .int .i64 9, .string ⟨#[]⟩, .int .i64 5, .int .i64 5, .int .i64 9, .string ⟨#[]⟩, .int .i64 4] 49) = x := ⟨_, rfl⟩
  have hs3' : Facts9 w3 (.slice (some ⟨w2.heap.size, 0, none⟩) 2 2) fs2 := by rw [← e3]; exact hs3
  rw [e3] at hal3
  have HC := Lib.hid (callees_any (some ⟨w2.heap.size, 0, none⟩) 2 2 fs2 9 w3 hs3' (by omega))
  have H3 := Lib.hid (And.intro e3 (And.intro hal3 ho2))
  clear hs3 hs3' hal3 e3 ho2 HR hr2 z3
  go_wp2_with fail
  rw [H3.out.1]
  go_at_call 19
  (with_reducible refine (HC.out).mono ?_)
  rintro e w4 ⟨v4, rfl, ho4⟩
  rw [fs2_calls] at ho4
  obtain ⟨A4, c4, rfl⟩ := ho4.at_.form
  have hal5 : Below w4.heap.size w4 (w4.alloc (.cells #[.int .i64 0, .int .i64 2, .int .i64 3] 3)) := (Below.refl _ w4).alloc (Nat.le_refl _) _
  have hs5 := lits_at (T := 3) IntP.cells IntP.keeps w4 ([0, 2, 3].map inL) (fun q hq => by
    obtain ⟨x, hx, rfl⟩ := List.mem_map.1 hq
    refine ⟨rfl, ?_⟩
    simp at hx
    rcases hx with rfl | rfl | rfl <;> (unfold I64; simp [inL])) (by decide)
  obtain ⟨w5, e5⟩ : ∃ x, w4.alloc (.cells #[.int .i64 0, .int .i64 2, .int .i64 3] 3) = x := ⟨_, rfl⟩
  have hs5' : Ints9 w5 (.slice (some ⟨w4.heap.size, 0, none⟩) 3 3) [0, 2, 3] := by rw [← e5]; exact hs5
  rw [e5] at hal5
  have hb25 : Below w2.heap.size w2 w5 := (H3.out.2.1.trans (ho4.below.mono H3.out.2.1.size)).trans (hal5.mono (Nat.le_trans H3.out.2.1.size ho4.below.size))
  have HS := Lib.hid (same_true A2 (some ⟨w4.heap.size, 0, none⟩) 3 c2 3 3 [0, 2, 3] w5 (H3.out.2.2.at_.below IntP.keeps hb25) hs5')
  have H5 := Lib.hid (And.intro e5 (And.intro hal5 (And.intro ho4 hb25)))
  clear hs5 hs5' hal5 e5 ho4 hb25 HC
  go_wp2_with fail
  rw [H5.out.1]
  go_at_call 13
  (with_reducible refine (HS.out).mono ?_)
  rintro e w6 ⟨rfl, hb6⟩
  have hal7 : Below w5.heap.size w5 (w6.alloc (.cells #[.int .i64 4, .int .i64 5] 3)) := hb6.alloc hb6.size _
  have hs7 := lits_at (T := 3) IntP.cells IntP.keeps w6 ([4, 5].map inL) (fun q hq => by
    obtain ⟨x, hx, rfl⟩ := List.mem_map.1 hq
    refine ⟨rfl, ?_⟩
    simp at hx
    rcases hx with rfl | rfl <;> (unfold I64; simp [inL])) (by decide)
  obtain ⟨w7, e7⟩ : ∃ x, w6.alloc (.cells #[.int .i64 4, .int .i64 5] 3) = x := ⟨_, rfl⟩
  have hs7' : Ints9 w7 (.slice (some ⟨w6.heap.size, 0, none⟩) 2 2) [4, 5] := by rw [← e7]; exact hs7
  rw [e7] at hal7
  have HS2 := Lib.hid (same_true A4 (some ⟨w6.heap.size, 0, none⟩) 2 c4 2 2 [4, 5] w7 (H5.out.2.2.1.at_.below IntP.keeps (H5.out.2.1.trans (hal7.mono H5.out.2.1.size))) hs7')
  have H7 := Lib.hid (And.intro e7 hal7)
  clear hs7 hs7' hal7 e7 HS hb6
  go_wp2_with fail
  rw [H7.out.1]
  go_at_call 13
  (with_reducible refine (HS2.out).mono ?_)
  rintro e w8 ⟨rfl, hb8⟩
  have H8 := Lib.hid hb8
  clear hb8
  go_wp2
  go_ret
  have hb1 := H1.out.2
  have hb2 := H3.out.2.2.below
  refine ⟨rfl, ?_⟩
  have h12 : Below w.heap.size w w2 := hb1.trans (hb2.mono hb1.size)
  have h15 : Below w.heap.size w w5 := h12.trans (H5.out.2.2.2.mono h12.size)
  have h17 := h15.trans (H7.out.2.mono h15.size)
  exact h17.trans (H8.out.mono h17.size)
end Go.Proofs.Ytfiockconbaniaa
