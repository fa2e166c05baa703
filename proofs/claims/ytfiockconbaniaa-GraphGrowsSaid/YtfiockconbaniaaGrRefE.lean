/- gumshoeref15: Callees, Callers, Entered. -/
import Derived.Test.YtfiockconbaniaaGrRef
namespace Go.Proofs.Ytfiockconbaniaa
set_option linter.unusedSimpArgs false
set_option linter.unusedVariables false
open Go.RowKit Go.Proofs

theorem setI_snoc (l : List Int) (x : Int) : setI (l ++ [x]) = insI x (setI l) :=
  upI_ext _ _ (up_setI _) (up_insI _ _ (up_setI _)) fun z => by
    rw [mem_setI, mem_insI, mem_setI, List.mem_append, List.mem_singleton]
    exact Or.comm
theorem insI_len (x : Int) : ∀ l : List Int, (insI x l).length ≤ l.length + 1
  | [] => by simp [insI]
  | y :: r => by
    rw [insI]
    have := insI_len x r
    split
    · simp
    · split <;> simp <;> omega
theorem setI_len : ∀ l : List Int, (setI l).length ≤ l.length
  | [] => by simp [setI]
  | x :: r => by
    rw [setI]
    have := insI_len x (setI r)
    have := setI_len r
    simp; omega
/-- What calls of a mark call; what is entered; whose calls are a function's. -/
def calL (m : Int) (l : List Ft) : List Int := (l.filter fun f => f.kind == 5 && f.a == m).map (·.b)
def entL (l : List Ft) : List Int := (l.filter fun f => f.kind == 6).map (·.a)
def crsL (fn : Int) (l : List Ed) : List Int := (l.filter fun e => e.to == fn).map (·.mark)
theorem calL_len (m : Int) (l : List Ft) : (calL m l).length ≤ l.length := by unfold calL; rw [List.length_map]; exact List.length_filter_le _ _
theorem entL_len (l : List Ft) : (entL l).length ≤ l.length := by unfold entL; rw [List.length_map]; exact List.length_filter_le _ _
theorem crsL_len (m : Int) (l : List Ed) : (crsL m l).length ≤ l.length := by unfold crsL; rw [List.length_map]; exact List.length_filter_le _ _
theorem calL_snoc (m : Int) (l : List Ft) (x : Ft) : calL m (l ++ [x]) = if (x.kind == 5 && x.a == m) = true then calL m l ++ [x.b] else calL m l := by
  unfold calL
  rw [List.filter_append, List.map_append]
  by_cases h : (x.kind == 5 && x.a == m) = true
  · rw [if_pos h]; simp only [List.filter_cons, h]; rfl
  · rw [if_neg h]; simp only [List.filter_cons, h]; simp
theorem entL_snoc (l : List Ft) (x : Ft) : entL (l ++ [x]) = if (x.kind == 6) = true then entL l ++ [x.a] else entL l := by
  unfold entL
  rw [List.filter_append, List.map_append]
  by_cases h : (x.kind == 6) = true
  · rw [if_pos h]; simp only [List.filter_cons, h]; rfl
  · rw [if_neg h]; simp only [List.filter_cons, h]; simp
theorem crsL_snoc (m : Int) (l : List Ed) (x : Ed) : crsL m (l ++ [x]) = if (x.to == m) = true then crsL m l ++ [x.mark] else crsL m l := by
  unfold crsL
  rw [List.filter_append, List.map_append]
  by_cases h : (x.to == m) = true
  · rw [if_pos h]; simp only [List.filter_cons, h]; rfl
  · rw [if_neg h]; simp only [List.filter_cons, h]; simp
/-- A set of numbers as it comes out: in a row, each an int64. -/
structure OutI (w w' : World) (v : Value) (l : List Int) : Prop where
  at_ : Ints9 w' v l
  below : Below w.heap.size w w'
theorem OutI.nil_ (w : World) : OutI w w (.slice none 0 0) [] := ⟨SlAt.nil _ _ _, Below.refl _ _⟩
theorem OwnR.out {w w' : World} {v : Value} {l : List Int} (h : OwnR 1 3 IntP w w' w.heap.size v l) (hb : Below w.heap.size w w') : OutI w w' v l := ⟨h.at_ IntP.cells IntP.keeps hb, hb⟩

set_option maxHeartbeats 4000000 in
theorem rcallees_any (A : Option Addr) (n c : Nat) (l : List Ft) (m : Int) (w : World) (hr : Facts9 w (.slice A n c) l) (hn : n ≤ 100000) :
    Calls Try.prog 20 #[.slice A n c, .int .i64 m] w fun e w' => ∃ v, e = .returned v ∧ OutI w w' v (setI (calL m l)) := by
  obtain ⟨hnl, hnc, hcm, -⟩ := SlAt.get hr
  have hcx : c ≤ 9223372036854775807 := hcm
  have HL := Lib.hid hnl.symm
  clear hnl hcm
  go_enter Try.func20, Try.ntmps20
  go_wp2
  go_loopw [5, 6] (fun s5 i wr => ∃ k : Nat, k ≤ n ∧ i = .int .i64 k ∧ OutI w wr s5 (setI (calL m (l.take k)))) (fun _ i _ => n - (intOf i).toNat)
  case atStart => exact ⟨0, Nat.zero_le _, rfl, OutI.nil_ _⟩
  case round =>
    obtain ⟨k, hk, rfl, hout⟩ := hrel
    obtain ⟨A5, c5, rfl⟩ := hout.at_.form
    by_cases hlt : k < n
    · obtain ⟨g, off, f, rfl, hg, hz, ⟨hb1, hb2, hb3, hb4⟩, hc0, hc1, hc2, hc3⟩ := ft_get hr k hlt
      have x0 := (hout.below.cell (p := ⟨g, off + k * 4, none⟩) hg).trans hc0
      have x1 := (hout.below.cell (p := ⟨g, off + k * 4 + 1, none⟩) hg).trans hc1
      have x3 := (hout.below.cell (p := ⟨g, off + k * 4 + 3, none⟩) hg).trans hc3
      have HD := Lib.hid (take_at hz)
      have hlen : (setI (calL m (l.take k))).length ≤ 100000 := by
        have h1 := setI_len (calL m (l.take k))
        have h2 := calL_len m (l.take k)
        rw [List.length_take] at h2
        omega
      have HW := Lib.hid (with_any A5 _ c5 _ f.b wr hout.at_ hb4 (up_setI _) hlen)
      have HB := Lib.hid hout.below
      have HO := Lib.hid hout.at_
      clear hz hout
      by_cases hA : f.kind = 5
      · by_cases hM : f.a = m
        · have g1 : (f.kind == 5) = true := by simpa using hA
          have g2 : (f.a == m) = true := by simpa using hM
          have HS := Lib.hid (And.intro hA hM)
          clear hA hM
          go_wp2_with (go_at_call 39; (with_reducible refine (HW.out).mono ?_); rintro e w7 ⟨v7, rfl, h1, h2⟩; have M7 := Lib.hid (And.intro h1 h2); clear h1 h2)
          go_roundw
          case rel => exact ⟨k + 1, by omega, by go_num, by
            rw [HD.out, calL_snoc, if_pos (by simp [HS.out.1, HS.out.2]), setI_snoc]
            exact ⟨M7.out.1.at_ IntP.cells IntP.keeps M7.out.2, HB.out.trans (M7.out.2.mono HB.out.size)⟩⟩
          case measure => simp [intOf]; omega
        · have g1 : (f.kind == 5) = true := by simpa using hA
          have g2 : (f.a == m) = false := by simpa using hM
          have HS := Lib.hid hM
          clear hA hM HW
          go_wp2
          go_roundw
          case rel => exact ⟨k + 1, by omega, by go_num, by
            rw [HD.out, calL_snoc, if_neg (by simp [HS.out])]
            exact ⟨HO.out, HB.out⟩⟩
          case measure => simp [intOf]; omega
      · have g1 : (f.kind == 5) = false := by simpa using hA
        have HS := Lib.hid hA
        clear hA HW
        go_wp2
        go_roundw
        case rel => exact ⟨k + 1, by omega, by go_num, by
          rw [HD.out, calL_snoc, if_neg (by simp [HS.out])]
          exact ⟨HO.out, HB.out⟩⟩
        case measure => simp [intOf]; omega
    · obtain rfl : k = n := by omega
      have HO := Lib.hid (And.intro hout (congrArg (fun q => setI (calL m q)) (List.take_of_length_le (i := k) (l := l) (by have := HL.out; omega))))
      clear hout
      go_wp2
      go_ret
      refine ⟨_, rfl, ?_⟩
      have h := HO.out.2
      rw [← h]
      exact HO.out.1
set_option maxHeartbeats 4000000 in
theorem rentered_any (A : Option Addr) (n c : Nat) (l : List Ft) (w : World) (hr : Facts9 w (.slice A n c) l) (hn : n ≤ 100000) :
    Calls Try.prog 22 #[.slice A n c] w fun e w' => ∃ v, e = .returned v ∧ OutI w w' v (setI (entL l)) := by
  obtain ⟨hnl, hnc, hcm, -⟩ := SlAt.get hr
  have hcx : c ≤ 9223372036854775807 := hcm
  have HL := Lib.hid hnl.symm
  clear hnl hcm
  go_enter Try.func22, Try.ntmps22
  go_wp2
  go_loopw [3, 4] (fun s5 i wr => ∃ k : Nat, k ≤ n ∧ i = .int .i64 k ∧ OutI w wr s5 (setI (entL (l.take k)))) (fun _ i _ => n - (intOf i).toNat)
  case atStart => exact ⟨0, Nat.zero_le _, rfl, OutI.nil_ _⟩
  case round =>
    obtain ⟨k, hk, rfl, hout⟩ := hrel
    obtain ⟨A5, c5, rfl⟩ := hout.at_.form
    by_cases hlt : k < n
    · obtain ⟨g, off, f, rfl, hg, hz, ⟨hb1, hb2, hb3, hb4⟩, hc0, hc1, hc2, hc3⟩ := ft_get hr k hlt
      have x0 := (hout.below.cell (p := ⟨g, off + k * 4, none⟩) hg).trans hc0
      have x1 := (hout.below.cell (p := ⟨g, off + k * 4 + 1, none⟩) hg).trans hc1
      have HD := Lib.hid (take_at hz)
      have hlen : (setI (entL (l.take k))).length ≤ 100000 := by
        have h1 := setI_len (entL (l.take k))
        have h2 := entL_len (l.take k)
        rw [List.length_take] at h2
        omega
      have HW := Lib.hid (with_any A5 _ c5 _ f.a wr hout.at_ hb2 (up_setI _) hlen)
      have HB := Lib.hid hout.below
      have HO := Lib.hid hout.at_
      clear hz hout
      by_cases hA : f.kind = 6
      · have g1 : (f.kind == 6) = true := by simpa using hA
        have HS := Lib.hid hA
        clear hA
        go_wp2_with (go_at_call 39; (with_reducible refine (HW.out).mono ?_); rintro e w7 ⟨v7, rfl, h1, h2⟩; have M7 := Lib.hid (And.intro h1 h2); clear h1 h2)
        go_roundw
        case rel => exact ⟨k + 1, by omega, by go_num, by
          rw [HD.out, entL_snoc, if_pos (by simp [HS.out]), setI_snoc]
          exact ⟨M7.out.1.at_ IntP.cells IntP.keeps M7.out.2, HB.out.trans (M7.out.2.mono HB.out.size)⟩⟩
        case measure => simp [intOf]; omega
      · have g1 : (f.kind == 6) = false := by simpa using hA
        have HS := Lib.hid hA
        clear hA HW
        go_wp2
        go_roundw
        case rel => exact ⟨k + 1, by omega, by go_num, by
          rw [HD.out, entL_snoc, if_neg (by simp [HS.out])]
          exact ⟨HO.out, HB.out⟩⟩
        case measure => simp [intOf]; omega
    · obtain rfl : k = n := by omega
      have HO := Lib.hid (And.intro hout (congrArg (fun q => setI (entL q)) (List.take_of_length_le (i := k) (l := l) (by have := HL.out; omega))))
      clear hout
      go_wp2
      go_ret
      refine ⟨_, rfl, ?_⟩
      have h := HO.out.2
      rw [← h]
      exact HO.out.1
set_option maxHeartbeats 4000000 in
theorem rcallers_any (A : Option Addr) (n c : Nat) (l : List Ed) (m : Int) (w : World) (hr : Edges9 w (.slice A n c) l) (hn : n ≤ 100000) :
    Calls Try.prog 18 #[.slice A n c, .int .i64 m] w fun e w' => ∃ v, e = .returned v ∧ OutI w w' v (setI (crsL m l)) := by
  obtain ⟨hnl, hnc, hcm, -⟩ := SlAt.get hr
  have hcx : c ≤ 9223372036854775807 := hcm
  have HL := Lib.hid hnl.symm
  clear hnl hcm
  go_enter Try.func18, Try.ntmps18
  go_wp2
  go_loopw [5, 6] (fun s5 i wr => ∃ k : Nat, k ≤ n ∧ i = .int .i64 k ∧ OutI w wr s5 (setI (crsL m (l.take k)))) (fun _ i _ => n - (intOf i).toNat)
  case atStart => exact ⟨0, Nat.zero_le _, rfl, OutI.nil_ _⟩
  case round =>
    obtain ⟨k, hk, rfl, hout⟩ := hrel
    obtain ⟨A5, c5, rfl⟩ := hout.at_.form
    by_cases hlt : k < n
    · obtain ⟨g, off, f, rfl, hg, hz, ⟨hb1, hb2, hb3⟩, hc0, hc1, hc2⟩ := ed_get hr k hlt
      have x0 := (hout.below.cell (p := ⟨g, off + k * 3, none⟩) hg).trans hc0
      have x1 := (hout.below.cell (p := ⟨g, off + k * 3 + 1, none⟩) hg).trans hc1
      have x2 := (hout.below.cell (p := ⟨g, off + k * 3 + 2, none⟩) hg).trans hc2
      have HD := Lib.hid (take_at hz)
      have hlen : (setI (crsL m (l.take k))).length ≤ 100000 := by
        have h1 := setI_len (crsL m (l.take k))
        have h2 := crsL_len m (l.take k)
        rw [List.length_take] at h2
        omega
      have HW := Lib.hid (with_any A5 _ c5 _ f.mark wr hout.at_ hb2 (up_setI _) hlen)
      have HB := Lib.hid hout.below
      have HO := Lib.hid hout.at_
      clear hz hout
      by_cases hA : f.to = m
      · have g1 : (f.to == m) = true := by simpa using hA
        have HS := Lib.hid hA
        clear hA
        go_wp2_with (go_at_call 39; (with_reducible refine (HW.out).mono ?_); rintro e w7 ⟨v7, rfl, h1, h2⟩; have M7 := Lib.hid (And.intro h1 h2); clear h1 h2)
        go_roundw
        case rel => exact ⟨k + 1, by omega, by go_num, by
          rw [HD.out, crsL_snoc, if_pos (by simp [HS.out]), setI_snoc]
          exact ⟨M7.out.1.at_ IntP.cells IntP.keeps M7.out.2, HB.out.trans (M7.out.2.mono HB.out.size)⟩⟩
        case measure => simp [intOf]; omega
      · have g1 : (f.to == m) = false := by simpa using hA
        have HS := Lib.hid hA
        clear hA HW
        go_wp2
        go_roundw
        case rel => exact ⟨k + 1, by omega, by go_num, by
          rw [HD.out, crsL_snoc, if_neg (by simp [HS.out])]
          exact ⟨HO.out, HB.out⟩⟩
        case measure => simp [intOf]; omega
    · obtain rfl : k = n := by omega
      have HO := Lib.hid (And.intro hout (congrArg (fun q => setI (crsL m q)) (List.take_of_length_le (i := k) (l := l) (by have := HL.out; omega))))
      clear hout
      go_wp2
      go_ret
      refine ⟨_, rfl, ?_⟩
      have h := HO.out.2
      rw [← h]
      exact HO.out.1
end Go.Proofs.Ytfiockconbaniaa
