/- gumshoeref01: Has, Same, With. -/
import Derived.Test.YtfiockconbaniaaGrRows
import Derived.Deep.QuietTactic
import Derived.BigQuiet
namespace Go.Proofs.Ytfiockconbaniaa
set_option linter.unusedSimpArgs false
set_option linter.unusedVariables false
open Go.RowKit Go.Proofs

theorem Drewn.mk2 (w : World) (j k : Nat) : ∃ q, (w.drewN j).drewN k = w.drewN q := ⟨j + k, World.drewN_drewN _ _ _⟩
theorem below_drewn {w w' : World} (h : ∃ q, w' = w.drewN q) : Below w.heap.size w w' := by
  obtain ⟨q, rfl⟩ := h
  exact below_drewN (Below.refl _ _) q
theorem drop_nil_of {α : Type} {zs : List α} {n k : Nat} (h : zs.length = n) (hk : ¬ k < n) : zs.drop k = [] := List.drop_eq_nil_of_le (by omega)
set_option maxHeartbeats 1000000 in
theorem has_any (A : Option Addr) (n c : Nat) (l : List Int) (x : Int) (w : World) (hr : Ints9 w (.slice A n c) l) :
    Calls Try.prog 23 #[.slice A n c, .int .i64 x] w fun e w' => e = .returned (.bool (decide (x ∈ l))) ∧ w = w' := by
  obtain ⟨hnl, hnc, hcm, -⟩ := SlAt.get hr
  have hcm' : c ≤ 9223372036854775807 := hcm
  have HL := Lib.hid hnl.symm
  clear hnl hcm
  go_enter Try.func23, Try.ntmps23
  go_wp2
  go_loop [5] (fun i => ∃ k : Nat, k ≤ n ∧ i = .int .i64 k ∧ decide (x ∈ l.drop k) = decide (x ∈ l)) (fun i => n - (intOf i).toNat)
  case atStart => exact ⟨0, Nat.zero_le _, rfl, by simp⟩
  case round =>
    obtain ⟨k, hk, rfl, hs⟩ := hrel
    have HS := Lib.hid hs
    clear hs
    by_cases hlt : k < n
    · obtain ⟨g, off, z, rfl, -, hz, hb, hc⟩ := int_get hr k hlt
      have HD := Lib.hid (drop_at hz)
      clear hz
      by_cases hA : z = x
      · have hA' : (z == x) = true := by simpa using hA
        have HE := Lib.hid hA
        clear hA
        go_wp2
        go_ret
        exact ⟨ret_b (by rw [← HS.out, HD.out]; simp [HE.out]), rfl⟩
      · have hA' : (z == x) = false := by simpa using hA
        have HA := Lib.hid hA
        clear hA
        go_wp2
        go_round
        case rel => exact ⟨k + 1, by omega, by go_num, by rw [← HS.out, HD.out]; simp [Ne.symm HA.out]⟩
        case measure => simp [intOf]; omega
    · go_wp2
      go_ret
      exact ⟨ret_b (by rw [← HS.out, drop_nil_of HL.out hlt]; simp), rfl⟩
set_option maxHeartbeats 1000000 in
theorem same_any (A A' : Option Addr) (n c n' c' : Nat) (xs ys : List Int) (w : World) (hr : Ints9 w (.slice A n c) xs) (hr' : Ints9 w (.slice A' n' c') ys) :
    Calls Try.prog 13 #[.slice A n c, .slice A' n' c'] w fun e w' => e = .returned (.bool (decide (xs = ys))) ∧ ∃ q, w' = w.drewN q := by
  obtain ⟨hnl, hnc, hcm, -⟩ := SlAt.get hr
  obtain ⟨hnl', hnc', hcm', -⟩ := SlAt.get hr'
  have hcx : c ≤ 9223372036854775807 := hcm
  have hcx' : c' ≤ 9223372036854775807 := hcm'
  have HL := Lib.hid (And.intro hnl.symm hnl'.symm)
  clear hnl hnl' hcm hcm'
  by_cases hne : n = n'
  · subst hne
    have hq : ((n : Int) != n) = false := by simp
    go_enter Try.func13, Try.ntmps13
    go_wp2
    go_loopw [5] (fun i wr => ∃ k : Nat, k ≤ n ∧ i = .int .i64 k ∧ decide (xs.drop k = ys.drop k) = decide (xs = ys) ∧ ∃ q, wr = w.drewN q) (fun i _ => n - (intOf i).toNat)
    case atStart => exact ⟨0, Nat.zero_le _, rfl, by simp, 0, rfl⟩
    case round =>
      obtain ⟨k, hk, rfl, hs, q, rfl⟩ := hrel
      have HS := Lib.hid hs
      clear hs
      by_cases hlt : k < n
      · obtain ⟨g, off, z, rfl, -, hz, hb, hc⟩ := int_get hr k hlt
        obtain ⟨g', off', z', rfl, -, hz', hb', hc'⟩ := int_get hr' k hlt
        have HD := Lib.hid (And.intro (drop_at hz) (drop_at hz'))
        clear hz hz'
        by_cases hA : z = z'
        · have hA' : (z != z') = false := by simpa using hA
          have HE := Lib.hid hA
          clear hA
          go_wp2
          go_quiet (fail)
          go_wp2
          go_roundw
          case rel => exact ⟨k + 1, by omega, by go_num, by rw [← HS.out, HD.out.1, HD.out.2, HE.out]; simp, _, rfl⟩
          case measure => simp [intOf]; omega
        · have hA' : (z != z') = true := by simpa using hA
          have HA := Lib.hid hA
          clear hA
          go_wp2
          go_quiet (fail)
          go_wp2
          go_ret
          exact ⟨ret_b (by rw [← HS.out, HD.out.1, HD.out.2]; simp [HA.out]), by first | exact ⟨_, rfl⟩ | exact Drewn.mk2 _ _ _⟩
      · go_wp2
        go_ret
        exact ⟨ret_b (by rw [← HS.out, drop_nil_of HL.out.1 hlt, drop_nil_of HL.out.2 hlt]; simp), by first | exact ⟨_, rfl⟩ | exact Drewn.mk2 _ _ _⟩
  · have hq : ((n : Int) != n') = true := by simp; omega
    have HN := Lib.hid hne
    clear hne
    go_enter Try.func13, Try.ntmps13
    go_wp2
    go_ret
    refine ⟨ret_b ?_, 0, rfl⟩
    symm
    rw [decide_eq_false_iff_not]
    rintro rfl
    exact HN.out (HL.out.1.symm.trans HL.out.2)

/-- x put into a list ahead of the first number above it, unless that is done. -/
def wl (x : Int) : Bool → List Int → List Int
  | true, [] => []
  | false, [] => [x]
  | true, z :: r => z :: wl x true r
  | false, z :: r => if x < z then x :: z :: wl x true r else z :: wl x false r
theorem wl_true (x : Int) : ∀ l, wl x true l = l
  | [] => rfl
  | z :: r => by rw [wl, wl_true x r]
theorem wl_mem (x : Int) : ∀ l y, y ∈ wl x false l ↔ y = x ∨ y ∈ l
  | [], y => by simp [wl]
  | z :: r, y => by
    rw [wl]
    by_cases h : x < z
    · rw [if_pos h, wl_true]; simp
    · rw [if_neg h]; simp only [List.mem_cons, wl_mem x r y]; constructor
      · rintro (h | h | h) <;> simp [h]
      · rintro (h | h | h) <;> simp [h]
theorem wl_rises (x : Int) : ∀ l, upI l → x ∉ l → upI (wl x false l)
  | [], _, _ => by simp [wl, upI]
  | z :: r, h, hx => by
    unfold upI at *
    rw [List.pairwise_cons] at h
    rw [wl]
    by_cases hlt : x < z
    · rw [if_pos hlt, wl_true, List.pairwise_cons, List.pairwise_cons]
      refine ⟨fun y hy => ?_, h⟩
      rcases List.mem_cons.1 hy with rfl | hy
      · exact hlt
      · have := h.1 y hy; omega
    · rw [if_neg hlt, List.pairwise_cons]
      refine ⟨fun y hy => ?_, wl_rises x r h.2 (fun hm => hx (List.mem_cons_of_mem _ hm))⟩
      rcases (wl_mem x r y).1 hy with rfl | hy
      · have : y ≠ z := fun e => hx (by rw [e]; exact List.mem_cons_self)
        omega
      · exact h.1 y hy
theorem wl_ins {l : List Int} (x : Int) (h : upI l) : wl x (decide (x ∈ l)) l = insI x l := by
  by_cases hx : x ∈ l
  · rw [decide_eq_true hx, wl_true, ins_has h hx]
  · rw [decide_eq_false hx]
    exact upI_ext _ _ (wl_rises x l h hx) (up_insI x l h) fun y => (wl_mem x l y).trans (mem_insI x y l).symm
theorem info3g : (Try.prog.info? 3).map (fun i => (i.zero, i.size, i.bytes)) = some (some (.int .i64 0), 1, 8) := by kernel_rfl
/-- A number more behind a row of one's own. -/
theorem int_push {w0 w : World} {B : Nat} {v : Value} {ns : List Int} (h : OwnR 1 3 IntP w0 w B v ns) (s : Int) (hs : I64 s) (hB : B ≤ w.heap.size) (hn : ns.length ≤ 900000) :
    ∃ v' w', (Builtin.append_ #[35, 35] 35 #[v, .slice (some ⟨w.heap.size, 0, none⟩) 1 1]).run Try.prog (w.alloc (.cells #[.int .i64 s] 3)) = .ok v' w' ∧
      (OwnR 1 3 IntP w0 w' B v' (ns ++ [s]) ∧ Below B w w' ∧ ∃ A c, v' = .slice A (ns.length + 1) c ∧ ns.length + 1 ≤ c ∧ c ≤ 9223372036854775807) := by
  have hal : Below w.heap.size w (w.alloc (.cells #[.int .i64 s] 3)) := (Below.refl _ _).alloc (Nat.le_refl _) _
  obtain ⟨v', w', r1, r2⟩ := app9 (p := Try.prog) (t := 35) IntP.cells (by decide) (z := .int .i64 0) (bytes := 8) Try.underlying35 info3g rfl (by decide) (h.below hal) (Src9.blk (P := IntP) (w0 := w0) (cs := [.int .i64 s]) (x := s) ⟨rfl, hs⟩ (heap_alloc_new w _)) (by rw [World.size_alloc]; omega) (by simp; omega)
  refine ⟨v', w', r1, r2.own, (hal.mono hB).trans r2.below, ?_⟩
  obtain ⟨A, c, e, h1, h2⟩ := r2.form
  rw [List.length_append, List.length_singleton] at e h1
  exact ⟨A, c, e, h1, h2⟩
set_option maxHeartbeats 4000000 in
theorem with_any (A : Option Addr) (n c : Nat) (l : List Int) (x : Int) (w : World) (hr : Ints9 w (.slice A n c) l) (hx : I64 x) (hup : upI l) (hn : n ≤ 100000) :
    Calls Try.prog 39 #[.slice A n c, .int .i64 x] w fun e w' => ∃ v, e = .returned v ∧ OwnR 1 3 IntP w w' w.heap.size v (insI x l) ∧ Below w.heap.size w w' := by
  obtain ⟨hnl, hnc, hcm, -⟩ := SlAt.get hr
  have hcx : c ≤ 9223372036854775807 := hcm
  have HL := Lib.hid hnl.symm
  have HW := Lib.hid (wl_ins x hup)
  clear hnl hcm hup
  have HH := Lib.hid (has_any A n c l x w hr)
  go_enter Try.func39, Try.ntmps39
  go_wp2_with (go_at_call 23; (with_reducible refine (HH.out).mono ?_); rintro e w' ⟨rfl, rfl⟩)
  go_loopw [5, 6, 7] (fun s5 s6 s7 wr => ∃ (k : Nat) (d : Bool) (out : List Int), k ≤ n ∧ s7 = .int .i64 k ∧ s6 = .bool d ∧ out ++ wl x d (l.drop k) = insI x l ∧ out.length ≤ 2 * k ∧
      OwnR 1 3 IntP w wr w.heap.size s5 out ∧ Below w.heap.size w wr) (fun _ _ s7 _ => n - (intOf s7).toNat)
  case atStart => exact ⟨0, decide (x ∈ l), [], Nat.zero_le _, rfl, rfl, by simpa using HW.out, by simp, OwnR.nil _ _ _ _ _ _, Below.refl _ _⟩
  case round =>
    obtain ⟨k, d, out, hk, rfl, rfl, hs, hol, hown, hbl⟩ := hrel
    obtain ⟨A5, c5, rfl, h51, h52⟩ := hown.form
    have h53 : c5 ≤ 9223372036854775807 := h52
    have HS := Lib.hid hs
    clear hs h52
    have hsz := hbl.size
    by_cases hlt : k < n
    · obtain ⟨g, off, z, rfl, hg, hz, hzb, hc0⟩ := int_get hr k hlt
      have HD := Lib.hid (drop_at hz)
      have hc : wr.cell? ⟨g, off + k, none⟩ = some (.int .i64 z) := (hbl.cell (p := ⟨g, off + k, none⟩) hg).trans hc0
      have hgl : g < wr.heap.size := by omega
      clear hz
      cases d with
      | true =>
        have HP := Lib.hid (int_push hown z hzb hsz (by omega))
        have HB := Lib.hid hbl
        clear hown hbl
        go_wp2_with (at_builtin; refine wl_app rfl _ _ 35 rfl _ (.slice (some ⟨wr.heap.size, 0, none⟩) 1 1) rfl rfl _ HP.out ?_; rintro u w7 ⟨h1, h2, A7, c7, rfl, h3, h4⟩; have M7 := Lib.hid (And.intro h1 h2); clear h1 h2)
        go_roundw
        case rel => exact ⟨k + 1, true, out ++ [z], by omega, by go_num, rfl, by rw [← HS.out, HD.out, wl]; simp, by simp; omega, M7.out.1, HB.out.trans M7.out.2⟩
        case measure => simp [intOf]; omega
      | false =>
        by_cases hxz : x < z
        · have HP := Lib.hid (int_push hown x hx hsz (by omega))
          have HB := Lib.hid hbl
          have HX := Lib.hid hxz
          clear hown hbl
          go_wp2_with (at_builtin; refine wl_app rfl _ _ 35 rfl _ (.slice (some ⟨wr.heap.size, 0, none⟩) 1 1) rfl rfl _ HP.out ?_; rintro u w7 ⟨h1, h2, A7, c7, rfl, h3, h4⟩; have M7 := Lib.hid (And.intro h1 h2); have hz7 := h2.size; have hg7 : g < w7.heap.size := Nat.lt_of_lt_of_le hg (HB.out.trans h2).size; have hc7 : w7.cell? ⟨g, off + k, none⟩ = some (.int .i64 z) := ((HB.out.trans h2).cell (p := ⟨g, off + k, none⟩) hg).trans hc0; have HP7 := Lib.hid (int_push h1 z hzb (Nat.le_trans hsz h2.size) (by simp; omega)); clear h1 h2 HP; go_wp2_with (at_builtin; refine wl_app rfl _ _ 35 rfl _ (.slice (some ⟨w7.heap.size, 0, none⟩) 1 1) rfl rfl _ HP7.out ?_; rintro u w8 ⟨h1, h2, A8, c8, rfl, h5, h6⟩; have M8 := Lib.hid (And.intro h1 h2); clear h1 h2))
          go_roundw
          case rel => exact ⟨k + 1, true, out ++ [x, z], by omega, by go_num, rfl, by rw [← HS.out, HD.out, wl, if_pos HX.out]; simp, by simp; omega, by simpa using M8.out.1, (HB.out.trans M7.out.2).trans M8.out.2⟩
          case measure => simp [intOf]; omega
        · have HP := Lib.hid (int_push hown z hzb hsz (by omega))
          have HB := Lib.hid hbl
          have HX := Lib.hid hxz
          clear hown hbl
          go_wp2_with (at_builtin; refine wl_app rfl _ _ 35 rfl _ (.slice (some ⟨wr.heap.size, 0, none⟩) 1 1) rfl rfl _ HP.out ?_; rintro u w7 ⟨h1, h2, A7, c7, rfl, h3, h4⟩; have M7 := Lib.hid (And.intro h1 h2); clear h1 h2)
          go_roundw
          case rel => exact ⟨k + 1, false, out ++ [z], by omega, by go_num, rfl, by rw [← HS.out, HD.out, wl, if_neg HX.out]; simp, by simp; omega, M7.out.1, HB.out.trans M7.out.2⟩
          case measure => simp [intOf]; omega
    · cases d with
      | true =>
        have HF := Lib.hid (show out = insI x l by rw [← HS.out, drop_nil_of HL.out hlt]; simp [wl])
        have HB := Lib.hid (And.intro hown hbl)
        clear hown hbl
        go_wp2
        go_ret
        exact ⟨_, rfl, by rw [← HF.out]; exact HB.out.1, HB.out.2⟩
      | false =>
        have HF := Lib.hid (show out ++ [x] = insI x l by rw [← HS.out, drop_nil_of HL.out hlt]; simp [wl])
        have HP := Lib.hid (int_push hown x hx hsz (by omega))
        have HB := Lib.hid hbl
        clear hown hbl
        go_wp2_with (at_builtin; refine wl_app rfl _ _ 35 rfl _ (.slice (some ⟨wr.heap.size, 0, none⟩) 1 1) rfl rfl _ HP.out ?_; rintro u w7 ⟨h1, h2, A7, c7, rfl, h3, h4⟩; have M7 := Lib.hid (And.intro h1 h2); clear h1 h2)
        go_ret
        exact ⟨_, rfl, by rw [← HF.out]; exact M7.out.1, HB.out.trans M7.out.2⟩
end Go.Proofs.Ytfiockconbaniaa
