/- What all laws of codes begin with: shown, Small. -/
import Derived.Test.YtconnhphkbgbkaaGreatDoorCdShow
namespace Go.Proofs.YtconnhphkbgbkaaGreatDoor
open Go.RowKit Go.Proofs

def one9 : List Proc := [⟨0, [⟨20, 0, -1, 0, 0, nilB, 0, []⟩]⟩]
theorem show_one : showV one9 = .tuple #[.string ⟨#[112, 114, 111, 99, 32, 48, 10, 50, 48, 32, 48, 32, 45, 49, 32, 48, 32, 48, 32, 48, 32, 34, 34, 10]⟩, .int .i64 0] := by kernel_rfl
theorem show_none : showV [] = .tuple #[.string ⟨#[]⟩, .int .i64 90] := by kernel_rfl
theorem code_nil (w : World) : CodeAt w (.slice none 0 0) [] := SlAt.nil _ _ _
theorem ins_lit (w : World) (x : Ins) (u : Value) (T : TypeId) (hu : Ints9 w u x.l) (hf : x.Fine) : SlAt 8 InsP (w.alloc (.cells (insV x u).toArray T)) (.slice (some ⟨w.heap.size, 0, none⟩) 1 1) [x] := by
  refine ⟨_, 1, rfl, ⟨Nat.le_refl _, by unfold maxLen; omega⟩, fun _ => ⟨w.heap.size, 0, rfl, by simp, fun i y hy => ?_⟩⟩
  have hi : i = 0 := by have := (List.getElem?_eq_some_iff.1 hy).1; simp at this; exact this
  subst hi
  cases hy
  refine ⟨insV x u, ⟨u, rfl, hu.below IntP.keeps (below_box _ _), hf⟩, fun j hj => ?_⟩
  simp only [Nat.zero_mul, Nat.zero_add]
  rw [cell_of_row _ _ _ _ _ _ (heap_alloc_new w _)]
  simp
theorem proc_lit (w : World) (p : Proc) (u : Value) (T : TypeId) (hu : SlAt 8 InsP w u p.ins) (hf : I64 p.regs) : CodeAt (w.alloc (.cells (procV p u).toArray T)) (.slice (some ⟨w.heap.size, 0, none⟩) 1 1) [p] := by
  refine ⟨_, 1, rfl, ⟨Nat.le_refl _, by unfold maxLen; omega⟩, fun _ => ⟨w.heap.size, 0, rfl, by simp, fun i y hy => ?_⟩⟩
  have hi : i = 0 := by have := (List.getElem?_eq_some_iff.1 hy).1; simp at this; exact this
  subst hi
  cases hy
  refine ⟨procV p u, ⟨u, rfl, hu.below InsP.keeps (below_box _ _), hf⟩, fun j hj => ?_⟩
  simp only [Nat.zero_mul, Nat.zero_add]
  rw [cell_of_row _ _ _ _ _ _ (heap_alloc_new w _)]
  simp
theorem i64c (n : Int) (h : decide (-9223372036854775808 ≤ n ∧ n ≤ 9223372036854775807) = true) : I64 n := by have := of_decide_eq_true h; exact this
set_option maxRecDepth 100000 in
set_option maxHeartbeats 4000000 in
theorem shown_any (w : World) (hE : Env w) : Calls Tryz.prog 4 #[] w fun e w' => e = .returned (.bool true) ∧ Below w.heap.size w w' := by
  have hb2 := two_box w (.cells #[.int .i64 20, .int .i64 0, .int .i64 (-1), .int .i64 0, .int .i64 0, .string ⟨#[]⟩, .int .i64 0, .slice none 0 0] 33) (.cells #[.int .i64 0, .slice (some ⟨w.heap.size, 0, none⟩) 1 1] 36)
  have hlit := proc_lit (w.alloc (.cells #[.int .i64 20, .int .i64 0, .int .i64 (-1), .int .i64 0, .int .i64 0, .string ⟨#[]⟩, .int .i64 0, .slice none 0 0] 33)) ⟨0, [⟨20, 0, -1, 0, 0, nilB, 0, []⟩]⟩ (.slice (some ⟨w.heap.size, 0, none⟩) 1 1) 36
    (ins_lit w ⟨20, 0, -1, 0, 0, nilB, 0, []⟩ (.slice none 0 0) 33 (SlAt.nil _ _ _) ⟨⟨i64c _ rfl, i64c _ rfl, i64c _ rfl, i64c _ rfl, i64c _ rfl, i64c _ rfl⟩, fine_nil⟩) (i64c _ rfl)
  rw [World.size_alloc] at hlit
  have HS := Lib.hid (show_any _ one9 _ hlit (hE.kept hb2) (by kernel_rfl))
  rw [show_one] at HS
  have HB := Lib.hid hb2
  have HN := Lib.hid (fun w hE => show_any _ [] w (code_nil w) hE (by kernel_rfl))
  rw [show_none] at HN
  have HE := Lib.hid hE
  clear hb2 hlit hE
  go_enter Tryz.func4, Tryz.ntmps4
  go_wp2_with fail
  go_at_call 6
  refine HS.out.mono ?_
  rintro e w1 ⟨rfl, hb1⟩
  have hB1 := HB.out.trans (hb1.mono HB.out.size)
  have HN1 := Lib.hid (HN.out w1 (HE.out.kept hB1))
  have HB1 := Lib.hid hB1
  clear hb1 hB1 HS HN
  go_wp2_with (go_at_call 6; refine HN1.out.mono ?_; rintro e w2 ⟨rfl, hb2⟩)
  go_ret
  exact ⟨rfl, HB1.out.trans (hb2.mono HB1.out.size)⟩

theorem small_no {l : List Proc} {i : Nat} {p : Proc} (hp : l[i]? = some p) (h : smallP p = false) : smallC l = false := by
  unfold smallC
  rw [all_not hp h]
  simp
set_option maxRecDepth 100000 in
set_option maxHeartbeats 4000000 in
theorem small_any (v : Value) (l : List Proc) (w : World) (hl : CodeAt w v l) : Calls Tryz.prog 5 #[v] w fun e w' => e = .returned (.int .i64 (if smallC l = true then 1 else 0)) ∧ Below w.heap.size w w' := by
  obtain ⟨A, cap, rfl⟩ := SlAt.form hl
  obtain ⟨-, hca, hcm, -⟩ := SlAt.get hl
  have hm1 : cap ≤ 9223372036854775807 := hcm
  have HL := Lib.hid hl
  obtain ⟨z, hz⟩ : ∃ z : Int, (if smallC l = true then (1 : Int) else 0) = z := ⟨_, rfl⟩
  rw [hz]
  have HZ := Lib.hid hz
  clear hl hcm hz
  by_cases h15 : 15 < l.length
  · have q : (15 : Int) < l.length := by omega
    have HR := Lib.hid (show z = 0 by rw [← HZ.out, show smallC l = false by unfold smallC; rw [decide_eq_false (by omega)]; rfl]; rfl)
    clear h15
    go_enter Tryz.func5, Tryz.ntmps5
    go_wp2
    go_ret
    exact ⟨by rw [HR.out]; rfl, Below.refl _ _⟩
  have q : ¬ (15 : Int) < l.length := by omega
  go_enter Tryz.func5, Tryz.ntmps5
  go_wp2
  go_loopw [3] (fun i wr => ∃ k : Nat, k ≤ l.length ∧ i = .int .i64 k ∧ (l.take k).all smallP = true ∧ Below w.heap.size w wr) (fun i _ => l.length - (intOf i).toNat)
  case atStart => exact ⟨0, Nat.zero_le _, rfl, rfl, Below.refl _ _⟩
  case round =>
    obtain ⟨k, hk, rfl, hall, hB⟩ := hrel
    have HO := Lib.hid (And.intro hall hB)
    clear hall hB
    by_cases hlt : k < l.length
    · obtain ⟨g, off, p, A', cx, rfl, hg, hp, hsl, hr, c0, c1⟩ := CodeAt.get HL.out k hlt
      have HC1 := Lib.hid c1
      rw [← HO.out.2.cell (p := ⟨g, off + k * 2 + 1, none⟩) hg] at c1
      obtain ⟨-, hpa, hpm, -⟩ := SlAt.get hsl
      have hpm1 : cx ≤ 9223372036854775807 := hpm
      have g1 : (k : Int) < l.length := by omega
      have HP := Lib.hid (And.intro hp hsl)
      clear hp hsl hr c0 hpm
      by_cases h60 : 60 < p.ins.length
      · have q2 : (60 : Int) < p.ins.length := by omega
        have HR := Lib.hid (show z = 0 by rw [← HZ.out, small_no HP.out.1 (by unfold smallP; rw [decide_eq_false (by omega)]; rfl)]; rfl)
        clear h60
        go_wp2
        go_ret
        exact ⟨by rw [HR.out]; rfl, HO.out.2⟩
      have q2 : ¬ (60 : Int) < p.ins.length := by omega
      go_wp2
      go_loopw [4] (fun i wr => ∃ j : Nat, j ≤ p.ins.length ∧ i = .int .i64 j ∧ (p.ins.take j).all (fun x => decide (x.l.length ≤ 20) && decide (x.s.size ≤ 100)) = true ∧ Below w.heap.size w wr) (fun i _ => p.ins.length - (intOf i).toNat)
      case atStart => exact ⟨0, Nat.zero_le _, rfl, rfl, HO.out.2⟩
      case round =>
        obtain ⟨j, hj, rfl, hall, hB⟩ := hrel
        have HOq := Lib.hid (And.intro hall hB)
        clear hall hB c1
        have c1 := (HOq.out.2.cell (p := ⟨g, off + k * 2 + 1, none⟩) hg).trans HC1.out
        by_cases hlj : j < p.ins.length
        · obtain ⟨gi, oi, x, A2, c2, rfl, hgi, hx, hints, -, -, -, -, -, -, f5, -, f7⟩ := ins_get HP.out.2 j hlj
          rw [← HOq.out.2.cell (p := ⟨gi, oi + j * 8 + 5, none⟩) hgi] at f5
          rw [← HOq.out.2.cell (p := ⟨gi, oi + j * 8 + 7, none⟩) hgi] at f7
          have g2 : (j : Int) < p.ins.length := by omega
          have HX := Lib.hid hx
          clear hx hints
          by_cases h20 : 20 < x.l.length
          · have q3 : (20 : Int) < x.l.length := by omega
            have HR := Lib.hid (show z = 0 by rw [← HZ.out, small_no HP.out.1 (by unfold smallP; rw [all_not HX.out (by rw [decide_eq_false (by omega)]; rfl)]; simp)]; rfl)
            clear h20
            go_wp2
            go_ret
            exact ⟨by rw [HR.out]; rfl, HOq.out.2⟩
          have q3 : ¬ (20 : Int) < x.l.length := by omega
          by_cases h100 : 100 < x.s.size
          · have q4 : (100 : Int) < x.s.size := by omega
            have HR := Lib.hid (show z = 0 by rw [← HZ.out, small_no HP.out.1 (by unfold smallP; rw [all_not HX.out (by rw [show decide (x.s.size ≤ 100) = false from decide_eq_false (by omega)]; simp)]; simp)]; rfl)
            clear h100 h20
            go_wp2
            go_ret
            exact ⟨by rw [HR.out]; rfl, HOq.out.2⟩
          have q4 : ¬ (100 : Int) < x.s.size := by omega
          have HR := Lib.hid (all_take HOq.out.1 HX.out (by rw [decide_eq_true (by omega), decide_eq_true (by omega)]; rfl))
          clear h20 h100
          go_wp2
          go_roundw
          case rel => exact ⟨j + 1, by omega, by go_num, HR.out, HOq.out.2⟩
          case measure => simp [intOf]; omega
        · have g2 : ¬ (j : Int) < p.ins.length := by omega
          have HR := Lib.hid (all_take HO.out.1 HP.out.1 (show smallP p = true by unfold smallP; rw [decide_eq_true (by omega), all_done HOq.out.1 (by omega)]; rfl))
          go_wp2
          go_roundw
          case rel => exact ⟨k + 1, by omega, by go_num, HR.out, HOq.out.2⟩
          case measure => simp [intOf]; omega
    · have g1 : ¬ (k : Int) < l.length := by omega
      have HR := Lib.hid (show z = 1 by rw [← HZ.out, show smallC l = true by unfold smallC; rw [decide_eq_true (by omega), all_done HO.out.1 (by omega)]; rfl]; rfl)
      go_wp2
      go_ret
      exact ⟨by rw [HR.out]; rfl, HO.out.2⟩
end Go.Proofs.YtconnhphkbgbkaaGreatDoor
