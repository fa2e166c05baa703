/- graph.Callers. -/
import Derived.Test.YtfiockconbaniaaGrOut
namespace Go.Proofs.Ytfiockconbaniaa
set_option linter.unusedSimpArgs false
set_option linter.unusedVariables false
open Go.RowKit Go.Proofs

theorem box3 {W : World} {b : Nat} {x0 x1 x2 : Value} {t : TypeId} (h : W.heap[b]? = some (.cells #[x0, x1, x2] t (0, 0))) :
    (W.cell? ⟨b, 0, none⟩ = some x0 ∧ W.cell? ⟨b, 1, none⟩ = some x1 ∧ W.cell? ⟨b, 2, none⟩ = some x2) := by
  refine ⟨?_, ?_, ?_⟩
  · simpa using cell_of_row W b 0 _ _ _ h
  · simpa using cell_of_row W b 1 _ _ _ h
  · simpa using cell_of_row W b 2 _ _ _ h
theorem rise_out {w wr w8 : World} {v v8 : Value} {l l8 : List Int} (hb : Below w.heap.size w wr) (hv : OwnR 1 3 IntP w wr w.heap.size v l) (h8 : OwnR 1 3 IntP w w8 w.heap.size v8 l8) (hg : wr.grownBy w8 v.ownBlock) : OutI w w8 v8 l8 := by
  have hb8 : Below w.heap.size w w8 := hb.grown hg hb.size (fun k e => (hv.blk e).1)
  exact ⟨h8.at_ IntP.cells IntP.keeps hb8, hb8⟩
set_option maxHeartbeats 4000000 in
theorem callers_any (A : Option Addr) (n c : Nat) (l : List Ed) (m : Int) (w : World) (hr : Edges9 w (.slice A n c) l) (hn : n ≤ 100000) :
    Calls Try.prog 17 #[.slice A n c, .int .i64 m] w fun e w' => ∃ v, e = .returned v ∧ OutI w w' v (setI (crsL m l)) := by
  obtain ⟨hnl, hnc, hcm, -⟩ := SlAt.get hr
  have hcx : c ≤ 9223372036854775807 := hcm
  have HL := Lib.hid hnl.symm
  clear hnl hcm
  go_enter Try.func17, Try.ntmps17
  go_wp2
  go_loopw [5, 10] (fun s5 i wr => ∃ k : Nat, k ≤ n ∧ i = .int .i64 k ∧ OwnR 1 3 IntP w wr w.heap.size s5 (crsL m (l.take k)) ∧ Below w.heap.size w wr) (fun _ i _ => n - (intOf i).toNat)
  case atStart => exact ⟨0, Nat.zero_le _, rfl, OwnR.nil _ _ _ _ _ _, Below.refl _ _⟩
  case round =>
    obtain ⟨k, hk, rfl, hown, hb⟩ := hrel
    obtain ⟨A5, c5, rfl, h51, h52⟩ := hown.form
    have h53 : c5 ≤ 9223372036854775807 := h52
    have hlen : (crsL m (l.take k)).length ≤ 100000 := by
      have h2 := crsL_len m (l.take k)
      rw [List.length_take] at h2
      omega
    by_cases hlt : k < n
    · have g1 : (k : Int) < n := by omega
      obtain ⟨g, off, f, rfl, hg, hz, ⟨hb1, hb2, hb3⟩, hc0, hc1, hc2⟩ := ed_get hr k hlt
      have x0 := (hb.cell (p := ⟨g, off + k * 3, none⟩) hg).trans hc0
      have x1 := (hb.cell (p := ⟨g, off + k * 3 + 1, none⟩) hg).trans hc1
      have x2 := (hb.cell (p := ⟨g, off + k * 3 + 2, none⟩) hg).trans hc2
      have HD := Lib.hid (take_at hz)
      have hal : Below wr.heap.size wr (wr.alloc (.cells #[.int .i64 f.fr, .int .i64 f.mark, .int .i64 f.to] 44)) := (Below.refl _ wr).alloc (Nat.le_refl _) _
      have hbx := heap_alloc_new wr (.cells #[.int .i64 f.fr, .int .i64 f.mark, .int .i64 f.to] 44)
      obtain ⟨w1, e1⟩ : ∃ x, wr.alloc (.cells #[.int .i64 f.fr, .int .i64 f.mark, .int .i64 f.to] 44) = x := ⟨_, rfl⟩
      rw [e1] at hal hbx
      have z1 : w1.heap.size = wr.heap.size + 1 := by rw [← e1]; exact World.size_alloc _ _
      obtain ⟨y0, y1, y2⟩ := box3 hbx
      have hbz := hb.size
      have HP0 := int_push (hown.below hal) f.mark hb2 (by omega) (by omega)
      rw [z1] at HP0
      have HP := Lib.hid HP0
      have HB := Lib.hid (And.intro (hown.below hal) (And.intro (hb.trans (hal.mono hbz)) hbz))
      clear hown hb hal hbx HP0 hz hc0 hc1 hc2
      by_cases hA : f.to = m
      · have g2 : (f.to == m) = true := by simpa using hA
        have HS := Lib.hid hA
        clear hA
        go_wp2_with (at_builtin; refine wl_app rfl _ _ 35 rfl _ (.slice (some ⟨wr.heap.size + 1, 0, none⟩) 1 1) rfl rfl _ HP.out ?_; rintro u w7 ⟨h1, h2, A7, c7, rfl, h3, h4⟩; have M7 := Lib.hid (And.intro h1 h2); clear h1 h2)
        go_roundw
        case rel => exact ⟨k + 1, by omega, by go_num, by
          rw [HD.out, crsL_snoc, if_pos (by simp [HS.out])]
          exact M7.out.1, HB.out.2.1.trans M7.out.2⟩
        case measure => simp [intOf]; omega
      · have g2 : (f.to == m) = false := by simpa using hA
        have HS := Lib.hid hA
        clear hA HP
        go_wp2
        go_roundw
        case rel => exact ⟨k + 1, by omega, by go_num, by
          rw [HD.out, crsL_snoc, if_neg (by simp [HS.out])]
          exact HB.out.1, HB.out.2.1⟩
        case measure => simp [intOf]; omega
    · have g1 : ¬ (k : Int) < n := by omega
      have HR := Lib.hid (rising_any hown hb.size (by omega))
      have HO := Lib.hid (And.intro hown (And.intro hb (congrArg (fun q => setI (crsL m q)) (List.take_of_length_le (i := k) (l := l) (by have := HL.out; omega)))))
      clear hown hb
      go_wp2_with (go_at_call 40; refine (HR.out).mono ?_; rintro e w8 ⟨v8, rfl, h8, g8⟩; have H8 := Lib.hid (rise_out HO.out.2.1 HO.out.1 h8 g8); clear h8 g8)
      go_ret
      refine ⟨_, rfl, ?_⟩
      have h := HO.out.2.2
      rw [← h]
      exact H8.out
end Go.Proofs.Ytfiockconbaniaa
