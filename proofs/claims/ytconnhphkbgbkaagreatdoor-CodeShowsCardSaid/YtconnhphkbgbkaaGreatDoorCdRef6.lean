/- gumshoeref09.Right: the walk. -/
import Derived.Test.YtconnhphkbgbkaaGreatDoorCdRef5
namespace Go.Proofs.YtconnhphkbgbkaaGreatDoor
open Go.RowKit Go.Proofs

def refOk (n : Nat) (p : Proc) : Bool := !missB p && p.ins.all (insD n p)
set_option maxRecDepth 100000 in
set_option maxHeartbeats 8000000 in
theorem refright_any (v : Value) (l : List Proc) (w : World) (hl : CodeAt w v l) (hn : l.length ≤ 1000) : Calls Tryz.prog 17 #[v] w fun e w' => e = .returned (.bool (l.all (refOk l.length) && decide (0 < l.length))) ∧ Below w.heap.size w w' := by
  obtain ⟨A, cap, rfl⟩ := SlAt.form hl
  obtain ⟨-, hca, hcm, -⟩ := SlAt.get hl
  have hm1 : cap ≤ 9223372036854775807 := hcm
  have HA := Lib.hid hl
  have HLn := Lib.hid hn
  obtain ⟨z, hz⟩ : ∃ z, (l.all (refOk l.length) && decide (0 < l.length)) = z := ⟨_, rfl⟩
  rw [hz]
  have HZ := Lib.hid hz
  clear hl hcm hn hz
  go_enter Tryz.func17, Tryz.ntmps17
  go_wp2
  go_loopw [3] (fun i wr => ∃ k : Nat, k ≤ l.length ∧ i = .int .i64 k ∧ (l.take k).all (refOk l.length) = true ∧ Below w.heap.size w wr) (fun i _ => l.length - (intOf i).toNat)
  case atStart => exact ⟨0, Nat.zero_le _, rfl, rfl, Below.refl _ _⟩
  case round =>
    obtain ⟨k, hk, rfl, hall, hB⟩ := hrel
    obtain ⟨wo, ewo⟩ : ∃ wo, wo = wr := ⟨_, rfl⟩
    subst ewo
    have HO := Lib.hid (And.intro hall hB)
    clear hall hB
    by_cases hlt : k < l.length
    · obtain ⟨g, off, p, A', cx, rfl, hg, hp, hsp, hr9, c0, c1⟩ := CodeAt.get HA.out k hlt
      rw [← HO.out.2.cell (p := ⟨g, off + k * 2, none⟩) hg] at c0
      rw [← HO.out.2.cell (p := ⟨g, off + k * 2 + 1, none⟩) hg] at c1
      obtain ⟨-, hpa, hpm, -⟩ := SlAt.get hsp
      have hpm1 : cx ≤ 9223372036854775807 := hpm
      have g1 : (k : Int) < l.length := by omega
      have HX := Lib.hid hp
      have HSl := Lib.hid (And.intro hsp hr9)
      have HBd := Lib.hid (And.intro (below_box wo (.cells #[.int .i64 p.regs, .slice A' p.ins.length cx] 36)) (heap_alloc_new wo (.cells #[.int .i64 p.regs, .slice A' p.ins.length cx] 36)))
      have hM : missB p = true → false = z := fun h => by
        rw [← HZ.out, all_not HX.out (p := refOk l.length) (by unfold refOk; rw [h]; rfl)]
        rfl
      clear hp hr9 hpm
      by_cases h1 : p.regs < 0
      · have HV := Lib.hid (hM (show missB p = true from decide_eq_true (.inl h1)))
        clear hM
        go_wp2
        go_ret
        exact ⟨by rw [← HV.out]; rfl, HO.out.2.trans (HBd.out.1.mono HO.out.2.size)⟩
      by_cases h2 : 60000 < p.regs
      · have HV := Lib.hid (hM (show missB p = true from decide_eq_true (.inr (.inl h2))))
        clear hM
        go_wp2
        go_ret
        exact ⟨by rw [← HV.out]; rfl, HO.out.2.trans (HBd.out.1.mono HO.out.2.size)⟩
      by_cases h3 : p.ins.length < 1
      · have HV := Lib.hid (hM (show missB p = true from decide_eq_true (.inr (.inr (.inl h3)))))
        have h3' : (p.ins.length : Int) < 1 := by omega
        clear h3
        clear hM
        go_wp2
        go_ret
        exact ⟨by rw [← HV.out]; rfl, HO.out.2.trans (HBd.out.1.mono HO.out.2.size)⟩
      by_cases h4 : 60000 < p.ins.length
      · have HV := Lib.hid (hM (show missB p = true from decide_eq_true (.inr (.inr (.inr (.inl h4))))))
        have h3' : ¬ (p.ins.length : Int) < 1 := by omega
        have h4' : (60000 : Int) < p.ins.length := by omega
        clear h3 h4
        clear hM
        go_wp2
        go_ret
        exact ⟨by rw [← HV.out]; rfl, HO.out.2.trans (HBd.out.1.mono HO.out.2.size)⟩
      obtain ⟨m, hm⟩ : ∃ m, p.ins.length = m + 1 := ⟨p.ins.length - 1, by omega⟩
      obtain ⟨gl, ol, xl, Al, cl, rfl, hgl, hxl, -, -, cop, -⟩ := ins_get hsp m (by omega)
      have hlast := lastOp_at hm hxl
      have hc0 : ∀ o, (wo.alloc o).cell? ⟨gl, ol + m * 8, none⟩ = some (.int .i64 xl.op) := fun o => ((HO.out.2.trans ((below_box wo o).mono HO.out.2.size)).cell (p := ⟨gl, ol + m * 8, none⟩) hgl).trans cop
      have hHR := Lib.hid (show missB p = decide (xl.op ≠ 20) by
        unfold missB
        rw [decide_eq_decide, hlast]
        constructor
        · rintro (h | h | h | h | h)
          · exact (h1 h).elim
          · exact (h2 h).elim
          · exact (h3 h).elim
          · exact (h4 h).elim
          · exact h
        · exact fun h => .inr (.inr (.inr (.inr h))))
      have e1 : ¬ (p.ins.length : Int) < 1 := by omega
      have e2 : ¬ (60000 : Int) < (p.ins.length : Int) := by omega
      have e3 : (p.ins.length : Int) - 1 = (m : Int) := by omega
      have e4 : (m : Int) < p.ins.length := by omega
      clear hsp cop hxl h3 h4 hlast hm
      by_cases h5 : xl.op = 20
      case neg =>
        have q : (xl.op != 20) = true := by simp [h5]
        have HV := Lib.hid (hM (show missB p = true by rw [hHR.out]; simp [h5]))
        clear h5 hM
        go_wp2
        go_ret
        exact ⟨by rw [← HV.out]; rfl, HO.out.2.trans (HBd.out.1.mono HO.out.2.size)⟩
      have q : (xl.op != 20) = false := by simp [h5]
      have HM := Lib.hid (show missB p = false by rw [hHR.out]; simp [h5])
      clear h5 hM
      go_wp2
      go_loopw [6] (fun i wr => ∃ j : Nat, j ≤ p.ins.length ∧ i = .int .i64 j ∧ (p.ins.take j).all (insD l.length p) = true ∧ Below (wo.alloc (.cells #[.int .i64 p.regs, .slice (some ⟨gl, ol, none⟩) p.ins.length cx] 36)).heap.size (wo.alloc (.cells #[.int .i64 p.regs, .slice (some ⟨gl, ol, none⟩) p.ins.length cx] 36)) wr) (fun i _ => p.ins.length - (intOf i).toNat)
      case atStart => exact ⟨0, Nat.zero_le _, rfl, rfl, Below.refl _ _⟩
      case round =>
        obtain ⟨j, hj, rfl, hall, hB⟩ := hrel
        have hbx := (hB.block _ (heap_lt HBd.out.2)).trans HBd.out.2
        have HOq := Lib.hid (And.intro hall (And.intro hB (HO.out.2.trans ((HBd.out.1.trans (hB.mono HBd.out.1.size)).mono HO.out.2.size))))
        clear hall hB
        by_cases hlj : j < p.ins.length
        · obtain ⟨gi, oi, x, A2, c2, e9, hgi, hx, hxl, hxf, f0, f1, f2, f3, f4, f5, f6, f7⟩ := ins_get HSl.out.1 j hlj
          cases e9
          rw [← HOq.out.2.2.cell (p := ⟨gl, ol + j * 8, none⟩) hgi] at f0
          rw [← HOq.out.2.2.cell (p := ⟨gl, ol + j * 8 + 1, none⟩) hgi] at f1
          rw [← HOq.out.2.2.cell (p := ⟨gl, ol + j * 8 + 2, none⟩) hgi] at f2
          rw [← HOq.out.2.2.cell (p := ⟨gl, ol + j * 8 + 3, none⟩) hgi] at f3
          rw [← HOq.out.2.2.cell (p := ⟨gl, ol + j * 8 + 4, none⟩) hgi] at f4
          rw [← HOq.out.2.2.cell (p := ⟨gl, ol + j * 8 + 5, none⟩) hgi] at f5
          rw [← HOq.out.2.2.cell (p := ⟨gl, ol + j * 8 + 6, none⟩) hgi] at f6
          rw [← HOq.out.2.2.cell (p := ⟨gl, ol + j * 8 + 7, none⟩) hgi] at f7
          have p0 : wr.cell? ⟨wo.heap.size, 0, none⟩ = some (.int .i64 p.regs) := cell_of_row wr _ 0 _ _ _ hbx
          have p1 : wr.cell? ⟨wo.heap.size, 1, none⟩ = some (.slice (some ⟨gl, ol, none⟩) p.ins.length cx) := cell_of_row wr _ 1 _ _ _ hbx
          have g3 : (j : Int) < p.ins.length := by omega
          have hdr := HOq.out.2.2.trans ((below_drewN9 wr 1).mono HOq.out.2.2.size)
          have HC3 := Lib.hid (rins_all (.agg #[.int .i64 x.op, .int .i64 x.d, .int .i64 x.a, .int .i64 x.b, .int .i64 x.c, .string x.s, .int .i64 x.n, .slice A2 x.l.length c2]) (.agg #[.int .i64 p.regs, .slice (some ⟨gl, ol, none⟩) p.ins.length cx]) x p l.length _ (InsAt.below ⟨_, rfl, hxl, hxf⟩ hdr) (ProcAt.below ⟨_, rfl, HSl.out.1, HSl.out.2⟩ hdr) HLn.out)
          have HDr := Lib.hid (HOq.out.2.1.trans ((below_drewN9 wr 1).mono HOq.out.2.1.size))
          have HY := Lib.hid hx
          clear hx hxl hxf hdr hbx
          obtain ⟨t, ht⟩ : ∃ t, insD l.length p x = t := ⟨_, rfl⟩
          rw [ht] at HC3
          have HT := Lib.hid ht
          clear ht
          cases t with
          | true =>
            have HV := Lib.hid (all_take HOq.out.1 HY.out (p := insD l.length p) HT.out)
            go_wp2_with fail
            go_still_tail 8, (by kernel_rfl)
            change wpList _ _ _ _ _ wr.drew
            go_wp2_with (go_at_call 31; refine HC3.out.mono ?_; rintro e w1 ⟨rfl, hb1⟩; have HB1 := Lib.hid (HDr.out.trans (hb1.mono HDr.out.size)); clear hb1)
            go_wp2
            go_roundw
            case rel => exact ⟨j + 1, by omega, by go_num, HV.out, HB1.out⟩
            case measure => simp [intOf]; omega
          | false =>
            have HV := Lib.hid (show false = z by
              rw [← HZ.out, all_not HX.out (p := refOk l.length) (by unfold refOk; rw [HM.out, all_not HY.out (p := insD l.length p) HT.out]; rfl)]
              rfl)
            go_wp2_with fail
            go_still_tail 8, (by kernel_rfl)
            change wpList _ _ _ _ _ wr.drew
            go_wp2_with (go_at_call 31; refine HC3.out.mono ?_; rintro e w1 ⟨rfl, hb1⟩; have HB1 := Lib.hid (HDr.out.trans (hb1.mono HDr.out.size)); clear hb1)
            go_wp2
            go_ret
            exact ⟨by rw [← HV.out]; rfl, HO.out.2.trans ((HBd.out.1.trans (HB1.out.mono HBd.out.1.size)).mono HO.out.2.size)⟩
        · have g3 : ¬ (j : Int) < p.ins.length := by omega
          have HV := Lib.hid (all_take HO.out.1 HX.out (p := refOk l.length) (by unfold refOk; rw [HM.out, all_done HOq.out.1 (by omega)]; rfl))
          go_wp2
          go_roundw
          case rel => exact ⟨k + 1, by omega, by go_num, HV.out, HOq.out.2.2⟩
          case measure => simp [intOf]; omega
    · have g1 : ¬ (k : Int) < l.length := by omega
      have HF := Lib.hid (show decide (0 < l.length) = z by rw [← HZ.out, all_done HO.out.1 (by omega)]; rfl)
      obtain ⟨b, hb⟩ : ∃ b, decide ((0 : Int) < l.length) = b := ⟨_, rfl⟩
      have HQ := Lib.hid (show b = z by rw [← HF.out, ← hb, decide_eq_decide]; omega)
      by_cases h0 : (0 : Int) < l.length
      all_goals
        have HR0 := Lib.hid (show decide ((0 : Int) < l.length) = z by rw [hb, HQ.out])
        clear hb
        go_wp2
        go_ret
        exact ⟨by rw [← HR0.out]; simp, HO.out.2⟩
end Go.Proofs.YtconnhphkbgbkaaGreatDoor
