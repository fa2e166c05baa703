/- gumshoeref09.ins: is an instruction right. -/
import Derived.Test.YtconnhphkbgbkaaGreatDoorCdRef3
import Derived.Test.YtconnhphkbgbkaaGreatDoorCdRSame
import Derived.Test.YtconnhphkbgbkaaGreatDoorCdDem4
import Derived.Deep.DeepCutAuto
import Derived.Deep.CutRange
namespace Go.Proofs.YtconnhphkbgbkaaGreatDoor
open Go.RowKit Go.Proofs

/-- What the document's ins asks, field by field. -/
def rA1 (S : ByteArray) (x : Ins) (regs : Int) : Bool := if hasN S 97 then vrightB x.a x.n x.s && !decide (x.a = 5) else regB x.a (hasN S 65) regs
def rA2 (S : ByteArray) (x : Ins) (regs : Int) : Bool := if hasN S 114 then decide (-1 ≤ x.a) && decide (x.a < regs) else rA1 S x regs
def rB2 (S : ByteArray) (x : Ins) (regs : Int) : Bool := if hasN S 98 then decide (-1 ≤ x.b) && decide (x.b < regs) else regB x.b (hasN S 66) regs
def rT1 (S : ByteArray) (x : Ins) : Bool := decide (x.s = nilB) || hasN S 83
def rT2 (S : ByteArray) (x : Ins) : Bool := if hasN S 115 then isSignB x.s else rT1 S x
def rL1 (S : ByteArray) (x : Ins) : Bool := decide (0 < x.l.length) && !hasN S 76
def rinsB (S : ByteArray) (x : Ins) (p : Proc) (funs : Nat) : Bool :=
  !rL1 S x && (x.l.all (within p.regs) && (rA2 S x p.regs && (rB2 S x p.regs && (rT2 S x && (rnumB S x.n p.ins.length funs && (regB x.d (hasN S 68) p.regs && regB x.c (hasN S 67) p.regs))))))
/-- Amid ins: the two boxes. -/
structure RS (w : World) (x : Ins) (u : Value) (p : Proc) (v : Value) (W : World) : Prop where
  bel : Below w.heap.size w W
  bi : W.heap[w.heap.size]? = some (.cells #[.int .i64 x.op, .int .i64 x.d, .int .i64 x.a, .int .i64 x.b, .int .i64 x.c, .string x.s, .int .i64 x.n, u] 33 (0, 0))
  bp : W.heap[w.heap.size + 1]? = some (.cells #[.int .i64 p.regs, v] 36 (0, 0))
theorem RS.on {w W W' : World} {x : Ins} {u : Value} {p : Proc} {v : Value} (h : RS w x u p v W) (hb : Below W.heap.size W W') : RS w x u p v W' :=
  ⟨h.bel.trans (hb.mono h.bel.size), (hb.block _ (heap_lt h.bi)).trans h.bi, (hb.block _ (heap_lt h.bp)).trans h.bp⟩
theorem RS.cells {w W : World} {x : Ins} {u : Value} {p : Proc} {v : Value} (h : RS w x u p v W) : Cells8 W w.heap.size x u ∧ W.cell? ⟨w.heap.size + 1, 0, none⟩ = some (.int .i64 p.regs) ∧ W.cell? ⟨w.heap.size + 1, 1, none⟩ = some v :=
  ⟨cells8_of h.bi, cell_of_row W _ 0 _ _ _ h.bp, cell_of_row W _ 1 _ _ _ h.bp⟩

set_option maxRecDepth 100000 in
set_option maxHeartbeats 16000000 in
theorem rins_any (vx vp : Value) (x : Ins) (p : Proc) (funs : Nat) (w : World) (hx : InsAt w vx x) (hp : ProcAt w vp p) (hf : funs ≤ 1000) (hS : (nm x.op).size ≤ 100) (hno : nm x.op ≠ ⟨#[45]⟩) :
    Calls Tryz.prog 31 #[vx, vp, .int .i64 funs] w fun e w' => e = .returned (.bool (rinsB (nm x.op) x p funs)) ∧ Below w.heap.size w w' := by
  obtain ⟨u, rfl, hu, hfx⟩ := hx
  obtain ⟨v, rfl, hv, -⟩ := hp
  obtain ⟨A, ca, rfl⟩ := SlAt.form hu
  obtain ⟨B, cb, rfl⟩ := SlAt.form hv
  obtain ⟨-, hca, hcm, -⟩ := SlAt.get hu
  have hm1 : ca ≤ 9223372036854775807 := hcm
  unfold insV procV
  have h0 : RS w x (.slice A x.l.length ca) p (.slice B p.ins.length cb) ((w.alloc (.cells #[.int .i64 x.op, .int .i64 x.d, .int .i64 x.a, .int .i64 x.b, .int .i64 x.c, .string x.s, .int .i64 x.n, .slice A x.l.length ca] 33)).alloc (.cells #[.int .i64 p.regs, .slice B p.ins.length cb] 36)) :=
    ⟨two_box _ _ _, ((below_box _ _).block _ (by simp)).trans (heap_alloc_new w _), by have := heap_alloc_new (w.alloc (.cells #[.int .i64 x.op, .int .i64 x.d, .int .i64 x.a, .int .i64 x.b, .int .i64 x.c, .string x.s, .int .i64 x.n, .slice A x.l.length ca] 33)) (.cells #[.int .i64 p.regs, .slice B p.ins.length cb] 36); rw [World.size_alloc] at this; exact this⟩
  obtain ⟨W0, hW0⟩ : ∃ W0, (w.alloc (.cells #[.int .i64 x.op, .int .i64 x.d, .int .i64 x.a, .int .i64 x.b, .int .i64 x.c, .string x.s, .int .i64 x.n, .slice A x.l.length ca] 33)).alloc (.cells #[.int .i64 p.regs, .slice B p.ins.length cb] 36) = W0 := ⟨_, rfl⟩
  rw [hW0] at h0
  have HW0 := Lib.hid hW0
  have H0 := Lib.hid h0
  have HN := Lib.hid (fun w => names_any x.op w)
  obtain ⟨S, hSn⟩ : ∃ S, nm x.op = S := ⟨_, rfl⟩
  rw [hSn] at HN hS hno ⊢
  have e45 : (S.toList == ([45] : Bs)) = false := by
    rw [beq_eq_false_iff_ne, Lib.toList_data]
    intro e
    apply hno
    rw [← bs_of S, e]
    rfl
  have HU := Lib.hid (And.intro hu hfx)
  have HF := Lib.hid hf
  have H65 := Lib.hid (fun w => has_any S 65 65 rfl hS w)
  have H97 := Lib.hid (fun w => has_any S 97 97 rfl hS w)
  have H114 := Lib.hid (fun w => has_any S 114 114 rfl hS w)
  have H66 := Lib.hid (fun w => has_any S 66 66 rfl hS w)
  have H98 := Lib.hid (fun w => has_any S 98 98 rfl hS w)
  have H83 := Lib.hid (fun w => has_any S 83 83 rfl hS w)
  have H115 := Lib.hid (fun w => has_any S 115 115 rfl hS w)
  have H76 := Lib.hid (fun w => has_any S 76 76 rfl hS w)
  have H68 := Lib.hid (fun w => has_any S 68 68 rfl hS w)
  have H67 := Lib.hid (fun w => has_any S 67 67 rfl hS w)
  have HQ := Lib.hid (fun n b w => reg_any n b p.regs w)
  have HSz := Lib.hid hS
  clear hW0 h0 hSn hu hv hfx hcm hno hS
  obtain ⟨z, hz⟩ : ∃ z, rinsB S x p funs = z := ⟨_, rfl⟩
  rw [hz]
  have HZ := Lib.hid hz
  clear hz hf
  go_enter Tryz.func31, Tryz.ntmps31
  go_wp2_with fail
  rw [HW0.out]
  go_at_call 56
  refine (HN.out _).mono ?_
  rintro e w1 ⟨rfl, rfl⟩
  clear HN
  obtain ⟨⟨c0, c1, c2, c3, c4, c5, c6, c7, -⟩, p0, p1⟩ := H0.out.cells
  obtain ⟨hA, ehA⟩ : ∃ q, hasN S 65 = q := ⟨_, rfl⟩
  obtain ⟨a0, ea0⟩ : ∃ q, regB x.a hA p.regs = q := ⟨_, rfl⟩
  have HQa := Lib.hid (fun w => reg_any x.a hA p.regs w)
  rw [ehA] at H65
  rw [ea0] at HQa
  have HEa := Lib.hid (And.intro ehA ea0)
  clear ehA ea0
  go_wp2_with fail
  go_quiet (first | (go_at_call 58; exact Calls.quiet_of_same ((H65.out _).mono fun e w' h => ⟨h.1, h.2.symm⟩)) | (go_at_call 57; exact Calls.quiet_of_same ((HQa.out _).mono fun e w' h => ⟨h.1, h.2.symm⟩)))
  have h1 := H0.out.on (below_drewN9 W0 nq)
  generalize W0.drewN nq = WA at h1 ⊢
  have H1 := Lib.hid h1
  clear h1
  clear c0 c1 c2 c3 c4 c5 c6 c7 p0 p1
  obtain ⟨⟨c0, c1, c2, c3, c4, c5, c6, c7, -⟩, p0, p1⟩ := H1.out.cells
  obtain ⟨ha, eha⟩ : ∃ q, hasN S 97 = q := ⟨_, rfl⟩
  rw [eha] at H97
  obtain ⟨a1, ea1⟩ : ∃ q, rA1 S x p.regs = q := ⟨_, rfl⟩
  have HA1 := Lib.hid (show (if ha = true then vrightB x.a x.n x.s && !decide (x.a = 5) else a0) = a1 by
    rw [← ea1]
    unfold rA1
    rw [eha, HEa.out.1, HEa.out.2])
  have HEa1 := Lib.hid ea1
  have HR6 := Lib.hid (fun w => rvright_any x.a x.n x.s w)
  clear eha ea1
  go_upto_if 28 with (go_at_call 58; refine (H97.out _).mono ?_; rintro e w' ⟨rfl, rfl⟩)
  go_cut [8] (fun s8 wc => s8 = .bool a1 ∧ RS w x (.slice A x.l.length ca) p (.slice B p.ins.length cb) wc)
  case first =>
    cases ha with
    | false =>
      have h := HA1.out
      rw [if_neg (by simp)] at h
      go_wp2_with fail
      go_meet
      case rel => exact ⟨by rw [h], H1.out⟩
    | true =>
      have h := HA1.out
      rw [if_pos rfl] at h
      obtain ⟨q, hq⟩ : ∃ q, vrightB x.a x.n x.s = q := ⟨_, rfl⟩
      rw [hq] at h HR6
      have HH := Lib.hid h
      clear h hq
      go_wp2_with fail
      go_at_call 59
      refine (HR6.out _).mono ?_
      rintro e w2 ⟨rfl, hb2⟩
      have h2 := (H1.out.on (below_box _ _)).on hb2
      have HX2 := Lib.hid h2
      clear hb2 h2 c0 c1 c2 c3 c4 c5 c6 c7 p0 p1
      obtain ⟨⟨c0, c1, c2, c3, c4, c5, c6, c7, -⟩, p0, p1⟩ := HX2.out.cells
      cases q with
      | false =>
        go_wp2_with fail
        go_meet
        case rel => exact ⟨by rw [← HH.out]; rfl, HX2.out⟩
      | true =>
        by_cases h5 : x.a = 5
        · have q5 : (x.a != 5) = false := by simp [h5]
          have HV := Lib.hid (show false = a1 by rw [← HH.out]; simp [h5])
          clear h5
          go_wp2_with fail
          go_meet
          case rel => exact ⟨by rw [← HV.out], HX2.out⟩
        · have q5 : (x.a != 5) = true := by simp [h5]
          have HV := Lib.hid (show true = a1 by rw [← HH.out]; simp [h5])
          clear h5
          go_wp2_with fail
          go_meet
          case rel => exact ⟨by rw [← HV.out], HX2.out⟩
  case rest =>
  obtain ⟨rfl, h2⟩ := hcut
  have H2 := Lib.hid h2
  clear h2 HA1 HR6
  clear c0 c1 c2 c3 c4 c5 c6 c7 p0 p1
  obtain ⟨⟨c0, c1, c2, c3, c4, c5, c6, c7, -⟩, p0, p1⟩ := H2.out.cells
  obtain ⟨hr, ehr⟩ : ∃ q, hasN S 114 = q := ⟨_, rfl⟩
  rw [ehr] at H114
  obtain ⟨a2, ea2⟩ : ∃ q, rA2 S x p.regs = q := ⟨_, rfl⟩
  have HA2 := Lib.hid (show (if hr = true then decide (-1 ≤ x.a) && decide (x.a < p.regs) else a1) = a2 by
    rw [← ea2]
    unfold rA2
    rw [ehr, HEa1.out])
  have HEa2 := Lib.hid ea2
  clear ehr ea2
  go_upto_if 45 with (go_at_call 58; refine (H114.out _).mono ?_; rintro e w' ⟨rfl, rfl⟩)
  go_cut [8] (fun s8 wc => s8 = .bool a2 ∧ RS w x (.slice A x.l.length ca) p (.slice B p.ins.length cb) wc)
  case first =>
    cases hr with
    | false =>
      have h := HA2.out
      rw [if_neg (by simp)] at h
      go_wp2_with fail
      go_meet
      case rel => exact ⟨by rw [h], H2.out⟩
    | true =>
      have h := HA2.out
      rw [if_pos rfl] at h
      by_cases t1 : -1 ≤ x.a
      · by_cases t2 : x.a < p.regs
        · have HV := Lib.hid (show true = a2 by rw [← h]; simp [t1, t2])
          clear h
          go_wp2_with fail
          go_meet
          case rel => exact ⟨by rw [← HV.out], H2.out⟩
        · have HV := Lib.hid (show false = a2 by rw [← h]; simp [t2])
          have ht : decide (x.a < p.regs) = false := decide_eq_false t2
          clear h t2
          go_wp2_with fail
          go_meet
          case rel => exact ⟨by rw [← HV.out], H2.out⟩
      · have HV := Lib.hid (show false = a2 by rw [← h]; simp [t1])
        have ht : decide (-1 ≤ x.a) = false := decide_eq_false t1
        clear h
        go_wp2_with fail
        go_meet
        case rel => exact ⟨by rw [← HV.out], H2.out⟩
  case rest =>
  obtain ⟨rfl, h3⟩ := hcut
  rename_i W3
  have H3 := Lib.hid h3
  clear h3 HA2
  clear c0 c1 c2 c3 c4 c5 c6 c7 p0 p1
  obtain ⟨⟨c0, c1, c2, c3, c4, c5, c6, c7, -⟩, p0, p1⟩ := H3.out.cells
  obtain ⟨hB, ehB⟩ : ∃ q, hasN S 66 = q := ⟨_, rfl⟩
  obtain ⟨b0, eb0⟩ : ∃ q, regB x.b hB p.regs = q := ⟨_, rfl⟩
  have HQb := Lib.hid (fun w => reg_any x.b hB p.regs w)
  rw [ehB] at H66
  rw [eb0] at HQb
  obtain ⟨hb, ehb⟩ : ∃ q, hasN S 98 = q := ⟨_, rfl⟩
  rw [ehb] at H98
  obtain ⟨b2, eb2⟩ : ∃ q, rB2 S x p.regs = q := ⟨_, rfl⟩
  have HB2 := Lib.hid (show (if hb = true then decide (-1 ≤ x.b) && decide (x.b < p.regs) else b0) = b2 by
    rw [← eb2]
    unfold rB2
    rw [ehb, ehB, eb0])
  have HEb2 := Lib.hid eb2
  clear ehB eb0 ehb eb2
  go_wp2_with fail
  go_quiet (first | (go_at_call 58; exact Calls.quiet_of_same ((H66.out _).mono fun e w' h => ⟨h.1, h.2.symm⟩)) | (go_at_call 57; exact Calls.quiet_of_same ((HQb.out _).mono fun e w' h => ⟨h.1, h.2.symm⟩)))
  have h4 := H3.out.on (below_drewN9 _ nq)
  have H4 := Lib.hid h4
  clear h4
  clear c0 c1 c2 c3 c4 c5 c6 c7 p0 p1
  obtain ⟨⟨c0, c1, c2, c3, c4, c5, c6, c7, -⟩, p0, p1⟩ := H4.out.cells
  go_upto_if 64 with (go_at_call 58; refine (H98.out _).mono ?_; rintro e w' ⟨rfl, rfl⟩)
  go_cut [11] (fun s8 wc => s8 = .bool b2 ∧ RS w x (.slice A x.l.length ca) p (.slice B p.ins.length cb) wc)
  case first =>
    cases hb with
    | false =>
      have h := HB2.out
      rw [if_neg (by simp)] at h
      go_wp2_with fail
      go_meet
      case rel => exact ⟨by rw [h], H4.out⟩
    | true =>
      have h := HB2.out
      rw [if_pos rfl] at h
      by_cases t1 : -1 ≤ x.b
      · by_cases t2 : x.b < p.regs
        · have HV := Lib.hid (show true = b2 by rw [← h]; simp [t1, t2])
          clear h
          go_wp2_with fail
          go_meet
          case rel => exact ⟨by rw [← HV.out], H4.out⟩
        · have HV := Lib.hid (show false = b2 by rw [← h]; simp [t2])
          have ht : decide (x.b < p.regs) = false := decide_eq_false t2
          clear h t2
          go_wp2_with fail
          go_meet
          case rel => exact ⟨by rw [← HV.out], H4.out⟩
      · have HV := Lib.hid (show false = b2 by rw [← h]; simp [t1])
        have ht : decide (-1 ≤ x.b) = false := decide_eq_false t1
        clear h
        go_wp2_with fail
        go_meet
        case rel => exact ⟨by rw [← HV.out], H4.out⟩
  case rest =>
  obtain ⟨rfl, h5⟩ := hcut
  have H5 := Lib.hid h5
  clear h5 HB2
  clear c0 c1 c2 c3 c4 c5 c6 c7 p0 p1
  obtain ⟨⟨c0, c1, c2, c3, c4, c5, c6, c7, -⟩, p0, p1⟩ := H5.out.cells
  obtain ⟨hS, ehS⟩ : ∃ q, hasN S 83 = q := ⟨_, rfl⟩
  rw [ehS] at H83
  obtain ⟨t1, et1⟩ : ∃ q, rT1 S x = q := ⟨_, rfl⟩
  have HT1 := Lib.hid (show (decide (x.s = nilB) || hS) = t1 by rw [← et1]; unfold rT1; rw [ehS])
  have HEt1 := Lib.hid et1
  clear ehS et1
  go_upto_region 14 with fail
  go_cut [12] (fun s8 wc => s8 = .bool t1 ∧ RS w x (.slice A x.l.length ca) p (.slice B p.ins.length cb) wc)
  case first =>
    by_cases hs0 : x.s = nilB
    · have e : (x.s.toList == ([] : Bs)) = true := by rw [hs0]; kernel_rfl
      have HV := Lib.hid (show true = t1 by rw [← HT1.out]; simp [hs0])
      clear hs0
      go_wp2_with fail
      go_meet
      case rel => exact ⟨by rw [← HV.out], H5.out⟩
    · have e : (x.s.toList == ([] : Bs)) = false := by
        rw [beq_eq_false_iff_ne, Lib.toList_data]
        intro h
        apply hs0
        rw [← bs_of x.s, h]
        rfl
      have HV := Lib.hid (show hS = t1 by rw [← HT1.out]; simp [hs0])
      clear hs0
      go_wp2_with (go_at_call 58; refine (H83.out _).mono ?_; rintro e w' ⟨rfl, rfl⟩)
      go_meet
      case rel => exact ⟨by rw [← HV.out], H5.out⟩
  case rest =>
  obtain ⟨rfl, h6⟩ := hcut
  have H6 := Lib.hid h6
  clear h6 HT1
  clear c0 c1 c2 c3 c4 c5 c6 c7 p0 p1
  obtain ⟨⟨c0, c1, c2, c3, c4, c5, c6, c7, -⟩, p0, p1⟩ := H6.out.cells
  obtain ⟨hs, ehs⟩ : ∃ q, hasN S 115 = q := ⟨_, rfl⟩
  rw [ehs] at H115
  obtain ⟨t2, et2⟩ : ∃ q, rT2 S x = q := ⟨_, rfl⟩
  have HT2 := Lib.hid (show (if hs = true then isSignB x.s else t1) = t2 by
    rw [← et2]
    unfold rT2
    rw [ehs, HEt1.out])
  have HEt2 := Lib.hid et2
  have HSg := Lib.hid (fun w => sign_any x.s w)
  clear ehs et2
  go_upto_if 83 with (go_at_call 58; refine (H115.out _).mono ?_; rintro e w' ⟨rfl, rfl⟩)
  go_cut [12] (fun s8 wc => s8 = .bool t2 ∧ RS w x (.slice A x.l.length ca) p (.slice B p.ins.length cb) wc)
  case first =>
    cases hs with
    | false =>
      have h := HT2.out
      rw [if_neg (by simp)] at h
      go_wp2_with fail
      go_meet
      case rel => exact ⟨by rw [h], H6.out⟩
    | true =>
      have h := HT2.out
      rw [if_pos rfl] at h
      go_wp2_with (go_at_call 60; refine (HSg.out _).mono ?_; rintro e w2 ⟨rfl, hb2⟩; have HX2 := Lib.hid (H6.out.on hb2); clear hb2)
      go_meet
      case rel => exact ⟨by first | rfl | rw [h], HX2.out⟩
  case rest =>
  obtain ⟨rfl, h7⟩ := hcut
  have H7 := Lib.hid h7
  clear h7 HT2 HSg
  clear c0 c1 c2 c3 c4 c5 c6 c7 p0 p1
  obtain ⟨⟨c0, c1, c2, c3, c4, c5, c6, c7, -⟩, p0, p1⟩ := H7.out.cells
  obtain ⟨hL, ehL⟩ : ∃ q, hasN S 76 = q := ⟨_, rfl⟩
  rw [ehL] at H76
  obtain ⟨l1, el1⟩ : ∃ q, rL1 S x = q := ⟨_, rfl⟩
  have HL1 := Lib.hid (show (decide (0 < x.l.length) && !hL) = l1 by rw [← el1]; unfold rL1; rw [ehL])
  have HEl1 := Lib.hid el1
  clear ehL el1
  go_upto_region 17 with fail
  go_cut [95] (fun s8 wc => s8 = .bool l1 ∧ RS w x (.slice A x.l.length ca) p (.slice B p.ins.length cb) wc)
  case first =>
    by_cases hl0 : 0 < x.l.length
    · have e : (0 : Int) < x.l.length := by omega
      have HV := Lib.hid (show (!hL) = l1 by rw [← HL1.out]; simp [hl0])
      clear hl0
      go_wp2_with (go_at_call 58; refine (H76.out _).mono ?_; rintro e w' ⟨rfl, rfl⟩)
      go_meet
      case rel => exact ⟨by rw [← HV.out], H7.out⟩
    · have e : ¬ (0 : Int) < x.l.length := by omega
      have HV := Lib.hid (show false = l1 by rw [← HL1.out]; simp [hl0])
      clear hl0
      go_wp2_with fail
      go_meet
      case rel => exact ⟨by rw [← HV.out], H7.out⟩
  case rest =>
  obtain ⟨rfl, h8⟩ := hcut
  have H8 := Lib.hid h8
  clear h8 HL1
  clear c0 c1 c2 c3 c4 c5 c6 c7 p0 p1
  obtain ⟨⟨c0, c1, c2, c3, c4, c5, c6, c7, -⟩, p0, p1⟩ := H8.out.cells
  cases l1 with
  | true =>
    have HV := Lib.hid (show false = z by rw [← HZ.out]; unfold rinsB; rw [HEl1.out]; rfl)
    go_wp2
    go_ret
    exact ⟨by rw [← HV.out]; rfl, H8.out.bel⟩
  | false =>
  have HZ1 := Lib.hid (show (x.l.all (within p.regs) && (a2 && (b2 && (t2 && (rnumB S x.n p.ins.length funs && (regB x.d (hasN S 68) p.regs && regB x.c (hasN S 67) p.regs)))))) = z by
    rw [← HZ.out]
    unfold rinsB
    rw [HEl1.out, HEa2.out, HEb2.out, HEt2.out]
    rfl)
  clear HZ HEl1 HEa2 HEb2 HEt2 HEa HEa1 HEt1
  go_wp2
  go_loopw [13] (fun i wr => ∃ k : Nat, k ≤ x.l.length ∧ i = .int .i64 k ∧ (x.l.take k).all (within p.regs) = true ∧ RS w x (.slice A x.l.length ca) p (.slice B p.ins.length cb) wr) (fun i _ => x.l.length - (intOf i).toNat)
  case atStart => exact ⟨0, Nat.zero_le _, rfl, rfl, H8.out⟩
  case round =>
    obtain ⟨k, hk, rfl, hall, hR⟩ := hrel
    have HO := Lib.hid (And.intro hall hR)
    clear hall hR c0 c1 c2 c3 c4 c5 c6 c7 p0 p1
    obtain ⟨⟨c0, c1, c2, c3, c4, c5, c6, c7, -⟩, p0, p1⟩ := HO.out.2.cells
    by_cases hlt : k < x.l.length
    · obtain ⟨g, off, y, rfl, hg, hy, -, hc⟩ := int_get HU.out.1 k hlt
      rw [← HO.out.2.bel.cell (p := ⟨g, off + k, none⟩) hg] at hc
      have g1 : (k : Int) < x.l.length := by omega
      have HY := Lib.hid hy
      clear hy
      by_cases y0 : y < 0
      · have HV := Lib.hid (show false = z by rw [← HZ1.out, all_not HY.out (p := within p.regs) (decide_eq_false (by omega))]; rfl)
        go_wp2_with fail
        go_quiet (fail)
        go_wp2
        go_ret
        exact ⟨by rw [← HV.out]; rfl, HO.out.2.bel.trans ((below_drewN9 wr _).mono HO.out.2.bel.size)⟩
      · by_cases y1 : y < p.regs
        · have HV := Lib.hid (all_take HO.out.1 HY.out (p := within p.regs) (decide_eq_true (by omega)))
          go_wp2_with fail
          go_quiet (fail)
          go_wp2
          go_roundw
          case rel => exact ⟨k + 1, by omega, by go_num, HV.out, HO.out.2.on (below_drewN9 wr _)⟩
          case measure => simp [intOf]; omega
        · have HV := Lib.hid (show false = z by rw [← HZ1.out, all_not HY.out (p := within p.regs) (decide_eq_false (by omega))]; rfl)
          have y2 : p.regs ≤ y := by omega
          go_wp2_with fail
          go_quiet (fail)
          go_wp2
          go_ret
          exact ⟨by rw [← HV.out]; rfl, HO.out.2.bel.trans ((below_drewN9 wr _).mono HO.out.2.bel.size)⟩
    · have g1 : ¬ (k : Int) < x.l.length := by omega
      have HLL := Lib.hid (all_done HO.out.1 (by omega))
      have HNum := Lib.hid (fun w => rnumber_any S x (.slice A x.l.length ca) p B cb funs w HSz.out HU.out.2.1.2.2.2.2.2 HF.out)
      obtain ⟨n1, en1⟩ : ∃ q, rnumB S x.n p.ins.length funs = q := ⟨_, rfl⟩
      obtain ⟨hD, ehD⟩ : ∃ q, hasN S 68 = q := ⟨_, rfl⟩
      obtain ⟨d1, ed1⟩ : ∃ q, regB x.d hD p.regs = q := ⟨_, rfl⟩
      obtain ⟨hC, ehC⟩ : ∃ q, hasN S 67 = q := ⟨_, rfl⟩
      obtain ⟨k1, ek1⟩ : ∃ q, regB x.c hC p.regs = q := ⟨_, rfl⟩
      have HQd := Lib.hid (fun w => reg_any x.d hD p.regs w)
      have HQc := Lib.hid (fun w => reg_any x.c hC p.regs w)
      rw [en1] at HNum
      rw [ehD] at H68
      rw [ehC] at H67
      rw [ed1] at HQd
      rw [ek1] at HQc
      have HV := Lib.hid (show (a2 && (b2 && (t2 && (n1 && (d1 && k1))))) = z by
        rw [← HZ1.out, HLL.out, en1, ehD, ehC, ed1, ek1]
        rfl)
      clear en1 ehD ed1 ehC ek1 HZ1 HLL
      go_wp2_with fail
      go_at_call 61
      refine (HNum.out _).mono ?_
      rintro e w9 ⟨rfl, hb9⟩
      have h9 := HO.out.2.on hb9
      have H9 := Lib.hid h9
      clear h9 hb9 c0 c1 c2 c3 c4 c5 c6 c7 p0 p1
      obtain ⟨⟨c0, c1, c2, c3, c4, c5, c6, c7, -⟩, p0, p1⟩ := H9.out.cells
      have hcase : (a2 = false ∨ a2 = true ∧ (b2 = false ∨ b2 = true ∧ (t2 = false ∨ t2 = true ∧ (n1 = false ∨ n1 = true ∧ (d1 = false ∨ d1 = true))))) := by
        cases a2 <;> cases b2 <;> cases t2 <;> cases n1 <;> cases d1 <;> simp
      rcases hcase with rfl | ⟨rfl, rfl | ⟨rfl, rfl | ⟨rfl, rfl | ⟨rfl, rfl | rfl⟩⟩⟩⟩
      all_goals
        have hv := HV.out
        simp only [Bool.false_and, Bool.true_and] at hv
        have HVV := Lib.hid hv
        clear hv
        go_wp2_with fail
        go_quiet (first | (go_at_call 58; with_reducible exact Calls.quiet_of_same ((H68.out _).mono fun e w' h => ⟨h.1, h.2.symm⟩)) | (go_at_call 58; with_reducible exact Calls.quiet_of_same ((H67.out _).mono fun e w' h => ⟨h.1, h.2.symm⟩)) | (go_at_call 57; with_reducible exact Calls.quiet_of_same ((HQd.out _).mono fun e w' h => ⟨h.1, h.2.symm⟩)) | (go_at_call 57; with_reducible exact Calls.quiet_of_same ((HQc.out _).mono fun e w' h => ⟨h.1, h.2.symm⟩)))
        go_wp2
        go_ret
        exact ⟨by rw [← HVV.out]; rfl, H9.out.bel.trans ((below_drewN9 _ _).mono H9.out.bel.size)⟩
end Go.Proofs.YtconnhphkbgbkaaGreatDoor
