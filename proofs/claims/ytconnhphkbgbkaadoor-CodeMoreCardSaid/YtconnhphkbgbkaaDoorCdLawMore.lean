/- The law CodeMore's walk. -/
import Derived.Test.YtconnhphkbgbkaaDoorCdHead
import Derived.Test.YtconnhphkbgbkaaDoorCdMono
import Derived.Test.YtconnhphkbgbkaaDoorCdMade
import Derived.Deep.RegionLaw
import Derived.Deep.Cut
namespace Go.Proofs.YtconnhphkbgbkaaDoor
set_option linter.unusedSimpArgs false
set_option linter.unusedVariables false
open Go.RowKit Go.Proofs

theorem tail_src {w0 w : World} {g off n ca : Nat} {x : Proc} {r : List Proc} (h : SlAt 2 ProcP w0 (.slice (some ⟨g, off, none⟩) n ca) (x :: r)) (hb : Below w0.heap.size w0 w) : Src9 ProcP w0 w (.slice (if ca = 1 then some ⟨g, off, none⟩ else some ⟨g, off + 2, none⟩) r.length (ca - 1)) r := by
  by_cases hc : ca = 1
  · obtain rfl : r = [] := by
      obtain ⟨A, cap, e, ⟨h1, h2⟩, -⟩ := h
      injection e with e1 e2 e3
      subst e3
      simp only [List.length_cons] at h1
      exact List.eq_nil_of_length_eq_zero (by omega)
    rw [if_pos hc]
    exact ⟨[], rfl, fun q hq => (by cases hq), .inr ⟨_, _, rfl, fun j u hj => by simp at hj⟩⟩
  · rw [if_neg hc]
    exact (SlAt.tail h).src (by decide) ProcP.cells hb
theorem small_len {p : Proc} {r : List Proc} (h : smallC (p :: r) = true) : r.length + 1 ≤ 15 ∧ p.ins.length ≤ 60 := by
  unfold smallC at h
  rw [Bool.and_eq_true, decide_eq_true_eq] at h
  obtain ⟨h1, h2⟩ := h
  rw [List.all_cons, Bool.and_eq_true] at h2
  have h3 := h2.1
  unfold smallP at h3
  rw [Bool.and_eq_true, decide_eq_true_eq] at h3
  exact ⟨by simpa using h1, h3.1⟩
set_option maxRecDepth 100000 in
set_option maxHeartbeats 4000000 in
theorem more_law (v0 : Value) (a : List Proc) (n : Int) (w : World) (h0 : CodeAt w v0 a) (hE : Env w) :
    Calls Tryd.prog 7 #[v0, .int .i64 n] w fun e w' => e = .returned (.bool true) ∧ Below w.heap.size w w' := by
  obtain ⟨A, ca, rfl⟩ := SlAt.form h0
  obtain ⟨-, hca, hcm, -⟩ := SlAt.get h0
  have hm1 : ca ≤ 9223372036854775807 := hcm
  have HS := Lib.hid (shown_any w hE)
  have HA := Lib.hid (fun w' (hb : Below w.heap.size w w') => h0.below hb)
  have H0 := Lib.hid h0
  clear h0 hE hcm
  go_enter Tryd.func7, Tryd.ntmps7
  go_wp2_with fail
  go_at_call 9
  refine HS.out.mono ?_
  rintro e w1 ⟨rfl, hb1⟩
  have HSm := Lib.hid (small_any _ a w1 (HA.out w1 hb1))
  have B1 := Lib.hid hb1
  clear hb1 HS
  obtain ⟨sa, hsa⟩ : ∃ q, smallC a = q := ⟨_, rfl⟩
  rw [hsa] at HSm
  cases sa with
  | false =>
    clear hsa
    go_wp2_with (go_at_call 10; refine HSm.out.mono ?_; rintro e w2 ⟨rfl, hb2⟩)
    go_ret
    exact ⟨rfl, B1.out.trans (hb2.mono B1.out.size)⟩
  | true =>
  have HSz := Lib.hid hsa
  clear hsa
  by_cases hn0 : n < 0
  · go_wp2_with (go_at_call 10; refine HSm.out.mono ?_; rintro e w2 ⟨rfl, hb2⟩)
    go_ret
    exact ⟨rfl, B1.out.trans (hb2.mono B1.out.size)⟩
  by_cases hn1 : 100 < n
  · go_wp2_with (go_at_call 10; refine HSm.out.mono ?_; rintro e w2 ⟨rfl, hb2⟩)
    go_ret
    exact ⟨rfl, B1.out.trans (hb2.mono B1.out.size)⟩
  go_wp2_with fail
  go_at_call 10
  refine HSm.out.mono ?_
  rintro e w2 ⟨rfl, hb2⟩
  have hB2 := B1.out.trans (hb2.mono B1.out.size)
  have HSa := Lib.hid (right_any _ a w2 (HA.out w2 hB2))
  have B2 := Lib.hid hB2
  clear hb2 hB2 HSm
  obtain ⟨q, hq⟩ : ∃ q, rightC a = q := ⟨_, rfl⟩
  rw [hq] at HSa
  cases q with
  | false =>
    clear hq
    go_wp2_with (go_at_call 11; refine HSa.out.mono ?_; rintro e w3 ⟨rfl, hb3⟩)
    go_ret
    exact ⟨rfl, B2.out.trans (hb3.mono B2.out.size)⟩
  | true =>
  obtain ⟨p, r, rfl⟩ : ∃ p r, a = p :: r := by
    cases a with
    | nil => cases hq
    | cons p r => exact ⟨p, r, rfl⟩
  obtain ⟨g, off, p', A', cp, rfl, hg, hp, hs, hr, c0, c1⟩ := CodeAt.get H0.out 0 (by simp)
  obtain rfl : p = p' := by simpa using hp
  obtain ⟨-, hpa, hpm, -⟩ := SlAt.get hs
  have hm2 : cp ≤ 9223372036854775807 := hpm
  have HC := Lib.hid (And.intro hs (And.intro c0 c1))
  have HQ := Lib.hid hq
  have gl : (0 : Int) < ((p :: r).length : Int) := by simp
  clear hp hq hs c0 c1 hpm
  go_wp2_with fail
  go_at_call 11
  refine HSa.out.mono ?_
  rintro e w3 ⟨rfl, hb3⟩
  have hB3 := B2.out.trans (hb3.mono B2.out.size)
  have c0 := (hB3.cell (p := ⟨g, off + 0 * 2, none⟩) hg).trans HC.out.2.1
  have c1 := (hB3.cell (p := ⟨g, off + 0 * 2 + 1, none⟩) hg).trans HC.out.2.2
  simp only [Nat.zero_mul, Nat.add_zero] at c0 c1
  have hg3 : g < w3.heap.size := Nat.lt_of_lt_of_le hg hB3.size
  have B3 := Lib.hid hB3
  clear hb3 hB3 HSa
  by_cases hreg : 50000 < p.regs
  · go_wp2
    go_ret
    exact ⟨rfl, B3.out⟩
  have hreg0 : 0 ≤ p.regs ∧ p.regs ≤ 60000 := by
    have h9 := (right_parts HQ.out).2.1 p (by simp)
    unfold missB at h9
    rw [decide_eq_false_iff_not] at h9
    omega
  have hw : wrap64 (p.regs + n) = p.regs + n := by unfold wrap64; omega
  go_wp2_with fail
  have bx4 := heap_alloc_new w3 (.cells #[.int .i64 (p.regs + n), .slice A' p.ins.length cp] 35)
  have bl4 := below_box w3 (.cells #[.int .i64 (p.regs + n), .slice A' p.ins.length cp] 35)
  have z4 : (w3.alloc (.cells #[.int .i64 (p.regs + n), .slice A' p.ins.length cp] 35)).heap.size = w3.heap.size + 1 := by simp
  obtain ⟨w4, e4⟩ : ∃ W, w3.alloc (.cells #[.int .i64 (p.regs + n), .slice A' p.ins.length cp] 35) = W := ⟨_, rfl⟩
  rw [e4] at bx4 bl4 z4 ⊢
  obtain ⟨N4, eN4⟩ : ∃ N, w3.heap.size = N := ⟨_, rfl⟩
  rw [eN4] at bx4 z4 hg3 ⊢
  have b0 := cell_of_row w4 N4 0 _ _ _ bx4
  have b1 := cell_of_row w4 N4 1 _ _ _ bx4
  simp at b0 b1
  clear e4
  have k1 : (1 : Int) ≤ (r.length : Int) + 1 := by omega
  have k2 : (r.length : Int) + 1 ≤ ca := by simp at hca; omega
  have hlen : r.length + 1 ≤ 15 ∧ p.ins.length ≤ 60 := small_len HSz.out
  have hB4 : Below w.heap.size w w4 := B3.out.trans (bl4.mono B3.out.size)
  have hWd := below_box w4 (.cells #[.int .i64 (p.regs + n), .slice A' p.ins.length cp] 35)
  have hlit : OwnR 2 35 ProcP w ((w4.alloc (.cells #[.int .i64 (p.regs + n), .slice A' p.ins.length cp] 35)).drew) w4.heap.size (.slice (some ⟨w4.heap.size, 0, none⟩) 1 1) [(⟨p.regs + n, p.ins⟩ : Proc)] :=
    OwnR.keep (OwnR.lit (T := 35) ProcP.cells (w0 := w) w4 [.int .i64 (p.regs + n), .slice A' p.ins.length cp] ⟨p.regs + n, p.ins⟩ ⟨_, rfl, HC.out.1, by show I64 (p.regs + n); unfold I64; omega⟩) (fun b _ => rfl)
  have hBd : Below w.heap.size w ((w4.alloc (.cells #[.int .i64 (p.regs + n), .slice A' p.ins.length cp] 35)).drew) := (hB4.trans (hWd.mono hB4.size)).drew
  have hrun6 := app9 (p := Tryd.prog) (t := 22) ProcP.cells (by decide) Tryd.underlying22 infoP9 rfl (by decide) hlit (tail_src H0.out hBd) (by show w4.heap.size ≤ (w4.alloc _).heap.size; simp) (by simp; omega)
  rw [z4] at hrun6
  have HRun6 := Lib.hid hrun6
  have HB4 := Lib.hid (And.intro hB4 hBd)
  have HCc := Lib.hid (And.intro ((bl4.cell (p := ⟨g, off, none⟩) (by show g < w3.heap.size; omega)).trans c0) ((bl4.cell (p := ⟨g, off + 1, none⟩) (by show g < w3.heap.size; omega)).trans c1))
  clear hlit hWd hB4 hBd hrun6 bl4 c0 c1
  go_cut [7] from 10 (fun s7 wc => ∃ A6 k6, s7 = .slice A6 (r.length + 1) k6 ∧ App9 2 35 ProcP w ((w4.alloc (.cells #[.int .i64 (p.regs + n), .slice A' p.ins.length cp] 35)).drew) (N4 + 1) (.slice (some ⟨N4 + 1, 0, none⟩) 1 1) ((⟨p.regs + n, p.ins⟩ : Proc) :: r) s7 wc)
  case first =>
    go_region_law (refine step_app rfl (.tmp 44) (.tmp 46) 22 rfl (.slice (some ⟨N4 + 1, 0, none⟩) 1 1) (.slice (if ca = 1 then some ⟨g, off, none⟩ else some ⟨g, off + 2, none⟩) r.length (ca - 1)) rfl rfl _ HRun6.out ?_; intro v6 w6 h6; obtain ⟨A6, k6, rfl, -, -⟩ := h6.form; have H6 := Lib.hid h6; clear h6; generalize (if ca = 1 then (some (⟨g, off, none⟩ : Addr)) else some ⟨g, off + 2, none⟩) = V46)
    go_wp2
    go_meet
    case rel => exact ⟨A6, k6, by simp, by have := H6.out; simpa using this⟩
  case rest =>
  obtain ⟨A6, k6, rfl, h6⟩ := hcut
  obtain ⟨w6, e6⟩ : ∃ w6, w6 = wc := ⟨_, rfl⟩
  subst e6
  have H6 := Lib.hid h6
  clear h6
  have hb6 := H6.out.below
  have z5 : ((w4.alloc (.cells #[.int .i64 (p.regs + n), .slice A' p.ins.length cp] 35)).drew).heap.size = w4.heap.size + 1 := by show (w4.alloc _).heap.size = _; simp
  have z6 : N4 + 1 ≤ w6.heap.size := by have := hb6.size; omega
  have c0 := (hb6.cell (p := ⟨g, off, none⟩) (by show g < N4 + 1; omega)).trans ((((below_box w4 _).drew).cell (p := ⟨g, off, none⟩) (by show g < w4.heap.size; omega)).trans HCc.out.1)
  have c1 := (hb6.cell (p := ⟨g, off + 1, none⟩) (by show g < N4 + 1; omega)).trans ((((below_box w4 _).drew).cell (p := ⟨g, off + 1, none⟩) (by show g < w4.heap.size; omega)).trans HCc.out.2)
  have hB6 : Below w.heap.size w w6 := HB4.out.2.trans (hb6.mono (by have := HB4.out.1.size; omega))
  have HM6 := Lib.hid (And.intro (H6.out.own.at_ ProcP.cells ProcP.keeps hB6) hB6)
  have g6 : g < w6.heap.size := by omega
  clear hb6 hB6 b0 b1 bx4 HRun6 HCc
  go_wp2_with fail
  have bx7 := heap_alloc_new w6 (.cells #[.int .i64 p.regs, .slice A' p.ins.length cp] 35)
  have bl7 := below_box w6 (.cells #[.int .i64 p.regs, .slice A' p.ins.length cp] 35)
  have z7 : (w6.alloc (.cells #[.int .i64 p.regs, .slice A' p.ins.length cp] 35)).heap.size = w6.heap.size + 1 := by simp
  obtain ⟨w7, e7⟩ : ∃ W, w6.alloc (.cells #[.int .i64 p.regs, .slice A' p.ins.length cp] 35) = W := ⟨_, rfl⟩
  rw [e7] at bx7 bl7 z7 ⊢
  obtain ⟨N7, eN7⟩ : ∃ N, w6.heap.size = N := ⟨_, rfl⟩
  rw [eN7] at bx7 z7 g6 ⊢
  have b0 := cell_of_row w7 N7 0 _ _ _ bx7
  have b1 := cell_of_row w7 N7 1 _ _ _ bx7
  simp at b0 b1
  have lN7 : N7 < w7.heap.size := by omega
  have hB7 : Below w.heap.size w w7 := HM6.out.2.trans (bl7.mono HM6.out.2.size)
  have H7 := Lib.hid (And.intro bx7 (And.intro bl7 (And.intro hB7 z7)))
  clear hw
  have HMk := Lib.hid (fun W => room_ins (p.ins.length + 1) (by omega) ((p.ins.length : Int) + 1) (by omega) W)
  have HA1 := Lib.hid (fun (W : World) (m : Nat) (hm : W.heap[m]? = some (.cells (room9 zI9 8 (p.ins.length + 1)) 37 (0, 0))) (hmB : w7.heap.size ≤ m) (hB : Below w7.heap.size w7 W) =>
    app9 (p := Tryd.prog) (t := 33) InsP.cells (by decide) Tryd.underlying33 infoI9 rfl (by decide) (w0 := w) (OwnR.of_room hmB hm (by unfold maxLen; omega) (size_room9 _ _ _)) (HC.out.1.src (by decide) InsP.cells (hB7.trans (hB.mono hB7.size))) hB.size (by simp; omega))
  have HA2 := Lib.hid (fun (W : World) (v : Value) (z : Nat) (ho : OwnR 8 37 InsP w W w7.heap.size v p.ins) (hz : W.heap[z]? = some (.cells #[.int .i64 23, .int .i64 0, .int .i64 0, .int .i64 0, .int .i64 0, .string ⟨#[]⟩, .int .i64 0, .slice none 0 0] 37 (0, 0))) (hB : w7.heap.size ≤ W.heap.size) =>
    app9 (p := Tryd.prog) (t := 33) InsP.cells (by decide) Tryd.underlying33 infoI9 rfl (by decide) ho (Src9.blk (P := InsP) (cs := insV (⟨23, 0, 0, 0, 0, nilB, 0, []⟩ : Ins) (.slice none 0 0)) (x := (⟨23, 0, 0, 0, 0, nilB, 0, []⟩ : Ins)) ⟨.slice none 0 0, rfl, SlAt.nil _ _ _, ⟨i64c _ rfl, i64c _ rfl, i64c _ rfl, i64c _ rfl, i64c _ rfl, i64c _ rfl⟩, fine_nil⟩ hz) hB (by simp; omega))
  clear bx7 bl7 z7 hB7 e7 c0 c1
  go_cut [] from 10 (fun wc => ∃ A9 k9, wc.heap[N7]? = some (.cells #[.int .i64 p.regs, .slice A9 (p.ins.length + 1) k9] 35 (0, 0)) ∧ SlAt 8 InsP wc (.slice A9 (p.ins.length + 1) k9) (p.ins ++ [(⟨23, 0, 0, 0, 0, nilB, 0, []⟩ : Ins)]) ∧ Below N7 w6 wc)
  case first =>
    have hmk := HMk.out
    have hw8 : IntKind.i64.wrap ((p.ins.length : Int) + 1) = (p.ins.length : Int) + 1 := IntWalk.i64_in _ (by omega)
    go_region_law (first
      | (refine step_app rfl (.tmp 55) (.tmp 57) 33 rfl (.slice (some ⟨w7.heap.size, 0, none⟩) 0 (p.ins.length + 1)) (.slice A' p.ins.length cp) rfl rfl (App9 8 37 InsP w _ w7.heap.size (.slice (some ⟨w7.heap.size, 0, none⟩) 0 (p.ins.length + 1)) ([] ++ p.ins)) (HA1.out _ w7.heap.size (by first | exact heap_alloc_new _ _ | exact (Below.heap_alloc _ _ _ (by simp)).trans (heap_alloc_new _ _)) (Nat.le_refl _) (by (repeat (first | exact Below.refl _ _ | refine Below.drew ?_ | refine Below.alloc ?_ (by first | exact Nat.le_refl _ | (simp; done) | (simp; omega)) _)))) ?_; intro v8 w8 h8; obtain ⟨A8, k8, rfl, -, -⟩ := h8.form; simp only [List.nil_append] at h8 ⊢; have HG8 := Lib.hid h8.grown; have HO8 := Lib.hid h8.own; have HB8 := Lib.hid (show Below w7.heap.size w7 w8 from Below.trans (by (repeat (first | exact Below.refl _ _ | refine Below.drew ?_ | refine Below.alloc ?_ (by first | exact Nat.le_refl _ | (simp; done) | (simp; omega)) _))) h8.below); have z8 := HB8.out.size; have c8 := (HB8.out.cell (p := ⟨N7, 0, none⟩) lN7).trans b0; have d8 := (HB8.out.cell (p := ⟨N7, 1, none⟩) lN7).trans b1; clear h8)
      | (refine step_app rfl (.tmp 55) (.tmp 57) 33 rfl (.slice (some ⟨(w7.heap.size + 1), 0, none⟩) 0 (p.ins.length + 1)) (.slice A' p.ins.length cp) rfl rfl (App9 8 37 InsP w _ w7.heap.size (.slice (some ⟨(w7.heap.size + 1), 0, none⟩) 0 (p.ins.length + 1)) ([] ++ p.ins)) (HA1.out _ (w7.heap.size + 1) (by have h9 := heap_alloc_new (w7.alloc (.cells #[.int .i64 23, .int .i64 0, .int .i64 0, .int .i64 0, .int .i64 0, .string ⟨#[]⟩, .int .i64 0, .slice none 0 0] 37)) (.cells (room9 zI9 8 (p.ins.length + 1)) 37); rw [World.size_alloc] at h9; exact h9) (by omega) (by (repeat (first | exact Below.refl _ _ | refine Below.drew ?_ | refine Below.alloc ?_ (by first | exact Nat.le_refl _ | (simp; done) | (simp; omega)) _)))) ?_; intro v8 w8 h8; obtain ⟨A8, k8, rfl, -, -⟩ := h8.form; simp only [List.nil_append] at h8 ⊢; have HG8 := Lib.hid h8.grown; have HO8 := Lib.hid h8.own; have HB8 := Lib.hid (show Below w7.heap.size w7 w8 from Below.trans (by (repeat (first | exact Below.refl _ _ | refine Below.drew ?_ | refine Below.alloc ?_ (by first | exact Nat.le_refl _ | (simp; done) | (simp; omega)) _))) h8.below); have z8 := HB8.out.size; have c8 := (HB8.out.cell (p := ⟨N7, 0, none⟩) lN7).trans b0; have d8 := (HB8.out.cell (p := ⟨N7, 1, none⟩) lN7).trans b1; clear h8)
      | (refine step_app rfl (.tmp 58) (.tmp 60) 33 rfl (.slice A8 p.ins.length k8) (.slice (some ⟨w8.heap.size, 0, none⟩) 1 1) rfl rfl (App9 8 37 InsP w _ w7.heap.size (.slice A8 p.ins.length k8) (p.ins ++ [(⟨23, 0, 0, 0, 0, nilB, 0, []⟩ : Ins)])) (HA2.out _ _ w8.heap.size (HO8.out.keep fun b hb => Below.heap_alloc _ _ _ (by obtain ⟨-, cs, h⟩ := HO8.out.blk hb; exact heap_lt h)) (heap_alloc_new _ _) (by first | exact z8 | (simp; omega))) ?_; intro v9 w9 h9; obtain ⟨A9, k9, rfl, -, -⟩ := h9.form; have HB9 := Lib.hid (show Below w7.heap.size w7 w9 from Below.trans (by (repeat (first | exact HB8.out | exact Below.refl _ _ | refine Below.drew ?_ | refine Below.alloc ?_ (by first | exact Nat.le_refl _ | exact z8 | (simp; omega)) _))) h9.below); have bx9 := (HB9.out.block N7 lN7).trans H7.out.1; have d9 := (HB9.out.cell (p := ⟨N7, 1, none⟩) lN7).trans b1; have f9 := frozen_of_row w9 N7 1 _ _ bx9; have HO9 := Lib.hid h9.own; clear h9)
      | (refine step_app rfl (.tmp 58) (.tmp 60) 33 rfl (.slice A8 p.ins.length k8) (.slice (some ⟨(w7.heap.size + 1), 0, none⟩) 1 1) rfl rfl (App9 8 37 InsP w _ w7.heap.size (.slice A8 p.ins.length k8) (p.ins ++ [(⟨23, 0, 0, 0, 0, nilB, 0, []⟩ : Ins)])) (HA2.out _ _ (w7.heap.size + 1) (HO8.out) ((HG8.out.block _ (by simp) (by simp [Value.ownBlock])).trans (by have h9 := heap_alloc_new (w7.alloc (.cells (room9 zI9 8 (p.ins.length + 1)) 37)) (.cells #[.int .i64 23, .int .i64 0, .int .i64 0, .int .i64 0, .int .i64 0, .string ⟨#[]⟩, .int .i64 0, .slice none 0 0] 37); rw [World.size_alloc] at h9; exact h9)) (by first | exact z8 | (simp; omega))) ?_; intro v9 w9 h9; obtain ⟨A9, k9, rfl, -, -⟩ := h9.form; have HB9 := Lib.hid (show Below w7.heap.size w7 w9 from Below.trans (by (repeat (first | exact HB8.out | exact Below.refl _ _ | refine Below.drew ?_ | refine Below.alloc ?_ (by first | exact Nat.le_refl _ | exact z8 | (simp; omega)) _))) h9.below); have bx9 := (HB9.out.block N7 lN7).trans H7.out.1; have d9 := (HB9.out.cell (p := ⟨N7, 1, none⟩) lN7).trans b1; have f9 := frozen_of_row w9 N7 1 _ _ bx9; have HO9 := Lib.hid h9.own; clear h9)
      | (refine step_app rfl (.tmp 58) (.tmp 60) 33 rfl (.slice A8 p.ins.length k8) (.slice (some ⟨w7.heap.size, 0, none⟩) 1 1) rfl rfl (App9 8 37 InsP w _ w7.heap.size (.slice A8 p.ins.length k8) (p.ins ++ [(⟨23, 0, 0, 0, 0, nilB, 0, []⟩ : Ins)])) (HA2.out _ _ w7.heap.size (HO8.out) ((HG8.out.block _ (by simp; omega) (by simp [Value.ownBlock])).trans ((Below.heap_alloc (w7.alloc (.cells #[.int .i64 23, .int .i64 0, .int .i64 0, .int .i64 0, .int .i64 0, .string ⟨#[]⟩, .int .i64 0, .slice none 0 0] 37)) _ w7.heap.size (by simp)).trans (heap_alloc_new w7 _))) (by first | exact z8 | (simp; omega))) ?_; intro v9 w9 h9; obtain ⟨A9, k9, rfl, -, -⟩ := h9.form; have HB9 := Lib.hid (show Below w7.heap.size w7 w9 from Below.trans (by (repeat (first | exact HB8.out | exact Below.refl _ _ | refine Below.drew ?_ | refine Below.alloc ?_ (by first | exact Nat.le_refl _ | exact z8 | (simp; omega)) _))) h9.below); have bx9 := (HB9.out.block N7 lN7).trans H7.out.1; have d9 := (HB9.out.cell (p := ⟨N7, 1, none⟩) lN7).trans b1; have f9 := frozen_of_row w9 N7 1 _ _ bx9; have HO9 := Lib.hid h9.own; clear h9))
    all_goals
      go_wp2
      go_meet
      case rel =>
        have hbs : Below w.heap.size w (w9.setCell ⟨N7, 1, none⟩ (.slice A9 (p.ins.length + 1) k9)) := (H7.out.2.2.1.trans (HB9.out.mono H7.out.2.2.1.size)).setCell (by show w.heap.size ≤ N7; have := HM6.out.2.size; omega) _
        refine ⟨A9, k9, by have := blk_set bx9 1 (.slice A9 (p.ins.length + 1) k9); simpa using this, ?_, ?_⟩
        · have h9 := (HO9.out.keep (w' := w9.setCell ⟨N7, 1, none⟩ (.slice A9 (p.ins.length + 1) k9)) fun b hb => heap_setCell_other w9 ⟨N7, 1, none⟩ b _ (by show b ≠ N7; have := (HO9.out.blk hb).1; omega)).at_ InsP.cells InsP.keeps hbs
          simpa using h9
        · have hq : Below N7 w6 w9 := (H7.out.2.1.mono (by omega)).trans (HB9.out.mono (by omega))
          exact hq.setCell (p := ⟨N7, 1, none⟩) (Nat.le_refl _) _
  case rest =>
    obtain ⟨A9, k9, bx9, hs9, hb9⟩ := hcut
    obtain ⟨w8, e8⟩ : ∃ w8, w8 = wc := ⟨_, rfl⟩
    subst e8
    have d0 := cell_of_row w8 N7 0 _ _ _ bx9
    have d1 := cell_of_row w8 N7 1 _ _ _ bx9
    simp at d0 d1
    have l9 := heap_lt bx9
    have hbw : Below w.heap.size w w8 := HM6.out.2.trans (hb9.mono (by have := HM6.out.2.size; omega))
    have hlit : OwnR 2 35 ProcP w8 ((w8.alloc (.cells #[.int .i64 p.regs, .slice A9 (p.ins.length + 1) k9] 35)).drew) w8.heap.size (.slice (some ⟨w8.heap.size, 0, none⟩) 1 1) [(⟨p.regs, p.ins ++ [(⟨23, 0, 0, 0, 0, nilB, 0, []⟩ : Ins)]⟩ : Proc)] :=
      OwnR.keep (OwnR.lit (T := 35) ProcP.cells (w0 := w8) w8 [.int .i64 p.regs, .slice A9 (p.ins.length + 1) k9] ⟨p.regs, p.ins ++ [(⟨23, 0, 0, 0, 0, nilB, 0, []⟩ : Ins)]⟩ ⟨_, rfl, hs9, hr⟩) (fun b _ => rfl)
    have hbd : Below w8.heap.size w8 ((w8.alloc (.cells #[.int .i64 p.regs, .slice A9 (p.ins.length + 1) k9] 35)).drew) := (below_box w8 _).drew
    have hrun9 := app9 (p := Tryd.prog) (t := 22) ProcP.cells (by decide) Tryd.underlying22 infoP9 rfl (by decide) hlit (tail_src (SlAt.below ProcP.keeps H0.out hbw) hbd) (by show w8.heap.size ≤ (w8.alloc _).heap.size; simp) (by simp; omega)
    have HRun9 := Lib.hid hrun9
    have HW9 := Lib.hid (And.intro hbw (And.intro hb9 hbd))
    have HR1 := Lib.hid (fun w' (hb : Below N7 w6 w') => right_any _ _ w' (HM6.out.1.below ProcP.keeps (show Below w6.heap.size w6 w' by rw [eN7]; exact hb)))
    have HQ1 := Lib.hid (right_more HQ.out (by omega) (show p.regs + n ≤ 60000 by omega))
    have HQ2 := Lib.hid (right_less p r (⟨23, 0, 0, 0, 0, nilB, 0, []⟩ : Ins) (by decide))
    clear hs9 hbw hlit hbd hrun9 hb9 bx9
    go_wp2_with fail
    go_cut [9] from 10 (fun s9 wd => ∃ A10 k10, s9 = .slice A10 (r.length + 1) k10 ∧ App9 2 35 ProcP w8 ((w8.alloc (.cells #[.int .i64 p.regs, .slice A9 (p.ins.length + 1) k9] 35)).drew) w8.heap.size (.slice (some ⟨w8.heap.size, 0, none⟩) 1 1) ((⟨p.regs, p.ins ++ [(⟨23, 0, 0, 0, 0, nilB, 0, []⟩ : Ins)]⟩ : Proc) :: r) s9 wd)
    case first =>
      go_region_law (refine step_app rfl (.tmp 64) (.tmp 66) 22 rfl (.slice (some ⟨w8.heap.size, 0, none⟩) 1 1) (.slice (if ca = 1 then some ⟨g, off, none⟩ else some ⟨g, off + 2, none⟩) r.length (ca - 1)) rfl rfl _ HRun9.out ?_; intro v10 w10 h10; obtain ⟨A10, k10, rfl, -, -⟩ := h10.form; have H10 := Lib.hid h10; clear h10; generalize (if ca = 1 then (some (⟨g, off, none⟩ : Addr)) else some ⟨g, off + 2, none⟩) = V46)
      go_wp2
      go_meet
      case rel => exact ⟨A10, k10, by simp, by have := H10.out; simpa using this⟩
    case rest =>
    obtain ⟨A10, k10, rfl, h10⟩ := hcut
    have hb10 : Below w8.heap.size w8 wc := HW9.out.2.2.trans h10.below
    have hb6 : Below N7 w6 wc := HW9.out.2.1.trans (hb10.mono (by have := HW9.out.2.1.size; omega))
    have hbw := HW9.out.1.trans (hb10.mono HW9.out.1.size)
    have HC1 := HR1.out wc hb6
    have HC2 := Lib.hid (fun w' (hb : Below wc.heap.size wc w') => right_any _ _ w' ((h10.own.at_ ProcP.cells ProcP.keeps hb10).below ProcP.keeps hb))
    rw [HQ1.out] at HC1
    rw [HQ2.out] at HC2
    have HC1 := Lib.hid HC1
    have HBw := Lib.hid hbw
    clear h10 hb10 hb6 hbw HR1 HQ1 HQ2 HW9 HRun9
    go_wp2_with fail
    go_at_call 11
    refine HC1.out.mono ?_
    rintro e w11 ⟨rfl, hb11⟩
    have HC3 := Lib.hid (HC2.out w11 hb11)
    have HB11 := Lib.hid (HBw.out.trans (hb11.mono HBw.out.size))
    clear hb11 HC1 HC2
    go_wp2_with (go_at_call 11; refine HC3.out.mono ?_; rintro e w12 ⟨rfl, hb12⟩)
    go_ret
    exact ⟨rfl, HB11.out.trans (hb12.mono HB11.out.size)⟩
end Go.Proofs.YtconnhphkbgbkaaDoor
