/- The law CodeParts' walk. -/
import Derived.Test.YtconnhphkbgbkaaDoorCdHead
import Derived.Test.YtconnhphkbgbkaaDoorCdShow2
import Derived.Test.YtconnhphkbgbkaaDoorCdMono
import Derived.Test.YtconnhphkbgbkaaDoorCdMade
import Derived.Test.YtconnhphkbgbkaaDoorCdMarksW
import Derived.Test.YtconnhphkbgbkaaDoorCdSame1
import Derived.Test.YtconnhphkbgbkaaDoorCdRead
import Derived.Deep.RegionLaw
import Derived.Deep.Cut
namespace Go.Proofs.YtconnhphkbgbkaaDoor
set_option linter.unusedSimpArgs false
set_option linter.unusedVariables false
open Go.RowKit Go.Proofs

theorem bs_app9 (a b : Bs) : bs a ++ bs b = bs (a ++ b) := by
  apply ByteArray.ext
  simp [bs]
theorem OwnI.re {w0 w : World} {B : Nat} {v : Value} {l : List Int} (w1 : World) (h : OwnR 1 3 IntP w0 w B v l) : OwnR 1 3 IntP w1 w B v l := h
theorem pairs_len (l : List Proc) (k : Nat) (h : ∀ p ∈ l, p.ins.length ≤ k) : (pairsL l).length ≤ l.length * k := by
  induction l with
  | nil => simp [pairsL]
  | cons a r ih =>
    have h1 := ih fun p hp => h p (by simp [hp])
    have h2 := h a (by simp)
    unfold pairsL at h1 ⊢
    rw [List.flatMap_cons, List.length_append, List.length_map, List.length_cons, Nat.add_mul]
    omega
theorem marks_small {l : List Proc} (h : smallC l = true) : (marksC l).length ≤ 900 := by
  rw [smallC_iff] at h
  have h1 := pairs_len l 60 fun p hp => (smallP_iff.1 (h.2 p hp)).1
  have h2 : l.length * 60 ≤ 15 * 60 := Nat.mul_le_mul_right _ h.1
  have h3 := List.length_filter_le (fun q : Proc × Ins => marked q.2) (pairsL l)
  unfold marksC
  rw [List.length_map]
  omega
theorem show_right {l : List Proc} (h : rightC l = true) : showV l = .tuple #[.string (bs (codeT l)), .int .i64 0] := by unfold showV; rw [h]; rfl
theorem show_wrong {l : List Proc} (h : rightC l = false) : showV l = .tuple #[.string ⟨#[]⟩, .int .i64 90] := by unfold showV; rw [h]; rfl
set_option maxRecDepth 100000 in
set_option maxHeartbeats 4000000 in
theorem parts_law (v0 v1 : Value) (a b : List Proc) (w : World) (h0 : CodeAt w v0 a) (h1 : CodeAt w v1 b) (hE : Env w) :
    Calls Tryd.prog 6 #[v0, v1] w fun e w' => e = .returned (.bool true) ∧ Below w.heap.size w w' := by
  obtain ⟨A, ca, rfl⟩ := SlAt.form h0
  obtain ⟨B, cb, rfl⟩ := SlAt.form h1
  have H01 := Lib.hid (And.intro h0 h1)
  have HS := Lib.hid (shown_any w hE)
  have HA := Lib.hid (fun w' (hb : Below w.heap.size w w') => h0.below hb)
  have HB := Lib.hid (fun w' (hb : Below w.heap.size w w') => h1.below hb)
  have HE := Lib.hid (fun w' (hb : Below w.heap.size w w') => hE.kept hb)
  clear h0 h1 hE
  go_enter Tryd.func6, Tryd.ntmps6
  go_wp2_with fail
  go_at_call 9
  refine HS.out.mono ?_
  rintro e w1 ⟨rfl, hb1⟩
  have HSm := Lib.hid (small_any _ a w1 (HA.out w1 hb1))
  have B1 := Lib.hid hb1
  clear hb1 HS
  obtain ⟨sa, hsa⟩ : ∃ q, smallC a = q := ⟨_, rfl⟩
  rw [hsa] at HSm
  cases sa with
  | false =>
    go_wp2_with (go_at_call 10; refine HSm.out.mono ?_; rintro e w2 ⟨rfl, hb2⟩)
    go_ret
    exact ⟨rfl, B1.out.trans (hb2.mono B1.out.size)⟩
  | true =>
  go_wp2_with fail
  go_at_call 10
  refine HSm.out.mono ?_
  rintro e w2 ⟨rfl, hb2⟩
  have hB2 := B1.out.trans (hb2.mono B1.out.size)
  have HSb := Lib.hid (small_any _ b w2 (HB.out w2 hB2))
  have B2 := Lib.hid hB2
  clear hb2 hB2 HSm
  obtain ⟨sb, hsb⟩ : ∃ q, smallC b = q := ⟨_, rfl⟩
  rw [hsb] at HSb
  cases sb with
  | false =>
    go_wp2_with (go_at_call 10; refine HSb.out.mono ?_; rintro e w3 ⟨rfl, hb3⟩)
    go_ret
    exact ⟨rfl, B2.out.trans (hb3.mono B2.out.size)⟩
  | true =>
  have HSh := Lib.hid (And.intro hsa hsb)
  clear hsa hsb
  go_wp2_with fail
  go_at_call 10
  refine HSb.out.mono ?_
  rintro e w3 ⟨rfl, hb3⟩
  have B3 := Lib.hid (B2.out.trans (hb3.mono B2.out.size))
  clear hb3 HSb B1 B2
  have la : a.length ≤ 15 := (smallC_iff.1 HSh.out.1).1
  have lb : b.length ≤ 15 := (smallC_iff.1 HSh.out.2).1
  have HR := Lib.hid (room_procs (a.length + b.length) (by omega) ((a.length : Int) + (b.length : Int)) (by simp) w3)
  have hw4 := below_box w3 (.cells (room9 zP9 2 (a.length + b.length)) 35)
  have ho4 : OwnR 2 35 ProcP w (w3.alloc (.cells (room9 zP9 2 (a.length + b.length)) 35)) w3.heap.size (.slice (some ⟨w3.heap.size, 0, none⟩) 0 (a.length + b.length)) [] := OwnR.made w3 _ _ (by unfold maxLen; omega) (size_room9 _ _ _)
  have hB4 := B3.out.trans (hw4.mono B3.out.size)
  have HR1 := Lib.hid (app9 (p := Tryd.prog) (t := 22) ProcP.cells (by decide) Tryd.underlying22 infoP9 rfl (by decide) ho4 (H01.out.1.src (by decide) ProcP.cells hB4) hw4.size (by simp; omega))
  have HR2 := Lib.hid (fun (w5 : World) (v5 : Value) (h5 : App9 2 35 ProcP w (w3.alloc (.cells (room9 zP9 2 (a.length + b.length)) 35)) w3.heap.size (.slice (some ⟨w3.heap.size, 0, none⟩) 0 (a.length + b.length)) ([] ++ a) v5 w5) =>
    app9 (p := Tryd.prog) (t := 22) ProcP.cells (by decide) Tryd.underlying22 infoP9 rfl (by decide) h5.own (H01.out.2.src (by decide) ProcP.cells (hB4.trans (h5.below.mono B3.out.size))) (Nat.le_trans hw4.size h5.grown.size) (by simp; omega))
  have HB4 := Lib.hid (And.intro hB4 hw4)
  have hw : wrap64 ((a.length : Int) + (b.length : Int)) = (a.length : Int) + (b.length : Int) := by unfold wrap64; omega
  clear hw4 ho4 hB4
  go_upto_region 4 with fail
  go_cut [6] from 14 (fun s6 wc => ∃ A6 k6, s6 = .slice A6 (a.length + b.length) k6 ∧ SlAt 2 ProcP wc (.slice A6 (a.length + b.length) k6) (a ++ b) ∧ Below w.heap.size w wc)
  case first =>
    go_wp2_with (first
      | (at_make; refine wl_make9 rfl _ _ 22 rfl _ _ rfl rfl _ _ HR.out ?_)
      | (at_builtin; refine wl_app rfl _ _ 22 rfl _ _ rfl rfl _ HR1.out ?_; intro v5 w5 h5; obtain ⟨A5, k5, rfl, -, -⟩ := h5.form; have HR3 := Lib.hid (HR2.out w5 _ h5); have HB5 := Lib.hid (HB4.out.1.trans (h5.below.mono B3.out.size)); clear h5)
      | (at_builtin; refine wl_app rfl _ _ 22 rfl _ _ rfl rfl _ HR3.out ?_; intro v6 w6 h6; obtain ⟨A6, k6, rfl, -, -⟩ := h6.form; have HB6 := Lib.hid (HB5.out.trans (h6.below.mono B3.out.size)); have HO6 := Lib.hid (h6.own.at_ ProcP.cells ProcP.keeps HB6.out); clear h6))
    go_meet
    case rel => exact ⟨A6, k6, by simp, by have := HO6.out; simpa using this, HB6.out⟩
  case rest =>
  obtain ⟨A6, k6, rfl, hall, hB6⟩ := hcut
  obtain ⟨w6, e6⟩ : ∃ w6, w6 = wc := ⟨_, rfl⟩
  subst e6
  have HAll := Lib.hid (And.intro hall hB6)
  have hma9 := marks_small HSh.out.1
  have hmb9 := marks_small HSh.out.2
  obtain ⟨ma, hma⟩ : ∃ m, marksC a = m := ⟨_, rfl⟩
  obtain ⟨mb, hmb⟩ : ∃ m, marksC b = m := ⟨_, rfl⟩
  have hmab : marksC (a ++ b) = ma ++ mb := by rw [marksC_append, hma, hmb]
  have HMa := Lib.hid (fun W (h : Below w6.heap.size w6 W) => marks_any _ a W (HA.out W (hB6.trans (h.mono hB6.size))) (by omega))
  have HMb := Lib.hid (fun W (h : Below w6.heap.size w6 W) => marks_any _ b W (HB.out W (hB6.trans (h.mono hB6.size))) (by omega))
  have HMall := Lib.hid (fun W (h : Below w6.heap.size w6 W) => marks_any _ (a ++ b) W (hall.below ProcP.keeps h) (by rw [hmab, List.length_append, ← hma, ← hmb]; omega))
  rw [hma] at HMa hma9
  rw [hmb] at HMb hmb9
  rw [hmab] at HMall
  have HA1 := Lib.hid (fun (W : World) (m : Nat) (X : Option Addr) (k : Nat) (hm : W.heap[m]? = some (.cells (room9 (.int .i64 0) 1 100) 3 (0, 0))) (hs : Src9 IntP w6 W (.slice X ma.length k) ma) (hmB : w6.heap.size ≤ m) (hB : w6.heap.size ≤ W.heap.size) =>
    app9 (p := Tryd.prog) (t := 30) IntP.cells (by decide) Tryd.underlying30 info3 rfl (by decide) (w0 := w6) (OwnR.of_room hmB hm (by unfold maxLen; omega) (size_room9 _ _ _)) hs hB (by simp; omega))
  have HA2 := Lib.hid (fun (W : World) (v : Value) (X : Option Addr) (k : Nat) (ho : OwnR 1 3 IntP w6 W w6.heap.size v ma) (hs : Src9 IntP w6 W (.slice X mb.length k) mb) (hB : w6.heap.size ≤ W.heap.size) =>
    app9 (p := Tryd.prog) (t := 30) IntP.cells (by decide) Tryd.underlying30 info3 rfl (by decide) ho hs hB (by omega))
  have HMk := Lib.hid (fun W => room_ints 100 (by omega) 100 (by simp) W)
  clear hall hB6 hma hmb hmab hma9 hmb9 HR HR1 HR2 HB4 hw
  go_upto_region 5 with fail
  go_cut [7] from 14 (fun s7 wc => ∃ A9 k9, s7 = .slice A9 (ma.length + mb.length) k9 ∧ Ints9 wc (.slice A9 (ma.length + mb.length) k9) (ma ++ mb) ∧ Below w6.heap.size w6 wc)
  case first =>
    have hmk := HMk.out
    go_region_law (first
      | (go_simp; go_at_call 16; (with_reducible refine (HMa.out _ (by repeat (first | exact HB1.out | exact HBB.out | exact HBA.out | exact Below.refl _ _ | refine Below.drew ?_ | refine Below.alloc ?_ (by first | exact Nat.le_refl _ | exact HBA.out.size | exact HBB.out.size | exact HB1.out.size | (simp; done) | (simp; omega) | (have := HBA.out.size; simp; omega) | (have := HBB.out.size; simp; omega) | (have := HB1.out.size; simp; omega)) _))).mono ?_); rintro e wA ⟨⟨vA, rfl, hA⟩, hbA⟩; obtain ⟨XA, kA, rfl, -, -⟩ := hA.form; have HBA := Lib.hid (show Below w6.heap.size w6 wA from Below.trans (by repeat (first | exact HB1.out | exact HBB.out | exact HBA.out | exact Below.refl _ _ | refine Below.drew ?_ | refine Below.alloc ?_ (by first | exact Nat.le_refl _ | exact HBA.out.size | exact HBB.out.size | exact HB1.out.size | (simp; done) | (simp; omega) | (have := HBA.out.size; simp; omega) | (have := HBB.out.size; simp; omega) | (have := HB1.out.size; simp; omega)) _)) (Below.mono hbA (by first | exact Nat.le_refl _ | exact HBA.out.size | exact HBB.out.size | exact HB1.out.size | (simp; done) | (simp; omega) | (have := HBA.out.size; simp; omega) | (have := HBB.out.size; simp; omega) | (have := HB1.out.size; simp; omega)))))
      | (go_simp; go_at_call 16; (with_reducible refine (HMb.out _ (by repeat (first | exact HB1.out | exact HBB.out | exact HBA.out | exact Below.refl _ _ | refine Below.drew ?_ | refine Below.alloc ?_ (by first | exact Nat.le_refl _ | exact HBA.out.size | exact HBB.out.size | exact HB1.out.size | (simp; done) | (simp; omega) | (have := HBA.out.size; simp; omega) | (have := HBB.out.size; simp; omega) | (have := HB1.out.size; simp; omega)) _))).mono ?_); rintro e wB ⟨⟨vB, rfl, hB⟩, hbB⟩; obtain ⟨XB, kB, rfl, -, -⟩ := hB.form; have HBB := Lib.hid (show Below w6.heap.size w6 wB from Below.trans (by repeat (first | exact HB1.out | exact HBB.out | exact HBA.out | exact Below.refl _ _ | refine Below.drew ?_ | refine Below.alloc ?_ (by first | exact Nat.le_refl _ | exact HBA.out.size | exact HBB.out.size | exact HB1.out.size | (simp; done) | (simp; omega) | (have := HBA.out.size; simp; omega) | (have := HBB.out.size; simp; omega) | (have := HB1.out.size; simp; omega)) _)) (Below.mono hbB (by first | exact Nat.le_refl _ | exact HBA.out.size | exact HBB.out.size | exact HB1.out.size | (simp; done) | (simp; omega) | (have := HBA.out.size; simp; omega) | (have := HBB.out.size; simp; omega) | (have := HB1.out.size; simp; omega)))))
      | (refine step_app rfl (.tmp 34) (.tmp 36) 30 rfl (.slice (some ⟨w6.heap.size, 0, none⟩) 0 100) (.slice XA ma.length kA) rfl rfl (App9 1 3 IntP w6 _ w6.heap.size (.slice (some ⟨w6.heap.size, 0, none⟩) 0 100) ([] ++ ma)) (HA1.out _ w6.heap.size XA kA (by repeat (first | exact heap_alloc_new _ _ | refine (hbA.block _ (by first | (simp; done) | (simp; omega) | (have h1 := hbA.size; simp at h1 ⊢; omega) | (have h1 := hbB.size; simp at h1 ⊢; omega) | (have h1 := hbA.size; have h2 := hbB.size; simp at h1 h2 ⊢; omega))).trans ?_ | refine (hbB.block _ (by first | (simp; done) | (simp; omega) | (have h1 := hbA.size; simp at h1 ⊢; omega) | (have h1 := hbB.size; simp at h1 ⊢; omega) | (have h1 := hbA.size; have h2 := hbB.size; simp at h1 h2 ⊢; omega))).trans ?_)) (OwnR.src (OwnI.re w6 (OwnR.below hA (by repeat (first | exact Below.refl _ _ | refine Below.drew ?_ | refine Below.alloc ?_ (by first | exact Nat.le_refl _ | (simp; done) | (have := hbA.size; simp; omega) | (have := hbB.size; simp at this ⊢; omega) | (have := hbA.size; simp at this ⊢; omega)) _ | refine Below.trans ?_ (Below.mono hbB (by first | exact Nat.le_refl _ | (simp; done) | (simp; omega)))))))) (by first | exact Nat.le_refl _ | exact HBA.out.size | exact HBB.out.size) ((show Below w6.heap.size w6 _ from (by repeat (first | exact HB1.out | exact HBB.out | exact HBA.out | exact Below.refl _ _ | refine Below.drew ?_ | refine Below.alloc ?_ (by first | exact Nat.le_refl _ | exact HBA.out.size | exact HBB.out.size | exact HB1.out.size | (simp; done) | (simp; omega) | (have := HBA.out.size; simp; omega) | (have := HBB.out.size; simp; omega) | (have := HB1.out.size; simp; omega)) _))).size)) ?_; intro v8 w8 h8; obtain ⟨A8, k8, rfl, -, -⟩ := h8.form; simp only [List.nil_append] at h8 ⊢; have HB1 := Lib.hid (show Below w6.heap.size w6 w8 from Below.trans (by repeat (first | exact HB1.out | exact HBB.out | exact HBA.out | exact Below.refl _ _ | refine Below.drew ?_ | refine Below.alloc ?_ (by first | exact Nat.le_refl _ | exact HBA.out.size | exact HBB.out.size | exact HB1.out.size | (simp; done) | (simp; omega) | (have := HBA.out.size; simp; omega) | (have := HBB.out.size; simp; omega) | (have := HB1.out.size; simp; omega)) _)) h8.below); have HO8 := Lib.hid h8.own; (first | (have HIB := Lib.hid (OwnR.src (w0 := w6) (OwnI.re w6 (OwnR.keep (w' := w8) (OwnR.below hB (by repeat (first | exact Below.refl _ _ | refine Below.drew ?_ | refine Below.alloc ?_ (by first | exact Nat.le_refl _ | (simp; done) | (have := hbA.size; simp; omega) | (have := hbB.size; simp at this ⊢; omega) | (have := hbA.size; simp at this ⊢; omega)) _ | refine Below.trans ?_ (Below.mono hbA (by first | exact Nat.le_refl _ | (simp; done) | (simp; omega)))))) fun b9 hb9 => h8.grown.block b9 (by obtain ⟨-, cs9, h92⟩ := OwnR.blk (OwnR.below hB (by repeat (first | exact Below.refl _ _ | refine Below.drew ?_ | refine Below.alloc ?_ (by first | exact Nat.le_refl _ | (simp; done) | (have := hbA.size; simp; omega) | (have := hbB.size; simp at this ⊢; omega) | (have := hbA.size; simp at this ⊢; omega)) _ | refine Below.trans ?_ (Below.mono hbA (by first | exact Nat.le_refl _ | (simp; done) | (simp; omega)))))) hb9; exact heap_lt h92) (by intro e9; simp only [Value.ownBlock, Option.some.injEq] at e9; have h91 := (OwnR.blk hB hb9).1; obtain ⟨-, cs9, h92⟩ := OwnR.blk hB hb9; have h93 := heap_lt h92; have h94 := hbA.size; have h95 := hbB.size; simp at h91 h94 h95; omega))))) | (have HIB := True.intro)); clear h8)
      | (refine step_app rfl (.tmp 34) (.tmp 36) 30 rfl (.slice (some ⟨wA.heap.size, 0, none⟩) 0 100) (.slice XA ma.length kA) rfl rfl (App9 1 3 IntP w6 _ w6.heap.size (.slice (some ⟨wA.heap.size, 0, none⟩) 0 100) ([] ++ ma)) (HA1.out _ wA.heap.size XA kA (by repeat (first | exact heap_alloc_new _ _ | refine (hbA.block _ (by first | (simp; done) | (simp; omega) | (have h1 := hbA.size; simp at h1 ⊢; omega) | (have h1 := hbB.size; simp at h1 ⊢; omega) | (have h1 := hbA.size; have h2 := hbB.size; simp at h1 h2 ⊢; omega))).trans ?_ | refine (hbB.block _ (by first | (simp; done) | (simp; omega) | (have h1 := hbA.size; simp at h1 ⊢; omega) | (have h1 := hbB.size; simp at h1 ⊢; omega) | (have h1 := hbA.size; have h2 := hbB.size; simp at h1 h2 ⊢; omega))).trans ?_)) (OwnR.src (OwnI.re w6 (OwnR.below hA (by repeat (first | exact Below.refl _ _ | refine Below.drew ?_ | refine Below.alloc ?_ (by first | exact Nat.le_refl _ | (simp; done) | (have := hbA.size; simp; omega) | (have := hbB.size; simp at this ⊢; omega) | (have := hbA.size; simp at this ⊢; omega)) _ | refine Below.trans ?_ (Below.mono hbB (by first | exact Nat.le_refl _ | (simp; done) | (simp; omega)))))))) (by first | exact Nat.le_refl _ | exact HBA.out.size | exact HBB.out.size) ((show Below w6.heap.size w6 _ from (by repeat (first | exact HB1.out | exact HBB.out | exact HBA.out | exact Below.refl _ _ | refine Below.drew ?_ | refine Below.alloc ?_ (by first | exact Nat.le_refl _ | exact HBA.out.size | exact HBB.out.size | exact HB1.out.size | (simp; done) | (simp; omega) | (have := HBA.out.size; simp; omega) | (have := HBB.out.size; simp; omega) | (have := HB1.out.size; simp; omega)) _))).size)) ?_; intro v8 w8 h8; obtain ⟨A8, k8, rfl, -, -⟩ := h8.form; simp only [List.nil_append] at h8 ⊢; have HB1 := Lib.hid (show Below w6.heap.size w6 w8 from Below.trans (by repeat (first | exact HB1.out | exact HBB.out | exact HBA.out | exact Below.refl _ _ | refine Below.drew ?_ | refine Below.alloc ?_ (by first | exact Nat.le_refl _ | exact HBA.out.size | exact HBB.out.size | exact HB1.out.size | (simp; done) | (simp; omega) | (have := HBA.out.size; simp; omega) | (have := HBB.out.size; simp; omega) | (have := HB1.out.size; simp; omega)) _)) h8.below); have HO8 := Lib.hid h8.own; (first | (have HIB := Lib.hid (OwnR.src (w0 := w6) (OwnI.re w6 (OwnR.keep (w' := w8) (OwnR.below hB (by repeat (first | exact Below.refl _ _ | refine Below.drew ?_ | refine Below.alloc ?_ (by first | exact Nat.le_refl _ | (simp; done) | (have := hbA.size; simp; omega) | (have := hbB.size; simp at this ⊢; omega) | (have := hbA.size; simp at this ⊢; omega)) _ | refine Below.trans ?_ (Below.mono hbA (by first | exact Nat.le_refl _ | (simp; done) | (simp; omega)))))) fun b9 hb9 => h8.grown.block b9 (by obtain ⟨-, cs9, h92⟩ := OwnR.blk (OwnR.below hB (by repeat (first | exact Below.refl _ _ | refine Below.drew ?_ | refine Below.alloc ?_ (by first | exact Nat.le_refl _ | (simp; done) | (have := hbA.size; simp; omega) | (have := hbB.size; simp at this ⊢; omega) | (have := hbA.size; simp at this ⊢; omega)) _ | refine Below.trans ?_ (Below.mono hbA (by first | exact Nat.le_refl _ | (simp; done) | (simp; omega)))))) hb9; exact heap_lt h92) (by intro e9; simp only [Value.ownBlock, Option.some.injEq] at e9; have h91 := (OwnR.blk hB hb9).1; obtain ⟨-, cs9, h92⟩ := OwnR.blk hB hb9; have h93 := heap_lt h92; have h94 := hbA.size; have h95 := hbB.size; simp at h91 h94 h95; omega))))) | (have HIB := True.intro)); clear h8)
      | (refine step_app rfl (.tmp 34) (.tmp 36) 30 rfl (.slice (some ⟨wB.heap.size, 0, none⟩) 0 100) (.slice XA ma.length kA) rfl rfl (App9 1 3 IntP w6 _ w6.heap.size (.slice (some ⟨wB.heap.size, 0, none⟩) 0 100) ([] ++ ma)) (HA1.out _ wB.heap.size XA kA (by repeat (first | exact heap_alloc_new _ _ | refine (hbA.block _ (by first | (simp; done) | (simp; omega) | (have h1 := hbA.size; simp at h1 ⊢; omega) | (have h1 := hbB.size; simp at h1 ⊢; omega) | (have h1 := hbA.size; have h2 := hbB.size; simp at h1 h2 ⊢; omega))).trans ?_ | refine (hbB.block _ (by first | (simp; done) | (simp; omega) | (have h1 := hbA.size; simp at h1 ⊢; omega) | (have h1 := hbB.size; simp at h1 ⊢; omega) | (have h1 := hbA.size; have h2 := hbB.size; simp at h1 h2 ⊢; omega))).trans ?_)) (OwnR.src (OwnI.re w6 (OwnR.below hA (by repeat (first | exact Below.refl _ _ | refine Below.drew ?_ | refine Below.alloc ?_ (by first | exact Nat.le_refl _ | (simp; done) | (have := hbA.size; simp; omega) | (have := hbB.size; simp at this ⊢; omega) | (have := hbA.size; simp at this ⊢; omega)) _ | refine Below.trans ?_ (Below.mono hbB (by first | exact Nat.le_refl _ | (simp; done) | (simp; omega)))))))) (by first | exact Nat.le_refl _ | exact HBA.out.size | exact HBB.out.size) ((show Below w6.heap.size w6 _ from (by repeat (first | exact HB1.out | exact HBB.out | exact HBA.out | exact Below.refl _ _ | refine Below.drew ?_ | refine Below.alloc ?_ (by first | exact Nat.le_refl _ | exact HBA.out.size | exact HBB.out.size | exact HB1.out.size | (simp; done) | (simp; omega) | (have := HBA.out.size; simp; omega) | (have := HBB.out.size; simp; omega) | (have := HB1.out.size; simp; omega)) _))).size)) ?_; intro v8 w8 h8; obtain ⟨A8, k8, rfl, -, -⟩ := h8.form; simp only [List.nil_append] at h8 ⊢; have HB1 := Lib.hid (show Below w6.heap.size w6 w8 from Below.trans (by repeat (first | exact HB1.out | exact HBB.out | exact HBA.out | exact Below.refl _ _ | refine Below.drew ?_ | refine Below.alloc ?_ (by first | exact Nat.le_refl _ | exact HBA.out.size | exact HBB.out.size | exact HB1.out.size | (simp; done) | (simp; omega) | (have := HBA.out.size; simp; omega) | (have := HBB.out.size; simp; omega) | (have := HB1.out.size; simp; omega)) _)) h8.below); have HO8 := Lib.hid h8.own; (first | (have HIB := Lib.hid (OwnR.src (w0 := w6) (OwnI.re w6 (OwnR.keep (w' := w8) (OwnR.below hB (by repeat (first | exact Below.refl _ _ | refine Below.drew ?_ | refine Below.alloc ?_ (by first | exact Nat.le_refl _ | (simp; done) | (have := hbA.size; simp; omega) | (have := hbB.size; simp at this ⊢; omega) | (have := hbA.size; simp at this ⊢; omega)) _ | refine Below.trans ?_ (Below.mono hbA (by first | exact Nat.le_refl _ | (simp; done) | (simp; omega)))))) fun b9 hb9 => h8.grown.block b9 (by obtain ⟨-, cs9, h92⟩ := OwnR.blk (OwnR.below hB (by repeat (first | exact Below.refl _ _ | refine Below.drew ?_ | refine Below.alloc ?_ (by first | exact Nat.le_refl _ | (simp; done) | (have := hbA.size; simp; omega) | (have := hbB.size; simp at this ⊢; omega) | (have := hbA.size; simp at this ⊢; omega)) _ | refine Below.trans ?_ (Below.mono hbA (by first | exact Nat.le_refl _ | (simp; done) | (simp; omega)))))) hb9; exact heap_lt h92) (by intro e9; simp only [Value.ownBlock, Option.some.injEq] at e9; have h91 := (OwnR.blk hB hb9).1; obtain ⟨-, cs9, h92⟩ := OwnR.blk hB hb9; have h93 := heap_lt h92; have h94 := hbA.size; have h95 := hbB.size; simp at h91 h94 h95; omega))))) | (have HIB := True.intro)); clear h8)
      | (refine step_app rfl (.tmp 37) (.tmp 39) 30 rfl (.slice A8 ma.length k8) (.slice XB mb.length kB) rfl rfl (App9 1 3 IntP w6 _ w6.heap.size (.slice A8 ma.length k8) (ma ++ mb)) (HA2.out _ _ XB kB (by first | exact HO8.out | exact OwnR.below HO8.out hbB) (by first | exact HIB.out | exact OwnR.src (OwnI.re w6 hB)) ((show Below w6.heap.size w6 _ from (by repeat (first | exact HB1.out | exact HBB.out | exact HBA.out | exact Below.refl _ _ | refine Below.drew ?_ | refine Below.alloc ?_ (by first | exact Nat.le_refl _ | exact HBA.out.size | exact HBB.out.size | exact HB1.out.size | (simp; done) | (simp; omega) | (have := HBA.out.size; simp; omega) | (have := HBB.out.size; simp; omega) | (have := HB1.out.size; simp; omega)) _))).size)) ?_; intro v9 w9 h9; obtain ⟨A9, k9, rfl, -, -⟩ := h9.form; have HB9 := Lib.hid (show Below w6.heap.size w6 w9 from Below.trans (by repeat (first | exact HB1.out | exact HBB.out | exact HBA.out | exact Below.refl _ _ | refine Below.drew ?_ | refine Below.alloc ?_ (by first | exact Nat.le_refl _ | exact HBA.out.size | exact HBB.out.size | exact HB1.out.size | (simp; done) | (simp; omega) | (have := HBA.out.size; simp; omega) | (have := HBB.out.size; simp; omega) | (have := HB1.out.size; simp; omega)) _)) h9.below); have HO9 := Lib.hid (OwnI.at_ (OwnI.of h9.own)); clear h9))
    all_goals
      go_wp2
      go_meet
      case rel => exact ⟨A9, k9, by simp, by have := HO9.out; simpa using this, HB9.out⟩
  case rest =>
  obtain ⟨A9, k9, rfl, hm9, hB9⟩ := hcut
  obtain ⟨w9, e9⟩ : ∃ w9, w9 = wc := ⟨_, rfl⟩
  subst e9
  have HM9 := Lib.hid (And.intro hm9 hB9)
  clear hm9 hB9 HMa HMb HA1 HA2 HMk
  go_wp2_with fail
  go_at_call 16
  refine (HMall.out _ HM9.out.2).mono ?_
  rintro e w10 ⟨⟨v10, rfl, ho10⟩, hb10⟩
  obtain ⟨A10, k10, rfl, -, -⟩ := ho10.form
  simp only [List.length_append] at ho10
  have HSa := Lib.hid (sameInts_any _ _ (ma ++ mb) (ma ++ mb) w10 (OwnI.at_ ho10) (SlAt.below IntP.keeps HM9.out.1 hb10))
  rw [decide_eq_true rfl] at HSa
  have HB10 := Lib.hid (HM9.out.2.trans (hb10.mono HM9.out.2.size))
  clear ho10 hb10
  go_wp2_with fail
  go_at_call 17
  refine HSa.out.mono ?_
  rintro e w11 ⟨rfl, hb11⟩
  have HB11 := Lib.hid (HB10.out.trans (hb11.mono HB10.out.size))
  have HW11 := Lib.hid (HAll.out.2.trans (HB11.out.mono HAll.out.2.size))
  clear hb11 HSa HB10
  obtain ⟨ra, hra⟩ : ∃ q, rightC a = q := ⟨_, rfl⟩
  obtain ⟨rb, hrb⟩ : ∃ q, rightC b = q := ⟨_, rfl⟩
  have HRa := Lib.hid (right_any _ a w11 (HA.out w11 HW11.out))
  rw [hra] at HRa
  cases ra with
  | false =>
    clear hra hrb
    go_wp2_with (go_at_call 11; refine HRa.out.mono ?_; rintro e w12 ⟨rfl, hb12⟩)
    go_ret
    exact ⟨rfl, HW11.out.trans (hb12.mono HW11.out.size)⟩
  | true =>
  go_wp2_with fail
  go_at_call 11
  refine HRa.out.mono ?_
  rintro e w12 ⟨rfl, hb12⟩
  have HB12 := Lib.hid (HB11.out.trans (hb12.mono HB11.out.size))
  have HW12 := Lib.hid (HAll.out.2.trans (HB12.out.mono HAll.out.2.size))
  have HRb := Lib.hid (right_any _ b w12 (HB.out w12 HW12.out))
  rw [hrb] at HRb
  clear hb12 HRa
  cases rb with
  | false =>
    clear hra hrb
    go_wp2_with (go_at_call 11; refine HRb.out.mono ?_; rintro e w13 ⟨rfl, hb13⟩)
    go_ret
    exact ⟨rfl, HW12.out.trans (hb13.mono HW12.out.size)⟩
  | true =>
  have hrab := right_append hra hrb
  go_wp2_with fail
  go_at_call 11
  refine HRb.out.mono ?_
  rintro e w13 ⟨rfl, hb13⟩
  have HB13 := Lib.hid (HB12.out.trans (hb13.mono HB12.out.size))
  have HW13 := Lib.hid (HAll.out.2.trans (HB13.out.mono HAll.out.2.size))
  have HSA := show_any _ a w13 (HA.out w13 HW13.out) (HE.out w13 HW13.out) HSh.out.1
  rw [show_right hra] at HSA
  have HSA := Lib.hid HSA
  have HRR := Lib.hid (And.intro hrb hrab)
  clear hb13 HRb hra hrb hrab
  go_wp2_with fail
  go_at_call 15
  refine HSA.out.mono ?_
  rintro e w14 ⟨rfl, hb14⟩
  have HB14 := Lib.hid (HB13.out.trans (hb14.mono HB13.out.size))
  have HW14 := Lib.hid (HAll.out.2.trans (HB14.out.mono HAll.out.2.size))
  have HSB := show_any _ b w14 (HB.out w14 HW14.out) (HE.out w14 HW14.out) HSh.out.2
  rw [show_right HRR.out.1] at HSB
  have HSB := Lib.hid HSB
  clear hb14 HSA
  go_wp2_with fail
  go_at_call 15
  refine HSB.out.mono ?_
  rintro e w15 ⟨rfl, hb15⟩
  have HB15 := Lib.hid (HB14.out.trans (hb15.mono HB14.out.size))
  have HW15 := Lib.hid (HAll.out.2.trans (HB15.out.mono HAll.out.2.size))
  have HF15 := Lib.hid (And.intro (code_fine (HA.out w15 HW15.out)) (code_fine (HB.out w15 HW15.out)))
  have hsm2 : (a ++ b).length ≤ 30 ∧ ∀ p ∈ a ++ b, smallP p = true := by
    refine ⟨by rw [List.length_append]; omega, fun p hp => ?_⟩
    rcases List.mem_append.1 hp with h | h
    · exact (smallC_iff.1 HSh.out.1).2 p h
    · exact (smallC_iff.1 HSh.out.2).2 p h
  have HSC := show2_any _ (a ++ b) w15 (SlAt.below ProcP.keeps HAll.out.1 HB15.out) (HE.out w15 HW15.out) hsm2
  rw [show_right HRR.out.2, codeT_append] at HSC
  have HSC := Lib.hid HSC
  have g1 := codeT_len a HF15.out.1 HSh.out.1
  have g2 := codeT_len b HF15.out.2 HSh.out.2
  have hte : ((bs (codeT a ++ codeT b)).toList == (bs (codeT a) ++ bs (codeT b)).toList) = true := by
    rw [bs_app9, beq_iff_eq]
  have hov : ¬ 9223372036854775807 < (bs (codeT a)).size + (bs (codeT b)).size := by rw [bs_size, bs_size]; omega
  clear hb15 HSB hsm2 g1 g2
  go_wp2_with fail
  go_at_call 15
  refine HSC.out.mono ?_
  rintro e w16 ⟨rfl, hb16⟩
  have HB16 := Lib.hid (HW15.out.trans (hb16.mono HW15.out.size))
  clear hb16
  go_wp2
  go_ret
  exact ⟨rfl, HB16.out⟩
end Go.Proofs.YtconnhphkbgbkaaDoor
