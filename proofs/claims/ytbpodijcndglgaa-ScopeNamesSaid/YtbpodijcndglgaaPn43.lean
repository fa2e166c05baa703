/- The document's reader: a statement that begins with a word. The document's reader: object. The document's reader: args. The document's reader: cond. The document's reader: stmt. The document's reader: stmts. The document's reader: all its functions. -/
import Derived.Deep.RegionLaw
import Derived.Deep.RegionHeldLaw
import Derived.Deep.LoopGhost
import Derived.Deep.DeepCutAuto
import Derived.Test.YtbpodijcndglgaaPn39
import Derived.Test.YtbpodijcndglgaaPn40
import Derived.Test.YtbpodijcndglgaaPn41
import Derived.Test.YtbpodijcndglgaaPn42
set_option linter.unusedSimpArgs false
set_option linter.unusedVariables false
set_option maxRecDepth 100000
set_option maxHeartbeats 40000000
namespace Go.Proofs.Ytbpodijcndglgaa
section
open Go.RowKit Go.Proofs
section
variable {R cp : Nat} {A : Option Addr} {L : List Tok} {st : St} {F : Nat}
theorem worded_any (ih : All R A cp L F) (hps : st.pos < L.length) (line : Int) (s : Bs) (l : List Tr) (st1 : St) (hr : wordedR L (run L F) line s st = some (l, st1)) (w : World) (B : Nat) (h : RdAt w R A cp L st) (hRB : R < B)
  (hB0 : w.heap[B]? = some (.cells #[.int .i64 0, .string ⟨#[]⟩, .int .i64 0, .slice none 0 0, .int .i64 line] 24 (0, 0))) :
  Calls Try.prog 64 #[ptr R, ptr B, .string (bs s)] w (Told R B A cp L w l st1) := by
 by_cases n0 : s = [118, 97, 114]
 ·subst n0
  exact worded_var ih hps line l st1 hr w B h hRB hB0
 by_cases n5 : s = [102, 117, 110, 99, 116, 105, 111, 110]
 ·subst n5
  exact worded_function ih hps line l st1 hr w B h hRB hB0
 have hf : s ≠ funW := n5
 by_cases j0 : s = [114, 101, 116, 117, 114, 110]
 ·subst j0
  have q0 : ((bs [114, 101, 116, 117, 114, 110]).toList == [118, 97, 114]) = false := by rw [bs_eq]; decide
  have q1 : ((bs [114, 101, 116, 117, 114, 110]).toList == [105, 102]) = false := by rw [bs_eq]; decide
  have q2 : ((bs [114, 101, 116, 117, 114, 110]).toList == [119, 104, 105, 108, 101]) = false := by rw [bs_eq]; decide
  have q3 : ((bs [114, 101, 116, 117, 114, 110]).toList == [102, 111, 114]) = false := by rw [bs_eq]; decide
  have q4 : ((bs [114, 101, 116, 117, 114, 110]).toList == [116, 114, 121]) = false := by rw [bs_eq]; decide
  have q5 : ((bs [114, 101, 116, 117, 114, 110]).toList == [102, 117, 110, 99, 116, 105, 111, 110]) = false := by rw [bs_eq]; decide
  have HC := Lib.hid (jump_return ih hps line l st1 hr w B h hRB hB0)
  clear h hB0 hr n0 n5 ih hf
  go_enter Try.func64, Try.ntmps64
  go_wp2_with (go_at_call 85; refine (HC.out).mono ?_; rintro e w1 ⟨rfl, h1⟩)
  go_ret
  exact ⟨rfl, h1⟩
 ·simp [wordedR, n0, hf, j0] at hr
theorem worded_ok (ih : All R A cp L F) (line : Int) (s : Bs) (l : List Tr) (st1 : St) (hr : run L (F + 1) (.worded line s) st = some (l, st1)) : Spec R A cp L (.worded line s) st l st1 := by
 intro hps w B h hRB hB0
 rw [run] at hr
 exact worded_any ih hps line s l st1 hr w B h hRB hB0
end
end
section
open Go.RowKit Go.Proofs
section
variable {R cp : Nat} {A : Option Addr} {L : List Tok} {st : St} {F : Nat}
theorem object_ok (ihs : ∀ F', F' ≤ F → All R A cp L F') (hF : F ≤ 2000000) (line : Int) (acc : List Tr) (l : List Tr) (st1 : St) (hr : run L (F + 1) (.object line acc) st = some (l, st1)) : Spec R A cp L (.object line acc) st l st1 := by
 intro hacc st0 hst hln w h
 cases ht0 : tokR L st0 0 with | mk kd0 ts0 tn0 ln nl0 =>
 rw [ht0] at hln
 dsimp only at hln
 subst hacc hst hln
 have m0 := Mid.start h
 obtain ⟨W1, eW1⟩ : ∃ W, w.alloc (.cells #[.int .i64 0, .string ⟨#[]⟩, .int .i64 0, .slice none 0 0, .int .i64 0] 24) = W := ⟨_, rfl⟩
 rw [eW1] at m0
 have hz0 := m0.gt
 have M0 := Lib.hid m0
 have hR := h.lt
 clear h m0
 have HR0 := Lib.hid hr
 clear hr
 go_enter Try.func105, Try.ntmps105
 have HQ0 := tok_any 0 W1 M0.out.rd (by omega)
 rw [ht0] at HQ0
 unfold tokV at HQ0
 have HQ := Lib.hid HQ0
 clear HQ0
 go_wp2_with fail
 go_at_call 46
 refine (HQ.out).mono ?_
 rintro e w2 ⟨rfl, hb⟩
 have f2 := Fr.of_below (R := R) hb (Nat.le_refl _)
 have h2 := M0.out.rd.below hb M0.out.rd.lt
 have z2 := f2.size
 clear hb
 have M2 := Lib.hid ((M0.out.call h2 f2))
 clear h2 f2
 clear HQ
 have fl := tok_line kd0 ts0 tn0 ln nl0 w2
 obtain ⟨w3, e3, m3, f3, b3, zq3⟩ := M2.out.box_ (.int .i64 11) (.string ⟨#[]⟩) (.int .i64 0) (.slice none 0 0) (.int .i64 ln)
 have z3 : w2.heap.size < w3.heap.size := by omega
 clear zq3
 have M3 := Lib.hid (And.intro m3 (b3))
 clear m3 f3 b3
 have HQ := Lib.hid (must_any [123] ⟨#[123]⟩ rfl w3 M3.out.1.rd)
 go_wp2_with fail
 go_at_call 80
 refine (HQ.out).mono ?_
 rintro e w4 ⟨rfl, h4, f4⟩
 have z4 := f4.size
 have M4 := Lib.hid (And.intro (M3.out.1.call h4 f4) (M3.out.2.fr f4 (by omega)))
 clear h4 f4
 clear HQ
 obtain ⟨nB, hnB⟩ : ∃ x, w2.heap.size = x := ⟨_, rfl⟩
 have M8 := Lib.hid (show Mid R A cp L w w4 (mustR L st0 [123]) ∧ Bx w4 nB (.int .i64 11) (.string ⟨#[]⟩) (.int .i64 0) (.slice none 0 0) (.int .i64 ln) from by rw [← hnB]; exact ⟨M4.out.1, M4.out.2⟩)
 have hnw : w.heap.size < nB := by omega
 have hnr : nB < w4.heap.size := by omega
 go_wp2
 go_loopg [] (F + 1) (fun gn wr => ∃ (acc : List Tr) (s' : St) (A' : Option Addr) (c' : Nat), RowKit.Hid (run L gn (.object ln acc) s' = some (l, st1) ∧ acc.length + gn ≤ F + 1 ∧ Mid R A cp L w wr s' ∧ Bx wr nB (.int .i64 11) (.string ⟨#[]⟩) (.int .i64 0) (.slice A' acc.length c') (.int .i64 ln) ∧ AccAt (nB + 1) wr acc (.slice A' acc.length c') ∧ nB < wr.heap.size))
 case atStart => exact ⟨[], _, none, 0, Lib.hid ⟨HR0.out, by simp, M8.out.1, M8.out.2, AccAt.nil _ _, hnr⟩⟩
 case round =>
  obtain ⟨acc, s', A0, c0', HH⟩ := hrel
  obtain ⟨hrun, hgn, hm, hbx, hac, hBr⟩ := HH.out
  obtain ⟨W0, hW0⟩ : ∃ x, x = wr := ⟨_, rfl⟩
  subst hW0
  have hz1 := hm.gt
  have hne : acc.length ≤ 3000000 := by omega
  obtain ⟨c0, c1, c2, c3⟩ := hm.rd.cells
  have MR := Lib.hid (And.intro hm (And.intro hbx hac))
  clear HH hm hbx hac HR0 M8
  cases gk with
  | zero => simp [run] at hrun
  | succ G =>
  rw [run] at hrun
  try dsimp only at hrun
  by_cases he : s'.e = 0 ∧ acc = [] ∧ isR L s' [125] = true
  ·rw [if_pos he] at hrun
   obtain ⟨he, hac0, hc⟩ := he
   rw [he] at c2
   have d1 : (s'.e == 0) = true := by simpa using he
   obtain ⟨rfl, rfl⟩ : [Tr.mk 11 [] 0 ln acc] = l ∧ s'.next = st1 := by rw [hac0]; simpa [one] using hrun
   clear hrun he hac0
   have HQ0 := take_any [125] ⟨#[125]⟩ rfl W0 MR.out.1.rd
   unfold takeR at HQ0
   rw [hc] at HQ0
   have HQ := Lib.hid HQ0
   clear HQ0
   go_wp2_with fail
   go_at_call 48
   refine (HQ.out).mono ?_
   rintro e w21 ⟨rfl, h21, f21⟩
   have h21 : RdAt w21 R A cp L (s'.next) := h21
   have z21 := f21.size
   have M21 := Lib.hid (And.intro (MR.out.1.call h21 f21) (And.intro (MR.out.2.1.fr f21 (by omega)) (MR.out.2.2.fr f21 (by omega))))
   clear h21 f21
   clear HQ
   obtain ⟨x0, x1, x2, x3, x4⟩ := M21.out.2.1.cells
   obtain ⟨⟨y0, y1, y2, y3, y4⟩, g0, g1, g2, g3, g4⟩ := M21.out.1.facts
   go_wp2
   exact M21.out.1.gives' 2 (TreeAt.mk (o := 11) (k := 0) (i := ln) (s := []) (M21.out.2.2.af (b := w.heap.size) (by omega)) ⟨by simp, by omega, by omega⟩) rfl rfl rfl
  ·rw [if_neg he] at hrun
   cases hrun
end
end
section
open Go.RowKit Go.Proofs
section
variable {R cp : Nat} {A : Option Addr} {L : List Tok} {st : St} {F : Nat}
theorem args_ok (ihs : ∀ F', F' ≤ F → All R A cp L F') (hF : F ≤ 2000000) (more : Bool) (l : List Tr) (st1 : St) (hr : run L (F + 1) (.args [] more) st = some (l, st1)) : Spec R A cp L (.args [] more) st l st1 := by
 intro _ hm w h
 have hR := h.lt
 have HQ := Lib.hid (is_any [41] ⟨#[41]⟩ rfl w h)
 have M0 := Lib.hid (Pl.start h)
 clear h
 go_enter Try.func103, Try.ntmps103
 go_wp2_with fail
 go_at_call 47
 refine (HQ.out).mono ?_
 rintro e w2 ⟨rfl, hb⟩
 have M2 := Lib.hid (M0.out.call (M0.out.rd.below hb hR) (Fr.of_below (R := R) hb (Nat.le_refl _)))
 have z2 := hb.size
 clear hb HQ
 go_wp2
 go_loopg [3, 5] (F + 1) (fun gn v b wr => ∃ (acc : List Tr) (bb : Bool) (s' : St), b = .bool bb ∧ RowKit.Hid (run L gn (.args acc bb) s' = some (l, st1) ∧ acc.length + gn ≤ F + 1 ∧ Pl R A cp L w wr s' ∧ AccAt w.heap.size wr acc v ∧ w.heap.size ≤ wr.heap.size))
 case atStart => exact ⟨[], more, st, by rw [hm], Lib.hid ⟨hr, by simp, M2.out, AccAt.nil _ _, z2⟩⟩
 case round =>
  obtain ⟨acc, bb, s', rfl, HH⟩ := hrel
  obtain ⟨hrun, hacc, hpl, hac, hz0⟩ := HH.out
  obtain ⟨W0, hW0⟩ : ∃ x, x = wr := ⟨_, rfl⟩
  subst hW0
  obtain ⟨A0, c0', rfl, hlc, hcm⟩ := hac.slice
  obtain ⟨c0, c1, c2, c3⟩ := hpl.rd.cells
  have MR := Lib.hid (And.intro hpl hac)
  clear hpl hac HH hr
  cases gk with
  | zero => simp [run] at hrun
  | succ G =>
  rw [run] at hrun
  cases bb with
  | true => cases hrun
  | false =>
   obtain ⟨rfl, rfl⟩ : acc = l ∧ mustR L s' [41] = st1 := by simpa using hrun
   have HQ := Lib.hid (must_any [41] ⟨#[41]⟩ rfl W0 MR.out.1.rd)
   clear hrun
   by_cases he : s'.e = 0
   ·have d1 : (s'.e == 0) = true := by simpa using he
    rw [he] at c2
    go_wp2_with fail
    go_at_call 80
    refine (HQ.out).mono ?_
    rintro e w3 ⟨rfl, h3, f3⟩
    have z3 := f3.size
    have M3 := Lib.hid (And.intro (MR.out.1.call h3 f3) (MR.out.2.fr f3 (by omega)))
    clear h3 f3
    go_wp2
    go_ret
    exact M3.out.1.givesL M3.out.2
   ·have d1 : (s'.e == 0) = false := by simpa using he
    go_wp2_with fail
    go_at_call 80
    refine (HQ.out).mono ?_
    rintro e w3 ⟨rfl, h3, f3⟩
    have z3 := f3.size
    have M3 := Lib.hid (And.intro (MR.out.1.call h3 f3) (MR.out.2.fr f3 (by omega)))
    clear h3 f3
    go_wp2
    go_ret
    exact M3.out.1.givesL M3.out.2
end
end
section
open Go.RowKit Go.Proofs
section
variable {R cp : Nat} {A : Option Addr} {L : List Tok} {st : St} {F : Nat}
theorem cond_ok (ih : All R A cp L F) (l : List Tr) (st1 : St) (hr : run L (F + 1) .cond st = some (l, st1)) : Spec R A cp L .cond st l st1 := by
 intro w h
 rw [run] at hr
 dsimp only at hr
 cases e1 : run L F (.chain 0) st with
 | none => rw [e1] at hr; cases hr
 | some x =>
 obtain ⟨x, s2⟩ := x
 rw [e1] at hr
 have m0 := Mid.start h
 obtain ⟨W1, eW1⟩ : ∃ W, w.alloc (.cells #[.int .i64 0, .string ⟨#[]⟩, .int .i64 0, .slice none 0 0, .int .i64 0] 24) = W := ⟨_, rfl⟩
 rw [eW1] at m0
 have M0 := Lib.hid m0
 have hR := h.lt
 have H1 := Lib.hid (ih (.chain 0) _ _ _ e1 (by omega))
 clear h m0 e1
 cases hi : isR L s2 [63] with
 | false =>
  obtain ⟨rfl, rfl⟩ : [hd x] = l ∧ s2 = st1 := by simpa [one, hi] using hr
  go_enter Try.func86, Try.ntmps86
  go_wp2_with fail
  go_at_call 96
  refine (H1.out W1 M0.out.rd).mono ?_
  rintro e w2 ⟨v, rfl, h2, f2, t2⟩
  obtain ⟨A2, c2, rfl, -, -⟩ := t2.form
  obtain ⟨W3, eW3, m3, f3, b3, z3⟩ := (M0.out.call h2 f2).box_ (.int .i64 (hd x).op) (.string (bs (hd x).s)) (.int .i64 (hd x).n) (.slice A2 (hd x).l.length c2) (.int .i64 (hd x).line)
  have t3 := (t2.af (B := w.heap.size) M0.out.gt).up f3 (Nat.le_of_lt M0.out.lt)
  have hz2 := f2.size
  have hz1 := M0.out.gt
  have M3 := Lib.hid (And.intro m3 (And.intro t3 b3))
  have H3 := take_any [63] ⟨#[63]⟩ rfl _ m3.rd
  unfold takeR at H3
  rw [hi] at H3
  have H3 := Lib.hid H3
  clear h2 f2 t2 m3 f3 t3 b3 hr
  go_wp2_with fail
  go_at_call 48
  refine (H3.out).mono ?_
  rintro e w4 ⟨rfl, h4, f4⟩
  have m4 := M3.out.1.call h4 f4
  have t4 := M3.out.2.1.up f4 (Nat.le_of_lt M0.out.lt)
  have b4 := M3.out.2.2.fr f4 (by omega)
  obtain ⟨⟨y0, y1, y2, y3, y4⟩, g0, g1, g2, g3, g4⟩ := m4.facts
  obtain ⟨x0, x1, x2, x3, x4⟩ := b4.cells
  have M4 := Lib.hid (And.intro m4 t4)
  clear h4 f4 m4 t4 b4
  go_wp2
  exact M4.out.1.gives' 2 M4.out.2 rfl rfl rfl
 | true => simp [one, hi] at hr
end
end
section
open Go.RowKit Go.Proofs
section
variable {R cp : Nat} {A : Option Addr} {L : List Tok} {st : St} {F : Nat}
theorem worded_ne (rec : M → St → Res) (line : Int) (s : Bs) (l : List Tr) (s' : St) (h : wordedR L rec line s st = some (l, s')) : l ≠ [] := by
 have bind : ∀ {α : Type} {o : Option α} {f : α → Res} {l : List Tr} {s' : St}, (o >>= f) = some (l, s') → (∀ x, f x = some (l, s') → l ≠ []) → l ≠ [] := fun {α o f l s'} e hf => by
  cases o with
  | none => cases e
  | some x => exact hf x e
 have hone : ∀ {t : Tr} {s : St} {l : List Tr} {s' : St}, one t s = some (l, s') → l ≠ [] := fun {t s l s'} e => by
  unfold one at e
  cases e
  simp
 unfold wordedR at h
 split at h
 ·dsimp only at h
  split at h
  ·exact bind h fun x h => hone h
  ·exact hone h
 ·split at h
  ·exact bind h fun x h => hone h
  ·split at h
   ·dsimp only at h
    split at h
    ·exact bind h fun x h => hone h
    ·cases h
   ·cases h
theorem stmt_ok (ih : All R A cp L F) (l : List Tr) (st1 : St) (hr : run L (F + 1) .stmt st = some (l, st1)) : Spec R A cp L .stmt st l st1 := by
 intro w h
 rw [run] at hr
 dsimp only at hr
 cases ht : tokR L st 0 with | mk kd ts tn ln nl =>
 rw [ht] at hr
 dsimp only at hr
 have htl := tok_len h ht
 have hpz := tok_pos h ht
 have hR := h.lt
 by_cases hw : kd = 2
 ·subst hw
  have hps := hpz (by decide)
  clear hpz
  rw [if_pos rfl] at hr
  have H1 := Lib.hid (ih (.worded ln ts) _ _ _ hr hps)
  cases l with
  | nil =>
   exfalso
   cases F with
   | zero => cases hr
   | succ FF => exact worded_ne _ _ _ _ _ (show wordedR L (run L FF) ln ts st = some ([], st1) by rw [run] at hr; exact hr) rfl
  | cons y ys =>
   clear hr
   go_enter Try.func49, Try.ntmps49
   have m0 := Mid.start h
   obtain ⟨W1, eW1⟩ : ∃ W, w.alloc (.cells #[.int .i64 0, .string ⟨#[]⟩, .int .i64 0, .slice none 0 0, .int .i64 0] 24) = W := ⟨_, rfl⟩
   rw [eW1] at m0
   have hz0 := m0.gt
   have M0 := Lib.hid m0
   have hR := h.lt
   clear h m0
   have HQ0 := tok_any 0 W1 M0.out.rd (by omega)
   rw [ht] at HQ0
   unfold tokV at HQ0
   have HQ := Lib.hid HQ0
   clear HQ0
   go_wp2_with fail
   go_at_call 46
   refine (HQ.out).mono ?_
   rintro e w2 ⟨rfl, hb⟩
   have f2 := Fr.of_below (R := R) hb (Nat.le_refl _)
   have h2 := M0.out.rd.below hb M0.out.rd.lt
   have z2 := f2.size
   clear hb
   have M2 := Lib.hid ((M0.out.call h2 f2))
   clear h2 f2
   clear HQ
   obtain ⟨w3, e3, m3, f3, b3, zq3⟩ := M2.out.tok_ (2) ts tn ln nl
   have z3 : w2.heap.size < w3.heap.size := by omega
   clear zq3
   have M3 := Lib.hid (And.intro m3 (b3))
   have hl3 := heap_lt b3
   clear m3 f3 b3
   obtain ⟨t0, t1, t2, t3, t4⟩ := (box_facts M3.out.2).1
   obtain ⟨w4, e4, m4, f4, b4, zq4⟩ := M3.out.1.box_ (.int .i64 0) (.string ⟨#[]⟩) (.int .i64 0) (.slice none 0 0) (.int .i64 ln)
   have z4 : w3.heap.size < w4.heap.size := by omega
   clear zq4
   have M4 := Lib.hid (And.intro m4 (And.intro (blk_fr M3.out.2 f4 (by omega)) (b4)))
   clear m4 f4 b4
   obtain ⟨t0, t1, t2, t3, t4⟩ := (box_facts M4.out.2.1).1
   go_wp2_with fail
   go_at_call 64
   refine (H1.out w4 w3.heap.size M4.out.1.rd (by omega) M4.out.2.2).mono ?_
   rintro e w5 ⟨rfl, h5, o5, -, p5⟩
   have z5 := o5.size
   obtain ⟨v5, p5, r5, i5⟩ := p5 (by simp)
   try dsimp only [hd] at p5 r5 i5
   have m5 : Mid R A cp L w w5 _ := ⟨h5, Fr.own2 M4.out.1.fr o5 (by omega), (o5.block _ M4.out.1.gt (by omega)).trans M4.out.1.box, M4.out.1.lt⟩
   obtain ⟨A5, c5, rfl, -, -⟩ := r5.slice
   have p5 : Bx w5 (w3.heap.size) _ _ _ _ _ := p5
   have M5 := Lib.hid (And.intro m5 (And.intro p5 (And.intro (r5.af (B := w.heap.size) (by omega)) (i5))))
   clear m5 p5 r5 i5 h5 o5
   obtain ⟨x0, x1, x2, x3, x4⟩ := M5.out.2.1.cells
   obtain ⟨⟨y0, y1, y2, y3, y4⟩, g0, g1, g2, g3, g4⟩ := M5.out.1.facts
   go_wp2
   exact M5.out.1.gives' 2 (Tr.eta_at (TreeAt.mk (i := y.line) M5.out.2.2.1 M5.out.2.2.2)) rfl rfl rfl
 ·rw [if_neg hw] at hr
  by_cases k1 : kd = 1
  ·subst k1
   rw [if_pos rfl] at hr
   cases ht2 : tokR L st 1 with | mk kd2 ts2 tn2 ln2 nl2 =>
   rw [ht2] at hr
   dsimp only at hr
   by_cases hl : kd2 = 5 ∧ ts2 = [58]
   ·rw [if_pos hl] at hr
    cases hr
   rw [if_neg hl] at hr
   cases e2 : run L F .expr st with
   | none => simp [e2] at hr
   | some z =>
   obtain ⟨z, s3⟩ := z
   obtain ⟨rfl, rfl⟩ : [Tr.mk 31 [] 0 ln [hd z]] = l ∧ endR L s3 = st1 := by simpa [e2, one] using hr
   have H2 := Lib.hid (ih .expr _ _ _ e2)
   have hf : ((kd2 == 5) = true ∧ ((bs ts2).toList == [58]) = false) ∨ (kd2 == 5) = false := by
    rw [bs_eq]
    by_cases k5 : kd2 = 5
    ·exact .inl ⟨by simpa using k5, by simpa using fun h => hl ⟨k5, h⟩⟩
    ·exact .inr (by simpa using k5)
   clear hr e2 hpz hl hw
   rcases hf with ⟨dk3, q3⟩ | dk3
   all_goals
    go_enter Try.func49, Try.ntmps49
    have m0 := Mid.start h
    obtain ⟨W1, eW1⟩ : ∃ W, w.alloc (.cells #[.int .i64 0, .string ⟨#[]⟩, .int .i64 0, .slice none 0 0, .int .i64 0] 24) = W := ⟨_, rfl⟩
    rw [eW1] at m0
    have hz0 := m0.gt
    have M0 := Lib.hid m0
    have hR := h.lt
    clear h m0
    have HQ0 := tok_any 0 W1 M0.out.rd (by omega)
    rw [ht] at HQ0
    unfold tokV at HQ0
    have HQ := Lib.hid HQ0
    clear HQ0
    go_wp2_with fail
    go_at_call 46
    refine (HQ.out).mono ?_
    rintro e w2 ⟨rfl, hb⟩
    have f2 := Fr.of_below (R := R) hb (Nat.le_refl _)
    have h2 := M0.out.rd.below hb M0.out.rd.lt
    have z2 := f2.size
    clear hb
    have M2 := Lib.hid ((M0.out.call h2 f2))
    clear h2 f2
    clear HQ
    obtain ⟨w3, e3, m3, f3, b3, zq3⟩ := M2.out.tok_ (1) ts tn ln nl
    have z3 : w2.heap.size < w3.heap.size := by omega
    clear zq3
    have M3 := Lib.hid (And.intro m3 (b3))
    have hl3 := heap_lt b3
    clear m3 f3 b3
    obtain ⟨t0, t1, t2, t3, t4⟩ := (box_facts M3.out.2).1
    obtain ⟨w4, e4, m4, f4, b4, zq4⟩ := M3.out.1.box_ (.int .i64 0) (.string ⟨#[]⟩) (.int .i64 0) (.slice none 0 0) (.int .i64 ln)
    have z4 : w3.heap.size < w4.heap.size := by omega
    clear zq4
    have M4 := Lib.hid (And.intro m4 (And.intro (blk_fr M3.out.2 f4 (by omega)) (b4)))
    clear m4 f4 b4
    obtain ⟨t0, t1, t2, t3, t4⟩ := (box_facts M4.out.2.1).1
    have HQ0 := tok_any 1 w4 M4.out.1.rd (by omega)
    rw [ht2] at HQ0
    unfold tokV at HQ0
    have HQ := Lib.hid HQ0
    clear HQ0
    go_wp2_with fail
    go_at_call 46
    refine (HQ.out).mono ?_
    rintro e w5 ⟨rfl, hb⟩
    have f5 := Fr.of_below (R := R) hb (Nat.le_refl _)
    have h5 := M4.out.1.rd.below hb M4.out.1.rd.lt
    have z5 := f5.size
    clear hb
    have M5 := Lib.hid (And.intro (M4.out.1.call h5 f5) (And.intro (blk_fr M4.out.2.1 f5 (by omega)) (M4.out.2.2.fr f5 (by omega))))
    clear h5 f5
    clear HQ
    obtain ⟨w6, e6, m6, f6, b6, zq6⟩ := M5.out.1.tok_ kd2 ts2 tn2 ln2 nl2
    have z6 : w5.heap.size < w6.heap.size := by omega
    clear zq6
    have M6 := Lib.hid (And.intro m6 (And.intro (blk_fr M5.out.2.1 f6 (by omega)) (And.intro (M5.out.2.2.fr f6 (by omega)) (b6))))
    have hl6 := heap_lt b6
    clear m6 f6 b6
    obtain ⟨t0, t1, t2, t3, t4⟩ := (box_facts M6.out.2.1).1
    obtain ⟨u0, u1, u2, u3, u4⟩ := (box_facts M6.out.2.2.2).1
    obtain ⟨x0, x1, x2, x3, x4⟩ := M6.out.2.2.1.cells
    obtain ⟨q0, q1, q2, q3, q4⟩ := M6.out.2.2.1.thaw
    obtain ⟨w7, e7⟩ : ∃ W, w6.setCell ⟨w3.heap.size, 0, none⟩ (.int .i64 31) = W := ⟨_, rfl⟩
    have m7 := M6.out.1.set (B := w3.heap.size) (by omega) 0 (.int .i64 31)
    have i7_0 := blk_away (B' := w3.heap.size) M6.out.2.1 (by omega) 0 (.int .i64 31)
    have i7_1 := M6.out.2.2.1.put0 (.int .i64 31)
    have i7_2 := blk_away (B' := w3.heap.size) M6.out.2.2.2 (by omega) 0 (.int .i64 31)
    have z7 : w6.heap.size ≤ w7.heap.size := by rw [← e7]; simp
    rw [e7] at m7 i7_0 i7_1 i7_2
    have M7 := Lib.hid (And.intro m7 (And.intro i7_0 (And.intro i7_1 (i7_2))))
    clear m7 i7_0 i7_1 i7_2
    go_wp2_with fail
    go_at_call 65
    refine (H2.out w7 M7.out.1.rd).mono ?_
    rintro e w8 ⟨v8, rfl, h8, f8, t8⟩
    obtain ⟨A8, c8, rfl, -, -⟩ := t8.form
    have z8 := f8.size
    have M8 := Lib.hid (And.intro (M7.out.1.call h8 f8) (And.intro (blk_fr M7.out.2.1 f8 (by omega)) (And.intro (M7.out.2.2.1.fr f8 (by omega)) (And.intro (blk_fr M7.out.2.2.2 f8 (by omega)) (t8.af (B := w3.heap.size) (by omega))))))
    clear h8 f8 t8
    obtain ⟨w9, e9, m9, f9, b9, zq9⟩ := M8.out.1.arr #[.int .i64 (hd z).op, .string (bs (hd z).s), .int .i64 (hd z).n, .slice A8 (hd z).l.length c8, .int .i64 (hd z).line]
    have z9 : w8.heap.size < w9.heap.size := by omega
    clear zq9
    have M9 := Lib.hid (And.intro m9 (And.intro (blk_fr M8.out.2.1 f9 (by omega)) (And.intro (M8.out.2.2.1.fr f9 (by omega)) (And.intro (blk_fr M8.out.2.2.2.1 f9 (by omega)) (And.intro (M8.out.2.2.2.2.up f9 (by omega)) (b9))))))
    clear m9 f9 b9
    have r10 := RowAt.one M9.out.2.2.2.2.1 M9.out.2.2.2.2.2 rfl (show Af w3.heap.size w9 w8.heap.size from ⟨by omega, by omega⟩)
    have M10 := Lib.hid (And.intro M9.out.1 (And.intro M9.out.2.1 (And.intro M9.out.2.2.1 (And.intro M9.out.2.2.2.1 (r10)))))
    clear r10
    obtain ⟨x0, x1, x2, x3, x4⟩ := M10.out.2.2.1.cells
    obtain ⟨q0, q1, q2, q3, q4⟩ := M10.out.2.2.1.thaw
    obtain ⟨w11, e11⟩ : ∃ W, w9.setCell ⟨w3.heap.size, 3, none⟩ (.slice (some ⟨w8.heap.size, 0, none⟩) 1 1) = W := ⟨_, rfl⟩
    have m11 := M10.out.1.set (B := w3.heap.size) (by omega) 3 (.slice (some ⟨w8.heap.size, 0, none⟩) 1 1)
    have i11_0 := blk_away (B' := w3.heap.size) M10.out.2.1 (by omega) 3 (.slice (some ⟨w8.heap.size, 0, none⟩) 1 1)
    have i11_1 := M10.out.2.2.1.put3 (.slice (some ⟨w8.heap.size, 0, none⟩) 1 1)
    have i11_2 := blk_away (B' := w3.heap.size) M10.out.2.2.2.1 (by omega) 3 (.slice (some ⟨w8.heap.size, 0, none⟩) 1 1)
    have i11_3 := M10.out.2.2.2.2.set 3 (.slice (some ⟨w8.heap.size, 0, none⟩) 1 1)
    have z11 : w9.heap.size ≤ w11.heap.size := by rw [← e11]; simp
    rw [e11] at m11 i11_0 i11_1 i11_2 i11_3
    have M11 := Lib.hid (And.intro m11 (And.intro i11_0 (And.intro i11_1 (And.intro i11_2 (i11_3)))))
    clear m11 i11_0 i11_1 i11_2 i11_3
    have HQ := Lib.hid (end_any w11 M11.out.1.rd)
    go_wp2_with fail
    go_at_call 66
    refine (HQ.out).mono ?_
    rintro e w12 ⟨rfl, h12, f12⟩
    have z12 := f12.size
    have M12 := Lib.hid (And.intro (M11.out.1.call h12 f12) (And.intro (blk_fr M11.out.2.1 f12 (by omega)) (And.intro (M11.out.2.2.1.fr f12 (by omega)) (And.intro (blk_fr M11.out.2.2.2.1 f12 (by omega)) (M11.out.2.2.2.2.up f12 (by omega))))))
    clear h12 f12
    clear HQ
    obtain ⟨x0, x1, x2, x3, x4⟩ := M12.out.2.2.1.cells
    obtain ⟨⟨y0, y1, y2, y3, y4⟩, g0, g1, g2, g3, g4⟩ := M12.out.1.facts
    go_wp2
    exact M12.out.1.gives' 2 (TreeAt.mk (o := 31) (k := 0) (i := ln) (s := []) (M12.out.2.2.2.2.lower (by omega)) ⟨by simp, by omega, by omega⟩) rfl rfl rfl
  ·rw [if_neg k1] at hr
   cases hr
end
end
section
open Go.RowKit Go.Proofs
section
variable {R cp : Nat} {A : Option Addr} {L : List Tok} {st : St} {F : Nat}
theorem stmts_ok (ihs : ∀ F', F' ≤ F → All R A cp L F') (hF : F ≤ 2000000) (l : List Tr) (st1 : St) (hr : run L (F + 1) (.stmts []) st = some (l, st1)) : Spec R A cp L (.stmts []) st l st1 := by
 intro _ w h
 have hR := h.lt
 have M0 := Lib.hid (Pl.start h)
 clear h
 go_enter Try.func35, Try.ntmps35
 go_wp2
 go_loopg [3] (F + 1) (fun gn v wr => ∃ (acc : List Tr) (s' : St), RowKit.Hid (run L gn (.stmts acc) s' = some (l, st1) ∧ acc.length + gn ≤ F + 1 ∧ Pl R A cp L w wr s' ∧ AccAt w.heap.size wr acc v ∧ w.heap.size ≤ wr.heap.size))
 case atStart => exact ⟨[], st, Lib.hid ⟨hr, by simp, M0.out, AccAt.nil _ _, Nat.le_refl _⟩⟩
 case round =>
  obtain ⟨acc, s', HH⟩ := hrel
  obtain ⟨hrun, hacc, hpl, hac, hz0⟩ := HH.out
  obtain ⟨W0, hW0⟩ : ∃ x, x = wr := ⟨_, rfl⟩
  subst hW0
  obtain ⟨A0, c0', rfl, hlc, hcm⟩ := hac.slice
  obtain ⟨c0, c1, c2, c3⟩ := hpl.rd.cells
  have MR := Lib.hid (And.intro hpl hac)
  clear hpl hac HH hr
  cases gk with
  | zero => simp [run] at hrun
  | succ G =>
  rw [run] at hrun
  by_cases he : s'.e = 0
  ·have d1 : (s'.e == 0) = true := by simpa using he
   rw [he] at c2
   cases ht : tokR L s' 0 with | mk kd ts tn ln nl =>
   have HQ0 := tok_any 0 W0 MR.out.1.rd (by omega)
   rw [ht] at HQ0
   unfold tokV at HQ0
   have HQ := Lib.hid HQ0
   clear HQ0
   go_wp2_with fail
   go_at_call 46
   refine (HQ.out).mono ?_
   rintro e w3 ⟨rfl, hb⟩
   have f3 := Fr.of_below (R := R) hb (Nat.le_refl _)
   have h3 := MR.out.1.rd.below hb MR.out.1.rd.lt
   have z3 := f3.size
   clear hb
   have M3 := Lib.hid (And.intro (MR.out.1.call h3 f3) (MR.out.2.fr f3 (by omega)))
   clear h3 f3
   clear HQ
   have fk := tok_kind kd ts tn ln nl w3
   by_cases hk : kd = 0
   ·obtain ⟨rfl, rfl⟩ : acc = l ∧ s' = st1 := by simpa [he, ht, hk] using hrun
    have dk : (kd != 0) = false := by simpa using hk
    clear hrun hk he ht
    go_wp2
    go_ret
    exact M3.out.1.givesL M3.out.2
   ·have dk : (kd != 0) = true := by simpa using hk
    cases hi : isR L s' [125] with
    | true =>
     obtain ⟨rfl, rfl⟩ : acc = l ∧ s' = st1 := by simpa [he, ht, hk, hi] using hrun
     clear hrun hk he ht
     have HQ0 := is_any [125] ⟨#[125]⟩ rfl w3 M3.out.1.rd
     rw [hi] at HQ0
     have HQ := Lib.hid HQ0
     clear HQ0
     go_wp2_with fail
     go_at_call 47
     refine (HQ.out).mono ?_
     rintro e w4 ⟨rfl, hb⟩
     have f4 := Fr.of_below (R := R) hb (Nat.le_refl _)
     have h4 := M3.out.1.rd.below hb M3.out.1.rd.lt
     have z4 := f4.size
     clear hb
     have M4 := Lib.hid (And.intro (M3.out.1.call h4 f4) (M3.out.2.fr f4 (by omega)))
     clear h4 f4
     clear HQ
     go_wp2
     go_ret
     exact M4.out.1.givesL M4.out.2
    | false =>
     cases hj : isR L s' [59] with
     | true =>
      have HN := Lib.hid (show run L G (.stmts acc) s'.next = some (l, st1) by simpa [he, ht, hk, hi, hj] using hrun)
      clear hrun hk he ht
      have HQ0 := is_any [125] ⟨#[125]⟩ rfl w3 M3.out.1.rd
      rw [hi] at HQ0
      have HQ := Lib.hid HQ0
      clear HQ0
      go_wp2_with fail
      go_at_call 47
      refine (HQ.out).mono ?_
      rintro e w4 ⟨rfl, hb⟩
      have f4 := Fr.of_below (R := R) hb (Nat.le_refl _)
      have h4 := M3.out.1.rd.below hb M3.out.1.rd.lt
      have z4 := f4.size
      clear hb
      have M4 := Lib.hid (And.intro (M3.out.1.call h4 f4) (M3.out.2.fr f4 (by omega)))
      clear h4 f4
      clear HQ
      have HQ0 := take_any [59] ⟨#[59]⟩ rfl w4 M4.out.1.rd
      unfold takeR at HQ0
      rw [hj] at HQ0
      have HQ := Lib.hid HQ0
      clear HQ0
      go_wp2_with fail
      go_at_call 48
      refine (HQ.out).mono ?_
      rintro e w5 ⟨rfl, h5, f5⟩
      have h5 : RdAt w5 R A cp L (s'.next) := h5
      have z5 := f5.size
      have M5 := Lib.hid (And.intro (M4.out.1.call h5 f5) (M4.out.2.fr f5 (by omega)))
      clear h5 f5
      clear HQ
      go_wp2
      go_roundg G
      case rel => exact ⟨acc, _, Lib.hid ⟨HN.out, by omega, M5.out.1, M5.out.2, by omega⟩⟩
      case measure => omega
     | false =>
      cases e1 : run L G .stmt s' with
      | none => simp [he, ht, hk, hi, hj, e1] at hrun
      | some x =>
      obtain ⟨x, s2⟩ := x
      have HN := Lib.hid (show run L G (.stmts (acc ++ [hd x])) s2 = some (l, st1) by simpa [he, ht, hk, hi, hj, e1] using hrun)
      have H1 := Lib.hid (ihs G (by omega) .stmt _ _ _ e1)
      clear hrun hk he ht e1
      have HQ0 := is_any [125] ⟨#[125]⟩ rfl w3 M3.out.1.rd
      rw [hi] at HQ0
      have HQ := Lib.hid HQ0
      clear HQ0
      go_wp2_with fail
      go_at_call 47
      refine (HQ.out).mono ?_
      rintro e w4 ⟨rfl, hb⟩
      have f4 := Fr.of_below (R := R) hb (Nat.le_refl _)
      have h4 := M3.out.1.rd.below hb M3.out.1.rd.lt
      have z4 := f4.size
      clear hb
      have M4 := Lib.hid (And.intro (M3.out.1.call h4 f4) (M3.out.2.fr f4 (by omega)))
      clear h4 f4
      clear HQ
      have HQ0 := take_any [59] ⟨#[59]⟩ rfl w4 M4.out.1.rd
      unfold takeR at HQ0
      rw [hj] at HQ0
      have HQ := Lib.hid HQ0
      clear HQ0
      go_wp2_with fail
      go_at_call 48
      refine (HQ.out).mono ?_
      rintro e w5 ⟨rfl, h5, f5⟩
      have h5 : RdAt w5 R A cp L (s') := h5
      have z5 := f5.size
      have M5 := Lib.hid (And.intro (M4.out.1.call h5 f5) (M4.out.2.fr f5 (by omega)))
      clear h5 f5
      clear HQ
      go_wp2_with fail
      go_at_call 49
      refine (H1.out w5 M5.out.1.rd).mono ?_
      rintro e w6 ⟨v6, rfl, h6, f6, t6⟩
      obtain ⟨A6, c6, rfl, -, -⟩ := t6.form
      have z6 := f6.size
      have HP := Lib.hid (AccAt.push (R := R) (w := w6) (M5.out.2.fr f6 (by omega)) (M5.out.2.fresh t6 (by omega)) (by omega) (by omega) 22 #[.int .i64 (hd x).op, .string (bs (hd x).s), .int .i64 (hd x).n, .slice A6 (hd x).l.length c6, .int .i64 (hd x).line] rfl)
      have M6 := Lib.hid (And.intro (M5.out.1.call h6 f6) (M5.out.2.fr f6 (by omega)))
      clear h6 f6 t6
      go_wp2_with (at_builtin; refine wl_app rfl _ _ 22 rfl _ (.slice (some ⟨w6.heap.size, 0, none⟩) 1 1) rfl rfl _ HP.out ?_; rintro u w7 ⟨hacc, hon, A7, c7, rfl⟩; have z7 := hon.size; have M7 := Lib.hid (And.intro (M6.out.1.push M6.out.2 hon (by omega)) hacc); clear hacc hon)
      clear HP
      skip
      go_roundg G
      case rel => exact ⟨acc ++ [hd x], _, Lib.hid ⟨HN.out, by simp; omega, M7.out.1, M7.out.2, by omega⟩⟩
      case measure => omega
  ·obtain ⟨rfl, rfl⟩ : acc = l ∧ s' = st1 := by simpa [he] using hrun
   have d1 : (s'.e == 0) = false := by simpa using he
   clear hrun
   go_wp2
   go_ret
   exact MR.out.1.givesL MR.out.2
end
end
section
open Go.RowKit Go.Proofs
section
variable {R cp : Nat} {A : Option Addr} {L : List Tok}
theorem all_upto : ∀ (F : Nat), F ≤ 2000001 → ∀ F', F' ≤ F → All R A cp L F'
 | 0, _, F', hF' => by
  obtain rfl : F' = 0 := by omega
  intro m st l st1 hr
  cases hr
 | F + 1, hF, F', hF' => by
  have ihs := all_upto F (by omega)
  by_cases hlt : F' ≤ F
  ·exact ihs F' hlt
  obtain rfl : F' = F + 1 := by omega
  have ih := ihs F (Nat.le_refl _)
  have hF2 : F ≤ 2000000 := by omega
  intro m st l st1 hr
  cases m with
  | block => exact block_ok ih l st1 hr
  | stmts acc =>
   cases acc with
   | nil => exact stmts_ok ihs hF2 l st1 hr
   | cons a r => intro h; cases h
  | within => cases hr
  | params acc more => trivial
  | rest => exact rest_ok ihs hF2 l st1 hr
  | head => cases hr
  | stmt => exact stmt_ok ih l st1 hr
  | worded line s => exact worded_ok ih line s l st1 hr
  | expr => exact expr_ok ih l st1 hr
  | cond => exact cond_ok ih l st1 hr
  | chain k =>
   by_cases h6 : k < 6
   ·exact chain_ok ihs k h6 l st1 hr
   ·by_cases e : k = 6
    ·subst e
     exact chain_six ih l st1 hr
    ·intro h; omega
  | chainL k x => trivial
  | signed => exact signed_ok ih hF2 l st1 hr
  | args acc more =>
   cases acc with
   | nil => exact args_ok ihs hF2 more l st1 hr
   | cons a r => intro h; cases h
  | parts x calls => exact parts_ok ihs hF2 x calls l st1 hr
  | thing => exact thing_ok ih l st1 hr
  | object line acc => exact object_ok ihs hF2 line acc l st1 hr
theorem rd_all (F : Nat) (hF : F ≤ 2000001) : All R A cp L F := all_upto F hF F (Nat.le_refl _)
end
end
end Go.Proofs.Ytbpodijcndglgaa
