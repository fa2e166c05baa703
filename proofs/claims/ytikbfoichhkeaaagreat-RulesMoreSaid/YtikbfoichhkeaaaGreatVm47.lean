/- The document's reader: a statement that begins with a word. The document's reader: object. The document's reader: chain. The document's reader: cond. The document's reader: expr. The document's reader: thing. The document's reader: all its functions. -/
import Derived.Deep.RegionLaw
import Derived.Deep.RegionHeldLaw
import Derived.Deep.LoopGhost
import Derived.Deep.DeepCutAuto
import Derived.Test.YtikbfoichhkeaaaGreatVm46
set_option linter.unusedSimpArgs false
set_option linter.unusedVariables false
set_option maxRecDepth 100000
set_option maxHeartbeats 40000000
namespace Go.Proofs.YtikbfoichhkeaaaGreat
section
open Go.RowKit Go.Proofs
section
variable {R cp : Nat} {A : Option Addr} {L : List Tok} {st : St} {F : Nat}
theorem worded_any (ih : All R A cp L F) (hps : st.pos < L.length) (line : Int) (s : Bs) (l : List Tr) (st1 : St) (hr : wordedR L (run L F) line s st = some (l, st1)) (w : World) (B : Nat) (h : RdAt w R A cp L st) (hRB : R < B)
  (hB0 : w.heap[B]? = some (.cells #[.int .i64 0, .string ⟨#[]⟩, .int .i64 0, .slice none 0 0, .int .i64 line] 24 (0, 0))) :
  Calls Tryz.prog 116 #[ptr R, ptr B, .string (bs s)] w (Told R B A cp L w l st1) := by
 by_cases n0 : s = [118, 97, 114]
 ·subst n0
  exact worded_var ih hps line l st1 hr w B h hRB hB0
 ·simp [wordedR, n0] at hr
theorem worded_ok (ih : All R A cp L F) (line : Int) (s : Bs) (l : List Tr) (st1 : St) (hr : run L (F + 1) (.worded line s) st = some (l, st1)) : Spec R A cp L (.worded line s) st l st1 := by
 intro hps w B h hRB hB0
 rw [run] at hr
 exact worded_any ih hps line s l st1 hr w B h hRB hB0
end
end
section
open Go.RowKit Go.Proofs
section
variable {R cp : Nat} {A : Option Addr} {L : List Tok} {st : St} {F : Nat}
theorem object_ok (ihs : ∀ F', F' ≤ F → All R A cp L F') (hF : F ≤ 2000000) (line : Int) (acc : List Tr) (l : List Tr) (st1 : St) (hr : run L (F + 1) (.object line acc) st = some (l, st1)) : Spec R A cp L (.object line acc) st l st1 := by
 intro hacc st0 hst hln w h
 cases ht0 : tokR L st0 0 with | mk kd0 ts0 tn0 ln nl0 =>
 rw [ht0] at hln
 dsimp only at hln
 subst hacc hst hln
 have m0 := Mid.start h
 obtain ⟨W1, eW1⟩ : ∃ W, w.alloc (.cells #[.int .i64 0, .string ⟨#[]⟩, .int .i64 0, .slice none 0 0, .int .i64 0] 24) = W := ⟨_, rfl⟩
 rw [eW1] at m0
 have hz0 := m0.gt
 have M0 := Lib.hid m0
 have hR := h.lt
 clear h m0
 have HR0 := Lib.hid hr
 clear hr
 go_enter Tryz.func158, Tryz.ntmps158
 have HQ0 := tok_any 0 W1 M0.out.rd (by omega)
 rw [ht0] at HQ0
 unfold tokV at HQ0
 have HQ := Lib.hid HQ0
 clear HQ0
 go_wp2_with fail
 go_at_call 89
 refine (HQ.out).mono ?_
 rintro e w2 ⟨rfl, hb⟩
 have f2 := Fr.of_below (R := R) hb (Nat.le_refl _)
 have h2 := M0.out.rd.below hb M0.out.rd.lt
 have z2 := f2.size
 clear hb
 have M2 := Lib.hid ((M0.out.call h2 f2))
 clear h2 f2
 clear HQ
 have fl := tok_line kd0 ts0 tn0 ln nl0 w2
 obtain ⟨w3, e3, m3, f3, b3, zq3⟩ := M2.out.box_ (.int .i64 11) (.string ⟨#[]⟩) (.int .i64 0) (.slice none 0 0) (.int .i64 ln)
 have z3 : w2.heap.size < w3.heap.size := by omega
 clear zq3
 have M3 := Lib.hid (And.intro m3 (b3))
 clear m3 f3 b3
 have HQ := Lib.hid (must_any [123] ⟨#[123]⟩ rfl w3 M3.out.1.rd)
 go_wp2_with fail
 go_at_call 129
 refine (HQ.out).mono ?_
 rintro e w4 ⟨rfl, h4, f4⟩
 have z4 := f4.size
 have M4 := Lib.hid (And.intro (M3.out.1.call h4 f4) (M3.out.2.fr f4 (by omega)))
 clear h4 f4
 clear HQ
 obtain ⟨nB, hnB⟩ : ∃ x, w2.heap.size = x := ⟨_, rfl⟩
 have M8 := Lib.hid (show Mid R A cp L w w4 (mustR L st0 [123]) ∧ Bx w4 nB (.int .i64 11) (.string ⟨#[]⟩) (.int .i64 0) (.slice none 0 0) (.int .i64 ln) from by rw [← hnB]; exact ⟨M4.out.1, M4.out.2⟩)
 have hnw : w.heap.size < nB := by omega
 have hnr : nB < w4.heap.size := by omega
 go_wp2
 go_loopg [] (F + 1) (fun gn wr => ∃ (acc : List Tr) (s' : St) (A' : Option Addr) (c' : Nat), RowKit.Hid (run L gn (.object ln acc) s' = some (l, st1) ∧ acc.length + gn ≤ F + 1 ∧ Mid R A cp L w wr s' ∧ Bx wr nB (.int .i64 11) (.string ⟨#[]⟩) (.int .i64 0) (.slice A' acc.length c') (.int .i64 ln) ∧ AccAt (nB + 1) wr acc (.slice A' acc.length c') ∧ nB < wr.heap.size))
 case atStart => exact ⟨[], _, none, 0, Lib.hid ⟨HR0.out, by simp, M8.out.1, M8.out.2, AccAt.nil _ _, hnr⟩⟩
 case round =>
  obtain ⟨acc, s', A0, c0', HH⟩ := hrel
  obtain ⟨hrun, hgn, hm, hbx, hac, hBr⟩ := HH.out
  obtain ⟨W0, hW0⟩ : ∃ x, x = wr := ⟨_, rfl⟩
  subst hW0
  have hz1 := hm.gt
  have hne : acc.length ≤ 3000000 := by omega
  obtain ⟨c0, c1, c2, c3⟩ := hm.rd.cells
  have MR := Lib.hid (And.intro hm (And.intro hbx hac))
  clear HH hm hbx hac HR0 M8
  cases gk with
  | zero => simp [run] at hrun
  | succ G =>
  rw [run] at hrun
  try dsimp only at hrun
  by_cases he : s'.e = 0 ∧ acc = [] ∧ isR L s' [125] = true
  ·rw [if_pos he] at hrun
   obtain ⟨he, hac0, hc⟩ := he
   rw [he] at c2
   have d1 : (s'.e == 0) = true := by simpa using he
   obtain ⟨rfl, rfl⟩ : [Tr.mk 11 [] 0 ln acc] = l ∧ s'.next = st1 := by rw [hac0]; simpa [one] using hrun
   clear hrun he hac0
   have HQ0 := take_any [125] ⟨#[125]⟩ rfl W0 MR.out.1.rd
   unfold takeR at HQ0
   rw [hc] at HQ0
   have HQ := Lib.hid HQ0
   clear HQ0
   go_wp2_with fail
   go_at_call 91
   refine (HQ.out).mono ?_
   rintro e w21 ⟨rfl, h21, f21⟩
   have h21 : RdAt w21 R A cp L (s'.next) := h21
   have z21 := f21.size
   have M21 := Lib.hid (And.intro (MR.out.1.call h21 f21) (And.intro (MR.out.2.1.fr f21 (by omega)) (MR.out.2.2.fr f21 (by omega))))
   clear h21 f21
   clear HQ
   obtain ⟨x0, x1, x2, x3, x4⟩ := M21.out.2.1.cells
   obtain ⟨⟨y0, y1, y2, y3, y4⟩, g0, g1, g2, g3, g4⟩ := M21.out.1.facts
   go_wp2
   exact M21.out.1.gives' 2 (TreeAt.mk (o := 11) (k := 0) (i := ln) (s := []) (M21.out.2.2.af (b := w.heap.size) (by omega)) ⟨by simp, by omega, by omega⟩) rfl rfl rfl
  ·rw [if_neg he] at hrun
   cases hrun
end
end
section
open Go.RowKit Go.Proofs
section
variable {R cp : Nat} {A : Option Addr} {L : List Tok} {st : St} {F : Nat}
theorem firstSign_none {s' : St} {k : Nat} : firstSign L s' k = none ↔ ∀ x ∈ signsR k, isR L s' x = false := by
 unfold firstSign
 rw [List.find?_eq_none]
 simp
theorem firstSign_at {s' : St} {k : Nat} {x : Bs} (h : firstSign L s' k = some x) : ∃ i : Nat, (signsR k)[i]? = some x ∧ isR L s' x = true ∧ ∀ (j : Nat) (y : Bs), j < i → (signsR k)[j]? = some y → isR L s' y = false := by
 unfold firstSign at h
 rw [List.find?_eq_some_iff_getElem] at h
 obtain ⟨h1, i, hi, h2, h3⟩ := h
 refine ⟨i, by rw [List.getElem?_eq_getElem hi, h2], h1, fun j y hj hy => ?_⟩
 have := h3 j hj
 obtain ⟨hj', rfl⟩ := List.getElem?_eq_some_iff.1 hy
 simpa using this
theorem signs_ne {k : Nat} {x : Bs} (h : x ∈ signsR k) : x ≠ [] ∧ x.length ≤ 3 := by
 rcases k with _ | _ | _ | _ | _ | k <;> simp [signsR] at h <;> first | (subst h; simp) | (rcases h with rfl | rfl <;> simp)
theorem signs_le (k : Nat) : 1 ≤ (signsR k).length ∧ (signsR k).length ≤ 2 := by
 unfold signsR
 split <;> simp
theorem chain_six (ih : All R A cp L F) (l : List Tr) (st1 : St) (hr : run L (F + 1) (.chain 6) st = some (l, st1)) : Spec R A cp L (.chain 6) st l st1 := by
 intro _ w h
 rw [run] at hr
 have e1 : run L F .signed st = some (l, st1) := by simpa using hr
 have H1 := Lib.hid (ih .signed _ _ _ e1)
 clear hr e1
 have m0 := Mid.start h
 obtain ⟨W1, eW1⟩ : ∃ W, w.alloc (.cells #[.int .i64 0, .string ⟨#[]⟩, .int .i64 0, .slice none 0 0, .int .i64 0] 24) = W := ⟨_, rfl⟩
 rw [eW1] at m0
 have hz0 := m0.gt
 have M0 := Lib.hid m0
 have hR := h.lt
 clear h m0
 go_enter Tryz.func143, Tryz.ntmps143
 go_wp2_with fail
 go_at_call 151
 refine (H1.out W1 M0.out.rd).mono ?_
 rintro e w2 ⟨v2, rfl, h2, f2, t2⟩
 obtain ⟨A2, c2, rfl, -, -⟩ := t2.form
 have z2 := f2.size
 have M2 := Lib.hid (And.intro (M0.out.call h2 f2) (t2.af (B := w.heap.size) (by omega)))
 clear h2 f2 t2
 obtain ⟨⟨y0, y1, y2, y3, y4⟩, g0, g1, g2, g3, g4⟩ := M2.out.1.facts
 go_wp2
 exact M2.out.1.gives' 4 M2.out.2 rfl rfl rfl
theorem chain_ok (ihs : ∀ F', F' ≤ F → All R A cp L F') (k : Nat) (hk6 : k < 6) (l : List Tr) (st1 : St) (hr : run L (F + 1) (.chain k) st = some (l, st1)) : Spec R A cp L (.chain k) st l st1 := by
 intro _ w h
 rw [run] at hr
 rw [if_neg (show ¬ k = 6 by omega)] at hr
 cases e1 : run L F (.chain (k + 1)) st with
 | none => rw [e1] at hr; cases hr
 | some x0 =>
 obtain ⟨x0, s2⟩ := x0
 rw [e1] at hr
 have hr : run L F (.chainL k (hd x0)) s2 = some (l, st1) := hr
 have H1 := Lib.hid (ihs F (Nat.le_refl _) (.chain (k + 1)) _ _ _ e1 (by omega))
 have hk7 : ((k : Int) == 6) = false := by simp; omega
 have hwk : IntKind.i64.wrap ((k : Int) + 1) = ((k + 1 : Nat) : Int) := by rw [IntWalk.i64_in _ (by omega)]; omega
 clear e1
 have m0 := Mid.start h
 obtain ⟨W1, eW1⟩ : ∃ W, w.alloc (.cells #[.int .i64 0, .string ⟨#[]⟩, .int .i64 0, .slice none 0 0, .int .i64 0] 24) = W := ⟨_, rfl⟩
 rw [eW1] at m0
 have hz0 := m0.gt
 have M0 := Lib.hid m0
 have hR := h.lt
 clear h m0
 have HR0 := Lib.hid hr
 clear hr
 go_enter Tryz.func143, Tryz.ntmps143
 go_wp2_with fail
 go_at_call 143
 refine (H1.out W1 M0.out.rd).mono ?_
 rintro e w2 ⟨v2, rfl, h2, f2, t2⟩
 obtain ⟨A2, c2, rfl, -, -⟩ := t2.form
 have z2 := f2.size
 obtain ⟨w3, e3, m3, f3, b3, zq3⟩ := (M0.out.call h2 f2).box_ (.int .i64 (hd x0).op) (.string (bs (hd x0).s)) (.int .i64 (hd x0).n) (.slice A2 (hd x0).l.length c2) (.int .i64 (hd x0).line)
 have z3 : w2.heap.size < w3.heap.size := by omega
 clear zq3
 have M3 := Lib.hid (And.intro m3 (And.intro b3 (((t2.af (B := w.heap.size) (by omega)).x_before (Nat.le_refl _)).upx f3 (by omega))))
 clear h2 f2 t2 m3 f3 b3
 obtain ⟨B, hB⟩ : ∃ B, w2.heap.size = B := ⟨_, rfl⟩
 have M4 := Lib.hid (show Mid R A cp L w w3 s2 ∧ Bx w3 B (.int .i64 (hd x0).op) (.string (bs (hd x0).s)) (.int .i64 (hd x0).n) (.slice A2 (hd x0).l.length c2) (.int .i64 (hd x0).line) ∧ TreeAt w3 (AfX w.heap.size B w3) (hd x0) (.agg #[.int .i64 (hd x0).op, .string (bs (hd x0).s), .int .i64 (hd x0).n, .slice A2 (hd x0).l.length c2, .int .i64 (hd x0).line]) from by
  rw [← hB]
  exact ⟨M3.out.1, M3.out.2.1, M3.out.2.2⟩)
 have hBw : w.heap.size < B := by omega
 have hB3 : B < w3.heap.size := by omega
 clear M3 M0
 go_wp2
 go_loopg [] F (fun gn wr => ∃ (x : Tr) (s' : St) (Ax : Option Addr) (cx : Nat), RowKit.Hid (run L gn (.chainL k x) s' = some (l, st1) ∧ gn ≤ F ∧ Mid R A cp L w wr s' ∧ Bx wr B (.int .i64 x.op) (.string (bs x.s)) (.int .i64 x.n) (.slice Ax x.l.length cx) (.int .i64 x.line) ∧ TreeAt wr (AfX w.heap.size B wr) x (.agg #[.int .i64 x.op, .string (bs x.s), .int .i64 x.n, .slice Ax x.l.length cx, .int .i64 x.line]) ∧ B < wr.heap.size))
 case atStart => exact ⟨hd x0, s2, A2, c2, Lib.hid ⟨HR0.out, Nat.le_refl _, M4.out.1, M4.out.2.1, M4.out.2.2, hB3⟩⟩
 case round =>
  obtain ⟨x, s', Ax, cx, HH⟩ := hrel
  obtain ⟨hrun, hgn, hm, hbx, htx, hBr⟩ := HH.out
  obtain ⟨W0, hW0⟩ : ∃ x, x = wr := ⟨_, rfl⟩
  subst hW0
  have hz1 := hm.gt
  obtain ⟨c0, c1, c2', c3⟩ := hm.rd.cells
  obtain ⟨x0', x1', x2', x3', x4'⟩ := hbx.cells
  have MR := Lib.hid (And.intro hm (And.intro hbx htx))
  have hsl := signs_le k
  clear HH hm hbx htx HR0 M4
  cases gk with
  | zero => simp [run] at hrun
  | succ G =>
  rw [run] at hrun
  by_cases he : s'.e = 0
  ·rw [he] at c2'
   have d1 : (s'.e == 0) = true := by simpa using he
   rw [if_pos he] at hrun
   have HQ := Lib.hid (signs_any k (by omega) W0)
   have HRu := Lib.hid (And.intro hrun he)
   clear he hrun
   go_wp2_with fail
   go_at_call 152
   refine (HQ.out).mono ?_
   rintro e w4 ⟨g, rfl, hl4, hg1, hg2, hb4⟩
   have f4 := Fr.of_below (R := R) hb4 (Nat.le_refl _)
   have M5 := Lib.hid (And.intro (MR.out.1.call (MR.out.1.rd.below hb4 MR.out.1.rd.lt) f4) (And.intro (MR.out.2.1.fr f4 (by omega)) (MR.out.2.2.upx f4 (by omega))))
   have HS := Lib.hid (And.intro hl4 (And.intro hg1 hg2))
   have z4 := f4.size
   obtain ⟨n, hn⟩ : ∃ n, (signsR k).length = n := ⟨_, rfl⟩
   rw [hn] at hsl ⊢
   have HNl := Lib.hid hn
   clear hb4 f4 hl4 HQ hn
   go_wp2
   go_loopw [6, 8] (fun sv i wr => ∃ (q : Nat) (S : Option Bs) (s'' : St), i = .int .i64 q ∧ q ≤ n ∧ sv = .string (bs (S.getD [])) ∧ RowKit.Hid ((S = none → s'' = s' ∧ ∀ (j : Nat) (y : Bs), j < q → (signsR k)[j]? = some y → isR L s' y = false) ∧ (∀ z, S = some z → firstSign L s' k = some z ∧ s'' = s'.next) ∧ Mid R A cp L w wr s'' ∧ Bx wr B (.int .i64 x.op) (.string (bs x.s)) (.int .i64 x.n) (.slice Ax x.l.length cx) (.int .i64 x.line) ∧ TreeAt wr (AfX w.heap.size B wr) x (.agg #[.int .i64 x.op, .string (bs x.s), .int .i64 x.n, .slice Ax x.l.length cx, .int .i64 x.line]) ∧
    (∀ i s, (signsR k)[i]? = some s → wr.cell? ⟨g, i, none⟩ = some (.string (bs s))) ∧ w4.heap.size ≤ wr.heap.size)) (fun _ i _ => n - (intOf i).toNat)
   case atStart => exact ⟨0, none, s', rfl, by omega, rfl, Lib.hid ⟨fun _ => ⟨rfl, fun j y hj => by omega⟩, fun z hz => (by cases hz), M5.out.1, M5.out.2.1, M5.out.2.2, HS.out.1, Nat.le_refl _⟩⟩
   case round =>
    obtain ⟨q, S, s'', rfl, hq, rfl, HI⟩ := hrel
    obtain ⟨W5, hW5⟩ : ∃ x, x = wr := ⟨_, rfl⟩
    subst hW5
    obtain ⟨hI1, hI2, hm, hbx, htx, hcg, hz5⟩ := HI.out
    cases S with
    | none =>
     obtain ⟨rfl, hno⟩ := hI1 rfl
     have q0 : ((bs ([] : Bs)).toList == []) = true := by rw [bs_eq]; decide
     dsimp only [Option.getD]
     by_cases hqn : q < n
     ·obtain ⟨z, hz⟩ : ∃ z, (signsR k)[q]? = some z := ⟨_, List.getElem?_eq_getElem (by rw [HNl.out]; exact hqn)⟩
      have cz := hcg q z hz
      have hqn' : (q : Int) < (n : Int) := by omega
      have hwq : IntKind.i64.wrap ((q : Int) + 1) = (q : Int) + 1 := IntWalk.i64_in _ (by omega)
      have HQ0 := take_any z (bs z) rfl W5 hm.rd
      have Hno := Lib.hid hno
      have Hz := Lib.hid hz
      have MI := Lib.hid (And.intro hm (And.intro hbx htx))
      have HCg := Lib.hid hcg
      have hRg : R < g := by have := HS.out.2.1; omega
      have hgl : g < W5.heap.size := by have := HS.out.2.2; omega
      clear hI1 hI2 hm hbx htx hcg HI hno hz
      cases ht : isR L s'' z with
      | true =>
       unfold takeR at HQ0
       rw [ht] at HQ0
       have HQ := Lib.hid HQ0
       clear HQ0
       go_wp2_with fail
       go_at_call 91
       refine (HQ.out).mono ?_
       rintro e w6 ⟨rfl, h6, f6⟩
       have h6 : RdAt w6 R A cp L s''.next := h6
       have z6 := f6.size
       have M6 := Lib.hid (And.intro (MI.out.1.call h6 f6) (And.intro (MI.out.2.1.fr f6 (by omega)) (MI.out.2.2.upx f6 (by omega))))
       have hcg6 : ∀ i s, (signsR k)[i]? = some s → w6.cell? ⟨g, i, none⟩ = some (.string (bs s)) := fun i s hi => (f6.cell hgl (by omega) i).trans (HCg.out i s hi)
       have cz6 := hcg6 q z Hz.out
       have HC6 := Lib.hid hcg6
       have HF := Lib.hid (show firstSign L s'' k = some z from by
        unfold firstSign
        rw [List.find?_eq_some_iff_getElem]
        obtain ⟨h1, h2⟩ := List.getElem?_eq_some_iff.1 Hz.out
        exact ⟨ht, q, h1, h2, fun j hj => by rw [Hno.out j _ hj (List.getElem?_eq_getElem _)]; rfl⟩)
       clear h6 f6 hcg6 ht
       go_wp2
       go_roundw
       case rel => exact ⟨q + 1, some z, _, by go_num, by omega, rfl, Lib.hid ⟨fun h => (by cases h), fun y hy => (by cases hy; exact ⟨HF.out, rfl⟩), M6.out.1, M6.out.2.1, M6.out.2.2, HC6.out, by omega⟩⟩
       case measure => simp [intOf]; omega
      | false =>
       unfold takeR at HQ0
       rw [ht] at HQ0
       have HQ := Lib.hid HQ0
       clear HQ0
       go_wp2_with fail
       go_at_call 91
       refine (HQ.out).mono ?_
       rintro e w6 ⟨rfl, h6, f6⟩
       have h6 : RdAt w6 R A cp L s'' := h6
       have z6 := f6.size
       have M6 := Lib.hid (And.intro (MI.out.1.call h6 f6) (And.intro (MI.out.2.1.fr f6 (by omega)) (MI.out.2.2.upx f6 (by omega))))
       have HC6 := Lib.hid (show ∀ i s, (signsR k)[i]? = some s → w6.cell? ⟨g, i, none⟩ = some (.string (bs s)) from fun i s hi => (f6.cell hgl (by omega) i).trans (HCg.out i s hi))
       have HF := Lib.hid (show ∀ (j : Nat) (y : Bs), j < q + 1 → (signsR k)[j]? = some y → isR L s'' y = false from fun j y hj hy => by
        by_cases hjq : j = q
        ·subst hjq
         rw [Hz.out] at hy
         cases hy
         exact ht
        ·exact Hno.out j y (by omega) hy)
       clear h6 f6 ht
       go_wp2
       go_roundw
       case rel => exact ⟨q + 1, none, _, by go_num, by omega, rfl, Lib.hid ⟨fun _ => ⟨rfl, HF.out⟩, fun y hy => (by cases hy), M6.out.1, M6.out.2.1, M6.out.2.2, HC6.out, by omega⟩⟩
       case measure => simp [intOf]; omega
     ·have hqn' : ¬ (q : Int) < (n : Int) := by omega
      have hfn : firstSign L s'' k = none := firstSign_none.2 fun y hy => by
       obtain ⟨j, hj, hjy⟩ := List.getElem_of_mem hy
       exact hno j y (by rw [HNl.out] at hj; omega) (by rw [List.getElem?_eq_getElem hj, hjy])
      obtain ⟨rfl, rfl⟩ : [x] = l ∧ s'' = st1 := by simpa [HRu.out.2, hfn, one] using HRu.out.1
      have MI := Lib.hid (And.intro hm (And.intro hbx htx))
      obtain ⟨⟨y0, y1, y2, y3, y4⟩, g0, g1, g2, g3, g4⟩ := hm.facts
      obtain ⟨x0, x1, x2, x3, x4⟩ := hbx.cells
      clear hI1 hI2 hm hbx htx hcg HI hno hfn
      go_wp2
      exact MI.out.1.gives' 4 MI.out.2.2.of_x rfl rfl rfl
    | some z =>
     obtain ⟨hfs, rfl⟩ := hI2 z rfl
     obtain ⟨i0, hi0, -, -⟩ := firstSign_at hfs
     obtain ⟨hz1', hz2'⟩ := signs_ne (List.mem_of_getElem? hi0)
     have qz : ((bs z).toList == []) = false := by rw [bs_eq]; simpa using hz1'
     have hrun := HRu.out.1
     simp [hfs] at hrun
  ·obtain ⟨rfl, rfl⟩ : [x] = l ∧ s' = st1 := by simpa [he, one] using hrun
   have d1 : (s'.e == 0) = false := by simpa using he
   obtain ⟨⟨y0, y1, y2, y3, y4⟩, g0, g1, g2, g3, g4⟩ := MR.out.1.facts
   clear hrun he
   go_wp2
   exact MR.out.1.gives' 4 MR.out.2.2.of_x rfl rfl rfl
end
end
section
open Go.RowKit Go.Proofs
section
variable {R cp : Nat} {A : Option Addr} {L : List Tok} {st : St} {F : Nat}
theorem cond_ok (ih : All R A cp L F) (l : List Tr) (st1 : St) (hr : run L (F + 1) .cond st = some (l, st1)) : Spec R A cp L .cond st l st1 := by
 intro w h
 rw [run] at hr
 dsimp only at hr
 cases e1 : run L F (.chain 0) st with
 | none => rw [e1] at hr; cases hr
 | some x =>
 obtain ⟨x, s2⟩ := x
 rw [e1] at hr
 have m0 := Mid.start h
 obtain ⟨W1, eW1⟩ : ∃ W, w.alloc (.cells #[.int .i64 0, .string ⟨#[]⟩, .int .i64 0, .slice none 0 0, .int .i64 0] 24) = W := ⟨_, rfl⟩
 rw [eW1] at m0
 have M0 := Lib.hid m0
 have hR := h.lt
 have H1 := Lib.hid (ih (.chain 0) _ _ _ e1 (by omega))
 clear h m0 e1
 cases hi : isR L s2 [63] with
 | false =>
  obtain ⟨rfl, rfl⟩ : [hd x] = l ∧ s2 = st1 := by simpa [one, hi] using hr
  go_enter Tryz.func135, Tryz.ntmps135
  go_wp2_with fail
  go_at_call 143
  refine (H1.out W1 M0.out.rd).mono ?_
  rintro e w2 ⟨v, rfl, h2, f2, t2⟩
  obtain ⟨A2, c2, rfl, -, -⟩ := t2.form
  obtain ⟨W3, eW3, m3, f3, b3, z3⟩ := (M0.out.call h2 f2).box_ (.int .i64 (hd x).op) (.string (bs (hd x).s)) (.int .i64 (hd x).n) (.slice A2 (hd x).l.length c2) (.int .i64 (hd x).line)
  have t3 := (t2.af (B := w.heap.size) M0.out.gt).up f3 (Nat.le_of_lt M0.out.lt)
  have hz2 := f2.size
  have hz1 := M0.out.gt
  have M3 := Lib.hid (And.intro m3 (And.intro t3 b3))
  have H3 := take_any [63] ⟨#[63]⟩ rfl _ m3.rd
  unfold takeR at H3
  rw [hi] at H3
  have H3 := Lib.hid H3
  clear h2 f2 t2 m3 f3 t3 b3 hr
  go_wp2_with fail
  go_at_call 91
  refine (H3.out).mono ?_
  rintro e w4 ⟨rfl, h4, f4⟩
  have m4 := M3.out.1.call h4 f4
  have t4 := M3.out.2.1.up f4 (Nat.le_of_lt M0.out.lt)
  have b4 := M3.out.2.2.fr f4 (by omega)
  obtain ⟨⟨y0, y1, y2, y3, y4⟩, g0, g1, g2, g3, g4⟩ := m4.facts
  obtain ⟨x0, x1, x2, x3, x4⟩ := b4.cells
  have M4 := Lib.hid (And.intro m4 t4)
  clear h4 f4 m4 t4 b4
  go_wp2
  exact M4.out.1.gives' 2 M4.out.2 rfl rfl rfl
 | true => simp [one, hi] at hr
end
end
section
open Go.RowKit Go.Proofs
section
variable {R cp : Nat} {A : Option Addr} {L : List Tok} {st : St} {F : Nat}
theorem expr_ok (ih : All R A cp L F) (l : List Tr) (st1 : St) (hr : run L (F + 1) .expr st = some (l, st1)) : Spec R A cp L .expr st l st1 := by
 intro w h
 rw [run] at hr
 dsimp only at hr
 cases hb : isR L st [40] with
 | true => rw [hb] at hr; cases hr
 | false =>
 cases e1 : run L F .cond st with
 | none => simp [hb, e1] at hr
 | some x =>
 obtain ⟨x, s2⟩ := x
 cases hq : isR L s2 [61] with
 | true => simp [hb, e1, hq] at hr
 | false =>
 obtain ⟨rfl, rfl⟩ : [hd x] = l ∧ s2 = st1 := by simpa [one, hb, e1, hq] using hr
 have H1 := Lib.hid (ih .cond _ _ _ e1)
 clear e1 hr
 have m0 := Mid.start h
 obtain ⟨W1, eW1⟩ : ∃ W, w.alloc (.cells #[.int .i64 0, .string ⟨#[]⟩, .int .i64 0, .slice none 0 0, .int .i64 0] 24) = W := ⟨_, rfl⟩
 rw [eW1] at m0
 have hz0 := m0.gt
 have M0 := Lib.hid m0
 have hR := h.lt
 clear h m0
 obtain ⟨op, hop⟩ : ∃ o, (hd x).op = o := ⟨_, rfl⟩
 have HOP := Lib.hid hop
 clear hop
 by_cases htg : op = 1 ∨ op = 13 ∨ op = 14
 ·have hf : (((hd x).op == 1) = true) ∨ (((hd x).op == 1) = false ∧ ((hd x).op == 13) = true) ∨ (((hd x).op == 1) = false ∧ ((hd x).op == 13) = false ∧ ((hd x).op == 14) = true) := by rw [HOP.out]; rcases htg with h | h | h <;> subst h <;> decide
  clear htg
  rcases hf with dk1 | ⟨dk1, dk13⟩ | ⟨dk1, dk13, dk14⟩
  all_goals
   go_enter Tryz.func117, Tryz.ntmps117
   have HQ0 := is_any [40] ⟨#[40]⟩ rfl W1 M0.out.rd
   rw [hb] at HQ0
   have HQ := Lib.hid HQ0
   clear HQ0
   go_wp2_with fail
   go_at_call 90
   refine (HQ.out).mono ?_
   rintro e w2 ⟨rfl, hb⟩
   have f2 := Fr.of_below (R := R) hb (Nat.le_refl _)
   have h2 := M0.out.rd.below hb M0.out.rd.lt
   have z2 := f2.size
   clear hb
   have M2 := Lib.hid ((M0.out.call h2 f2))
   clear h2 f2
   clear HQ
   obtain ⟨c0, c1, c2, c3⟩ := M2.out.rd.cells
   go_wp2_with fail
   go_at_call 135
   refine (H1.out w2 M2.out.rd).mono ?_
   rintro e w3 ⟨v3, rfl, h3, f3, t3⟩
   obtain ⟨A3, c3, rfl, -, -⟩ := t3.form
   have z3 := f3.size
   obtain ⟨w4, e4, m4, f4, b4, zq4⟩ := (M2.out.call h3 f3).box_ (.int .i64 (hd x).op) (.string (bs (hd x).s)) (.int .i64 (hd x).n) (.slice A3 (hd x).l.length c3) (.int .i64 (hd x).line)
   have z4 : w3.heap.size < w4.heap.size := by omega
   clear zq4
   have M4 := Lib.hid (And.intro m4 (And.intro ((t3.af (B := w.heap.size) (by omega)).up f4 (by omega)) (b4)))
   clear h3 f3 t3 m4 f4 b4
   obtain ⟨x0, x1, x2, x3, x4⟩ := M4.out.2.2.cells
   have HQ0 := take_any [61] ⟨#[61]⟩ rfl w4 M4.out.1.rd
   unfold takeR at HQ0
   rw [hq] at HQ0
   have HQ := Lib.hid HQ0
   clear HQ0
   go_wp2_with fail
   go_at_call 91
   refine (HQ.out).mono ?_
   rintro e w5 ⟨rfl, h5, f5⟩
   have h5 : RdAt w5 R A cp L (s2) := h5
   have z5 := f5.size
   have M5 := Lib.hid (And.intro (M4.out.1.call h5 f5) (And.intro (M4.out.2.1.up f5 (by omega)) (M4.out.2.2.fr f5 (by omega))))
   clear h5 f5
   clear HQ
   obtain ⟨x0, x1, x2, x3, x4⟩ := M5.out.2.2.cells
   obtain ⟨⟨y0, y1, y2, y3, y4⟩, g0, g1, g2, g3, g4⟩ := M5.out.1.facts
   go_wp2
   exact M5.out.1.gives' 2 M5.out.2.1 rfl rfl rfl
 ·have hf : ((hd x).op == 1) = false ∧ ((hd x).op == 13) = false ∧ ((hd x).op == 14) = false := by rw [HOP.out]; exact ⟨by simpa using fun h => htg (.inl h), by simpa using fun h => htg (.inr (.inl h)), by simpa using fun h => htg (.inr (.inr h))⟩
  obtain ⟨dk1, dk13, dk14⟩ := hf
  clear htg
  go_enter Tryz.func117, Tryz.ntmps117
  have HQ0 := is_any [40] ⟨#[40]⟩ rfl W1 M0.out.rd
  rw [hb] at HQ0
  have HQ := Lib.hid HQ0
  clear HQ0
  go_wp2_with fail
  go_at_call 90
  refine (HQ.out).mono ?_
  rintro e w2 ⟨rfl, hb⟩
  have f2 := Fr.of_below (R := R) hb (Nat.le_refl _)
  have h2 := M0.out.rd.below hb M0.out.rd.lt
  have z2 := f2.size
  clear hb
  have M2 := Lib.hid ((M0.out.call h2 f2))
  clear h2 f2
  clear HQ
  obtain ⟨c0, c1, c2, c3⟩ := M2.out.rd.cells
  go_wp2_with fail
  go_at_call 135
  refine (H1.out w2 M2.out.rd).mono ?_
  rintro e w3 ⟨v3, rfl, h3, f3, t3⟩
  obtain ⟨A3, c3, rfl, -, -⟩ := t3.form
  have z3 := f3.size
  obtain ⟨w4, e4, m4, f4, b4, zq4⟩ := (M2.out.call h3 f3).box_ (.int .i64 (hd x).op) (.string (bs (hd x).s)) (.int .i64 (hd x).n) (.slice A3 (hd x).l.length c3) (.int .i64 (hd x).line)
  have z4 : w3.heap.size < w4.heap.size := by omega
  clear zq4
  have M4 := Lib.hid (And.intro m4 (And.intro ((t3.af (B := w.heap.size) (by omega)).up f4 (by omega)) (b4)))
  clear h3 f3 t3 m4 f4 b4
  obtain ⟨x0, x1, x2, x3, x4⟩ := M4.out.2.2.cells
  obtain ⟨⟨y0, y1, y2, y3, y4⟩, g0, g1, g2, g3, g4⟩ := M4.out.1.facts
  go_wp2
  exact M4.out.1.gives' 2 M4.out.2.1 rfl rfl rfl
end
end
section
open Go.RowKit Go.Proofs
section
variable {R cp : Nat} {A : Option Addr} {L : List Tok} {st : St} {F : Nat}
theorem thing_ok (ih : All R A cp L F) (l : List Tr) (st1 : St) (hr : run L (F + 1) .thing st = some (l, st1)) : Spec R A cp L .thing st l st1 := by
 intro w h
 rw [run] at hr
 try dsimp only at hr
 cases ht : tokR L st 0 with | mk kd ts tn ln nl =>
 rw [ht] at hr
 try dsimp only at hr
 have htl := tok_len h ht
 have hpz := tok_pos h ht
 have m0 := Mid.start h
 obtain ⟨W1, eW1⟩ : ∃ W, w.alloc (.cells #[.int .i64 0, .string ⟨#[]⟩, .int .i64 0, .slice none 0 0, .int .i64 0] 24) = W := ⟨_, rfl⟩
 rw [eW1] at m0
 have hz0 := m0.gt
 have M0 := Lib.hid m0
 have hR := h.lt
 clear h m0
 by_cases he : st.e = 0
 ·have HE := Lib.hid he
  rw [if_neg (show ¬ st.e ≠ 0 by simpa using he)] at hr
  clear he
  by_cases k1 : kd = 1
  ·subst k1
   have hps := Lib.hid (hpz (by decide))
   clear hpz
   rw [if_pos rfl] at hr
   by_cases hE : ts = evalW ∨ ts = argsW
   ·rw [if_pos hE] at hr
    cases hr
   ·obtain ⟨rfl, rfl⟩ : [Tr.mk 1 ts 0 ln []] = l ∧ st.next = st1 := by simpa [hE, one] using hr
    clear hr
    have q1 : ((bs ts).toList == [101, 118, 97, 108]) = false := by rw [bs_eq]; simpa [evalW] using fun h => hE (.inl h)
    have q2 : ((bs ts).toList == [97, 114, 103, 117, 109, 101, 110, 116, 115]) = false := by rw [bs_eq]; simpa [argsW] using fun h => hE (.inr h)
    clear hE
    go_enter Tryz.func155, Tryz.ntmps155
    have HQ0 := tok_any 0 W1 M0.out.rd (by omega)
    rw [ht] at HQ0
    unfold tokV at HQ0
    have HQ := Lib.hid HQ0
    clear HQ0
    go_wp2_with fail
    go_at_call 89
    refine (HQ.out).mono ?_
    rintro e w2 ⟨rfl, hb⟩
    have f2 := Fr.of_below (R := R) hb (Nat.le_refl _)
    have h2 := M0.out.rd.below hb M0.out.rd.lt
    have z2 := f2.size
    clear hb
    have M2 := Lib.hid ((M0.out.call h2 f2))
    clear h2 f2
    clear HQ
    obtain ⟨w3, e3, m3, f3, b3, zq3⟩ := M2.out.tok_ (1) ts tn ln nl
    have z3 : w2.heap.size < w3.heap.size := by omega
    clear zq3
    have M3 := Lib.hid (And.intro m3 (b3))
    have hl3 := heap_lt b3
    clear m3 f3 b3
    obtain ⟨c0, c1, c2, c3⟩ := M3.out.1.rd.cells
    have d1 : (st.e != 0) = false := by simpa using HE.out
    rw [HE.out] at c2
    obtain ⟨t0, t1, t2, t3, t4⟩ := (box_facts M3.out.2).1
    obtain ⟨w4, e4, m4, f4, b4, zq4⟩ := M3.out.1.box_ (.int .i64 0) (.string ⟨#[]⟩) (.int .i64 0) (.slice none 0 0) (.int .i64 ln)
    have z4 : w3.heap.size < w4.heap.size := by omega
    clear zq4
    have M4 := Lib.hid (And.intro m4 (And.intro (blk_fr M3.out.2 f4 (by omega)) (b4)))
    clear m4 f4 b4
    obtain ⟨t0, t1, t2, t3, t4⟩ := (box_facts M4.out.2.1).1
    obtain ⟨x0, x1, x2, x3, x4⟩ := M4.out.2.2.cells
    obtain ⟨q0, q1, q2, q3, q4⟩ := M4.out.2.2.thaw
    obtain ⟨w5, e5⟩ : ∃ W, w4.setCell ⟨w3.heap.size, 0, none⟩ (.int .i64 1) = W := ⟨_, rfl⟩
    have m5 := M4.out.1.set (B := w3.heap.size) (by omega) 0 (.int .i64 1)
    have i5_0 := blk_away (B' := w3.heap.size) M4.out.2.1 (by omega) 0 (.int .i64 1)
    have i5_1 := M4.out.2.2.put0 (.int .i64 1)
    have z5 : w4.heap.size ≤ w5.heap.size := by rw [← e5]; simp
    rw [e5] at m5 i5_0 i5_1
    have M5 := Lib.hid (And.intro m5 (And.intro i5_0 (i5_1)))
    clear m5 i5_0 i5_1
    obtain ⟨t0, t1, t2, t3, t4⟩ := (box_facts M5.out.2.1).1
    obtain ⟨x0, x1, x2, x3, x4⟩ := M5.out.2.2.cells
    obtain ⟨q0, q1, q2, q3, q4⟩ := M5.out.2.2.thaw
    obtain ⟨w6, e6⟩ : ∃ W, w5.setCell ⟨w3.heap.size, 1, none⟩ (.string (bs ts)) = W := ⟨_, rfl⟩
    have m6 := M5.out.1.set (B := w3.heap.size) (by omega) 1 (.string (bs ts))
    have i6_0 := blk_away (B' := w3.heap.size) M5.out.2.1 (by omega) 1 (.string (bs ts))
    have i6_1 := M5.out.2.2.put1 (.string (bs ts))
    have z6 : w5.heap.size ≤ w6.heap.size := by rw [← e6]; simp
    rw [e6] at m6 i6_0 i6_1
    have M6 := Lib.hid (And.intro m6 (And.intro i6_0 (i6_1)))
    clear m6 i6_0 i6_1
    obtain ⟨t0, t1, t2, t3, t4⟩ := (box_facts M6.out.2.1).1
    obtain ⟨x0, x1, x2, x3, x4⟩ := M6.out.2.2.cells
    obtain ⟨q0, q1, q2, q3, q4⟩ := M6.out.2.2.thaw
    obtain ⟨c0, c1, c2, c3⟩ := M6.out.1.rd.cells
    have fR1 := M6.out.1.rd.thaw 1
    have hw := wrap_next hps.out M6.out.1.rd.len
    obtain ⟨w7, e7, h7, f7⟩ := M6.out.1.next_ hps.out
    have z7 := f7.size
    have M7 := Lib.hid (And.intro (M6.out.1.call h7 f7) (And.intro (blk_fr M6.out.2.1 f7 (by omega)) (M6.out.2.2.fr f7 (by omega))))
    clear h7 f7
    obtain ⟨x0, x1, x2, x3, x4⟩ := M7.out.2.2.cells
    obtain ⟨⟨y0, y1, y2, y3, y4⟩, g0, g1, g2, g3, g4⟩ := M7.out.1.facts
    go_wp2
    exact M7.out.1.gives' 2 (TreeAt.leaf (o := 1) (k := 0) (i := ln) (s := ts) _ (fine_s htl.1 (by omega))) rfl rfl rfl
  ·rw [if_neg k1] at hr
   clear hpz
   by_cases ho2 : kd = 5 ∧ ts = [123]
   ·rw [if_pos ho2] at hr
    obtain ⟨rfl, ho2⟩ := ho2
    clear k1
    have q1 : ((bs ts).toList == [40]) = false := by rw [bs_eq, ho2]; decide
    have q2 : ((bs ts).toList == [123]) = true := by rw [bs_eq]; simpa using ho2
    have H1 := Lib.hid (ih (.object ln []) _ _ _ hr rfl st rfl (by rw [ht]))
    clear hr ho2
    go_enter Tryz.func155, Tryz.ntmps155
    have HQ0 := tok_any 0 W1 M0.out.rd (by omega)
    rw [ht] at HQ0
    unfold tokV at HQ0
    have HQ := Lib.hid HQ0
    clear HQ0
    go_wp2_with fail
    go_at_call 89
    refine (HQ.out).mono ?_
    rintro e w2 ⟨rfl, hb⟩
    have f2 := Fr.of_below (R := R) hb (Nat.le_refl _)
    have h2 := M0.out.rd.below hb M0.out.rd.lt
    have z2 := f2.size
    clear hb
    have M2 := Lib.hid ((M0.out.call h2 f2))
    clear h2 f2
    clear HQ
    obtain ⟨w3, e3, m3, f3, b3, zq3⟩ := M2.out.tok_ (5) ts tn ln nl
    have z3 : w2.heap.size < w3.heap.size := by omega
    clear zq3
    have M3 := Lib.hid (And.intro m3 (b3))
    have hl3 := heap_lt b3
    clear m3 f3 b3
    obtain ⟨c0, c1, c2, c3⟩ := M3.out.1.rd.cells
    have d1 : (st.e != 0) = false := by simpa using HE.out
    rw [HE.out] at c2
    obtain ⟨t0, t1, t2, t3, t4⟩ := (box_facts M3.out.2).1
    obtain ⟨w4, e4, m4, f4, b4, zq4⟩ := M3.out.1.box_ (.int .i64 0) (.string ⟨#[]⟩) (.int .i64 0) (.slice none 0 0) (.int .i64 ln)
    have z4 : w3.heap.size < w4.heap.size := by omega
    clear zq4
    have M4 := Lib.hid (And.intro m4 (And.intro (blk_fr M3.out.2 f4 (by omega)) (b4)))
    clear m4 f4 b4
    obtain ⟨t0, t1, t2, t3, t4⟩ := (box_facts M4.out.2.1).1
    obtain ⟨x0, x1, x2, x3, x4⟩ := M4.out.2.2.cells
    obtain ⟨q0, q1, q2, q3, q4⟩ := M4.out.2.2.thaw
    go_wp2_with fail
    go_at_call 158
    refine (H1.out w4 M4.out.1.rd).mono ?_
    rintro e w5 ⟨v5, rfl, h5, f5, t5⟩
    obtain ⟨A5, c5, rfl, -, -⟩ := t5.form
    have z5 := f5.size
    have M5 := Lib.hid (And.intro (M4.out.1.call h5 f5) (And.intro (blk_fr M4.out.2.1 f5 (by omega)) (And.intro (M4.out.2.2.fr f5 (by omega)) (t5.af (B := w.heap.size) (by omega)))))
    clear h5 f5 t5
    obtain ⟨⟨y0, y1, y2, y3, y4⟩, g0, g1, g2, g3, g4⟩ := M5.out.1.facts
    go_wp2
    exact M5.out.1.gives' 2 M5.out.2.2.2 rfl rfl rfl
   ·rw [if_neg ho2] at hr
    cases hr
 ·rw [if_pos he] at hr
  cases hr
end
end
section
open Go.RowKit Go.Proofs
section
variable {R cp : Nat} {A : Option Addr} {L : List Tok}
theorem all_upto : ∀ (F : Nat), F ≤ 2000001 → ∀ F', F' ≤ F → All R A cp L F'
 | 0, _, F', hF' => by
  obtain rfl : F' = 0 := by omega
  intro m st l st1 hr
  cases hr
 | F + 1, hF, F', hF' => by
  have ihs := all_upto F (by omega)
  by_cases hlt : F' ≤ F
  ·exact ihs F' hlt
  obtain rfl : F' = F + 1 := by omega
  have ih := ihs F (Nat.le_refl _)
  have hF2 : F ≤ 2000000 := by omega
  intro m st l st1 hr
  cases m with
  | block => cases hr
  | stmts acc =>
   cases acc with
   | nil => exact stmts_ok ihs hF2 l st1 hr
   | cons a r => intro h; cases h
  | within => cases hr
  | params acc more => trivial
  | rest => cases hr
  | head => cases hr
  | stmt => exact stmt_ok ih l st1 hr
  | worded line s => exact worded_ok ih line s l st1 hr
  | expr => exact expr_ok ih l st1 hr
  | cond => exact cond_ok ih l st1 hr
  | chain k =>
   by_cases h6 : k < 6
   ·exact chain_ok ihs k h6 l st1 hr
   ·by_cases e : k = 6
    ·subst e
     exact chain_six ih l st1 hr
    ·intro h; omega
  | chainL k x => trivial
  | signed => exact signed_ok ih hF2 l st1 hr
  | args acc more => cases hr
  | parts x calls => exact parts_ok ihs hF2 x calls l st1 hr
  | thing => exact thing_ok ih l st1 hr
  | object line acc => exact object_ok ihs hF2 line acc l st1 hr
theorem rd_all (F : Nat) (hF : F ≤ 2000001) : All R A cp L F := all_upto F hF F (Nat.le_refl _)
end
end
end Go.Proofs.YtikbfoichhkeaaaGreat
