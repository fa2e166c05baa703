/- The document's reader: block. The document's reader: signs, num, closed. The document's reader: chain. The document's reader: expr. -/
import Derived.Deep.LoopGhost
import Derived.Deep.RegionHeldLaw
import Derived.Deep.DeepCutAuto
import Derived.Test.YtbpodijcndglgaaPn34
set_option linter.unusedSimpArgs false
set_option linter.unusedVariables false
set_option maxRecDepth 100000
set_option maxHeartbeats 40000000
namespace Go.Proofs.Ytbpodijcndglgaa
section
open Go.RowKit Go.Proofs
section
variable {R cp : Nat} {A : Option Addr} {L : List Tok} {st : St} {F : Nat}
theorem block_ok (ih : All R A cp L F) (l : List Tr) (st1 : St) (hr : run L (F + 1) .block st = some (l, st1)) : Spec R A cp L .block st l st1 := by
 intro w h
 rw [run] at hr
 dsimp only at hr
 cases e1 : run L F (.stmts []) (mustR L st [123]) with
 | none => rw [e1] at hr; cases hr
 | some x =>
 obtain ⟨x, s2⟩ := x
 rw [e1] at hr
 obtain ⟨rfl, rfl⟩ : [Tr.mk 32 [] 0 (tokR L st 0).line x] = l ∧ mustR L s2 [125] = st1 := by simpa [one] using hr
 have m0 := Mid.start h
 obtain ⟨W1, eW1⟩ : ∃ W, w.alloc (.cells #[.int .i64 0, .string ⟨#[]⟩, .int .i64 0, .slice none 0 0, .int .i64 0] 24) = W := ⟨_, rfl⟩
 rw [eW1] at m0
 have M0 := Lib.hid m0
 have hR := h.lt
 have HT := tok_any 0 W1 m0.rd (by omega)
 cases ht : tokR L st 0 with | mk kd ts tn ln nl =>
 rw [ht] at HT
 unfold tokV at HT
 have HC := Lib.hid HT
 have H2 := Lib.hid (ih (.stmts []) _ _ _ e1 rfl)
 clear h m0 hr e1 HT ht
 go_enter Try.func63, Try.ntmps63
 go_wp2_with fail
 go_at_call 46
 refine (HC.out).mono ?_
 rintro e w1 ⟨rfl, hb⟩
 obtain ⟨W2, eW2, m2, f2, b2, z2⟩ := (M0.out.below hb (Nat.le_refl _)).box_ (.int .i64 32) (.string ⟨#[]⟩) (.int .i64 0) (.slice none 0 0) (.int .i64 ln)
 have hz1 := (M0.out.below hb (Nat.le_refl _)).gt
 have fl := tok_line kd ts tn ln nl w1
 have H1 := Lib.hid (must_any [123] ⟨#[123]⟩ rfl _ m2.rd)
 have M2 := Lib.hid (And.intro m2 b2)
 clear hb m2 f2 b2
 go_wp2_with fail
 go_at_call 80
 refine (H1.out).mono ?_
 rintro e w3 ⟨rfl, h3, f3⟩
 have m3 := M2.out.1.call h3 f3
 have b3 := M2.out.2.fr f3 (by omega)
 have M3 := Lib.hid (And.intro m3 b3)
 clear h3 f3 m3 b3
 go_wp2_with fail
 go_at_call 35
 refine (H2.out w3 M3.out.1.rd).mono ?_
 rintro e w4 ⟨v, rfl, h4, f4, t4⟩
 have m4 := M3.out.1.call h4 f4
 have b4 := M3.out.2.fr f4 (by omega)
 have r4 := t4.af (B := w1.heap.size) (by have := heap_lt M3.out.2; exact this)
 obtain ⟨A2, c2, rfl, hl2, hc2⟩ := t4.slice
 obtain ⟨x0, x1, x2, x3, x4⟩ := b4.cells
 obtain ⟨q0, q1, q2, q3, q4⟩ := b4.thaw
 have M4 := Lib.hid (And.intro m4 (And.intro b4 r4))
 clear h4 f4 t4 m4 b4 r4
 go_wp2_with fail
 have m5 := M4.out.1.set (B := w1.heap.size) (by omega) 3 (.slice A2 x.length c2)
 have b5 := M4.out.2.1.put3 (.slice A2 x.length c2)
 have r5 := M4.out.2.2.set 3 (.slice A2 x.length c2)
 have H5 := Lib.hid (must_any [125] ⟨#[125]⟩ rfl _ m5.rd)
 have M5 := Lib.hid (And.intro m5 (And.intro b5 r5))
 clear m5 b5 r5
 go_at_call 80
 refine (H5.out).mono ?_
 rintro e w6 ⟨rfl, h6, f6⟩
 have m6 := M5.out.1.call h6 f6
 have b6 := M5.out.2.1.fr f6 (by omega)
 have r6 := (M5.out.2.2.up f6 (by omega)).lower (Nat.le_of_lt hz1)
 obtain ⟨⟨y0, y1, y2, y3, y4⟩, g0, g1, g2, g3, g4⟩ := m6.facts
 obtain ⟨o0, o1, o2, o3, o4⟩ := b6.cells
 have M6 := Lib.hid (And.intro m6 (TreeAt.mk (o := 32) (k := 0) (i := ln) (s := []) r6 ⟨by simp, by omega, by omega⟩))
 clear h6 f6 m6 r6 b6
 go_wp2
 exact M6.out.1.gives' 2 M6.out.2 rfl rfl rfl
end
end
section
open Go.RowKit Go.Proofs
section
variable {R cp : Nat} {A : Option Addr} {L : List Tok} {st : St} {F : Nat}
theorem signs_any (k : Nat) (hk : k ≤ 5) (w : World) : Calls Try.prog 100 #[.int .i64 k] w fun e w' => ∃ g, e = .returned (.slice (some ⟨g, 0, none⟩) (signsR k).length (signsR k).length) ∧ (∀ i s, (signsR k)[i]? = some s → w'.cell? ⟨g, i, none⟩ = some (.string (bs s))) ∧ w.heap.size ≤ g ∧ g < w'.heap.size ∧ Below w.heap.size w w' := by
  have one_ : ∀ s : ByteArray, w.heap.size < (w.alloc (.cells #[.string s] 9)).heap.size := fun s => by simp
  have fin1 : ∀ (s : Bs), (∀ (i : Nat) (t : Bs), [s][i]? = some t → (w.alloc (.cells #[.string (bs s)] 9)).cell? ⟨w.heap.size, i, none⟩ = some (.string (bs t))) := fun s i t h => by
    match i, h with
    | 0, h => obtain rfl : s = t := by simpa using h
              exact wcell_alloc _ _ _ _ _ rfl
    | i + 1, h => simp at h
  have fin2 : ∀ (s u : Bs), (∀ (i : Nat) (t : Bs), [s, u][i]? = some t → (w.alloc (.cells #[.string (bs s), .string (bs u)] 9)).cell? ⟨w.heap.size, i, none⟩ = some (.string (bs t))) := fun s u i t h => by
    match i, h with
    | 0, h => obtain rfl : s = t := by simpa using h
              exact wcell_alloc _ _ _ _ _ rfl
    | 1, h => obtain rfl : u = t := by simpa using h
              exact wcell_alloc _ _ _ _ _ rfl
    | i + 2, h => simp at h
  have hb : ∀ o, Below w.heap.size w (w.alloc o) := fun o => (Below.refl _ w).alloc (Nat.le_refl _) _
  have F1 := Lib.hid fin1
  have F2 := Lib.hid fin2
  have HB := Lib.hid (And.intro hb one_)
  clear fin1 fin2 hb one_
  match k, hk with
  | 0, _ =>
    go_enter Try.func100, Try.ntmps100
    go_wp2
    go_ret
    exact ⟨_, rfl, F1.out [124, 124], Nat.le_refl _, by simp, HB.out.1 _⟩
  | 1, _ =>
    go_enter Try.func100, Try.ntmps100
    go_wp2
    go_ret
    exact ⟨_, rfl, F1.out [38, 38], Nat.le_refl _, by simp, HB.out.1 _⟩
  | 2, _ =>
    go_enter Try.func100, Try.ntmps100
    go_wp2
    go_ret
    exact ⟨_, rfl, F2.out [61, 61, 61] [33, 61, 61], Nat.le_refl _, by simp, HB.out.1 _⟩
  | 3, _ =>
    go_enter Try.func100, Try.ntmps100
    go_wp2
    go_ret
    exact ⟨_, rfl, F2.out [60] [60, 61], Nat.le_refl _, by simp, HB.out.1 _⟩
  | 4, _ =>
    go_enter Try.func100, Try.ntmps100
    go_wp2
    go_ret
    exact ⟨_, rfl, F2.out [43] [45], Nat.le_refl _, by simp, HB.out.1 _⟩
  | 5, _ =>
    go_enter Try.func100, Try.ntmps100
    go_wp2
    go_ret
    exact ⟨_, rfl, F1.out [42], Nat.le_refl _, by simp, HB.out.1 _⟩
  | n + 6, h => omega
end
end
section
open Go.RowKit Go.Proofs
section
variable {R cp : Nat} {A : Option Addr} {L : List Tok} {st : St} {F : Nat}
theorem firstSign_none {s' : St} {k : Nat} : firstSign L s' k = none ↔ ∀ x ∈ signsR k, isR L s' x = false := by
 unfold firstSign
 rw [List.find?_eq_none]
 simp
theorem firstSign_at {s' : St} {k : Nat} {x : Bs} (h : firstSign L s' k = some x) : ∃ i : Nat, (signsR k)[i]? = some x ∧ isR L s' x = true ∧ ∀ (j : Nat) (y : Bs), j < i → (signsR k)[j]? = some y → isR L s' y = false := by
 unfold firstSign at h
 rw [List.find?_eq_some_iff_getElem] at h
 obtain ⟨h1, i, hi, h2, h3⟩ := h
 refine ⟨i, by rw [List.getElem?_eq_getElem hi, h2], h1, fun j y hj hy => ?_⟩
 have := h3 j hj
 obtain ⟨hj', rfl⟩ := List.getElem?_eq_some_iff.1 hy
 simpa using this
theorem signs_ne {k : Nat} {x : Bs} (h : x ∈ signsR k) : x ≠ [] ∧ x.length ≤ 3 := by
 rcases k with _ | _ | _ | _ | _ | k <;> simp [signsR] at h <;> first | (subst h; simp) | (rcases h with rfl | rfl <;> simp)
theorem signs_le (k : Nat) : 1 ≤ (signsR k).length ∧ (signsR k).length ≤ 2 := by
 unfold signsR
 split <;> simp
theorem chain_six (ih : All R A cp L F) (l : List Tr) (st1 : St) (hr : run L (F + 1) (.chain 6) st = some (l, st1)) : Spec R A cp L (.chain 6) st l st1 := by
 intro _ w h
 rw [run] at hr
 have e1 : run L F .signed st = some (l, st1) := by simpa using hr
 have H1 := Lib.hid (ih .signed _ _ _ e1)
 clear hr e1
 have m0 := Mid.start h
 obtain ⟨W1, eW1⟩ : ∃ W, w.alloc (.cells #[.int .i64 0, .string ⟨#[]⟩, .int .i64 0, .slice none 0 0, .int .i64 0] 24) = W := ⟨_, rfl⟩
 rw [eW1] at m0
 have hz0 := m0.gt
 have M0 := Lib.hid m0
 have hR := h.lt
 clear h m0
 go_enter Try.func96, Try.ntmps96
 go_wp2_with fail
 go_at_call 99
 refine (H1.out W1 M0.out.rd).mono ?_
 rintro e w2 ⟨v2, rfl, h2, f2, t2⟩
 obtain ⟨A2, c2, rfl, -, -⟩ := t2.form
 have z2 := f2.size
 have M2 := Lib.hid (And.intro (M0.out.call h2 f2) (t2.af (B := w.heap.size) (by omega)))
 clear h2 f2 t2
 obtain ⟨⟨y0, y1, y2, y3, y4⟩, g0, g1, g2, g3, g4⟩ := M2.out.1.facts
 go_wp2
 exact M2.out.1.gives' 4 M2.out.2 rfl rfl rfl
theorem chain_ok (ihs : ∀ F', F' ≤ F → All R A cp L F') (k : Nat) (hk6 : k < 6) (l : List Tr) (st1 : St) (hr : run L (F + 1) (.chain k) st = some (l, st1)) : Spec R A cp L (.chain k) st l st1 := by
 intro _ w h
 rw [run] at hr
 rw [if_neg (show ¬ k = 6 by omega)] at hr
 cases e1 : run L F (.chain (k + 1)) st with
 | none => rw [e1] at hr; cases hr
 | some x0 =>
 obtain ⟨x0, s2⟩ := x0
 rw [e1] at hr
 have hr : run L F (.chainL k (hd x0)) s2 = some (l, st1) := hr
 have H1 := Lib.hid (ihs F (Nat.le_refl _) (.chain (k + 1)) _ _ _ e1 (by omega))
 have hk7 : ((k : Int) == 6) = false := by simp; omega
 have hwk : IntKind.i64.wrap ((k : Int) + 1) = ((k + 1 : Nat) : Int) := by rw [IntWalk.i64_in _ (by omega)]; omega
 clear e1
 have m0 := Mid.start h
 obtain ⟨W1, eW1⟩ : ∃ W, w.alloc (.cells #[.int .i64 0, .string ⟨#[]⟩, .int .i64 0, .slice none 0 0, .int .i64 0] 24) = W := ⟨_, rfl⟩
 rw [eW1] at m0
 have hz0 := m0.gt
 have M0 := Lib.hid m0
 have hR := h.lt
 clear h m0
 have HR0 := Lib.hid hr
 clear hr
 go_enter Try.func96, Try.ntmps96
 go_wp2_with fail
 go_at_call 96
 refine (H1.out W1 M0.out.rd).mono ?_
 rintro e w2 ⟨v2, rfl, h2, f2, t2⟩
 obtain ⟨A2, c2, rfl, -, -⟩ := t2.form
 have z2 := f2.size
 obtain ⟨w3, e3, m3, f3, b3, zq3⟩ := (M0.out.call h2 f2).box_ (.int .i64 (hd x0).op) (.string (bs (hd x0).s)) (.int .i64 (hd x0).n) (.slice A2 (hd x0).l.length c2) (.int .i64 (hd x0).line)
 have z3 : w2.heap.size < w3.heap.size := by omega
 clear zq3
 have M3 := Lib.hid (And.intro m3 (And.intro b3 (((t2.af (B := w.heap.size) (by omega)).x_before (Nat.le_refl _)).upx f3 (by omega))))
 clear h2 f2 t2 m3 f3 b3
 obtain ⟨B, hB⟩ : ∃ B, w2.heap.size = B := ⟨_, rfl⟩
 have M4 := Lib.hid (show Mid R A cp L w w3 s2 ∧ Bx w3 B (.int .i64 (hd x0).op) (.string (bs (hd x0).s)) (.int .i64 (hd x0).n) (.slice A2 (hd x0).l.length c2) (.int .i64 (hd x0).line) ∧ TreeAt w3 (AfX w.heap.size B w3) (hd x0) (.agg #[.int .i64 (hd x0).op, .string (bs (hd x0).s), .int .i64 (hd x0).n, .slice A2 (hd x0).l.length c2, .int .i64 (hd x0).line]) from by
  rw [← hB]
  exact ⟨M3.out.1, M3.out.2.1, M3.out.2.2⟩)
 have hBw : w.heap.size < B := by omega
 have hB3 : B < w3.heap.size := by omega
 clear M3 M0
 go_wp2
 go_loopg [] F (fun gn wr => ∃ (x : Tr) (s' : St) (Ax : Option Addr) (cx : Nat), RowKit.Hid (run L gn (.chainL k x) s' = some (l, st1) ∧ gn ≤ F ∧ Mid R A cp L w wr s' ∧ Bx wr B (.int .i64 x.op) (.string (bs x.s)) (.int .i64 x.n) (.slice Ax x.l.length cx) (.int .i64 x.line) ∧ TreeAt wr (AfX w.heap.size B wr) x (.agg #[.int .i64 x.op, .string (bs x.s), .int .i64 x.n, .slice Ax x.l.length cx, .int .i64 x.line]) ∧ B < wr.heap.size))
 case atStart => exact ⟨hd x0, s2, A2, c2, Lib.hid ⟨HR0.out, Nat.le_refl _, M4.out.1, M4.out.2.1, M4.out.2.2, hB3⟩⟩
 case round =>
  obtain ⟨x, s', Ax, cx, HH⟩ := hrel
  obtain ⟨hrun, hgn, hm, hbx, htx, hBr⟩ := HH.out
  obtain ⟨W0, hW0⟩ : ∃ x, x = wr := ⟨_, rfl⟩
  subst hW0
  have hz1 := hm.gt
  obtain ⟨c0, c1, c2', c3⟩ := hm.rd.cells
  obtain ⟨x0', x1', x2', x3', x4'⟩ := hbx.cells
  have MR := Lib.hid (And.intro hm (And.intro hbx htx))
  have hsl := signs_le k
  clear HH hm hbx htx HR0 M4
  cases gk with
  | zero => simp [run] at hrun
  | succ G =>
  rw [run] at hrun
  by_cases he : s'.e = 0
  ·rw [he] at c2'
   have d1 : (s'.e == 0) = true := by simpa using he
   rw [if_pos he] at hrun
   have HQ := Lib.hid (signs_any k (by omega) W0)
   have HRu := Lib.hid (And.intro hrun he)
   clear he hrun
   go_wp2_with fail
   go_at_call 100
   refine (HQ.out).mono ?_
   rintro e w4 ⟨g, rfl, hl4, hg1, hg2, hb4⟩
   have f4 := Fr.of_below (R := R) hb4 (Nat.le_refl _)
   have M5 := Lib.hid (And.intro (MR.out.1.call (MR.out.1.rd.below hb4 MR.out.1.rd.lt) f4) (And.intro (MR.out.2.1.fr f4 (by omega)) (MR.out.2.2.upx f4 (by omega))))
   have HS := Lib.hid (And.intro hl4 (And.intro hg1 hg2))
   have z4 := f4.size
   obtain ⟨n, hn⟩ : ∃ n, (signsR k).length = n := ⟨_, rfl⟩
   rw [hn] at hsl ⊢
   have HNl := Lib.hid hn
   clear hb4 f4 hl4 HQ hn
   go_wp2
   go_loopw [6, 8] (fun sv i wr => ∃ (q : Nat) (S : Option Bs) (s'' : St), i = .int .i64 q ∧ q ≤ n ∧ sv = .string (bs (S.getD [])) ∧ RowKit.Hid ((S = none → s'' = s' ∧ ∀ (j : Nat) (y : Bs), j < q → (signsR k)[j]? = some y → isR L s' y = false) ∧ (∀ z, S = some z → firstSign L s' k = some z ∧ s'' = s'.next) ∧ Mid R A cp L w wr s'' ∧ Bx wr B (.int .i64 x.op) (.string (bs x.s)) (.int .i64 x.n) (.slice Ax x.l.length cx) (.int .i64 x.line) ∧ TreeAt wr (AfX w.heap.size B wr) x (.agg #[.int .i64 x.op, .string (bs x.s), .int .i64 x.n, .slice Ax x.l.length cx, .int .i64 x.line]) ∧
    (∀ i s, (signsR k)[i]? = some s → wr.cell? ⟨g, i, none⟩ = some (.string (bs s))) ∧ w4.heap.size ≤ wr.heap.size)) (fun _ i _ => n - (intOf i).toNat)
   case atStart => exact ⟨0, none, s', rfl, by omega, rfl, Lib.hid ⟨fun _ => ⟨rfl, fun j y hj => by omega⟩, fun z hz => (by cases hz), M5.out.1, M5.out.2.1, M5.out.2.2, HS.out.1, Nat.le_refl _⟩⟩
   case round =>
    obtain ⟨q, S, s'', rfl, hq, rfl, HI⟩ := hrel
    obtain ⟨W5, hW5⟩ : ∃ x, x = wr := ⟨_, rfl⟩
    subst hW5
    obtain ⟨hI1, hI2, hm, hbx, htx, hcg, hz5⟩ := HI.out
    cases S with
    | none =>
     obtain ⟨rfl, hno⟩ := hI1 rfl
     have q0 : ((bs ([] : Bs)).toList == []) = true := by rw [bs_eq]; decide
     dsimp only [Option.getD]
     by_cases hqn : q < n
     ·obtain ⟨z, hz⟩ : ∃ z, (signsR k)[q]? = some z := ⟨_, List.getElem?_eq_getElem (by rw [HNl.out]; exact hqn)⟩
      have cz := hcg q z hz
      have hqn' : (q : Int) < (n : Int) := by omega
      have hwq : IntKind.i64.wrap ((q : Int) + 1) = (q : Int) + 1 := IntWalk.i64_in _ (by omega)
      have HQ0 := take_any z (bs z) rfl W5 hm.rd
      have Hno := Lib.hid hno
      have Hz := Lib.hid hz
      have MI := Lib.hid (And.intro hm (And.intro hbx htx))
      have HCg := Lib.hid hcg
      have hRg : R < g := by have := HS.out.2.1; omega
      have hgl : g < W5.heap.size := by have := HS.out.2.2; omega
      clear hI1 hI2 hm hbx htx hcg HI hno hz
      cases ht : isR L s'' z with
      | true =>
       unfold takeR at HQ0
       rw [ht] at HQ0
       have HQ := Lib.hid HQ0
       clear HQ0
       go_wp2_with fail
       go_at_call 48
       refine (HQ.out).mono ?_
       rintro e w6 ⟨rfl, h6, f6⟩
       have h6 : RdAt w6 R A cp L s''.next := h6
       have z6 := f6.size
       have M6 := Lib.hid (And.intro (MI.out.1.call h6 f6) (And.intro (MI.out.2.1.fr f6 (by omega)) (MI.out.2.2.upx f6 (by omega))))
       have hcg6 : ∀ i s, (signsR k)[i]? = some s → w6.cell? ⟨g, i, none⟩ = some (.string (bs s)) := fun i s hi => (f6.cell hgl (by omega) i).trans (HCg.out i s hi)
       have cz6 := hcg6 q z Hz.out
       have HC6 := Lib.hid hcg6
       have HF := Lib.hid (show firstSign L s'' k = some z from by
        unfold firstSign
        rw [List.find?_eq_some_iff_getElem]
        obtain ⟨h1, h2⟩ := List.getElem?_eq_some_iff.1 Hz.out
        exact ⟨ht, q, h1, h2, fun j hj => by rw [Hno.out j _ hj (List.getElem?_eq_getElem _)]; rfl⟩)
       clear h6 f6 hcg6 ht
       go_wp2
       go_roundw
       case rel => exact ⟨q + 1, some z, _, by go_num, by omega, rfl, Lib.hid ⟨fun h => (by cases h), fun y hy => (by cases hy; exact ⟨HF.out, rfl⟩), M6.out.1, M6.out.2.1, M6.out.2.2, HC6.out, by omega⟩⟩
       case measure => simp [intOf]; omega
      | false =>
       unfold takeR at HQ0
       rw [ht] at HQ0
       have HQ := Lib.hid HQ0
       clear HQ0
       go_wp2_with fail
       go_at_call 48
       refine (HQ.out).mono ?_
       rintro e w6 ⟨rfl, h6, f6⟩
       have h6 : RdAt w6 R A cp L s'' := h6
       have z6 := f6.size
       have M6 := Lib.hid (And.intro (MI.out.1.call h6 f6) (And.intro (MI.out.2.1.fr f6 (by omega)) (MI.out.2.2.upx f6 (by omega))))
       have HC6 := Lib.hid (show ∀ i s, (signsR k)[i]? = some s → w6.cell? ⟨g, i, none⟩ = some (.string (bs s)) from fun i s hi => (f6.cell hgl (by omega) i).trans (HCg.out i s hi))
       have HF := Lib.hid (show ∀ (j : Nat) (y : Bs), j < q + 1 → (signsR k)[j]? = some y → isR L s'' y = false from fun j y hj hy => by
        by_cases hjq : j = q
        ·subst hjq
         rw [Hz.out] at hy
         cases hy
         exact ht
        ·exact Hno.out j y (by omega) hy)
       clear h6 f6 ht
       go_wp2
       go_roundw
       case rel => exact ⟨q + 1, none, _, by go_num, by omega, rfl, Lib.hid ⟨fun _ => ⟨rfl, HF.out⟩, fun y hy => (by cases hy), M6.out.1, M6.out.2.1, M6.out.2.2, HC6.out, by omega⟩⟩
       case measure => simp [intOf]; omega
     ·have hqn' : ¬ (q : Int) < (n : Int) := by omega
      have hfn : firstSign L s'' k = none := firstSign_none.2 fun y hy => by
       obtain ⟨j, hj, hjy⟩ := List.getElem_of_mem hy
       exact hno j y (by rw [HNl.out] at hj; omega) (by rw [List.getElem?_eq_getElem hj, hjy])
      obtain ⟨rfl, rfl⟩ : [x] = l ∧ s'' = st1 := by simpa [HRu.out.2, hfn, one] using HRu.out.1
      have MI := Lib.hid (And.intro hm (And.intro hbx htx))
      obtain ⟨⟨y0, y1, y2, y3, y4⟩, g0, g1, g2, g3, g4⟩ := hm.facts
      obtain ⟨x0, x1, x2, x3, x4⟩ := hbx.cells
      clear hI1 hI2 hm hbx htx hcg HI hno hfn
      go_wp2
      exact MI.out.1.gives' 4 MI.out.2.2.of_x rfl rfl rfl
    | some z =>
     obtain ⟨hfs, rfl⟩ := hI2 z rfl
     obtain ⟨i0, hi0, -, -⟩ := firstSign_at hfs
     obtain ⟨hz1', hz2'⟩ := signs_ne (List.mem_of_getElem? hi0)
     have qz : ((bs z).toList == []) = false := by rw [bs_eq]; simpa using hz1'
     have hrun := HRu.out.1
     by_cases hk2 : k < 2
     ·simp [hfs, hk2] at hrun
     cases e2 : run L G (.chain (k + 1)) s'.next with
     | none => simp [hfs, e2, hk2] at hrun
     | some yy =>
     obtain ⟨yy, s3⟩ := yy
     have HN := Lib.hid (show run L G (.chainL k (.mk 18 z 0 x.line [x, hd yy])) s3 = some (l, st1) by simpa [hfs, e2, hk2] using hrun)
     have H2 := Lib.hid (ihs G (by omega) (.chain (k + 1)) _ _ _ e2 (by omega))
     have MI := Lib.hid (And.intro hm (And.intro hbx htx))
     obtain ⟨x0, x1, x2, x3, x4⟩ := hbx.cells
     clear hI1 hI2 hm hbx htx hcg HI hfs hi0 hz1' hrun e2
     dsimp only [Option.getD]
     have dk0 : ((k : Int) == 0) = false := by simp; omega
     have dk1 : ((k : Int) == 1) = false := by simp; omega
     have hwk3 := H2.out
     go_wp2_with fail
     all_goals
      go_at_call 96
      refine (hwk3 W5 MI.out.1.rd).mono ?_
      rintro e w6 ⟨v6, rfl, h6, f6, t6⟩
      obtain ⟨A6, c6, rfl, -, -⟩ := t6.form
      have z6 := f6.size
      obtain ⟨w7, e7, m7, f7, b7, zq7⟩ := (MI.out.1.call h6 f6).box_ (.int .i64 (hd yy).op) (.string (bs (hd yy).s)) (.int .i64 (hd yy).n) (.slice A6 (hd yy).l.length c6) (.int .i64 (hd yy).line)
      have z7 : w6.heap.size < w7.heap.size := by omega
      clear zq7
      have bx7 := (MI.out.2.1.fr f6 (by omega)).fr f7 (by omega)
      have tx7 := (MI.out.2.2.upx f6 (by omega)).upx f7 (by omega)
      have ty7 := (((t6.af (B := B) (by omega)).up f7 (by omega)).x_behind (b := w.heap.size) (B := B) (by omega) (Nat.le_refl _))
      obtain ⟨w8, e8, m8, f8, b8, zq8⟩ := m7.arr #[.int .i64 x.op, .string (bs x.s), .int .i64 x.n, .slice Ax x.l.length cx, .int .i64 x.line, .int .i64 (hd yy).op, .string (bs (hd yy).s), .int .i64 (hd yy).n, .slice A6 (hd yy).l.length c6, .int .i64 (hd yy).line]
      have z8 : w7.heap.size < w8.heap.size := by omega
      clear zq8
      have tr8 := TreeAt.mk (o := 18) (k := 0) (i := x.line) (s := z) (RowAt.two (tx7.upx f8 (by omega)) (ty7.upx f8 (by omega)) b8 rfl (show AfX w.heap.size B w8 w7.heap.size from ⟨⟨by omega, by omega⟩, by omega⟩)) (fine_op (by omega) (by omega))
      obtain ⟨w9, e9, m9, f9, b9, zq9⟩ := m8.box_ (.int .i64 18) (.string (bs z)) (.int .i64 0) (.slice (some ⟨w7.heap.size, 0, none⟩) 2 2) (.int .i64 x.line)
      have z9 : w8.heap.size < w9.heap.size := by omega
      clear zq9
      have hb9 : Below w8.heap.size w8 w9 := by rw [← e9]; exact (Below.refl _ w8).alloc (Nat.le_refl _) _
      have bx9 := (bx7.fr f8 (by omega)).fr f9 (by omega)
      have tr9 := tr8.belowx hb9
      obtain ⟨p0, p1, p2, p3, p4⟩ := b7.cells
      obtain ⟨o0, o1, o2, o3, o4⟩ := bx7.cells
      obtain ⟨r0, r1, r2, r3, r4⟩ := b9.cells
      obtain ⟨o0, o1, o2, o3, o4⟩ := bx9.cells
      obtain ⟨q0, q1, q2, q3, q4⟩ := bx9.thaw
      have hsl2 := m9.gt
      have hB9 := heap_lt bx9
      have MF := Lib.hid (And.intro (m9.put5 hBw (.int .i64 18) (.string (bs z)) (.int .i64 0) (.slice (some ⟨w7.heap.size, 0, none⟩) 2 2) (.int .i64 x.line)) (And.intro (bx9.put5 (.int .i64 18) (.string (bs z)) (.int .i64 0) (.slice (some ⟨w7.heap.size, 0, none⟩) 2 2) (.int .i64 x.line)) (And.intro (tr9.put5x (.int .i64 18) (.string (bs z)) (.int .i64 0) (.slice (some ⟨w7.heap.size, 0, none⟩) 2 2) (.int .i64 x.line)) ((put5_only w9 B (.int .i64 18) (.string (bs z)) (.int .i64 0) (.slice (some ⟨w7.heap.size, 0, none⟩) 2 2) (.int .i64 x.line)).size))))
      clear h6 f6 t6 m7 f7 b7 bx7 tx7 ty7 m8 f8 b8 tr8 m9 f9 b9 bx9 tr9 hb9
      go_wp2
      go_roundg G
      case rel => exact ⟨.mk 18 z 0 x.line [x, hd yy], s3, some ⟨w7.heap.size, 0, none⟩, 2, Lib.hid ⟨HN.out, by omega, MF.out.1, MF.out.2.1, MF.out.2.2.1, Nat.lt_of_lt_of_le hB9 MF.out.2.2.2⟩⟩
      case measure => omega
  ·obtain ⟨rfl, rfl⟩ : [x] = l ∧ s' = st1 := by simpa [he, one] using hrun
   have d1 : (s'.e == 0) = false := by simpa using he
   obtain ⟨⟨y0, y1, y2, y3, y4⟩, g0, g1, g2, g3, g4⟩ := MR.out.1.facts
   clear hrun he
   go_wp2
   exact MR.out.1.gives' 4 MR.out.2.2.of_x rfl rfl rfl
end
end
section
open Go.RowKit Go.Proofs
section
variable {R cp : Nat} {A : Option Addr} {L : List Tok} {st : St} {F : Nat}
theorem expr_ok (ih : All R A cp L F) (l : List Tr) (st1 : St) (hr : run L (F + 1) .expr st = some (l, st1)) : Spec R A cp L .expr st l st1 := by
 intro w h
 rw [run] at hr
 dsimp only at hr
 cases hb : isR L st [40] with
 | true => rw [hb] at hr; cases hr
 | false =>
 cases e1 : run L F .cond st with
 | none => simp [hb, e1] at hr
 | some x =>
 obtain ⟨x, s2⟩ := x
 cases hq : isR L s2 [61] with
 | true => simp [hb, e1, hq] at hr
 | false =>
 obtain ⟨rfl, rfl⟩ : [hd x] = l ∧ s2 = st1 := by simpa [one, hb, e1, hq] using hr
 have H1 := Lib.hid (ih .cond _ _ _ e1)
 clear e1 hr
 have m0 := Mid.start h
 obtain ⟨W1, eW1⟩ : ∃ W, w.alloc (.cells #[.int .i64 0, .string ⟨#[]⟩, .int .i64 0, .slice none 0 0, .int .i64 0] 24) = W := ⟨_, rfl⟩
 rw [eW1] at m0
 have hz0 := m0.gt
 have M0 := Lib.hid m0
 have hR := h.lt
 clear h m0
 obtain ⟨op, hop⟩ : ∃ o, (hd x).op = o := ⟨_, rfl⟩
 have HOP := Lib.hid hop
 clear hop
 by_cases htg : op = 1 ∨ op = 13 ∨ op = 14
 ·have hf : (((hd x).op == 1) = true) ∨ (((hd x).op == 1) = false ∧ ((hd x).op == 13) = true) ∨ (((hd x).op == 1) = false ∧ ((hd x).op == 13) = false ∧ ((hd x).op == 14) = true) := by rw [HOP.out]; rcases htg with h | h | h <;> subst h <;> decide
  clear htg
  rcases hf with dk1 | ⟨dk1, dk13⟩ | ⟨dk1, dk13, dk14⟩
  all_goals
   go_enter Try.func65, Try.ntmps65
   have HQ0 := is_any [40] ⟨#[40]⟩ rfl W1 M0.out.rd
   rw [hb] at HQ0
   have HQ := Lib.hid HQ0
   clear HQ0
   go_wp2_with fail
   go_at_call 47
   refine (HQ.out).mono ?_
   rintro e w2 ⟨rfl, hb⟩
   have f2 := Fr.of_below (R := R) hb (Nat.le_refl _)
   have h2 := M0.out.rd.below hb M0.out.rd.lt
   have z2 := f2.size
   clear hb
   have M2 := Lib.hid ((M0.out.call h2 f2))
   clear h2 f2
   clear HQ
   obtain ⟨c0, c1, c2, c3⟩ := M2.out.rd.cells
   go_wp2_with fail
   go_at_call 86
   refine (H1.out w2 M2.out.rd).mono ?_
   rintro e w3 ⟨v3, rfl, h3, f3, t3⟩
   obtain ⟨A3, c3, rfl, -, -⟩ := t3.form
   have z3 := f3.size
   obtain ⟨w4, e4, m4, f4, b4, zq4⟩ := (M2.out.call h3 f3).box_ (.int .i64 (hd x).op) (.string (bs (hd x).s)) (.int .i64 (hd x).n) (.slice A3 (hd x).l.length c3) (.int .i64 (hd x).line)
   have z4 : w3.heap.size < w4.heap.size := by omega
   clear zq4
   have M4 := Lib.hid (And.intro m4 (And.intro ((t3.af (B := w.heap.size) (by omega)).up f4 (by omega)) (b4)))
   clear h3 f3 t3 m4 f4 b4
   obtain ⟨x0, x1, x2, x3, x4⟩ := M4.out.2.2.cells
   have HQ0 := take_any [61] ⟨#[61]⟩ rfl w4 M4.out.1.rd
   unfold takeR at HQ0
   rw [hq] at HQ0
   have HQ := Lib.hid HQ0
   clear HQ0
   go_wp2_with fail
   go_at_call 48
   refine (HQ.out).mono ?_
   rintro e w5 ⟨rfl, h5, f5⟩
   have h5 : RdAt w5 R A cp L (s2) := h5
   have z5 := f5.size
   have M5 := Lib.hid (And.intro (M4.out.1.call h5 f5) (And.intro (M4.out.2.1.up f5 (by omega)) (M4.out.2.2.fr f5 (by omega))))
   clear h5 f5
   clear HQ
   obtain ⟨x0, x1, x2, x3, x4⟩ := M5.out.2.2.cells
   obtain ⟨⟨y0, y1, y2, y3, y4⟩, g0, g1, g2, g3, g4⟩ := M5.out.1.facts
   go_wp2
   exact M5.out.1.gives' 2 M5.out.2.1 rfl rfl rfl
 ·have hf : ((hd x).op == 1) = false ∧ ((hd x).op == 13) = false ∧ ((hd x).op == 14) = false := by rw [HOP.out]; exact ⟨by simpa using fun h => htg (.inl h), by simpa using fun h => htg (.inr (.inl h)), by simpa using fun h => htg (.inr (.inr h))⟩
  obtain ⟨dk1, dk13, dk14⟩ := hf
  clear htg
  go_enter Try.func65, Try.ntmps65
  have HQ0 := is_any [40] ⟨#[40]⟩ rfl W1 M0.out.rd
  rw [hb] at HQ0
  have HQ := Lib.hid HQ0
  clear HQ0
  go_wp2_with fail
  go_at_call 47
  refine (HQ.out).mono ?_
  rintro e w2 ⟨rfl, hb⟩
  have f2 := Fr.of_below (R := R) hb (Nat.le_refl _)
  have h2 := M0.out.rd.below hb M0.out.rd.lt
  have z2 := f2.size
  clear hb
  have M2 := Lib.hid ((M0.out.call h2 f2))
  clear h2 f2
  clear HQ
  obtain ⟨c0, c1, c2, c3⟩ := M2.out.rd.cells
  go_wp2_with fail
  go_at_call 86
  refine (H1.out w2 M2.out.rd).mono ?_
  rintro e w3 ⟨v3, rfl, h3, f3, t3⟩
  obtain ⟨A3, c3, rfl, -, -⟩ := t3.form
  have z3 := f3.size
  obtain ⟨w4, e4, m4, f4, b4, zq4⟩ := (M2.out.call h3 f3).box_ (.int .i64 (hd x).op) (.string (bs (hd x).s)) (.int .i64 (hd x).n) (.slice A3 (hd x).l.length c3) (.int .i64 (hd x).line)
  have z4 : w3.heap.size < w4.heap.size := by omega
  clear zq4
  have M4 := Lib.hid (And.intro m4 (And.intro ((t3.af (B := w.heap.size) (by omega)).up f4 (by omega)) (b4)))
  clear h3 f3 t3 m4 f4 b4
  obtain ⟨x0, x1, x2, x3, x4⟩ := M4.out.2.2.cells
  obtain ⟨⟨y0, y1, y2, y3, y4⟩, g0, g1, g2, g3, g4⟩ := M4.out.1.facts
  go_wp2
  exact M4.out.1.gives' 2 M4.out.2.1 rfl rfl rfl
end
end
end Go.Proofs.Ytbpodijcndglgaa
