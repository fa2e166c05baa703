/- slices.Index of names. What the rules' methods share. What the rules methods go by. Two rules at once; one adding behind another. rules: construction. -/
import Derived.BigQuiet
import Derived.Deep.RegionHeld3
import Derived.Test.YtikbfoichhkeaaaGreatVm27
set_option linter.unusedSimpArgs false
set_option linter.unusedVariables false
set_option maxRecDepth 100000
set_option maxHeartbeats 40000000
namespace Go.Proofs.YtikbfoichhkeaaaGreat
section
open Go.RowKit Go.Proofs
theorem index_any {W : World} {A : Option Addr} {c : Nat} (l : List Bs) (s : Bs) (hl : l.length ≤ 100000) (hA : ∀ (j : Nat) (x : Bs), l[j]? = some x → ∃ b, A = some ⟨b, 0, none⟩ ∧ W.cell? ⟨b, j, none⟩ = some (.string (bs x))) :
  Calls Tryz.prog 107 #[.slice A l.length c, .string (bs s)] W fun e w' => e = .returned (.int .i64 (idxS l s)) ∧ Below W.heap.size W w' := by
 have HA := Lib.hid hA
 clear hA
 go_enter Tryz.func107, Tryz.ntmps107
 go_wp2
 go_loopw [8] (fun i wr => ∃ k : Nat, k ≤ l.length ∧ i = .int .i64 k ∧ W = wr ∧ ∀ j, j < k → l[j]? ≠ some s) (fun i _ => l.length - (intOf i).toNat)
 case atStart => exact ⟨0, Nat.zero_le _, rfl, rfl, fun j hj => by omega⟩
 case round =>
  obtain ⟨k, hk, rfl, rfl, hno⟩ := hrel
  by_cases hlt : k < l.length
  ·obtain ⟨x, hx⟩ : ∃ x, l[k]? = some x := ⟨_, List.getElem?_eq_getElem hlt⟩
   have g1 : (k : Int) < l.length := by omega
   obtain ⟨g, rfl, hg⟩ := HA.out k x hx
   have q1 : ((bs s).toList == (bs x).toList) = decide (s = x) := by
    rw [Lib.toList_data, Lib.toList_data, bs_list, bs_list, Bool.eq_iff_iff]
    simp
   by_cases hxs : s = x
   ·rw [decide_eq_true hxs] at q1
    have HF := Lib.hid (show idxS l s = (k : Int) by
     unfold idxS
     have e : l.idxOf? s = some k := by
      unfold List.idxOf?
      rw [List.findIdx?_eq_some_iff_getElem]
      refine ⟨hlt, ?_, fun j hj => ?_⟩
      ·have := (List.getElem?_eq_some_iff.1 hx).2
       rw [this, hxs]
       simp
      ·have h9 := hno j hj
       rw [List.getElem?_eq_getElem (by omega)] at h9
       simpa using fun e => h9 (by rw [e])
     rw [e])
    clear hno hx hxs
    go_wp2
    go_ret
    exact ⟨by rw [HF.out]; rfl, Below.refl _ _⟩
   ·rw [decide_eq_false hxs] at q1
    have HF := Lib.hid (show ∀ j, j < k + 1 → l[j]? ≠ some s from fun j hj => by
     by_cases hjk : j = k
     ·rw [hjk, hx]
      exact fun e => hxs (Option.some.inj e).symm
     ·exact hno j (by omega))
    clear hno hx hxs
    go_wp2
    go_roundw
    case rel => exact ⟨k + 1, by omega, by go_num, by first | rfl | trivial, HF.out⟩
    case measure => simp [intOf]; omega
  ·have g1 : ¬ (k : Int) < l.length := by omega
   have HF := Lib.hid (show idxS l s = -1 by
    unfold idxS
    have e : l.idxOf? s = none := by
     unfold List.idxOf?
     rw [List.findIdx?_eq_none_iff]
     intro x hx
     obtain ⟨j, hj⟩ := List.mem_iff_getElem?.1 hx
     have h9 := hno j (by have := (List.getElem?_eq_some_iff.1 hj).1; omega)
     rw [hj] at h9
     simpa using fun e => h9 (by rw [e])
    rw [e])
   clear hno
   go_wp2
   go_ret
   exact ⟨by rw [HF.out]; rfl, Below.refl _ _⟩
end
section
open Go.RowKit Go.Proofs
section
variable {W0 W w W' : World} {Mb fB : Nat} {X : Cx} {fv fsv rv : Value} {rs rs' : List Ru} {e : Ending}
theorem AddQ.pre (hM : MkAt W0 W Mb fB X fv fsv rv rs) (hb : Below W.heap.size W w) (h : AddQ W0 Mb fB X fv fsv w rv rs' e W') : AddQ W0 Mb fB X fv fsv W rv rs' e W' := by
 obtain ⟨h1, rv', h2, h3, h4⟩ := h
 exact ⟨h1, rv', h2, (Only.of_below hb).trans' h3, fun k hk => (h4 k hk).imp id fun h => Nat.le_trans hb.size h⟩
theorem AddQ.post (hM : MkAt W0 W Mb fB X fv fsv rv rs) {rv1 : Value} {W1 : World} (hM1 : MkAt W0 W1 Mb fB X fv fsv rv1 rs') (hon : Only (mkF Mb rv) W W1) (hn : ∀ k, rv1.ownBlock = some k → rv.ownBlock = some k ∨ W.heap.size ≤ k) {rs2 : List Ru} (h : AddQ W0 Mb fB X fv fsv W1 rv1 rs2 e W') : AddQ W0 Mb fB X fv fsv W rv rs2 e W' := by
 obtain ⟨h1, rv', h2, h3, h4⟩ := h
 refine ⟨h1, rv', h2, hon.trans (h3.mono fun i hi hf => ?_), fun k hk => ?_⟩
 ·rcases hf with hf | hf
  ·exact .inl (.inl hf)
  ·rcases hn i hf with h9 | h9
   ·exact .inl (.inr h9)
   ·exact .inr ⟨h9, hi⟩
 ·rcases h4 k hk with h | h
  ·exact hn k h
  ·exact .inr (Nat.le_trans hon.size h)
theorem add_one (hM : MkAt W0 W Mb fB X fv fsv rv rs) (hb : Below W.heap.size W w) (p : Pl9) (r : Ru) (u : Value) (hu : IntsF w (foot (Mb + 1) w rv) u r.l) (hs : r.s.length ≤ maxLen) (hr : rs.length ≤ 700000) :
  Calls Tryz.prog 104 #[.pointer (some ⟨Mb, 0, none⟩), .agg #[.int .i64 p.fn, .int .i64 p.th, .bool p.tg], .slice (some ⟨w.heap.size, 0, none⟩) 1 1] (w.alloc (.cells (ruV r u).toArray 44)) (AddQ W0 Mb fB X fv fsv W rv (rs ++ [r.at_ p.fn])) := by
 have hal := below_alloc9 w (.cells (ruV r u).toArray 44)
 have hbx := heap_alloc_new w (.cells (ruV r u).toArray 44)
 have hM1 := (hM.below hb).below hal
 have hlt := (hM.below hb).lt
 have hown := (hM.below hb).row.own
 have hf : ∀ i, foot (Mb + 1) w rv i → foot (Mb + 1) (w.alloc (.cells (ruV r u).toArray 44)) rv i := fun i hi => ⟨⟨hi.1.1, by rw [World.size_alloc]; have := hi.1.2; omega⟩, hi.2⟩
 have h := add_any hM1 p (l := [r]) (v := .slice (some ⟨w.heap.size, 0, none⟩) 1 1) ⟨w.heap.size, 1, rfl, ⟨⟨by omega, by rw [World.size_alloc]; omega⟩, fun h => by have := (hown _ h).2; omega⟩, Nat.le_refl _, by unfold maxLen; omega, fun i r' hi => by
  have hi0 : i = 0 := by have := (List.getElem?_eq_some_iff.1 hi).1; simp at this; omega
  subst hi0
  simp at hi
  subst hi
  exact ⟨ruV r u, ⟨u, rfl, hu.keep hf (fun i hi => hal.block i hi.1.2), hs⟩, fun j hj => by rw [Nat.zero_mul, Nat.zero_add, cell_of_row _ _ _ _ _ _ hbx]; simp⟩⟩ (by simp) (by simp; omega)
 refine h.mono fun e W' hq => ?_
 rw [List.map_singleton] at hq
 exact AddQ.pre hM (hb.trans (hal.mono hb.size)) hq
end
end
section
open Go.RowKit Go.Proofs
theorem alloc2 (W : World) (a b : Obj) : Below W.heap.size W ((W.alloc a).alloc b) ∧ ((W.alloc a).alloc b).heap[W.heap.size]? = some a ∧ ((W.alloc a).alloc b).heap[W.heap.size + 1]? = some b ∧ ((W.alloc a).alloc b).heap.size = W.heap.size + 2 := by
 have s1 : (W.alloc a).heap.size = W.heap.size + 1 := World.size_alloc _ _
 have b1 := below_alloc9 W a
 have b2 := below_alloc9 (W.alloc a) b
 have h1 := heap_alloc_new W a
 have h2 := heap_alloc_new (W.alloc a) b
 rw [s1] at h2
 exact ⟨b1.trans (b2.mono b1.size), (b2.block _ (by omega)).trans h1, h2, by rw [World.size_alloc, s1]⟩
theorem box3c {W : World} {b : Nat} {u0 u1 u2 : Value} {T : TypeId} (h : W.heap[b]? = some (.cells #[u0, u1, u2] T (0, 0))) : W.cell? ⟨b, 0, none⟩ = some u0 ∧ W.cell? ⟨b, 1, none⟩ = some u1 ∧ W.cell? ⟨b, 2, none⟩ = some u2 :=
 ⟨cell_of_row _ _ 0 _ _ _ h, cell_of_row _ _ 1 _ _ _ h, cell_of_row _ _ 2 _ _ _ h⟩
end
section
open Go.RowKit Go.Proofs
section
variable {W0 W w W' W1 W2 : World} {Mb fB : Nat} {X : Cx} {fv fsv rv rv1 : Value} {rs rs' rs2 : List Ru} {e : Ending}
theorem mk_only (hon : Only (mkF Mb rv) W W1) (hn : ∀ k, rv1.ownBlock = some k → rv.ownBlock = some k ∨ W.heap.size ≤ k) (h : Only (mkF Mb rv1) W1 W2) : Only (mkF Mb rv) W W2 :=
 hon.trans (h.mono fun i hi hf => by
  rcases hf with hf | hf
  ·exact .inl (.inl hf)
  ·rcases hn i hf with h9 | h9
   ·exact .inl (.inr h9)
   ·exact .inr ⟨h9, hi⟩)
theorem mk_new (hon : Only (mkF Mb rv) W W1) (hn : ∀ k, rv1.ownBlock = some k → rv.ownBlock = some k ∨ W.heap.size ≤ k) {rv2 : Value} (h : ∀ k, rv2.ownBlock = some k → rv1.ownBlock = some k ∨ W1.heap.size ≤ k) : ∀ k, rv2.ownBlock = some k → rv.ownBlock = some k ∨ W.heap.size ≤ k := fun k hk => by
 rcases h k hk with h | h
 ·exact hn k h
 ·exact .inr (Nat.le_trans hon.size h)
theorem add_two (hM : MkAt W0 W Mb fB X fv fsv rv rs) (hb : Below W.heap.size W w) (p : Pl9) (r r2 : Ru) (u u2 : Value) (hu : IntsF w (foot (Mb + 1) w rv) u r.l) (hu2 : IntsF w (foot (Mb + 1) w rv) u2 r2.l) (hs : r.s.length ≤ maxLen) (hs2 : r2.s.length ≤ maxLen) (hr : rs.length ≤ 700000) :
  Calls Tryz.prog 104 #[.pointer (some ⟨Mb, 0, none⟩), .agg #[.int .i64 p.fn, .int .i64 p.th, .bool p.tg], .slice (some ⟨w.heap.size, 0, none⟩) 2 2] (w.alloc (.cells (ruV r u ++ ruV r2 u2).toArray 44)) (AddQ W0 Mb fB X fv fsv W rv (rs ++ [r.at_ p.fn, r2.at_ p.fn])) := by
 have hal := below_alloc9 w (.cells (ruV r u ++ ruV r2 u2).toArray 44)
 have hbx := heap_alloc_new w (.cells (ruV r u ++ ruV r2 u2).toArray 44)
 have hM1 := (hM.below hb).below hal
 have hlt := (hM.below hb).lt
 have hown := (hM.below hb).row.own
 have hf : ∀ i, foot (Mb + 1) w rv i → foot (Mb + 1) (w.alloc (.cells (ruV r u ++ ruV r2 u2).toArray 44)) rv i := fun i hi => ⟨⟨hi.1.1, by rw [World.size_alloc]; have := hi.1.2; omega⟩, hi.2⟩
 have h := add_any hM1 p (l := [r, r2]) (v := .slice (some ⟨w.heap.size, 0, none⟩) 2 2) ⟨w.heap.size, 2, rfl, ⟨⟨by omega, by rw [World.size_alloc]; omega⟩, fun h => by have := (hown _ h).2; omega⟩, Nat.le_refl _, by unfold maxLen; omega, fun i r' hi => by
  have hi0 : i = 0 ∨ i = 1 := by have := (List.getElem?_eq_some_iff.1 hi).1; simp at this; omega
  rcases hi0 with rfl | rfl
  ·simp at hi
   subst hi
   exact ⟨ruV r u, ⟨u, rfl, hu.keep hf (fun i hi => hal.block i hi.1.2), hs⟩, fun j hj => by
    rw [Nat.zero_mul, Nat.zero_add, cell_of_row _ _ _ _ _ _ hbx, List.getElem?_toArray, List.getElem?_append_left (by simpa [ruV] using hj)]⟩
  ·simp at hi
   subst hi
   exact ⟨ruV r2 u2, ⟨u2, rfl, hu2.keep hf (fun i hi => hal.block i hi.1.2), hs2⟩, fun j hj => by
    rw [Nat.one_mul, cell_of_row _ _ _ _ _ _ hbx, List.getElem?_toArray, List.getElem?_append_right (by simp [ruV])]
    simp [ruV]⟩⟩ (by simp) (by simp; omega)
 refine h.mono fun e W' hq => ?_
 exact AddQ.pre hM (hb.trans (hal.mono hb.size)) hq
end
end
section
open Go.RowKit Go.Proofs
theorem m_construction {W0 W : World} {Mb fB : Nat} {X : Cx} {fv fsv rv : Value} {rs : List Ru} (hX : CxOK X) (hM : MkAt W0 W Mb fB X fv fsv rv rs) {S : Nat → Prop} {t : Tr} {k : Nat} {cs : List Value} (ht : NtP W S t k cs) (hS : ∀ i, S i → i < W.heap.size ∧ ¬ mkF Mb rv i)  (hn : 1 ≤ t.l.length) (pf pth : Int) (ptg : Bool) (hlnm : t.l.length ≤ 100000) (hr : rs.length ≤ 600000) :
  Calls Tryz.prog 70 #[.pointer (some ⟨Mb, 0, none⟩), .agg cs.toArray, .agg #[.int .i64 pf, .int .i64 pth, .bool ptg]] W (AddQ W0 Mb fB X fv fsv W rv (rs ++ [((⟨9, 0, partK t k 0, k, 0, pth, t.n, [], setsK (t.l.drop 1) (k + 1 + (t.part 0).size)⟩ : Ru)).at_ pf])) := by
 obtain ⟨A0, n0, c0, A, c, rfl, htc, hrow⟩ := (NtP_eq _ _ _ _ _).1 ht
 obtain ⟨gp, rfl, hgp, hNL⟩ := hrow (by omega)
 obtain ⟨ln, hln⟩ : ∃ x, t.l.length = x := ⟨_, rfl⟩
 have htc2 : ln ≤ c ∧ c ≤ 9223372036854775807 := by rw [← hln]; exact ⟨htc.1, htc.2.1⟩
 obtain ⟨htc3, htc4⟩ := htc2
 have gi0 : (0 : Int) < ln := by omega
 have gn0 : 0 < ln := by omega
 obtain ⟨q0, hq0⟩ : ∃ x, t.l[0]? = some x := ⟨_, List.getElem?_eq_getElem (by omega)⟩
 obtain ⟨cs0, hcs0, hcc0⟩ := NtL.get t.l (k + 1) gp 0 0 q0 hNL hq0
 obtain ⟨Aa0, na0, ca0, Bv0, bc0, rfl, hf0, hr0⟩ := (NtP_eq _ _ _ _ _).1 hcs0
 obtain ⟨ek0, hek0⟩ : ∃ x : Int, ((k + 1 + sizes (t.l.take 0) + q0.size : Nat) : Int) = x := ⟨_, rfl⟩
 obtain ⟨kp0, hkp0⟩ : ∃ x, partK t k 0 = x := ⟨_, rfl⟩
 rw [hek0, show ((k + 1 + sizes (t.l.take 0) : Nat) : Int) = kp0 from hkp0] at hcc0
 rw [hkp0]
 obtain ⟨ql0, hql0⟩ : ∃ x, q0.l.length = x := ⟨_, rfl⟩
 rw [hql0] at hcc0
 have ep0 := fun j (hj : j < 8) => hcc0 j hj
 simp only [Nat.zero_add] at ep0
 obtain ⟨ek, hek⟩ : ∃ x, k + t.size = x := ⟨_, rfl⟩
 rw [hek, hln]
 unfold ntV
 obtain ⟨hal, hb0, hb1, hz2⟩ := alloc2 W (.cells #[.int .i64 t.op, .string (bs t.s), .int .i64 t.n, .slice A0 n0 c0, .int .i64 t.line, .int .i64 k, .int .i64 ek, .slice (some ⟨gp, 0, none⟩) ln c] 92) (.cells #[.int .i64 pf, .int .i64 pth, .bool ptg] 94)
 obtain ⟨W2, e2⟩ : ∃ x, (W.alloc (.cells #[.int .i64 t.op, .string (bs t.s), .int .i64 t.n, .slice A0 n0 c0, .int .i64 t.line, .int .i64 k, .int .i64 ek, .slice (some ⟨gp, 0, none⟩) ln c] 92)).alloc (.cells #[.int .i64 pf, .int .i64 pth, .bool ptg] 94) = x := ⟨_, rfl⟩
 rw [e2] at hal hb0 hb1 hz2
 have hM2 := hM.below hal
 obtain ⟨N, eN⟩ : ∃ x, W.heap.size = x := ⟨_, rfl⟩
 rw [eN] at hb0 hb1 hz2
 have hnN : ∀ i, N ≤ i → ¬ mkF Mb rv i := fun i hi h => by
  rcases h with h | h
  ·have := hM.lt; omega
  ·have := (hM.row.own i h).2; omega
 have hSN : ∀ i, S i → i < W2.heap.size ∧ ¬ mkF Mb rv i ∧ W2.heap[i]? = W.heap[i]? := fun i hi => ⟨by have := (hS i hi).1; omega, (hS i hi).2, hal.block i (hS i hi).1⟩
 have hcell : ∀ w' rv' rs', MkAt W0 w' Mb fB X fv fsv rv' rs' → Only (mkF Mb rv) W2 w' → (w'.cell? ⟨N, 7, none⟩ = some (.slice (some ⟨gp, 0, none⟩) ln c) ∧ w'.cell? ⟨gp, 5, none⟩ = some (.int .i64 kp0) ∧ w'.cell? ⟨N, 5, none⟩ = some (.int .i64 k) ∧ w'.cell? ⟨N, 2, none⟩ = some (.int .i64 t.n) ∧ w'.cell? ⟨N + 1, 0, none⟩ = some (.int .i64 pf) ∧ w'.cell? ⟨N + 1, 1, none⟩ = some (.int .i64 pth) ∧ w'.cell? ⟨N + 1, 2, none⟩ = some (.bool ptg)) := fun w' rv' rs' hm hb => by
  have h0 := (box8 ((hb.block N (heap_lt hb0) (hnN N (Nat.le_refl _))).trans hb0)).1
  have h1 := box3c ((hb.block (N + 1) (heap_lt hb1) (hnN (N + 1) (by omega))).trans hb1)
  have hpc : ∀ g j v, S g → W.cell? ⟨g, j, none⟩ = some v → w'.cell? ⟨g, j, none⟩ = some v := fun g j v hg h => (cell_block ((hb.block g (hSN g hg).1 (hSN g hg).2.1).trans (hSN g hg).2.2) ⟨g, j, none⟩ rfl).trans h
  exact ⟨h0.2.2.2.2.2.2.2, hpc gp 5 _ hgp (ep0 5 (by omega)), h0.2.2.2.2.2.1, h0.2.2.1, h1.1, h1.2.1, h1.2.2⟩
 have hMB := fun w (hb : Below W2.heap.size W2 w) => hM2.below hb
 have HMB := Lib.hid hMB
 have HC := Lib.hid hcell
 have HCB := Lib.hid (fun w (hb : Below W2.heap.size W2 w) => hcell w rv rs (hMB w hb) (Only.of_below hb))
 have HS0 := Lib.hid (hcell W2 rv rs hM2 (Only.refl _ _))
 have HSD := Lib.hid (hcell W2.drew rv rs (hM2.below (drew_below W2)) (Only.of_below (drew_below W2)))
 obtain ⟨x0, x1, x2, x3, x4, x5, x6⟩ := HS0.out
 have HM := Lib.hid (And.intro hM hal)
 obtain ⟨r0, hr00⟩ : ∃ r, t.l = q0 :: r := by
  cases h : t.l with
  | nil => rw [h] at hq0; cases hq0
  | cons a r => rw [h] at hq0; simp at hq0; exact ⟨r, by rw [hq0]⟩
 have hNL2 : NtL W S r0 (k + 1 + q0.size) gp 8 := by
  have h := hNL
  rw [hr00, NtL_cons] at h
  simpa using h.2
 have hrl : r0.length = ln - 1 := by rw [← hln, hr00]; simp
 have hSt : ∀ o1, (o1 = 8 ∨ c = 1) → ∀ w, Below W2.heap.size W2 w → Calls Tryz.prog 109 #[.slice (some ⟨gp, o1, none⟩) (ln - 1) (c - 1)] w fun e w' => ∃ v, e = .returned v ∧ IntsF w' (New w w') v (setsK (t.l.drop 1) (k + 1 + q0.size)) ∧ Below w.heap.size w w' := fun o1 ho1 w hb => by
  have h := sets_any r0 (k + 1 + q0.size) (some ⟨gp, o1, none⟩) (c - 1) 8 w S (by omega) (by omega) (by have := htc4; unfold maxLen; omega) (fun h0 => ⟨gp, by rw [show o1 = 8 by omega], hgp, NtL.keep (fun _ h => h) (fun i hi => (hb.block i (hSN i hi).1).trans (hSN i hi).2.2) _ _ _ _ hgp hNL2⟩) (fun i hi => Nat.lt_of_lt_of_le (hSN i hi).1 hb.size)
  rw [hrl] at h
  rw [hr00]
  exact h
 obtain ⟨L, hL⟩ : ∃ x, setsK (t.l.drop 1) (k + 1 + q0.size) = x := ⟨_, rfl⟩
 rw [hL] at hSt
 rw [show (t.part 0).size = q0.size by unfold Tr.part; rw [hq0]; rfl, hL]
 have HSt0 := Lib.hid hSt
 have gl1 : (1 : Int) ≤ ln := by omega
 have gl2 : (ln : Int) ≤ c := by omega
 have hF : ∀ w u, Below W2.heap.size W2 w → IntsF w (New W2.drew w) u L → IntsF w (foot (Mb + 1) w rv) u L := fun w u hb hu => hu.keep (fun i hi => ⟨⟨by have h1 : W2.heap.size ≤ i := hi.1; have := hM.lt; omega, hi.2⟩, fun h => by have h1 : W2.heap.size ≤ i := hi.1; have := (hM.row.own i h).2; omega⟩) (fun i hi => rfl)
 have HF := Lib.hid hF
 have HA := Lib.hid (fun w (hb : Below W2.heap.size W2 w) Av cv (hu : IntsF w (foot (Mb + 1) w rv) (.slice Av L.length cv) L) => (show Calls Tryz.prog 104 #[.pointer (some ⟨Mb, 0, none⟩), .agg #[.int .i64 pf, .int .i64 pth, .bool ptg], .slice (some ⟨w.heap.size, 0, none⟩) 1 1] (w.alloc (.cells #[.int .i64 9, .int .i64 0, .int .i64 kp0, .int .i64 k, .int .i64 0, .int .i64 pth, .int .i64 t.n, .string ⟨#[]⟩, .slice Av L.length cv] 44)) (AddQ W0 Mb fB X fv fsv W2 rv (rs ++ [((⟨9, 0, kp0, k, 0, pth, t.n, [], L⟩ : Ru)).at_ pf])) from add_one hM2 hb ⟨pf, pth, ptg⟩ ((⟨9, 0, kp0, k, 0, pth, t.n, [], L⟩ : Ru)) (.slice Av L.length cv) hu (by simp) (by omega)))
 clear hcell hnN hSN hMB hM hM2 hal hb0 hb1 hX ht htc hrow hS hek hSt hF hNL hNL2 hr00 hrl hL hlnm hgp hn hln hq0 hcs0 hcc0 hf0 hr0 hek0 ep0 hkp0 hql0
 rcases Nat.lt_or_ge 1 c with hcc | hcc
 ·have hif : ¬ c = 1 := by omega
  have HSt := Lib.hid (HSt0.out 8 (.inl rfl))
  clear hcc
  go_enter Tryz.func70, Tryz.ntmps70
  go_upto_region 1 with fail
  go_region_held3 (fun w' => w'.cell? ⟨N, 7, none⟩ = some (.slice (some ⟨gp, 0, none⟩) ln c) ∧ w'.cell? ⟨gp, 5, none⟩ = some (.int .i64 kp0) ∧ w'.cell? ⟨N, 5, none⟩ = some (.int .i64 k) ∧ w'.cell? ⟨N, 2, none⟩ = some (.int .i64 t.n) ∧ w'.cell? ⟨N + 1, 0, none⟩ = some (.int .i64 pf) ∧ w'.cell? ⟨N + 1, 1, none⟩ = some (.int .i64 pth) ∧ w'.cell? ⟨N + 1, 2, none⟩ = some (.bool ptg))
   (first | go_keep | exact HSD.out | exact HSu3.out | exact HTu3.out | exact HS9.out)
   (first
    | (go_at_call 109; refine (HSt.out W2.drew (drew_below W2)).mono ?_; rintro e u3 ⟨vs, rfl, hvs, hb3⟩; have HBu3 := Lib.hid (below_of_drew hb3); have HSu3 := Lib.hid (HCB.out u3 HBu3.out); have HFo := Lib.hid (HF.out u3 vs HBu3.out hvs); obtain ⟨Av, cv, rfl, -, -⟩ := id hvs; have HTu3 := Lib.hid (HCB.out (u3.alloc (.cells #[.int .i64 9, .int .i64 0, .int .i64 kp0, .int .i64 k, .int .i64 0, .int .i64 pth, .int .i64 t.n, .string ⟨#[]⟩, .slice Av L.length cv] 44)) (HBu3.out.trans ((below_alloc9 u3 _).mono HBu3.out.size))); clear hb3 hvs)
    | (go_at_call 104; refine (HA.out u3 HBu3.out Av cv HFo.out).mono ?_; rintro e u9 ⟨⟨v0, rfl⟩, rv5, hm5, ho5, hn5⟩; have HS9 := Lib.hid (HC.out u9 rv5 _ hm5 ho5); have HQ := Lib.hid (And.intro hm5 (And.intro ho5 hn5)); clear hm5 ho5 hn5))
  all_goals
   go_wp2
   go_end0
   exact AddQ.pre HM.out.1 HM.out.2 ⟨⟨_, rfl⟩, rv5, HQ.out⟩
 ·have hif : ∀ a b : Option Addr, (if c = 1 then a else b) = a := fun a b => if_pos (by omega)
  have HSt := Lib.hid (HSt0.out 0 (.inr (by omega)))
  clear hcc
  go_enter Tryz.func70, Tryz.ntmps70
  go_upto_region 1 with fail
  go_region_held3 (fun w' => w'.cell? ⟨N, 7, none⟩ = some (.slice (some ⟨gp, 0, none⟩) ln c) ∧ w'.cell? ⟨gp, 5, none⟩ = some (.int .i64 kp0) ∧ w'.cell? ⟨N, 5, none⟩ = some (.int .i64 k) ∧ w'.cell? ⟨N, 2, none⟩ = some (.int .i64 t.n) ∧ w'.cell? ⟨N + 1, 0, none⟩ = some (.int .i64 pf) ∧ w'.cell? ⟨N + 1, 1, none⟩ = some (.int .i64 pth) ∧ w'.cell? ⟨N + 1, 2, none⟩ = some (.bool ptg))
   (first | go_keep | exact HSD.out | exact HSu3.out | exact HTu3.out | exact HS9.out)
   (first
    | (go_at_call 109; refine (HSt.out W2.drew (drew_below W2)).mono ?_; rintro e u3 ⟨vs, rfl, hvs, hb3⟩; have HBu3 := Lib.hid (below_of_drew hb3); have HSu3 := Lib.hid (HCB.out u3 HBu3.out); have HFo := Lib.hid (HF.out u3 vs HBu3.out hvs); obtain ⟨Av, cv, rfl, -, -⟩ := id hvs; have HTu3 := Lib.hid (HCB.out (u3.alloc (.cells #[.int .i64 9, .int .i64 0, .int .i64 kp0, .int .i64 k, .int .i64 0, .int .i64 pth, .int .i64 t.n, .string ⟨#[]⟩, .slice Av L.length cv] 44)) (HBu3.out.trans ((below_alloc9 u3 _).mono HBu3.out.size))); clear hb3 hvs)
    | (go_at_call 104; refine (HA.out u3 HBu3.out Av cv HFo.out).mono ?_; rintro e u9 ⟨⟨v0, rfl⟩, rv5, hm5, ho5, hn5⟩; have HS9 := Lib.hid (HC.out u9 rv5 _ hm5 ho5); have HQ := Lib.hid (And.intro hm5 (And.intro ho5 hn5)); clear hm5 ho5 hn5))
  all_goals
   go_wp2
   go_end0
   exact AddQ.pre HM.out.1 HM.out.2 ⟨⟨_, rfl⟩, rv5, HQ.out⟩
end
end Go.Proofs.YtikbfoichhkeaaaGreat
