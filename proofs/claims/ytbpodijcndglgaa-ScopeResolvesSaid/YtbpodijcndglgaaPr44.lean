/- The document's with, isFun, declared. -/
import Derived.Deep.LoopGhost
import Derived.Test.YtbpodijcndglgaaPr43
set_option linter.unusedSimpArgs false
set_option linter.unusedVariables false
set_option maxRecDepth 100000
set_option maxHeartbeats 4000000
namespace Go.Proofs.Ytbpodijcndglgaa
section
open Go.RowKit Go.Proofs
theorem bs_two (x s : Bs) : ((bs x).toList == (bs s).toList) = decide (x = s) := by
 rw [Lib.toList_data, Lib.toList_data, bs_list, bs_list, Bool.eq_iff_iff]
 simp
theorem rowBelow9 {W W' : World} {B size n : Nat} {e : TypeId} {v : Value} {xs : List Value} (h : W.ownsRow B e size v n xs) (hb : Below W.heap.size W W') : W'.ownsRow B e size v n xs :=
 ⟨h.1, h.2.imp id fun ⟨g, cap, cur, e1, e2, e3, e4⟩ => ⟨g, cap, cur, e1, e2, (hb.block g (heap_lt e3)).trans e3, e4⟩⟩
structure NamesAt (w0 w : World) (B : Nat) (u0 u : Value) (ns : List Bs) : Prop where
 row : w.ownsRow B 9 1 u ns.length (namesV ns)
 on : Only (fun k => u0.ownBlock = some k) w0 w
 new : ∀ k, u.ownBlock = some k → u0.ownBlock = some k ∨ w0.heap.size ≤ k
def NamesR (w : World) (B : Nat) (v : Value) (ns : List Bs) (e : Ending) (w' : World) : Prop := ∃ v', e = .returned v' ∧ NamesAt w w' B v v' ns
section
variable {w0 w1 w2 : World} {B : Nat} {u0 u1 u2 v : Value} {ns ns2 : List Bs} {S : Nat → Prop} {t : Tr}
theorem NamesAt.refl (h : w0.ownsRow B 9 1 u0 ns.length (namesV ns)) : NamesAt w0 w0 B u0 u0 ns := ⟨h, Only.refl _ _, fun k h => .inl h⟩
theorem NamesAt.trans (h : NamesAt w0 w1 B u0 u1 ns) (k : NamesAt w1 w2 B u1 u2 ns2) : NamesAt w0 w2 B u0 u2 ns2 :=
 ⟨k.row, h.on.trans (k.on.mono (fun i hi he => (h.new i he).imp id (fun hn => ⟨hn, hi⟩))), fun i hi => (k.new i hi).elim (fun e => h.new i e) (fun e => .inr (by have := h.on.size; omega))⟩
theorem NamesAt.form (h : NamesAt w0 w1 B u0 u1 ns) : ∃ A c, u1 = .slice A ns.length c ∧ ns.length ≤ c ∧ c ≤ maxLen := row_slice (row_zero h.row)
theorem NamesAt.tree (h : NamesAt w0 w1 B u0 u1 ns) (h0 : w0.ownsRow B 9 1 u0 ns2.length (namesV ns2)) (hT : TreeAt w0 S t v) (hS : ∀ k, S k → k < B) (hB : B ≤ w0.heap.size) : TreeAt w1 S t v :=
 hT.keep (fun _ h => h) fun k hk => h.on.block k (by have := hS k hk; omega) (fun e => by have := (own_lt h0 e).1; have := hS k hk; omega)
theorem NamesAt.below (h : NamesAt w0 w1 B u0 u1 ns) (h0 : w0.ownsRow B 9 1 u0 ns2.length (namesV ns2)) (hB : B ≤ w0.heap.size) : Below B w0 w1 := h.on.below hB (fun i e => (own_lt h0 e).1)
theorem NamesAt.pre (h : NamesAt w1 w2 B u0 u1 ns) (hb : Below w0.heap.size w0 w1) : NamesAt w0 w2 B u0 u1 ns :=
 ⟨h.row, (Only.of_below hb).trans' h.on, fun k hk => (h.new k hk).imp id (fun e => by have := hb.size; omega)⟩
theorem NamesAt.post (h : NamesAt w0 w1 B u0 u1 ns) (hb : Below w1.heap.size w1 w2) : NamesAt w0 w2 B u0 u1 ns :=
 ⟨rowBelow9 h.row hb, h.on.trans' (Only.of_below hb), h.new⟩
end
theorem names_push {w : World} {B : Nat} {v : Value} {ns : List Bs} (h : w.ownsRow B 9 1 v ns.length (namesV ns)) (s : Bs) (hB : B ≤ w.heap.size) (hn : ns.length ≤ 100000) :
  ∃ v' w', (Builtin.append_ #[39, 39] 39 #[v, .slice (some ⟨w.heap.size, 0, none⟩) 1 1]).run Try.prog (w.alloc (.cells #[.string (bs s)] 9)) = .ok v' w' ∧
   NamesAt w w' B v v' (ns ++ [s]) := by
 have hal : Below w.heap.size w (w.alloc (.cells #[.string (bs s)] 9)) := (Below.refl _ _).alloc (Nat.le_refl _) _
 have hrow2 : (w.alloc (.cells #[.string (bs s)] 9)).ownsRow B 9 1 v ns.length (namesV ns) := ⟨h.1, h.2.imp id fun ⟨g, cap, cur, e1, e2, e3, e4⟩ => ⟨g, cap, cur, e1, e2, (hal.block g (heap_lt e3)).trans e3, e4⟩⟩
 obtain ⟨i0, j0, j1, j2, j3⟩ := info_parts info9s
 obtain ⟨v', w3, r1, r2, r3, -, r5⟩ := run_append_own_at (P := Try.prog) (w.alloc (.cells #[.string (bs s)] 9)) B 39 39 9 i0 _ 1 16 Try.underlying39 j0 j1 j2 j3 rfl (by decide) v ns.length _ hrow2 ⟨w.heap.size, 0, none⟩ 1 1 [.string (bs s)] rfl (fun j u hj => by
  rw [add_mid, cell_of_row _ _ _ _ _ _ (heap_alloc_new w _)]
  simpa using hj) (fun u hu => by simp at hu; subst hu; rfl) (by unfold maxLen; omega) (by omega) (by simp; omega)
 refine ⟨v', w3, r1, ?_, (Only.of_below hal).trans' (Only.grown r3 (fun r hr => hr.symm ▸ rfl)), fun k hk => ?_⟩
 ·have e : namesV (ns ++ [s]) = namesV ns ++ [.string (bs s)] := by simp [namesV]
  rw [e, List.length_append]
  exact r2
 ·rcases r5 with h5 | h5
  ·exact .inl (h5 ▸ hk)
  ·rw [hk] at h5
   simp at h5
   right
   omega
theorem with_any (w : World) (B : Nat) (v : Value) (ns : List Bs) (s : Bs) (h : w.ownsRow B 9 1 v ns.length (namesV ns)) (hB : B ≤ w.heap.size) (hn : ns.length ≤ 100000) :
  Calls Try.prog 30 #[v, .string (bs s)] w (NamesR w B v (withN ns s)) := by
 obtain ⟨A, c, rfl, hc1, hc2⟩ := row_slice (row_zero h)
 have hc3 : c ≤ 9223372036854775807 := hc2
 have HR := Lib.hid (And.intro h hB)
 have HP := Lib.hid (names_push h s hB hn)
 clear h hc2
 go_enter Try.func30, Try.ntmps30
 go_wp2
 go_loopw [5] (fun i wr => ∃ k : Nat, k ≤ ns.length ∧ i = .int .i64 k ∧ w = wr ∧ ∀ j, j < k → ns[j]? ≠ some s) (fun i _ => ns.length - (intOf i).toNat)
 case atStart => exact ⟨0, Nat.zero_le _, rfl, rfl, fun j hj => by omega⟩
 case round =>
  obtain ⟨k, hk, rfl, rfl, hno⟩ := hrel
  by_cases hlt : k < ns.length
  ·obtain ⟨x, hx⟩ : ∃ x, ns[k]? = some x := ⟨_, List.getElem?_eq_getElem hlt⟩
   have g1 : (k : Int) < ns.length := by omega
   obtain ⟨g, rfl, hg⟩ : ∃ g, A = some ⟨g, 0, none⟩ ∧ w.cell? ⟨g, k, none⟩ = some (.string (bs x)) := by
    rcases HR.out.1.2 with ⟨e, h0⟩ | ⟨g, cap, cur, e, k1, k2, k3⟩
    ·omega
    ·injection e with e1 e2 e3
     subst e1 e3
     refine ⟨g, rfl, ?_⟩
     rw [World.ownsRow.cellAt HR.out.1 k (by omega), namesV, List.getElem?_map, hx]
     rfl
   have q1 := bs_two x s
   by_cases hxs : x = s
   ·rw [decide_eq_true hxs] at q1
    have HF := Lib.hid (show withN ns s = ns by unfold withN; rw [if_pos (List.mem_of_getElem? (hxs ▸ hx))])
    clear hno hx hxs
    go_wp2
    go_ret
    exact ⟨_, rfl, by rw [HF.out]; exact NamesAt.refl HR.out.1⟩
   ·rw [decide_eq_false hxs] at q1
    have HF := Lib.hid (show ∀ j, j < k + 1 → ns[j]? ≠ some s from fun j hj => by
     by_cases hjk : j = k
     ·rw [hjk, hx]
      exact fun e => hxs (Option.some.inj e)
     ·exact hno j (by omega))
    clear hno hx hxs
    go_wp2
    go_roundw
    case rel => exact ⟨k + 1, by omega, by go_num, by first | rfl | trivial, HF.out⟩
    case measure => simp [intOf]; omega
  ·have g1 : ¬ (k : Int) < ns.length := by omega
   have HF := Lib.hid (show withN ns s = ns ++ [s] by
    unfold withN
    rw [if_neg]
    intro hm
    obtain ⟨j, hj⟩ := List.mem_iff_getElem?.1 hm
    exact hno j (by have := (List.getElem?_eq_some_iff.1 hj).1; omega) hj)
   clear hno
   go_wp2_with (at_builtin; refine wl_app rfl _ _ 39 rfl _ (.slice (some ⟨w.heap.size, 0, none⟩) 1 1) rfl rfl _ HP.out ?_; rintro u w7 hna; have M7 := Lib.hid hna; clear hna)
   go_ret
   exact ⟨_, rfl, by rw [HF.out]; exact M7.out⟩
theorem isFun_any (op : Int) (a b c d : Value) (w : World) : Calls Try.prog 31 #[.agg #[.int .i64 op, a, b, c, d]] w fun e w' => e = .returned (.bool (isFun op)) ∧ Below w.heap.size w w' := by
 have hb := below_alloc9 w (.cells #[.int .i64 op, a, b, c, d] 24)
 have HB := Lib.hid hb
 have e : isFun op = (op == 41 || op == 10) := rfl
 clear hb
 cases h1 : (op == 41) with
 | true =>
  rw [e, h1]
  go_enter Try.func31, Try.ntmps31
  go_wp2
  go_ret
  exact ⟨rfl, HB.out⟩
 | false =>
  rw [e, h1]
  go_enter Try.func31, Try.ntmps31
  go_wp2
  go_ret
  exact ⟨by simp, HB.out⟩
mutual
theorem decl_up : ∀ (t : Tr) (out : List Bs), (decl t out).length ≤ out.length + t.size
 | .mk op s n line l, out => by
  simp only [decl, Tr.size]
  have h1 : (if op = 30 ∨ op = 35 ∨ op = 38 ∨ op = 41 then withN out s else out).length ≤ out.length + 1 := by
   split
   ·unfold withN; split <;> simp
   ·omega
  split
  ·omega
  ·have := decls_up l (if op = 30 ∨ op = 35 ∨ op = 38 ∨ op = 41 then withN out s else out)
   omega
theorem decls_up : ∀ (l : List Tr) (out : List Bs), (decls l out).length ≤ out.length + sizes l
 | [], out => by rw [decls]; omega
 | t :: r, out => by
  simp only [decls, sizes]
  have := decls_up r (decl t out)
  have := decl_up t out
  omega
end
theorem withN_up (l : List Bs) (s : Bs) : (withN l s).length ≤ l.length + 1 := by unfold withN; split <;> simp
theorem decls_app : ∀ (a b : List Tr) (out : List Bs), decls (a ++ b) out = decls b (decls a out)
 | [], b, out => by rw [List.nil_append, decls.eq_1 out]
 | t :: r, b, out => by rw [List.cons_append, decls, decls, decls_app r b]
theorem decl_eq9 (t : Tr) (out : List Bs) : decl t out = (let o := if t.op = 30 ∨ t.op = 35 ∨ t.op = 38 ∨ t.op = 41 then withN out t.s else out; if isFun t.op then o else decls t.l o) := by
 cases t
 rw [decl]
 rfl
theorem sizes_take (l : List Tr) (k : Nat) (t : Tr) (h : l[k]? = some t) : sizes (l.take k) + t.size ≤ sizes l := by
 have h1 : l.take k ++ (t :: l.drop (k + 1)) = l := by
  obtain ⟨h2, h3⟩ := List.getElem?_eq_some_iff.1 h
  rw [← h3, ← List.drop_eq_getElem_cons h2, List.take_append_drop]
 have h2 := sizes_app (l.take k) (t :: l.drop (k + 1))
 rw [h1, sizes_cons] at h2
 omega
theorem declared_any (t : Tr) : ∀ (v u : Value) (w : World) (S : Nat → Prop) (B : Nat) (ns : List Bs), TreeAt w S t v → (∀ k, S k → k < B) → B ≤ w.heap.size → w.ownsRow B 9 1 u ns.length (namesV ns) → ns.length + t.size ≤ 100000 →
  Calls Try.prog 21 #[v, u] w (NamesR w B u (decl t ns)) := by
 refine tree_ind (P := fun t => ∀ (v u : Value) (w : World) (S : Nat → Prop) (B : Nat) (ns : List Bs), TreeAt w S t v → (∀ k, S k → k < B) → B ≤ w.heap.size → w.ownsRow B 9 1 u ns.length (namesV ns) → ns.length + t.size ≤ 100000 → Calls Try.prog 21 #[v, u] w (NamesR w B u (decl t ns))) ?_ t
 clear t
 intro t ih v u w S B ns hT hS hB hrow hz
 obtain ⟨A, c, rfl, hrt, hfine⟩ := hT.form
 obtain ⟨A1, c1, e1, hc1, hc2⟩ := hrt.slice
 injection e1 with e2 e3 e4
 subst e2 e4
 have hc3 : c ≤ 9223372036854775807 := hc2
 have hsz := size_eq t
 have hlen := length_le_sizes t.l
 have hl3 : t.l.length ≤ 100000 := by omega
 have IH := Lib.hid ih
 have hbx := heap_alloc_new w (.cells #[.int .i64 t.op, .string (bs t.s), .int .i64 t.n, .slice A t.l.length c, .int .i64 t.line] 24)
 have hal := below_alloc9 w (.cells #[.int .i64 t.op, .string (bs t.s), .int .i64 t.n, .slice A t.l.length c, .int .i64 t.line] 24)
 obtain ⟨W1, eW1⟩ : ∃ W, w.alloc (.cells #[.int .i64 t.op, .string (bs t.s), .int .i64 t.n, .slice A t.l.length c, .int .i64 t.line] 24) = W := ⟨_, rfl⟩
 rw [eW1] at hbx hal
 have hN1 : NamesAt W1 W1 B u u ns := NamesAt.refl (rowBelow9 hrow hal)
 obtain ⟨N, eN⟩ : ∃ N, w.heap.size = N := ⟨_, rfl⟩
 have zN : W1.heap.size = N + 1 := by rw [← eW1, ← eN]; simp
 rw [eN] at hbx hB
 have H0 := Lib.hid (And.intro hrt (And.intro hS (And.intro hrow (And.intro hal (And.intro hbx (And.intro hT eW1))))))
 obtain ⟨x0, x1, x2, x3, x4⟩ := (box_facts hbx).1
 have hns : ns.length ≤ 100000 := by omega
 have HD := Lib.hid (decl_eq9 t ns)
 have HW := Lib.hid (with_any W1 B u ns t.s hN1.row (by omega) hns)
 have hu := row_slice (row_zero hrow)
 have hf : (t.op == 30) = true ∨ ((t.op == 30) = false ∧ (t.op == 35) = true) ∨ ((t.op == 30) = false ∧ (t.op == 35) = false ∧ (t.op == 38) = true) ∨ ((t.op == 30) = false ∧ (t.op == 35) = false ∧ (t.op == 38) = false ∧ (t.op == 41) = true) ∨ ((t.op == 30) = false ∧ (t.op == 35) = false ∧ (t.op == 38) = false ∧ (t.op == 41) = false) := by
  cases (t.op == 30) <;> cases (t.op == 35) <;> cases (t.op == 38) <;> cases (t.op == 41) <;> simp
 have hq : ∀ (b : Bool), ((t.op == 30) || (t.op == 35) || (t.op == 38) || (t.op == 41)) = b → (if t.op = 30 ∨ t.op = 35 ∨ t.op = 38 ∨ t.op = 41 then withN ns t.s else ns) = if b then withN ns t.s else ns := fun b hb => by
  subst hb
  simp [Bool.or_eq_true, or_assoc]
 have HQ := Lib.hid hq
 clear hrt hS hrow hal hbx hT ih hc2 hc1 hN1 hq hfine
 have hown : ∀ k, u.ownBlock = some k → B ≤ k ∧ k < N := fun k e => by rw [← eN]; exact own_lt H0.out.2.2.1 e
 have HO := Lib.hid hown
 clear hown
 rcases hf with d1 | ⟨d1, d2⟩ | ⟨d1, d2, d3⟩ | ⟨d1, d2, d3, d4⟩ | ⟨d1, d2, d3, d4⟩
 all_goals
  go_enter Try.func21, Try.ntmps21
  go_wp2_with fail
  first
   | (go_at_call 30; refine HW.out.mono ?_; rintro e w2 ⟨u2, rfl, hn2⟩; have HD2 := Lib.hid (show decl t ns = if isFun t.op then withN ns t.s else decls t.l (withN ns t.s) from by rw [HD.out, HQ.out true (by simp_all)]; rfl); have hnl := withN_up ns t.s; obtain ⟨ns2, hns2⟩ : ∃ x, withN ns t.s = x := ⟨_, rfl⟩; rw [hns2] at hn2 HD2 hnl)
   | (obtain ⟨ns2, hn2, HD2, hnl, hns2⟩ : ∃ x, NamesAt W1 W1 B u u x ∧ RowKit.Hid (decl t ns = if isFun t.op then x else decls t.l x) ∧ x.length ≤ ns.length + 1 ∧ ns = x := ⟨ns, NamesAt.refl (rowBelow9 H0.out.2.2.1 H0.out.2.2.2.1), Lib.hid (by rw [HD.out, HQ.out false (by simp_all)]; rfl), Nat.le_succ _, rfl⟩; obtain ⟨u2, hu2, hn2⟩ : ∃ x, u = x ∧ NamesAt W1 W1 B u x ns2 := ⟨_, rfl, hn2⟩; rw [hu2]; obtain ⟨w2, hw2, hn2⟩ : ∃ x, W1 = x ∧ NamesAt W1 x B u u2 ns2 := ⟨_, rfl, hn2⟩; rw [hw2]; clear hu2 hw2)
  have z2 := hn2.on.size
  have hb2 := (hn2.on.block N (by omega) (fun e => by have := (HO.out N e).2; omega)).trans H0.out.2.2.2.2.1
  have H2 := Lib.hid (And.intro hn2 hb2)
  clear x0 x1 x2 x3 x4 HW HD HQ hns2
  obtain ⟨x0, x1, x2, x3, x4⟩ := (box_facts hb2).1
  clear hn2 hb2
  go_wp2_with fail
  go_at_call 31
  refine (isFun_any t.op _ _ _ _ w2).mono ?_
  rintro e w3 ⟨rfl, hb3⟩
  have z3 := hb3.size
  have hn3 := H2.out.1.post hb3
  have hbx3 := (hb3.block N (by omega)).trans H2.out.2
  have H3 := Lib.hid (And.intro hn3 hbx3)
  clear x0 x1 x2 x3 x4 hn3 hbx3 hb3
  cases hfun : isFun t.op with
  | true =>
   go_wp2
   go_ret
   exact ⟨_, rfl, by rw [HD2.out, hfun]; exact H3.out.1.pre H0.out.2.2.2.1⟩
  | false =>
   go_wp2_with fail
   go_loopw [1, 5] (fun u' i wr => ∃ (k : Nat) (ns' : List Bs), k ≤ t.l.length ∧ i = .int .i64 k ∧ decls (t.l.take k) ns2 = ns' ∧ NamesAt w3 wr B u2 u' ns') (fun _ i _ => t.l.length - (intOf i).toNat)
   case atStart => exact ⟨0, ns2, Nat.zero_le _, rfl, by rw [List.take_zero, decls], NamesAt.refl H3.out.1.row⟩
   case round =>
    obtain ⟨k, ns', hk, rfl, hde, hna⟩ := hrel
    have zr := hna.on.size
    have hall : NamesAt w wr B u _ ns' := (H3.out.1.trans hna).pre H0.out.2.2.2.1
    have hbr := (hna.on.block N (by omega) (fun e => by rcases H3.out.1.new N e with e | e; (have := (HO.out N e).2; omega); omega)).trans H3.out.2
    obtain ⟨x0, x1, x2, x3, x4⟩ := (box_facts hbr).1
    by_cases hlt : k < t.l.length
    ·have hrow' : RowAt wr S t.l (.slice A t.l.length c) := H0.out.1.keep (fun _ h => h) fun i hi => hall.on.block i (by have := H0.out.2.1 i hi; omega) (fun e => by have := (HO.out i e).1; have := H0.out.2.1 i hi; omega)
     obtain ⟨g, off, p, A', c', rfl, hSg, hp, hTp, y0, y1, y2, y3, y4⟩ := part_get hrow' k hlt
     have g1 : (k : Int) < t.l.length := by omega
     have hps := size_part (t := t) (List.mem_of_getElem? hp)
     have htk := sizes_take t.l k p hp
     have hdu := decls_up (t.l.take k) ns2
     have HC := Lib.hid (IH.out p hps _ _ wr S B ns' hTp H0.out.2.1 (by omega) hna.row (by rw [← hde]; omega))
     have HK := Lib.hid (And.intro hna (And.intro hp hde))
     clear hna hall hbr hrow' hTp hp hps htk hdu hde
     go_wp2_with fail
     go_at_call 21
     refine HC.out.mono ?_
     rintro e w6 ⟨u6, rfl, hn6⟩
     have H6 := Lib.hid hn6
     clear hn6
     go_wp2
     go_roundw
     case rel => exact ⟨k + 1, _, by omega, by go_num, rfl, by
      rw [List.take_add_one, HK.out.2.1, decls_app, HK.out.2.2]
      exact HK.out.1.trans H6.out⟩
     case measure => simp [intOf]; omega
    ·have g1 : ¬ (k : Int) < t.l.length := by omega
     have hkl : k = t.l.length := by omega
     have HF := Lib.hid (And.intro hall (show decls t.l ns2 = ns' by rw [← hde, List.take_of_length_le (by omega)]))
     clear hall hbr hna hde
     go_wp2
     go_ret
     exact ⟨_, rfl, by rw [HD2.out, hfun]; show NamesAt w wr B u _ (decls t.l ns2); rw [HF.out.2]; exact HF.out.1⟩
end
end Go.Proofs.Ytbpodijcndglgaa
