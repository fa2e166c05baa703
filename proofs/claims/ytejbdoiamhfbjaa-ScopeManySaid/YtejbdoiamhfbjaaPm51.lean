/- What scope's answers have in common with the program: bare, lined. No program. Names that are written otherwise, all alike, resolve to the same. No program. What is told of a whole program. No program. What the laws' loops go by. No program. The law ScopeMarks: its walk. -/
import Derived.Test.YtejbdoiamhfbjaaPm50
set_option linter.unusedSimpArgs false
set_option linter.unusedVariables false
set_option maxRecDepth 100000
set_option maxHeartbeats 4000000
namespace Go.Proofs.Ytejbdoiamhfbjaa
mutual
def bareT : Tr → Tr
 | .mk op s n line l => .mk op s (if op = 2 then n else 0) line (bareL l)
def bareL : List Tr → List Tr
 | [] => []
 | t :: r => bareT t :: bareL r
end
theorem fun_two {op : Int} (h : isFun op = true) : op ≠ 2 := by
 unfold isFun at h
 rintro rfl
 simp at h
mutual
theorem resT_bare : ∀ (t : Tr) (a : Int) (loop : Bool) (w : WS) (t' : Tr) (w' : WS), resT t a loop w = .ok (t', w') → bareT t' = bareT t
 | .mk op s n line l, a, loop, w, t', w', h => by
  unfold resT at h
  split at h
  ·rename_i hf
   have h2 := fun_two hf
   simp only at h
   split at h
   ·cases h
   ·obtain ⟨l', hL, rfl⟩ := nodeE_ok h
    simp [bareT, h2, resL_bare l _ _ _ _ _ hL]
  ·split at h
   ·rename_i ho
    have h2 : op ≠ 2 := by omega
    obtain ⟨l', hL, rfl⟩ := nodeE_ok h
    simp [bareT, h2, resL_bare l _ _ _ _ _ hL]
   ·split at h
    ·rename_i ho
     have h2 : op ≠ 2 := by omega
     split at h
     ·cases h
     ·obtain ⟨l', hL, rfl⟩ := nodeE_ok h
      simp [bareT, h2, resL_bare l _ _ _ _ _ hL]
    ·split at h
     ·cases h
     ·obtain ⟨l', hL, rfl⟩ := nodeE_ok h
      simp [bareT, resL_bare l _ _ _ _ _ hL]
theorem resL_bare : ∀ (l : List Tr) (a : Int) (loop : Bool) (w : WS) (l' : List Tr) (w' : WS), resL l a loop w = .ok (l', w') → bareL l' = bareL l
 | [], _, _, _, l', w', h => by
  unfold resL at h
  cases h
  rfl
 | t :: r, a, loop, w, l', w', h => by
  unfold resL at h
  split at h
  ·cases h
  ·rename_i hT
   split at h
   ·cases h
   ·rename_i hL
    cases h
    simp [bareL, resT_bare t _ _ _ _ _ hT, resL_bare r _ _ _ _ _ hL]
end
section
section
variable {f : Bs → Bs}
def key (x : Fn) : Int × Nat × List Bs × Int := (x.around, x.params, x.vars, x.mark)
def keyR (f : Bs → Bs) (x : Fn) : Int × Nat × List Bs × Int := (x.around, x.params, x.vars.map f, x.mark)
def RelW (f : Bs → Bs) (w w' : WS) : Prop := w'.funs.map key = w.funs.map (keyR f) ∧ w'.mark = w.mark
theorem RelW.len {w w' : WS} (h : RelW f w w') : w'.funs.length = w.funs.length := by
 have := congrArg List.length h.1
 simpa using this
theorem RelW.get {w w' : WS} (h : RelW f w w') (i : Nat) : (w'.funs[i]?).map key = (w.funs[i]?).map (keyR f) := by
 have := congrArg (fun l => l[i]?) h.1
 simpa using this
end
end
def rootF (p : Tr) : Fn := openF 41 [] [p] (-1) 0
theorem root_vars (p : Tr) : (rootF p).vars = decl p [] ∧ (rootF p).around = -1 ∧ (rootF p).params = 0 ∧ (rootF p).mark = 0 ∧ (rootF p).name = [] := ⟨rfl, rfl, rfl, rfl, rfl⟩
theorem resolve_eq (p : Tr) : resolveT p = if 200 < (decl p []).length then .error (p.line, 52) else match resT p 0 false ⟨[rootF p], 4⟩ with
  | .error x => .error x
  | .ok (q, w) => .ok (w.funs, q) := by
 unfold resolveT
 have e : resT (.mk 41 [] 0 p.line [p]) (-1) false ⟨[], 0⟩ = if 200 < (decl p []).length then .error (p.line, 52) else nodeE 41 [] 0 p.line (resL [p] 0 false ⟨[rootF p], 4⟩) := by
  rw [resT]
  rw [if_pos (show isFun 41 = true from rfl)]
  simp only
  by_cases h : 200 < (decl p []).length
  ·rw [if_pos (.inr h), if_pos h]
  ·rw [if_neg (fun h' => by
    rcases h' with h' | h'
    ·simp at h'
    ·exact h h'), if_neg h]
   rfl
 rw [e]
 by_cases h : 200 < (decl p []).length
 ·rw [if_pos h, if_pos h]
 ·rw [if_neg h, if_neg h]
  simp only [resL]
  cases resT p 0 false ⟨[rootF p], 4⟩ with
  | error x => rfl
  | ok x => rfl
theorem root_inv (p : Tr) (h : ¬ 200 < (decl p []).length) : Inv ⟨[rootF p], 4⟩ := by
 refine ⟨Int.le_refl _, fun i f hf => ?_⟩
 have hi := (List.getElem?_eq_some_iff.1 hf).1
 simp at hi
 subst hi
 simp at hf
 subst hf
 exact ⟨by rw [(root_vars p).2.1]; decide, Nat.zero_le _, by rw [(root_vars p).1]; omega, by rw [(root_vars p).2.2.2.1]; exact (show (0 : Int) < 4 by decide), fun h' => by omega⟩
theorem resolve_told {p q : Tr} {F : List Fn} (h : resolveT p = .ok (F, q)) : bareT q = bareT p ∧ okT F q ∧ (∃ m, chkT F q 4 = some m ∧ Inv ⟨F, m⟩) := by
 rw [resolve_eq] at h
 split at h
 ·cases h
 ·rename_i hv
  split at h
  ·cases h
  ·rename_i q1 w hr
   cases h
   have h1 := resT_bare p _ _ _ _ _ hr
   have h2 := (resT_ok p _ _ _ _ _ hr (by simp)).2 []
   have h3 := (resT_marks p _ _ _ _ _ hr (by simp)).2 []
   rw [List.append_nil] at h2 h3
   exact ⟨h1, h2, w.mark, h3, resT_inv p _ _ _ _ _ hr (by decide) (by simp) (root_inv p hv)⟩
def chk1 (F : List Fn) (op n next : Int) : Option Int :=
 if isFun op then (if 1 ≤ n ∧ n < F.length ∧ (F[n.toNat]?).map Fn.mark = some next then some (next + 2) else none)
 else if op = 11 ∨ op = 15 ∨ op = 16 then (if n = next then some (next + 1) else none)
 else some next
def chkF (F : List Fn) : List Tr → Int → Option Int
 | [], next => some next
 | t :: r, next => match chk1 F t.op t.n next with
  | none => none
  | some k => chkF F r k
theorem chkF_app (F : List Fn) : ∀ (a b : List Tr) (next : Int), chkF F (a ++ b) next = match chkF F a next with
  | none => none
  | some k => chkF F b k
 | [], b, next => rfl
 | t :: r, b, next => by
  rw [List.cons_append, chkF, chkF]
  cases chk1 F t.op t.n next with
  | none => rfl
  | some k => exact chkF_app F r b k
mutual
theorem chkT_flat (F : List Fn) : ∀ (t : Tr) (next : Int), chkF F t.flat next = chkT F t next
 | .mk op s n i l, next => by
  rw [Tr.flat, chkF, chkT]
  show (match chk1 F op n next with
   | none => none
   | some k => chkF F (flats l) k) = _
  unfold chk1
  by_cases hf : isFun op = true
  ·rw [if_pos hf, if_pos hf]
   by_cases h : 1 ≤ n ∧ n < F.length ∧ (F[n.toNat]?).map Fn.mark = some next
   ·rw [if_pos h, if_pos h]
    exact chkL_flat F l _
   ·rw [if_neg h, if_neg h]
  ·rw [if_neg hf, if_neg hf]
   by_cases h : op = 11 ∨ op = 15 ∨ op = 16
   ·rw [if_pos h, if_pos h]
    by_cases h2 : n = next
    ·rw [if_pos h2, if_pos h2]
     exact chkL_flat F l _
    ·rw [if_neg h2, if_neg h2]
   ·rw [if_neg h, if_neg h]
    exact chkL_flat F l _
theorem chkL_flat (F : List Fn) : ∀ (l : List Tr) (next : Int), chkF F (flats l) next = chkL F l next
 | [], next => by rw [flats, chkL]; rfl
 | t :: r, next => by
  rw [flats, chkF_app, chkT_flat F t, chkL]
  cases chkT F t next with
  | none => rfl
  | some k => exact chkL_flat F r k
end
mutual
theorem resT_err : ∀ (t : Tr) (a : Int) (loop : Bool) (w : WS) (line er : Int), resT t a loop w = .error (line, er) → er ≠ 0
 | .mk op s n li l, a, loop, w, line, er, h => by
  have key : ∀ (k : Int) (b : Int) (lp : Bool) (w1 : WS), nodeE op s k li (resL l b lp w1) = .error (line, er) → er ≠ 0 := fun k b lp w1 h => by
   cases hl : resL l b lp w1 with
   | error x =>
    obtain ⟨x1, x2⟩ := x
    rw [hl] at h
    cases h
    exact resL_err l b lp w1 _ _ hl
   | ok x => rw [hl] at h; cases h
  rw [resT] at h
  split at h
  ·simp only at h
   split at h
   ·cases h; decide
   ·exact key _ _ _ _ h
  ·split at h
   ·exact key _ _ _ _ h
   ·split at h
    ·split at h
     ·cases h; decide
     ·exact key _ _ _ _ h
    ·split at h
     ·cases h; decide
     ·exact key _ _ _ _ h
theorem resL_err : ∀ (l : List Tr) (a : Int) (loop : Bool) (w : WS) (line er : Int), resL l a loop w = .error (line, er) → er ≠ 0
 | [], a, loop, w, line, er, h => by rw [resL] at h; cases h
 | t :: r, a, loop, w, line, er, h => by
  rw [resL] at h
  split at h
  ·rename_i x hx
   cases h
   exact resT_err t a loop w _ _ hx
  ·split at h
   ·rename_i x hx
    cases h
    exact resL_err r _ _ _ _ _ hx
   ·cases h
end
theorem resolve_err {t : Tr} {line er : Int} (h : resolveT t = .error (line, er)) : er ≠ 0 := by
 unfold resolveT at h
 split at h
 ·rename_i x hx
  cases h
  exact resT_err _ _ _ _ _ _ hx
 ·cases h
mutual
theorem bare_size : ∀ t : Tr, (bareT t).size = t.size
 | .mk op s n i l => by rw [bareT, Tr.size, Tr.size, bare_sizes l]
theorem bare_sizes : ∀ l : List Tr, sizes (bareL l) = sizes l
 | [] => by rw [bareL]
 | t :: r => by rw [bareL, sizes, sizes, bare_size t, bare_sizes r]
end
theorem resolve_size {p q : Tr} {F : List Fn} (h : resolveT p = .ok (F, q)) : q.size = p.size := by
 rw [← bare_size q, (resolve_told h).1, bare_size p]
section
open Go.RowKit Go.Proofs
theorem TreeAt.of_at {w : World} {t : Tr} {v : Value} (h : At w w.heap.size t v) : TreeAt w (fun k => k < w.heap.size) t v := by
 obtain ⟨x, h1, h2, h3⟩ := Lo.of_at t h
 exact ⟨x, h1, h2, h3⟩
theorem five_get : ∀ (l : List (Tr × Value)) (i j : Nat), j < 5 → (l.flatMap five)[i * 5 + j]? = (l[i]?).bind fun q => (five q)[j]?
 | [], i, j, _ => by simp
 | a :: r, 0, j, hj => by
  rw [List.flatMap_cons, List.getElem?_append_left (by simp [five]; omega)]
  simp
 | a :: r, i + 1, j, hj => by
  rw [List.flatMap_cons, List.getElem?_append_right (by simp [five]; omega), show (i + 1) * 5 + j - (five a).length = i * 5 + j by simp [five]; omega, five_get r i j hj]
  simp
theorem marks_any (t : Tr) (v : Value) (w : World) (ht : At w w.heap.size t v) : Calls Try.prog 10 #[v] w fun e w' => e = .returned (.bool true) ∧ Below w.heap.size w w' := by
 obtain ⟨A, c, rfl, -, -⟩ := (TreeAt.of_at ht).form
 have hat : ∀ w', Below w.heap.size w w' → At w' w'.heap.size t (.agg #[.int .i64 t.op, .string (bs t.s), .int .i64 t.n, .slice A t.l.length c, .int .i64 t.line]) := fun w' hb => At.keep t ht hb.size fun p hp => hb.cell hp
 have HAt := Lib.hid hat
 clear hat ht
 go_enter Try.func10, Try.ntmps10
 have hal := below_alloc9 w (.cells #[.int .i64 t.op, .string (bs t.s), .int .i64 t.n, .slice A t.l.length c, .int .i64 t.line] 24)
 have hbx := heap_alloc_new w (.cells #[.int .i64 t.op, .string (bs t.s), .int .i64 t.n, .slice A t.l.length c, .int .i64 t.line] 24)
 obtain ⟨N, eN⟩ : ∃ N, w.heap.size = N := ⟨_, rfl⟩
 have H0 := Lib.hid (And.intro hal hbx)
 clear hal hbx
 go_wp2_with fail
 go_at_call 11
 refine (shown_any _).mono ?_
 rintro e w1 ⟨rfl, hb1⟩
 have hbx1 := (hb1.block w.heap.size (by simp)).trans H0.out.2
 have hw1 : Below w.heap.size w w1 := H0.out.1.trans (hb1.mono (by simp))
 rw [eN] at hbx1
 have x0 := cell_of_row w1 _ 0 _ _ _ hbx1
 have x1 := cell_of_row w1 _ 1 _ _ _ hbx1
 have x2 := cell_of_row w1 _ 2 _ _ _ hbx1
 have x3 := cell_of_row w1 _ 3 _ _ _ hbx1
 have x4 := cell_of_row w1 _ 4 _ _ _ hbx1
 simp at x0 x1 x2 x3 x4
 have H1 := Lib.hid (And.intro hw1 hbx1)
 clear hb1 hbx1 hw1 H0
 go_wp2_with fail
 go_at_call 12
 refine (small_any t _ w1 (HAt.out w1 H1.out.1)).mono ?_
 rintro e w2 ⟨rfl, hb2⟩
 have hbx2 := (hb2.block N (heap_lt H1.out.2)).trans H1.out.2
 have hw2 : Below w.heap.size w w2 := H1.out.1.trans (hb2.mono H1.out.1.size)
 have y0 := cell_of_row w2 _ 0 _ _ _ hbx2
 have y1 := cell_of_row w2 _ 1 _ _ _ hbx2
 have y2 := cell_of_row w2 _ 2 _ _ _ hbx2
 have y3 := cell_of_row w2 _ 3 _ _ _ hbx2
 have y4 := cell_of_row w2 _ 4 _ _ _ hbx2
 simp at y0 y1 y2 y3 y4
 have H2 := Lib.hid (And.intro hw2 hbx2)
 clear hb2 hbx2 hw2 x0 x1 x2 x3 x4 H1
 by_cases hz : t.size ≤ 1500
 case neg =>
  rw [if_neg hz]
  go_wp2
  go_ret
  exact ⟨rfl, H2.out.1⟩
 rw [if_pos hz]
 go_wp2_with fail
 go_at_call 13
 refine (scres_any t _ w2 (fun k => k < w2.heap.size) (TreeAt.of_at (HAt.out w2 H2.out.1)) (fun _ h => h) (by omega)).mono ?_
 rintro e w3 ⟨hb3, hq⟩
 have hw3 : Below w.heap.size w w3 := H2.out.1.trans (hb3.mono H2.out.1.size)
 by_cases hr : rightP t = true
 case neg =>
  rw [if_neg hr] at hq
  subst hq
  have HE := Lib.hid (And.intro hw3 hr)
  clear hw3 hb3 y0 y1 y2 y3 y4 hr
  unfold noTree
  go_wp2
  go_ret
  exact ⟨rfl, HE.out.1.alloc HE.out.1.size _⟩
 rw [if_pos hr] at hq
 cases hrs : resolveT t with
 | error p9 =>
  obtain ⟨line, er⟩ := p9
  rw [hrs] at hq
  simp only at hq
  subst hq
  have ee : (er != 0) = true := by
   have := resolve_err hrs
   simp [this]
  have HE := Lib.hid (And.intro hw3 hr)
  clear hw3 hb3 y0 y1 y2 y3 y4 hr hrs
  unfold noTree
  go_wp2
  go_ret
  exact ⟨rfl, HE.out.1.alloc HE.out.1.size _⟩
 | ok p9 =>
 obtain ⟨fs, q⟩ := p9
 rw [hrs] at hq
 obtain ⟨fv, qv, rfl, hF, hT⟩ := hq
 obtain ⟨Af, cf, rfl, hfc, hfm⟩ := hF.form
 obtain ⟨Aq, cq, rfl, hrq, hfq⟩ := hT.form
 have hq9 : At w3 w3.heap.size q (.agg #[.int .i64 q.op, .string (bs q.s), .int .i64 q.n, .slice Aq q.l.length cq, .int .i64 q.line]) := by
  obtain ⟨x, rfl, hx, hL⟩ := hT
  rw [← hx]
  exact hL.at_ x (fun k hk => hk.2)
 have hal4 := below_alloc9 w3 (.cells #[.int .i64 q.op, .string (bs q.s), .int .i64 q.n, .slice Aq q.l.length cq, .int .i64 q.line] 24)
 have hbx4 := heap_alloc_new w3 (.cells #[.int .i64 q.op, .string (bs q.s), .int .i64 q.n, .slice Aq q.l.length cq, .int .i64 q.line] 24)
 obtain ⟨w4, e4⟩ : ∃ w4, w3.alloc (.cells #[.int .i64 q.op, .string (bs q.s), .int .i64 q.n, .slice Aq q.l.length cq, .int .i64 q.line] 24) = w4 := ⟨_, rfl⟩
 rw [e4] at hal4 hbx4
 have hqs := resolve_size hrs
 have hcall := flat_any w3 w3.heap.size q _ w4 hq9 hal4 hal4.size (by omega)
 have x0 := cell_of_row w4 _ 0 _ _ _ hbx4
 have x1 := cell_of_row w4 _ 1 _ _ _ hbx4
 have x2 := cell_of_row w4 _ 2 _ _ _ hbx4
 have x3 := cell_of_row w4 _ 3 _ _ _ hbx4
 have x4 := cell_of_row w4 _ 4 _ _ _ hbx4
 simp at x0 x1 x2 x3 x4
 obtain ⟨m, hm, hI⟩ := (resolve_told hrs).2.2
 have HL := Lib.hid hcall
 have H4 := Lib.hid (And.intro hw3 (And.intro hal4 (And.intro hF (And.intro hm (And.intro hqs e4)))))
 clear hcall hw3 hal4 hbx4 hF hm hT hrq hq9 hb3 y0 y1 y2 y3 y4 HAt H2 e4
 go_upto_region 8 with fail
 rw [H4.out.2.2.2.2.2]
 go_wp2_with fail
 go_at_call 24
 refine HL.out.mono ?_
 rintro e w5 ⟨lv, ps, rfl, hps, hpa, hrow, hb5⟩
 have hlp : ps.length = q.size := by
  have := congrArg List.length hps
  rw [flat_len, List.length_map] at this
  exact this
 have hqp := size_pos q
 obtain ⟨g, cp, rfl, hg5, hcl⟩ := own_cells hrow (by omega)
 have hcl' : ∀ (k : Nat) (p : Tr × Value) (j : Nat) (u : Value), ps[k]? = some p → (five p)[j]? = some u → w5.cell? ⟨g, k * 5 + j, none⟩ = some u := fun k p j u hp hu => by
  have h9 := hcl (k * 5 + j) u ?_
  ·rw [add_mid] at h9
   exact h9
  ·rw [five_get ps k j (by
    have := (List.getElem?_eq_some_iff.1 hu).1
    simpa [five] using this), hp]
   exact hu
 have hgl : g < w5.heap.size := (hrow.lt g rfl).2
 have hF5 := H4.out.2.2.1.below (H4.out.2.1.trans (hb5.mono H4.out.2.1.size))
 have hw5 : Below w.heap.size w w5 := (H4.out.1.trans (H4.out.2.1.mono H4.out.1.size)).trans (hb5.mono (by have := H4.out.1.size; have := H4.out.2.1.size; omega))
 have hmk : chkF fs (q.flat.drop 0) 4 = some m := by rw [List.drop_zero, chkT_flat]; exact H4.out.2.2.2.1
 have hlp5 : ps.length ≤ 1500 := by rw [hlp, H4.out.2.2.2.2.1]; exact hz
 have H5 := Lib.hid (And.intro hps (And.intro hcl' (And.intro hF5 (And.intro hw5 hmk))))
 clear hps hpa hrow hb5 hcl hcl' hF5 hw5 hmk x0 x1 x2 x3 x4 hqp hg5 hfc hfm hfq HL H4 hI hrs hz hr hlp
 go_wp2
 go_loopw [8, 10] (fun nx i wr => ∃ (k : Nat) (next : Int), k ≤ ps.length ∧ i = .int .i64 k ∧ nx = .int .i64 next ∧ (4 ≤ next ∧ next ≤ 4 + 2 * k) ∧ chkF fs (q.flat.drop k) next = some m ∧ Below w5.heap.size w5 wr) (fun _ i _ => ps.length - (intOf i).toNat)
 case atStart => exact ⟨0, 4, Nat.zero_le _, rfl, rfl, by omega, H5.out.2.2.2.2, Below.refl _ _⟩
 case round =>
  obtain ⟨k, next, hk, rfl, rfl, hnx, hmk, hb⟩ := hrel
  by_cases hlt : k < ps.length
  ·obtain ⟨p, hp⟩ : ∃ p, ps[k]? = some p := ⟨_, List.getElem?_eq_getElem hlt⟩
   obtain ⟨y, u⟩ := p
   have hy : q.flat[k]? = some y := by rw [← H5.out.1, List.getElem?_map, hp]; rfl
   obtain ⟨hky, ey⟩ := List.getElem?_eq_some_iff.1 hy
   rw [List.drop_eq_getElem_cons hky, ey, chkF] at hmk
   have g1 : (k : Int) < ps.length := by omega
   have d0 := (hb.cell (p := ⟨g, k * 5 + 0, none⟩) hgl).trans (H5.out.2.1 k _ 0 _ hp rfl)
   have d2 := (hb.cell (p := ⟨g, k * 5 + 2, none⟩) hgl).trans (H5.out.2.1 k _ 2 _ hp rfl)
   simp only [Nat.add_zero] at d0 d2
   cases hc1 : chk1 fs y.op y.n next with
   | none => rw [hc1] at hmk; cases hmk
   | some nx' =>
   rw [hc1] at hmk
   simp only at hmk
   unfold chk1 at hc1
   have HN := Lib.hid (And.intro hmk hb)
   clear hmk hb hp hy ey hky
   by_cases hf : isFun y.op = true
   ·rw [if_pos hf] at hc1
    split at hc1
    ·rename_i hcnd
     cases hc1
     obtain ⟨j, hj⟩ : ∃ j : Nat, y.n = (j : Int) := ⟨y.n.toNat, by omega⟩
     rw [hj] at hcnd d2
     obtain ⟨hn1, hn2, hn3⟩ := hcnd
     rw [show ((j : Int)).toNat = j by omega] at hn3
     cases hfj : fs[j]? with
     | none => rw [hfj] at hn3; cases hn3
     | some f9 =>
     rw [hfj] at hn3
     have hmark : f9.mark = next := by simpa using hn3
     obtain ⟨gf, cf', As, cs, ev, -, -, -, -, m4, -⟩ := (H5.out.2.2.1.below HN.out.2).get hfj
     injection ev with ea eb ec
     subst ea
     rw [hmark] at m4
     have hcs : (y.op == 10) = true ∨ ((y.op == 10) = false ∧ (y.op == 41) = true) := by
      unfold isFun at hf
      simp only [Bool.or_eq_true, beq_iff_eq] at hf
      simp only [beq_iff_eq, beq_eq_false_iff_ne]
      omega
     have e11 : (y.op == 11) = false := by rw [beq_eq_false_iff_ne]; unfold isFun at hf; simp at hf; omega
     have e15 : (y.op == 15) = false := by rw [beq_eq_false_iff_ne]; unfold isFun at hf; simp at hf; omega
     have e16 : (y.op == 16) = false := by rw [beq_eq_false_iff_ne]; unfold isFun at hf; simp at hf; omega
     have q1 : ¬ ((j : Int) < 1) := by omega
     have q2 : ¬ ((fs.length : Int) ≤ j) := by omega
     clear hn3 hmark hfj hf
     rcases hcs with e10 | ⟨e10, e41⟩
     all_goals
      go_wp2
      go_roundw
      case rel => exact ⟨k + 1, _, by omega, by go_num, rfl, by omega, HN.out.1, HN.out.2⟩
      case measure => simp [intOf]; omega
    ·cases hc1
   ·rw [if_neg hf] at hc1
    have e10 : (y.op == 10) = false := by rw [beq_eq_false_iff_ne]; unfold isFun at hf; simp at hf; omega
    have e41 : (y.op == 41) = false := by rw [beq_eq_false_iff_ne]; unfold isFun at hf; simp at hf; omega
    split at hc1
    ·rename_i ho
     split at hc1
     ·rename_i hn
      cases hc1
      rw [hn] at d2
      have hcs : (y.op == 11) = true ∨ ((y.op == 11) = false ∧ (y.op == 15) = true) ∨ ((y.op == 11) = false ∧ (y.op == 15) = false ∧ (y.op == 16) = true) := by
       simp only [beq_iff_eq, beq_eq_false_iff_ne]
       omega
      clear ho hn hf
      rcases hcs with e11 | ⟨e11, e15⟩ | ⟨e11, e15, e16⟩
      all_goals
       go_wp2
       go_roundw
       case rel => exact ⟨k + 1, _, by omega, by go_num, rfl, by omega, HN.out.1, HN.out.2⟩
       case measure => simp [intOf]; omega
     ·cases hc1
    ·rename_i ho
     cases hc1
     have e11 : (y.op == 11) = false := by rw [beq_eq_false_iff_ne]; omega
     have e15 : (y.op == 15) = false := by rw [beq_eq_false_iff_ne]; omega
     have e16 : (y.op == 16) = false := by rw [beq_eq_false_iff_ne]; omega
     clear ho hf
     go_wp2
     go_roundw
     case rel => exact ⟨k + 1, _, by omega, by go_num, rfl, by omega, HN.out.1, HN.out.2⟩
     case measure => simp [intOf]; omega
  ·have g1 : ¬ (k : Int) < ps.length := by omega
   have HN := Lib.hid hb
   clear hmk hb
   go_wp2
   go_ret
   refine ⟨rfl, ?_⟩
   rw [← eN]
   exact H5.out.2.2.2.1.trans (HN.out.mono H5.out.2.2.2.1.size)
end
end Go.Proofs.Ytejbdoiamhfbjaa
