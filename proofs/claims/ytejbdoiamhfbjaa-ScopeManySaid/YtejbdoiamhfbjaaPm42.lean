/- scope.told: the functions as they are told. Trees of the heap: a node's five cells in a block. gumshoeref03.Flat. -/
import Derived.Test.YtejbdoiamhfbjaaProg
import Derived.OwnWalk
import Derived.Deep.DeepMust
import Derived.Test.YtejbdoiamhfbjaaPm41
set_option linter.unusedSimpArgs false
set_option linter.unusedVariables false
set_option maxRecDepth 100000
set_option maxHeartbeats 4000000
namespace Go.Proofs.Ytejbdoiamhfbjaa
section
open Go.RowKit Go.Proofs
theorem rowBelow {W W' : World} {B size n : Nat} {e : TypeId} {v : Value} {xs : List Value} (h : W.ownsRow B e size v n xs) (hb : Below W.heap.size W W') : W'.ownsRow B e size v n xs :=
 ⟨h.1, h.2.imp id fun ⟨g, cap, cur, e1, e2, e3, e4⟩ => ⟨g, cap, cur, e1, e2, (hb.block g (heap_lt e3)).trans e3, e4⟩⟩
theorem info43 : (Try.prog.info? 43).map (fun i => (i.zero, i.size, i.bytes)) = some (some (.agg #[.int .i64 0, .string ⟨#[]⟩, .int .i64 0, .slice none 0 0, .int .i64 0]), 5, 64) := by kernel_rfl
def gCells (q : Fn × Value) : List Value := [.int .i64 q.1.around, .string (bs q.1.name), .int .i64 q.1.params, q.2, .int .i64 q.1.mark]
abbrev gRow (L : List (Fn × Value)) : List Value := L.flatMap gCells
theorem gRow_app (a b : List (Fn × Value)) : gRow (a ++ b) = gRow a ++ gRow b := List.flatMap_append
def FunsV (W : World) (B : Nat) (v : Value) (fs : List Fn) : Prop :=
 ∃ L : List (Fn × Value), L.map (·.1) = fs ∧ W.ownsRow B 43 5 v L.length (gRow L) ∧ ∀ q ∈ L, W.ownsRow B 9 1 q.2 q.1.vars.length (namesV q.1.vars)
def g2 (q : Fn × Value × Nat) : Fn × Value := (q.1, q.2.1)
theorem g2_take (L : List (Fn × Value × Nat)) {j : Nat} {q : Fn × Value × Nat} (h : L[j]? = some q) : gRow ((L.take (j + 1)).map g2) = gRow ((L.take j).map g2) ++ gCells (g2 q) := by
 rw [List.take_add_one, h, List.map_append, gRow_app]
 simp [gRow]
theorem told_any (W : World) (R B : Nat) (ws : WS) (L : List (Fn × Value × Nat)) (v : Value) (hR : RSt W R B ws L v) (hl5 : ws.funs.length ≤ 500) :
  Calls Try.prog 29 #[.pointer (some ⟨R, 0, none⟩)] W fun e W' => ∃ v', e = .returned v' ∧ W'.ownsRow W.heap.size 43 5 v' L.length (gRow (L.map g2)) ∧ Below W.heap.size W W' := by
 obtain ⟨A, c, rfl, hc1, hc2⟩ := hR.form
 have hRl := heap_lt hR.head
 have hlen := hR.len
 have hc3 : c ≤ 9223372036854775807 := hc2
 have r0 := cell_of_row W R 0 _ _ _ hR.head
 simp at r0
 have HR := Lib.hid hR
 clear hR hc1 hc2
 go_enter Try.func29, Try.ntmps29
 go_wp2
 go_loopw [3, 11] (fun l i wr => ∃ (j : Nat), j ≤ L.length ∧ i = .int .i64 j ∧ Below W.heap.size W wr ∧ wr.ownsRow W.heap.size 43 5 l j (gRow ((L.take j).map g2))) (fun _ i _ => L.length - (intOf i).toNat)
 case atStart => exact ⟨0, Nat.zero_le _, rfl, Below.refl _ _, World.ownsRow_nil _ _ _ _⟩
 case round =>
  obtain ⟨j, hj, rfl, hb, hrow⟩ := hrel
  by_cases hlt : j < L.length
  ·obtain ⟨q, hq⟩ : ∃ q, L[j]? = some q := ⟨_, List.getElem?_eq_getElem hlt⟩
   obtain ⟨g, c', e, hcs⟩ := (HR.out.below hb).cells hq
   injection e with e1 e2 e3
   subst e1 e3
   have d0 := hcs 0 (by omega)
   have d1 := hcs 1 (by omega)
   have d2 := hcs 2 (by omega)
   have d3 := hcs 3 (by omega)
   have d4 := hcs 4 (by omega)
   have d5 := hcs 5 (by omega)
   simp [fCells] at d0 d1 d2 d3 d4 d5
   have g1 : (j : Int) < L.length := by omega
   obtain ⟨Aq, cq, hsv⟩ : ∃ Aq cq, q.2.1 = .slice Aq q.1.vars.length cq := by
    rcases (HR.out.each q (List.mem_of_getElem? hq)).row.2 with ⟨e, h0⟩ | ⟨g9, cap, cur, e, -⟩
    ·exact ⟨none, 0, by rw [e, h0]⟩
    ·exact ⟨_, _, e⟩
   obtain ⟨Al, cl, rfl, hcl⟩ : ∃ Al cl, u3 = .slice Al j cl ∧ cl ≤ maxLen := by
    rcases hrow.2 with ⟨e, h0⟩ | ⟨g9, cap, cur, e, k1, k2, k3, k4, k5⟩
    ·exact ⟨none, 0, by rw [e, h0], by unfold maxLen; omega⟩
    ·exact ⟨_, _, e, k4⟩
   rw [hsv] at d3
   have hal1 := below_alloc9 wr (.cells #[.int .i64 q.1.around, .string (bs q.1.name), .int .i64 q.1.params, .slice Aq q.1.vars.length cq, .int .i64 q.1.mark, .map (some q.2.2)] 75)
   obtain ⟨W1, e1⟩ : ∃ W1, wr.alloc (.cells #[.int .i64 q.1.around, .string (bs q.1.name), .int .i64 q.1.params, .slice Aq q.1.vars.length cq, .int .i64 q.1.mark, .map (some q.2.2)] 75) = W1 := ⟨_, rfl⟩
   have hz1 : W1.heap.size = wr.heap.size + 1 := by rw [← e1]; exact World.size_alloc _ _
   have hal2 := below_alloc9 W1 (.cells #[.int .i64 q.1.around, .string (bs q.1.name), .int .i64 q.1.params, .slice Aq q.1.vars.length cq, .int .i64 q.1.mark] 43)
   have hZ := heap_alloc_new W1 (.cells #[.int .i64 q.1.around, .string (bs q.1.name), .int .i64 q.1.params, .slice Aq q.1.vars.length cq, .int .i64 q.1.mark] 43)
   rw [e1] at hal1
   have hbW := hb.size
   have hrow2 := rowBelow hrow (hal1.trans (hal2.mono hal1.size))
   obtain ⟨i0, j0, j1, j2, j3⟩ := info_parts info43
   obtain ⟨v', w', r1, r2, r3, -, r5⟩ := run_append_own_at (P := Try.prog) _ W.heap.size 27 27 43 i0 _ 5 64 Try.underlying27 j0 j1 j2 j3 rfl (by decide) (.slice Al j cl) j _ hrow2 ⟨W1.heap.size, 0, none⟩ 1 1 (gCells (g2 q)) rfl (fun k u hk => by
     rw [add_mid, cell_of_row _ _ _ _ _ _ hZ]
     rw [← hsv]
     simpa [gCells, g2] using hk) (fun u hu => by
      simp only [gCells, g2, List.mem_cons, List.not_mem_nil, or_false] at hu
      rcases hu with rfl | rfl | rfl | hu | rfl
      ·rfl
      ·rfl
      ·rfl
      ·rw [hu, hsv]; rfl
      ·rfl) (by unfold maxLen; omega) (by omega) (by rw [World.size_alloc]; omega)
   obtain ⟨A9, c9, rfl⟩ : ∃ A c, v' = .slice A (j + 1) c := by
    rcases r2.2 with ⟨-, h0⟩ | ⟨g, cap, cur, e, -⟩
    ·omega
    ·exact ⟨_, _, e⟩
   have hbf : Below W.heap.size W w' := (hb.trans ((hal1.trans (hal2.mono hal1.size)).mono hbW)).trans ((Only.grown (F := fun k => W.heap.size ≤ k) r3 (fun r hr => (hrow.lt r hr).1)).below (by rw [World.size_alloc]; omega) (fun i h => h))
   have HN := Lib.hid (And.intro r2 (And.intro hbf hq))
   rw [hz1] at r1
   rw [← e1] at r1
   have HRun := Lib.hid r1
   clear r1 r2 r3 r5 hrow hrow2 hb hbf hZ hal1 hal2 hq hcs e1 j0 j1 j2 j3 hsv hcl
   go_wp2_with (at_builtin; refine wl_app rfl _ _ 27 rfl _ _ rfl rfl (fun v w => v = .slice A9 (j + 1) c9 ∧ w = w') ⟨_, _, HRun.out, rfl, rfl⟩ ?_; rintro v5 w5 ⟨rfl, rfl⟩)
   go_roundw
   case rel => exact ⟨j + 1, by omega, by go_num, HN.out.2.1, by rw [g2_take L HN.out.2.2]; exact HN.out.1⟩
   case measure => simp [intOf]; omega
  ·have g1 : ¬ (j : Int) < L.length := by omega
   have hjj : j = L.length := by omega
   subst hjj
   rw [List.take_length] at hrow
   have HN := Lib.hid (And.intro hb hrow)
   clear hb hrow
   go_wp2
   go_ret
   exact ⟨_, rfl, by rw [← hlen]; exact HN.out.2, HN.out.1⟩
end
section
open Go.RowKit Go.Proofs
def BoxAt (w : World) (B : Nat) (t : Tr) (u : Value) : Prop :=
 w.cell? ⟨B, 0, none⟩ = some (.int .i64 t.op) ∧ w.cell? ⟨B, 1, none⟩ = some (.string (bs t.s)) ∧ w.cell? ⟨B, 2, none⟩ = some (.int .i64 t.n) ∧ w.cell? ⟨B, 3, none⟩ = some u ∧ w.cell? ⟨B, 4, none⟩ = some (.int .i64 t.line)
theorem box_in {W0 w' : World} {B : Nat} {t : Tr} {u : Value} (hb : Below W0.heap.size W0 w') (h : W0.heap[B]? = some (.cells #[.int .i64 t.op, .string (bs t.s), .int .i64 t.n, u, .int .i64 t.line] 24 (0, 0))) : BoxAt w' B t u := by
 have hx : w'.heap[B]? = some (.cells #[.int .i64 t.op, .string (bs t.s), .int .i64 t.n, u, .int .i64 t.line] 24 (0, 0)) := (hb.block B (Array.getElem?_eq_some_iff.1 h).1).trans h
 exact ⟨cell_of_row _ _ 0 _ _ _ hx, cell_of_row _ _ 1 _ _ _ hx, cell_of_row _ _ 2 _ _ _ hx, cell_of_row _ _ 3 _ _ _ hx, cell_of_row _ _ 4 _ _ _ hx⟩
theorem elem_at {w wr : World} {b g off i : Nat} {xs : List Tr} {x : Tr} (HA : AtL w b g off xs) (hg : g < b) (hb : Below b w wr) (hx : xs[i]? = some x) :
  ∃ Av cv, At wr b x (nodeV x (.slice Av x.l.length cv)) ∧ wr.cell? ⟨g, off + i * 5, none⟩ = some (.int .i64 x.op) ∧ wr.cell? ⟨g, off + i * 5 + 1, none⟩ = some (.string (bs x.s)) ∧ wr.cell? ⟨g, off + i * 5 + 2, none⟩ = some (.int .i64 x.n) ∧
   wr.cell? ⟨g, off + i * 5 + 3, none⟩ = some (.slice Av x.l.length cv) ∧ wr.cell? ⟨g, off + i * 5 + 4, none⟩ = some (.int .i64 x.line) := by
 obtain ⟨vx, hAt, x0, x1, x2, x3, x4⟩ := AtL.get xs i x (AtL.keep (W' := wr) (n' := b) xs HA hg (Nat.le_refl _) fun _ hp => hb.cell hp) hx
 have hvx : ∃ A c, vx = .slice A x.l.length c := by
  have h := hAt
  rw [At_iff] at h
  obtain ⟨u', e', ⟨A', c', rfl, _⟩, _⟩ := h
  unfold nodeV at e'
  simp at e'
  exact ⟨A', c', e'⟩
 obtain ⟨Av, cv, rfl⟩ := hvx
 exact ⟨Av, cv, hAt, x0, x1, x2, x3, x4⟩
theorem At.more {w w' : World} {b : Nat} {x : Tr} {v : Value} (h : At w b x v) (hg : Below b w w') : At w' b x v := h.below hg
theorem row_at {w : World} {b : Nat} {xs : List Tr} {v : Value} (h : Row w b xs v) : ∃ A c, v = .slice A xs.length c ∧ xs.length ≤ c ∧ c ≤ maxLen := by
 obtain ⟨A, c, rfl, h1, _⟩ := h
 exact ⟨A, c, rfl, h1.1, h1.2⟩
theorem bs_eq_iff (a b : Bs) : ((bs a).toList == (bs b).toList) = decide (a = b) := by
 rw [Lib.toList_data, Lib.toList_data, bs_list, bs_list, Bool.eq_iff_iff]
 simp
end
section
open Go.RowKit Go.Proofs
def five (p : Tr × Value) : List Value := [.int .i64 p.1.op, .string (bs p.1.s), .int .i64 p.1.n, p.2, .int .i64 p.1.line]
theorem fives_len : ∀ l : List (Tr × Value), (l.flatMap five).length = l.length * 5
 | [] => rfl
 | a :: r => by rw [List.flatMap_cons, List.length_append, fives_len r, List.length_cons]; simp [five]; omega
theorem own_row_ge {W : World} {B e size n : Nat} {v : Value} {xs : List Value} (h : W.ownsRow B e size v n xs) : ∀ r, v.ownBlock = some r → B ≤ r := fun r hr => by
 rcases h.2 with ⟨rfl, _⟩ | ⟨g, cap, cur, rfl, h1, _⟩
 ·simp [Value.ownBlock] at hr
 ·simp [Value.ownBlock] at hr
  omega
theorem five_one {W : World} {n : Nat} {p : Tr × Value} (h : At W n p.1 (nodeV p.1 p.2)) : ∀ u ∈ five p, u.oneCell' = true := by
 obtain ⟨u, e, ⟨A, c, hv, _⟩, _⟩ := (At_iff _ _ _ _).1 h
 unfold nodeV at e
 simp only [Value.agg.injEq, Array.mk.injEq, List.cons.injEq, and_true, true_and] at e
 rw [← e] at hv
 unfold five
 rw [hv]
 intro u hu
 simp only [List.mem_cons, List.not_mem_nil, or_false] at hu
 rcases hu with rfl | rfl | rfl | rfl | rfl <;> rfl
theorem ownsRow_low {W : World} {b b' : Nat} {e : TypeId} {s n : Nat} {v : Value} {xs : List Value} (h : W.ownsRow b e s v n xs) (hb : b' ≤ b) : W.ownsRow b' e s v n xs := by
 refine ⟨h.1, ?_⟩
 rcases h.2 with h | ⟨g, cap, cur, rfl, h1, h2⟩
 ·exact .inl h
 ·exact .inr ⟨g, cap, cur, rfl, by omega, h2⟩
theorem own_cells {W : World} {b : Nat} {e : TypeId} {s n : Nat} {v : Value} {xs : List Value} (h : W.ownsRow b e s v n xs) (hn : 0 < n) :
  ∃ g cap, v = .slice (some ⟨g, 0, none⟩) n cap ∧ b ≤ g ∧ ∀ j u, xs[j]? = some u → W.cell? ((⟨g, 0, none⟩ : Addr).add j) = some u := by
 rcases h.2 with ⟨-, h0⟩ | ⟨g, cap, cur, rfl, h1, h2, h3, h4, h5, h6⟩
 ·omega
 ·refine ⟨g, cap, rfl, h1, fun j u hu => ?_⟩
  have ha : (⟨g, 0, none⟩ : Addr).add j = ⟨g, j, none⟩ := by cases j <;> simp [Addr.add]
  rw [ha, cell_of_row _ _ _ _ _ _ h2]
  rw [← h6, List.getElem?_take] at hu
  split at hu
  ·rw [← hu, Array.getElem?_toList]
  ·cases hu
def Flattens (W0 : World) (n0 : Nat) (t : Tr) (w : World) (e : Ending) (w' : World) : Prop :=
 ∃ (v : Value) (ps : List (Tr × Value)), e = .returned v ∧ ps.map (·.1) = t.flat ∧ (∀ p ∈ ps, At W0 n0 p.1 (nodeV p.1 p.2)) ∧ w'.ownsRow w.heap.size 24 5 v ps.length (ps.flatMap five) ∧ Below w.heap.size w w'
theorem flats_next {l : List Tr} {k : Nat} {y : Tr} (h : l[k]? = some y) : flats (l.take (k + 1)) = flats (l.take k) ++ y.flat := by
 have key : ∀ (a b : List Tr), flats (a ++ b) = flats a ++ flats b := by
  intro a
  induction a with
  | nil => intro b; rw [flats_nil]; rfl
  | cons x r ih => intro b; rw [List.cons_append, flats_cons, flats_cons, ih, List.append_assoc]
 rw [List.take_add_one, h, key, Option.toList_some, flats_cons, flats_nil, List.append_nil]
theorem flats_take_len (l : List Tr) (k : Nat) : (flats (l.take k)).length ≤ sizes l := by
 have key : ∀ (a b : List Tr), sizes (a ++ b) = sizes a + sizes b := sizes_app
 rw [flats_len]
 have := key (l.take k) (l.drop k)
 rw [List.take_append_drop] at this
 omega
theorem flat_any (W0 : World) (n0 : Nat) (t : Tr) : ∀ (v : Value) (w : World), At W0 n0 t v → Below n0 W0 w → n0 ≤ w.heap.size → t.size ≤ 1000000 → Calls Try.prog 24 #[v] w (Flattens W0 n0 t w) := by
 induction t using tree_ind with
 | h t ih =>
 intro v w hA hW hn0 hsz
 obtain ⟨ua, rfl, hrow, -⟩ := (At_iff _ _ _ _).1 hA
 obtain ⟨A, c, rfl, hlc, hcm⟩ := row_at hrow
 have hform : ∀ k y, t.l[k]? = some y → ∃ g off, A = some ⟨g, off, none⟩ ∧ ∀ w', Below n0 W0 w' → ∃ Av cv, At W0 n0 y (nodeV y (.slice Av y.l.length cv)) ∧ w'.cell? ⟨g, off + k * 5, none⟩ = some (.int .i64 y.op) ∧ w'.cell? ⟨g, off + k * 5 + 1, none⟩ = some (.string (bs y.s)) ∧ w'.cell? ⟨g, off + k * 5 + 2, none⟩ = some (.int .i64 y.n) ∧
   w'.cell? ⟨g, off + k * 5 + 3, none⟩ = some (.slice Av y.l.length cv) ∧ w'.cell? ⟨g, off + k * 5 + 4, none⟩ = some (.int .i64 y.line) := fun k y hy => by
  obtain ⟨hk, -⟩ := List.getElem?_eq_some_iff.1 hy
  obtain ⟨A', c', e, -, h2⟩ := hrow
  cases e
  obtain ⟨g, off, rfl, hg, ha⟩ := h2 (by omega)
  refine ⟨g, off, rfl, fun w' hb => ?_⟩
  obtain ⟨Av, cv, hAv, -⟩ := elem_at ha hg (Below.refl n0 W0) hy
  obtain ⟨Av', cv', -, x0, x1, x2, x3, x4⟩ := elem_at ha hg (Below.refl n0 W0) hy
  obtain ⟨vv, hvv, c0, c1, c2, c3, c4⟩ := AtL.get t.l k y ha hy
  obtain ⟨uu, e2, ⟨A2, cp2, e3, -⟩, -⟩ := (At_iff _ _ _ _).1 hvv
  unfold nodeV at e2
  simp only [Value.agg.injEq, Array.mk.injEq, List.cons.injEq, and_true, true_and] at e2
  subst e2
  subst e3
  exact ⟨A2, cp2, hvv, (hb.cell hg).trans c0, (hb.cell hg).trans c1, (hb.cell hg).trans c2, (hb.cell hg).trans c3, (hb.cell hg).trans c4⟩
 obtain ⟨W1, eW⟩ : ∃ W, w.alloc (.cells #[.int .i64 t.op, .string (bs t.s), .int .i64 t.n, .slice A t.l.length c, .int .i64 t.line] 24) = W := ⟨_, rfl⟩
 have hb0 : Below w.heap.size w W1 := by rw [← eW]; exact (Below.refl _ w).alloc (Nat.le_refl _) _
 have hz0 : W1.heap.size = w.heap.size + 1 := by rw [← eW]; simp
 have hx : W1.heap[w.heap.size]? = some (.cells #[.int .i64 t.op, .string (bs t.s), .int .i64 t.n, .slice A t.l.length c, .int .i64 t.line] 24 (0, 0)) := by rw [← eW]; exact heap_alloc_new w _
 have hbx := fun (w' : World) (hb : Below W1.heap.size W1 w') => box_in hb hx
 have hlow := fun (w' : World) (hb : Below W1.heap.size W1 w') => (hW.trans (hb0.mono hn0)).trans (hb.mono (show n0 ≤ W1.heap.size by omega))
 unfold nodeV at hA ⊢
 unfold BoxAt at hbx
 obtain ⟨i0, hi, hi1, hi2, hi3⟩ := info_parts node_info
 have HI := Lib.hid (And.intro hi (And.intro hi1 (And.intro hi2 hi3)))
 have HW := Lib.hid (And.intro eW (And.intro hb0 (And.intro hz0 hn0)))
 have HBx := Lib.hid hbx
 have HLow := Lib.hid hlow
 have HF := Lib.hid hform
 have HLc := Lib.hid hlc
 have HA := Lib.hid (And.intro hA hsz)
 have HIH := Lib.hid ih
 clear ih
 have hsl : t.l.length ≤ 1000000 := by
  have := length_le_sizes t.l
  have := size_eq t
  omega
 obtain ⟨f0, f1, f2, f3, f4⟩ := HBx.out W1 (Below.refl _ _)
 have hstart : (W1.alloc (.cells #[.int .i64 t.op, .string (bs t.s), .int .i64 t.n, .slice A t.l.length c, .int .i64 t.line] 24)).ownsRow W1.heap.size 24 5 (.slice (some ⟨W1.heap.size, 0, none⟩) 1 1) 1 (five (t, .slice A t.l.length c)) :=
  ⟨rfl, .inr ⟨W1.heap.size, 1, _, rfl, Nat.le_refl _, heap_alloc_new W1 _, Nat.le_refl _, by unfold maxLen; decide, rfl, rfl⟩⟩
 have HSt := Lib.hid (And.intro hstart ((Below.refl _ W1).alloc (Nat.le_refl _) (.cells #[.int .i64 t.op, .string (bs t.s), .int .i64 t.n, .slice A t.l.length c, .int .i64 t.line] 24)))
 clear hi hi1 hi2 hi3 hA hrow hlc hcm hform hb0 hx hbx hlow hW hn0 hsz hstart
 go_enter Try.func24, Try.ntmps24
 go_wp2
 go_loopw [3, 4] (fun v i wr => ∃ (k : Nat) (ps : List (Tr × Value)), k ≤ t.l.length ∧ i = .int .i64 k ∧ RowKit.Hid (ps.map (·.1) = t :: flats (t.l.take k) ∧ (∀ p ∈ ps, At W0 n0 p.1 (nodeV p.1 p.2)) ∧ wr.ownsRow W1.heap.size 24 5 v ps.length (ps.flatMap five) ∧ Below W1.heap.size W1 wr)) (fun _ i _ => t.l.length - (intOf i).toNat)
 case atStart =>
  refine ⟨0, [(t, .slice A t.l.length c)], Nat.zero_le _, rfl, Lib.hid ⟨?_, fun p hp => ?_, ?_, ?_⟩⟩
  ·simp [flats_nil]
  ·rw [List.mem_singleton.1 hp]; exact HA.out.1
  ·rw [← HW.out.2.2.1]
   exact HSt.out.1
  ·exact HSt.out.2
 case round =>
  obtain ⟨k, ps, hk, rfl, HR⟩ := hrel
  clear f0 f1 f2 f3 f4
  obtain ⟨f0, f1, f2, f3, f4⟩ := HBx.out wr HR.out.2.2.2
  have hlen : ps.length = 1 + (flats (t.l.take k)).length := by
   have := congrArg List.length HR.out.1
   simp only [List.length_map, List.length_cons] at this
   omega
  by_cases hlt : k < t.l.length
  ·obtain ⟨y, hy⟩ : ∃ y, t.l[k]? = some y := ⟨_, List.getElem?_eq_getElem hlt⟩
   have hym := List.mem_of_getElem? hy
   obtain ⟨g, off, hAg, hcell⟩ := HF.out k y hy
   obtain ⟨Av, cv, hyA, x0, x1, x2, x3, x4⟩ := hcell wr (HLow.out wr HR.out.2.2.2)
   have hys := size_part hym
   have hc := HIH.out y hys _ wr hyA (HLow.out wr HR.out.2.2.2) (by have := HR.out.2.2.2.size; have := HW.out.2.2; omega) (by have := HA.out.2; omega)
   unfold nodeV at hc
   subst hAg
   have hkc : k < c := by have := HLc.out; omega
   have hk15 : k ≤ 1000000 := by omega
   have hps : ps.length ≤ 1000000 := by
    have := flats_take_len t.l k
    have := size_eq t
    have := HA.out.2
    omega
   have hnext : t :: flats (t.l.take (k + 1)) = (t :: flats (t.l.take k)) ++ y.flat := by rw [flats_next hy]; rfl
   have hysz : y.size ≤ 1000000 := by have := HA.out.2; omega
   have HN := Lib.hid (And.intro hnext hysz)
   have HC := Lib.hid hc
   clear hc hnext hym hys hyA hcell hysz hlen hy
   go_wp2_with fail
   go_at_call 24
   refine HC.out.mono ?_
   rintro e w5 ⟨v5, ps5, rfl, h51, h52, h53, h54⟩
   have hl5 : ps5.length = y.size := by
    have := congrArg List.length h51
    rw [flat_len, List.length_map] at this
    exact this
   have hpos : 0 < ps5.length := by have := size_pos y; omega
   obtain ⟨g5, c5, rfl, hg5, hc5⟩ := own_cells h53 hpos
   have hown5 := rowBelow HR.out.2.2.1 h54
   have hsz5 : ps5.length ≤ 1000000 := by have := HN.out.2; omega
   have H5 := Lib.hid (And.intro h51 (And.intro h52 (And.intro (HR.out.2.2.2.trans (h54.mono HR.out.2.2.2.size)) (And.intro hown5 (And.intro hc5 (And.intro hps hsz5))))))
   clear h51 h52 h53 h54 hl5 hpos hg5 hc5 hown5 hps hsz5
   go_wp2_with (at_builtin; refine wpList_append_own _ rfl _ _ 22 rfl W1.heap.size 24 i0 (.agg #[.int .i64 0, .string ⟨#[]⟩, .int .i64 0, .slice none 0 0, .int .i64 0]) 5 64 Try.underlying22 HI.out.1 HI.out.2.1 HI.out.2.2.1 HI.out.2.2.2 rfl (by decide) _ _ _ rfl H5.out.2.2.2.1 ⟨g5, 0, none⟩ ps5.length c5 (ps5.flatMap five) rfl (fives_len ps5) H5.out.2.2.2.2.1 (fun u hu => by obtain ⟨p, hp, hu⟩ := List.mem_flatMap.1 hu; exact five_one (H5.out.2.1 p hp) u hu) (by have := H5.out.2.2.2.2.2; unfold maxLen; omega) (by have := H5.out.2.2.2.2.2; omega) (H5.out.2.2.1.size) ?_; intro v' w' hown hg _; have HG := Lib.hid (And.intro hown hg); clear hown hg)
   go_roundw
   case rel =>
    refine ⟨k + 1, ps ++ ps5, by omega, by simp, Lib.hid ⟨?_, fun p hp => ?_, ?_, ?_⟩⟩
    ·rw [List.map_append, HR.out.1, H5.out.1, HN.out.1]
    ·rcases List.mem_append.1 hp with hp | hp
     ·exact HR.out.2.1 p hp
     ·exact H5.out.2.1 p hp
    ·rw [List.length_append, List.flatMap_append]
     exact HG.out.1
    ·exact H5.out.2.2.1.grown HG.out.2 H5.out.2.2.1.size (own_row_ge H5.out.2.2.2.1)
   case measure => simp [intOf]; omega
  ·obtain rfl : k = t.l.length := by omega
   clear hlen
   go_wp2
   go_ret
   refine ⟨_, ps, rfl, ?_, HR.out.2.1, ownsRow_low HR.out.2.2.1 (by have := HW.out.2.2; omega), HW.out.2.1.trans (HR.out.2.2.2.mono (by have := HW.out.2.2; omega))⟩
   rw [HR.out.1, List.take_length, flat_eq]
end
end Go.Proofs.Ytejbdoiamhfbjaa
