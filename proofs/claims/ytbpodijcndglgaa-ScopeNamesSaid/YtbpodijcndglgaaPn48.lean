/- Names with one letter more: a right program stays right, and resolves to the same. No program. gumshoelaw05.numbers. -/
import Derived.Deep.LoopGhost
import Derived.Test.YtbpodijcndglgaaPn47
set_option linter.unusedSimpArgs false
set_option linter.unusedVariables false
set_option maxRecDepth 100000
set_option maxHeartbeats 40000000
namespace Go.Proofs.Ytbpodijcndglgaa
def und (s : Bs) : Bs := s ++ [95]
theorem und_inj : ∀ a b, und a = und b → a = b := fun a b h => List.append_cancel_right h
theorem und_ne : ∀ a, und a ≠ [] := fun a h => by simp [und] at h
theorem word_und (s : Bs) : isWordL (und s) = false := by
 cases h : isWordL (und s) with
 | false => rfl
 | true =>
  unfold isWordL at h
  rw [List.contains_iff_mem] at h
  have hw : ∀ x ∈ wordsL, x.getLast? ≠ some 95 := by decide
  exact absurd (by simp [und]) (hw _ h)
theorem name_und (s : Bs) (h : isNameL s = true) : isNameL (und s) = true := by
 cases s with
 | nil => cases h
 | cons c r =>
  simp only [isNameL, Bool.and_eq_true] at h
  have hw := word_und (c :: r)
  unfold und at hw ⊢
  rw [List.cons_append] at hw ⊢
  simp only [isNameL, hw, List.all_append, h.1, h.2.1]
  decide
theorem ren_parts (f : Bs → Bs) (t : Tr) : (renT f t).op = t.op ∧ (renT f t).s = renS f t.op t.s ∧ (renT f t).n = t.n ∧ (renT f t).l = renL f t.l ∧ (renT f t).line = t.line := by
 cases t with | mk o s n i l =>
 rw [renT]
 exact ⟨rfl, rfl, rfl, rfl, rfl⟩
theorem renL_length (f : Bs → Bs) : ∀ l : List Tr, (renL f l).length = l.length
 | [] => by rw [renL]
 | t :: r => by rw [renL, List.length_cons, List.length_cons, renL_length f r]
theorem partsB_ren (f : Bs → Bs) (op count : Int) : ∀ (l : List Tr) (i : Int), partsB op count i (renL f l) = partsB op count i l
 | [], i => by rw [renL]
 | t :: r, i => by rw [renL, partsB, partsB, (ren_parts f t).1, partsB_ren f op count r (i + 1)]
theorem allows_und {c : Int} {s : Int × Int × Int × Int} (hs : shapeOf c = some s) (x : Bs) (h : allowsB s.1 x = true) : allowsB s.1 (renS und c x) = true := by
 unfold renS
 split
 ·rename_i hc
  have e : s.1 = 3 := by
   rcases hc with rfl | rfl | rfl | rfl | rfl
   ·exact congrArg Prod.fst (Option.some.inj (hs.symm.trans (show shapeOf 1 = some (3, 0, 0, 0) from by decide)))
   ·exact congrArg Prod.fst (Option.some.inj (hs.symm.trans (show shapeOf 30 = some (3, 0, 0, 1) from by decide)))
   ·exact congrArg Prod.fst (Option.some.inj (hs.symm.trans (show shapeOf 35 = some (3, 0, 2, 2) from by decide)))
   ·exact congrArg Prod.fst (Option.some.inj (hs.symm.trans (show shapeOf 38 = some (3, 0, 2, 2) from by decide)))
   ·exact congrArg Prod.fst (Option.some.inj (hs.symm.trans (show shapeOf 41 = some (3, 0, 1, 201) from by decide)))
  rw [e] at h ⊢
  exact name_und x h
 ·split
  ·rename_i hc hd
   have e : s.1 = 4 := by
    have := hd.1
    subst this
    exact congrArg Prod.fst (Option.some.inj (hs.symm.trans (show shapeOf 10 = some (4, 0, 1, 201) from by decide)))
   rw [e] at h ⊢
   have h' : (x.isEmpty || isNameL x) = true := h
   show ((und x).isEmpty || isNameL (und x)) = true
   rw [Bool.or_eq_true] at h' ⊢
   rcases h' with h' | h'
   ·exact absurd (List.isEmpty_iff.1 h') hd.2
   ·exact .inr (name_und x h')
  ·exact h
theorem sound_ren (t : Tr) (h : soundOne t = true) : soundOne (renT und t) = true := by
 obtain ⟨h1, h2, h3, h4, -⟩ := ren_parts und t
 unfold soundOne at h ⊢
 rw [h1]
 cases hs : shapeOf t.op with
 | none => rw [hs] at h; cases h
 | some s =>
  rw [hs] at h
  simp only [fitsB, Bool.and_eq_true] at h ⊢
  rw [h1, h2, h3, h4, renL_length, partsB_ren]
  exact ⟨allows_und hs t.s h.1, h.2⟩
mutual
theorem levels_ren (f : Bs → Bs) : ∀ (t : Tr) (n : Nat), (renT f t).levels n = (t.levels n).map fun p => (renT f p.1, p.2)
 | .mk op s m i l, n => by
  rw [Tr.levels, List.map_cons]
  have h : (renT f (.mk op s m i l)).levels n = (renT f (.mk op s m i l), n) :: levelsL (n + 1) (renL f l) := by
   rw [renT, Tr.levels]
  rw [h, levelsL_ren f l (n + 1)]
theorem levelsL_ren (f : Bs → Bs) : ∀ (l : List Tr) (n : Nat), levelsL n (renL f l) = (levelsL n l).map fun p => (renT f p.1, p.2)
 | [], n => by rw [renL, levelsL]; rfl
 | t :: r, n => by rw [renL, levelsL, levelsL, List.map_append, levels_ren f t n, levelsL_ren f r n]
end
theorem right_ren (t : Tr) (h : rightP t = true) : rightP (renT und t) = true := by
 unfold rightP soundT at h ⊢
 rw [Bool.and_eq_true] at h ⊢
 rw [(ren_parts und t).1]
 refine ⟨h.1, ?_⟩
 rw [levels_ren, List.all_map, List.all_eq_true]
 intro p hp
 have h1 := List.all_eq_true.1 h.2 p hp
 show goodB (renT und p.1, p.2) = true
 unfold goodB at h1 ⊢
 rw [Bool.and_eq_true] at h1 ⊢
 exact ⟨sound_ren _ h1.1, h1.2⟩
mutual
theorem ren_size (f : Bs → Bs) : ∀ t : Tr, (renT f t).size = t.size
 | .mk op s m i l => by rw [renT, Tr.size, Tr.size, ren_sizes f l]
theorem ren_sizes (f : Bs → Bs) : ∀ l : List Tr, sizes (renL f l) = sizes l
 | [] => by rw [renL]
 | t :: r => by rw [renL, sizes, sizes, ren_size f t, ren_sizes f r]
end
mutual
def nosT : Tr → List Int
 | .mk _ _ n _ l => n :: nosL l
def nosL : List Tr → List Int
 | [] => []
 | t :: r => nosT t ++ nosL r
end
mutual
theorem nos_ren (f : Bs → Bs) : ∀ t : Tr, nosT (renT f t) = nosT t
 | .mk op s m i l => by rw [renT, nosT, nosT, nosL_ren f l]
theorem nosL_ren (f : Bs → Bs) : ∀ l : List Tr, nosL (renL f l) = nosL l
 | [] => by rw [renL]
 | t :: r => by rw [renL, nosL, nosL, nos_ren f t, nosL_ren f r]
end
mutual
theorem nos_len : ∀ t : Tr, (nosT t).length = t.size
 | .mk op s m i l => by rw [nosT, Tr.size, List.length_cons, nosL_len l]; omega
theorem nosL_len : ∀ l : List Tr, (nosL l).length = sizes l
 | [] => by rw [nosL, sizes]; rfl
 | t :: r => by rw [nosL, sizes, List.length_append, nos_len t, nosL_len r]
end
theorem nosT_eq (t : Tr) : nosT t = t.n :: nosL t.l := by cases t; rw [nosT]; rfl
theorem nosL_app : ∀ a b : List Tr, nosL (a ++ b) = nosL a ++ nosL b
 | [], b => by rw [nosL]; rfl
 | t :: r, b => by rw [List.cons_append, nosL, nosL, nosL_app r b, List.append_assoc]
theorem pid_of : ∀ t : Tr, good t → PId t := by
 intro t
 induction t using tree_ind with
 | h t ih =>
  intro hg
  have hl : ∀ l : List Tr, (∀ y ∈ l, y ∈ t.l) → PIds l := by
   intro l
   induction l with
   | nil => intro _; rw [PIds]; trivial
   | cons a r ihr =>
    intro h
    rw [PIds]
    exact ⟨ih a (size_part (h a List.mem_cons_self)) (hg.part (h a List.mem_cons_self)), ihr fun y hy => h y (List.mem_cons_of_mem _ hy)⟩
  have h1 := hl t.l (fun _ h => h)
  have h2 : isFun t.op = true → ∀ x ∈ t.l.dropLast, x.op = 1 := by
   intro hf
   unfold isFun at hf
   rw [Bool.or_eq_true, beq_iff_eq, beq_iff_eq] at hf
   rcases hf with hf | hf
   ·obtain ⟨-, -, -, xs, b, e, hx, -⟩ := (inv_41 hf).1 hg.self
    rw [e, List.dropLast_concat]
    exact hx
   ·obtain ⟨-, -, -, xs, b, e, hx, -⟩ := (inv_10 hf).1 hg.self
    rw [e, List.dropLast_concat]
    exact hx
  cases t with | mk o s n i l =>
  rw [PId]
  exact ⟨h2, h1⟩
theorem good_right {t : Tr} (h : rightP t = true) : good t := by
 unfold rightP at h
 rw [Bool.and_eq_true] at h
 exact good_of h.2
theorem root_eq (p : Tr) : resT (.mk 41 [] 0 p.line [p]) (-1) false ⟨[], 0⟩ = if 200 < (openF 41 [] [p] (-1) 0).vars.length then .error (p.line, 52) else nodeE 41 [] 0 p.line (resL [p] 0 false ⟨[openF 41 [] [p] (-1) 0], 4⟩) := by
 rw [resT, if_pos (show isFun 41 = true from rfl)]
 simp
def Alike9 : Except (Int × Int) (List Fn × Tr) → Except (Int × Int) (List Fn × Tr) → Prop
 | .error x, .error y => x = y
 | .ok x, .ok y => y.2 = renT und x.2
 | _, _ => False
theorem resolve_ren9 (t : Tr) (hp : PId t) : Alike9 (resolveT t) (resolveT (renT und t)) := by
 have hln := (ren_parts und t).2.2.2.2
 have hd : decl (renT und t) [] = (decl t []).map und := decl_ren und_inj t []
 have hk : key (openF 41 [] [renT und t] (-1) 0) = keyR und (openF 41 [] [t] (-1) 0) := by
  simp [openF, key, keyR, hd]
 have hv : (openF 41 [] [renT und t] (-1) 0).vars.length = (openF 41 [] [t] (-1) 0).vars.length := by
  have := congrArg (fun z => z.2.2.1.length) hk
  simpa [key, keyR] using this
 unfold resolveT
 rw [root_eq, root_eq, hv, hln]
 by_cases h : 200 < (openF 41 [] [t] (-1) 0).vars.length
 ·rw [if_pos h, if_pos h]
  rfl
 ·rw [if_neg h, if_neg h]
  have hL := resL_ren und_inj und_ne [t] 0 false ⟨[openF 41 [] [t] (-1) 0], 4⟩ ⟨[openF 41 [] [renT und t] (-1) 0], 4⟩ (by rw [PIds, PIds]; exact ⟨hp, trivial⟩) ⟨by simp [hk], rfl⟩
  rw [show renL und [t] = [renT und t] by rw [renL, renL]] at hL
  revert hL
  cases resL [t] 0 false ⟨[openF 41 [] [t] (-1) 0], 4⟩ with
  | error x =>
   cases resL [renT und t] 0 false ⟨[openF 41 [] [renT und t] (-1) 0], 4⟩ with
   | error y => exact fun h => h
   | ok y => exact fun h => h.elim
  | ok x =>
   cases resL [renT und t] 0 false ⟨[openF 41 [] [renT und t] (-1) 0], 4⟩ with
   | error y => exact fun h => h.elim
   | ok y =>
    intro hL
    obtain ⟨e, -⟩ : y.1 = renL und x.1 ∧ _ := hL
    show y.1.headD (renT und t) = renT und (x.1.headD t)
    rw [e]
    cases x.1 with
    | nil => rw [renL]; rfl
    | cons a r => rw [renL]; rfl
theorem resOut_ren (t : Tr) (h : rightP t = true) : nosT (resOut (renT und t)).2.1 = nosT (resOut t).2.1 ∧ (resOut (renT und t)).2.2 = (resOut t).2.2 := by
 have hr := right_ren t h
 have ha := resolve_ren9 t (pid_of t (good_right h))
 unfold resOut
 rw [if_pos h, if_pos hr]
 revert ha
 cases resolveT t with
 | error x =>
  cases resolveT (renT und t) with
  | error y => intro ha; cases (show x = y from ha); exact ⟨rfl, rfl⟩
  | ok y => exact fun h => h.elim
 | ok x =>
  cases resolveT (renT und t) with
  | error y => exact fun h => h.elim
  | ok y =>
   intro ha
   obtain ⟨F, q⟩ := x
   obtain ⟨G, r⟩ := y
   have e : r = renT und q := ha
   subst e
   exact ⟨nos_ren und q, rfl⟩
section
open Go.RowKit Go.Proofs
theorem info2i : (Try.prog.info? 2).map (fun i => (i.zero, i.size, i.bytes)) = some (some (.int .i64 0), 1, 8) := by kernel_rfl
def nosV (l : List Int) : List Value := l.map fun n => .int .i64 n
theorem rowBelow8 {W W' : World} {B size n : Nat} {e : TypeId} {v : Value} {xs : List Value} (h : W.ownsRow B e size v n xs) (hb : Below W.heap.size W W') : W'.ownsRow B e size v n xs :=
 ⟨h.1, h.2.imp id fun ⟨g, cap, cur, e1, e2, e3, e4⟩ => ⟨g, cap, cur, e1, e2, (hb.block g (heap_lt e3)).trans e3, e4⟩⟩
structure NosAt (w0 w : World) (B : Nat) (u0 u : Value) (ns : List Int) : Prop where
 row : w.ownsRow B 2 1 u ns.length (nosV ns)
 on : Only (fun k => u0.ownBlock = some k) w0 w
 new : ∀ k, u.ownBlock = some k → u0.ownBlock = some k ∨ w0.heap.size ≤ k
def NosR (w : World) (B : Nat) (v : Value) (ns : List Int) (e : Ending) (w' : World) : Prop := ∃ v', e = .returned v' ∧ NosAt w w' B v v' ns
section
variable {w0 w1 w2 : World} {B : Nat} {u0 u1 u2 v : Value} {ns ns2 : List Int} {S : Nat → Prop} {t : Tr}
theorem NosAt.refl (h : w0.ownsRow B 2 1 u0 ns.length (nosV ns)) : NosAt w0 w0 B u0 u0 ns := ⟨h, Only.refl _ _, fun k h => .inl h⟩
theorem NosAt.trans (h : NosAt w0 w1 B u0 u1 ns) (k : NosAt w1 w2 B u1 u2 ns2) : NosAt w0 w2 B u0 u2 ns2 :=
 ⟨k.row, h.on.trans (k.on.mono (fun i hi he => (h.new i he).imp id (fun hn => ⟨hn, hi⟩))), fun i hi => (k.new i hi).elim (fun e => h.new i e) (fun e => .inr (by have := h.on.size; omega))⟩
theorem NosAt.form (h : NosAt w0 w1 B u0 u1 ns) : ∃ A c, u1 = .slice A ns.length c ∧ ns.length ≤ c ∧ c ≤ maxLen := row_slice (row_zero h.row)
theorem NosAt.below (h : NosAt w0 w1 B u0 u1 ns) (h0 : w0.ownsRow B 2 1 u0 ns2.length (nosV ns2)) (hB : B ≤ w0.heap.size) : Below B w0 w1 := h.on.below hB (fun i e => (own_lt h0 e).1)
theorem NosAt.pre (h : NosAt w1 w2 B u0 u1 ns) (hb : Below w0.heap.size w0 w1) : NosAt w0 w2 B u0 u1 ns :=
 ⟨h.row, (Only.of_below hb).trans' h.on, fun k hk => (h.new k hk).imp id (fun e => by have := hb.size; omega)⟩
end
theorem nosV_len (ns : List Int) : (nosV ns).length = ns.length := by simp [nosV]
theorem nos_push {w : World} {B : Nat} {v : Value} {ns : List Int} (h : w.ownsRow B 2 1 v ns.length (nosV ns)) (s : Int) (hB : B ≤ w.heap.size) (hn : ns.length ≤ 100000) :
  ∃ v' w', (Builtin.append_ #[37, 37] 37 #[v, .slice (some ⟨w.heap.size, 0, none⟩) 1 1]).run Try.prog (w.alloc (.cells #[.int .i64 s] 2)) = .ok v' w' ∧
   NosAt w w' B v v' (ns ++ [s]) := by
 have hal : Below w.heap.size w (w.alloc (.cells #[.int .i64 s] 2)) := (Below.refl _ _).alloc (Nat.le_refl _) _
 have hrow2 : (w.alloc (.cells #[.int .i64 s] 2)).ownsRow B 2 1 v ns.length (nosV ns) := ⟨h.1, h.2.imp id fun ⟨g, cap, cur, e1, e2, e3, e4⟩ => ⟨g, cap, cur, e1, e2, (hal.block g (heap_lt e3)).trans e3, e4⟩⟩
 obtain ⟨i0, j0, j1, j2, j3⟩ := info_parts info2i
 obtain ⟨v', w3, r1, r2, r3, -, r5⟩ := run_append_own_at (P := Try.prog) (w.alloc (.cells #[.int .i64 s] 2)) B 37 37 2 i0 _ 1 8 Try.underlying37 j0 j1 j2 j3 rfl (by decide) v ns.length _ hrow2 ⟨w.heap.size, 0, none⟩ 1 1 [.int .i64 s] rfl (fun j u hj => by
  rw [add_mid, cell_of_row _ _ _ _ _ _ (heap_alloc_new w _)]
  simpa using hj) (fun u hu => by simp at hu; subst hu; rfl) (by unfold maxLen; omega) (by omega) (by simp; omega)
 refine ⟨v', w3, r1, ?_, (Only.of_below hal).trans' (Only.grown r3 (fun r hr => hr.symm ▸ rfl)), fun k hk => ?_⟩
 ·have e : nosV (ns ++ [s]) = nosV ns ++ [.int .i64 s] := by simp [nosV]
  rw [e, List.length_append]
  exact r2
 ·rcases r5 with h5 | h5
  ·exact .inl (h5 ▸ hk)
  ·rw [hk] at h5
   simp at h5
   right
   omega
theorem sizes_take8 (l : List Tr) (k : Nat) (t : Tr) (h : l[k]? = some t) : sizes (l.take k) + t.size ≤ sizes l := by
 have h1 : l.take k ++ (t :: l.drop (k + 1)) = l := by
  obtain ⟨h2, h3⟩ := List.getElem?_eq_some_iff.1 h
  rw [← h3, ← List.drop_eq_getElem_cons h2, List.take_append_drop]
 have h2 := sizes_app (l.take k) (t :: l.drop (k + 1))
 rw [h1, sizes_cons] at h2
 omega
theorem numbers_any (t : Tr) : ∀ (v u : Value) (w : World) (S : Nat → Prop) (B : Nat) (ns : List Int), TreeAt w S t v → (∀ k, S k → k < B) → B ≤ w.heap.size → w.ownsRow B 2 1 u ns.length (nosV ns) → ns.length + t.size ≤ 50000 →
  Calls Try.prog 15 #[v, u] w (NosR w B u (ns ++ nosT t)) := by
 refine tree_ind (P := fun t => ∀ (v u : Value) (w : World) (S : Nat → Prop) (B : Nat) (ns : List Int), TreeAt w S t v → (∀ k, S k → k < B) → B ≤ w.heap.size → w.ownsRow B 2 1 u ns.length (nosV ns) → ns.length + t.size ≤ 50000 → Calls Try.prog 15 #[v, u] w (NosR w B u (ns ++ nosT t))) ?_ t
 clear t
 intro t ih v u w S B ns hT hS hB hrow hz
 obtain ⟨A, c, rfl, hrt, hfine⟩ := hT.form
 obtain ⟨Au, cu, rfl, hu1, hu2⟩ := row_slice (row_zero hrow)
 obtain ⟨A1, c1, e1, hc1, hc2⟩ := hrt.slice
 injection e1 with e2 e3 e4
 subst e2 e4
 have hc3 : c ≤ 9223372036854775807 := hc2
 have hsz := size_eq t
 have hlen := length_le_sizes t.l
 have hl3 : t.l.length ≤ 50000 := by omega
 have IH := Lib.hid ih
 have hbx := heap_alloc_new w (.cells #[.int .i64 t.op, .string (bs t.s), .int .i64 t.n, .slice A t.l.length c, .int .i64 t.line] 24)
 have hal := below_alloc9 w (.cells #[.int .i64 t.op, .string (bs t.s), .int .i64 t.n, .slice A t.l.length c, .int .i64 t.line] 24)
 obtain ⟨W1, eW1⟩ : ∃ W, w.alloc (.cells #[.int .i64 t.op, .string (bs t.s), .int .i64 t.n, .slice A t.l.length c, .int .i64 t.line] 24) = W := ⟨_, rfl⟩
 have hrow1 := rowBelow8 hrow hal
 rw [eW1] at hbx hal hrow1
 obtain ⟨N, eN⟩ : ∃ N, w.heap.size = N := ⟨_, rfl⟩
 have zN : W1.heap.size = N + 1 := by rw [← eW1, ← eN]; simp
 rw [eN] at hbx hB
 have hns : ns.length ≤ 50000 := by omega
 have HP0 := nos_push hrow1 t.n (by omega) (by omega)
 rw [zN] at HP0
 have HP := Lib.hid HP0
 clear HP0
 have H0 := Lib.hid (And.intro hrt (And.intro hS (And.intro hrow (And.intro hal (And.intro hbx (And.intro hT eW1))))))
 obtain ⟨x0, x1, x2, x3, x4⟩ := (box_facts hbx).1
 have HO := Lib.hid (show ∀ k, (Value.slice Au ns.length cu).ownBlock = some k → B ≤ k ∧ k < N from fun k e => by rw [← eN]; exact own_lt hrow e)
 clear hrt hS hrow hal hbx hT ih hc2 hc1 hrow1 hfine hu1 hu2
 go_enter Try.func15, Try.ntmps15
 go_wp2_with (at_builtin; refine wl_app rfl _ _ 37 rfl _ (.slice (some ⟨N + 1, 0, none⟩) 1 1) rfl rfl _ HP.out ?_; rintro u2 w2 hn2; have z2 := hn2.on.size; have hb2 := (hn2.on.block N (by omega) (fun e => by have := (HO.out N e).2; omega)).trans H0.out.2.2.2.2.1; have H2 := Lib.hid (And.intro hn2 hb2); clear x0 x1 x2 x3 x4 HP; obtain ⟨x0, x1, x2, x3, x4⟩ := (box_facts hb2).1; clear hn2 hb2)
 go_loopw [1, 5] (fun u' i wr => ∃ (k : Nat) (ns' : List Int), k ≤ t.l.length ∧ i = .int .i64 k ∧ (ns ++ [t.n]) ++ nosL (t.l.take k) = ns' ∧ NosAt W1 wr B (.slice Au ns.length cu) u' ns') (fun _ i _ => t.l.length - (intOf i).toNat)
 case atStart => exact ⟨0, ns ++ [t.n], Nat.zero_le _, rfl, by rw [List.take_zero, nosL, List.append_nil], H2.out.1⟩
 case round =>
  obtain ⟨k, ns', hk, rfl, hde, hna⟩ := hrel
  have zr := hna.on.size
  have hall : NosAt w wr B (.slice Au ns.length cu) _ ns' := hna.pre H0.out.2.2.2.1
  have hbr := (hna.on.block N (by omega) (fun e => by have := (HO.out N e).2; omega)).trans H0.out.2.2.2.2.1
  obtain ⟨x0, x1, x2, x3, x4⟩ := (box_facts hbr).1
  by_cases hlt : k < t.l.length
  ·have hrow' : RowAt wr S t.l (.slice A t.l.length c) := H0.out.1.keep (fun _ h => h) fun i hi => hall.on.block i (by have := H0.out.2.1 i hi; omega) (fun e => by have := (HO.out i e).1; have := H0.out.2.1 i hi; omega)
   obtain ⟨g, off, p, A', c', rfl, hSg, hp, hTp, y0, y1, y2, y3, y4⟩ := part_get hrow' k hlt
   have g1 : (k : Int) < t.l.length := by omega
   have hps := size_part (t := t) (List.mem_of_getElem? hp)
   have htk := sizes_take8 t.l k p hp
   have hnl := nosL_len (t.l.take k)
   have hlen9 := congrArg List.length hde
   rw [List.length_append, List.length_append, hnl, List.length_singleton] at hlen9
   have HC := Lib.hid (IH.out p hps _ _ wr S B ns' hTp H0.out.2.1 (by omega) hna.row (by omega))
   have HK := Lib.hid (And.intro hna (And.intro hp hde))
   clear hna hall hbr hrow' hTp hp hps htk hde hnl hlen9
   go_wp2_with fail
   go_at_call 15
   refine HC.out.mono ?_
   rintro e w6 ⟨u6, rfl, hn6⟩
   have H6 := Lib.hid hn6
   clear hn6
   go_wp2
   go_roundw
   case rel => exact ⟨k + 1, _, by omega, by go_num, rfl, by
    rw [List.take_add_one, HK.out.2.1, nosL_app, ← List.append_assoc, HK.out.2.2]
    rw [show nosL (some p).toList = nosT p by rw [Option.toList_some, nosL, nosL, List.append_nil]]
    exact HK.out.1.trans H6.out⟩
   case measure => simp [intOf]; omega
  ·have g1 : ¬ (k : Int) < t.l.length := by omega
   have hkl : k = t.l.length := by omega
   have HF := Lib.hid (And.intro hall (show ns ++ nosT t = ns' by rw [← hde, List.take_of_length_le (by omega), nosT_eq, List.append_assoc]; rfl))
   clear hall hbr hna hde
   go_wp2
   go_ret
   exact ⟨_, rfl, by rw [HF.out.2]; exact HF.out.1⟩
end
end Go.Proofs.Ytbpodijcndglgaa
