/- gumshoeref03.expr, stmt, Right, RightExpr; JtreeRight. Functions that are told: what is read of them. A text's program, by the document. The heads' two texts and their programs. The heads of scope's laws are true. -/
import Derived.Test.YtbpodijcndglgaaProg
import Derived.Deep.RegionHeld3
import Derived.Test.YtbpodijcndglgaaPn23
import Derived.Test.YtbpodijcndglgaaPn28
import Derived.Test.YtbpodijcndglgaaPn29
import Derived.Test.YtbpodijcndglgaaPn30
import Derived.Test.YtbpodijcndglgaaPn31
import Derived.Test.YtbpodijcndglgaaPn45
set_option linter.unusedSimpArgs false
set_option linter.unusedVariables false
set_option maxRecDepth 100000
set_option maxHeartbeats 40000000
namespace Go.Proofs.Ytbpodijcndglgaa
section
open Go.RowKit Go.Proofs
theorem isE_cases {t : Tr} (h : isE t) : t.op = 1 ∨ t.op = 2 ∨ t.op = 3 ∨ t.op = 4 ∨ t.op = 5 ∨ t.op = 6 ∨ t.op = 7 ∨ t.op = 8 ∨ t.op = 9 ∨ t.op = 10 ∨ t.op = 11 ∨ t.op = 13 ∨ t.op = 14 ∨ t.op = 15 ∨ t.op = 16 ∨ t.op = 17 ∨ t.op = 18 ∨ t.op = 19 ∨ t.op = 20 ∨ t.op = 21 ∨ t.op = 22 ∨ t.op = 23 := by
 unfold isE hasB at h
 simp at h
 omega
theorem isS_cases {t : Tr} (h : isS t) : t.op = 30 ∨ t.op = 31 ∨ t.op = 32 ∨ t.op = 33 ∨ t.op = 34 ∨ t.op = 35 ∨ t.op = 36 ∨ t.op = 37 ∨ t.op = 38 ∨ t.op = 39 ∨ t.op = 40 ∨ t.op = 41 := by
 unfold isS hasB at h
 simp at h
 omega
theorem ref_any (t : Tr) : ∀ h : Int, h ≤ 1000 → RefE h t ∧ RefS h t := by
 induction t using tree_ind with
 | h t ih =>
 intro h hh
 have hE : ∀ y ∈ t.l, RefE (h - 1) y := fun y hy => (ih y (size_part hy) (h - 1) (by omega)).1
 have hS : ∀ y ∈ t.l, RefS (h - 1) y := fun y hy => (ih y (size_part hy) (h - 1) (by omega)).2
 have hEE : ∀ y ∈ t.l, ∀ z ∈ y.l, RefE (h - 2) z := fun y hy z hz => (ih z (by have := size_part hy; have := size_part hz; omega) (h - 2) (by omega)).1
 constructor
 ·intro v w hA
  by_cases h1 : 1 ≤ h
  ·obtain ⟨u, rfl, hrow, -⟩ := (At_iff _ _ _ _).1 hA
   obtain ⟨A, c, rfl, hlc, hcm⟩ := row_at hrow
   have hlen : t.l.length ≤ 9223372036854775807 := by unfold maxLen at hcm; omega
   by_cases hi : isE t
   ·rcases isE_cases hi with e | e | e | e | e | e | e | e | e | e | e | e | e | e | e | e | e | e | e | e | e | e
    ·exact rex_1 h t A c w e h1 hh hA hE hlen
    ·exact rex_2 h t A c w e h1 hh hA hE hlen
    ·exact rex_3 h t A c w e h1 hh hA hE hlen
    ·exact rex_4 h t A c w e h1 hh hA hE hlen
    ·exact rex_5 h t A c w e h1 hh hA hE hlen
    ·exact rex_6 h t A c w e h1 hh hA hE hlen
    ·exact rex_7 h t A c w e h1 hh hA hE hlen
    ·exact rex_8 h t A c w e h1 hh hA hE hlen
    ·exact rex_9 h t A c w e h1 hh hA hE hlen
    ·exact rex_10 h t A c w e h1 hh hA hE hlen hS
    ·exact rex_11 h t A c w e h1 hh hA hEE hlen
    ·exact rex_13 h t A c w e h1 hh hA hE hlen
    ·exact rex_14 h t A c w e h1 hh hA hE hlen
    ·exact rex_15 h t A c w e h1 hh hA hE hlen
    ·exact rex_16 h t A c w e h1 hh hA hE hlen
    ·exact rex_17 h t A c w e h1 hh hA hE hlen
    ·exact rex_18 h t A c w e h1 hh hA hE hlen
    ·exact rex_19 h t A c w e h1 hh hA hE hlen
    ·exact rex_20 h t A c w e h1 hh hA hE hlen
    ·exact rex_21 h t A c w e h1 hh hA hE hlen
    ·exact rex_22 h t A c w e h1 hh hA hE hlen
    ·exact rex_23 h t A c w e h1 hh hA hE hlen
   ·exact rex_none h t A c w h1 hh hA hi
  ·exact rex_low h t v w hA (by omega)
 ·intro v w hA
  by_cases h1 : 1 ≤ h
  ·obtain ⟨u, rfl, hrow, -⟩ := (At_iff _ _ _ _).1 hA
   obtain ⟨A, c, rfl, hlc, hcm⟩ := row_at hrow
   have hlen : t.l.length ≤ 9223372036854775807 := by unfold maxLen at hcm; omega
   by_cases hi : isS t
   ·rcases isS_cases hi with e | e | e | e | e | e | e | e | e | e | e | e
    ·exact rst_30 h t A c w e h1 hh hA hE hS hlen
    ·exact rst_31 h t A c w e h1 hh hA hE hS hlen
    ·exact rst_32 h t A c w e h1 hh hA hE hS hlen
    ·exact rst_33 h t A c w e h1 hh hA hE hS hlen
    ·exact rst_34 h t A c w e h1 hh hA hE hS hlen
    ·exact rst_35 h t A c w e h1 hh hA hE hS hlen
    ·exact rst_36 h t A c w e h1 hh hA hE hS hlen
    ·exact rst_37 h t A c w e h1 hh hA hE hS hlen
    ·exact rst_38 h t A c w e h1 hh hA hE hS hlen
    ·exact rst_39 h t A c w e h1 hh hA hE hS hlen
    ·exact rst_40 h t A c w e h1 hh hA hE hS hlen
    ·exact rst_41 h t A c w e h1 hh hA hE hS hlen
   ·exact rst_none h t A c w h1 hh hA hi
  ·exact rst_low h t v w hA (by omega)
theorem rright_all (t : Tr) (v : Value) (w : World) (ht : At w w.heap.size t v) :
    Calls Try.prog 13 #[v] w fun e w' => e = .returned (.bool (rightP t)) ∧ Below w.heap.size w w' := by
  obtain ⟨u, rfl, -, -⟩ := (At_iff _ _ _ _).1 ht
  have hW : Below w.heap.size w (w.alloc (.cells #[.int .i64 t.op, .string (bs t.s), .int .i64 t.n, u, .int .i64 t.line] 24)) := (Below.refl _ w).alloc (Nat.le_refl _) _
  have h1 := block_any 100 t (ref_any t 100 (by decide)).2 _ (w.alloc (.cells #[.int .i64 t.op, .string (bs t.s), .int .i64 t.n, u, .int .i64 t.line] 24)) (At.keep t ht hW.size fun p hp => hW.cell hp)
  unfold nodeV at h1 ⊢
  have HB := Lib.hid h1
  have HW := Lib.hid hW
  have HO := Lib.hid (right_ok t)
  clear ht hW h1
  go_enter Try.func13, Try.ntmps13
  go_wp2_with fail
  go_at_call 25
  first
  | (refine HB.out.mono ?_
     rintro e w5 ⟨b, rfl, hb, hb5⟩
     have HC := Lib.hid (And.intro hb (HW.out.trans (hb5.mono HW.out.size)))
     clear hb hb5
     go_wp2
     go_ret
     have h9 := Bool.eq_iff_iff.2 (HC.out.1.trans HO.out.symm)
     subst h9
     exact ⟨by simp, HC.out.2⟩)
theorem rright_any (t : Tr) (v : Value) (w : World) (ht : At w w.heap.size t v) (hsz : t.size ≤ 1000000) :
  Calls Try.prog 13 #[v] w fun e w' => e = .returned (.bool (rightP t)) ∧ Below w.heap.size w w' := rright_all t v w ht
end
section
open Go.RowKit Go.Proofs
section
variable {W W' : World} {B : Nat} {v : Value} {fs : List Fn}
theorem FunsV.below (h : FunsV W B v fs) (hb : Below W.heap.size W W') : FunsV W' B v fs := by
 obtain ⟨L, h1, h2, h3⟩ := h
 exact ⟨L, h1, rowBelow h2 hb, fun q hq => rowBelow (h3 q hq) hb⟩
theorem FunsV.form (h : FunsV W B v fs) : ∃ A c, v = .slice A fs.length c ∧ fs.length ≤ c ∧ c ≤ maxLen := by
 obtain ⟨L, rfl, h2, h3⟩ := h
 rw [List.length_map]
 rcases h2.2 with ⟨rfl, h0⟩ | ⟨g, cap, cur, rfl, k1, k2, k3, k4, k5⟩
 ·exact ⟨none, 0, by rw [h0], by omega, by unfold maxLen; omega⟩
 ·exact ⟨_, cap, rfl, k3, k4⟩
theorem gRow_get : ∀ (L : List (Fn × Value)) (i j : Nat), j < 5 → (gRow L)[i * 5 + j]? = (L[i]?).bind fun q => (gCells q)[j]?
 | [], i, j, _ => by simp
 | a :: r, 0, j, hj => by
  rw [show gRow (a :: r) = gCells a ++ gRow r from rfl, List.getElem?_append_left (by simp [gCells]; omega)]
  simp
 | a :: r, i + 1, j, hj => by
  rw [show gRow (a :: r) = gCells a ++ gRow r from rfl, List.getElem?_append_right (by simp [gCells]; omega), show (i + 1) * 5 + j - (gCells a).length = i * 5 + j by simp [gCells]; omega, gRow_get r i j hj]
  simp
theorem FunsV.get (h : FunsV W B v fs) {i : Nat} {f : Fn} (hf : fs[i]? = some f) :
  ∃ g c As cs, v = .slice (some ⟨g, 0, none⟩) fs.length c ∧ W.cell? ⟨g, i * 5, none⟩ = some (.int .i64 f.around) ∧ W.cell? ⟨g, i * 5 + 1, none⟩ = some (.string (bs f.name)) ∧ W.cell? ⟨g, i * 5 + 2, none⟩ = some (.int .i64 f.params) ∧
   W.cell? ⟨g, i * 5 + 3, none⟩ = some (.slice As f.vars.length cs) ∧ W.cell? ⟨g, i * 5 + 4, none⟩ = some (.int .i64 f.mark) ∧ ∀ j s, f.vars[j]? = some s → ∃ b, As = some ⟨b, 0, none⟩ ∧ W.cell? ⟨b, j, none⟩ = some (.string (bs s)) := by
 obtain ⟨L, rfl, h2, h3⟩ := h
 rw [List.getElem?_map] at hf
 cases hq : L[i]? with
 | none => rw [hq] at hf; cases hf
 | some q =>
  rw [hq] at hf
  cases hf
  have hi := (List.getElem?_eq_some_iff.1 hq).1
  have hm := List.mem_of_getElem? hq
  rcases h2.2 with ⟨rfl, h0⟩ | ⟨g, cap, cur, rfl, k1, k2, k3, k4, k5⟩
  ·omega
  ·have hc : ∀ j, j < 5 → W.cell? ⟨g, i * 5 + j, none⟩ = (gCells q)[j]? := fun j hj => by
    have := World.ownsRow.cellAt (cap := cap) (g := g) ⟨h2.1, .inr ⟨g, cap, cur, rfl, k1, k2, k3, k4, k5⟩⟩ (i * 5 + j) (by omega)
    rw [this, gRow_get L i j hj, hq]
    rfl
   obtain ⟨As, cs, hs, hn⟩ : ∃ As cs, q.2 = .slice As q.1.vars.length cs ∧ ∀ j s, q.1.vars[j]? = some s → ∃ b, As = some ⟨b, 0, none⟩ ∧ W.cell? ⟨b, j, none⟩ = some (.string (bs s)) := by
    have h9 := h3 q hm
    rcases h9.2 with ⟨e, e0⟩ | ⟨b, cap', cur', e, q1, q2, q3, q4, q5⟩
    ·exact ⟨none, 0, by rw [e, e0], fun j s hj => by have := (List.getElem?_eq_some_iff.1 hj).1; omega⟩
    ·refine ⟨_, cap', e, fun j s hj => ⟨b, rfl, ?_⟩⟩
     have hj' := (List.getElem?_eq_some_iff.1 hj).1
     rw [e] at h9
     rw [World.ownsRow.cellAt h9 j (by omega), namesV, List.getElem?_map, hj]
     rfl
   refine ⟨g, cap, As, cs, by rw [List.length_map], hc 0 (by omega), hc 1 (by omega), hc 2 (by omega), ?_, hc 4 (by omega), hn⟩
   rw [hc 3 (by omega), ← hs]
   rfl
end
end
section
open Go.RowKit Go.Proofs
theorem flat_at : ∀ (L : List Tok) (k : Nat) (t : Tok) (i : Nat) (u : Value), L[k]? = some t → i < 5 → (tokCs t)[i]? = some u → (L.flatMap tokCs)[k * 5 + i]? = some u
 | [], k, t, i, u, h, _, _ => by simp at h
 | a :: r, 0, t, i, u, h, hi, hu => by
  obtain rfl : a = t := by simpa using h
  rw [List.flatMap_cons, Nat.zero_mul, Nat.zero_add, List.getElem?_append_left (by simpa [tokCs] using hi)]
  exact hu
 | a :: r, k + 1, t, i, u, h, hi, hu => by
  rw [List.flatMap_cons, List.getElem?_append_right (by simp [tokCs]; omega)]
  have := flat_at r k t i u (by simpa using h) hi hu
  have e : (k + 1) * 5 + i - (tokCs a).length = k * 5 + i := by simp [tokCs]; omega
  rw [e]
  exact this
theorem toksAt_of {b : Nat} {w : World} {v : Value} {L : List Tok} (h : w.ownsRow b 83 5 v L.length (L.flatMap tokCs)) (hl : L.length ≤ 65536) (hf : ∀ t ∈ L, t.s.length ≤ 65536 ∧ 0 ≤ t.n ∧ t.n ≤ 999999999999999) : ∃ A c, v = .slice A L.length c ∧ ToksAt w A c L := by
 obtain ⟨A, c, rfl, h1, h2⟩ := row_slice (row_zero h)
 refine ⟨A, c, rfl, ⟨fun k t hk => ?_, hl, h1, hf⟩⟩
 have hlt : k < L.length := (List.getElem?_eq_some_iff.1 hk).1
 rcases h.2 with ⟨e, h0⟩ | ⟨g, cap, cur, e, hg, hc, -⟩
 ·omega
 ·simp only [Value.slice.injEq] at e
  obtain ⟨rfl, -, rfl⟩ := e
  have key : ∀ i u, i < 5 → (tokCs t)[i]? = some u → w.cell? ⟨g, k * 5 + i, none⟩ = some u := fun i u hi hu => row_cell (row_zero h) _ u (flat_at L k t i u hk hi hu)
  exact ⟨g, rfl, heap_lt hc, key 0 _ (by decide) rfl, key 1 _ (by decide) rfl, key 2 _ (by decide) rfl, key 3 _ (by decide) rfl, key 4 _ (by decide) rfl⟩
theorem toks_any (s : ByteArray) (w : World) (hs : s.size ≤ 65536) (L : List Tok) (hL : (lexM (s.size + 1) s.data.toList 1 false []).1 = L) :
  Calls Try.prog 24 #[.string s] w fun e w' => ∃ v, e = .returned v ∧ w'.ownsRow w.heap.size 83 5 v L.length (L.flatMap tokCs) ∧ Below w.heap.size w w' := by
 have HL := lex_any s w hs
 obtain ⟨R, hR⟩ : ∃ R, lexM (s.size + 1) s.data.toList 1 false [] = R := ⟨_, rfl⟩
 rw [hR] at HL hL
 obtain ⟨l, ln, er⟩ := R
 obtain rfl : l = L := hL
 have HL := Lib.hid HL
 go_enter Try.func24, Try.ntmps24
 go_wp2_with (go_at_call 37; refine (HL.out).mono ?_; rintro e w1 ⟨v, rfl, hrow, hb⟩; have H1 := Lib.hid (And.intro hrow hb); clear hrow hb)
 go_ret
 exact ⟨_, rfl, H1.out.1, H1.out.2⟩
theorem prog_any (s : ByteArray) (w : World) (hs : s.size ≤ 65536) (L : List Tok) (hL : (lexM (s.size + 1) s.data.toList 1 false []).1 = L) (hl : L.length ≤ 65536) (hf : ∀ t ∈ L, t.s.length ≤ 65536 ∧ 0 ≤ t.n ∧ t.n ≤ 999999999999999)
  (F : Nat) (hF : F ≤ 2000001) (t : Tr) (ln er : Int) (hr : parseA L F = some (t, ln, er)) (hsz : ∀ l s1, run L F (.stmts []) ⟨0, 0, 0⟩ = some (l, s1) → (Tr.mk 32 [] 0 0 l).size ≤ 1000000) (hri : ∀ l s1, run L F (.stmts []) ⟨0, 0, 0⟩ = some (l, s1) → ∀ v w, At w w.heap.size (Tr.mk 32 [] 0 0 l) v → Calls Try.prog 13 #[v] w fun e w' => e = .returned (.bool (rightP (Tr.mk 32 [] 0 0 l))) ∧ Below w.heap.size w w') :
  Calls Try.prog 12 #[.string s] w fun e w' => ∃ v, e = .returned v ∧ Below w.heap.size w w' ∧ TreeAt w' (New w w') t v := by
 obtain ⟨W1, e1⟩ : ∃ W, w.alloc (.cells #[.int .i64 0, .string ⟨#[]⟩, .int .i64 0, .slice none 0 0, .int .i64 0] 24) = W := ⟨_, rfl⟩
 have z1 : W1.heap.size = w.heap.size + 1 := by rw [← e1]; simp
 have hb1 : Below w.heap.size w W1 := by rw [← e1]; exact (Below.refl _ w).alloc (Nat.le_refl _) _
 have bx : W1.heap[w.heap.size]? = some (.cells #[.int .i64 0, .string ⟨#[]⟩, .int .i64 0, .slice none 0 0, .int .i64 0] 24 (0, 0)) := by rw [← e1]; exact heap_alloc_new _ _
 have HT := Lib.hid (toks_any s W1 hs L hL)
 have HP := Lib.hid (fun (w : World) A cp (h : ToksAt w A cp L) => parse_any (cp := cp) (A := A) hF t ln er hr hsz hri w h)
 have H1 := Lib.hid (And.intro hb1 bx)
 clear hb1 bx hL hr hsz
 go_enter Try.func12, Try.ntmps12
 go_wp2_with fail
 go_at_call 24
 refine (HT.out).mono ?_
 rintro e w2 ⟨v2, rfl, hrow, hb2⟩
 obtain ⟨A2, c2, rfl, hta⟩ := toksAt_of hrow hl hf
 have HQ := Lib.hid (HP.out w2 A2 c2 hta)
 have z2 := hb2.size
 have H2 := Lib.hid hb2
 clear hrow hta hb2
 go_wp2_with fail
 go_at_call 23
 refine (HQ.out).mono ?_
 rintro e w3 ⟨v3, rfl, hb3, ht3⟩
 obtain ⟨A3, c3, rfl, -, -⟩ := ht3.form
 have z3 := hb3.size
 have x3 := blk_below (blk_below H1.out.2 (by have := H2.out; exact this)) hb3
 obtain ⟨w4, e4⟩ : ∃ W, w3.alloc (.cells #[.int .i64 t.op, .string (bs t.s), .int .i64 t.n, .slice A3 t.l.length c3, .int .i64 t.line] 24) = W := ⟨_, rfl⟩
 have bl4 : Below w3.heap.size w3 w4 := by rw [← e4]; exact (Below.refl _ w3).alloc (Nat.le_refl _) _
 have z4 : w4.heap.size = w3.heap.size + 1 := by rw [← e4]; simp
 have x4 := blk_below x3 bl4
 have n4 : Bx w4 w3.heap.size (.int .i64 t.op) (.string (bs t.s)) (.int .i64 t.n) (.slice A3 t.l.length c3) (.int .i64 t.line) := by rw [← e4]; exact heap_alloc_new _ _
 have t4 : TreeAt w4 (New w2 w3) t _ := ht3.keep (fun k hk => hk) (fun k hk => bl4.block k hk.2)
 have H3 := Lib.hid (And.intro ((H1.out.1.trans ((H2.out.mono (by omega)).trans (hb3.mono (by omega)))).trans (bl4.mono (by omega))) (And.intro x4 t4))
 obtain ⟨⟨y0, y1, y2, y3, y4⟩, g0, g1, g2, g3, g4⟩ := box_facts x4
 obtain ⟨p0, p1, p2, p3, p4⟩ := n4.cells
 clear hb3 ht3 x3 x4 n4 t4 bl4
 go_wp2
 have hp5 := put5_only w4 w.heap.size (.int .i64 t.op) (.string (bs t.s)) (.int .i64 t.n) (.slice A3 t.l.length c3) (.int .i64 t.line)
 refine ret_node (W := w4) (b := w.heap.size) 2 rfl rfl rfl H3.out.2.1 ⟨_, rfl, H3.out.1.trans (put5_below (Nat.le_refl _) _ _ _ _ _), H3.out.2.2.keep (fun k hk => ⟨by have := hk.1; omega, by have := hk.2; have := hp5.size; omega⟩) (fun k hk => hp5.block k (by have := hk.2; omega) (by have := hk.1; omega))⟩
end
section
open Go.RowKit Go.Proofs
def txt1 : Bs := [118, 97, 114, 32, 97, 59, 32, 102, 117, 110, 99, 116, 105, 111, 110, 32, 102, 40, 98, 41, 32, 123, 32, 114, 101, 116, 117, 114, 110, 32, 97, 32, 43, 32, 98, 59, 32, 125]
def txt2 : Bs := [118, 97, 114, 32, 97, 10, 120]
def toks1 : List Tok := (lexM 39 txt1 1 false []).1
def toks2 : List Tok := (lexM 8 txt2 1 false []).1
def prog1 : Tr := ((parseA toks1 400).map (·.1)).getD Tr.zero
def prog2 : Tr := ((parseA toks2 400).map (·.1)).getD Tr.zero
def fineT (t : Tok) : Bool := decide (t.s.length ≤ 65536) && (decide (0 ≤ t.n) && decide (t.n ≤ 999999999999999))
theorem fineT_all {L : List Tok} (h : L.all fineT = true) : ∀ t ∈ L, t.s.length ≤ 65536 ∧ 0 ≤ t.n ∧ t.n ≤ 999999999999999 := fun t ht => by
 have := List.all_eq_true.1 h t ht
 unfold fineT at this
 simpa using this
def runSize (L : List Tok) (F : Nat) : Nat := match run L F (.stmts []) ⟨0, 0, 0⟩ with
 | some (l, _) => (Tr.mk 32 [] 0 0 l).size
 | none => 0
theorem runSize_le {L : List Tok} {F n : Nat} (h : runSize L F ≤ n) : ∀ l s1, run L F (.stmts []) ⟨0, 0, 0⟩ = some (l, s1) → (Tr.mk 32 [] 0 0 l).size ≤ n := fun l s1 e => by
 unfold runSize at h
 rw [e] at h
 exact h
theorem prog1_any (w : World) : Calls Try.prog 12 #[.string (bs txt1)] w fun e w' => ∃ v, e = .returned v ∧ Below w.heap.size w w' ∧ TreeAt w' (New w w') prog1 v := by
 have hL : (lexM ((bs txt1).size + 1) (bs txt1).data.toList 1 false []).1 = toks1 := by kernel_rfl
 have hp : parseA toks1 400 = some (prog1, 0, 0) := by kernel_rfl
 have hl : (decide (toks1.length ≤ 65536)) = true := by kernel_rfl
 have hz : (decide (runSize toks1 400 ≤ 1000000)) = true := by kernel_rfl
 have hf : toks1.all fineT = true := by kernel_rfl
 refine prog_any (bs txt1) w (by show txt1.toArray.size ≤ 65536; decide) toks1 hL (by simpa using hl) (fineT_all hf) 400 (by decide) prog1 0 0 hp (runSize_le (by simpa using hz)) (fun l s1 e v w hA => rright_any _ v w hA (runSize_le (by simpa using hz) l s1 e))
theorem prog2_any (w : World) : Calls Try.prog 12 #[.string (bs txt2)] w fun e w' => ∃ v, e = .returned v ∧ Below w.heap.size w w' ∧ TreeAt w' (New w w') prog2 v := by
 have hL : (lexM ((bs txt2).size + 1) (bs txt2).data.toList 1 false []).1 = toks2 := by kernel_rfl
 have hp : parseA toks2 400 = some (prog2, 0, 0) := by kernel_rfl
 have hl : (decide (toks2.length ≤ 65536)) = true := by kernel_rfl
 have hz : (decide (runSize toks2 400 ≤ 1000000)) = true := by kernel_rfl
 have hf : toks2.all fineT = true := by kernel_rfl
 refine prog_any (bs txt2) w (by show txt2.toArray.size ≤ 65536; decide) toks2 hL (by simpa using hl) (fineT_all hf) 400 (by decide) prog2 0 0 hp (runSize_le (by simpa using hz)) (fun l s1 e v w hA => rright_any _ v w hA (runSize_le (by simpa using hz) l s1 e))
end
section
open Go.RowKit Go.Proofs
def res1 : List Fn × Tr := match resolveT prog1 with
 | .ok x => x
 | .error _ => ([], Tr.zero)
def f10 : Fn := (res1.1[0]?).getD ⟨0, [], 0, [], 0⟩
def f11 : Fn := (res1.1[1]?).getD ⟨0, [], 0, [], 0⟩
def p11 : Tr := (res1.2.l[1]?).getD Tr.zero
theorem shown_any (w : World) : Calls Try.prog 6 #[] w fun e w' => e = .returned (.bool true) ∧ Below w.heap.size w w' := by
 have h1 : resolveT prog1 = .ok (res1.1, res1.2) := by kernel_rfl
 have g1 : rightP prog1 = true := by kernel_rfl
 have z1 : (decide (prog1.size ≤ 40000)) = true := by kernel_rfl
 have h2 : resolveT prog2 = .error (2, 50) := by kernel_rfl
 have g2 : rightP prog2 = true := by kernel_rfl
 have z2 : (decide (prog2.size ≤ 40000)) = true := by kernel_rfl
 have l1 : res1.1.length = 2 := by kernel_rfl
 have l2 : res1.2.l.length = 2 := by kernel_rfl
 have a0 : res1.1[0]? = some f10 := by kernel_rfl
 have a1 : res1.1[1]? = some f11 := by kernel_rfl
 have a2 : res1.2.l[1]? = some p11 := by kernel_rfl
 have b0 : f10.vars.length = 2 := by kernel_rfl
 have b1 : f10.vars[1]? = some [102] := by kernel_rfl
 have b2 : f11.mark = 4 := by kernel_rfl
 have b3 : f11.params = 1 := by kernel_rfl
 have b4 : p11.n = 1 := by kernel_rfl
 rw [decide_eq_true_eq] at z1 z2
 have HK := Lib.hid (And.intro h1 (And.intro g1 (And.intro z1 (And.intro h2 (And.intro g2 z2)))))
 have HA := Lib.hid (And.intro a0 (And.intro a1 (And.intro a2 (And.intro b0 (And.intro b1 (And.intro b2 (And.intro b3 (And.intro b4 (And.intro l1 l2)))))))))
 clear h1 g1 z1 h2 g2 z2 l1 l2 a0 a1 a2 b0 b1 b2 b3 b4
 go_enter Try.func6, Try.ntmps6
 go_wp2_with fail
 go_at_call 12
 refine (prog1_any _).mono ?_
 rintro e w1 ⟨v1, rfl, hb1, hT1⟩
 go_wp2_with fail
 go_at_call 8
 refine (scres_any prog1 v1 w1 (New w w1) hT1 (fun k hk => hk.2) HK.out.2.2.1).mono ?_
 rintro e w2 ⟨hb2, hq⟩
 rw [if_pos HK.out.2.1, HK.out.1] at hq
 obtain ⟨fv, qv, rfl, hF, hT2⟩ := hq
 obtain ⟨Af, cf, rfl, -, -⟩ := hF.form
 obtain ⟨Aq, cq, rfl, hrow2, -⟩ := hT2.form
 obtain ⟨fs, efs⟩ : ∃ fs, res1.1 = fs := ⟨_, rfl⟩
 obtain ⟨q, eq⟩ : ∃ q, res1.2 = q := ⟨_, rfl⟩
 rw [efs] at hF HA ⊢
 rw [eq] at hT2 hrow2 HA ⊢
 rw [HA.out.2.2.2.2.2.2.2.2.1]
 rw [HA.out.2.2.2.2.2.2.2.2.2] at hrow2 ⊢
 have hal3 := below_alloc9 w2 (.cells #[.int .i64 q.op, .string (bs q.s), .int .i64 q.n, .slice Aq 2 cq, .int .i64 q.line] 24)
 have hbx3 := heap_alloc_new w2 (.cells #[.int .i64 q.op, .string (bs q.s), .int .i64 q.n, .slice Aq 2 cq, .int .i64 q.line] 24)
 have H1 := Lib.hid (And.intro hb1 (And.intro hb2 (And.intro hF (And.intro hrow2 (And.intro hal3 hbx3)))))
 clear hb1 hb2 hF hrow2 hal3 hbx3 hT1 hT2
 go_upto_region 2 with fail
 obtain ⟨w3, e3⟩ : ∃ w3, w2.alloc (.cells #[.int .i64 q.op, .string (bs q.s), .int .i64 q.n, .slice Aq 2 cq, .int .i64 q.line] 24) = w3 := ⟨_, rfl⟩
 rw [e3] at H1 ⊢
 obtain ⟨F2, eF2⟩ : ∃ F2, w2.heap.size = F2 := ⟨_, rfl⟩
 rw [eF2] at H1 ⊢
 go_wp2_with fail
 go_at_call 12
 refine (prog2_any _).mono ?_
 rintro e w4 ⟨v4, rfl, hb4, hT4⟩
 go_wp2_with fail
 go_at_call 8
 refine (scres_any prog2 v4 w4 (New w3 w4) hT4 (fun k hk => hk.2) HK.out.2.2.2.2.2).mono ?_
 rintro e w5 ⟨hb5, hq⟩
 rw [if_pos HK.out.2.2.2.2.1, HK.out.2.2.2.1] at hq
 simp only at hq
 subst hq
 unfold noTree
 have hal6 := below_alloc9 w5 (.cells #[.int .i64 0, .string ⟨#[]⟩, .int .i64 0, .slice none 0 0, .int .i64 0] 24)
 have hb36 : Below w3.heap.size w3 (w5.alloc (.cells #[.int .i64 0, .string ⟨#[]⟩, .int .i64 0, .slice none 0 0, .int .i64 0] 24)) := (hb4.trans (hb5.mono hb4.size)).trans (hal6.mono (by have := hb4.size; have := hb5.size; omega))
 go_upto_region 3 with fail
 obtain ⟨w6, e6⟩ : ∃ w6, w5.alloc (.cells #[.int .i64 0, .string ⟨#[]⟩, .int .i64 0, .slice none 0 0, .int .i64 0] 24) = w6 := ⟨_, rfl⟩
 rw [e6] at hb36 ⊢
 have hbx6 := (hb36.block F2 (heap_lt H1.out.2.2.2.2.2)).trans H1.out.2.2.2.2.2
 have hb26 : Below w2.heap.size w2 w6 := by
  rw [eF2]
  exact H1.out.2.2.2.2.1.trans (hb36.mono (by have := H1.out.2.2.2.2.1.size; omega))
 have hF6 := H1.out.2.2.1.below hb26
 obtain ⟨g, c', As, cs, ev, n0, n1, n2, n3, n4, nv⟩ := hF6.get HA.out.1
 obtain ⟨g', c'', As', cs', ev', m0, m1, m2, m3, m4, -⟩ := hF6.get HA.out.2.1
 rw [HA.out.2.2.2.2.2.2.2.2.1] at ev ev'
 injection ev with ea eb ec
 injection ev' with ea' eb' ec'
 rw [ea] at ea'
 injection ea' with ea'
 injection ea' with ea' _
 subst ea'
 obtain ⟨hb, rfl, nb⟩ := nv 1 _ HA.out.2.2.2.2.1
 subst ea
 rw [HA.out.2.2.2.1] at n3
 rw [HA.out.2.2.2.2.2.1] at m4
 rw [HA.out.2.2.2.2.2.2.1] at m2
 have hrw := H1.out.2.2.2.1
 obtain ⟨gq, oq, tq, Aq', cq', rfl, hSq, htq, -, k0, k1, k2, k3, k4⟩ := part_get hrw 1 (by omega)
 rw [HA.out.2.2.1] at htq
 cases htq
 have hgq := hSq.2
 rw [HA.out.2.2.2.2.2.2.2.1] at k2
 have k2' := (hb26.cell (p := ⟨gq, oq + 1 * 5 + 2, none⟩) hgq).trans k2
 have y3 := cell_of_row w6 F2 3 _ _ _ hbx6
 simp at y3 n3 m4 m2 k2' nb
 have HF := Lib.hid (show Below w.heap.size w w6 from ((H1.out.1.trans (H1.out.2.1.mono H1.out.1.size)).trans (hb26.mono (by have := H1.out.1.size; have := H1.out.2.1.size; omega))))
 clear hbx6 hb36 hb26 hF6 hrw e6 e3 H1 hal6 hb4 hb5 hT4
 have tb : (bs [102]).toList = [102] := by kernel_rfl
 go_wp2
 go_ret
 exact ⟨rfl, HF.out⟩
end
end Go.Proofs.Ytbpodijcndglgaa
