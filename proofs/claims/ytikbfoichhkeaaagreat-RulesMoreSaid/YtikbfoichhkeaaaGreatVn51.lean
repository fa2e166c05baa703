/- A text's program, by the document. The heads' two texts and their programs. The head of the laws of rules is true. What rules.Rules gives: an error and nothing, or a program's system. -/
import Derived.BigQuiet
import Derived.Test.YtikbfoichhkeaaaGreatVm41
import Derived.Test.YtikbfoichhkeaaaGreatVm49
import Derived.Test.YtikbfoichhkeaaaGreatVm50
set_option linter.unusedSimpArgs false
set_option linter.unusedVariables false
set_option maxRecDepth 100000
set_option maxHeartbeats 40000000
namespace Go.Proofs.YtikbfoichhkeaaaGreat
section
open Go.RowKit Go.Proofs
theorem flat_at : ∀ (L : List Tok) (k : Nat) (t : Tok) (i : Nat) (u : Value), L[k]? = some t → i < 5 → (tokCs t)[i]? = some u → (L.flatMap tokCs)[k * 5 + i]? = some u
 | [], k, t, i, u, h, _, _ => by simp at h
 | a :: r, 0, t, i, u, h, hi, hu => by
  obtain rfl : a = t := by simpa using h
  rw [List.flatMap_cons, Nat.zero_mul, Nat.zero_add, List.getElem?_append_left (by simpa [tokCs] using hi)]
  exact hu
 | a :: r, k + 1, t, i, u, h, hi, hu => by
  rw [List.flatMap_cons, List.getElem?_append_right (by simp [tokCs]; omega)]
  have := flat_at r k t i u (by simpa using h) hi hu
  have e : (k + 1) * 5 + i - (tokCs a).length = k * 5 + i := by simp [tokCs]; omega
  rw [e]
  exact this
theorem toksAt_of {b : Nat} {w : World} {v : Value} {L : List Tok} (h : w.ownsRow b 112 5 v L.length (L.flatMap tokCs)) (hl : L.length ≤ 65536) (hf : ∀ t ∈ L, t.s.length ≤ 65536 ∧ 0 ≤ t.n ∧ t.n ≤ 999999999999999) : ∃ A c, v = .slice A L.length c ∧ ToksAt w A c L := by
 obtain ⟨A, c, rfl, h1, h2⟩ := row_slice (row_zero h)
 refine ⟨A, c, rfl, ⟨fun k t hk => ?_, hl, h1, hf⟩⟩
 have hlt : k < L.length := (List.getElem?_eq_some_iff.1 hk).1
 rcases h.2 with ⟨e, h0⟩ | ⟨g, cap, cur, e, hg, hc, -⟩
 ·omega
 ·simp only [Value.slice.injEq] at e
  obtain ⟨rfl, -, rfl⟩ := e
  have key : ∀ i u, i < 5 → (tokCs t)[i]? = some u → w.cell? ⟨g, k * 5 + i, none⟩ = some u := fun i u hi hu => row_cell (row_zero h) _ u (flat_at L k t i u hk hi hu)
  exact ⟨g, rfl, heap_lt hc, key 0 _ (by decide) rfl, key 1 _ (by decide) rfl, key 2 _ (by decide) rfl, key 3 _ (by decide) rfl, key 4 _ (by decide) rfl⟩
theorem toks_any (s : ByteArray) (w : World) (hs : s.size ≤ 65536) (L : List Tok) (hL : (lexM (s.size + 1) s.data.toList 1 false []).1 = L) :
  Calls Tryz.prog 35 #[.string s] w fun e w' => ∃ v, e = .returned v ∧ w'.ownsRow w.heap.size 112 5 v L.length (L.flatMap tokCs) ∧ Below w.heap.size w w' := by
 have HL := lex_any s w hs
 obtain ⟨R, hR⟩ : ∃ R, lexM (s.size + 1) s.data.toList 1 false [] = R := ⟨_, rfl⟩
 rw [hR] at HL hL
 obtain ⟨l, ln, er⟩ := R
 obtain rfl : l = L := hL
 have HL := Lib.hid HL
 go_enter Tryz.func35, Tryz.ntmps35
 go_wp2_with (go_at_call 53; refine (HL.out).mono ?_; rintro e w1 ⟨v, rfl, hrow, hb⟩; have H1 := Lib.hid (And.intro hrow hb); clear hrow hb)
 go_ret
 exact ⟨_, rfl, H1.out.1, H1.out.2⟩
theorem prog_any (s : ByteArray) (w : World) (hs : s.size ≤ 65536) (L : List Tok) (hL : (lexM (s.size + 1) s.data.toList 1 false []).1 = L) (hl : L.length ≤ 65536) (hf : ∀ t ∈ L, t.s.length ≤ 65536 ∧ 0 ≤ t.n ∧ t.n ≤ 999999999999999)
  (F : Nat) (hF : F ≤ 2000001) (t : Tr) (ln er : Int) (hr : parseA L F = some (t, ln, er)) (hsz : ∀ l s1, run L F (.stmts []) ⟨0, 0, 0⟩ = some (l, s1) → (Tr.mk 32 [] 0 0 l).size ≤ 1000000) (hri : ∀ l s1, run L F (.stmts []) ⟨0, 0, 0⟩ = some (l, s1) → ∀ v w, At w w.heap.size (Tr.mk 32 [] 0 0 l) v → Calls Tryz.prog 17 #[v] w fun e w' => e = .returned (.bool (rightP (Tr.mk 32 [] 0 0 l))) ∧ Below w.heap.size w w') :
  Calls Tryz.prog 21 #[.string s] w fun e w' => ∃ v, e = .returned v ∧ Below w.heap.size w w' ∧ TreeAt w' (New w w') t v := by
 obtain ⟨W1, e1⟩ : ∃ W, w.alloc (.cells #[.int .i64 0, .string ⟨#[]⟩, .int .i64 0, .slice none 0 0, .int .i64 0] 24) = W := ⟨_, rfl⟩
 have z1 : W1.heap.size = w.heap.size + 1 := by rw [← e1]; simp
 have hb1 : Below w.heap.size w W1 := by rw [← e1]; exact (Below.refl _ w).alloc (Nat.le_refl _) _
 have bx : W1.heap[w.heap.size]? = some (.cells #[.int .i64 0, .string ⟨#[]⟩, .int .i64 0, .slice none 0 0, .int .i64 0] 24 (0, 0)) := by rw [← e1]; exact heap_alloc_new _ _
 have HT := Lib.hid (toks_any s W1 hs L hL)
 have HP := Lib.hid (fun (w : World) A cp (h : ToksAt w A cp L) => parse_any (cp := cp) (A := A) hF t ln er hr hsz hri w h)
 have H1 := Lib.hid (And.intro hb1 bx)
 clear hb1 bx hL hr hsz
 go_enter Tryz.func21, Tryz.ntmps21
 go_wp2_with fail
 go_at_call 35
 refine (HT.out).mono ?_
 rintro e w2 ⟨v2, rfl, hrow, hb2⟩
 obtain ⟨A2, c2, rfl, hta⟩ := toksAt_of hrow hl hf
 have HQ := Lib.hid (HP.out w2 A2 c2 hta)
 have z2 := hb2.size
 have H2 := Lib.hid hb2
 clear hrow hta hb2
 go_wp2_with fail
 go_at_call 34
 refine (HQ.out).mono ?_
 rintro e w3 ⟨v3, rfl, hb3, ht3⟩
 obtain ⟨A3, c3, rfl, -, -⟩ := ht3.form
 have z3 := hb3.size
 have x3 := blk_below (blk_below H1.out.2 (by have := H2.out; exact this)) hb3
 obtain ⟨w4, e4⟩ : ∃ W, w3.alloc (.cells #[.int .i64 t.op, .string (bs t.s), .int .i64 t.n, .slice A3 t.l.length c3, .int .i64 t.line] 24) = W := ⟨_, rfl⟩
 have bl4 : Below w3.heap.size w3 w4 := by rw [← e4]; exact (Below.refl _ w3).alloc (Nat.le_refl _) _
 have z4 : w4.heap.size = w3.heap.size + 1 := by rw [← e4]; simp
 have x4 := blk_below x3 bl4
 have n4 : Bx w4 w3.heap.size (.int .i64 t.op) (.string (bs t.s)) (.int .i64 t.n) (.slice A3 t.l.length c3) (.int .i64 t.line) := by rw [← e4]; exact heap_alloc_new _ _
 have t4 : TreeAt w4 (New w2 w3) t _ := ht3.keep (fun k hk => hk) (fun k hk => bl4.block k hk.2)
 have H3 := Lib.hid (And.intro ((H1.out.1.trans ((H2.out.mono (by omega)).trans (hb3.mono (by omega)))).trans (bl4.mono (by omega))) (And.intro x4 t4))
 obtain ⟨⟨y0, y1, y2, y3, y4⟩, g0, g1, g2, g3, g4⟩ := box_facts x4
 obtain ⟨p0, p1, p2, p3, p4⟩ := n4.cells
 clear hb3 ht3 x3 x4 n4 t4 bl4
 go_wp2
 have hp5 := put5_only w4 w.heap.size (.int .i64 t.op) (.string (bs t.s)) (.int .i64 t.n) (.slice A3 t.l.length c3) (.int .i64 t.line)
 refine ret_node (W := w4) (b := w.heap.size) 2 rfl rfl rfl H3.out.2.1 ⟨_, rfl, H3.out.1.trans (put5_below (Nat.le_refl _) _ _ _ _ _), H3.out.2.2.keep (fun k hk => ⟨by have := hk.1; omega, by have := hk.2; have := hp5.size; omega⟩) (fun k hk => hp5.block k (by have := hk.2; omega) (by have := hk.1; omega))⟩
end
section
open Go.RowKit Go.Proofs
def txt1 : Bs := [118, 97, 114, 32, 97, 32, 61, 32, 123, 125]
def txt2 : Bs := [118, 97, 114, 32, 97, 10, 98]
def toks1 : List Tok := (lexM 11 txt1 1 false []).1
def toks2 : List Tok := (lexM 8 txt2 1 false []).1
def prog1 : Tr := ((parseA toks1 400).map (·.1)).getD Tr.zero
def prog2 : Tr := ((parseA toks2 400).map (·.1)).getD Tr.zero
def fineT (t : Tok) : Bool := decide (t.s.length ≤ 65536) && (decide (0 ≤ t.n) && decide (t.n ≤ 999999999999999))
theorem fineT_all {L : List Tok} (h : L.all fineT = true) : ∀ t ∈ L, t.s.length ≤ 65536 ∧ 0 ≤ t.n ∧ t.n ≤ 999999999999999 := fun t ht => by
 have := List.all_eq_true.1 h t ht
 unfold fineT at this
 simpa using this
def runSize (L : List Tok) (F : Nat) : Nat := match run L F (.stmts []) ⟨0, 0, 0⟩ with
 | some (l, _) => (Tr.mk 32 [] 0 0 l).size
 | none => 0
theorem runSize_le {L : List Tok} {F n : Nat} (h : runSize L F ≤ n) : ∀ l s1, run L F (.stmts []) ⟨0, 0, 0⟩ = some (l, s1) → (Tr.mk 32 [] 0 0 l).size ≤ n := fun l s1 e => by
 unfold runSize at h
 rw [e] at h
 exact h
def runFew (L : List Tok) (F : Nat) : Bool := match run L F (.stmts []) ⟨0, 0, 0⟩ with
 | some (l, _) => fewT (Tr.mk 32 [] 0 0 l) && decide ((Tr.mk 32 [] 0 0 l).size ≤ 1000000)
 | none => true
theorem runFew_right {L : List Tok} {F : Nat} (h : runFew L F = true) : ∀ l s1, run L F (.stmts []) ⟨0, 0, 0⟩ = some (l, s1) → ∀ v w, At w w.heap.size (Tr.mk 32 [] 0 0 l) v → Calls Tryz.prog 17 #[v] w fun e w' => e = .returned (.bool (rightP (Tr.mk 32 [] 0 0 l))) ∧ Below w.heap.size w w' := fun l s1 e v w hA => by
 unfold runFew at h
 rw [e] at h
 simp only [Bool.and_eq_true, decide_eq_true_eq] at h
 exact rright_few _ h.1 v w hA
theorem prog1_any (w : World) : Calls Tryz.prog 21 #[.string (bs txt1)] w fun e w' => ∃ v, e = .returned v ∧ Below w.heap.size w w' ∧ TreeAt w' (New w w') prog1 v := by
 have hL : (lexM ((bs txt1).size + 1) (bs txt1).data.toList 1 false []).1 = toks1 := by kernel_rfl
 have hp : parseA toks1 400 = some (prog1, 0, 0) := by kernel_rfl
 have hl : (decide (toks1.length ≤ 65536)) = true := by kernel_rfl
 have hz : (decide (runSize toks1 400 ≤ 1000000)) = true := by kernel_rfl
 have hf : toks1.all fineT = true := by kernel_rfl
 refine prog_any (bs txt1) w (by show txt1.toArray.size ≤ 65536; decide) toks1 hL (by simpa using hl) (fineT_all hf) 400 (by decide) prog1 0 0 hp (runSize_le (by simpa using hz)) (runFew_right (by kernel_rfl))
theorem prog2_any (w : World) : Calls Tryz.prog 21 #[.string (bs txt2)] w fun e w' => ∃ v, e = .returned v ∧ Below w.heap.size w w' ∧ TreeAt w' (New w w') prog2 v := by
 have hL : (lexM ((bs txt2).size + 1) (bs txt2).data.toList 1 false []).1 = toks2 := by kernel_rfl
 have hp : parseA toks2 400 = some (prog2, 0, 0) := by kernel_rfl
 have hl : (decide (toks2.length ≤ 65536)) = true := by kernel_rfl
 have hz : (decide (runSize toks2 400 ≤ 1000000)) = true := by kernel_rfl
 have hf : toks2.all fineT = true := by kernel_rfl
 refine prog_any (bs txt2) w (by show txt2.toArray.size ≤ 65536; decide) toks2 hL (by simpa using hl) (fineT_all hf) 400 (by decide) prog2 0 0 hp (runSize_le (by simpa using hz)) (runFew_right (by kernel_rfl))
end
section
open Go.RowKit Go.Proofs
theorem ints_nil (A B : Option Addr) (c d : Nat) (W : World) : Calls Tryz.prog 32 #[.slice A 0 c, .slice B 0 d] W fun e w' => e = .returned (.bool true) ∧ W = w' := by
 go_enter Tryz.func32, Tryz.ntmps32
 go_wp2
 go_loop [5] (fun i => i = .int .i64 0) (fun _ => 0)
 case atStart => rfl
 case round =>
  obtain rfl := hrel
  go_wp2
  go_ret
  exact ⟨rfl, rfl⟩
abbrev ruC (k f x y z n m : Int) (v : Value) : Array Value := #[.int .i64 k, .int .i64 f, .int .i64 x, .int .i64 y, .int .i64 z, .int .i64 n, .int .i64 m, .string ⟨#[]⟩, v]
theorem box9c {W : World} {b : Nat} {k f x y z n m : Int} {v : Value} {T : TypeId} (h : W.heap[b]? = some (.cells (ruC k f x y z n m v) T (0, 0))) :
  W.cell? ⟨b, 0, none⟩ = some (.int .i64 k) ∧ W.cell? ⟨b, 1, none⟩ = some (.int .i64 f) ∧ W.cell? ⟨b, 2, none⟩ = some (.int .i64 x) ∧ W.cell? ⟨b, 3, none⟩ = some (.int .i64 y) ∧ W.cell? ⟨b, 4, none⟩ = some (.int .i64 z) ∧ W.cell? ⟨b, 5, none⟩ = some (.int .i64 n) ∧ W.cell? ⟨b, 6, none⟩ = some (.int .i64 m) ∧ W.cell? ⟨b, 7, none⟩ = some (.string ⟨#[]⟩) ∧ W.cell? ⟨b, 8, none⟩ = some v :=
 ⟨cell_of_row _ _ 0 _ _ _ h, cell_of_row _ _ 1 _ _ _ h, cell_of_row _ _ 2 _ _ _ h, cell_of_row _ _ 3 _ _ _ h, cell_of_row _ _ 4 _ _ _ h, cell_of_row _ _ 5 _ _ _ h, cell_of_row _ _ 6 _ _ _ h, cell_of_row _ _ 7 _ _ _ h, cell_of_row _ _ 8 _ _ _ h⟩
theorem same_rule (k f x y z n m : Int) (A B : Option Addr) (c d : Nat) (W : World) : Calls Tryz.prog 22 #[.agg (ruC k f x y z n m (.slice A 0 c)), .agg (ruC k f x y z n m (.slice B 0 d))] W fun e w' => e = .returned (.bool true) ∧ Below W.heap.size W w' := by
 obtain ⟨hal, hb0, hb1, hz⟩ := alloc2 W (.cells (ruC k f x y z n m (.slice A 0 c)) 44) (.cells (ruC k f x y z n m (.slice B 0 d)) 44)
 obtain ⟨W1, e1⟩ : ∃ W', (W.alloc (.cells (ruC k f x y z n m (.slice A 0 c)) 44)).alloc (.cells (ruC k f x y z n m (.slice B 0 d)) 44) = W' := ⟨_, rfl⟩
 rw [e1] at hal hb0 hb1 hz
 obtain ⟨N, eN⟩ : ∃ N, W.heap.size = N := ⟨_, rfl⟩
 rw [eN] at hb0 hb1 hz
 obtain ⟨a0, a1, a2, a3, a4, a5, a6, a7, a8⟩ := box9c hb0
 obtain ⟨b0, b1, b2, b3, b4, b5, b6, b7, b8⟩ := box9c hb1
 have HE := Lib.hid e1
 have HB := Lib.hid hal
 clear e1 hal hb0 hb1
 go_enter Tryz.func22, Tryz.ntmps22
 go_upto_region 1 with fail
 rw [HE.out]
 go_wp2_with (go_at_call 32; (with_reducible refine (ints_nil _ _ _ _ _).mono ?_); rintro e w' ⟨rfl, rfl⟩)
 go_ret
 exact ⟨by first | rfl | simp, HB.out⟩
def rA : Ru := ⟨3, 0, 2, 3, 0, 0, 0, [], []⟩
def rB : Ru := ⟨1, 0, 2, 0, 0, 0, 4, [], []⟩
theorem shown12_any (w : World) : Calls Tryz.prog 9 #[] w fun e w' => e = .returned (.bool true) ∧ Below w.heap.size w w' := by
 obtain ⟨out, ho⟩ : ∃ y, rulesOut (resOut prog1) = y := ⟨_, rfl⟩
 have h1 : out.2.1 = 16 ∧ out.2.2.2.1 = [rA, rB] ∧ out.2.2.2.2.2 = 0 := by
  have a : (rulesOut (resOut prog1)).2.1 = 16 := by kernel_rfl
  have b : (rulesOut (resOut prog1)).2.2.2.1 = [rA, rB] := by kernel_rfl
  have c : (rulesOut (resOut prog1)).2.2.2.2.2 = 0 := by kernel_rfl
  rw [ho] at a b c
  exact ⟨a, b, c⟩
 obtain ⟨out2, ho2⟩ : ∃ y, rulesOut (resOut prog2) = y := ⟨_, rfl⟩
 have h2 : out2.2.2.2.2.1 = 2 ∧ out2.2.2.2.2.2 = 50 := by
  have a : (rulesOut (resOut prog2)).2.2.2.2.1 = 2 := by kernel_rfl
  have b : (rulesOut (resOut prog2)).2.2.2.2.2 = 50 := by kernel_rfl
  rw [ho2] at a b
  exact ⟨a, b⟩
 have z1 : (decide (prog1.size ≤ 40000)) = true := by kernel_rfl
 have z2 : (decide (prog2.size ≤ 40000)) = true := by kernel_rfl
 rw [decide_eq_true_eq] at z1 z2
 have HK := Lib.hid (And.intro h1 (And.intro h2 (And.intro z1 (And.intro z2 (And.intro ho ho2)))))
 clear h1 h2 z1 z2 ho ho2
 go_enter Tryz.func9, Tryz.ntmps9
 go_wp2_with fail
 go_at_call 21
 refine (prog1_any _).mono ?_
 rintro e w1 ⟨v1, rfl, hb1, hT1⟩
 go_wp2_with fail
 go_at_call 11
 refine (rules_any prog1 v1 w1 (New w w1) hT1 (fun k hk => hk.2) HK.out.2.2.1).mono ?_
 rintro e w2 ⟨fv, fsv, rv, B, he, hF, hS, hR, hb2⟩
 rw [HK.out.2.2.2.2.1] at he hF hS hR
 rw [HK.out.1.1, HK.out.1.2.2] at he
 rw [HK.out.1.2.1] at hR
 subst he
 obtain ⟨A2, c2, rfl⟩ := hS.form
 obtain ⟨Ar, cr, rfl⟩ := hR.form
 obtain ⟨-, -, -, hget⟩ := SlAt.get hR
 obtain ⟨g, off, x0, cs0, rfl, hg, hx0, ⟨va, rfl, ⟨Aa, ca, rfl, -, -⟩, -⟩, hc0⟩ := hget 0 (by decide)
 obtain ⟨g', off', x1, cs1, e1, hg', hx1, ⟨vb, rfl, ⟨Ab, cb, rfl, -, -⟩, -⟩, hc1⟩ := hget 1 (by decide)
 cases e1
 cases hx0
 cases hx1
 have k0 : ∀ j, j < 9 → w2.cell? ⟨g, off + j, none⟩ = (ruV rA (.slice Aa 0 ca))[j]? := fun j hj => by have := hc0 j hj; rw [Nat.zero_mul, Nat.add_zero] at this; exact this
 have k1 : ∀ j, j < 9 → w2.cell? ⟨g, off + 9 + j, none⟩ = (ruV rB (.slice Ab 0 cb))[j]? := fun j hj => by have := hc1 j hj; rw [Nat.one_mul] at this; exact this
 have hlc : (2 : Nat) ≤ cr := by obtain ⟨-, h, -⟩ := SlAt.get hR; exact h
 have hal3 := below_alloc9 w2 (.cells #[.int .i64 16, .slice A2 out.2.2.1.length c2, .slice (some ⟨g, off, none⟩) 2 cr] 31)
 have hbx3 := heap_alloc_new w2 (.cells #[.int .i64 16, .slice A2 out.2.2.1.length c2, .slice (some ⟨g, off, none⟩) 2 cr] 31)
 obtain ⟨nf, enf⟩ : ∃ y, out.2.2.1.length = y := ⟨_, rfl⟩
 obtain ⟨ln1, eln⟩ : ∃ y, out.2.2.2.2.1 = y := ⟨_, rfl⟩
 rw [enf] at hal3 hbx3
 obtain ⟨w3, e3⟩ : ∃ w3, w2.alloc (.cells #[.int .i64 16, .slice A2 nf c2, .slice (some ⟨g, off, none⟩) 2 cr] 31) = w3 := ⟨_, rfl⟩
 rw [e3] at hal3 hbx3
 obtain ⟨M, eM⟩ : ∃ y, w2.heap.size = y := ⟨_, rfl⟩
 rw [eM] at hbx3
 obtain ⟨A4, c4, rfl, -, -⟩ := hF.form
 have hw2 : Below w.heap.size w w2 := hb1.trans (hb2.mono hb1.size)
 have HG := Lib.hid (And.intro k0 (And.intro k1 (And.intro hg (And.intro hw2 (And.intro hal3 hbx3)))))
 have HE3 := Lib.hid e3
 rw [show ([rA, rB] : List Ru).length = 2 from rfl]
 clear k0 k1 hg hg' hw2 hal3 hbx3 hc0 hc1 hF hS hR hT1 hb1 hb2 hget e3
 rw [enf, eln]
 clear enf eln
 go_upto_region 2 with fail
 rw [HE3.out]
 go_wp2_with fail
 go_at_call 21
 refine (prog2_any _).mono ?_
 rintro e w4 ⟨v4, rfl, hb4, hT4⟩
 go_wp2_with fail
 go_at_call 11
 refine (rules_any prog2 v4 w4 (New w3 w4) hT4 (fun k hk => hk.2) HK.out.2.2.2.1).mono ?_
 rintro e w5 ⟨fv5, fsv5, rv5, B5, he, hF5, hS5, hR5, hb5⟩
 rw [HK.out.2.2.2.2.2] at he hF5 hS5 hR5
 rw [HK.out.2.1.1, HK.out.2.1.2] at he
 subst he
 obtain ⟨A5, c5, rfl⟩ := hS5.form
 obtain ⟨A6, c6, rfl⟩ := hR5.form
 obtain ⟨A7, c7, rfl, -, -⟩ := hF5.form
 have hb35 : Below w3.heap.size w3 w5 := hb4.trans (hb5.mono hb4.size)
 obtain ⟨s5, es5⟩ : ∃ y, out2.2.1 = y := ⟨_, rfl⟩
 obtain ⟨n5, en5⟩ : ∃ y, out2.2.2.1.length = y := ⟨_, rfl⟩
 obtain ⟨n6, en6⟩ : ∃ y, out2.2.2.2.1.length = y := ⟨_, rfl⟩
 obtain ⟨n7, en7⟩ : ∃ y, out2.1.length = y := ⟨_, rfl⟩
 rw [es5, en5, en6, en7]
 have hal6 := below_alloc9 w5 (.cells #[.int .i64 s5, .slice A5 n5 c5, .slice A6 n6 c6] 31)
 obtain ⟨w6, e6⟩ : ∃ y, w5.alloc (.cells #[.int .i64 s5, .slice A5 n5 c5, .slice A6 n6 c6] 31) = y := ⟨_, rfl⟩
 rw [e6] at hal6
 have hb36 : Below w3.heap.size w3 w6 := hb35.trans (hal6.mono hb35.size)
 have hb26 : Below w2.heap.size w2 w6 := HG.out.2.2.2.2.1.trans (hb36.mono HG.out.2.2.2.2.1.size)
 have hw6 : Below w.heap.size w w6 := HG.out.2.2.2.1.trans (hb26.mono HG.out.2.2.2.1.size)
 have hbx6 := (hb36.block M (heap_lt HG.out.2.2.2.2.2)).trans HG.out.2.2.2.2.2
 have HE6 := Lib.hid e6
 have H6 := Lib.hid (And.intro hb26 (And.intro hw6 hbx6))
 clear hb35 hal6 hb36 hb26 hw6 hF5 hS5 hR5 hT4 hb4 hb5 e6 es5 en5 en6 en7
 obtain ⟨p0, p1, p2⟩ := box3c hbx6
 clear hbx6
 go_upto_region 3 with fail
 rw [HE6.out]
 have hcA : ∀ w' : World, Below w6.heap.size w6 w' → ∀ j v, j < 9 → (ruV rA (.slice Aa 0 ca))[j]? = some v → w'.cell? ⟨g, off + j, none⟩ = some v := fun w' hb j v hj hv => (hb.cell (p := ⟨g, off + j, none⟩) (Nat.lt_of_lt_of_le HG.out.2.2.1 H6.out.1.size)).trans ((H6.out.1.cell (p := ⟨g, off + j, none⟩) HG.out.2.2.1).trans ((HG.out.1 j hj).trans hv))
 have hcB : ∀ w' : World, Below w6.heap.size w6 w' → ∀ j v, j < 9 → (ruV rB (.slice Ab 0 cb))[j]? = some v → w'.cell? ⟨g, off + 9 + j, none⟩ = some v := fun w' hb j v hj hv => (hb.cell (p := ⟨g, off + 9 + j, none⟩) (Nat.lt_of_lt_of_le HG.out.2.2.1 H6.out.1.size)).trans ((H6.out.1.cell (p := ⟨g, off + 9 + j, none⟩) HG.out.2.2.1).trans ((HG.out.2.1 j hj).trans hv))
 have u0 := hcA w6 (Below.refl _ _) 0 (.int .i64 3) (by decide) rfl
 have u1 := hcA w6 (Below.refl _ _) 1 (.int .i64 0) (by decide) rfl
 have u2 := hcA w6 (Below.refl _ _) 2 (.int .i64 2) (by decide) rfl
 have u3 := hcA w6 (Below.refl _ _) 3 (.int .i64 3) (by decide) rfl
 have u4 := hcA w6 (Below.refl _ _) 4 (.int .i64 0) (by decide) rfl
 have u5 := hcA w6 (Below.refl _ _) 5 (.int .i64 0) (by decide) rfl
 have u6 := hcA w6 (Below.refl _ _) 6 (.int .i64 0) (by decide) rfl
 have u7 := hcA w6 (Below.refl _ _) 7 (.string ⟨#[]⟩) (by decide) rfl
 have u8 := hcA w6 (Below.refl _ _) 8 (.slice Aa 0 ca) (by decide) rfl
 rw [Nat.add_zero] at u0
 have HB := Lib.hid hcB
 clear hcA hcB
 go_upto_region 5 with fail
 go_wp2_with fail
 go_at_call 22
 refine (same_rule 3 0 2 3 0 0 0 Aa none ca 0 w6).mono ?_
 rintro e w7 ⟨rfl, hb7⟩
 clear u0 u1 u2 u3 u4 u5 u6 u7 u8 p0 p1 p2
 have u0 := HB.out w7 hb7 0 (.int .i64 1) (by decide) rfl
 have u1 := HB.out w7 hb7 1 (.int .i64 0) (by decide) rfl
 have u2 := HB.out w7 hb7 2 (.int .i64 2) (by decide) rfl
 have u3 := HB.out w7 hb7 3 (.int .i64 0) (by decide) rfl
 have u4 := HB.out w7 hb7 4 (.int .i64 0) (by decide) rfl
 have u5 := HB.out w7 hb7 5 (.int .i64 0) (by decide) rfl
 have u6 := HB.out w7 hb7 6 (.int .i64 4) (by decide) rfl
 have u7 := HB.out w7 hb7 7 (.string ⟨#[]⟩) (by decide) rfl
 have u8 := HB.out w7 hb7 8 (.slice Ab 0 cb) (by decide) rfl
 rw [Nat.add_zero] at u0
 obtain ⟨p0, p1, p2⟩ := box3c ((hb7.block M (heap_lt H6.out.2.2)).trans H6.out.2.2)
 have H7 := Lib.hid hb7
 clear hb7
 go_wp2_with fail
 go_at_call 22
 refine (same_rule 1 0 2 0 0 0 4 Ab none cb 0 w7).mono ?_
 rintro e w8 ⟨rfl, hb8⟩
 obtain ⟨p0, p1, p2⟩ := box3c ((hb8.block M (Nat.lt_of_lt_of_le (heap_lt H6.out.2.2) H7.out.size)).trans ((H7.out.block M (heap_lt H6.out.2.2)).trans H6.out.2.2))
 have H8 := Lib.hid hb8
 clear hb8 u0 u1 u2 u3 u4 u5 u6 u7 u8
 go_wp2
 go_ret
 refine ⟨by first | rfl | simp, ?_⟩
 have := H6.out.2.1.size
 have := H7.out.size
 exact H6.out.2.1.trans ((H7.out.mono (by omega)).trans (H8.out.mono (by omega)))
end
structure SysOK (t : Tr) (F : List Fn) (q : Tr) : Prop where
 res : resolveT t = .ok (F, q)
 right : rightP t = true
 few : (cxOf F q).sets ≤ 100000
 cx : CxOK (cxOf F q)
 out : rulesOut (resOut t) = (F, (cxOf F q).sets, (cxOf F q).fs, rulesE (cxOf F q) (evR (cxOf F q) q 0 ⟨0, ((cxOf F q).fsAt 0).thr, false⟩), 0, 0)
theorem rules_out (t : Tr) (hz : t.size ≤ 40000) : (∃ ln er, er ≠ 0 ∧ rulesOut (resOut t) = ([], 0, [], [], ln, er)) ∨ ∃ F q, SysOK t F q := by
 unfold resOut
 by_cases hr : rightP t = true
 ·rw [if_pos hr]
  cases h : resolveT t with
  | error x =>
   obtain ⟨l, e⟩ := x
   have he := resolve_err h
   exact .inl ⟨l, e, he, by unfold rulesOut; rw [if_pos he]⟩
  | ok x =>
   obtain ⟨F, q⟩ := x
   by_cases hs : 100000 < (cxOf F q).sets
   ·exact .inl ⟨0, 52, by decide, by
     show (if (0 : Int) ≠ 0 then _ else _) = _
     rw [if_neg (by decide)]
     show (if 100000 < (cxOf F q).sets then _ else _) = _
     rw [if_pos hs]⟩
   ·refine .inr ⟨F, q, h, hr, by omega, (cx_ok h hz).1, ?_⟩
    unfold resOut
    rw [if_pos hr, h]
    show (if (0 : Int) ≠ 0 then _ else _) = _
    rw [if_neg (by decide)]
    show (if 100000 < (cxOf F q).sets then _ else _) = _
    rw [if_neg hs]
    rfl
 ·rw [if_neg hr]
  exact .inl ⟨0, 30, by decide, rfl⟩
end Go.Proofs.YtikbfoichhkeaaaGreat
