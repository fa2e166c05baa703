/- The document's reader: what is known amid parts, whose argument is in a box of its own. The document's reader: signed. The document's reader: parts. -/
import Derived.Deep.RegionLaw
import Derived.Deep.RegionHeldLaw
import Derived.Deep.LoopGhost
import Derived.Test.YtikbfoichhkeaaaGreatVm44
set_option linter.unusedSimpArgs false
set_option linter.unusedVariables false
set_option maxRecDepth 100000
set_option maxHeartbeats 40000000
namespace Go.Proofs.YtikbfoichhkeaaaGreat
section
open Go.RowKit Go.Proofs
section
variable {R cp : Nat} {A : Option Addr} {L : List Tok} {st st1 : St} {w wa wk w' : World} {t : Tr} {l : List Tr} {v : Value} {B : Nat} {S : Nat → Prop}
structure MidP (R : Nat) (A : Option Addr) (cp : Nat) (L : List Tok) (w wk : World) (st : St) : Prop where
 rd : RdAt wk R A cp L st
 fr : Fr R w wk
 box : wk.heap[w.heap.size + 1]? = some (.cells #[.int .i64 0, .string ⟨#[]⟩, .int .i64 0, .slice none 0 0, .int .i64 0] 24 (0, 0))
 lt : R < w.heap.size
theorem MidP.gt (m : MidP R A cp L w wk st) : w.heap.size + 1 < wk.heap.size := heap_lt m.box
theorem MidP.call (m : MidP R A cp L w wk st) (h : RdAt w' R A cp L st1) (hf : Fr R wk w') : MidP R A cp L w w' st1 :=
 ⟨h, m.fr.trans' hf, (hf.block _ m.gt (by have := m.lt; omega)).trans m.box, m.lt⟩
theorem MidP.facts (m : MidP R A cp L w wk st) : (wk.cell? ⟨w.heap.size + 1, 0, none⟩ = some (.int .i64 0) ∧ wk.cell? ⟨w.heap.size + 1, 1, none⟩ = some (.string ⟨#[]⟩) ∧ wk.cell? ⟨w.heap.size + 1, 2, none⟩ = some (.int .i64 0) ∧ wk.cell? ⟨w.heap.size + 1, 3, none⟩ = some (.slice none 0 0) ∧ wk.cell? ⟨w.heap.size + 1, 4, none⟩ = some (.int .i64 0)) ∧
  (wk.frozen? ⟨w.heap.size + 1, 0, none⟩ = false ∧ wk.frozen? ⟨w.heap.size + 1, 1, none⟩ = false ∧ wk.frozen? ⟨w.heap.size + 1, 2, none⟩ = false ∧ wk.frozen? ⟨w.heap.size + 1, 3, none⟩ = false ∧ wk.frozen? ⟨w.heap.size + 1, 4, none⟩ = false) := box_facts m.box
theorem MidP.box_ (m : MidP R A cp L w wk st) (v0 v1 v2 v3 v4 : Value) :
  ∃ W, wk.alloc (.cells #[v0, v1, v2, v3, v4] 24) = W ∧ MidP R A cp L w W st ∧ Fr R wk W ∧ Bx W wk.heap.size v0 v1 v2 v3 v4 ∧ W.heap.size = wk.heap.size + 1 :=
 ⟨_, rfl, m.call (m.rd.alloc _) (Only.alloc _ _), Only.alloc _ _, heap_alloc_new _ _, by simp⟩
theorem MidP.arr (m : MidP R A cp L w wk st) (cs : Array Value) :
  ∃ W, wk.alloc (.cells cs 24) = W ∧ MidP R A cp L w W st ∧ Fr R wk W ∧ W.heap[wk.heap.size]? = some (.cells cs 24 (0, 0)) ∧ W.heap.size = wk.heap.size + 1 :=
 ⟨_, rfl, m.call (m.rd.alloc _) (Only.alloc _ _), Only.alloc _ _, heap_alloc_new _ _, by simp⟩
theorem MidP.tok_ (m : MidP R A cp L w wk st) (kd : Int) (ts : Bs) (tn : Int) (ln : Nat) (nl : Bool) :
  ∃ W, wk.alloc (.cells #[.int .i64 kd, .string (bs ts), .int .i64 tn, .int .i64 ln, .bool nl] 112) = W ∧ MidP R A cp L w W st ∧ Fr R wk W ∧
   W.heap[wk.heap.size]? = some (.cells #[.int .i64 kd, .string (bs ts), .int .i64 tn, .int .i64 ln, .bool nl] 112 (0, 0)) ∧ W.heap.size = wk.heap.size + 1 :=
 ⟨_, rfl, m.call (m.rd.alloc _) (Only.alloc _ _), Only.alloc _ _, heap_alloc_new _ _, by simp⟩
theorem MidP.set (m : MidP R A cp L w wk st) (hB : w.heap.size ≤ B) (hB2 : B ≠ w.heap.size + 1) (i : Nat) (u : Value) : MidP R A cp L w (wk.setCell ⟨B, i, none⟩ u) st := by
 have hs := Only.setCell (F := fun k => k = B) wk (b := B) rfl i u
 have := m.lt
 exact ⟨m.rd.only hs (fun i hi => by omega), Fr.own m.fr hs (fun i hi => by omega), (hs.block _ m.gt (fun e => hB2 e.symm)).trans m.box, m.lt⟩
theorem MidP.drew (m : MidP R A cp L w wk st) : MidP R A cp L w wk.drew st := m.call (m.rd.keep fun i _ => rfl) ((Only.refl _ _).drew)
theorem MidP.next_ (m : MidP R A cp L w wk st) (hp : st.pos < L.length) :
  ∃ W, wk.setCell ⟨R, 1, none⟩ (.int .i64 ((st.pos : Int) + 1)) = W ∧ RdAt W R A cp L st.next ∧ Fr R wk W :=
 ⟨_, rfl, (m.rd.put_pos hp).1, (m.rd.put_pos hp).2⟩
theorem MidP.push {ts : List Tr} (m : MidP R A cp L w wk st) (h : AccAt B wk ts v) (hB : w.heap.size + 1 < B) (hon : Only (fun k => v.ownBlock = some k) wk w') : MidP R A cp L w w' st := by
 have hR := m.lt
 refine ⟨m.rd.only hon (fun i hi => by have := own_blk h hi; omega), Fr.own m.fr hon (fun i hi => by have := own_blk h hi; omega), (hon.block _ m.gt (fun e => by have := own_blk h e; omega)).trans m.box, m.lt⟩
abbrev AfS (S : Nat → Prop) (w W : World) : Nat → Prop := fun k => S k ∨ (w.heap.size + 1 < k ∧ k < W.heap.size)
theorem TreeAt.ups (h : TreeAt wk (AfS S w wk) t v) (hf : Fr R wk w') (hS : ∀ k, S k → k < w.heap.size ∧ k ≠ R) (hR : R < w.heap.size) (hw : w.heap.size ≤ wk.heap.size) : TreeAt w' (AfS S w w') t v :=
 h.fr hf (fun k hk => hk.imp id fun hk => ⟨hk.1, by have := hf.size; have := hk.2; omega⟩) (fun k hk => by
  rcases hk with hk | hk
  ·exact ⟨by have := (hS k hk).1; omega, (hS k hk).2⟩
  ·exact ⟨hk.2, by have := hk.1; omega⟩)
theorem TreeAt.sets (h : TreeAt wk (AfS S w wk) t v) (hS : ∀ k, S k → k < w.heap.size ∧ k ≠ R) (i : Nat) (u : Value) : TreeAt (wk.setCell ⟨w.heap.size, i, none⟩ u) (AfS S w (wk.setCell ⟨w.heap.size, i, none⟩ u)) t v :=
 h.keep (fun k hk => hk.imp id fun hk => ⟨hk.1, by simp; exact hk.2⟩) (fun k hk => Below.heap_setCell wk _ _ k (by
  show k ≠ w.heap.size
  rcases hk with hk | hk
  ·have := (hS k hk).1; omega
  ·have := hk.1; omega))
theorem MidP.gives {fn : Func} {a : Act} {v0 v1 v2 v3 v4 : Value} (s : Nat) (m : MidP R A cp L w wk st1) (hS : ∀ k, S k → k < w.heap.size ∧ k ≠ R) (h : TreeAt wk (AfS S w wk) t (.agg #[v0, v1, v2, v3, v4]))
  (hfn : fn.results = #[.cell s 24]) (hs : a.tmps.getD s undef = .pointer (some ⟨w.heap.size + 1, 0, none⟩)) (hd : a.defers = []) :
  bodyPost Tryz.prog fn (fun e w' => ∃ v', e = .returned v' ∧ RdAt w' R A cp L st1 ∧ Fr R w w' ∧ TreeAt w' (fun k => S k ∨ New w w' k) t v') .ret a (put5 wk (w.heap.size + 1) v0 v1 v2 v3 v4) := by
 have hp := put5_only wk (w.heap.size + 1) v0 v1 v2 v3 v4
 refine ret_node s hfn hs hd m.box ⟨_, rfl, m.rd.only hp (fun i hi => by have := m.lt; omega), Fr.own m.fr hp (fun i hi => by omega), h.keep (fun k hk => hk.imp id fun hk => ⟨by have := hk.1; omega, by have := hk.2; have := hp.size; omega⟩) (fun k hk => hp.block k ?_ (fun e => ?_))⟩
 ·rcases hk with hk | hk
  ·have := (hS k hk).1; have := m.gt; omega
  ·exact hk.2
 ·rcases hk with hk | hk
  ·have := (hS k hk).1; omega
  ·have := hk.1; omega
def AccP (P : Nat → Prop) (B : Nat) (W : World) (ts : List Tr) (v : Value) : Prop :=
 ∃ xs : List Lo, trees xs = ts ∧ W.ownsRow B 24 5 v ts.length (xs.flatMap fun x => cellsT x.val) ∧ ∀ x ∈ xs, LoAt W (fun k => (P k ∧ k < W.heap.size) ∧ v.ownBlock ≠ some k) x
section
variable {P : Nat → Prop}
theorem AccP.slice {ts : List Tr} {v : Value} (h : AccP P B w ts v) : ∃ A' c', v = .slice A' ts.length c' ∧ ts.length ≤ c' ∧ c' ≤ maxLen := by
 obtain ⟨xs, -, h2, -⟩ := h
 rcases h2.2 with ⟨rfl, h0⟩ | ⟨g, cap, cur, rfl, h1, h2, h3, h4, h5⟩
 ·rw [h0]; exact ⟨none, 0, rfl, Nat.le_refl _, by simp [maxLen]⟩
 ·exact ⟨_, _, rfl, h3, h4⟩
theorem AccP.blk {ts : List Tr} (h : AccP P B wk ts v) {k : Nat} (hk : v.ownBlock = some k) : B ≤ k ∧ k < wk.heap.size := by
 obtain ⟨xs, -, h2, -⟩ := h
 exact own_lt h2 hk
theorem AccP.keep {ts : List Tr} {v : Value} (h : AccP P B w ts v) (hsz : w.heap.size ≤ w'.heap.size) (hk : ∀ k, (P k ∨ B ≤ k) → k < w.heap.size → w'.heap[k]? = w.heap[k]?) : AccP P B w' ts v := by
 obtain ⟨xs, h1, h2, h3⟩ := h
 refine ⟨xs, h1, ⟨h2.1, h2.2.imp id fun ⟨g, cap, cur, e1, e2, e3, e4⟩ => ⟨g, cap, cur, e1, e2, ?_, e4⟩⟩, fun x hx => (h3 x hx).frame (fun k hk => ⟨⟨hk.1.1, by have := hk.1.2; omega⟩, hk.2⟩) (fun k hk' => hk k (.inl hk'.1.1) hk'.1.2)⟩
 exact (hk g (.inr e2) (heap_lt e3)).trans e3
theorem AccP.row {ts : List Tr} {v : Value} (h : AccP P B w ts v) : RowAt w (fun k => (P k ∨ B ≤ k) ∧ k < w.heap.size) ts v := by
 obtain ⟨xs, rfl, h2, h3⟩ := h
 have hl : (trees xs).length = xs.length := by rw [trees_map, List.length_map]
 rw [hl] at h2
 refine ⟨xs, rfl, ?_⟩
 rcases h2.2 with ⟨rfl, h0⟩ | ⟨g, cap, cur, rfl, h1, h4, h5, h6, h7, h8⟩
 ·exact ⟨none, 0, by rw [h0], ⟨by omega, by simp [maxLen]⟩, fun h => by omega⟩
 ·refine ⟨_, cap, rfl, ⟨h5, h6⟩, fun _ => ⟨g, 0, rfl, ⟨.inr h1, heap_lt h4⟩, ?_⟩⟩
  exact row_cells g (cur.toList.drop (xs.length * 5)) [] xs 0 w rfl ⟨cur, _, h4, by
   rw [List.nil_append]
   conv => lhs; rw [← List.take_append_drop (xs.length * 5) cur.toList]
   rw [h8]
   rfl⟩ (fun x hx => (h3 x hx).frame (fun k hk => ⟨.inl hk.1.1, hk.1.2⟩) (fun k hk => rfl))
theorem AccP.lit1 {g : Nat} {cs : Array Value} (h : TreeAt wk (fun k => (P k ∧ k < wk.heap.size) ∧ k ≠ g) t v) (hg : wk.heap[g]? = some (.cells cs 24 (0, 0))) (hcs : cs.toList = cellsT v) (hB : B ≤ g) : AccP P B wk [t] (.slice (some ⟨g, 0, none⟩) 1 1) := by
 obtain ⟨-, hl5⟩ := val_one h
 obtain ⟨x, rfl, rfl, h3⟩ := h
 refine ⟨[x], by rw [trees, trees], ⟨by simp [hl5], .inr ⟨g, 1, cs, rfl, hB, hg, Nat.le_refl _, by simp [maxLen], ?_, ?_⟩⟩, fun y hy => ?_⟩
 ·rw [← Array.length_toList, hcs, hl5]
 ·rw [List.take_of_length_le (by rw [hcs, hl5]; exact Nat.le_refl _), hcs]; simp
 ·rw [List.mem_singleton.1 hy]
  exact h3.frame (fun k hk => ⟨hk.1, by simp [Value.ownBlock]; exact fun e => hk.2 e.symm⟩) (fun k hk => rfl)
end
end
end
section
open Go.RowKit Go.Proofs
section
variable {R cp : Nat} {A : Option Addr} {L : List Tok} {st : St} {F : Nat}
theorem signed_ok (ih : All R A cp L F) (hF : F ≤ 2000000) (l : List Tr) (st1 : St) (hr : run L (F + 1) .signed st = some (l, st1)) : Spec R A cp L .signed st l st1 := by
 intro w h
 rw [run] at hr
 try dsimp only at hr
 cases ht : tokR L st 0 with | mk kd ts tn ln nl =>
 have m0 := Mid.start h
 obtain ⟨W1, eW1⟩ : ∃ W, w.alloc (.cells #[.int .i64 0, .string ⟨#[]⟩, .int .i64 0, .slice none 0 0, .int .i64 0] 24) = W := ⟨_, rfl⟩
 rw [eW1] at m0
 have hz0 := m0.gt
 have M0 := Lib.hid m0
 have hR := h.lt
 clear h m0
 cases hi : isR L st [33] with
 | true => simp [hi] at hr
 | false =>
  cases hj : isR L st [45] with
  | true => simp [hi, hj] at hr
  | false =>
   cases hn : isR L st [110, 101, 119] with
   | false =>
    cases e1 : run L F .thing st with
    | none => simp [hi, hj, hn, e1] at hr
    | some x =>
    obtain ⟨x, s2⟩ := x
    have e2 : run L F (.parts (hd x) true) s2 = some (l, st1) := by simpa [hi, hj, hn, e1] using hr
    have H1 := Lib.hid (ih .thing _ _ _ e1)
    have H2 := Lib.hid (ih (.parts (hd x) true) _ _ _ e2)
    clear hr e1 e2
    go_enter Tryz.func151, Tryz.ntmps151
    have HQ0 := tok_any 0 W1 M0.out.rd (by omega)
    rw [ht] at HQ0
    unfold tokV at HQ0
    have HQ := Lib.hid HQ0
    clear HQ0
    go_wp2_with fail
    go_at_call 89
    refine (HQ.out).mono ?_
    rintro e w2 ⟨rfl, hb⟩
    have f2 := Fr.of_below (R := R) hb (Nat.le_refl _)
    have h2 := M0.out.rd.below hb M0.out.rd.lt
    have z2 := f2.size
    clear hb
    have M2 := Lib.hid ((M0.out.call h2 f2))
    clear h2 f2
    clear HQ
    have fl := tok_line kd ts tn ln nl w2
    have HQ0 := take_any [33] ⟨#[33]⟩ rfl w2 M2.out.rd
    unfold takeR at HQ0
    rw [hi] at HQ0
    have HQ := Lib.hid HQ0
    clear HQ0
    go_wp2_with fail
    go_at_call 91
    refine (HQ.out).mono ?_
    rintro e w3 ⟨rfl, h3, f3⟩
    have h3 : RdAt w3 R A cp L (st) := h3
    have z3 := f3.size
    have M3 := Lib.hid ((M2.out.call h3 f3))
    clear h3 f3
    clear HQ
    have HQ0 := take_any [45] ⟨#[45]⟩ rfl w3 M3.out.rd
    unfold takeR at HQ0
    rw [hj] at HQ0
    have HQ := Lib.hid HQ0
    clear HQ0
    go_wp2_with fail
    go_at_call 91
    refine (HQ.out).mono ?_
    rintro e w4 ⟨rfl, h4, f4⟩
    have h4 : RdAt w4 R A cp L (st) := h4
    have z4 := f4.size
    have M4 := Lib.hid ((M3.out.call h4 f4))
    clear h4 f4
    clear HQ
    obtain ⟨w5, e5, m5, f5, b5, zq5⟩ := M4.out.box_ (.int .i64 0) (.string ⟨#[]⟩) (.int .i64 0) (.slice none 0 0) (.int .i64 0)
    have z5 : w4.heap.size < w5.heap.size := by omega
    clear zq5
    have M5 := Lib.hid (And.intro m5 (b5))
    clear m5 f5 b5
    have HQ0 := take_any [110, 101, 119] ⟨#[110, 101, 119]⟩ rfl w5 M5.out.1.rd
    unfold takeR at HQ0
    rw [hn] at HQ0
    have HQ := Lib.hid HQ0
    clear HQ0
    go_wp2_with fail
    go_at_call 91
    refine (HQ.out).mono ?_
    rintro e w6 ⟨rfl, h6, f6⟩
    have h6 : RdAt w6 R A cp L (st) := h6
    have z6 := f6.size
    have M6 := Lib.hid (And.intro (M5.out.1.call h6 f6) (M5.out.2.fr f6 (by omega)))
    clear h6 f6
    clear HQ
    go_wp2_with fail
    go_at_call 155
    refine (H1.out w6 M6.out.1.rd).mono ?_
    rintro e w7 ⟨v7, rfl, h7, f7, t7⟩
    obtain ⟨A7, c7, rfl, -, -⟩ := t7.form
    have z7 := f7.size
    have M7 := Lib.hid (And.intro (M6.out.1.call h7 f7) (And.intro (M6.out.2.fr f7 (by omega)) (t7.af (B := w4.heap.size) (by omega))))
    clear h7 f7 t7
    obtain ⟨x0, x1, x2, x3, x4⟩ := M7.out.2.1.cells
    obtain ⟨q0, q1, q2, q3, q4⟩ := M7.out.2.1.thaw
    obtain ⟨w8, e8⟩ : ∃ W, put5 w7 w4.heap.size (.int .i64 (hd x).op) (.string (bs (hd x).s)) (.int .i64 (hd x).n) (.slice A7 (hd x).l.length c7) (.int .i64 (hd x).line) = W := ⟨_, rfl⟩
    have m8 := M7.out.1.put5 (B := w4.heap.size) (by omega) (.int .i64 (hd x).op) (.string (bs (hd x).s)) (.int .i64 (hd x).n) (.slice A7 (hd x).l.length c7) (.int .i64 (hd x).line)
    have b8 := M7.out.2.1.put5 (.int .i64 (hd x).op) (.string (bs (hd x).s)) (.int .i64 (hd x).n) (.slice A7 (hd x).l.length c7) (.int .i64 (hd x).line)
    have i8x := M7.out.2.2.put5a (.int .i64 (hd x).op) (.string (bs (hd x).s)) (.int .i64 (hd x).n) (.slice A7 (hd x).l.length c7) (.int .i64 (hd x).line)
    have z8 : w7.heap.size ≤ w8.heap.size := by rw [← e8]; exact (put5_only w7 w4.heap.size (.int .i64 (hd x).op) (.string (bs (hd x).s)) (.int .i64 (hd x).n) (.slice A7 (hd x).l.length c7) (.int .i64 (hd x).line)).size
    rw [e8] at m8 b8 i8x
    dsimp only [put5] at e8
    have M8 := Lib.hid (And.intro m8 (And.intro b8 (i8x)))
    clear m8 b8 i8x
    obtain ⟨x0, x1, x2, x3, x4⟩ := M8.out.2.1.cells
    go_wp2_with fail
    go_at_call 154
    refine (H2.out w8 _ _ M8.out.1.rd (M8.out.2.2.lower (by omega)) (fun k hk => ⟨hk.2, by have := hk.1; omega⟩)).mono ?_
    rintro e w9 ⟨v9, rfl, h9, f9, t9⟩
    have t9 : TreeAt w9 (Af w.heap.size w9) _ _ := t9.keep (fun k hk => by rcases hk with hk | hk <;> exact ⟨by have := hk.1; omega, by have := hk.2; have := f9.size; omega⟩) (fun k hk => rfl)
    obtain ⟨A9, c9, rfl, -, -⟩ := t9.form
    have z9 := f9.size
    have M9 := Lib.hid (And.intro (M8.out.1.call h9 f9) t9)
    clear h9 f9 t9
    obtain ⟨⟨y0, y1, y2, y3, y4⟩, g0, g1, g2, g3, g4⟩ := M9.out.1.facts
    go_wp2
    exact M9.out.1.gives' 2 M9.out.2 rfl rfl rfl
   | true => simp [hi, hj, hn] at hr
end
end
section
open Go.RowKit Go.Proofs
section
variable {R cp : Nat} {A : Option Addr} {L : List Tok} {st : St} {F : Nat}
theorem parts_ok (ihs : ∀ F', F' ≤ F → All R A cp L F') (hF : F ≤ 2000000) (x0 : Tr) (calls : Bool) (l : List Tr) (st1 : St) (hr : run L (F + 1) (.parts x0 calls) st = some (l, st1)) : Spec R A cp L (.parts x0 calls) st l st1 := by
 intro w S v h hx hS
 have hR := h.lt
 have HS := Lib.hid hS
 obtain ⟨A0, c0', rfl, -, -⟩ := hx.form
 obtain ⟨W1, eW1⟩ : ∃ W, w.alloc (.cells #[.int .i64 x0.op, .string (bs x0.s), .int .i64 x0.n, .slice A0 x0.l.length c0', .int .i64 x0.line] 24) = W := ⟨_, rfl⟩
 obtain ⟨W2, eW2⟩ : ∃ W, W1.alloc (.cells #[.int .i64 0, .string ⟨#[]⟩, .int .i64 0, .slice none 0 0, .int .i64 0] 24) = W := ⟨_, rfl⟩
 have hz1 : W1.heap.size = w.heap.size + 1 := by rw [← eW1]; simp
 have f1 : Fr R w W1 := by rw [← eW1]; exact Only.alloc _ _
 have f2 : Fr R W1 W2 := by rw [← eW2]; exact Only.alloc _ _
 have b1 : Bx W1 w.heap.size (.int .i64 x0.op) (.string (bs x0.s)) (.int .i64 x0.n) (.slice A0 x0.l.length c0') (.int .i64 x0.line) := by rw [← eW1]; exact heap_alloc_new _ _
 have m2 : MidP R A cp L w W2 st := ⟨by rw [← eW2, ← eW1]; exact (h.alloc _).alloc _, f1.trans' f2, by rw [← hz1, ← eW2]; exact heap_alloc_new _ _, hR⟩
 have HI := Lib.hid (And.intro m2 (And.intro (b1.fr f2 hR) (show TreeAt W2 (AfS S w W2) x0 _ from hx.fr (f1.trans' f2) (fun k hk => .inl hk) (fun k hk => hS k hk))))
 have HR0 := Lib.hid hr
 clear h hx hS hr m2 b1 f1 f2
 have hz1' : w.heap.size < W1.heap.size := by omega
 go_enter Tryz.func154, Tryz.ntmps154
 go_wp2
 go_loopg [] (F + 1) (fun gn wr => ∃ (x : Tr) (s' : St) (Ax : Option Addr) (cx : Nat), RowKit.Hid (run L gn (.parts x calls) s' = some (l, st1) ∧ gn ≤ F + 1 ∧ MidP R A cp L w wr s' ∧ Bx wr w.heap.size (.int .i64 x.op) (.string (bs x.s)) (.int .i64 x.n) (.slice Ax x.l.length cx) (.int .i64 x.line) ∧ TreeAt wr (AfS S w wr) x (.agg #[.int .i64 x.op, .string (bs x.s), .int .i64 x.n, .slice Ax x.l.length cx, .int .i64 x.line])))
 case atStart => exact ⟨x0, st, A0, c0', Lib.hid ⟨HR0.out, Nat.le_refl _, HI.out.1, HI.out.2.1, HI.out.2.2⟩⟩
 case round =>
  obtain ⟨x, s', Ax, cx, HH⟩ := hrel
  obtain ⟨hrun, hgn, hm, hbx, htx⟩ := HH.out
  obtain ⟨W0, hW0⟩ : ∃ x, x = wr := ⟨_, rfl⟩
  subst hW0
  have hz2 := hm.gt
  obtain ⟨c0, c1, c2, c3⟩ := hm.rd.cells
  have MR := Lib.hid (And.intro hm (And.intro hbx htx))
  clear HH hm hbx htx HR0 HI
  cases gk with
  | zero => simp [run] at hrun
  | succ G =>
  rw [run] at hrun
  by_cases he : s'.e = 0 ∧ calls = true
  ·rw [if_pos he] at hrun
   obtain ⟨he, rfl⟩ := he
   rw [he] at c2
   have d1 : (s'.e == 0) = true := by simpa using he
   have HE := Lib.hid he
   clear he
   cases hd_ : isR L s' [46] with
   | true => rw [hd_] at hrun; cases hrun
   | false =>
    rw [if_neg (show ¬ isR L s' [46] = true by rw [hd_]; decide)] at hrun
    cases hb_ : isR L s' [91] with
    | true => rw [hb_] at hrun; cases hrun
    | false =>
     rw [if_neg (show ¬ isR L s' [91] = true by rw [hb_]; decide)] at hrun
     cases hc_ : isR L s' [40] with
     | false =>
      obtain ⟨rfl, rfl⟩ : [x] = l ∧ s' = st1 := by simpa [one, hc_] using hrun
      clear hrun
      have HQ0 := take_any [46] ⟨#[46]⟩ rfl W0 MR.out.1.rd
      unfold takeR at HQ0
      rw [hd_] at HQ0
      have HQ := Lib.hid HQ0
      clear HQ0
      go_wp2_with fail
      go_at_call 91
      refine (HQ.out).mono ?_
      rintro e w4 ⟨rfl, h4, f4⟩
      have h4 : RdAt w4 R A cp L (s') := h4
      have z4 := f4.size
      have M4 := Lib.hid (And.intro (MR.out.1.call h4 f4) (And.intro (MR.out.2.1.fr f4 (by omega)) (MR.out.2.2.ups f4 HS.out hR (by omega))))
      clear h4 f4
      clear HQ
      have HQ0 := take_any [91] ⟨#[91]⟩ rfl w4 M4.out.1.rd
      unfold takeR at HQ0
      rw [hb_] at HQ0
      have HQ := Lib.hid HQ0
      clear HQ0
      go_wp2_with fail
      go_at_call 91
      refine (HQ.out).mono ?_
      rintro e w5 ⟨rfl, h5, f5⟩
      have h5 : RdAt w5 R A cp L (s') := h5
      have z5 := f5.size
      have M5 := Lib.hid (And.intro (M4.out.1.call h5 f5) (And.intro (M4.out.2.1.fr f5 (by omega)) (M4.out.2.2.ups f5 HS.out hR (by omega))))
      clear h5 f5
      clear HQ
      have HQ0 := take_any [40] ⟨#[40]⟩ rfl w5 M5.out.1.rd
      unfold takeR at HQ0
      rw [hc_] at HQ0
      have HQ := Lib.hid HQ0
      clear HQ0
      go_wp2_with fail
      go_at_call 91
      refine (HQ.out).mono ?_
      rintro e w6 ⟨rfl, h6, f6⟩
      have h6 : RdAt w6 R A cp L (s') := h6
      have z6 := f6.size
      have M6 := Lib.hid (And.intro (M5.out.1.call h6 f6) (And.intro (M5.out.2.1.fr f6 (by omega)) (M5.out.2.2.ups f6 HS.out hR (by omega))))
      clear h6 f6
      clear HQ
      obtain ⟨x0, x1, x2, x3, x4⟩ := M6.out.2.1.cells
      obtain ⟨⟨y0, y1, y2, y3, y4⟩, g0, g1, g2, g3, g4⟩ := M6.out.1.facts
      go_wp2
      exact M6.out.1.gives 6 HS.out M6.out.2.2 rfl rfl rfl
     | true => simp [hc_] at hrun
  ·rw [if_neg he] at hrun
   cases hrun
end
end
end Go.Proofs.YtikbfoichhkeaaaGreat
