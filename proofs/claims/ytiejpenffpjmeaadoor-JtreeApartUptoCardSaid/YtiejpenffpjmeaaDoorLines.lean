/- jtree.page: lines, braces, arguments, function. -/
import Derived.Test.YtiejpenffpjmeaaDoorLed
namespace Go.Proofs.YtiejpenffpjmeaaDoor
open Go.RowKit Go.Proofs

/-- The page's method puts a statement's text. -/
def StmtOK (x : Tr) : Prop := ∀ (b k : Nat) (v : Value) (w : World) (l : Bs), At w b x v → PageAt w b l k → k + x.size ≤ 100000 → (l ++ x.txt k).length ≤ 100000000 → Env w →
  Calls Tryd.prog 45 #[.pointer (some ⟨b, 0, none⟩), v] w (Put b w (l ++ x.txt k) k)
theorem lines_next {k : Nat} {ts : List Bs} {n : Nat} {t : Bs} (ht : ts[n]? = some t) : linesL k (ts.take (n + 1)) = linesL k (ts.take n) ++ (indentB k ++ (t ++ [10])) := by
  rw [List.take_add_one, ht]
  exact linesL_snoc _ _ _
theorem lines_pre (k : Nat) (ts : List Bs) (n : Nat) : (linesL k (ts.take n)).length ≤ (linesL k ts).length := by
  have h : linesL k ts = linesL k (ts.take n) ++ linesL k (ts.drop n) := by
    unfold linesL
    rw [← List.flatMap_append, List.take_append_drop]
  rw [h, List.length_append]
  omega

set_option maxRecDepth 100000 in
set_option maxHeartbeats 4000000 in
theorem lines_any (b k : Nat) (xs : List Tr) (v : Value) (w : World) (l : Bs) (hx : Row w b xs v) (hp : PageAt w b l k) (hE : ∀ x ∈ xs, StmtOK x) (hk : k + sizes xs ≤ 100000)
    (hlen : (l ++ linesL k (xs.map (Tr.txt k))).length ≤ 100000000) (he : Env w) :
    Calls Tryd.prog 31 #[.pointer (some ⟨b, 0, none⟩), v] w (Put b w (l ++ linesL k (xs.map (Tr.txt k))) k) := by
  obtain ⟨Ax, cx, rfl, ⟨hx1, hx2⟩, hX⟩ := hx
  have HX := Lib.hid hX
  have HE := Lib.hid hE
  have HLen := Lib.hid hlen
  have H1 := Lib.hid hp.1
  have HK := Lib.hid hk
  have HEn := Lib.hid he
  obtain ⟨len, ex⟩ : ∃ n, xs.length = n := ⟨_, rfl⟩
  rw [ex] at hx1 ⊢
  have HL := Lib.hid ex
  unfold maxLen at hx2
  have HP := Lib.hid hp
  clear hX hE hlen hk he ex hp
  go_enter Tryd.func31, Tryd.ntmps31
  go_wp2
  go_loopw [8] (fun i wr => ∃ n : Nat, n ≤ len ∧ i = .int .i64 n ∧ PageAt wr b (l ++ linesL k ((xs.map (Tr.txt k)).take n)) k ∧ PG b w wr) (fun i _ => len - (intOf i).toNat)
  case atStart => exact ⟨0, Nat.zero_le _, rfl, by simpa [linesL] using HP.out, PG.refl _ _⟩
  case round =>
    obtain ⟨n, hn2, rfl, hpg, hG⟩ := hrel
    have hbl := hpg.lt
    by_cases hlt : n < len
    · obtain ⟨gx, fx, rfl, hgx, HA⟩ := HX.out (by rw [HL.out]; omega)
      obtain ⟨x, hxe⟩ : ∃ x, xs[n]? = some x := ⟨_, List.getElem?_eq_getElem (by rw [HL.out]; omega)⟩
      obtain ⟨Av, cv, hAt, x0, x1, x2, x3, x4⟩ := elem_at HA hgx hG.below hxe
      have hmem := List.mem_of_getElem? hxe
      have hsz := size_mem hmem
      have hroom := lines_pre k (xs.map (Tr.txt k)) (n + 1)
      have hmap : (xs.map (Tr.txt k))[n]? = some (x.txt k) := by rw [List.getElem?_map, hxe]; rfl
      have hlen := HLen.out
      rw [List.length_append] at hlen
      obtain ⟨bx, hbx⟩ : ∃ W, (wr.alloc (.cells #[.int .i64 x.op, .string (bs x.s), .int .i64 x.n, .slice Av x.l.length cv, .int .i64 x.line] 24)) = W := ⟨_, rfl⟩
      have hpB : PageAt bx b (l ++ linesL k ((xs.map (Tr.txt k)).take n)) k := by rw [← hbx]; exact hpg.alloc _
      have hGB : PG b w bx := by rw [← hbx]; exact hG.alloc (by omega) _
      have hbox : bx.heap[wr.heap.size]? = some (.cells #[.int .i64 x.op, .string (bs x.s), .int .i64 x.n, .slice Av x.l.length cv, .int .i64 x.line] 24 (0, 0)) := by rw [← hbx]; exact heap_alloc_new wr _
      have hAtB : At bx b x (nodeV x (.slice Av x.l.length cv)) := At.below hAt (by rw [← hbx]; exact ((Below.refl _ wr).alloc (by omega) _))
      have hcall := fun (w1 : World) (L : Bs) (h : Below b bx w1) (hp1 : PageAt w1 b L k) (hL : (L ++ x.txt k).length ≤ 100000000) (hE1 : Env w1) => HE.out x hmem b k _ w1 L (At.below hAtB h) hp1 (by have := HK.out; omega) hL hE1
      unfold nodeV at hcall
      have HC := Lib.hid hcall
      have HBx := Lib.hid (And.intro hpB (And.intro hGB (And.intro hbox hbx)))
      have HSz := Lib.hid hsz
      clear hcall hpB hGB hbox hAtB hAt HA hG hpg hxe hmem hbx hsz
      have hf := lines_next (k := k) hmap
      rw [hf] at hroom
      simp only [List.length_append, List.length_cons, List.length_nil] at hroom
      have hc := indent_any b bx _ k HBx.out.1 (by have := HK.out; omega) (by simp only [List.length_append]; omega)
      rw [← HBx.out.2.2.2] at hc
      have HC0 := Lib.hid hc
      have HF := Lib.hid hf
      have HRoom := Lib.hid hroom
      clear hc hf hmap hroom
      go_wp2_with (first
        | (go_at_call 44; refine HC0.out.mono ?_; rintro e w1 ⟨⟨v1, rfl⟩, hp1, hg1⟩; rw [HBx.out.2.2.2] at hg1; have hbl1 := hp1.lt; have q0 : w1.cell? ⟨wr.heap.size, 0, none⟩ = some (.int .i64 x.op) := (hg1.cell HBx.out.2.2.1 (by omega) rfl 0).trans (cell_of_row _ _ 0 _ _ _ HBx.out.2.2.1); have q1 : w1.cell? ⟨wr.heap.size, 1, none⟩ = some (.string (bs x.s)) := (hg1.cell HBx.out.2.2.1 (by omega) rfl 1).trans (cell_of_row _ _ 1 _ _ _ HBx.out.2.2.1); have q2 : w1.cell? ⟨wr.heap.size, 2, none⟩ = some (.int .i64 x.n) := (hg1.cell HBx.out.2.2.1 (by omega) rfl 2).trans (cell_of_row _ _ 2 _ _ _ HBx.out.2.2.1); have q3 : w1.cell? ⟨wr.heap.size, 3, none⟩ = some (.slice Av x.l.length cv) := (hg1.cell HBx.out.2.2.1 (by omega) rfl 3).trans (cell_of_row _ _ 3 _ _ _ HBx.out.2.2.1); have q4 : w1.cell? ⟨wr.heap.size, 4, none⟩ = some (.int .i64 x.line) := (hg1.cell HBx.out.2.2.1 (by omega) rfl 4).trans (cell_of_row _ _ 4 _ _ _ HBx.out.2.2.1); have hc2 := HC.out w1 _ hg1.below hp1 (by have := HRoom.out; simp only [List.length_append] at this ⊢; omega) (HEn.out.pg H1.out (HBx.out.2.1.trans hg1)); have HC2 := Lib.hid hc2; have HR1 := Lib.hid hg1; clear hp1 hg1 hc2)
        | (go_at_call 45; refine HC2.out.mono ?_; rintro e w2 ⟨⟨v2, rfl⟩, hp2, hg2⟩; have hbl2 := hp2.lt; have HC3 := Lib.hid (putOne b k [10] w2 _ hp2 (by have := HRoom.out; simp only [List.length_append, List.length_cons, List.length_nil] at this ⊢; omega)); have HR2 := Lib.hid hg2; clear hp2 hg2)
        | (go_at_call 46; refine HC3.out.mono ?_; rintro e w3 ⟨⟨v3, rfl⟩, hp3, hg3⟩; have HR := Lib.hid (And.intro hp3 hg3); clear hp3 hg3))
      go_roundw
      case rel => exact ⟨n + 1, by omega, by go_num, by
        have := HR.out.1
        rw [HF.out]
        simpa using this, ((HBx.out.2.1.trans HR1.out).trans HR2.out).trans HR.out.2⟩
      case measure => simp [intOf]; omega
    · obtain rfl : n = len := by omega
      have HN := Lib.hid (show ((xs.map (Tr.txt k)).take n) = xs.map (Tr.txt k) from List.take_of_length_le (by rw [List.length_map, HL.out]; exact Nat.le_refl _))
      have HPg := Lib.hid hpg
      clear hpg
      go_wp2
      refine bodyPost_ret (results_none rfl _ _ _) rfl ?_
      have := HPg.out
      rw [HN.out] at this
      exact ⟨⟨_, rfl⟩, this, hG⟩

theorem PageAt.turn {W : World} {b k : Nat} {l : Bs} (h : PageAt W b l k) (m : Nat) : PageAt (W.setCell ⟨b, 1, none⟩ (.int .i64 m)) b l m ∧ PG b W (W.setCell ⟨b, 1, none⟩ (.int .i64 m)) := by
  obtain ⟨h0, v, h1, h2⟩ := h
  have hset : ∀ i, i ≠ b → (W.setCell ⟨b, 1, none⟩ (.int .i64 m)).heap[i]? = W.heap[i]? := fun i hi => heap_setCell_other W ⟨b, 1, none⟩ i _ hi
  refine ⟨⟨h0, v, heap_setCell_same W b 1 _ _ _ h1, ?_⟩, ⟨rfl, rfl, rfl, by simp, fun i hi => hset i (by omega), fun i o g1 g2 _ => (hset i g2).trans g1⟩⟩
  exact ⟨h2.1, h2.2.imp id fun ⟨g, cap, cur, e, g2, g3, g4⟩ => ⟨g, cap, cur, e, g2, (hset g (by omega)).trans g3, g4⟩⟩
theorem PageAt.cell1 {W : World} {b k : Nat} {l : Bs} (h : PageAt W b l k) : W.cell? ⟨b, 1, none⟩ = some (.int .i64 k) ∧ W.frozen? ⟨b, 1, none⟩ = false := by
  obtain ⟨-, v, h1, -⟩ := h
  exact ⟨cell_of_row W b 1 _ _ _ h1, by simp [World.frozen?, h1]⟩

/-- The page's method puts a block's text. -/
def BraceOK (x : Tr) : Prop := ∀ (b k : Nat) (v : Value) (w : World) (l : Bs), At w b x v → PageAt w b l k → k + x.size ≤ 100000 → (l ++ x.txt k).length ≤ 100000000 → Env w →
  Calls Tryd.prog 67 #[.pointer (some ⟨b, 0, none⟩), v] w (Put b w (l ++ x.txt k) k)
set_option maxRecDepth 100000 in
set_option maxHeartbeats 4000000 in
theorem braces_any (x : Tr) (hop : x.op = 32) (hS : ∀ y ∈ x.l, StmtOK y) : BraceOK x := by
  intro b k v w l hAt hp hk hlen he
  rw [At_iff] at hAt
  obtain ⟨u, rfl, hrow, hfine⟩ := hAt
  obtain ⟨Ax, cx, rfl, hx1, hx2⟩ := row_at hrow
  rw [txt_block k x hop] at hlen ⊢
  rw [size_eq] at hk
  have hlen2 := hlen
  simp only [List.length_append, List.length_cons, List.length_nil] at hlen2
  obtain ⟨R, eR⟩ : ∃ R, l ++ ([123, 10] ++ (linesL (k + 1) (x.l.map (Tr.txt (k + 1))) ++ (indentB k ++ [125]))) = R := ⟨_, rfl⟩
  rw [eR]
  have HRt := Lib.hid eR
  unfold nodeV
  have hbl := hp.lt
  clear eR hop hx1 hx2
  obtain ⟨W1, hW1⟩ : ∃ W, (w.alloc (.cells #[.int .i64 x.op, .string (bs x.s), .int .i64 x.n, .slice Ax x.l.length cx, .int .i64 x.line] 24)) = W := ⟨_, rfl⟩
  have hp1 : PageAt W1 b l k := by rw [← hW1]; exact hp.alloc _
  have hg1 : PG b w W1 := by rw [← hW1]; exact (PG.refl b w).alloc (by omega) _
  have hbox : W1.heap[w.heap.size]? = some (.cells #[.int .i64 x.op, .string (bs x.s), .int .i64 x.n, .slice Ax x.l.length cx, .int .i64 x.line] 24 (0, 0)) := by rw [← hW1]; exact heap_alloc_new w _
  have hz1 : W1.heap.size = w.heap.size + 1 := by rw [← hW1]; simp
  have hc1 := putOne b k [123, 10] W1 l hp1 (by simp only [List.length_append, List.length_cons, List.length_nil]; omega)
  rw [← hW1] at hc1
  rw [World.size_alloc] at hc1
  have H0 := Lib.hid (And.intro hrow (And.intro hS (And.intro he (And.intro hp.1 hk))))
  have HLen := Lib.hid hlen2
  have HB := Lib.hid (And.intro hbox (And.intro hz1 (And.intro hg1 hW1)))
  have HC1 := Lib.hid hc1
  clear hlen hlen2 hrow hS hk he hfine hp hp1 hg1 hbox hz1 hc1 hW1
  go_enter Tryd.func67, Tryd.ntmps67
  go_wp2_with fail
  go_at_call 46
  refine HC1.out.mono ?_
  rintro e w2 ⟨⟨v2, rfl⟩, hp2, hg2⟩
  rw [HB.out.2.2.2] at hg2
  obtain ⟨hc2, hf2⟩ := hp2.cell1
  obtain ⟨hp3, hg3⟩ := hp2.turn (k + 1)
  have hbox3 := hg3.keep _ _ (hg2.keep _ _ HB.out.1 (by omega) rfl) (by omega) rfl
  obtain ⟨W3, hW3⟩ : ∃ W, (w2.setCell ⟨b, 1, none⟩ (.int .i64 (k + 1 : Nat))) = W := ⟨_, rfl⟩
  rw [hW3] at hp3 hg3 hbox3
  have hG3 : PG b w W3 := (HB.out.2.2.1.trans hg2).trans hg3
  have hl3 := lines_any b (k + 1) x.l _ W3 _ (H0.out.1.below hG3.below) hp3 H0.out.2.1 (by have := H0.out.2.2.2.2; omega) (by have := HLen.out; simp only [List.length_append, List.length_cons, List.length_nil] at this ⊢; omega) (H0.out.2.2.1.pg H0.out.2.2.2.1 hG3)
  have hW3c : w2.setCell ⟨b, 1, none⟩ (.int .i64 ((k : Int) + 1)) = W3 := by simpa using hW3
  have d3 : (w2.setCell ⟨b, 1, none⟩ (.int .i64 ((k : Int) + 1))).cell? ⟨w.heap.size, 3, none⟩ = some (.slice Ax x.l.length cx) := by rw [hW3c]; exact cell_of_row _ _ 3 _ _ _ hbox3
  have hkk : k < 100000 := by have := H0.out.2.2.2.2; omega
  rw [← hW3c] at hl3
  have HC3 := Lib.hid hl3
  have HG3 := Lib.hid (And.intro hG3 (And.intro hW3c (And.intro hp2 hg2)))
  clear hl3 hp3 hg3 hbox3 hG3 hg2 hp2 hW3 hW3c
  go_wp2_with fail
  go_at_call 31
  refine HC3.out.mono ?_
  rintro e w4 ⟨⟨v4, rfl⟩, hp4, hg4⟩
  rw [HG3.out.2.1] at hg4
  obtain ⟨hc4, hf4⟩ := hp4.cell1
  obtain ⟨hp5, hg5⟩ := hp4.turn k
  obtain ⟨W5, hW5⟩ : ∃ W, (w4.setCell ⟨b, 1, none⟩ (.int .i64 k)) = W := ⟨_, rfl⟩
  have hG5 : PG b w W5 := (HG3.out.1.trans hg4).trans (by rw [← hW5]; exact hg5)
  rw [hW5] at hp5
  have hi := indent_any b W5 _ k hp5 (by omega) (by have := HLen.out; simp only [List.length_append, List.length_cons, List.length_nil] at this ⊢; omega)
  rw [← hW5] at hi
  have HC5 := Lib.hid hi
  have HG5 := Lib.hid (And.intro hG5 hW5)
  have hc4' : w4.cell? ⟨b, 1, none⟩ = some (.int .i64 ((k : Int) + 1)) := by simpa using hc4
  clear hi hp5 hg5 hG5 hW5 hp4 hg4 hc4 d3
  go_wp2_with (first
    | (go_at_call 44; refine HC5.out.mono ?_; rintro e w6 ⟨⟨v6, rfl⟩, hp6, hg6⟩; rw [HG5.out.2] at hg6; have hbl6 := hp6.lt; have HC6 := Lib.hid (putOne b k [125] w6 _ hp6 (by have := HLen.out; simp only [List.length_append, List.length_cons, List.length_nil] at this ⊢; omega)); have HR6 := Lib.hid hg6; clear hp6 hg6)
    | (go_at_call 46; refine HC6.out.mono ?_; rintro e w7 ⟨⟨v7, rfl⟩, hp7, hg7⟩; have HR := Lib.hid (And.intro hp7 hg7); clear hp7 hg7))
  refine bodyPost_ret (results_none rfl _ _ _) rfl ?_
  exact ⟨⟨_, rfl⟩, by have := HR.out.1; rw [← HRt.out]; simpa using this, (HG5.out.1.trans HR6.out).trans HR.out.2⟩
end Go.Proofs.YtiejpenffpjmeaaDoor
