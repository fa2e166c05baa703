/- jtree.page: a text that grows; put, indent. -/
import Derived.Test.YtiejpenffpjmeaaDoorText
import Derived.Test.YtiejpenffpjmeaaDoorNodes
import Derived.Test.YtiejpenffpjmeaaDoorQuote
import Derived.Test.YtiejpenffpjmeaaDoorShelf
namespace Go.Proofs.YtiejpenffpjmeaaDoor
open Go.RowKit Go.Proofs

/-- Is an object no row of bytes. -/
def noBytes : Obj → Bool
  | .cells _ t _ => !(t == 5)
  | _ => true
/-- Block b is a page: its text, and how many blocks are around. -/
def PageAt (W : World) (b : Nat) (l : Bs) (k : Nat) : Prop :=
  1 ≤ b ∧ ∃ v, W.heap[b]? = some (.cells #[v, .int .i64 k] 41 (0, 0)) ∧ W.ownsRow (b + 1) 5 1 v l.length (Lib.byteCells l)
/-- Of what was there only the page, and rows of bytes behind it, have turned. -/
structure PG (b : Nat) (W W' : World) : Prop where
  os : W'.os = W.os
  tape : W'.tape = W.tape
  output : W'.output = W.output
  size : W.heap.size ≤ W'.heap.size
  low : ∀ i, i < b → W'.heap[i]? = W.heap[i]?
  keep : ∀ i o, W.heap[i]? = some o → i ≠ b → noBytes o = true → W'.heap[i]? = some o
theorem PG.refl (b : Nat) (W : World) : PG b W W := ⟨rfl, rfl, rfl, Nat.le_refl _, fun _ _ => rfl, fun _ _ h _ _ => h⟩
theorem PG.trans {b : Nat} {A B C : World} (h : PG b A B) (k : PG b B C) : PG b A C :=
  ⟨k.os.trans h.os, k.tape.trans h.tape, k.output.trans h.output, Nat.le_trans h.size k.size, fun i hi => (k.low i hi).trans (h.low i hi), fun i o h1 h2 h3 => k.keep i o (h.keep i o h1 h2 h3) h2 h3⟩
theorem PG.of_below {b : Nat} {A B : World} (h : Below A.heap.size A B) (hb : b ≤ A.heap.size) : PG b A B :=
  ⟨h.os, h.tape, h.output, h.size, fun i hi => h.block i (by omega), fun i _ h1 _ _ => (h.block i (Array.getElem?_eq_some_iff.1 h1).1).trans h1⟩
theorem PG.alloc {b : Nat} {A B : World} (h : PG b A B) (hb : b ≤ B.heap.size) (o : Obj) : PG b A (B.alloc o) := h.trans (.of_below ((Below.refl _ B).alloc (Nat.le_refl _) _) hb)
theorem PG.below {b : Nat} {A B : World} (h : PG b A B) : Below b A B := ⟨h.os, h.tape, h.output, h.size, h.low⟩
theorem PG.drew {b : Nat} {A B : World} (h : PG b A B) : PG b A B.drew := ⟨h.os, h.tape, h.output, h.size, h.low, h.keep⟩
theorem PG.cell {b i : Nat} {A B : World} (h : PG b A B) {cs : Array Value} {t : TypeId} {f : Nat × Nat} (hi : A.heap[i]? = some (.cells cs t f)) (hb : i ≠ b) (ht : (t == 5) = false) (j : Nat) : B.cell? ⟨i, j, none⟩ = A.cell? ⟨i, j, none⟩ := by
  have := h.keep i _ hi hb (by simp [noBytes, ht])
  unfold World.cell?
  rw [this, hi]

theorem PageAt.cells {W : World} {b k : Nat} {l : Bs} (h : PageAt W b l k) : ∃ A c, W.heap[b]? = some (.cells #[.slice A l.length c, .int .i64 k] 41 (0, 0)) ∧ W.ownsRow (b + 1) 5 1 (.slice A l.length c) l.length (Lib.byteCells l) := by
  obtain ⟨-, v, h1, h2⟩ := h
  rcases h2.2 with ⟨rfl, h0⟩ | ⟨g, cap, cur, rfl, _⟩
  · exact ⟨none, 0, by rw [h0]; exact h1, by rw [h0] at h2 ⊢; exact h2⟩
  · exact ⟨_, cap, h1, h2⟩
theorem PageAt.lt {W : World} {b k : Nat} {l : Bs} (h : PageAt W b l k) : b < W.heap.size := by
  obtain ⟨-, v, h1, -⟩ := h
  exact (Array.getElem?_eq_some_iff.1 h1).1
theorem PageAt.below {W W' : World} {b k : Nat} {l : Bs} (h : PageAt W b l k) (hb : Below W.heap.size W W') : PageAt W' b l k := by
  obtain ⟨h0, v, h1, h2⟩ := h
  exact ⟨h0, v, (hb.block b (Array.getElem?_eq_some_iff.1 h1).1).trans h1, ownsRow_below h2 hb⟩
theorem PageAt.alloc {W : World} {b k : Nat} {l : Bs} (h : PageAt W b l k) (o : Obj) : PageAt (W.alloc o) b l k := h.below ((Below.refl _ W).alloc (Nat.le_refl _) _)
theorem row_form {W : World} {base e size n : Nat} {v : Value} {xs : List Value} (h : W.ownsRow base e size v n xs) : ∃ A c, v = .slice A n c := by
  rcases h.2 with ⟨rfl, h0⟩ | ⟨g, cap, cur, rfl, _⟩
  · exact ⟨none, 0, by rw [h0]⟩
  · exact ⟨_, cap, rfl⟩

/-- The slice holds these texts, in a row that is no page's. -/
def Strs (W : World) (b : Nat) (v : Value) (ts : List Bs) : Prop :=
  ∃ A cap, v = .slice A ts.length cap ∧ (ts.length ≤ cap ∧ cap ≤ 1000000) ∧ (0 < ts.length → ∃ g cs, A = some ⟨g, 0, none⟩ ∧ g ≠ b ∧ W.heap[g]? = some (.cells cs 9 (0, 0)) ∧ ∀ (j : Nat) t, ts[j]? = some t → cs[j]? = some (.string (bs t)))
theorem Strs.mk_ (w : World) (b : Nat) (hb : b < w.heap.size) (ts : List Bs) (n : Nat) (hn : ts.length = n) (hl : n ≤ 1000000) (cs : Array Value) (hc : cs = (ts.map fun t => Value.string (bs t)).toArray) :
    Strs (w.alloc (.cells cs 9)) b (.slice (some ⟨w.heap.size, 0, none⟩) n n) ts := by
  subst hn
  refine ⟨_, ts.length, rfl, ⟨Nat.le_refl _, hl⟩, fun _ => ⟨w.heap.size, cs, rfl, by omega, heap_alloc_new w _, fun j t hj => ?_⟩⟩
  rw [hc]
  simp [hj]

/-- What a page's method leaves: so much text, and so many blocks around. -/
def Put (b : Nat) (w : World) (l : Bs) (k : Nat) (e : Ending) (w' : World) : Prop := (∃ v, e = .returned v) ∧ PageAt w' b l k ∧ PG b w w'

theorem flatten_take {ts : List Bs} {k : Nat} {t : Bs} (h : ts[k]? = some t) : (ts.take (k + 1)).flatten = (ts.take k).flatten ++ t := by
  rw [List.take_add_one, h]
  simp
theorem flatten_le {ts : List Bs} {k : Nat} {t : Bs} (h : ts[k]? = some t) : (ts.take k).flatten.length + t.length ≤ ts.flatten.length := by
  have h1 := flatten_take h
  have h2 : ts.flatten = (ts.take (k + 1)).flatten ++ (ts.drop (k + 1)).flatten := by rw [← List.flatten_append, List.take_append_drop]
  rw [h2, h1]
  simp

set_option maxRecDepth 100000 in
set_option maxHeartbeats 4000000 in
theorem put_any (b : Nat) (ts : List Bs) (v : Value) (w : World) (l : Bs) (k : Nat) (hp : PageAt w b l k) (hv : Strs w b v ts) (hlen : (l ++ ts.flatten).length ≤ 100000000) :
    Calls Tryd.prog 46 #[.pointer (some ⟨b, 0, none⟩), v] w (Put b w (l ++ ts.flatten) k) := by
  obtain ⟨i0, hi, hz0, hz1, hz2⟩ := info_parts info5
  have HI := Lib.hid (And.intro hi (And.intro hz0 (And.intro hz1 hz2)))
  obtain ⟨A, cap, rfl, ⟨hc1, hc2⟩, hA⟩ := hv
  have HA := Lib.hid hA
  obtain ⟨len, el⟩ : ∃ n, ts.length = n := ⟨_, rfl⟩
  have HL := Lib.hid el
  rw [el] at hc1 ⊢
  have HLen := Lib.hid hlen
  clear hi hz0 hz1 hz2 hA el hlen
  go_enter Tryd.func46, Tryd.ntmps46
  go_wp2
  go_loopw [8] (fun i wr => ∃ n : Nat, n ≤ len ∧ i = .int .i64 n ∧ PageAt wr b (l ++ (ts.take n).flatten) k ∧ PG b w wr) (fun i _ => len - (intOf i).toNat)
  case atStart => exact ⟨0, Nat.zero_le _, rfl, by simpa using hp, PG.refl _ _⟩
  case round =>
    obtain ⟨n, hn, rfl, hpg, hG⟩ := hrel
    by_cases hlt : n < len
    · obtain ⟨g, cs, rfl, hgb, hg, hcell⟩ := HA.out (by rw [HL.out]; omega)
      obtain ⟨t, et⟩ : ∃ t, ts[n]? = some t := ⟨_, List.getElem?_eq_getElem (by rw [HL.out]; exact hlt)⟩
      have ct : wr.cell? ⟨g, n, none⟩ = some (.string (bs t)) := (hG.cell hg hgb rfl n).trans ((cell_of_row w g n _ _ _ hg).trans (hcell n t et))
      obtain ⟨Ap, cp, hblk, hrow⟩ := hpg.cells
      have cb : wr.cell? ⟨b, 0, none⟩ = some (.slice Ap (l ++ (ts.take n).flatten).length cp) := cell_of_row wr b 0 _ _ _ hblk
      have fb : wr.frozen? ⟨b, 0, none⟩ = false := by simp [World.frozen?, hblk]
      have hbl := (Array.getElem?_eq_some_iff.1 hblk).1
      have hfl := flatten_le et
      have hnext := flatten_take et
      have hlen := HLen.out
      rw [List.length_append] at hlen
      have hbt : (bs t).size = t.length := bs_size t
      obtain ⟨L, eL⟩ : ∃ L, l ++ (ts.take n).flatten = L := ⟨_, rfl⟩
      have hLl : L.length + t.length ≤ 100000000 := by rw [← eL, List.length_append]; omega
      have hnext2 : l ++ (ts.take (n + 1)).flatten = L ++ t := by rw [hnext, ← eL, List.append_assoc]
      rw [eL] at cb hrow hblk
      have HN := Lib.hid hnext2
      have HG := Lib.hid hG
      have HB := Lib.hid hblk
      have HR := Lib.hid hrow
      have H1 := Lib.hid hpg.1
      have HT := Lib.hid hbt
      have hml : L.length + (bs t).size ≤ 100000000 := by rw [hbt]; exact hLl
      clear hcell et hpg hblk hfl hnext hlen eL hnext2 hG hg hrow hbt
      go_wp2_with (at_builtin; (refine Lib.wpList_append_own_string _ rfl _ _ 39 9 rfl (b + 1) 5 i0 Tryd.underlying39 Tryd.underlying9 HI.out.1 HI.out.2.1 HI.out.2.2.1 HI.out.2.2.2 _ _ _ rfl HR.out (bs t) rfl (by unfold maxLen; omega) (by omega) (by omega) ?_); (intro v' w1 hown hg _); (obtain ⟨A', c', rfl⟩ := row_form hown); (have hblk1 := (hg.block b hbl (fun e => by have := HR.out.lt b e.symm; omega)).trans HB.out); (have cb1 : w1.cell? ⟨b, 0, none⟩ = some (.slice Ap L.length cp) := cell_of_row w1 b 0 _ _ _ hblk1); (have fb1 : w1.frozen? ⟨b, 0, none⟩ = false := by simp [World.frozen?, hblk1]); (have HO := Lib.hid (And.intro hown (And.intro hg hblk1))); (clear hown hg hblk1))
      obtain ⟨hown, hg1, hblk1⟩ := HO.out
      have hb1 := (Array.getElem?_eq_some_iff.1 hblk1).1
      have hset : ∀ i, i ≠ b → (w1.setCell ⟨b, 0, none⟩ (.slice A' (L.length + (bs t).size) c')).heap[i]? = w1.heap[i]? := fun i hi => heap_setCell_other w1 ⟨b, 0, none⟩ i _ hi
      have hrowne : ∀ i o, wr.heap[i]? = some o → noBytes o = true → some i ≠ Value.ownBlock (.slice Ap L.length cp) := by
        intro i o h1 h2 e
        rcases HR.out.2 with ⟨h, _⟩ | ⟨g', cap', cur, h, _, h3, _⟩
        · rw [h] at e; simp [Value.ownBlock] at e
        · rw [h] at e
          simp [Value.ownBlock] at e
          subst e
          rw [h3] at h1
          cases h1
          simp [noBytes] at h2
      have hpg : PG b wr (w1.setCell ⟨b, 0, none⟩ (.slice A' (L.length + (bs t).size) c')) :=
        ⟨hg1.os, hg1.tape, hg1.output, by simpa using hg1.size, fun i hi => (hset i (by omega)).trans (hg1.block i (by omega) (fun e => by have := HR.out.lt i e.symm; omega)), fun i o h1 h2 h3 => (hset i h2).trans ((hg1.block i (Array.getElem?_eq_some_iff.1 h1).1 (hrowne i o h1 h3)).trans h1)⟩
      have hrow1 : (w1.setCell ⟨b, 0, none⟩ (.slice A' (L.length + (bs t).size) c')).ownsRow (b + 1) 5 1 (.slice A' (L.length + (bs t).size) c') (L ++ t).length (Lib.byteCells (L ++ t)) := by
        have h1 : w1.ownsRow (b + 1) 5 1 (.slice A' (L.length + (bs t).size) c') (L ++ t).length (Lib.byteCells (L ++ t)) := by
          have e1 : (L ++ t).length = L.length + (bs t).size := by rw [List.length_append, HT.out]
          rw [e1]
          have e2 : Lib.byteCells (L ++ t) = Lib.byteCells L ++ Lib.strCells (bs t) := by simp [Lib.byteCells, Lib.strCells, bs_list]
          rw [e2]
          exact hown
        refine ⟨h1.1, h1.2.imp id fun ⟨g', cap', cur, e, h2, h3, h4⟩ => ⟨g', cap', cur, e, h2, (hset g' (by omega)).trans h3, h4⟩⟩
      go_roundw
      case rel => exact ⟨n + 1, by omega, by go_num, by rw [HN.out]; exact ⟨H1.out, _, heap_setCell_same w1 b 0 _ _ _ hblk1, hrow1⟩, HG.out.trans hpg⟩
      case measure => simp [intOf]; omega
    · obtain rfl : n = len := by omega
      have HN := Lib.hid (show (ts.take n) = ts from List.take_of_length_le (by rw [HL.out]; exact Nat.le_refl _))
      have HP := Lib.hid hpg
      clear hpg
      go_wp2
      refine bodyPost_ret (results_none rfl _ _ _) rfl ?_
      have := HP.out
      rw [HN.out] at this
      exact ⟨⟨_, rfl⟩, this, hG⟩

theorem indentB_succ (k : Nat) : indentB (k + 1) = indentB k ++ [32, 32] := by
  unfold indentB
  rw [show 2 * (k + 1) = 2 * k + 2 by omega, ← List.replicate_append_replicate]
  rfl
theorem indentB_len (k : Nat) : (indentB k).length = 2 * k := by simp [indentB]

set_option maxRecDepth 100000 in
set_option maxHeartbeats 4000000 in
theorem indent_any (b : Nat) (w : World) (l : Bs) (k : Nat) (hp : PageAt w b l k) (hk : k ≤ 100000) (hlen : (l ++ indentB k).length ≤ 100000000) :
    Calls Tryd.prog 44 #[.pointer (some ⟨b, 0, none⟩)] w (Put b w (l ++ indentB k) k) := by
  have HLen := Lib.hid hlen
  obtain ⟨A0, c0, hblk0, -⟩ := hp.cells
  have c1 : w.cell? ⟨b, 1, none⟩ = some (.int .i64 k) := cell_of_row w b 1 _ _ _ hblk0
  have HP := Lib.hid hp
  clear hlen hblk0 hp
  go_enter Tryd.func44, Tryd.ntmps44
  go_wp2
  go_loopw [6] (fun i wr => ∃ n : Nat, n ≤ k ∧ i = .int .i64 n ∧ PageAt wr b (l ++ indentB n) k ∧ PG b w wr) (fun i _ => k - (intOf i).toNat)
  case atStart => exact ⟨0, Nat.zero_le _, rfl, by simpa [indentB] using HP.out, PG.refl _ _⟩
  case round =>
    obtain ⟨n, hn, rfl, hpg, hG⟩ := hrel
    have hbl := hpg.lt
    have HPg := Lib.hid hpg
    clear hpg
    by_cases hlt : n < k
    · have HC := Lib.hid (put_any b [[32, 32]] _ _ _ k (HPg.out.alloc (.cells #[.string ⟨#[32, 32]⟩] 9)) (Strs.mk_ wr b hbl [[32, 32]] 1 rfl (by omega) _ rfl) (by
        have := HLen.out
        have e : (indentB (n + 1)).length ≤ (indentB k).length := by rw [indentB_len, indentB_len]; omega
        rw [indentB_succ] at e
        simp only [List.length_append, List.flatten_cons, List.flatten_nil, List.append_nil] at this e ⊢
        omega))
      go_wp2_with (go_at_call 46; refine HC.out.mono ?_; rintro e w1 ⟨⟨v, rfl⟩, hp1, hg1⟩; have HR := Lib.hid (And.intro hp1 hg1); clear hp1 hg1)
      go_roundw
      case rel => exact ⟨n + 1, by omega, by go_num, by
        have := HR.out.1
        rw [indentB_succ, ← List.append_assoc]
        simpa using this, (hG.alloc (by omega) _).trans HR.out.2⟩
      case measure => simp [intOf]; omega
    · obtain rfl : n = k := by omega
      go_wp2
      refine bodyPost_ret (results_none rfl _ _ _) rfl ?_
      exact ⟨⟨_, rfl⟩, HPg.out, hG⟩
end Go.Proofs.YtiejpenffpjmeaaDoor
