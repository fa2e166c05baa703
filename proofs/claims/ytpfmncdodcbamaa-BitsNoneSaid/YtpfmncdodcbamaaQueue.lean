/- bits.Queue: New, Push, Pop, Len. -/
import Derived.Test.YtpfmncdodcbamaaHeld
import Derived.Deep.DeepFit
import Derived.Test.YtpfmncdodcbamaaTests
namespace Go.Proofs.Ytpfmncdodcbamaa
open Go.RowKit Go.Proofs Go.Maps

/-- Block b is a queue of the numbers xs; its map and its row lie from base on. k: no more numbers than that have been put in. -/
def IsQ (w : World) (base b k : Nat) (xs : List Int) : Prop :=
  ∃ (m : Nat) (A : Option Addr) (n c : Nat) (D : DataW Unit), base ≤ b ∧ base ≤ m ∧ w.heap[b]? = some (.cells #[.map (some m), .slice A n c] 60 (0, 0)) ∧ w.ownsMap Try.prog 3 unitElem m k D ∧
    OffRow w base A n c xs ∧ (∀ x, I64 x → Maps.has D (.int .i64 x) = decide (x ∈ xs)) ∧ (∀ x ∈ xs, I64 x) ∧ xs.Nodup

theorem IsQ.len {w : World} {base b k : Nat} {xs : List Int} (h : IsQ w base b k xs) : b < w.heap.size := by
  obtain ⟨m, A, n, c, D, _, _, h3, _⟩ := h
  exact (Array.getElem?_eq_some_iff.1 h3).1
/-- It stays so while nothing that lay is turned. -/
theorem IsQ.below {w w' : World} {base b k : Nat} {xs : List Int} (h : IsQ w base b k xs) (hb : Below w.heap.size w w') : IsQ w' base b k xs := by
  obtain ⟨m, A, n, c, D, h1, h2, h3, h4, h5, h6⟩ := h
  exact ⟨m, A, n, c, D, h1, h2, (hb.block b (Array.getElem?_eq_some_iff.1 h3).1).trans h3, h4.kept (World.grownBy.mk hb.os hb.tape hb.output hb.size (fun i hi _ => hb.block i hi)) (row := none) (by simp),
    h5.kept (fun g cs _ hg => (hb.block g (Array.getElem?_eq_some_iff.1 hg).1).trans hg), h6⟩

set_option maxHeartbeats 400000 in
theorem new_any (w : World) : Calls Try.prog 25 #[] w fun e w' => e = .returned (.pointer (some ⟨w.heap.size + 1, 0, none⟩)) ∧ IsQ w' w.heap.size (w.heap.size + 1) 0 [] ∧ Below w.heap.size w w' := by
  have hmm := @run_makeMap Try.prog
  go_enter Try.func25, Try.ntmps25
  go_wp2
  go_ret
  refine ⟨rfl, ⟨w.heap.size, none, 0, 0, .map [], by omega, Nat.le_refl _, ?_, (World.ownsMap_made w _ _ _).alloc _, OffRow.nil_ _ _, fun x _ => rfl, by simp, by simp⟩, ((Below.refl _ w).alloc (Nat.le_refl _) _).alloc (by simp) _⟩
  have := heap_alloc_new (w.alloc (.map #[] 0)) (.cells #[.map (some w.heap.size), .slice none 0 0] 60 (0, 0))
  rwa [World.size_alloc] at this

set_option maxHeartbeats 400000 in
theorem len_nil (w : World) : Calls Try.prog 28 #[.pointer none] w fun e w' => e = .returned (.int .i64 0) ∧ w = w' := by
  go_enter Try.func28, Try.ntmps28
  go_wp2
  go_ret
  exact ⟨rfl, rfl⟩

set_option maxHeartbeats 400000 in
theorem len_any (base b k : Nat) (xs : List Int) (w : World) (h : IsQ w base b k xs) :
    Calls Try.prog 28 #[.pointer (some ⟨b, 0, none⟩)] w fun e w' => e = .returned (.int .i64 xs.length) ∧ w = w' := by
  obtain ⟨m, A, n, c, D, h1, h2, h3, h4, h5, h6⟩ := h
  have c1 : w.cell? ⟨b, 1, none⟩ = some (.slice A n c) := cell_of_row w b 1 _ _ _ h3
  have HL := Lib.hid h5.1
  clear h3 h4 h5 h6
  go_enter Try.func28, Try.ntmps28
  go_wp2
  go_ret
  exact ⟨by rw [HL.out]; rfl, rfl⟩

set_option maxHeartbeats 400000 in
theorem pop_nil (w : World) : Calls Try.prog 26 #[.pointer none] w fun e w' => e = .returned (.tuple #[.int .i64 0, .bool false]) ∧ w = w' := by
  go_enter Try.func26, Try.ntmps26
  go_wp2_with (go_at_call 28; refine (len_nil _).mono ?_; rintro e w' ⟨rfl, rfl⟩)
  go_ret2
  exact ⟨rfl, rfl⟩

set_option maxHeartbeats 400000 in
theorem pop_empty (base b k : Nat) (w : World) (h : IsQ w base b k []) : Calls Try.prog 26 #[.pointer (some ⟨b, 0, none⟩)] w fun e w' => e = .returned (.tuple #[.int .i64 0, .bool false]) ∧ w = w' := by
  have HL := Lib.hid (len_any base b k [] w h)
  clear h
  go_enter Try.func26, Try.ntmps26
  go_wp2_with (go_at_call 28; refine (HL.out).mono ?_; rintro e w' ⟨rfl, rfl⟩)
  go_ret2
  exact ⟨rfl, rfl⟩

theorem ne_map {w : World} {b m : Nat} {cs : Array Value} {t : TypeId} {k : Nat} {D : DataW Unit} (h : w.heap[b]? = some (.cells cs t (0, 0))) (hm : w.ownsMap Try.prog 3 unitElem m k D) : b ≠ m := by
  rintro rfl
  obtain ⟨es, clock, h', _⟩ := hm
  rw [h] at h'
  cases h'

/-- What is left of a queue behind its first number's going. -/
theorem IsQ.popped {w w' : World} {base b k m n c : Nat} {A A' : Option Addr} {x : Int} {xs : List Int} {D D' : DataW Unit} (h1 : base ≤ b) (h2 : base ≤ m) (h3 : w.heap[b]? = some (.cells #[.map (some m), .slice A (n + 1) c] 60 (0, 0)))
    (h5 : OffRow w base A (n + 1) c (x :: xs)) (hA : A' = if c = 1 then A else A.map (·.add 1)) (hD : D' = D.del (.int .i64 x)) (h6 : ∀ y, I64 y → Maps.has D (.int .i64 y) = decide (y ∈ x :: xs)) (h7 : ∀ y ∈ x :: xs, I64 y) (h8 : (x :: xs).Nodup) (hm : w.ownsMap Try.prog 3 unitElem m k D)
    (hown : w'.ownsMap Try.prog 3 unitElem m k D') (hg : (w.setCell ⟨b, 1, none⟩ (.slice A' n (c - 1))).grownBy w' (some m)) : IsQ w' base b k xs ∧ Below base w w' := by
  subst hA hD
  have hbm := ne_map h3 hm
  have hw1 := blk_set h3 1 (.slice (if c = 1 then A else A.map (·.add 1)) n (c - 1))
  rw [List.nodup_cons] at h8
  refine ⟨⟨m, if c = 1 then A else A.map (·.add 1), n, c - 1, _, h1, h2, ?_, hown, ?_, ?_, fun y hy => h7 y (List.mem_cons_of_mem _ hy), h8.2⟩, ?_⟩
  · exact (hg.block b (Array.getElem?_eq_some_iff.1 hw1).1 (fun e => hbm (by injection e))).trans hw1
  · refine h5.tail.kept (fun g cs _ hgc => ?_)
    have hgb : g ≠ b := by rintro rfl; rw [h3] at hgc; injection hgc with hgc; injection hgc with _ hgc; cases hgc
    have hgm := ne_map hgc hm
    have e1 : (w.setCell ⟨b, 1, none⟩ (.slice (if c = 1 then A else A.map (·.add 1)) n (c - 1))).heap[g]? = some (.cells cs 3 (0, 0)) := (Below.heap_setCell w _ _ g hgb).trans hgc
    exact (hg.block g (Array.getElem?_eq_some_iff.1 e1).1 (fun e => hgm (by injection e))).trans e1
  · intro y hy
    by_cases hyx : y = x
    · subst hyx
      rw [Maps.has_del_same]
      simp [h8.1]
    · rw [Maps.has_del_other (by simpa using hyx), h6 y hy]
      simp [hyx]
  · exact ((Below.refl base w).setCell (p := ⟨b, 1, none⟩) h1 _).grown hg (by have := (Array.getElem?_eq_some_iff.1 hw1).1; omega) (fun j e => by cases e; exact h2)

set_option maxHeartbeats 400000 in
theorem pop_cons (base b k : Nat) (x : Int) (xs : List Int) (w : World) (h : IsQ w base b k (x :: xs)) :
    Calls Try.prog 26 #[.pointer (some ⟨b, 0, none⟩)] w fun e w' => e = .returned (.tuple #[.int .i64 x, .bool true]) ∧ IsQ w' base b k xs ∧ Below base w w' := by
  have HL := Lib.hid (len_any base b k _ w h)
  obtain ⟨m, A, n, c, D, h1, h2, h3, h4, h5, h6, h7, h8⟩ := h
  obtain ⟨n, rfl⟩ : ∃ n', n = n' + 1 := ⟨n - 1, by have := h5.1; simp at this; omega⟩
  obtain ⟨g, off, z, rfl, hz, hc0⟩ := h5.block (k := 0) (by omega)
  simp at hz
  subst hz
  rw [Nat.add_zero] at hc0
  have hcc := h5.2.2.1
  have hnc := h5.2.1
  have hnn : n ≤ 9223372036854775806 := by omega
  have c0 : w.cell? ⟨b, 0, none⟩ = some (.map (some m)) := cell_of_row w b 0 _ _ _ h3
  have c1 : w.cell? ⟨b, 1, none⟩ = some (.slice (some ⟨g, off, none⟩) (n + 1) c) := cell_of_row w b 1 _ _ _ h3
  have f1 : w.frozen? ⟨b, 1, none⟩ = false := by simp [World.frozen?, h3]
  have hlen : (((xs.length + 1 : Nat) : Int) == 0) = false := by simp; omega
  have hlen' : ((xs.length : Int) + 1 == 0) = false := by simp; omega
  have hx := h7 x List.mem_cons_self
  have hbm := ne_map h3 h4
  have HD := Lib.hid (fun (v : Value) => held_drop m k D x (w.setCell ⟨b, 1, none⟩ v) hx (h4.setCell (a := ⟨b, 1, none⟩) (Ne.symm hbm) v))
  have HF := Lib.hid (fun (A' : Option Addr) (w' : World) (hA : A' = if c = 1 then some ⟨g, off, none⟩ else (some (⟨g, off, none⟩ : Addr)).map (·.add 1)) (hown : w'.ownsMap Try.prog 3 unitElem m k (D.del (.int .i64 x))) (hg : (w.setCell ⟨b, 1, none⟩ (.slice A' n (c - 1))).grownBy w' (some m)) =>
    IsQ.popped h1 h2 h3 h5 hA rfl h6 h7 h8 h4 hown hg)
  clear h3 h4 h5 h6 h7 h8
  by_cases hc1 : c = 1
  · subst hc1
    obtain rfl : n = 0 := by omega
    go_enter Try.func26, Try.ntmps26
    go_wp2_with (first
      | (go_at_call 28; refine (HL.out).mono ?_; rintro e w' ⟨rfl, rfl⟩)
      | (go_at_call 37; (with_reducible refine (HD.out _).mono ?_); rintro e w' ⟨rfl, hown, hg⟩))
    go_ret2
    obtain ⟨k1, k2⟩ := HF.out _ w' rfl hown hg
    exact ⟨rfl, k1, k2⟩
  · go_enter Try.func26, Try.ntmps26
    go_wp2_with (first
      | (go_at_call 28; refine (HL.out).mono ?_; rintro e w' ⟨rfl, rfl⟩)
      | (go_at_call 37; (with_reducible refine (HD.out _).mono ?_); rintro e w' ⟨rfl, hown, hg⟩))
    go_ret2
    obtain ⟨k1, k2⟩ := HF.out (some ⟨g, off + 1, none⟩) w' (by rw [if_neg hc1]; simp [Addr.add]) hown hg
    exact ⟨rfl, k1, k2⟩

set_option maxHeartbeats 400000 in
theorem push_nil (x : Int) (w : World) : Calls Try.prog 27 #[.pointer none, .int .i64 x] w fun e w' => e = .returned (.bool false) ∧ w = w' := by
  go_enter Try.func27, Try.ntmps27
  go_wp2
  go_ret
  exact ⟨rfl, rfl⟩

set_option maxHeartbeats 400000 in
theorem push_old (base b k : Nat) (x : Int) (xs : List Int) (w : World) (hx : I64 x) (h : IsQ w base b k xs) (hin : x ∈ xs) :
    Calls Try.prog 27 #[.pointer (some ⟨b, 0, none⟩), .int .i64 x] w fun e w' => e = .returned (.bool false) ∧ IsQ w' base b k xs ∧ Below w.heap.size w w' := by
  have HQ := Lib.hid h
  obtain ⟨m, A, n, c, D, h1, h2, h3, h4, h5, h6, h7, h8⟩ := h
  have c0 : w.cell? ⟨b, 0, none⟩ = some (.map (some m)) := cell_of_row w b 0 _ _ _ h3
  have hh := held_has m k D x w hx h4
  rw [h6 x hx, decide_eq_true hin] at hh
  have HH := Lib.hid hh
  clear hh h3 h4 h5 h6 h7 h8
  go_enter Try.func27, Try.ntmps27
  go_wp2_with (go_at_call 38; (with_reducible refine (HH.out).mono ?_); rintro e w' ⟨rfl, hbl⟩)
  go_ret
  exact ⟨rfl, HQ.out.below hbl, hbl⟩

theorem IsQ.size_ {w : World} {base b k : Nat} {xs : List Int} (h : IsQ w base b k xs) : base ≤ w.heap.size := by
  have := h.len
  obtain ⟨m, A, n, c, D, h1, _⟩ := h
  omega

/-- A queue with one number more. -/
theorem IsQ.pushed {w2 w3 : World} {base b k m n c c' : Nat} {A A' : Option Addr} {x : Int} {xs : List Int} {D : DataW Unit} {tmp : Obj} (h1 : base ≤ b) (h2 : base ≤ m) (h3 : w2.heap[b]? = some (.cells #[.map (some m), .slice A n c] 60 (0, 0)))
    (h6 : ∀ y, I64 y → Maps.has D (.int .i64 y) = decide (y ∈ xs)) (h7 : ∀ y ∈ xs, I64 y) (h8 : xs.Nodup) (hx : I64 x) (hin : x ∉ xs) (hD : IsMap D) (hown : w2.ownsMap Try.prog 3 unitElem m (k + 1) (D.put (.int .i64 x) (.agg [])))
    (hoff : OffRow w3 base A' (n + 1) c' (xs ++ [x])) (hg : ∃ row, (w2.alloc tmp).grownBy w3 row ∧ ∀ r, row = some r → base ≤ r ∧ ∃ cs, (w2.alloc tmp).heap[r]? = some (.cells cs 3 (0, 0))) :
    IsQ (w3.setCell ⟨b, 1, none⟩ (.slice A' (n + 1) c')) base b (k + 1) (xs ++ [x]) ∧ Below base w2 (w3.setCell ⟨b, 1, none⟩ (.slice A' (n + 1) c')) ∧ w3.heap[b]? = some (.cells #[.map (some m), .slice A n c] 60 (0, 0)) := by
  obtain ⟨row, hg, hr⟩ := hg
  have hbl := (Array.getElem?_eq_some_iff.1 h3).1
  have hbm := ne_map h3 hown
  have h3a : (w2.alloc tmp).heap[b]? = some (.cells #[.map (some m), .slice A n c] 60 (0, 0)) := (Below.heap_alloc w2 tmp b hbl).trans h3
  have hrb : some b ≠ row := fun e => by
    obtain ⟨_, cs, hc⟩ := hr b e.symm
    rw [h3a] at hc; injection hc with hc; injection hc with _ hc; cases hc
  have hrm : some m ≠ row := fun e => by
    obtain ⟨_, cs, hc⟩ := hr m e.symm
    exact ne_map hc (hown.alloc tmp) rfl
  have h3c : w3.heap[b]? = some (.cells #[.map (some m), .slice A n c] 60 (0, 0)) := (hg.block b (Array.getElem?_eq_some_iff.1 h3a).1 hrb).trans h3a
  have hown3 := (hown.alloc tmp).kept hg hrm
  have hkey : WideAt.IsKeyLit (.int .i64 x) := trivial
  refine ⟨⟨m, A', n + 1, c', _, h1, h2, blk_set h3c 1 _, hown3.setCell (a := ⟨b, 1, none⟩) (Ne.symm hbm) _, hoff.kept (fun g cs _ hgc => ?_), ?_, ?_, ?_⟩, ?_, h3c⟩
  · refine (Below.heap_setCell w3 _ _ g (fun e => ?_)).trans hgc
    subst e
    rw [h3c] at hgc; injection hgc with hgc; injection hgc with _ hgc; cases hgc
  · intro y hy
    by_cases hyx : y = x
    · subst hyx
      rw [Maps.has_put_same hD hkey]
      simp
    · rw [Maps.has_put_other (by simpa using hyx), h6 y hy]
      simp [hyx]
  · intro y hy
    rcases List.mem_append.1 hy with h | h
    · exact h7 y h
    · obtain rfl : y = x := by simpa using h
      exact hx
  · rw [List.nodup_append]
    exact ⟨h8, by simp, fun a ha b' hb' => by
      obtain rfl : b' = x := by simpa using hb'
      rintro rfl
      exact hin ha⟩
  · exact (((Below.refl base w2).alloc (by omega) tmp).grown hg (by simp; omega) (fun r e => (hr r e).1)).setCell (p := ⟨b, 1, none⟩) h1 _

set_option maxHeartbeats 1000000 in
theorem push_new (base b k : Nat) (x : Int) (xs : List Int) (w : World) (hx : I64 x) (h : IsQ w base b k xs) (hin : x ∉ xs) (hk : k < maxLen) (hn : xs.length ≤ 1099511627776) :
    Calls Try.prog 27 #[.pointer (some ⟨b, 0, none⟩), .int .i64 x] w fun e w' => e = .returned (.bool true) ∧ IsQ w' base b (k + 1) (xs ++ [x]) ∧ Below base w w' := by
  have hbs := h.size_
  obtain ⟨m, A, n, c, D, h1, h2, h3, h4, h5, h6, h7, h8⟩ := h
  obtain ⟨i0, hi, hz0, hz1, hz2⟩ := info_parts info3
  have HI := Lib.hid (And.intro hi (And.intro hz0 (And.intro hz1 hz2)))
  clear hi hz0 hz1 hz2
  have c0 : w.cell? ⟨b, 0, none⟩ = some (.map (some m)) := cell_of_row w b 0 _ _ _ h3
  have hh := held_has m k D x w hx h4
  rw [h6 x hx, decide_eq_false hin] at hh
  have HH := Lib.hid hh
  have hlen := h5.1
  have hn' : n ≤ 1099511627776 := by omega
  have H3 := Lib.hid h3
  have H4 := Lib.hid h4
  have H5 := Lib.hid h5
  have HP := Lib.hid (And.intro h6 (And.intro h7 h8))
  clear hh h3 h4 h5 h6 h7 h8 hlen
  go_enter Try.func27, Try.ntmps27
  go_wp2_with fail
  go_at_call 38
  (with_reducible refine (HH.out).mono ?_)
  rintro e w1 ⟨rfl, hbl⟩
  have H3a := Lib.hid ((hbl.block b (Array.getElem?_eq_some_iff.1 H3.out).1).trans H3.out)
  have c0a : w1.cell? ⟨b, 0, none⟩ = some (.map (some m)) := cell_of_row w1 b 0 _ _ _ H3a.out
  have H4a := Lib.hid (H4.out.kept (World.grownBy.mk hbl.os hbl.tape hbl.output hbl.size (fun i hi _ => hbl.block i hi)) (row := none) (by simp))
  have H5a := Lib.hid (H5.out.kept (w' := w1) (fun g cs _ hg => (hbl.block g (Array.getElem?_eq_some_iff.1 hg).1).trans hg))
  have HT := Lib.hid (held_take m k D x w1 hx hk H4a.out)
  have hmn := fun w => run_eql_map_nil (P := Try.prog) w 58 3 63 (some m) Try.underlying58
  go_wp2_with fail
  go_at_call 39
  (with_reducible refine (HT.out).mono ?_)
  rintro e w2 ⟨rfl, hown2, hg2⟩
  have hbm := ne_map H3a.out H4a.out
  have H3b := Lib.hid ((hg2.block b (Array.getElem?_eq_some_iff.1 H3a.out).1 (fun e => hbm (by injection e))).trans H3a.out)
  have c1b : w2.cell? ⟨b, 1, none⟩ = some (.slice A n c) := cell_of_row w2 b 1 _ _ _ H3b.out
  have lb := (Array.getElem?_eq_some_iff.1 H3b.out).1
  have H5b := Lib.hid (H5a.out.kept (w' := w2) (fun g cs _ hg => (hg2.block g (Array.getElem?_eq_some_iff.1 hg).1 (fun e => ne_map hg H4a.out (by injection e))).trans hg))
  have hz1 : w.heap.size ≤ w1.heap.size := hbl.size
  have hz2 : w1.heap.size ≤ w2.heap.size := hg2.size
  have HG2 := Lib.hid (And.intro hown2 hg2)
  clear hown2 hg2
  go_wp2_with (at_builtin; refine wpList_append_off _ rfl _ _ 22 rfl i0 (.int .i64 0) Try.underlying22 HI.out.1 HI.out.2.1 HI.out.2.2.1 HI.out.2.2.2 rfl base A n c xs rfl (H5b.out.kept (fun g cs _ hg => (Below.heap_alloc w2 _ g (Array.getElem?_eq_some_iff.1 hg).1).trans hg)) (by simp; omega) hn' x w2.heap.size rfl (by simp [cell_of_row _ _ _ _ _ _ (heap_alloc_new w2 _)]) ?_; intro A' c' w3 hoff hgr; have HF := Lib.hid (IsQ.pushed h1 h2 H3b.out HP.out.1 HP.out.2.1 HP.out.2.2 hx hin H4.out.isMap HG2.out.1 hoff hgr); have c1c : w3.cell? ⟨b, 1, none⟩ = some (.slice A n c) := cell_of_row w3 b 1 _ _ _ HF.out.2.2; have f1c : w3.frozen? ⟨b, 1, none⟩ = false := by simp [World.frozen?, HF.out.2.2])
  go_ret
  exact ⟨rfl, HF.out.1, ((hbl.mono hbs).trans ((Below.refl base w1).grown HG2.out.2 (by omega) (fun j e => by cases e; exact h2))).trans HF.out.2.1⟩
end Go.Proofs.Ytpfmncdodcbamaa
