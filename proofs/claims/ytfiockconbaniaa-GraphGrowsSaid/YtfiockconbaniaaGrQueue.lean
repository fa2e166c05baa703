/- bits.Queue: New, Push, Pop, Len; its map and its row; which blocks are its own. -/
import Derived.Test.YtfiockconbaniaaGrRef
import Derived.Maps.OwnSet
import Derived.Deep.AppendSrc
import Derived.Deep.Onto
import Derived.Deep.DeepFit
namespace Go.Proofs.Ytfiockconbaniaa
set_option linter.unusedSimpArgs false
set_option linter.unusedVariables false
open Go.RowKit Go.Proofs Go.Maps

theorem keyed3 : Keyed Try.prog 3 := int_keyed Try.underlying3
theorem zeroU (w : World) : (zeroValue 64).run Try.prog w = .ok (.agg #[]) w := by kernel_rfl
theorem I64.wf {x : Int} (h : I64 x) : (Lit.int .i64 x).wf = true := by
  unfold I64 at h; exact WalkArith.wf_i64 (by omega)

set_option maxHeartbeats 400000 in
theorem held_has (m k : Nat) (D : DataW Unit) (x : Int) (w : World) (hx : I64 x) (hown : w.ownsMap Try.prog 3 unitElem m k D) :
    Calls Try.prog 51 #[.map (some m), .int .i64 x] w fun e w' => e = .returned (.bool (Maps.has D (.int .i64 x))) ∧ Below w.heap.size w w' := by
  have hkey := keyOf_int_mk Try.underlying3 hx.wf
  have HK := Lib.hid hkey
  clear hkey
  have hz := zeroU w
  go_enter Try.func51, Try.ntmps51
  go_wp2_with (at_lookup; refine wpList_lookup_own_unit _ rfl _ _ 95 rfl 3 64 keyed3 Try.underlying95 (zeroU _) m k D rfl hown _ _ rfl HK.out ?_)
  go_ret
  exact ⟨rfl, (Below.refl _ w).alloc (Nat.le_refl _) _⟩

set_option maxHeartbeats 400000 in
theorem held_take (m k : Nat) (D : DataW Unit) (x : Int) (w : World) (hx : I64 x) (hk : k < maxLen) (hown : w.ownsMap Try.prog 3 unitElem m k D) :
    Calls Try.prog 52 #[.map (some m), .int .i64 x] w fun e w' => e = .returned (.tuple #[]) ∧ w'.ownsMap Try.prog 3 unitElem m (k + 1) (D.put (.int .i64 x) (.agg [])) ∧ w.grownBy w' (some m) := by
  have HK := Lib.hid (keyOf_int_mk Try.underlying3 hx.wf)
  go_enter Try.func52, Try.ntmps52
  go_wp2_with (at_mapUpdate; refine wpList_mapUpdate_own _ rfl _ _ _ 95 rfl 3 64 keyed3 Try.underlying95 unitElem m k _ rfl hown hk _ _ _ rfl rfl HK.out (.agg []) [] unitElem_mk ?_; intro w1 hown1 hgrow1)
  go_end0
  exact ⟨rfl, hown1, hgrow1⟩

set_option maxHeartbeats 400000 in
theorem held_drop (m k : Nat) (D : DataW Unit) (x : Int) (w : World) (hx : I64 x) (hown : w.ownsMap Try.prog 3 unitElem m k D) :
    Calls Try.prog 54 #[.map (some m), .int .i64 x] w fun e w' => e = .returned (.tuple #[]) ∧ w'.ownsMap Try.prog 3 unitElem m k (D.del (.int .i64 x)) ∧ w.grownBy w' (some m) := by
  have HK := Lib.hid (keyOf_int_mk Try.underlying3 hx.wf)
  go_enter Try.func54, Try.ntmps54
  go_wp2_with (at_delete; refine wpList_delete_own _ rfl _ _ 95 3 rfl 64 keyed3 Try.underlying95 unitElem m k D rfl hown _ _ rfl HK.out ?_; intro w1 hown1 hturn1)
  go_end0
  exact ⟨rfl, hown1, hturn1.grown⟩

theorem ne_map {w : World} {b m : Nat} {cs : Array Value} {t : TypeId} {k : Nat} {D : DataW Unit} (h : w.heap[b]? = some (.cells cs t (0, 0))) (hm : w.ownsMap Try.prog 3 unitElem m k D) : b ≠ m := by
  rintro rfl
  obtain ⟨es, clock, h', _⟩ := hm
  rw [h] at h'
  cases h'

/-- The slice value '.slice A n c' holds just the numbers xs, in a row of the call's own, from wherever on; the cells up to its capacity are there. -/
def RowQ (w : World) (F : Nat → Prop) (A : Option Addr) (n c : Nat) (xs : List Int) : Prop :=
  xs.length = n ∧ n ≤ c ∧ c ≤ 9223372036854775807 ∧
    (0 < c → ∃ g off cur, A = some ⟨g, off, none⟩ ∧ F g ∧ w.heap[g]? = some (.cells cur 3 (0, 0)) ∧ off + c ≤ cur.size ∧ ∀ j z, xs[j]? = some z → cur[off + j]? = some (.int .i64 z))
theorem RowQ.nil_ (w : World) (F : Nat → Prop) : RowQ w F none 0 0 [] := ⟨rfl, Nat.le_refl _, by omega, fun h => absurd h (by omega)⟩
theorem RowQ.kept {w w' : World} {F : Nat → Prop} {n c : Nat} {A : Option Addr} {xs : List Int} (h : RowQ w F A n c xs) (hk : ∀ g cs, F g → w.heap[g]? = some (.cells cs 3 (0, 0)) → w'.heap[g]? = some (.cells cs 3 (0, 0))) : RowQ w' F A n c xs :=
  ⟨h.1, h.2.1, h.2.2.1, fun hc => by
    obtain ⟨g, off, cur, h1, h2, h3, h4, h5⟩ := h.2.2.2 hc
    exact ⟨g, off, cur, h1, h2, hk g cur h2 h3, h4, h5⟩⟩
theorem RowQ.block {w : World} {F : Nat → Prop} {n c : Nat} {A : Option Addr} {xs : List Int} (h : RowQ w F A n c xs) {k : Nat} (hk : k < n) :
    ∃ g off z, A = some ⟨g, off, none⟩ ∧ xs[k]? = some z ∧ w.cell? ⟨g, off + k, none⟩ = some (.int .i64 z) := by
  obtain ⟨g, off, cur, h1, h2, h3, h4, h5⟩ := h.2.2.2 (by have := h.2.1; omega)
  have hl : k < xs.length := by have := h.1; omega
  refine ⟨g, off, xs[k], h1, List.getElem?_eq_getElem hl, ?_⟩
  rw [cell_of_row w g (off + k) cur 3 (0, 0) h3]
  exact h5 k _ (List.getElem?_eq_getElem hl)
theorem RowQ.tail {w : World} {F : Nat → Prop} {n c : Nat} {A : Option Addr} {x : Int} {xs : List Int} (h : RowQ w F A (n + 1) c (x :: xs)) :
    RowQ w F (if c = 1 then A else A.map (·.add 1)) n (c - 1) xs := by
  refine ⟨by have := h.1; simpa using this, by have := h.2.1; omega, by have := h.2.2.1; omega, fun hc => ?_⟩
  obtain ⟨g, off, cur, rfl, h2, h3, h4, h5⟩ := h.2.2.2 (by omega)
  rw [if_neg (by omega)]
  refine ⟨g, off + 1, cur, by simp [Addr.add], h2, h3, by omega, fun j z hj => ?_⟩
  rw [show off + 1 + j = off + (j + 1) from by omega]
  exact h5 (j + 1) z (by simpa using hj)

/-- One number more behind such a row. -/
theorem run_append_f {P : Program} (w : World) (t ty : TypeId) (i : TypeInfo) (zv : Value) (ht : P.underlying t = some (.slice 3)) (hi : P.info? 3 = some i) (hz : i.zero = some zv) (hsize : i.size = 1) (hby : i.bytes = 8) (hzs : zv.cells.size = 1)
    (F : Nat → Prop) (A : Option Addr) (n c : Nat) (xs : List Int) (h : RowQ w F A n c xs) (hn : n ≤ 1099511627776) (z : Int) (T : Nat) (hT : w.cell? ⟨T, 0, none⟩ = some (.int .i64 z)) :
    ∃ A' c' w', (Builtin.append_ #[t, t] ty #[.slice A n c, .slice (some ⟨T, 0, none⟩) 1 1]).run P w = .ok (.slice A' (n + 1) c') w' ∧ RowQ w' (ext F w w') A' (n + 1) c' (xs ++ [z]) ∧
      ∃ row, w.grownBy w' row ∧ ∀ r, row = some r → F r ∧ ∃ cs, w.heap[r]? = some (.cells cs 3 (0, 0)) := by
  have hnews : ∀ j u, [Value.int .i64 z][j]? = some u → w.cell? ((⟨T, 0, none⟩ : Addr).add j) = some u := by
    intro j u hj
    match j, hj with
    | 0, hj =>
      simp at hj
      subst hj
      simpa [Addr.add] using hT
  have h1c : ∀ u ∈ [Value.int .i64 z], u.oneCell' = true := by simp [Value.oneCell']
  have hxl := h.1
  -- a new row
  have fresh : ∀ (C : Nat), n + 1 ≤ C → C ≤ maxLen → ∀ (olds : List Value), olds = xs.map (Value.int .i64) →
      RowQ (w.drew.alloc (.cells (olds.toArray ++ [Value.int .i64 z].toArray ++ Builtin.zeroCells zv.cells (C - (n + 1))) 3)) (ext F w (w.drew.alloc (.cells (olds.toArray ++ [Value.int .i64 z].toArray ++ Builtin.zeroCells zv.cells (C - (n + 1))) 3))) (some ⟨w.heap.size, 0, none⟩) (n + 1) C (xs ++ [z]) := by
    rintro C h1 h2 olds rfl
    refine ⟨by simp [hxl], h1, by unfold maxLen at h2; omega, fun _ => ⟨w.heap.size, 0, _, rfl, .inr ⟨Nat.le_refl _, by simp⟩, heap_alloc_new w.drew _, ?_, ?_⟩⟩
    · simp [size_zeroCells, hzs, hxl]
      omega
    · intro j z' hj
      have hjl : j < (xs ++ [z]).length := (List.getElem?_eq_some_iff.1 hj).1
      rw [Nat.zero_add, Array.getElem?_append_left (by simp at hjl ⊢; omega)]
      have : ((List.map (Value.int .i64) xs).toArray ++ [Value.int .i64 z].toArray)[j]? = ((xs ++ [z]).map (Value.int .i64))[j]? := by simp
      rw [this, List.getElem?_map, hj]
      rfl
  by_cases hroom : n + 1 ≤ c
  · obtain ⟨g, off, cur, rfl, h2, h3, h4, h5⟩ := h.2.2.2 (by omega)
    have hlt : off + n < cur.size := by omega
    have hc0 : w.cell? ⟨g, off + n, none⟩ = some cur[off + n] := by rw [cell_of_row w g (off + n) cur 3 (0, 0) h3, Array.getElem?_eq_getElem hlt]
    have hr := run_append_room_src (P := P) w t t ty 3 i ht hi g off n c (.slice (some ⟨T, 0, none⟩) 1 1) 1 [.int .i64 z] (Src.ofSlice w ht ⟨T, 0, none⟩ 1 1 _ (by rw [hsize]; rfl) hnews h1c) hroom
      (fun j hj => by
        obtain rfl : j = 0 := by simp at hj; exact hj
        rw [hsize, Nat.mul_one, Nat.add_zero, hc0]; rfl)
      (fun j _ => by simp [World.frozen?, h3])
    rw [hsize, Nat.mul_one] at hr
    have hset : w.setCells g (off + n) [.int .i64 z] = w.setCell ⟨g, off + n, none⟩ (.int .i64 z) := rfl
    rw [hset] at hr
    have hblk := blk_set h3 (off + n) (.int .i64 z)
    refine ⟨_, c, _, hr, ⟨by simp [hxl], hroom, h.2.2.1, fun _ => ⟨g, off, _, rfl, .inl h2, hblk, by simpa using h4, ?_⟩⟩, some g, ⟨rfl, rfl, rfl, by simp [World.setCell], fun k _ hk => Below.heap_setCell _ _ _ _ (fun e => hk (by rw [e]))⟩, fun r e => by cases e; exact ⟨h2, cur, h3⟩⟩
    intro j z' hj
    have hjl : j < (xs ++ [z]).length := (List.getElem?_eq_some_iff.1 hj).1
    by_cases hjn : j = n
    · subst hjn
      rw [Array.getElem?_setIfInBounds_self_of_lt hlt]
      rw [List.getElem?_append_right (by omega)] at hj
      simp [hxl] at hj
      rw [hj]
    · rw [Array.getElem?_setIfInBounds_ne (by omega)]
      rw [List.getElem?_append_left (by simp at hjl; omega)] at hj
      exact h5 j z' hj
  · have hgc := grownCap_ge w (n + 1) c 3
    have hgm := grownCap_le_maxLen w (n + 1) c 3 (by unfold maxLen; omega)
    rcases A with _ | ad
    · have hc0 : c = 0 := by
        rcases Nat.eq_zero_or_pos c with h0 | h0
        · exact h0
        · obtain ⟨g, off, cur, e, _⟩ := h.2.2.2 h0
          cases e
      subst hc0
      have hn0 : n = 0 := by have := h.2.1; omega
      subst hn0
      obtain rfl : xs = [] := List.eq_nil_of_length_eq_zero hxl
      have hr := run_append_nil (P := P) w t ty 3 i zv ht hi hz ⟨T, 0, none⟩ 1 1 [.int .i64 z] (by rw [hsize]; rfl) hnews (by omega) (by omega) (by rw [hby]; omega)
      refine ⟨_, _, _, hr, ?_, none, ⟨rfl, rfl, rfl, by simp, fun k hk _ => Below.heap_alloc w.drew _ k hk⟩, fun r e => by cases e⟩
      have := fresh _ hgc hgm [] rfl
      simpa using this
    · have holds : ∀ j u, (xs.map (Value.int .i64))[j]? = some u → w.cell? (ad.add j) = some u := by
        intro j u hj
        rw [List.getElem?_map] at hj
        obtain ⟨q, hq, rfl⟩ := Option.map_eq_some_iff.1 hj
        have hjl : j < xs.length := (List.getElem?_eq_some_iff.1 hq).1
        obtain ⟨g, off, cur, e, h2, h3, h4, h5⟩ := h.2.2.2 (by have := h.2.1; omega)
        injection e with e
        subst e
        rw [show (⟨g, off, none⟩ : Addr).add j = ⟨g, off + j, none⟩ from by unfold Addr.add; split <;> simp_all, cell_of_row w g (off + j) cur 3 (0, 0) h3]
        exact h5 j q hq
      have hr := run_append_grow (P := P) w t ty 3 i zv ht hi hz ad n c (xs.map (Value.int .i64)) (by simp [hxl, hsize]) holds ⟨T, 0, none⟩ 1 1 [.int .i64 z] (by rw [hsize]; rfl) hnews (by omega) (by omega) (growslice_fits (by omega) (by rw [hby]; omega))
      exact ⟨_, _, _, hr, fresh _ hgc hgm _ rfl, none, ⟨rfl, rfl, rfl, by simp, fun k hk _ => Below.heap_alloc w.drew _ k hk⟩, fun r e => by cases e⟩

theorem wpList_append_f {P : Program} (w : World) {ops : Array Oper} {rest : List Oper} {o : Oper} {a : Act} {Q : Exit → Act → World → Prop} (hgd : o.guard = none) (s x : Operand) (t : TypeId)
    (ho : o.op = .call { callee := .builtin .append, args := #[s, x], argTypes := #[t, t] })
    (i : TypeInfo) (zv : Value) (ht : P.underlying t = some (.slice 3)) (hi : P.info? 3 = some i) (hz : i.zero = some zv) (hsize : i.size = 1) (hby : i.bytes = 8) (hzs : zv.cells.size = 1)
    (F : Nat → Prop) (A : Option Addr) (n c : Nat) (xs : List Int) (hs : a.eval s = .slice A n c) (h : RowQ w F A n c xs) (hn : n ≤ 1099511627776) (z : Int) (T : Nat) (hx : a.eval x = .slice (some ⟨T, 0, none⟩) 1 1) (hT : w.cell? ⟨T, 0, none⟩ = some (.int .i64 z))
    (hgo : ∀ A' c' w', RowQ w' (ext F w w') A' (n + 1) c' (xs ++ [z]) → (∃ row, w.grownBy w' row ∧ ∀ r, row = some r → F r ∧ ∃ cs, w.heap[r]? = some (.cells cs 3 (0, 0))) → wpList P ops Q rest (a.put o.dst (.slice A' (n + 1) c')) w') :
    wpList P ops Q (o :: rest) a w :=
  wpList_plain hgd fun K hK => by
    obtain ⟨A', c', w', hrun, h2, h3⟩ := run_append_f (P := P) w t o.type i zv ht hi hz hsize hby hzs F A n c xs h hn z T hT
    unfold Oper.wp execOp
    simp only [ho, resolve, invoke, builtin, Sem.run_bind, Sem.run_pure, Result.andThen_ok, List.map_toArray, List.map_cons, List.map_nil, hs, hx, hrun]
    exact hK _ _ (hgo A' c' w' h2 h3)

/-- Block b is a queue of the numbers xs; its own blocks are F. -/
def IsF (w : World) (F : Nat → Prop) (b k : Nat) (xs : List Int) : Prop :=
  ∃ (m : Nat) (A : Option Addr) (n c : Nat) (D : DataW Unit), F b ∧ F m ∧ w.heap[b]? = some (.cells #[.map (some m), .slice A n c] 97 (0, 0)) ∧ w.ownsMap Try.prog 3 unitElem m k D ∧
    RowQ w F A n c xs ∧ (∀ x, I64 x → Maps.has D (.int .i64 x) = decide (x ∈ xs)) ∧ (∀ x ∈ xs, I64 x) ∧ xs.Nodup ∧ ∀ i, F i → i < w.heap.size
theorem IsF.keep {w w' : World} {F : Nat → Prop} {b k : Nat} {xs : List Int} (h : IsF w F b k xs) (hs : w.heap.size ≤ w'.heap.size) (hk : ∀ i, F i → w'.heap[i]? = w.heap[i]?) : IsF w' F b k xs := by
  obtain ⟨m, A, n, c, D, h1, h2, h3, h4, h5, h6, h7, h8, h9⟩ := h
  refine ⟨m, A, n, c, D, h1, h2, (hk b h1).trans h3, ?_, h5.kept (fun g cs hg hc => (hk g hg).trans hc), h6, h7, h8, fun i hi => Nat.lt_of_lt_of_le (h9 i hi) hs⟩
  obtain ⟨es, clock, e1, e2⟩ := h4
  exact ⟨es, clock, (hk m h2).trans e1, e2⟩
theorem IsF.below {w w' : World} {F : Nat → Prop} {b k : Nat} {xs : List Int} (h : IsF w F b k xs) (hb : Below w.heap.size w w') : IsF w' F b k xs :=
  h.keep hb.size (fun i hi => hb.block i (by obtain ⟨_, _, _, _, _, _, _, _, _, _, _, _, _, h9⟩ := h; exact h9 i hi))
theorem IsF.lt {w : World} {F : Nat → Prop} {b k : Nat} {xs : List Int} (h : IsF w F b k xs) : ∀ i, F i → i < w.heap.size := by
  obtain ⟨_, _, _, _, _, _, _, _, _, _, _, _, _, h9⟩ := h
  exact h9

set_option maxHeartbeats 400000 in
theorem newf_any (w : World) : Calls Try.prog 32 #[] w fun e w' => e = .returned (.pointer (some ⟨w.heap.size + 1, 0, none⟩)) ∧ IsF w' (fun i => w.heap.size ≤ i ∧ i < w'.heap.size) (w.heap.size + 1) 0 [] ∧ Below w.heap.size w w' := by
  have hmm := @run_makeMap Try.prog
  go_enter Try.func32, Try.ntmps32
  go_wp2
  go_ret
  refine ⟨rfl, ⟨w.heap.size, none, 0, 0, .map [], ⟨by omega, by simp⟩, ⟨Nat.le_refl _, by simp; omega⟩, ?_, (World.ownsMap_made w _ _ _).alloc _, RowQ.nil_ _ _, fun x _ => rfl, by simp, by simp, fun i hi => hi.2⟩, ((Below.refl _ w).alloc (Nat.le_refl _) _).alloc (by simp) _⟩
  have := heap_alloc_new (w.alloc (.map #[] 0)) (.cells #[.map (some w.heap.size), .slice none 0 0] 97 (0, 0))
  rwa [World.size_alloc] at this

theorem RowQ.mono {w : World} {F F' : Nat → Prop} {n c : Nat} {A : Option Addr} {xs : List Int} (h : RowQ w F A n c xs) (hF : ∀ i, F i → F' i) : RowQ w F' A n c xs :=
  ⟨h.1, h.2.1, h.2.2.1, fun hc => by
    obtain ⟨g, off, cur, h1, h2, h3⟩ := h.2.2.2 hc
    exact ⟨g, off, cur, h1, hF g h2, h3⟩⟩
theorem IsF.mono {w : World} {F F' : Nat → Prop} {b k : Nat} {xs : List Int} (h : IsF w F b k xs) (hF : ∀ i, F i → F' i) (hl : ∀ i, F' i → i < w.heap.size) : IsF w F' b k xs := by
  obtain ⟨m, A, n, c, D, h1, h2, h3, h4, h5, h6, h7, h8, _⟩ := h
  exact ⟨m, A, n, c, D, hF _ h1, hF _ h2, h3, h4, h5.mono hF, h6, h7, h8, hl⟩

set_option maxHeartbeats 400000 in
theorem lenf_any (F : Nat → Prop) (b k : Nat) (xs : List Int) (w : World) (h : IsF w F b k xs) :
    Calls Try.prog 53 #[.pointer (some ⟨b, 0, none⟩)] w fun e w' => e = .returned (.int .i64 xs.length) ∧ w = w' := by
  obtain ⟨m, A, n, c, D, h1, h2, h3, h4, h5, h6⟩ := h
  have c1 : w.cell? ⟨b, 1, none⟩ = some (.slice A n c) := cell_of_row w b 1 _ _ _ h3
  have HL := Lib.hid h5.1
  clear h3 h4 h5 h6
  go_enter Try.func53, Try.ntmps53
  go_wp2
  go_ret
  exact ⟨by rw [HL.out]; rfl, rfl⟩

set_option maxHeartbeats 400000 in
theorem popf_empty (F : Nat → Prop) (b k : Nat) (w : World) (h : IsF w F b k []) : Calls Try.prog 34 #[.pointer (some ⟨b, 0, none⟩)] w fun e w' => e = .returned (.tuple #[.int .i64 0, .bool false]) ∧ w = w' := by
  have HL := Lib.hid (lenf_any F b k [] w h)
  clear h
  go_enter Try.func34, Try.ntmps34
  go_wp2_with (go_at_call 53; refine (HL.out).mono ?_; rintro e w' ⟨rfl, rfl⟩)
  go_ret2
  exact ⟨rfl, rfl⟩

/-- What is left of a queue behind its first number's going. -/
theorem IsF.popped {w w' : World} {F : Nat → Prop} {b k m n c : Nat} {A A' : Option Addr} {x : Int} {xs : List Int} {D D' : DataW Unit} (h1 : F b) (h2 : F m) (h3 : w.heap[b]? = some (.cells #[.map (some m), .slice A (n + 1) c] 97 (0, 0)))
    (h5 : RowQ w F A (n + 1) c (x :: xs)) (hA : A' = if c = 1 then A else A.map (·.add 1)) (hD : D' = D.del (.int .i64 x)) (h6 : ∀ y, I64 y → Maps.has D (.int .i64 y) = decide (y ∈ x :: xs)) (h7 : ∀ y ∈ x :: xs, I64 y) (h8 : (x :: xs).Nodup) (h9 : ∀ i, F i → i < w.heap.size) (hm : w.ownsMap Try.prog 3 unitElem m k D)
    (hown : w'.ownsMap Try.prog 3 unitElem m k D') (hg : (w.setCell ⟨b, 1, none⟩ (.slice A' n (c - 1))).grownBy w' (some m)) : IsF w' F b k xs ∧ Only F w w' := by
  subst hA hD
  have hbm := ne_map h3 hm
  have hw1 := blk_set h3 1 (.slice (if c = 1 then A else A.map (·.add 1)) n (c - 1))
  rw [List.nodup_cons] at h8
  refine ⟨⟨m, if c = 1 then A else A.map (·.add 1), n, c - 1, _, h1, h2, ?_, hown, ?_, ?_, fun y hy => h7 y (List.mem_cons_of_mem _ hy), h8.2, fun i hi => ?_⟩, ?_⟩
  · exact (hg.block b (Array.getElem?_eq_some_iff.1 hw1).1 (fun e => hbm (by injection e))).trans hw1
  · refine h5.tail.kept (fun g cs _ hgc => ?_)
    have hgb : g ≠ b := by rintro rfl; rw [h3] at hgc; injection hgc with hgc; injection hgc with _ hgc; cases hgc
    have hgm := ne_map hgc hm
    have e1 : (w.setCell ⟨b, 1, none⟩ (.slice (if c = 1 then A else A.map (·.add 1)) n (c - 1))).heap[g]? = some (.cells cs 3 (0, 0)) := (Below.heap_setCell w _ _ g hgb).trans hgc
    exact (hg.block g (Array.getElem?_eq_some_iff.1 e1).1 (fun e => hgm (by injection e))).trans e1
  · intro y hy
    by_cases hyx : y = x
    · subst hyx
      rw [Maps.has_del_same]
      simp [h8.1]
    · rw [Maps.has_del_other (by simpa using hyx), h6 y hy]
      simp [hyx]
  · have := hg.size
    have := h9 i hi
    simp [World.setCell] at *
    omega
  · exact (Only.setCell w h1 1 _).trans' (Only.grown hg (fun r e => by cases e; exact h2))

set_option maxHeartbeats 400000 in
theorem popf_cons (F : Nat → Prop) (b k : Nat) (x : Int) (xs : List Int) (w : World) (h : IsF w F b k (x :: xs)) :
    Calls Try.prog 34 #[.pointer (some ⟨b, 0, none⟩)] w fun e w' => e = .returned (.tuple #[.int .i64 x, .bool true]) ∧ IsF w' F b k xs ∧ Only F w w' := by
  have HL := Lib.hid (lenf_any F b k _ w h)
  obtain ⟨m, A, n, c, D, h1, h2, h3, h4, h5, h6, h7, h8, h9⟩ := h
  obtain ⟨n, rfl⟩ : ∃ n', n = n' + 1 := ⟨n - 1, by have := h5.1; simp at this; omega⟩
  obtain ⟨g, off, z, rfl, hz, hc0⟩ := h5.block (k := 0) (by omega)
  simp at hz
  subst hz
  rw [Nat.add_zero] at hc0
  have hcc := h5.2.2.1
  have hnc := h5.2.1
  have hnn : n ≤ 9223372036854775806 := by omega
  have c0 : w.cell? ⟨b, 0, none⟩ = some (.map (some m)) := cell_of_row w b 0 _ _ _ h3
  have c1 : w.cell? ⟨b, 1, none⟩ = some (.slice (some ⟨g, off, none⟩) (n + 1) c) := cell_of_row w b 1 _ _ _ h3
  have f1 : w.frozen? ⟨b, 1, none⟩ = false := by simp [World.frozen?, h3]
  have hlen : (((xs.length + 1 : Nat) : Int) == 0) = false := by simp; omega
  have hlen' : ((xs.length : Int) + 1 == 0) = false := by simp; omega
  have hx := h7 x List.mem_cons_self
  have hbm := ne_map h3 h4
  have HD := Lib.hid (fun (v : Value) => held_drop m k D x (w.setCell ⟨b, 1, none⟩ v) hx (h4.setCell (a := ⟨b, 1, none⟩) (Ne.symm hbm) v))
  have HF := Lib.hid (fun (A' : Option Addr) (w' : World) (hA : A' = if c = 1 then some ⟨g, off, none⟩ else (some (⟨g, off, none⟩ : Addr)).map (·.add 1)) (hown : w'.ownsMap Try.prog 3 unitElem m k (D.del (.int .i64 x))) (hg : (w.setCell ⟨b, 1, none⟩ (.slice A' n (c - 1))).grownBy w' (some m)) =>
    IsF.popped h1 h2 h3 h5 hA rfl h6 h7 h8 h9 h4 hown hg)
  clear h3 h4 h5 h6 h7 h8
  by_cases hc1 : c = 1
  · subst hc1
    obtain rfl : n = 0 := by omega
    go_enter Try.func34, Try.ntmps34
    go_wp2_with (first
      | (go_at_call 53; refine (HL.out).mono ?_; rintro e w' ⟨rfl, rfl⟩)
      | (go_at_call 54; (with_reducible refine (HD.out _).mono ?_); rintro e w' ⟨rfl, hown, hg⟩))
    go_ret2
    obtain ⟨k1, k2⟩ := HF.out _ w' rfl hown hg
    exact ⟨rfl, k1, k2⟩
  · go_enter Try.func34, Try.ntmps34
    go_wp2_with (first
      | (go_at_call 53; refine (HL.out).mono ?_; rintro e w' ⟨rfl, rfl⟩)
      | (go_at_call 54; (with_reducible refine (HD.out _).mono ?_); rintro e w' ⟨rfl, hown, hg⟩))
    go_ret2
    obtain ⟨k1, k2⟩ := HF.out (some ⟨g, off + 1, none⟩) w' (by rw [if_neg hc1]; simp [Addr.add]) hown hg
    exact ⟨rfl, k1, k2⟩

set_option maxHeartbeats 400000 in
theorem pushf_old (F : Nat → Prop) (b k : Nat) (x : Int) (xs : List Int) (w : World) (hx : I64 x) (h : IsF w F b k xs) (hin : x ∈ xs) :
    Calls Try.prog 33 #[.pointer (some ⟨b, 0, none⟩), .int .i64 x] w fun e w' => e = .returned (.bool false) ∧ IsF w' F b k xs ∧ Below w.heap.size w w' := by
  have HQ := Lib.hid h
  obtain ⟨m, A, n, c, D, h1, h2, h3, h4, h5, h6, h7, h8⟩ := h
  have c0 : w.cell? ⟨b, 0, none⟩ = some (.map (some m)) := cell_of_row w b 0 _ _ _ h3
  have hh := held_has m k D x w hx h4
  rw [h6 x hx, decide_eq_true hin] at hh
  have HH := Lib.hid hh
  clear hh h3 h4 h5 h6 h7 h8
  go_enter Try.func33, Try.ntmps33
  go_wp2_with (go_at_call 51; (with_reducible refine (HH.out).mono ?_); rintro e w' ⟨rfl, hbl⟩)
  go_ret
  exact ⟨rfl, HQ.out.below hbl, hbl⟩

/-- A queue with one number more. -/
theorem IsF.pushed {w2 w3 : World} {F : Nat → Prop} {b k m n c c' : Nat} {A A' : Option Addr} {x : Int} {xs : List Int} {D : DataW Unit} {tmp : Obj} (h1 : F b) (h2 : F m) (h3 : w2.heap[b]? = some (.cells #[.map (some m), .slice A n c] 97 (0, 0)))
    (h6 : ∀ y, I64 y → Maps.has D (.int .i64 y) = decide (y ∈ xs)) (h7 : ∀ y ∈ xs, I64 y) (h8 : xs.Nodup) (hx : I64 x) (hin : x ∉ xs) (hD : IsMap D) (h9 : ∀ i, F i → i < w2.heap.size) (hown : w2.ownsMap Try.prog 3 unitElem m (k + 1) (D.put (.int .i64 x) (.agg [])))
    (hoff : RowQ w3 (ext F (w2.alloc tmp) w3) A' (n + 1) c' (xs ++ [x])) (hg : ∃ row, (w2.alloc tmp).grownBy w3 row ∧ ∀ r, row = some r → F r ∧ ∃ cs, (w2.alloc tmp).heap[r]? = some (.cells cs 3 (0, 0))) :
    IsF (w3.setCell ⟨b, 1, none⟩ (.slice A' (n + 1) c')) (ext F w2 (w3.setCell ⟨b, 1, none⟩ (.slice A' (n + 1) c'))) b (k + 1) (xs ++ [x]) ∧ Only F w2 (w3.setCell ⟨b, 1, none⟩ (.slice A' (n + 1) c')) ∧ w3.heap[b]? = some (.cells #[.map (some m), .slice A n c] 97 (0, 0)) := by
  obtain ⟨row, hg, hr⟩ := hg
  have hbl := (Array.getElem?_eq_some_iff.1 h3).1
  have hbm := ne_map h3 hown
  have h3a : (w2.alloc tmp).heap[b]? = some (.cells #[.map (some m), .slice A n c] 97 (0, 0)) := (Below.heap_alloc w2 tmp b hbl).trans h3
  have hrb : some b ≠ row := fun e => by
    obtain ⟨_, cs, hc⟩ := hr b e.symm
    rw [h3a] at hc; injection hc with hc; injection hc with _ hc; cases hc
  have hrm : some m ≠ row := fun e => by
    obtain ⟨_, cs, hc⟩ := hr m e.symm
    exact ne_map hc (hown.alloc tmp) rfl
  have h3c : w3.heap[b]? = some (.cells #[.map (some m), .slice A n c] 97 (0, 0)) := (hg.block b (Array.getElem?_eq_some_iff.1 h3a).1 hrb).trans h3a
  have hown3 := (hown.alloc tmp).kept hg hrm
  have hkey : WideAt.IsKeyLit (.int .i64 x) := trivial
  have hsz2 := hg.size
  have hsz3 : (w3.setCell ⟨b, 1, none⟩ (.slice A' (n + 1) c')).heap.size = w3.heap.size := by simp [World.setCell]
  rw [World.size_alloc] at hsz2
  have hoff' : RowQ w3 (ext F w2 (w3.setCell ⟨b, 1, none⟩ (.slice A' (n + 1) c'))) A' (n + 1) c' (xs ++ [x]) := hoff.mono (fun i hi => by
    rcases hi with hi | hi
    · exact .inl hi
    · rw [World.size_alloc] at hi
      exact .inr ⟨by omega, by rw [hsz3]; omega⟩)
  refine ⟨⟨m, A', n + 1, c', _, .inl h1, .inl h2, blk_set h3c 1 _, hown3.setCell (a := ⟨b, 1, none⟩) (Ne.symm hbm) _, hoff'.kept (fun g cs _ hgc => ?_), ?_, ?_, ?_, fun i hi => ?_⟩, ?_, h3c⟩
  · refine (Below.heap_setCell w3 _ _ g (fun e => ?_)).trans hgc
    subst e
    rw [h3c] at hgc; injection hgc with hgc; injection hgc with _ hgc; cases hgc
  · intro y hy
    by_cases hyx : y = x
    · subst hyx
      rw [Maps.has_put_same hD hkey]
      simp
    · rw [Maps.has_put_other (by simpa using hyx), h6 y hy]
      simp [hyx]
  · intro y hy
    rcases List.mem_append.1 hy with h | h
    · exact h7 y h
    · obtain rfl : y = x := by simpa using h
      exact hx
  · rw [List.nodup_append]
    exact ⟨h8, by simp, fun a ha b' hb' => by
      obtain rfl : b' = x := by simpa using hb'
      rintro rfl
      exact hin ha⟩
  · rcases hi with hi | hi
    · have := h9 i hi
      omega
    · exact hi.2
  · exact ((Only.of_below ((Below.refl _ w2).alloc (Nat.le_refl _) tmp)).trans' (Only.grown hg (fun r e => (hr r e).1))).trans' (Only.setCell w3 h1 1 _)

set_option maxHeartbeats 1000000 in
theorem pushf_new (F : Nat → Prop) (b k : Nat) (x : Int) (xs : List Int) (w : World) (hx : I64 x) (h : IsF w F b k xs) (hin : x ∉ xs) (hk : k < maxLen) (hn : xs.length ≤ 1099511627776) :
    Calls Try.prog 33 #[.pointer (some ⟨b, 0, none⟩), .int .i64 x] w fun e w' => e = .returned (.bool true) ∧ IsF w' (ext F w w') b (k + 1) (xs ++ [x]) ∧ Only F w w' := by
  obtain ⟨m, A, n, c, D, h1, h2, h3, h4, h5, h6, h7, h8, h9⟩ := h
  obtain ⟨i0, hi, hz0, hz1, hz2⟩ := info_parts info3g
  have HI := Lib.hid (And.intro hi (And.intro hz0 (And.intro hz1 hz2)))
  clear hi hz0 hz1 hz2
  have c0 : w.cell? ⟨b, 0, none⟩ = some (.map (some m)) := cell_of_row w b 0 _ _ _ h3
  have hh := held_has m k D x w hx h4
  rw [h6 x hx, decide_eq_false hin] at hh
  have HH := Lib.hid hh
  have hlen := h5.1
  have hn' : n ≤ 1099511627776 := by omega
  have H3 := Lib.hid h3
  have H4 := Lib.hid h4
  have H5 := Lib.hid h5
  have HP := Lib.hid (And.intro h6 (And.intro h7 (And.intro h8 h9)))
  clear hh h3 h4 h5 h6 h7 h8 h9 hlen
  go_enter Try.func33, Try.ntmps33
  go_wp2_with fail
  go_at_call 51
  (with_reducible refine (HH.out).mono ?_)
  rintro e w1 ⟨rfl, hbl⟩
  have H3a := Lib.hid ((hbl.block b (Array.getElem?_eq_some_iff.1 H3.out).1).trans H3.out)
  have c0a : w1.cell? ⟨b, 0, none⟩ = some (.map (some m)) := cell_of_row w1 b 0 _ _ _ H3a.out
  have H4a := Lib.hid (H4.out.kept (World.grownBy.mk hbl.os hbl.tape hbl.output hbl.size (fun i hi _ => hbl.block i hi)) (row := none) (by simp))
  have H5a := Lib.hid (H5.out.kept (w' := w1) (fun g cs _ hg => (hbl.block g (Array.getElem?_eq_some_iff.1 hg).1).trans hg))
  have HT := Lib.hid (held_take m k D x w1 hx hk H4a.out)
  have hmn := fun w => run_eql_map_nil (P := Try.prog) w 95 3 64 (some m) Try.underlying95
  go_wp2_with fail
  go_at_call 52
  (with_reducible refine (HT.out).mono ?_)
  rintro e w2 ⟨rfl, hown2, hg2⟩
  have hbm := ne_map H3a.out H4a.out
  have H3b := Lib.hid ((hg2.block b (Array.getElem?_eq_some_iff.1 H3a.out).1 (fun e => hbm (by injection e))).trans H3a.out)
  have c1b : w2.cell? ⟨b, 1, none⟩ = some (.slice A n c) := cell_of_row w2 b 1 _ _ _ H3b.out
  have lb := (Array.getElem?_eq_some_iff.1 H3b.out).1
  have H5b := Lib.hid (H5a.out.kept (w' := w2) (fun g cs _ hg => (hg2.block g (Array.getElem?_eq_some_iff.1 hg).1 (fun e => ne_map hg H4a.out (by injection e))).trans hg))
  have hz1 : w.heap.size ≤ w1.heap.size := hbl.size
  have hz2 : w1.heap.size ≤ w2.heap.size := hg2.size
  have HG2 := Lib.hid (And.intro hown2 hg2)
  clear hown2 hg2
  go_wp2_with (at_builtin; refine wpList_append_f _ rfl _ _ 35 rfl i0 (.int .i64 0) Try.underlying35 HI.out.1 HI.out.2.1 HI.out.2.2.1 HI.out.2.2.2 rfl F A n c xs rfl (H5b.out.kept (fun g cs _ hg => (Below.heap_alloc w2 _ g (Array.getElem?_eq_some_iff.1 hg).1).trans hg)) hn' x w2.heap.size rfl (by simp [cell_of_row _ _ _ _ _ _ (heap_alloc_new w2 _)]) ?_; intro A' c' w3 hoff hgr; have HF := Lib.hid (IsF.pushed h1 h2 H3b.out HP.out.1 HP.out.2.1 HP.out.2.2.1 hx hin H4.out.isMap (fun i hi => by have := HP.out.2.2.2 i hi; omega) HG2.out.1 hoff hgr); have c1c : w3.cell? ⟨b, 1, none⟩ = some (.slice A n c) := cell_of_row w3 b 1 _ _ _ HF.out.2.2; have f1c : w3.frozen? ⟨b, 1, none⟩ = false := by simp [World.frozen?, HF.out.2.2])
  go_ret
  refine ⟨rfl, HF.out.1.mono (fun i hi => ?_) (fun i hi => ?_), ((Only.of_below hbl).trans' (Only.grown HG2.out.2 (fun j e => by cases e; exact h2))).trans' HF.out.2.1⟩
  · rcases hi with hi | hi
    · exact .inl hi
    · exact .inr ⟨by omega, hi.2⟩
  · rcases hi with hi | hi
    · have := HP.out.2.2.2 i hi
      have := HF.out.2.1.size
      omega
    · exact hi.2
end Go.Proofs.Ytfiockconbaniaa
