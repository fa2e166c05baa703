/- The queue's map: has, take, drop; a row from wherever on; one number more behind it. -/
import Derived.Test.YtpfmncdodcbamaaProg
import Derived.Test.YtpfmncdodcbamaaWords
import Derived.Maps.OwnSet
import Derived.Deep.AppendSrc
import Derived.Deep.Onto
namespace Go.Proofs.Ytpfmncdodcbamaa
open Go.RowKit Go.Proofs Go.Maps

theorem keyed3 : Keyed Try.prog 3 := int_keyed Try.underlying3
theorem zero63 (w : World) : (zeroValue 63).run Try.prog w = .ok (.agg #[]) w := by kernel_rfl
theorem I64.wf {x : Int} (h : I64 x) : (Lit.int .i64 x).wf = true := by
  unfold I64 at h; exact WalkArith.wf_i64 (by omega)

set_option maxHeartbeats 400000 in
theorem held_has (m k : Nat) (D : DataW Unit) (x : Int) (w : World) (hx : I64 x) (hown : w.ownsMap Try.prog 3 unitElem m k D) :
    Calls Try.prog 38 #[.map (some m), .int .i64 x] w fun e w' => e = .returned (.bool (Maps.has D (.int .i64 x))) ∧ Below w.heap.size w w' := by
  have hkey := keyOf_int_mk Try.underlying3 hx.wf
  have HK := Lib.hid hkey
  clear hkey
  have hz := zero63 w
  go_enter Try.func38, Try.ntmps38
  go_wp2_with (at_lookup; refine wpList_lookup_own_unit _ rfl _ _ 58 rfl 3 63 keyed3 Try.underlying58 (zero63 _) m k D rfl hown _ _ rfl HK.out ?_)
  go_ret
  exact ⟨rfl, (Below.refl _ w).alloc (Nat.le_refl _) _⟩

set_option maxHeartbeats 400000 in
theorem held_take (m k : Nat) (D : DataW Unit) (x : Int) (w : World) (hx : I64 x) (hk : k < maxLen) (hown : w.ownsMap Try.prog 3 unitElem m k D) :
    Calls Try.prog 39 #[.map (some m), .int .i64 x] w fun e w' => e = .returned (.tuple #[]) ∧ w'.ownsMap Try.prog 3 unitElem m (k + 1) (D.put (.int .i64 x) (.agg [])) ∧ w.grownBy w' (some m) := by
  have HK := Lib.hid (keyOf_int_mk Try.underlying3 hx.wf)
  go_enter Try.func39, Try.ntmps39
  go_wp2_with (at_mapUpdate; refine wpList_mapUpdate_own _ rfl _ _ _ 58 rfl 3 63 keyed3 Try.underlying58 unitElem m k _ rfl hown hk _ _ _ rfl rfl HK.out (.agg []) [] unitElem_mk ?_; intro w1 hown1 hgrow1)
  go_end0
  exact ⟨rfl, hown1, hgrow1⟩

set_option maxHeartbeats 400000 in
theorem held_drop (m k : Nat) (D : DataW Unit) (x : Int) (w : World) (hx : I64 x) (hown : w.ownsMap Try.prog 3 unitElem m k D) :
    Calls Try.prog 37 #[.map (some m), .int .i64 x] w fun e w' => e = .returned (.tuple #[]) ∧ w'.ownsMap Try.prog 3 unitElem m k (D.del (.int .i64 x)) ∧ w.grownBy w' (some m) := by
  have HK := Lib.hid (keyOf_int_mk Try.underlying3 hx.wf)
  go_enter Try.func37, Try.ntmps37
  go_wp2_with (at_delete; refine wpList_delete_own _ rfl _ _ 58 3 rfl 63 keyed3 Try.underlying58 unitElem m k D rfl hown _ _ rfl HK.out ?_; intro w1 hown1 hturn1)
  go_end0
  exact ⟨rfl, hown1, hturn1.grown⟩

/-- The slice value '.slice A n c' holds just the numbers xs, in a row of the call's own, from wherever on; the cells up to its capacity are there. -/
def OffRow (w : World) (base : Nat) (A : Option Addr) (n c : Nat) (xs : List Int) : Prop :=
  xs.length = n ∧ n ≤ c ∧ c ≤ 9223372036854775807 ∧
    (0 < c → ∃ g off cur, A = some ⟨g, off, none⟩ ∧ base ≤ g ∧ w.heap[g]? = some (.cells cur 3 (0, 0)) ∧ off + c ≤ cur.size ∧ ∀ j z, xs[j]? = some z → cur[off + j]? = some (.int .i64 z))
theorem OffRow.nil_ (w : World) (base : Nat) : OffRow w base none 0 0 [] := ⟨rfl, Nat.le_refl _, by omega, fun h => absurd h (by omega)⟩
theorem OffRow.kept {w w' : World} {base n c : Nat} {A : Option Addr} {xs : List Int} (h : OffRow w base A n c xs) (hk : ∀ g cs, base ≤ g → w.heap[g]? = some (.cells cs 3 (0, 0)) → w'.heap[g]? = some (.cells cs 3 (0, 0))) : OffRow w' base A n c xs :=
  ⟨h.1, h.2.1, h.2.2.1, fun hc => by
    obtain ⟨g, off, cur, h1, h2, h3, h4, h5⟩ := h.2.2.2 hc
    exact ⟨g, off, cur, h1, h2, hk g cur h2 h3, h4, h5⟩⟩
theorem OffRow.block {w : World} {base n c : Nat} {A : Option Addr} {xs : List Int} (h : OffRow w base A n c xs) {k : Nat} (hk : k < n) :
    ∃ g off z, A = some ⟨g, off, none⟩ ∧ xs[k]? = some z ∧ w.cell? ⟨g, off + k, none⟩ = some (.int .i64 z) := by
  obtain ⟨g, off, cur, h1, h2, h3, h4, h5⟩ := h.2.2.2 (by have := h.2.1; omega)
  have hl : k < xs.length := by have := h.1; omega
  refine ⟨g, off, xs[k], h1, List.getElem?_eq_getElem hl, ?_⟩
  rw [cell_of_row w g (off + k) cur 3 (0, 0) h3]
  exact h5 k _ (List.getElem?_eq_getElem hl)
theorem OffRow.tail {w : World} {base n c : Nat} {A : Option Addr} {x : Int} {xs : List Int} (h : OffRow w base A (n + 1) c (x :: xs)) :
    OffRow w base (if c = 1 then A else A.map (·.add 1)) n (c - 1) xs := by
  refine ⟨by have := h.1; simpa using this, by have := h.2.1; omega, by have := h.2.2.1; omega, fun hc => ?_⟩
  obtain ⟨g, off, cur, rfl, h2, h3, h4, h5⟩ := h.2.2.2 (by omega)
  rw [if_neg (by omega)]
  refine ⟨g, off + 1, cur, by simp [Addr.add], h2, h3, by omega, fun j z hj => ?_⟩
  rw [show off + 1 + j = off + (j + 1) from by omega]
  exact h5 (j + 1) z (by simpa using hj)

/-- One number more behind such a row. -/
theorem run_append_off {P : Program} (w : World) (t ty : TypeId) (i : TypeInfo) (zv : Value) (ht : P.underlying t = some (.slice 3)) (hi : P.info? 3 = some i) (hz : i.zero = some zv) (hsize : i.size = 1) (hby : i.bytes = 8) (hzs : zv.cells.size = 1)
    (base : Nat) (A : Option Addr) (n c : Nat) (xs : List Int) (h : OffRow w base A n c xs) (hb : base ≤ w.heap.size) (hn : n ≤ 1099511627776) (z : Int) (T : Nat) (hT : w.cell? ⟨T, 0, none⟩ = some (.int .i64 z)) :
    ∃ A' c' w', (Builtin.append_ #[t, t] ty #[.slice A n c, .slice (some ⟨T, 0, none⟩) 1 1]).run P w = .ok (.slice A' (n + 1) c') w' ∧ OffRow w' base A' (n + 1) c' (xs ++ [z]) ∧
      ∃ row, w.grownBy w' row ∧ ∀ r, row = some r → base ≤ r ∧ ∃ cs, w.heap[r]? = some (.cells cs 3 (0, 0)) := by
  have hnews : ∀ j u, [Value.int .i64 z][j]? = some u → w.cell? ((⟨T, 0, none⟩ : Addr).add j) = some u := by
    intro j u hj
    match j, hj with
    | 0, hj =>
      simp at hj
      subst hj
      simpa [Addr.add] using hT
  have h1c : ∀ u ∈ [Value.int .i64 z], u.oneCell' = true := by simp [Value.oneCell']
  have hxl := h.1
  -- a new row
  have fresh : ∀ (C : Nat), n + 1 ≤ C → C ≤ maxLen → ∀ (olds : List Value), olds = xs.map (Value.int .i64) →
      OffRow (w.drew.alloc (.cells (olds.toArray ++ [Value.int .i64 z].toArray ++ Builtin.zeroCells zv.cells (C - (n + 1))) 3)) base (some ⟨w.heap.size, 0, none⟩) (n + 1) C (xs ++ [z]) := by
    rintro C h1 h2 olds rfl
    refine ⟨by simp [hxl], h1, by unfold maxLen at h2; omega, fun _ => ⟨w.heap.size, 0, _, rfl, hb, heap_alloc_new w.drew _, ?_, ?_⟩⟩
    · simp [size_zeroCells, hzs, hxl]
      omega
    · intro j z' hj
      have hjl : j < (xs ++ [z]).length := (List.getElem?_eq_some_iff.1 hj).1
      rw [Nat.zero_add, Array.getElem?_append_left (by simp at hjl ⊢; omega)]
      have : ((List.map (Value.int .i64) xs).toArray ++ [Value.int .i64 z].toArray)[j]? = ((xs ++ [z]).map (Value.int .i64))[j]? := by simp
      rw [this, List.getElem?_map, hj]
      rfl
  by_cases hroom : n + 1 ≤ c
  · obtain ⟨g, off, cur, rfl, h2, h3, h4, h5⟩ := h.2.2.2 (by omega)
    have hlt : off + n < cur.size := by omega
    have hc0 : w.cell? ⟨g, off + n, none⟩ = some cur[off + n] := by rw [cell_of_row w g (off + n) cur 3 (0, 0) h3, Array.getElem?_eq_getElem hlt]
    have hr := run_append_room_src (P := P) w t t ty 3 i ht hi g off n c (.slice (some ⟨T, 0, none⟩) 1 1) 1 [.int .i64 z] (Src.ofSlice w ht ⟨T, 0, none⟩ 1 1 _ (by rw [hsize]; rfl) hnews h1c) hroom
      (fun j hj => by
        obtain rfl : j = 0 := by simp at hj; exact hj
        rw [hsize, Nat.mul_one, Nat.add_zero, hc0]; rfl)
      (fun j _ => by simp [World.frozen?, h3])
    rw [hsize, Nat.mul_one] at hr
    have hset : w.setCells g (off + n) [.int .i64 z] = w.setCell ⟨g, off + n, none⟩ (.int .i64 z) := rfl
    rw [hset] at hr
    have hblk := blk_set h3 (off + n) (.int .i64 z)
    refine ⟨_, c, _, hr, ⟨by simp [hxl], hroom, h.2.2.1, fun _ => ⟨g, off, _, rfl, h2, hblk, by simpa using h4, ?_⟩⟩, some g, ⟨rfl, rfl, rfl, by simp [World.setCell], fun k _ hk => Below.heap_setCell _ _ _ _ (fun e => hk (by rw [e]))⟩, fun r e => by cases e; exact ⟨h2, cur, h3⟩⟩
    intro j z' hj
    have hjl : j < (xs ++ [z]).length := (List.getElem?_eq_some_iff.1 hj).1
    by_cases hjn : j = n
    · subst hjn
      rw [Array.getElem?_setIfInBounds_self_of_lt hlt]
      rw [List.getElem?_append_right (by omega)] at hj
      simp [hxl] at hj
      rw [hj]
    · rw [Array.getElem?_setIfInBounds_ne (by omega)]
      rw [List.getElem?_append_left (by simp at hjl; omega)] at hj
      exact h5 j z' hj
  · have hgc := grownCap_ge w (n + 1) c 3
    have hgm := grownCap_le_maxLen w (n + 1) c 3 (by unfold maxLen; omega)
    rcases A with _ | ad
    · have hc0 : c = 0 := by
        rcases Nat.eq_zero_or_pos c with h0 | h0
        · exact h0
        · obtain ⟨g, off, cur, e, _⟩ := h.2.2.2 h0
          cases e
      subst hc0
      have hn0 : n = 0 := by have := h.2.1; omega
      subst hn0
      obtain rfl : xs = [] := List.eq_nil_of_length_eq_zero hxl
      have hr := run_append_nil (P := P) w t ty 3 i zv ht hi hz ⟨T, 0, none⟩ 1 1 [.int .i64 z] (by rw [hsize]; rfl) hnews (by omega) (by omega) (by rw [hby]; omega)
      refine ⟨_, _, _, hr, ?_, none, ⟨rfl, rfl, rfl, by simp, fun k hk _ => Below.heap_alloc w.drew _ k hk⟩, fun r e => by cases e⟩
      have := fresh _ hgc hgm [] rfl
      simpa using this
    · have holds : ∀ j u, (xs.map (Value.int .i64))[j]? = some u → w.cell? (ad.add j) = some u := by
        intro j u hj
        rw [List.getElem?_map] at hj
        obtain ⟨q, hq, rfl⟩ := Option.map_eq_some_iff.1 hj
        have hjl : j < xs.length := (List.getElem?_eq_some_iff.1 hq).1
        obtain ⟨g, off, cur, e, h2, h3, h4, h5⟩ := h.2.2.2 (by have := h.2.1; omega)
        injection e with e
        subst e
        rw [show (⟨g, off, none⟩ : Addr).add j = ⟨g, off + j, none⟩ from by unfold Addr.add; split <;> simp_all, cell_of_row w g (off + j) cur 3 (0, 0) h3]
        exact h5 j q hq
      have hr := run_append_grow (P := P) w t ty 3 i zv ht hi hz ad n c (xs.map (Value.int .i64)) (by simp [hxl, hsize]) holds ⟨T, 0, none⟩ 1 1 [.int .i64 z] (by rw [hsize]; rfl) hnews (by omega) (by omega) (growslice_fits (by omega) (by rw [hby]; omega))
      exact ⟨_, _, _, hr, fresh _ hgc hgm _ rfl, none, ⟨rfl, rfl, rfl, by simp, fun k hk _ => Below.heap_alloc w.drew _ k hk⟩, fun r e => by cases e⟩

theorem wpList_append_off {P : Program} (w : World) {ops : Array Oper} {rest : List Oper} {o : Oper} {a : Act} {Q : Exit → Act → World → Prop} (hgd : o.guard = none) (s x : Operand) (t : TypeId)
    (ho : o.op = .call { callee := .builtin .append, args := #[s, x], argTypes := #[t, t] })
    (i : TypeInfo) (zv : Value) (ht : P.underlying t = some (.slice 3)) (hi : P.info? 3 = some i) (hz : i.zero = some zv) (hsize : i.size = 1) (hby : i.bytes = 8) (hzs : zv.cells.size = 1)
    (base : Nat) (A : Option Addr) (n c : Nat) (xs : List Int) (hs : a.eval s = .slice A n c) (h : OffRow w base A n c xs) (hb : base ≤ w.heap.size) (hn : n ≤ 1099511627776) (z : Int) (T : Nat) (hx : a.eval x = .slice (some ⟨T, 0, none⟩) 1 1) (hT : w.cell? ⟨T, 0, none⟩ = some (.int .i64 z))
    (hgo : ∀ A' c' w', OffRow w' base A' (n + 1) c' (xs ++ [z]) → (∃ row, w.grownBy w' row ∧ ∀ r, row = some r → base ≤ r ∧ ∃ cs, w.heap[r]? = some (.cells cs 3 (0, 0))) → wpList P ops Q rest (a.put o.dst (.slice A' (n + 1) c')) w') :
    wpList P ops Q (o :: rest) a w :=
  wpList_plain hgd fun K hK => by
    obtain ⟨A', c', w', hrun, h2, h3⟩ := run_append_off (P := P) w t o.type i zv ht hi hz hsize hby hzs base A n c xs h hb hn z T hT
    unfold Oper.wp execOp
    simp only [ho, resolve, invoke, builtin, Sem.run_bind, Sem.run_pure, Result.andThen_ok, List.map_toArray, List.map_cons, List.map_nil, hs, hx, hrun]
    exact hK _ _ (hgo A' c' w' h2 h3)
end Go.Proofs.Ytpfmncdodcbamaa
