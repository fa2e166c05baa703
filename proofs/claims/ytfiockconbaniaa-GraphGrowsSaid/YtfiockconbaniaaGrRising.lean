/- graph.rising: a row sorted, each number once. -/
import Derived.Test.YtfiockconbaniaaGrRefE
import Derived.Test.YtfiockconbaniaaGrShelf
import Derived.Lib.OwnBridge
namespace Go.Proofs.Ytfiockconbaniaa
set_option linter.unusedSimpArgs false
set_option linter.unusedVariables false
open Go.RowKit Go.Proofs Go.Lib Go.Sort

theorem compact_inv (d : Array Int) (hd : ∀ i j, i < j → j < d.size → d[i]! ≤ d[j]!) : ∀ m, m ≤ d.size → upI (compactUpTo d m) ∧ (∀ x, x ∈ compactUpTo d m ↔ ∃ j, j < m ∧ d[j]! = x)
  | 0, _ => ⟨by simp [compactUpTo, upI], fun x => by simp [compactUpTo]⟩
  | m + 1, hm => by
    obtain ⟨h1, h2⟩ := compact_inv d hd m (by omega)
    rw [compactUpTo_succ]
    by_cases hk : keeps d m = true
    · rw [if_pos hk]
      refine ⟨?_, fun x => ?_⟩
      · rw [upI, List.pairwise_append]
        refine ⟨h1, by simp, fun a ha b hb => ?_⟩
        obtain rfl := List.mem_singleton.1 hb
        obtain ⟨j, hj, rfl⟩ := (h2 a).1 ha
        have h3 : m = 0 ∨ d[m]! ≠ d[m - 1]! := by simpa [keeps] using hk
        have h4 : d[j]! ≤ d[m - 1]! := by
          by_cases e : j = m - 1
          · rw [e]; omega
          · exact hd j (m - 1) (by omega) (by omega)
        have h5 := hd (m - 1) m (by omega) (by omega)
        rcases h3 with h3 | h3 <;> omega
      · rw [List.mem_append, h2, List.mem_singleton]
        constructor
        · rintro (⟨j, hj, e⟩ | e)
          · exact ⟨j, by omega, e⟩
          · exact ⟨m, by omega, e.symm⟩
        · rintro ⟨j, hj, e⟩
          by_cases hjm : j = m
          · exact .inr (by rw [← e, hjm])
          · exact .inl ⟨j, by omega, e⟩
    · rw [if_neg hk, List.append_nil]
      refine ⟨h1, fun x => ?_⟩
      rw [h2]
      have h3 : ¬ (m = 0 ∨ d[m]! ≠ d[m - 1]!) := by simpa [keeps] using hk
      constructor
      · rintro ⟨j, hj, e⟩
        exact ⟨j, by omega, e⟩
      · rintro ⟨j, hj, e⟩
        by_cases hjm : j = m
        · refine ⟨m - 1, by omega, ?_⟩
          have : d[m]! = d[m - 1]! := Classical.byContradiction fun h => h3 (.inr h)
          rw [← this, ← hjm, e]
        · exact ⟨j, by omega, e⟩
theorem compact_set (l : List Int) : Lib.compact (l.mergeSort fun x y => decide (x ≤ y)) = setI l := by
  obtain ⟨s, hs⟩ : ∃ s, (l.mergeSort fun x y => decide (x ≤ y)) = s := ⟨_, rfl⟩
  have hp : s.Perm l := hs ▸ List.mergeSort_perm l _
  have hw : s.Pairwise (fun x y => decide (x ≤ y) = true) := hs ▸ List.pairwise_mergeSort (fun a b c h1 h2 => by simp at *; omega) (fun a b => by simp; omega) l
  rw [hs]
  have hget : ∀ j, j < s.toArray.size → s.toArray[j]! = s[j]! := fun j hj => by simp
  obtain ⟨h1, h2⟩ := compact_inv s.toArray (fun i j hij hj => by
    have hj' : j < s.length := by simpa using hj
    have := List.pairwise_iff_getElem.1 hw i j (by omega) hj' hij
    rw [getElem!_pos s.toArray i (by simp; omega), getElem!_pos s.toArray j hj]
    simpa using this) s.length (by simp)
  refine set_eq h1 fun z => (h2 z).trans ?_
  rw [← hp.mem_iff, List.mem_iff_getElem]
  constructor
  · rintro ⟨j, hj, e⟩
    refine ⟨j, hj, ?_⟩
    rw [getElem!_pos s.toArray j (by simpa using hj)] at e
    simpa using e
  · rintro ⟨j, hj, e⟩
    refine ⟨j, hj, ?_⟩
    rw [getElem!_pos s.toArray j (by simpa using hj)]
    simpa using e
theorem flat_ints : ∀ (L : List (List Value × Int)), (∀ q ∈ L, q.1 = [Value.int .i64 q.2] ∧ I64 q.2) → flat9 L = (L.map (·.2)).map (Value.int .i64)
  | [], _ => rfl
  | q :: r, h => by
    rw [flat9_cons, flat_ints r fun x hx => h x (List.mem_cons_of_mem _ hx), (h q List.mem_cons_self).1]
    rfl
theorem OwnR.ints {w0 w : World} {B : Nat} {v : Value} {l : List Int} (h : OwnR 1 3 IntP w0 w B v l) : w.ownsRow B 3 1 v l.length (l.map (Value.int .i64)) ∧ ∀ x ∈ l, I64 x := by
  obtain ⟨L, rfl, hL, ho⟩ := h
  refine ⟨?_, fun x hx => ?_⟩
  · rw [← flat_ints L hL]
    exact ho
  · obtain ⟨q, hq, rfl⟩ := List.mem_map.1 hx
    exact (hL q hq).2
theorem OwnR.of_ints {w0 w : World} {B : Nat} {v : Value} {l : List Int} (h : w.ownsRow B 3 1 v l.length (l.map (Value.int .i64))) (hl : ∀ x ∈ l, I64 x) : OwnR 1 3 IntP w0 w B v l := by
  have h1 : (l.map fun x => ([Value.int .i64 x], x)).map (·.2) = l := by rw [List.map_map]; exact List.map_id _
  have h2 : ∀ q ∈ l.map fun x => ([Value.int .i64 x], x), IntP w0 q.1 q.2 := fun q hq => by
    obtain ⟨x, hx, rfl⟩ := List.mem_map.1 hq
    exact ⟨rfl, hl x hx⟩
  refine ⟨_, h1, h2, ?_⟩
  rw [flat_ints _ h2, h1]
  exact h
theorem below_grow9 {B : Nat} {w w1 : World} (h : Below B w w1) (hB : B ≤ w1.heap.size) (os : Array Obj) : Below B w (grow w1 os) :=
  ⟨h.os, h.tape, h.output, by have := h.size; simp [grow]; omega, fun k hk => (heap_grow_old w1 os (by omega)).trans (h.block k hk)⟩
theorem grown_put9 {α : Type} [Inhabited α] (w : World) (enc : α → Value) (g q : Nat) (d : Array α) (os : Array Obj) : w.grownBy (grow (putRow enc (Sort.ahead w q) g 0 d) os) (some g) :=
  ⟨rfl, rfl, rfl, by simp [grow, putRow, mapBlock, Sort.ahead], fun k hk hne => by
    rw [heap_grow_old _ _ (by simpa [putRow, mapBlock, Sort.ahead] using hk)]
    have : g ≠ k := fun e => hne (by rw [e])
    simp [putRow, mapBlock, Sort.ahead, Array.getElem?_modify, this]⟩
theorem grown_trans9 {a b c : World} {row : Option Nat} (h : a.grownBy b row) (g : b.grownBy c row) : a.grownBy c row :=
  ⟨g.os.trans h.os, g.tape.trans h.tape, g.output.trans h.output, Nat.le_trans h.size g.size, fun k hk hne => (g.block k (Nat.lt_of_lt_of_le hk h.size) hne).trans (h.block k hk hne)⟩
theorem own_grow9 {w : World} {base e size n : Nat} {v : Value} {xs : List Value} (h : w.ownsRow base e size v n xs) (os : Array Obj) : (grow w os).ownsRow base e size v n xs :=
  ownsRow_below9 h ⟨rfl, rfl, rfl, by simp [grow], fun k hk => heap_grow_old w os hk⟩
set_option maxHeartbeats 2000000 in
theorem rising_any {w0 w : World} {B : Nat} {v : Value} {l : List Int} (h : OwnR 1 3 IntP w0 w B v l) (hB : B ≤ w.heap.size) (hn9 : l.length ≤ 1000000) :
    Calls Try.prog 40 #[v] w fun e w' => ∃ v', e = .returned v' ∧ OwnR 1 3 IntP w0 w' B v' (setI l) ∧ w.grownBy w' v.ownBlock := by
  obtain ⟨hrow, hI⟩ := h.ints
  by_cases hv : v = .slice none 0 0
  · subst hv
    have hl : l = [] := by
      rcases hrow.2 with ⟨-, h0⟩ | ⟨g, cap, cur, e, -⟩
      · exact List.eq_nil_of_length_eq_zero h0
      · cases e
    subst hl
    clear h hrow hI
    have c1 := Try.slices_Sort_int_none none 0 w
    have c2 := Try.slices_Compact_int_empty none 0 w
    go_enter Try.func40, Try.ntmps40
    go_wp2_with (first
      | (go_at_call 45; refine c1.mono ?_; rintro e w' ⟨rfl, rfl⟩)
      | (go_at_call 57; refine c2.mono ?_; rintro e w' ⟨rfl, rfl⟩))
    go_ret
    exact ⟨_, rfl, OwnR.nil _ _ _ _ _ _, World.grownBy.refl _ _⟩
  · obtain ⟨g, cap, rfl, hg, hlt, hn, hm, -, hH⟩ := holds_of_ownsRow (enc := Value.int .i64) hrow hv
    have hm' : cap ≤ 9223372036854775807 := hm
    obtain ⟨s, hs⟩ : ∃ s, (l.mergeSort fun x y => decide (x ≤ y)) = s := ⟨_, rfl⟩
    have hsl : s.length = l.length := by rw [← hs, List.length_mergeSort]
    have hcs : Lib.compact s = setI l := by rw [← hs]; exact compact_set l
    have hcl := setI_len l
    have c1 : Calls Try.prog 45 #[.slice (some ⟨g, 0, none⟩) l.length cap] w fun e w1 => e = .returned (.tuple #[]) ∧ (w1.ownsRow B 3 1 (.slice (some ⟨g, 0, none⟩) l.length cap) l.length (s.map (Value.int .i64)) ∧ w.grownBy w1 (some g)) := by
      refine (Try.slices_Sort_int g 0 cap l w hH hlt (by omega)).mono ?_
      rintro e w1 ⟨rfl, n, os, rfl⟩
      rw [hs]
      refine ⟨rfl, own_grow9 ?_ os, grown_put9 w (Value.int .i64) g n s.toArray os⟩
      have := ownsRow_putRow (q := n) (ys := s) (k := l.length) hrow hsl (Nat.le_refl _)
      rwa [List.take_of_length_le (by omega)] at this
    have c2 : ∀ w1 : World, w1.ownsRow B 3 1 (.slice (some ⟨g, 0, none⟩) l.length cap) l.length (s.map (Value.int .i64)) → B ≤ w1.heap.size → Calls Try.prog 57 #[.slice (some ⟨g, 0, none⟩) l.length cap] w1 fun e w2 => e = .returned (.slice (some ⟨g, 0, none⟩) (setI l).length cap) ∧ (OwnR 1 3 IntP w0 w2 B (.slice (some ⟨g, 0, none⟩) (setI l).length cap) (setI l) ∧ w1.grownBy w2 (some g)) := by
      intro w1 ho hB1
      obtain ⟨g', cap', e9, -, -, -, -, -, hH1⟩ := holds_of_ownsRow (enc := Value.int .i64) ho (by simp)
      cases e9
      have h0 := Try.slices_Compact_int g 0 cap s w1 hH1 (by omega) (by omega)
      rw [hsl] at h0
      refine h0.mono ?_
      rintro e w2 ⟨rfl, q, rfl⟩
      rw [hcs]
      refine ⟨rfl, OwnR.of_ints ?_ (fun x hx => hI x ((mem_setI x l).1 hx)), by
        have h9 := grown_put9 w1 (Value.int .i64) g q ((setI l ++ List.replicate (l.length - (setI l).length) 0).toArray) #[]
        rwa [show ∀ w : World, grow w #[] = w from fun w => by simp [grow]] at h9⟩
      have := ownsRow_putRow (q := q) (ys := setI l ++ List.replicate (l.length - (setI l).length) 0) (k := (setI l).length) ho (by simp; omega) hcl
      rwa [List.take_left' rfl] at this
    have C1 := Lib.hid c1
    have C2 := Lib.hid c2
    clear c1 c2 hrow hI h hH hs hcs hv
    go_enter Try.func40, Try.ntmps40
    go_wp2_with (first
      | (go_at_call 45; refine (C1.out).mono ?_; rintro e w1 ⟨rfl, h1⟩; have H1 := Lib.hid h1; clear h1)
      | (go_at_call 57; refine (C2.out w1 H1.out.1 (Nat.le_trans hB H1.out.2.size)).mono ?_; rintro e w2 ⟨rfl, h2⟩; have H2 := Lib.hid h2; clear h2))
    go_ret
    exact ⟨_, rfl, H2.out.1, grown_trans9 H1.out.2 H2.out.2⟩
end Go.Proofs.Ytfiockconbaniaa
