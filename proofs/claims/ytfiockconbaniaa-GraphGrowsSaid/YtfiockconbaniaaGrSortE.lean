/- Edges sorted. -/
import Derived.Test.YtfiockconbaniaaGrOrder
import Derived.Test.YtfiockconbaniaaGrOut
import Derived.Shelf.SlSortCmp.NoneTotal
namespace Go.Proofs.Ytfiockconbaniaa
set_option linter.unusedSimpArgs false
set_option linter.unusedVariables false
open Go.RowKit Go.Proofs Go.Lib Go.Sort

instance : Inhabited Ed := ⟨⟨0, 0, 0⟩⟩
def encE (e : Ed) : List Value := [.int .i64 e.fr, .int .i64 e.mark, .int .i64 e.to]
theorem swoE : SWO (ltOf cfE) where
  irrefl x := by rw [cfE_lt]; simpa using befE_irr x
  trans x y z h1 h2 := by
    rw [cfE_lt] at *
    simp at *
    exact befE_tr _ _ _ h1 h2
  ntrans x y z h1 h2 := by
    rw [cfE_lt] at *
    simp at *
    intro h
    rcases befE_tri x y with h3 | h3 | h3
    · exact h1 h3
    · exact h2 (h3 ▸ h)
    · exact h2 (befE_tr _ _ _ h3 h)
theorem cmpLaysE (blk off size : Nat) (w : World) : CmpLays Try.prog 31 #[] encE 3 cfE blk off size w := fun _ _ _ _ x y => order_any x y _
/-- The edges in order. -/
def sortE (l : List Ed) : List Ed := l.mergeSort fun x y => !(ltOf cfE) y x
theorem sortE_perm (l : List Ed) : (sortE l).Perm l := List.mergeSort_perm l _
theorem sortE_len (l : List Ed) : (sortE l).length = l.length := List.length_mergeSort l
theorem sortE_rises (l : List Ed) : (sortE l).Pairwise fun x y => ¬ befE y x := by
  have h := List.pairwise_mergeSort (le := fun x y => !(ltOf cfE) y x) (fun a b c h1 h2 => by
    simp only [cfE_lt, Bool.not_eq_true', decide_eq_false_iff_not] at *
    intro h
    rcases befE_tri a b with h3 | h3 | h3
    · exact h2 (befE_tr _ _ _ h h3)
    · exact h2 (h3 ▸ h)
    · exact h1 h3) (fun a b => by
    simp only [cfE_lt, Bool.or_eq_true, Bool.not_eq_true', decide_eq_false_iff_not]
    rcases befE_tri a b with h3 | h3 | h3
    · exact .inl fun h => befE_irr _ (befE_tr _ _ _ h h3)
    · subst h3
      exact .inl (befE_irr _)
    · exact .inr fun h => befE_irr _ (befE_tr _ _ _ h h3)) l
  refine h.imp fun {x y} h => ?_
  simpa [cfE_lt] using h
theorem flat_eds {w : World} : ∀ (L : List (List Value × Ed)), (∀ q ∈ L, EdP w q.1 q.2) → flat9 L = (L.map (·.2)).flatMap encE
  | [], _ => rfl
  | q :: r, h => by
    rw [flat9_cons, flat_eds r fun x hx => h x (List.mem_cons_of_mem _ hx), (h q List.mem_cons_self).1]
    rfl
theorem OwnR.eds {w0 w : World} {B : Nat} {v : Value} {l : List Ed} (h : OwnR 3 44 EdP w0 w B v l) : w.ownsRow B 44 3 v l.length (l.flatMap encE) ∧ ∀ x ∈ l, I64 x.fr ∧ I64 x.mark ∧ I64 x.to := by
  obtain ⟨L, rfl, hL, ho⟩ := h
  refine ⟨?_, fun x hx => ?_⟩
  · rw [← flat_eds L hL]
    exact ho
  · obtain ⟨q, hq, rfl⟩ := List.mem_map.1 hx
    exact (hL q hq).2
theorem OwnR.of_eds {w0 w : World} {B : Nat} {v : Value} {l : List Ed} (h : w.ownsRow B 44 3 v l.length (l.flatMap encE)) (hl : ∀ x ∈ l, I64 x.fr ∧ I64 x.mark ∧ I64 x.to) : OwnR 3 44 EdP w0 w B v l := by
  have h1 : (l.map fun x => (encE x, x)).map (·.2) = l := by rw [List.map_map]; exact List.map_id _
  have h2 : ∀ q ∈ l.map fun x => (encE x, x), EdP w0 q.1 q.2 := fun q hq => by
    obtain ⟨x, hx, rfl⟩ := List.mem_map.1 hq
    exact ⟨rfl, hl x hx⟩
  refine ⟨_, h1, h2, ?_⟩
  rw [flat_eds _ h2, h1]
  exact h
theorem flatK_list (l : List Ed) : (flatK encE 3 l.toArray).toList = l.flatMap encE := by
  have h1 : (l.map fun x => (encE x, x)).map (·.2) = l := by rw [List.map_map]; exact List.map_id _
  have h2 : flat9 (l.map fun x => (encE x, x)) = l.flatMap encE := by
    unfold flat9
    rw [List.flatMap_map]
  have hlen : (l.flatMap encE).length = l.length * 3 := by
    rw [← h2, flat9_len (k := 3) _ (fun q hq => by
      obtain ⟨x, hx, rfl⟩ := List.mem_map.1 hq
      rfl), List.length_map]
  apply List.ext_getElem?
  intro t
  by_cases ht : t < l.length * 3
  · have hlt : t / 3 < l.length := by omega
    have h3 := flat9_get (k := 3) (l.map fun x => (encE x, x)) (t / 3) (t % 3) (fun q hq => by
      obtain ⟨x, hx, rfl⟩ := List.mem_map.1 hq
      rfl) (Nat.mod_lt _ (by decide))
    rw [show t / 3 * 3 + t % 3 = t by omega, h2, List.getElem?_map, List.getElem?_eq_getElem hlt] at h3
    rw [h3, Array.getElem?_toList, Array.getElem?_eq_getElem (by simpa using ht)]
    have h4 := get_flatK encE 3 l.toArray t (by simpa using ht)
    rw [getElem!_pos (flatK encE 3 l.toArray) t (by simpa using ht)] at h4
    rw [h4]
    have h5 : l.toArray[t / 3]! = l[t / 3] := by rw [getElem!_pos l.toArray (t / 3) (by simpa using hlt)]; simp
    rw [h5]
    have h6 : t % 3 < (encE l[t / 3]).length := Nat.mod_lt _ (by decide)
    simp only [Option.map_some, Option.bind_some]
    rw [List.getElem?_eq_getElem h6, getElem!_pos (encE l[t / 3]) (t % 3) h6]
  · rw [List.getElem?_eq_none (by simp; omega), List.getElem?_eq_none (by omega)]
/-- A row of one's own that is not nil: where it lies, and that it holds its cells. -/
theorem holds_own {w : World} {base : Nat} {e : TypeId} {k n : Nat} {v : Value} {xs : List Value} (h : w.ownsRow base e k v n xs) (hv : v ≠ .slice none 0 0) :
    ∃ g cap, v = .slice (some ⟨g, 0, none⟩) n cap ∧ base ≤ g ∧ g < w.heap.size ∧ n ≤ cap ∧ cap ≤ maxLen ∧ Holds id w g 0 xs.toArray := by
  rcases h.2 with ⟨e0, _⟩ | ⟨g, cap, cur, rfl, hb, hg, hn, hm, hs, ht⟩
  · exact absurd e0 hv
  · refine ⟨g, cap, rfl, hb, (Array.getElem?_eq_some_iff.1 hg).1, hn, hm, fun j hj => ?_⟩
    have hj' : j < n * k := by have := h.1; simp at hj; omega
    refine ⟨?_, by simp [World.frozen?, hg]⟩
    have e1 : (cur.toList.take (n * k))[j]? = xs[j]? := by rw [ht]
    rw [List.getElem?_take, if_pos hj', Array.getElem?_toList] at e1
    simp only [World.cell?, hg, Nat.zero_add]
    simp only [Option.isSome_none, Bool.false_eq_true, if_false]
    rw [e1]
    simp at hj
    simp [hj]
theorem own_putK {w : World} {base : Nat} {e : TypeId} {g n cap q k : Nat} {xs ys : List Value} (h : w.ownsRow base e k (.slice (some ⟨g, 0, none⟩) n cap) n xs) (hy : ys.length = n * k) :
    (putRow id (Sort.ahead w q) g 0 ys.toArray).ownsRow base e k (.slice (some ⟨g, 0, none⟩) n cap) n ys := by
  rcases h.2 with ⟨e0, _⟩ | ⟨g', cap', cur, e0, hb, hg, hn, hm, hs, ht⟩
  · cases e0
  · injection e0 with e1 _ e3
    injection e1 with e1
    injection e1 with e1
    subst e1; subst e3
    have hle : n * k ≤ cap * k := Nat.mul_le_mul_right k hn
    refine ⟨hy, .inr ⟨g, cap, putCells id 0 ys.toArray cur, rfl, hb, ?_, hn, hm, by simpa [putCells] using hs, ?_⟩⟩
    · simp [putRow, mapBlock, Sort.ahead, Array.getElem?_modify, hg, onCells]
    · apply List.ext_getElem?
      intro j
      rw [List.getElem?_take, Array.getElem?_toList]
      by_cases hj : j < n * k
      · have hjc : j < cur.size := by omega
        simp only [if_pos hj, putCells, Array.getElem?_mapIdx, Array.getElem?_eq_getElem hjc, Option.map_some]
        rw [if_pos (by simp; omega), List.getElem?_eq_getElem (by omega)]
        simp [getElem!_pos, show j < ys.length by omega]
      · rw [if_neg hj, List.getElem?_eq_none (by omega)]
set_option maxHeartbeats 2000000 in
theorem sorte_any {w0 w : World} {B : Nat} {v : Value} {l : List Ed} (h : OwnR 3 44 EdP w0 w B v l) (hn9 : l.length ≤ 1000000) :
    Calls Try.prog 43 #[v, .func (.func 31) #[] #[]] w fun e w' => e = .returned (.tuple #[]) ∧ (OwnR 3 44 EdP w0 w' B v (sortE l) ∧ w.grownBy w' v.ownBlock) := by
  obtain ⟨hrow, hI⟩ := h.eds
  by_cases hv : v = .slice none 0 0
  · subst hv
    have hl : l = [] := by
      rcases hrow.2 with ⟨-, h0⟩ | ⟨g, cap, cur, e, -⟩
      · exact List.eq_nil_of_length_eq_zero h0
      · cases e
    subst hl
    refine (AnyF.slices_SortFunc_none Try.laysSlF06_f43 none 0 _ w).mono ?_
    rintro e w' ⟨rfl, rfl⟩
    exact ⟨rfl, by simpa [sortE] using OwnR.nil _ _ _ _ _ _, World.grownBy.refl _ _⟩
  · obtain ⟨g, cap, rfl, hg, hlt, hn, hm, hH⟩ := holds_own hrow hv
    have hHK : HoldsK encE 3 w g 0 l.toArray := by
      unfold HoldsK
      rw [show flatK encE 3 l.toArray = (l.flatMap encE).toArray from by rw [← flatK_list]]
      exact hH
    have c := AnyQ.slices_SortFunc_total Try.laysSlF06_f43 3 Try.isAgg44 Try.sizeOf44 encE (fun _ => rfl) (fun x v hv => by simp [encE] at hv; rcases hv with rfl | rfl | rfl <;> rfl) cfE swoE 31 #[] g 0 cap l.toArray w (enters_of Try.func31 (by kernel_rfl) rfl) (cmpLaysE g 0 _ w) hHK hlt (by simp; omega) (fun x y h1 h2 => by
      rw [cfE_lt] at h1 h2
      simp at h1 h2
      rcases befE_tri x y with h3 | h3 | h3
      · exact absurd h3 h1
      · exact h3
      · exact absurd h3 h2)
    refine c.mono ?_
    rintro e w' ⟨rfl, n, os, rfl⟩
    refine ⟨rfl, OwnR.of_eds ?_ (fun x hx => hI x ((sortE_perm l).mem_iff.1 hx)), ?_⟩
    · rw [sortE_len]
      unfold sortWorldK putRowK
      refine own_grow9 ?_ os
      have e1 : flatK encE 3 (l.toArray.toList.mergeSort fun x y => !(ltOf cfE) y x).toArray = ((sortE l).flatMap encE).toArray := by rw [← flatK_list]; rfl
      rw [e1]
      refine own_putK hrow ?_
      have := flatK_list (sortE l)
      rw [← this]
      simp [sortE_len]
    · unfold sortWorldK putRowK
      exact grown_put9 w id g n _ os
end Go.Proofs.Ytfiockconbaniaa
