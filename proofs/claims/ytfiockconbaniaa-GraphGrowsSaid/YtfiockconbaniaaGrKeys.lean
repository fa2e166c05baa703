/- What was met: a map of numbers; its keys, sorted. -/
import Derived.Test.YtfiockconbaniaaGrQueue
import Derived.Test.YtfiockconbaniaaGrOut
import Derived.Shelf.SlIterI.Nil
import Derived.Maps.OwnIn
namespace Go.Proofs.Ytfiockconbaniaa
set_option linter.unusedSimpArgs false
set_option linter.unusedVariables false
open Go.RowKit Go.Proofs Go.Maps Go.Sort Go.Shelf

/-- Block M is a map that has just these keys, each once. -/
def MetAt (W : World) (M : Nat) (met : List Int) : Prop := ∃ D : DataW Unit, W.ownsMap Try.prog 3 unitElem M met.length D ∧ met.Nodup ∧ (∀ x ∈ met, I64 x) ∧ ∀ x, x ∈ met ↔ has D (.int .i64 x) = true
theorem MetAt.keep {W W' : World} {M : Nat} {met : List Int} (h : MetAt W M met) (hk : W'.heap[M]? = W.heap[M]?) : MetAt W' M met := by
  obtain ⟨D, ⟨es, clock, e1, e2⟩, h2⟩ := h
  exact ⟨D, ⟨es, clock, hk.trans e1, e2⟩, h2⟩
theorem MetAt.lt {W : World} {M : Nat} {met : List Int} (h : MetAt W M met) : M < W.heap.size := by
  obtain ⟨D, h1, -⟩ := h
  exact h1.lt
theorem MetAt.obj {W : World} {M : Nat} {met : List Int} (h : MetAt W M met) : ∃ es clock, W.heap[M]? = some (.map es clock) := by
  obtain ⟨D, ⟨es, clock, e1, e2⟩, h2⟩ := h
  exact ⟨es, clock, e1⟩
theorem MetAt.new (W : World) : MetAt (W.alloc (.map #[] 0)) W.heap.size [] := ⟨.map [], World.ownsMap_made W _ _ _, by simp, by simp, fun x => by simp [Maps.has_eq]⟩
/-- A key more. -/
theorem MetAt.put {W : World} {M : Nat} {met : List Int} (h : MetAt W M met) {x : Int} (hx : I64 x) (hn : x ∉ met) (hl : met.length ≤ 1000000) :
    ∃ W', (Instr.mapUpdate 65 (.map (some M)) (.int .i64 x) (.agg #[])).run Try.prog W = .ok () W' ∧ (MetAt W' M (x :: met) ∧ W.grownBy W' (some M)) := by
  obtain ⟨D, h1, h2, h3, h4⟩ := h
  obtain ⟨W', hrun, r1, r2⟩ := World.ownsMap.update h1 keyed3 Try.underlying65 (by unfold maxLen; omega) (keyOf_int_mk Try.underlying3 hx.wf) unitElem_mk
  refine ⟨W', hrun, ⟨_, r1, List.nodup_cons.2 ⟨hn, h2⟩, fun y hy => ?_, fun y => ?_⟩, r2⟩
  · rcases List.mem_cons.1 hy with rfl | hy
    · exact hx
    · exact h3 y hy
  · by_cases e : y = x
    · subst e
      rw [Maps.has_put_same h1.isMap (show WideAt.IsKeyLit (.int .i64 y) from trivial)]
      simp
    · rw [Maps.has_put_other (by simpa using e), ← h4 y, List.mem_cons]
      exact ⟨fun h => h.resolve_left e, .inr⟩
theorem MetAt.look {W : World} {M : Nat} {met : List Int} (h : MetAt W M met) {x : Int} (hx : I64 x) : ∃ D : DataW Unit, W.ownsMap Try.prog 3 unitElem M met.length D ∧ has D (.int .i64 x) = decide (x ∈ met) ∧ keyOf Try.prog 3 (.int .i64 x) = some (.int .i64 x) := by
  obtain ⟨D, h1, h2, h3, h4⟩ := h
  refine ⟨D, h1, ?_, keyOf_int_mk Try.underlying3 hx.wf⟩
  rw [Bool.eq_iff_iff, ← h4 x, decide_eq_true_iff]
theorem sort_met {ss met : List Int} (hp : ss.Perm met) (hd : met.Nodup) : ss.mergeSort (fun x y => decide (x ≤ y)) = setI met := by
  have h1 := List.mergeSort_perm ss (fun x y => decide (x ≤ y))
  have h2 := List.pairwise_mergeSort (le := fun x y : Int => decide (x ≤ y)) (fun a b c h1 h2 => by simp at *; omega) (fun a b => by simp; omega) ss
  have h3 : (ss.mergeSort fun x y => decide (x ≤ y)).Nodup := (h1.trans hp).nodup_iff.2 hd
  refine set_eq ?_ fun z => (h1.trans hp).mem_iff
  refine (List.Pairwise.and h2 h3).imp fun {a b} h => ?_
  have h4 := h.1
  have h5 := h.2
  simp at h4
  omega
/-- slices.Sort's two contracts, at the fence that asks nothing. -/
theorem sortsA (m : Nat) : AnyZI.SortsIn Try.prog Try.sortedA_ren Fence.wide m :=
  ⟨fun blk off cap ss W hH hblk hsz => callsIn_wide.2 (AnyM.slices_Sort_int Try.laysSlM5_f45 blk off cap ss W hH hblk hsz),
   fun p cap W => callsIn_wide.2 (AnyM.slices_Sort_int_none Try.laysSlM5_f45 p cap W)⟩
theorem keys_in (n : Nat) (mb : Option Nat) (W : World) : CallsIn Fence.wide n Try.prog 36 #[.map mb] W fun e w' => e = .returned (.func (.func 56) #[] #[.pointer (some ⟨W.heap.size, 0, none⟩)]) ∧ w' = W.alloc (.cells #[.map mb] 65) :=
  AnyZI.keys_in Try.keysA Fence.wide n trivial rfl mb W
set_option maxHeartbeats 1000000 in
theorem sortedKeys_any {W : World} {M : Nat} {met : List Int} (h : MetAt W M met) (hl : met.length ≤ 1000000) :
    Calls Try.prog 35 #[.func (.func 56) #[] #[.pointer (some ⟨W.heap.size, 0, none⟩)]] (W.alloc (.cells #[.map (some M)] 65)) fun e w' => ∃ v, e = .returned v ∧ OwnR 1 3 IntP W w' W.heap.size v (setI met) ∧ Below W.heap.size W w' := by
  obtain ⟨D, h1, h2, h3, h4⟩ := h
  have hperm : met.Perm (intKeys D) := CollectedI.perm (left := fun _ => false) ⟨h2, fun x => by rw [h4 x]; simp⟩ h1 keyed3 Try.underlying3 fun _ => rfl
  have hsz : Maps.size D ≤ 1000000 := by
    have e : Maps.size D = (intKeys D).length := by
      obtain ⟨es, rfl, -⟩ := h1.keysOf
      simp [Maps.size, intKeys]
    rw [e, ← hperm.length_eq]
    exact hl
  refine (callsIn_wide (n := 5)).1 ?_
  have hbl := h1.lt
  have hseq : SeqGives Fence.wide 2 Try.prog 56 #[.pointer (some ⟨W.heap.size, 0, none⟩)] encZ (fun ss => ss.Perm (intKeys D)) (Maps.size D) (W.alloc (.cells #[.map (some M)] 65)) :=
    AnyZI.keys_gives (ρ := Try.keysA_ren) { Try.keysA with } Fence.wide _ trivial rfl (by omega) W.heap.size M met.length D _ (by simp) (by simp) (by
      obtain ⟨es, clock, hb, Ft, hs, hD⟩ := h1
      exact ⟨es, clock, (Below.heap_alloc _ _ M hbl).trans hb, Ft, hs, hD⟩)
  have cS := AnyZI.sorted_in Try.sortedA Fence.wide 5 trivial trivial trivial trivial rfl (by omega) (sortsA _) (enters_of Try.func45 (by kernel_rfl) rfl) 56 #[.pointer (some ⟨W.heap.size, 0, none⟩)] trivial (enters_of Try.func56 (by kernel_rfl) rfl) _ _ (by unfold maxLen; omega) (by omega) _ hseq
  change CallsIn _ _ Try.prog 35 _ _ _ at cS
  refine cS.mono ?_
  rintro e w' ⟨v, ss, rfl, hS, hrow, hnil, hb⟩
  have hb0 : Below W.heap.size W (W.alloc (.cells #[.map (some M)] 65)) := (Below.refl _ W).alloc (Nat.le_refl _) _
  have hsm := hS.trans hperm.symm
  rw [sort_met hsm h2] at hrow
  have hlen : ss.length = (setI met).length := by
    rw [← sort_met hsm h2, List.length_mergeSort]
  rw [hlen] at hrow
  refine ⟨v, rfl, OwnR.of_ints (ownsRow_base_a hrow (by simp)) (fun x hx => h3 x ((mem_setI x met).1 hx)), hb0.trans (hb.mono (by simp))⟩
end Go.Proofs.Ytfiockconbaniaa
