/- gumshoelaw03.size, Small, id. -/
import Derived.Test.YtiejpenffpjmeaaDoorNodes
namespace Go.Proofs.YtiejpenffpjmeaaDoor
open Go.RowKit Go.Proofs

theorem sizes_take_succ {l : List Tr} {k : Nat} {x : Tr} (h : l[k]? = some x) : sizes (l.take (k + 1)) = sizes (l.take k) + x.size := by
  rw [List.take_add_one, h, sizes_app]
  simp [sizes_cons, sizes_nil]
theorem sizes_take_le (l : List Tr) (k : Nat) : sizes (l.take k) ≤ sizes l := by
  have := sizes_app (l.take k) (l.drop k)
  rw [List.take_append_drop] at this
  omega
/-- What is left of so many. -/
def leftOf (left : Int) (n : Nat) : Int := max (left - n) (-1)
theorem leftOf_range {left : Int} {n : Nat} (h0 : 0 ≤ left) (h1 : left ≤ 1500) : -1 ≤ leftOf left n ∧ leftOf left n ≤ 1500 := by
  unfold leftOf; omega

set_option maxRecDepth 100000 in
set_option maxHeartbeats 4000000 in
theorem size_any (t : Tr) : ∀ (v : Value) (w : World) (left : Int), At w w.heap.size t v → 0 ≤ left → left ≤ 1500 →
    Calls Tryd.prog 26 #[v, .int .i64 left] w fun e w' => e = .returned (.int .i64 (leftOf left t.size)) ∧ Below w.heap.size w w' := by
  refine tree_ind (P := fun t => ∀ (v : Value) (w : World) (left : Int), At w w.heap.size t v → 0 ≤ left → left ≤ 1500 →
    Calls Tryd.prog 26 #[v, .int .i64 left] w fun e w' => e = .returned (.int .i64 (leftOf left t.size)) ∧ Below w.heap.size w w') ?_ t
  clear t
  intro t ih v w left ht hl0 hl1
  have IH := Lib.hid (fun u (hu : u ∈ t.l) => ih u (size_part hu))
  clear ih
  rw [At_iff] at ht
  obtain ⟨u, rfl, ⟨A, cap, rfl, hc, ha⟩, hs⟩ := ht
  have HA := Lib.hid ha
  have HZ := Lib.hid (size_eq t)
  unfold nodeV
  obtain ⟨l, el⟩ : ∃ x, t.l = x := ⟨_, rfl⟩
  obtain ⟨z, ez⟩ : ∃ x, t.size = x := ⟨_, rfl⟩
  rw [el] at HA IH HZ hc ⊢
  rw [ez] at HZ ⊢
  unfold maxLen at hc
  clear el ez ha hs
  obtain ⟨len, en⟩ : ∃ k, l.length = k := ⟨_, rfl⟩
  have HL := Lib.hid en
  rw [en] at HA hc ⊢
  clear en
  go_enter Tryd.func26, Tryd.ntmps26
  go_wp2
  obtain ⟨w2, hw2⟩ : ∃ x, (w.alloc (.cells #[.int .i64 t.op, .string (bs t.s), .int .i64 t.n, .slice A len cap, .int .i64 t.line] 24)) = x := ⟨_, rfl⟩
  obtain ⟨hsz, hbel, c1⟩ : w2.heap.size = w.heap.size + 1 ∧ Below w.heap.size w w2 ∧ w2.cell? ⟨w.heap.size, 3, none⟩ = some (.slice A len cap) := by
    subst hw2
    exact ⟨by simp, (Below.refl _ w).alloc (Nat.le_refl _) _, by go_simp⟩
  rw [hw2]
  clear hw2
  go_loopw [5, 1] (fun i y wr => ∃ k : Nat, k ≤ len ∧ i = .int .i64 k ∧ y = .int .i64 (leftOf left (1 + sizes (l.take k))) ∧ Below w2.heap.size w2 wr) (fun i _ _ => len - (intOf i).toNat)
  case atStart => exact ⟨0, Nat.zero_le _, rfl, by rw [show leftOf left (1 + sizes (l.take 0)) = left - 1 by rw [List.take_zero, sizes_nil]; unfold leftOf; omega], Below.refl _ _⟩
  case round =>
    obtain ⟨k, hk, rfl, rfl, hB⟩ := hrel
    have d1 := (hB.cell (p := ⟨w.heap.size, 3, none⟩) (by simp; omega)).trans c1
    have hbw := hbel.trans (hB.mono (by omega))
    obtain ⟨y, ey⟩ : ∃ y, leftOf left (1 + sizes (l.take k)) = y := ⟨_, rfl⟩
    have hy := leftOf_range (n := 1 + sizes (l.take k)) hl0 hl1
    have HT := Lib.hid (sizes_take_le l k)
    rw [ey] at hy ⊢
    have HY := Lib.hid ey
    clear ey
    obtain ⟨hy0, hy1⟩ := hy
    by_cases hlt : k < len
    · by_cases hy2 : 0 ≤ y
      · obtain ⟨ga, fa, rfl, hga, HA⟩ := HA.out (by omega)
        obtain ⟨x, ex⟩ : ∃ x, l[k]? = some x := ⟨_, List.getElem?_eq_getElem (by rw [HL.out]; exact hlt)⟩
        obtain ⟨vx, hx, x0, x1, x2, x3, x4⟩ := AtL.get l k x (AtL.keep (W' := wr) (n' := w.heap.size) l HA hga (Nat.le_refl _) fun _ hp => hbw.cell hp) ex
        have IHk := Lib.hid (IH.out x (List.mem_of_getElem? ex) _ wr y (At.keep (n' := wr.heap.size) x hx (by have := hB.size; omega) fun _ _ => rfl) hy2 hy1)
        have HS := Lib.hid (sizes_take_succ ex)
        clear HA hx ex
        go_wp2_with (go_at_call 26; refine IHk.out.mono ?_; rintro e w' ⟨rfl, hb⟩)
        go_roundw
        case rel => exact ⟨k + 1, by omega, by go_num, by rw [HS.out, ← HY.out]; unfold leftOf; congr 1; have := HY.out; unfold leftOf at this; omega, hB.trans (hb.mono hB.size)⟩
        case measure => simp [intOf]; omega
      · have hy3 : y = -1 := by omega
        subst hy3
        go_wp2
        go_ret
        exact ⟨ret_i (by rw [HZ.out]; have := HY.out; have := HT.out; unfold leftOf at *; omega), hbw⟩
    · obtain rfl : k = len := by omega
      go_wp2
      go_ret
      exact ⟨ret_i (by rw [HZ.out, ← HY.out, List.take_of_length_le (by rw [HL.out]; exact Nat.le_refl _)]), hbw⟩

set_option maxHeartbeats 1000000 in
theorem small_any (t : Tr) (v : Value) (w : World) (ht : At w w.heap.size t v) :
    Calls Tryd.prog 11 #[v] w fun e w' => e = .returned (.int .i64 (if t.size ≤ 1500 then 1 else 0)) ∧ Below w.heap.size w w' := by
  have ht' := ht
  rw [At_iff] at ht
  obtain ⟨u, rfl, -, -⟩ := ht
  have hcall : ∀ o, Calls Tryd.prog 26 #[nodeV t u, .int .i64 1500] (w.alloc o) fun e w' => e = .returned (.int .i64 (leftOf 1500 t.size)) ∧ Below (w.alloc o).heap.size (w.alloc o) w' :=
    fun o => size_any t _ _ 1500 (At.keep (n' := (w.alloc o).heap.size) t ht' (by simp) fun p hp => World.cell?_alloc_lt w o p hp) (by omega) (by omega)
  have HC := Lib.hid hcall
  unfold nodeV at HC ⊢
  clear ht' hcall
  by_cases h : t.size ≤ 1500
  · rw [if_pos h]
    have hy : 0 ≤ leftOf 1500 t.size := by unfold leftOf; omega
    obtain ⟨y, ey⟩ : ∃ y, leftOf 1500 t.size = y := ⟨_, rfl⟩
    rw [ey] at HC hy
    clear ey h
    go_enter Tryd.func11, Tryd.ntmps11
    go_wp2_with (go_at_call 26; refine (HC.out _).mono ?_; rintro e w' ⟨rfl, hb⟩)
    go_ret
    exact ⟨rfl, ((Below.refl _ w).alloc (Nat.le_refl _) _).trans (hb.mono (by simp))⟩
  · rw [if_neg h]
    have hy : leftOf 1500 t.size = -1 := by unfold leftOf; omega
    rw [hy] at HC
    clear hy h
    go_enter Tryd.func11, Tryd.ntmps11
    go_wp2_with (go_at_call 26; refine (HC.out _).mono ?_; rintro e w' ⟨rfl, hb⟩)
    go_ret
    exact ⟨rfl, ((Below.refl _ w).alloc (Nat.le_refl _) _).trans (hb.mono (by simp))⟩
end Go.Proofs.YtiejpenffpjmeaaDoor
