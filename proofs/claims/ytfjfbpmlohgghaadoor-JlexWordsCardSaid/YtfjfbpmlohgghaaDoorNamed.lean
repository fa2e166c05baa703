/- jlex.named: a name, or a word. -/
import Derived.Test.YtfjfbpmlohgghaaDoorNumber
import Derived.Test.YtfjfbpmlohgghaaDoorSet
namespace Go.Proofs.YtfjfbpmlohgghaaDoor
open Go.RowKit Go.Proofs

def kindB (x : Bool) : Int := if x then 2 else 1
theorem clone_any (s : ByteArray) (w : World) (hs : s.size ≤ 1000000) : Calls Tryd.prog 47 #[.string s] w fun e w' => e = .returned (.string s) ∧ Below w.heap.size w w' := by
  have H := Lib.hid (fun w => Tryd.stringslite_Clone s w (by omega))
  go_enter Tryd.func47, Tryd.ntmps47
  go_wp2_with (go_at_call 55; refine (H.out _).mono ?_; rintro e w' ⟨rfl, hb⟩)
  go_ret
  exact ⟨rfl, hb⟩

set_option maxRecDepth 100000 in
set_option maxHeartbeats 2000000 in
theorem named_at (s : ByteArray) (b : Nat) (w : World) (hW : WM w b wordsL) (hs : s.size ≤ 1000000) (n : Nat) (hn : runL nameB s.data.toList = n) (x : Bool) (hx : isWordL (s.data.toList.take n) = x) :
    Calls Tryd.prog 39 #[.string s, .map (some b)] w fun e w' => e = .returned (.tuple #[.agg #[.int .i64 (kindB x), .string (s.extract 0 n), .int .i64 0, .int .i64 0, .bool false], .int .i64 n]) ∧ Below w.heap.size w w' := by
  have hle : n ≤ s.size := by rw [← hn, ← len_toList]; exact runL_le _ _
  have HR := run24_any s
  rw [hn] at HR
  have HR := Lib.hid (fun w => HR w (by unfold maxLen; omega))
  have HC := Lib.hid (fun w => clone_any (s.extract 0 n) w (by rw [ext0_size s n hle]; omega))
  have hlt := hW.lt
  have HL : ∀ w', Below w.heap.size w w' → (Instr.lookup 39 (.map (some b)) (.string (s.extract 0 n)) true).run Tryd.prog w' = .ok (.tuple #[.agg #[], .bool x]) w' := fun w' h => by
    have := (hW.below hlt h).look (s.extract 0 n) (by rw [ext0_size s n hle]; unfold maxLen; omega)
    rw [ext_take, hx] at this
    exact this
  have HL := Lib.hid HL
  clear hn hx
  cases x with
  | false =>
    go_enter Tryd.func39, Tryd.ntmps39
    go_wp2_with (first | (go_at_call 23; refine (HR.out _).mono ?_; rintro e w' ⟨rfl, rfl⟩) | (go_at_call 47; refine (HC.out _).mono ?_; rintro e w1 ⟨rfl, hb⟩; have hblk1 : w1.heap[w.heap.size]? = some (.cells #[.int .i64 0, .string ⟨#[]⟩, .int .i64 0, .int .i64 0, .bool false] 30 (0, 0)) := (hb.block w.heap.size (by simp)).trans (heap_alloc_new w _); have hz1 := hb.size; (try simp only [World.size_alloc] at hz1); have c0 : w1.cell? ⟨w.heap.size, 0, none⟩ = some (.int .i64 0) := cell_of_row w1 w.heap.size 0 _ _ _ hblk1; have c1 : w1.cell? ⟨w.heap.size, 1, none⟩ = some (.string ⟨#[]⟩) := cell_of_row w1 w.heap.size 1 _ _ _ hblk1; have c2 : w1.cell? ⟨w.heap.size, 2, none⟩ = some (.int .i64 0) := cell_of_row w1 w.heap.size 2 _ _ _ hblk1; have c3 : w1.cell? ⟨w.heap.size, 3, none⟩ = some (.int .i64 0) := cell_of_row w1 w.heap.size 3 _ _ _ hblk1; have c4 : w1.cell? ⟨w.heap.size, 4, none⟩ = some (.bool false) := cell_of_row w1 w.heap.size 4 _ _ _ hblk1; have f0 := fun j => frozen_of_row w1 w.heap.size j _ _ hblk1; clear hblk1; have hz2 : w.heap.size < w1.heap.size := hz1; have hB1 : Below w.heap.size w w1 := ((Below.refl _ w).alloc (Nat.le_refl _) _).trans (hb.mono (by simp)); have hl1 := HL.out _ (hB1.alloc hB1.size (.cells #[.int .i64 1, .string (s.extract 0 n), .int .i64 0, .int .i64 0, .bool false] 30))))
    have hz3 : w.heap.size < w1.heap.size + 1 := by omega
    refine bodyPost_ret (v := .tuple #[.agg #[.int .i64 1, .string (s.extract 0 n), .int .i64 0, .int .i64 0, .bool false], .int .i64 n]) (by simp [results, Tryd.results39, go_sem, c0, c1, c2, c3, c4, hz2, hz3]) rfl ⟨rfl, ?_⟩
    exact (((((((hB1.setCell (Nat.le_refl _) _).setCell (Nat.le_refl _) _).setCell (Nat.le_refl _) _).setCell (Nat.le_refl _) _).setCell (Nat.le_refl _) _).alloc (by simp; omega) _).alloc (by simp; omega) _)
  | true =>
    go_enter Tryd.func39, Tryd.ntmps39
    go_wp2_with (first | (go_at_call 23; refine (HR.out _).mono ?_; rintro e w' ⟨rfl, rfl⟩) | (go_at_call 47; refine (HC.out _).mono ?_; rintro e w1 ⟨rfl, hb⟩; have hblk1 : w1.heap[w.heap.size]? = some (.cells #[.int .i64 0, .string ⟨#[]⟩, .int .i64 0, .int .i64 0, .bool false] 30 (0, 0)) := (hb.block w.heap.size (by simp)).trans (heap_alloc_new w _); have hz1 := hb.size; (try simp only [World.size_alloc] at hz1); have c0 : w1.cell? ⟨w.heap.size, 0, none⟩ = some (.int .i64 0) := cell_of_row w1 w.heap.size 0 _ _ _ hblk1; have c1 : w1.cell? ⟨w.heap.size, 1, none⟩ = some (.string ⟨#[]⟩) := cell_of_row w1 w.heap.size 1 _ _ _ hblk1; have c2 : w1.cell? ⟨w.heap.size, 2, none⟩ = some (.int .i64 0) := cell_of_row w1 w.heap.size 2 _ _ _ hblk1; have c3 : w1.cell? ⟨w.heap.size, 3, none⟩ = some (.int .i64 0) := cell_of_row w1 w.heap.size 3 _ _ _ hblk1; have c4 : w1.cell? ⟨w.heap.size, 4, none⟩ = some (.bool false) := cell_of_row w1 w.heap.size 4 _ _ _ hblk1; have f0 := fun j => frozen_of_row w1 w.heap.size j _ _ hblk1; clear hblk1; have hz2 : w.heap.size < w1.heap.size := hz1; have hB1 : Below w.heap.size w w1 := ((Below.refl _ w).alloc (Nat.le_refl _) _).trans (hb.mono (by simp)); have hl1 := HL.out _ (hB1.alloc hB1.size (.cells #[.int .i64 1, .string (s.extract 0 n), .int .i64 0, .int .i64 0, .bool false] 30))))
    have hz3 : w.heap.size < w1.heap.size + 1 := by omega
    refine bodyPost_ret (v := .tuple #[.agg #[.int .i64 2, .string (s.extract 0 n), .int .i64 0, .int .i64 0, .bool false], .int .i64 n]) (by simp [results, Tryd.results39, go_sem, c0, c1, c2, c3, c4, hz2, hz3]) rfl ⟨rfl, ?_⟩
    exact (((((((hB1.setCell (Nat.le_refl _) _).setCell (Nat.le_refl _) _).setCell (Nat.le_refl _) _).setCell (Nat.le_refl _) _).setCell (Nat.le_refl _) _).alloc (by simp; omega) _).alloc (by simp; omega) _)

theorem named_any (s : ByteArray) (b : Nat) (w : World) (hW : WM w b wordsL) (hs : s.size ≤ 1000000) :
    Calls Tryd.prog 39 #[.string s, .map (some b)] w fun e w' => e = .returned (.tuple #[tokV (nameL s.data.toList).t, .int .i64 (nameL s.data.toList).len]) ∧ Below w.heap.size w w' := by
  have h := named_at s b w hW hs _ rfl _ rfl
  refine h.mono fun e w' hh => ⟨?_, hh.2⟩
  rw [hh.1]
  have e1 : s.extract 0 (runL nameB s.data.toList) = bs (s.data.toList.take (runL nameB s.data.toList)) := by rw [← ext_take, bs_of]
  rw [e1]
  unfold nameL tokV kindB
  simp
end Go.Proofs.YtfjfbpmlohgghaaDoor
