/- jlex.number. -/
import Derived.Test.YtfjfbpmlohgghaaDoorAmount
namespace Go.Proofs.YtfjfbpmlohgghaaDoor
open Go.RowKit Go.Proofs

theorem ext_head (s : ByteArray) (n : Nat) (h : n < s.size) (h' : 0 < (s.extract n s.size).size) : (s.extract n s.size)[0] = s[n] := by
  have h1 := get_toList (s.extract n s.size) 0 h'
  rw [ext_drop, List.getElem?_drop, Nat.add_zero, get_toList s n h] at h1
  injection h1 with h1
  exact h1.symm
theorem ext0_size (s : ByteArray) (n : Nat) (h : n ≤ s.size) : (s.extract 0 n).size = n := by
  rw [← len_toList, ext_take, List.length_take, len_toList]; omega
theorem empty_list (s : ByteArray) (h : s.size = 0) : s.toList = [] := by
  rw [Lib.toList_data]
  exact List.eq_nil_of_length_eq_zero (by rw [len_toList, h])
theorem empty_yes (s : ByteArray) (h : s.size = 0) : s.toList.isEmpty = true := by rw [empty_list s h]; rfl
theorem empty_no (s : ByteArray) (h : 0 < s.size) : s.toList.isEmpty = false := by
  rw [Lib.toList_data, List.isEmpty_eq_false_iff]
  intro e
  have := len_toList s
  rw [e] at this
  simp at this
  omega

set_option maxRecDepth 100000 in
set_option maxHeartbeats 1000000 in
theorem number_ea (s : ByteArray) (w : World) (hs : s.size ≤ 1000000) (n : Nat) (hn : runL digitB s.data.toList = n) (hE : Env w) (he : n = s.size) (ha : ∀ w, 3 ≤ w.heap.size → Env w → Calls Tryd.prog 48 #[.string (s.extract 0 n)] w fun e w' => e = .returned (.tuple #[.int .i64 0, .bool false]) ∧ Below w.heap.size w w') :
    Calls Tryd.prog 40 #[.string s] w fun e w' => e = .returned (.tuple #[.agg #[.int .i64 0, .string ⟨#[]⟩, .int .i64 0, .int .i64 0, .bool false], .int .i64 0, .int .i64 24]) ∧ Below w.heap.size w w' := by
  have hE1 : Env (w.alloc (.cells #[.int .i64 0, .string ⟨#[]⟩, .int .i64 0, .int .i64 0, .bool false] 30)) := hE.kept ((Below.refl _ w).alloc (Nat.le_refl _) _)
  have HA := Lib.hid (ha _ hE1.size hE1)
  have HR := run29_any s
  rw [hn] at HR
  have HR := Lib.hid (fun w => HR w (by unfold maxLen; omega))
  have hle : n ≤ s.size := by omega
  have hE0 := empty_yes (s.extract n s.size) (by rw [ext_size]; omega)
  have hE2 := empty_list (s.extract n s.size) (by rw [ext_size]; omega)
  have HX := Lib.hid he
  clear he hE hE1 ha hn
  go_enter Tryd.func40, Tryd.ntmps40
  go_wp2_with (first | (go_at_call 23; refine (HR.out _).mono ?_; rintro e w' ⟨rfl, rfl⟩) | (go_at_call 48; refine HA.out.mono ?_; rintro e w1 ⟨rfl, hb⟩; have hblk1 : w1.heap[w.heap.size]? = some (.cells #[.int .i64 0, .string ⟨#[]⟩, .int .i64 0, .int .i64 0, .bool false] 30 (0, 0)) := (hb.block w.heap.size (by simp)).trans (heap_alloc_new w _); have hz1 := hb.size; (try simp only [World.size_alloc] at hz1); have c0 : w1.cell? ⟨w.heap.size, 0, none⟩ = some (.int .i64 0) := cell_of_row w1 w.heap.size 0 _ _ _ hblk1; have c1 : w1.cell? ⟨w.heap.size, 1, none⟩ = some (.string ⟨#[]⟩) := cell_of_row w1 w.heap.size 1 _ _ _ hblk1; have c2 : w1.cell? ⟨w.heap.size, 2, none⟩ = some (.int .i64 0) := cell_of_row w1 w.heap.size 2 _ _ _ hblk1; have c3 : w1.cell? ⟨w.heap.size, 3, none⟩ = some (.int .i64 0) := cell_of_row w1 w.heap.size 3 _ _ _ hblk1; have c4 : w1.cell? ⟨w.heap.size, 4, none⟩ = some (.bool false) := cell_of_row w1 w.heap.size 4 _ _ _ hblk1; have f0 := fun j => frozen_of_row w1 w.heap.size j _ _ hblk1; clear hblk1))
  refine bodyPost_ret (v := .tuple #[.agg #[.int .i64 0, .string ⟨#[]⟩, .int .i64 0, .int .i64 0, .bool false], .int .i64 0, .int .i64 24]) (by simp [results, Tryd.results40, go_sem, c0, c1, c2, c3, c4]) rfl ⟨rfl, ?_⟩
  exact ((((((((Below.refl _ w).alloc (Nat.le_refl _) _).trans (hb.mono (by simp)))).setCell (Nat.le_refl _) _).setCell (Nat.le_refl _) _).setCell (Nat.le_refl _) _).setCell (Nat.le_refl _) _).setCell (Nat.le_refl _) _

set_option maxRecDepth 100000 in
set_option maxHeartbeats 1000000 in
theorem number_eb (s : ByteArray) (w : World) (hs : s.size ≤ 1000000) (n : Nat) (hn : runL digitB s.data.toList = n) (hE : Env w) (he : n = s.size) (v : Nat) (ha : ∀ w, 3 ≤ w.heap.size → Env w → Calls Tryd.prog 48 #[.string (s.extract 0 n)] w fun e w' => e = .returned (.tuple #[.int .i64 v, .bool true]) ∧ Below w.heap.size w w') :
    Calls Tryd.prog 40 #[.string s] w fun e w' => e = .returned (.tuple #[.agg #[.int .i64 3, .string ⟨#[]⟩, .int .i64 v, .int .i64 0, .bool false], .int .i64 n, .int .i64 0]) ∧ Below w.heap.size w w' := by
  have hE1 : Env (w.alloc (.cells #[.int .i64 0, .string ⟨#[]⟩, .int .i64 0, .int .i64 0, .bool false] 30)) := hE.kept ((Below.refl _ w).alloc (Nat.le_refl _) _)
  have HA := Lib.hid (ha _ hE1.size hE1)
  have HR := run29_any s
  rw [hn] at HR
  have HR := Lib.hid (fun w => HR w (by unfold maxLen; omega))
  have hle : n ≤ s.size := by omega
  have hE0 := empty_yes (s.extract n s.size) (by rw [ext_size]; omega)
  have hE2 := empty_list (s.extract n s.size) (by rw [ext_size]; omega)
  have HX := Lib.hid he
  clear he hE hE1 ha hn
  go_enter Tryd.func40, Tryd.ntmps40
  go_wp2_with (first | (go_at_call 23; refine (HR.out _).mono ?_; rintro e w' ⟨rfl, rfl⟩) | (go_at_call 48; refine HA.out.mono ?_; rintro e w1 ⟨rfl, hb⟩; have hblk1 : w1.heap[w.heap.size]? = some (.cells #[.int .i64 0, .string ⟨#[]⟩, .int .i64 0, .int .i64 0, .bool false] 30 (0, 0)) := (hb.block w.heap.size (by simp)).trans (heap_alloc_new w _); have hz1 := hb.size; (try simp only [World.size_alloc] at hz1); have c0 : w1.cell? ⟨w.heap.size, 0, none⟩ = some (.int .i64 0) := cell_of_row w1 w.heap.size 0 _ _ _ hblk1; have c1 : w1.cell? ⟨w.heap.size, 1, none⟩ = some (.string ⟨#[]⟩) := cell_of_row w1 w.heap.size 1 _ _ _ hblk1; have c2 : w1.cell? ⟨w.heap.size, 2, none⟩ = some (.int .i64 0) := cell_of_row w1 w.heap.size 2 _ _ _ hblk1; have c3 : w1.cell? ⟨w.heap.size, 3, none⟩ = some (.int .i64 0) := cell_of_row w1 w.heap.size 3 _ _ _ hblk1; have c4 : w1.cell? ⟨w.heap.size, 4, none⟩ = some (.bool false) := cell_of_row w1 w.heap.size 4 _ _ _ hblk1; have f0 := fun j => frozen_of_row w1 w.heap.size j _ _ hblk1; clear hblk1))
  refine bodyPost_ret (v := .tuple #[.agg #[.int .i64 3, .string ⟨#[]⟩, .int .i64 v, .int .i64 0, .bool false], .int .i64 n, .int .i64 0]) (by simp [results, Tryd.results40, go_sem, c0, c1, c2, c3, c4]) rfl ⟨rfl, ?_⟩
  exact ((((((((Below.refl _ w).alloc (Nat.le_refl _) _).trans (hb.mono (by simp)))).setCell (Nat.le_refl _) _).setCell (Nat.le_refl _) _).setCell (Nat.le_refl _) _).setCell (Nat.le_refl _) _).setCell (Nat.le_refl _) _

set_option maxRecDepth 100000 in
set_option maxHeartbeats 1000000 in
theorem number_da (s : ByteArray) (w : World) (hs : s.size ≤ 1000000) (n : Nat) (hn : runL digitB s.data.toList = n) (hE : Env w) (hlt : n < s.size) (hd : s[n].toNat = 46) (ha : ∀ w, 3 ≤ w.heap.size → Env w → Calls Tryd.prog 48 #[.string (s.extract 0 n)] w fun e w' => e = .returned (.tuple #[.int .i64 0, .bool false]) ∧ Below w.heap.size w w') :
    Calls Tryd.prog 40 #[.string s] w fun e w' => e = .returned (.tuple #[.agg #[.int .i64 0, .string ⟨#[]⟩, .int .i64 0, .int .i64 0, .bool false], .int .i64 0, .int .i64 25]) ∧ Below w.heap.size w w' := by
  have hE1 : Env (w.alloc (.cells #[.int .i64 0, .string ⟨#[]⟩, .int .i64 0, .int .i64 0, .bool false] 30)) := hE.kept ((Below.refl _ w).alloc (Nat.le_refl _) _)
  have HA := Lib.hid (ha _ hE1.size hE1)
  have HR := run29_any s
  rw [hn] at HR
  have HR := Lib.hid (fun w => HR w (by unfold maxLen; omega))
  have hle : n ≤ s.size := by omega
  have hx0 : 0 < (s.extract n s.size).size := by rw [ext_size]; omega
  have hx1 : (0 : Int) < ((s.extract n s.size).size : Int) := by omega
  have hE0 := empty_no (s.extract n s.size) hx0
  have hd2 : (((s.extract n s.size)[0].toNat : Int) == 46) = true := by rw [ext_head s n hlt hx0]; simp; omega
  have hx2 : 0 < s.size - n := by omega
  clear hd hE hE1 ha hn
  go_enter Tryd.func40, Tryd.ntmps40
  go_wp2_with (first | (go_at_call 23; refine (HR.out _).mono ?_; rintro e w' ⟨rfl, rfl⟩) | (go_at_call 48; refine HA.out.mono ?_; rintro e w1 ⟨rfl, hb⟩; have hblk1 : w1.heap[w.heap.size]? = some (.cells #[.int .i64 0, .string ⟨#[]⟩, .int .i64 0, .int .i64 0, .bool false] 30 (0, 0)) := (hb.block w.heap.size (by simp)).trans (heap_alloc_new w _); have hz1 := hb.size; (try simp only [World.size_alloc] at hz1); have c0 : w1.cell? ⟨w.heap.size, 0, none⟩ = some (.int .i64 0) := cell_of_row w1 w.heap.size 0 _ _ _ hblk1; have c1 : w1.cell? ⟨w.heap.size, 1, none⟩ = some (.string ⟨#[]⟩) := cell_of_row w1 w.heap.size 1 _ _ _ hblk1; have c2 : w1.cell? ⟨w.heap.size, 2, none⟩ = some (.int .i64 0) := cell_of_row w1 w.heap.size 2 _ _ _ hblk1; have c3 : w1.cell? ⟨w.heap.size, 3, none⟩ = some (.int .i64 0) := cell_of_row w1 w.heap.size 3 _ _ _ hblk1; have c4 : w1.cell? ⟨w.heap.size, 4, none⟩ = some (.bool false) := cell_of_row w1 w.heap.size 4 _ _ _ hblk1; have f0 := fun j => frozen_of_row w1 w.heap.size j _ _ hblk1; clear hblk1))
  refine bodyPost_ret (v := .tuple #[.agg #[.int .i64 0, .string ⟨#[]⟩, .int .i64 0, .int .i64 0, .bool false], .int .i64 0, .int .i64 25]) (by simp [results, Tryd.results40, go_sem, c0, c1, c2, c3, c4]) rfl ⟨rfl, ?_⟩
  exact ((((((((Below.refl _ w).alloc (Nat.le_refl _) _).trans (hb.mono (by simp)))).setCell (Nat.le_refl _) _).setCell (Nat.le_refl _) _).setCell (Nat.le_refl _) _).setCell (Nat.le_refl _) _).setCell (Nat.le_refl _) _

set_option maxRecDepth 100000 in
set_option maxHeartbeats 1000000 in
theorem number_db (s : ByteArray) (w : World) (hs : s.size ≤ 1000000) (n : Nat) (hn : runL digitB s.data.toList = n) (hE : Env w) (hlt : n < s.size) (hd : s[n].toNat = 46) (v : Nat) (ha : ∀ w, 3 ≤ w.heap.size → Env w → Calls Tryd.prog 48 #[.string (s.extract 0 n)] w fun e w' => e = .returned (.tuple #[.int .i64 v, .bool true]) ∧ Below w.heap.size w w') :
    Calls Tryd.prog 40 #[.string s] w fun e w' => e = .returned (.tuple #[.agg #[.int .i64 0, .string ⟨#[]⟩, .int .i64 0, .int .i64 0, .bool false], .int .i64 0, .int .i64 25]) ∧ Below w.heap.size w w' := by
  have hE1 : Env (w.alloc (.cells #[.int .i64 0, .string ⟨#[]⟩, .int .i64 0, .int .i64 0, .bool false] 30)) := hE.kept ((Below.refl _ w).alloc (Nat.le_refl _) _)
  have HA := Lib.hid (ha _ hE1.size hE1)
  have HR := run29_any s
  rw [hn] at HR
  have HR := Lib.hid (fun w => HR w (by unfold maxLen; omega))
  have hle : n ≤ s.size := by omega
  have hx0 : 0 < (s.extract n s.size).size := by rw [ext_size]; omega
  have hx1 : (0 : Int) < ((s.extract n s.size).size : Int) := by omega
  have hE0 := empty_no (s.extract n s.size) hx0
  have hd2 : (((s.extract n s.size)[0].toNat : Int) == 46) = true := by rw [ext_head s n hlt hx0]; simp; omega
  have hx2 : 0 < s.size - n := by omega
  clear hd hE hE1 ha hn
  go_enter Tryd.func40, Tryd.ntmps40
  go_wp2_with (first | (go_at_call 23; refine (HR.out _).mono ?_; rintro e w' ⟨rfl, rfl⟩) | (go_at_call 48; refine HA.out.mono ?_; rintro e w1 ⟨rfl, hb⟩; have hblk1 : w1.heap[w.heap.size]? = some (.cells #[.int .i64 0, .string ⟨#[]⟩, .int .i64 0, .int .i64 0, .bool false] 30 (0, 0)) := (hb.block w.heap.size (by simp)).trans (heap_alloc_new w _); have hz1 := hb.size; (try simp only [World.size_alloc] at hz1); have c0 : w1.cell? ⟨w.heap.size, 0, none⟩ = some (.int .i64 0) := cell_of_row w1 w.heap.size 0 _ _ _ hblk1; have c1 : w1.cell? ⟨w.heap.size, 1, none⟩ = some (.string ⟨#[]⟩) := cell_of_row w1 w.heap.size 1 _ _ _ hblk1; have c2 : w1.cell? ⟨w.heap.size, 2, none⟩ = some (.int .i64 0) := cell_of_row w1 w.heap.size 2 _ _ _ hblk1; have c3 : w1.cell? ⟨w.heap.size, 3, none⟩ = some (.int .i64 0) := cell_of_row w1 w.heap.size 3 _ _ _ hblk1; have c4 : w1.cell? ⟨w.heap.size, 4, none⟩ = some (.bool false) := cell_of_row w1 w.heap.size 4 _ _ _ hblk1; have f0 := fun j => frozen_of_row w1 w.heap.size j _ _ hblk1; clear hblk1))
  refine bodyPost_ret (v := .tuple #[.agg #[.int .i64 0, .string ⟨#[]⟩, .int .i64 0, .int .i64 0, .bool false], .int .i64 0, .int .i64 25]) (by simp [results, Tryd.results40, go_sem, c0, c1, c2, c3, c4]) rfl ⟨rfl, ?_⟩
  exact ((((((((Below.refl _ w).alloc (Nat.le_refl _) _).trans (hb.mono (by simp)))).setCell (Nat.le_refl _) _).setCell (Nat.le_refl _) _).setCell (Nat.le_refl _) _).setCell (Nat.le_refl _) _).setCell (Nat.le_refl _) _

set_option maxRecDepth 100000 in
set_option maxHeartbeats 1000000 in
theorem number_na (s : ByteArray) (w : World) (hs : s.size ≤ 1000000) (n : Nat) (hn : runL digitB s.data.toList = n) (hE : Env w) (hlt : n < s.size) (hd : s[n].toNat ≠ 46) (ha : ∀ w, 3 ≤ w.heap.size → Env w → Calls Tryd.prog 48 #[.string (s.extract 0 n)] w fun e w' => e = .returned (.tuple #[.int .i64 0, .bool false]) ∧ Below w.heap.size w w') :
    Calls Tryd.prog 40 #[.string s] w fun e w' => e = .returned (.tuple #[.agg #[.int .i64 0, .string ⟨#[]⟩, .int .i64 0, .int .i64 0, .bool false], .int .i64 0, .int .i64 24]) ∧ Below w.heap.size w w' := by
  have hE1 : Env (w.alloc (.cells #[.int .i64 0, .string ⟨#[]⟩, .int .i64 0, .int .i64 0, .bool false] 30)) := hE.kept ((Below.refl _ w).alloc (Nat.le_refl _) _)
  have HA := Lib.hid (ha _ hE1.size hE1)
  have HR := run29_any s
  rw [hn] at HR
  have HR := Lib.hid (fun w => HR w (by unfold maxLen; omega))
  have hle : n ≤ s.size := by omega
  have hx0 : 0 < (s.extract n s.size).size := by rw [ext_size]; omega
  have hx1 : (0 : Int) < ((s.extract n s.size).size : Int) := by omega
  have hE0 := empty_no (s.extract n s.size) hx0
  have hd2 : (((s.extract n s.size)[0].toNat : Int) == 46) = false := by rw [ext_head s n hlt hx0]; simp; omega
  have hx2 : 0 < s.size - n := by omega
  clear hd hE hE1 ha hn
  go_enter Tryd.func40, Tryd.ntmps40
  go_wp2_with (first | (go_at_call 23; refine (HR.out _).mono ?_; rintro e w' ⟨rfl, rfl⟩) | (go_at_call 48; refine HA.out.mono ?_; rintro e w1 ⟨rfl, hb⟩; have hblk1 : w1.heap[w.heap.size]? = some (.cells #[.int .i64 0, .string ⟨#[]⟩, .int .i64 0, .int .i64 0, .bool false] 30 (0, 0)) := (hb.block w.heap.size (by simp)).trans (heap_alloc_new w _); have hz1 := hb.size; (try simp only [World.size_alloc] at hz1); have c0 : w1.cell? ⟨w.heap.size, 0, none⟩ = some (.int .i64 0) := cell_of_row w1 w.heap.size 0 _ _ _ hblk1; have c1 : w1.cell? ⟨w.heap.size, 1, none⟩ = some (.string ⟨#[]⟩) := cell_of_row w1 w.heap.size 1 _ _ _ hblk1; have c2 : w1.cell? ⟨w.heap.size, 2, none⟩ = some (.int .i64 0) := cell_of_row w1 w.heap.size 2 _ _ _ hblk1; have c3 : w1.cell? ⟨w.heap.size, 3, none⟩ = some (.int .i64 0) := cell_of_row w1 w.heap.size 3 _ _ _ hblk1; have c4 : w1.cell? ⟨w.heap.size, 4, none⟩ = some (.bool false) := cell_of_row w1 w.heap.size 4 _ _ _ hblk1; have f0 := fun j => frozen_of_row w1 w.heap.size j _ _ hblk1; clear hblk1))
  refine bodyPost_ret (v := .tuple #[.agg #[.int .i64 0, .string ⟨#[]⟩, .int .i64 0, .int .i64 0, .bool false], .int .i64 0, .int .i64 24]) (by simp [results, Tryd.results40, go_sem, c0, c1, c2, c3, c4]) rfl ⟨rfl, ?_⟩
  exact ((((((((Below.refl _ w).alloc (Nat.le_refl _) _).trans (hb.mono (by simp)))).setCell (Nat.le_refl _) _).setCell (Nat.le_refl _) _).setCell (Nat.le_refl _) _).setCell (Nat.le_refl _) _).setCell (Nat.le_refl _) _

set_option maxRecDepth 100000 in
set_option maxHeartbeats 1000000 in
theorem number_nb (s : ByteArray) (w : World) (hs : s.size ≤ 1000000) (n : Nat) (hn : runL digitB s.data.toList = n) (hE : Env w) (hlt : n < s.size) (hd : s[n].toNat ≠ 46) (hl : letterB s[n] = true) (v : Nat) (ha : ∀ w, 3 ≤ w.heap.size → Env w → Calls Tryd.prog 48 #[.string (s.extract 0 n)] w fun e w' => e = .returned (.tuple #[.int .i64 v, .bool true]) ∧ Below w.heap.size w w') :
    Calls Tryd.prog 40 #[.string s] w fun e w' => e = .returned (.tuple #[.agg #[.int .i64 0, .string ⟨#[]⟩, .int .i64 0, .int .i64 0, .bool false], .int .i64 0, .int .i64 24]) ∧ Below w.heap.size w w' := by
  have hE1 : Env (w.alloc (.cells #[.int .i64 0, .string ⟨#[]⟩, .int .i64 0, .int .i64 0, .bool false] 30)) := hE.kept ((Below.refl _ w).alloc (Nat.le_refl _) _)
  have HA := Lib.hid (ha _ hE1.size hE1)
  have HR := run29_any s
  rw [hn] at HR
  have HR := Lib.hid (fun w => HR w (by unfold maxLen; omega))
  have hle : n ≤ s.size := by omega
  have hx0 : 0 < (s.extract n s.size).size := by rw [ext_size]; omega
  have hx1 : (0 : Int) < ((s.extract n s.size).size : Int) := by omega
  have hE0 := empty_no (s.extract n s.size) hx0
  have hd2 : (((s.extract n s.size)[0].toNat : Int) == 46) = false := by rw [ext_head s n hlt hx0]; simp; omega
  have HLt := letter_any (s.extract n s.size)[0]
  rw [ext_head s n hlt hx0, hl] at HLt
  rw [← ext_head s n hlt hx0] at HLt
  have HLt := Lib.hid HLt
  clear hl
  have hx2 : 0 < s.size - n := by omega
  clear hd hE hE1 ha hn
  go_enter Tryd.func40, Tryd.ntmps40
  go_wp2_with (first | (go_at_call 23; refine (HR.out _).mono ?_; rintro e w' ⟨rfl, rfl⟩) | (go_at_call 48; refine HA.out.mono ?_; rintro e w1 ⟨rfl, hb⟩; have hblk1 : w1.heap[w.heap.size]? = some (.cells #[.int .i64 0, .string ⟨#[]⟩, .int .i64 0, .int .i64 0, .bool false] 30 (0, 0)) := (hb.block w.heap.size (by simp)).trans (heap_alloc_new w _); have hz1 := hb.size; (try simp only [World.size_alloc] at hz1); have c0 : w1.cell? ⟨w.heap.size, 0, none⟩ = some (.int .i64 0) := cell_of_row w1 w.heap.size 0 _ _ _ hblk1; have c1 : w1.cell? ⟨w.heap.size, 1, none⟩ = some (.string ⟨#[]⟩) := cell_of_row w1 w.heap.size 1 _ _ _ hblk1; have c2 : w1.cell? ⟨w.heap.size, 2, none⟩ = some (.int .i64 0) := cell_of_row w1 w.heap.size 2 _ _ _ hblk1; have c3 : w1.cell? ⟨w.heap.size, 3, none⟩ = some (.int .i64 0) := cell_of_row w1 w.heap.size 3 _ _ _ hblk1; have c4 : w1.cell? ⟨w.heap.size, 4, none⟩ = some (.bool false) := cell_of_row w1 w.heap.size 4 _ _ _ hblk1; have f0 := fun j => frozen_of_row w1 w.heap.size j _ _ hblk1; clear hblk1) | (go_at_call 22; refine (HLt.out _).mono ?_; rintro e w' ⟨rfl, rfl⟩))
  refine bodyPost_ret (v := .tuple #[.agg #[.int .i64 0, .string ⟨#[]⟩, .int .i64 0, .int .i64 0, .bool false], .int .i64 0, .int .i64 24]) (by simp [results, Tryd.results40, go_sem, c0, c1, c2, c3, c4]) rfl ⟨rfl, ?_⟩
  exact ((((((((Below.refl _ w).alloc (Nat.le_refl _) _).trans (hb.mono (by simp)))).setCell (Nat.le_refl _) _).setCell (Nat.le_refl _) _).setCell (Nat.le_refl _) _).setCell (Nat.le_refl _) _).setCell (Nat.le_refl _) _

set_option maxRecDepth 100000 in
set_option maxHeartbeats 1000000 in
theorem number_nc (s : ByteArray) (w : World) (hs : s.size ≤ 1000000) (n : Nat) (hn : runL digitB s.data.toList = n) (hE : Env w) (hlt : n < s.size) (hd : s[n].toNat ≠ 46) (hl : letterB s[n] = false) (v : Nat) (ha : ∀ w, 3 ≤ w.heap.size → Env w → Calls Tryd.prog 48 #[.string (s.extract 0 n)] w fun e w' => e = .returned (.tuple #[.int .i64 v, .bool true]) ∧ Below w.heap.size w w') :
    Calls Tryd.prog 40 #[.string s] w fun e w' => e = .returned (.tuple #[.agg #[.int .i64 3, .string ⟨#[]⟩, .int .i64 v, .int .i64 0, .bool false], .int .i64 n, .int .i64 0]) ∧ Below w.heap.size w w' := by
  have hE1 : Env (w.alloc (.cells #[.int .i64 0, .string ⟨#[]⟩, .int .i64 0, .int .i64 0, .bool false] 30)) := hE.kept ((Below.refl _ w).alloc (Nat.le_refl _) _)
  have HA := Lib.hid (ha _ hE1.size hE1)
  have HR := run29_any s
  rw [hn] at HR
  have HR := Lib.hid (fun w => HR w (by unfold maxLen; omega))
  have hle : n ≤ s.size := by omega
  have hx0 : 0 < (s.extract n s.size).size := by rw [ext_size]; omega
  have hx1 : (0 : Int) < ((s.extract n s.size).size : Int) := by omega
  have hE0 := empty_no (s.extract n s.size) hx0
  have hd2 : (((s.extract n s.size)[0].toNat : Int) == 46) = false := by rw [ext_head s n hlt hx0]; simp; omega
  have HLt := letter_any (s.extract n s.size)[0]
  rw [ext_head s n hlt hx0, hl] at HLt
  rw [← ext_head s n hlt hx0] at HLt
  have HLt := Lib.hid HLt
  clear hl
  have hx2 : 0 < s.size - n := by omega
  clear hd hE hE1 ha hn
  go_enter Tryd.func40, Tryd.ntmps40
  go_wp2_with (first | (go_at_call 23; refine (HR.out _).mono ?_; rintro e w' ⟨rfl, rfl⟩) | (go_at_call 48; refine HA.out.mono ?_; rintro e w1 ⟨rfl, hb⟩; have hblk1 : w1.heap[w.heap.size]? = some (.cells #[.int .i64 0, .string ⟨#[]⟩, .int .i64 0, .int .i64 0, .bool false] 30 (0, 0)) := (hb.block w.heap.size (by simp)).trans (heap_alloc_new w _); have hz1 := hb.size; (try simp only [World.size_alloc] at hz1); have c0 : w1.cell? ⟨w.heap.size, 0, none⟩ = some (.int .i64 0) := cell_of_row w1 w.heap.size 0 _ _ _ hblk1; have c1 : w1.cell? ⟨w.heap.size, 1, none⟩ = some (.string ⟨#[]⟩) := cell_of_row w1 w.heap.size 1 _ _ _ hblk1; have c2 : w1.cell? ⟨w.heap.size, 2, none⟩ = some (.int .i64 0) := cell_of_row w1 w.heap.size 2 _ _ _ hblk1; have c3 : w1.cell? ⟨w.heap.size, 3, none⟩ = some (.int .i64 0) := cell_of_row w1 w.heap.size 3 _ _ _ hblk1; have c4 : w1.cell? ⟨w.heap.size, 4, none⟩ = some (.bool false) := cell_of_row w1 w.heap.size 4 _ _ _ hblk1; have f0 := fun j => frozen_of_row w1 w.heap.size j _ _ hblk1; clear hblk1) | (go_at_call 22; refine (HLt.out _).mono ?_; rintro e w' ⟨rfl, rfl⟩))
  refine bodyPost_ret (v := .tuple #[.agg #[.int .i64 3, .string ⟨#[]⟩, .int .i64 v, .int .i64 0, .bool false], .int .i64 n, .int .i64 0]) (by simp [results, Tryd.results40, go_sem, c0, c1, c2, c3, c4]) rfl ⟨rfl, ?_⟩
  exact ((((((((Below.refl _ w).alloc (Nat.le_refl _) _).trans (hb.mono (by simp)))).setCell (Nat.le_refl _) _).setCell (Nat.le_refl _) _).setCell (Nat.le_refl _) _).setCell (Nat.le_refl _) _).setCell (Nat.le_refl _) _

theorem mem_tw (p : UInt8 → Bool) : ∀ (l : Bs) (c : UInt8), c ∈ l.takeWhile p → p c = true
  | [], _, h => by cases h
  | x :: r, c, h => by
    rw [List.takeWhile_cons] at h
    by_cases hx : p x = true
    · rw [if_pos hx] at h
      rcases List.mem_cons.1 h with rfl | h
      · exact hx
      · exact mem_tw p r c h
    · rw [if_neg hx] at h
      cases h
theorem head_at (s : ByteArray) (n : Nat) (h : n < s.size) : (s.data.toList.drop n).head? = some s[n] := by rw [drop_toList s n h]; rfl
theorem head_end (s : ByteArray) (n : Nat) (h : n = s.size) : (s.data.toList.drop n).head? = none := by rw [List.drop_eq_nil_of_le (by rw [len_toList]; omega)]; rfl

theorem number_any (s : ByteArray) (w : World) (hE : Env w) (hs : s.size ≤ 1000000) (h0 : 0 < s.size) (hd0 : digitB s[0] = true) :
    Calls Tryd.prog 40 #[.string s] w fun e w' => e = .returned (oneV (numberL s.data.toList)) ∧ Below w.heap.size w w' := by
  obtain ⟨n, hn⟩ : ∃ n, runL digitB s.data.toList = n := ⟨_, rfl⟩
  have hle : n ≤ s.size := by rw [← hn, ← len_toList]; exact runL_le _ _
  have hpos : 0 < n := by
    rw [← hn]
    have hd := drop_toList s 0 h0
    rw [List.drop_zero] at hd
    unfold runL
    rw [hd, List.takeWhile_cons, if_pos hd0]
    simp
  have htk : s.data.toList.take n = s.data.toList.takeWhile digitB := by
    rw [← hn]
    unfold runL
    exact (List.prefix_iff_eq_take.1 (List.takeWhile_prefix digitB)).symm
  have hdig : ∀ c ∈ s.data.toList.take n, digitB c = true := fun c hc => by
    rw [htk] at hc
    exact mem_tw _ _ c hc
  have ha : ∀ w, Env w → Calls Tryd.prog 48 #[.string (s.extract 0 n)] w fun e w' => e = .returned (amV (amountL (s.data.toList.take n))) ∧ Below w.heap.size w w' := fun w hE => by
    have := amount_any (s.extract 0 n) w hE (by rw [ext0_size s n hle]; omega) (by rw [ext0_size s n hle]; omega) (by rw [ext_take]; exact hdig)
    rw [ext_take] at this
    exact this
  cases hA : amountL (s.data.toList.take n) with
  | none =>
    rw [hA] at ha
    by_cases he : n = s.size
    · have e : numberL s.data.toList = ⟨.zero, 0, 24⟩ := by
        unfold numberL
        rw [hn, head_end s n he, if_neg (by simp), hA]
      rw [e]
      exact number_ea s w hs n hn hE he (fun w _ h => ha w h)
    · have hlt : n < s.size := by omega
      by_cases hd : s[n].toNat = 46
      · have e : numberL s.data.toList = ⟨.zero, 0, 25⟩ := by
          unfold numberL
          rw [hn, head_at s n hlt, if_pos]
          rw [show s[n] = 46 from UInt8.toNat_inj.1 hd]
        rw [e]
        exact number_da s w hs n hn hE hlt hd (fun w _ h => ha w h)
      · have e : numberL s.data.toList = ⟨.zero, 0, 24⟩ := by
          unfold numberL
          rw [hn, head_at s n hlt, if_neg (fun h => hd (by injection h with h; rw [h]; rfl)), hA]
        rw [e]
        exact number_na s w hs n hn hE hlt hd (fun w _ h => ha w h)
  | some v =>
    rw [hA] at ha
    by_cases he : n = s.size
    · have e : numberL s.data.toList = ⟨⟨3, [], v, 0, false⟩, n, 0⟩ := by
        unfold numberL
        rw [hn, head_end s n he, if_neg (by simp), hA]
        rfl
      rw [e]
      exact number_eb s w hs n hn hE he v (fun w _ h => ha w h)
    · have hlt : n < s.size := by omega
      by_cases hd : s[n].toNat = 46
      · have e : numberL s.data.toList = ⟨.zero, 0, 25⟩ := by
          unfold numberL
          rw [hn, head_at s n hlt, if_pos]
          rw [show s[n] = 46 from UInt8.toNat_inj.1 hd]
        rw [e]
        exact number_db s w hs n hn hE hlt hd v (fun w _ h => ha w h)
      · cases hl : letterB s[n] with
        | true =>
          have e : numberL s.data.toList = ⟨.zero, 0, 24⟩ := by
            unfold numberL
            rw [hn, head_at s n hlt, if_neg (fun h => hd (by injection h with h; rw [h]; rfl)), hA]
            simp [hl]
          rw [e]
          exact number_nb s w hs n hn hE hlt hd hl v (fun w _ h => ha w h)
        | false =>
          have e : numberL s.data.toList = ⟨⟨3, [], v, 0, false⟩, n, 0⟩ := by
            unfold numberL
            rw [hn, head_at s n hlt, if_neg (fun h => hd (by injection h with h; rw [h]; rfl)), hA]
            simp [hl]
          rw [e]
          exact number_nc s w hs n hn hE hlt hd hl v (fun w _ h => ha w h)
end Go.Proofs.YtfjfbpmlohgghaaDoor
