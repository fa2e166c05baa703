/- jlex.first: the token that stands first. -/
import Derived.Test.YtfjfbpmlohgghaaDoorNamed
namespace Go.Proofs.YtfjfbpmlohgghaaDoor
open Go.RowKit Go.Proofs

set_option maxRecDepth 100000 in
set_option maxHeartbeats 2000000 in
theorem first_num (s : ByteArray) (m : Value) (w : World) (h0 : 0 < s.size) (hl : letterB s[0] = false) (hd : digitB s[0] = true) (o : One)
    (ho : ∀ w', Below w.heap.size w w' → Calls Tryd.prog 40 #[.string s] w' fun e w'' => e = .returned (oneV o) ∧ Below w'.heap.size w' w'') :
    Calls Tryd.prog 34 #[.string s, m] w fun e w' => e = .returned (oneV o) ∧ Below w.heap.size w w' := by
  obtain ⟨⟨kd, ts, nn, ln, nl⟩, len, er⟩ := o
  have HO := ho _ ((Below.refl _ w).alloc (Nat.le_refl _) (.cells #[.int .i64 0, .string ⟨#[]⟩, .int .i64 0, .int .i64 0, .bool false] 30))
  unfold oneV tokV at *
  have HO := Lib.hid HO
  have g0 : (0 : Int) < s.size := by omega
  have HL := letter_any s[0]
  rw [hl] at HL
  have HL := Lib.hid HL
  have HD := digit_any s[0]
  rw [hd] at HD
  have HD := Lib.hid HD
  clear ho hl hd
  go_enter Tryd.func34, Tryd.ntmps34
  go_wp2_with (first | (go_at_call 22; refine (HL.out _).mono ?_; rintro e w' ⟨rfl, rfl⟩) | (go_at_call 29; refine (HD.out _).mono ?_; rintro e w' ⟨rfl, rfl⟩) | (go_at_call 40; refine HO.out.mono ?_; rintro e w1 ⟨rfl, hb⟩; have hblk1 : w1.heap[w.heap.size]? = some (.cells #[.int .i64 0, .string ⟨#[]⟩, .int .i64 0, .int .i64 0, .bool false] 30 (0, 0)) := (hb.block w.heap.size (by simp)).trans (heap_alloc_new w _); have hz1 := hb.size; (try simp only [World.size_alloc] at hz1); have hz2 : w.heap.size < w1.heap.size := hz1; have c0 : w1.cell? ⟨w.heap.size, 0, none⟩ = some (.int .i64 0) := cell_of_row w1 w.heap.size 0 _ _ _ hblk1; have c1 : w1.cell? ⟨w.heap.size, 1, none⟩ = some (.string ⟨#[]⟩) := cell_of_row w1 w.heap.size 1 _ _ _ hblk1; have c2 : w1.cell? ⟨w.heap.size, 2, none⟩ = some (.int .i64 0) := cell_of_row w1 w.heap.size 2 _ _ _ hblk1; have c3 : w1.cell? ⟨w.heap.size, 3, none⟩ = some (.int .i64 0) := cell_of_row w1 w.heap.size 3 _ _ _ hblk1; have c4 : w1.cell? ⟨w.heap.size, 4, none⟩ = some (.bool false) := cell_of_row w1 w.heap.size 4 _ _ _ hblk1; have f0 := fun j => frozen_of_row w1 w.heap.size j _ _ hblk1; clear hblk1))
  refine bodyPost_ret (v := .tuple #[.agg #[.int .i64 kd, .string (bs ts), .int .i64 nn, .int .i64 ln, .bool nl], .int .i64 len, .int .i64 er]) (by simp [results, Tryd.results34, go_sem, c0, c1, c2, c3, c4]) rfl ⟨rfl, ?_⟩
  exact (((((((Below.refl _ w).alloc (Nat.le_refl _) _).trans (hb.mono (by simp))).setCell (Nat.le_refl _) _).setCell (Nat.le_refl _) _).setCell (Nat.le_refl _) _).setCell (Nat.le_refl _) _).setCell (Nat.le_refl _) _

set_option maxRecDepth 100000 in
set_option maxHeartbeats 2000000 in
theorem first_txa (s : ByteArray) (m : Value) (w : World) (h0 : 0 < s.size) (hl : letterB s[0] = false) (hd : digitB s[0] = false) (hq : s[0].toNat = 34) (o : One)
    (ho : ∀ w', Below w.heap.size w w' → Calls Tryd.prog 41 #[.string s] w' fun e w'' => e = .returned (oneV o) ∧ Below w'.heap.size w' w'') :
    Calls Tryd.prog 34 #[.string s, m] w fun e w' => e = .returned (oneV o) ∧ Below w.heap.size w w' := by
  obtain ⟨⟨kd, ts, nn, ln, nl⟩, len, er⟩ := o
  have HO := ho _ ((Below.refl _ w).alloc (Nat.le_refl _) (.cells #[.int .i64 0, .string ⟨#[]⟩, .int .i64 0, .int .i64 0, .bool false] 30))
  unfold oneV tokV at *
  have HO := Lib.hid HO
  have g0 : (0 : Int) < s.size := by omega
  have HL := letter_any s[0]
  rw [hl] at HL
  have HL := Lib.hid HL
  have HD := digit_any s[0]
  rw [hd] at HD
  have HD := Lib.hid HD
  have e1 : ((s[0].toNat : Int) == 34) = true := by simp; omega
  clear ho hl hd hq
  go_enter Tryd.func34, Tryd.ntmps34
  go_wp2_with (first | (go_at_call 22; refine (HL.out _).mono ?_; rintro e w' ⟨rfl, rfl⟩) | (go_at_call 29; refine (HD.out _).mono ?_; rintro e w' ⟨rfl, rfl⟩) | (go_at_call 41; refine HO.out.mono ?_; rintro e w1 ⟨rfl, hb⟩; have hblk1 : w1.heap[w.heap.size]? = some (.cells #[.int .i64 0, .string ⟨#[]⟩, .int .i64 0, .int .i64 0, .bool false] 30 (0, 0)) := (hb.block w.heap.size (by simp)).trans (heap_alloc_new w _); have hz1 := hb.size; (try simp only [World.size_alloc] at hz1); have hz2 : w.heap.size < w1.heap.size := hz1; have c0 : w1.cell? ⟨w.heap.size, 0, none⟩ = some (.int .i64 0) := cell_of_row w1 w.heap.size 0 _ _ _ hblk1; have c1 : w1.cell? ⟨w.heap.size, 1, none⟩ = some (.string ⟨#[]⟩) := cell_of_row w1 w.heap.size 1 _ _ _ hblk1; have c2 : w1.cell? ⟨w.heap.size, 2, none⟩ = some (.int .i64 0) := cell_of_row w1 w.heap.size 2 _ _ _ hblk1; have c3 : w1.cell? ⟨w.heap.size, 3, none⟩ = some (.int .i64 0) := cell_of_row w1 w.heap.size 3 _ _ _ hblk1; have c4 : w1.cell? ⟨w.heap.size, 4, none⟩ = some (.bool false) := cell_of_row w1 w.heap.size 4 _ _ _ hblk1; have f0 := fun j => frozen_of_row w1 w.heap.size j _ _ hblk1; clear hblk1))
  refine bodyPost_ret (v := .tuple #[.agg #[.int .i64 kd, .string (bs ts), .int .i64 nn, .int .i64 ln, .bool nl], .int .i64 len, .int .i64 er]) (by simp [results, Tryd.results34, go_sem, c0, c1, c2, c3, c4]) rfl ⟨rfl, ?_⟩
  exact (((((((Below.refl _ w).alloc (Nat.le_refl _) _).trans (hb.mono (by simp))).setCell (Nat.le_refl _) _).setCell (Nat.le_refl _) _).setCell (Nat.le_refl _) _).setCell (Nat.le_refl _) _).setCell (Nat.le_refl _) _

set_option maxRecDepth 100000 in
set_option maxHeartbeats 2000000 in
theorem first_txb (s : ByteArray) (m : Value) (w : World) (h0 : 0 < s.size) (hl : letterB s[0] = false) (hd : digitB s[0] = false) (hq : s[0].toNat = 39) (o : One)
    (ho : ∀ w', Below w.heap.size w w' → Calls Tryd.prog 41 #[.string s] w' fun e w'' => e = .returned (oneV o) ∧ Below w'.heap.size w' w'') :
    Calls Tryd.prog 34 #[.string s, m] w fun e w' => e = .returned (oneV o) ∧ Below w.heap.size w w' := by
  obtain ⟨⟨kd, ts, nn, ln, nl⟩, len, er⟩ := o
  have HO := ho _ ((Below.refl _ w).alloc (Nat.le_refl _) (.cells #[.int .i64 0, .string ⟨#[]⟩, .int .i64 0, .int .i64 0, .bool false] 30))
  unfold oneV tokV at *
  have HO := Lib.hid HO
  have g0 : (0 : Int) < s.size := by omega
  have HL := letter_any s[0]
  rw [hl] at HL
  have HL := Lib.hid HL
  have HD := digit_any s[0]
  rw [hd] at HD
  have HD := Lib.hid HD
  have e1 : ((s[0].toNat : Int) == 34) = false := by simp; omega
  have e2 : ((s[0].toNat : Int) == 39) = true := by simp; omega
  clear ho hl hd hq
  go_enter Tryd.func34, Tryd.ntmps34
  go_wp2_with (first | (go_at_call 22; refine (HL.out _).mono ?_; rintro e w' ⟨rfl, rfl⟩) | (go_at_call 29; refine (HD.out _).mono ?_; rintro e w' ⟨rfl, rfl⟩) | (go_at_call 41; refine HO.out.mono ?_; rintro e w1 ⟨rfl, hb⟩; have hblk1 : w1.heap[w.heap.size]? = some (.cells #[.int .i64 0, .string ⟨#[]⟩, .int .i64 0, .int .i64 0, .bool false] 30 (0, 0)) := (hb.block w.heap.size (by simp)).trans (heap_alloc_new w _); have hz1 := hb.size; (try simp only [World.size_alloc] at hz1); have hz2 : w.heap.size < w1.heap.size := hz1; have c0 : w1.cell? ⟨w.heap.size, 0, none⟩ = some (.int .i64 0) := cell_of_row w1 w.heap.size 0 _ _ _ hblk1; have c1 : w1.cell? ⟨w.heap.size, 1, none⟩ = some (.string ⟨#[]⟩) := cell_of_row w1 w.heap.size 1 _ _ _ hblk1; have c2 : w1.cell? ⟨w.heap.size, 2, none⟩ = some (.int .i64 0) := cell_of_row w1 w.heap.size 2 _ _ _ hblk1; have c3 : w1.cell? ⟨w.heap.size, 3, none⟩ = some (.int .i64 0) := cell_of_row w1 w.heap.size 3 _ _ _ hblk1; have c4 : w1.cell? ⟨w.heap.size, 4, none⟩ = some (.bool false) := cell_of_row w1 w.heap.size 4 _ _ _ hblk1; have f0 := fun j => frozen_of_row w1 w.heap.size j _ _ hblk1; clear hblk1))
  refine bodyPost_ret (v := .tuple #[.agg #[.int .i64 kd, .string (bs ts), .int .i64 nn, .int .i64 ln, .bool nl], .int .i64 len, .int .i64 er]) (by simp [results, Tryd.results34, go_sem, c0, c1, c2, c3, c4]) rfl ⟨rfl, ?_⟩
  exact (((((((Below.refl _ w).alloc (Nat.le_refl _) _).trans (hb.mono (by simp))).setCell (Nat.le_refl _) _).setCell (Nat.le_refl _) _).setCell (Nat.le_refl _) _).setCell (Nat.le_refl _) _).setCell (Nat.le_refl _) _

set_option maxRecDepth 100000 in
set_option maxHeartbeats 2000000 in
theorem first_sig (s : ByteArray) (m : Value) (w : World) (h0 : 0 < s.size) (hl : letterB s[0] = false) (hd : digitB s[0] = false) (hq : s[0].toNat ≠ 34) (hq2 : s[0].toNat ≠ 39) (o : One)
    (ho : ∀ w', Below w.heap.size w w' → Calls Tryd.prog 42 #[.string s] w' fun e w'' => e = .returned (oneV o) ∧ Below w'.heap.size w' w'') :
    Calls Tryd.prog 34 #[.string s, m] w fun e w' => e = .returned (oneV o) ∧ Below w.heap.size w w' := by
  obtain ⟨⟨kd, ts, nn, ln, nl⟩, len, er⟩ := o
  have HO := ho _ ((Below.refl _ w).alloc (Nat.le_refl _) (.cells #[.int .i64 0, .string ⟨#[]⟩, .int .i64 0, .int .i64 0, .bool false] 30))
  unfold oneV tokV at *
  have HO := Lib.hid HO
  have g0 : (0 : Int) < s.size := by omega
  have HL := letter_any s[0]
  rw [hl] at HL
  have HL := Lib.hid HL
  have HD := digit_any s[0]
  rw [hd] at HD
  have HD := Lib.hid HD
  have e1 : ((s[0].toNat : Int) == 34) = false := by simp; omega
  have e2 : ((s[0].toNat : Int) == 39) = false := by simp; omega
  clear ho hl hd hq hq2
  go_enter Tryd.func34, Tryd.ntmps34
  go_wp2_with (first | (go_at_call 22; refine (HL.out _).mono ?_; rintro e w' ⟨rfl, rfl⟩) | (go_at_call 29; refine (HD.out _).mono ?_; rintro e w' ⟨rfl, rfl⟩) | (go_at_call 42; refine HO.out.mono ?_; rintro e w1 ⟨rfl, hb⟩; have hblk1 : w1.heap[w.heap.size]? = some (.cells #[.int .i64 0, .string ⟨#[]⟩, .int .i64 0, .int .i64 0, .bool false] 30 (0, 0)) := (hb.block w.heap.size (by simp)).trans (heap_alloc_new w _); have hz1 := hb.size; (try simp only [World.size_alloc] at hz1); have hz2 : w.heap.size < w1.heap.size := hz1; have c0 : w1.cell? ⟨w.heap.size, 0, none⟩ = some (.int .i64 0) := cell_of_row w1 w.heap.size 0 _ _ _ hblk1; have c1 : w1.cell? ⟨w.heap.size, 1, none⟩ = some (.string ⟨#[]⟩) := cell_of_row w1 w.heap.size 1 _ _ _ hblk1; have c2 : w1.cell? ⟨w.heap.size, 2, none⟩ = some (.int .i64 0) := cell_of_row w1 w.heap.size 2 _ _ _ hblk1; have c3 : w1.cell? ⟨w.heap.size, 3, none⟩ = some (.int .i64 0) := cell_of_row w1 w.heap.size 3 _ _ _ hblk1; have c4 : w1.cell? ⟨w.heap.size, 4, none⟩ = some (.bool false) := cell_of_row w1 w.heap.size 4 _ _ _ hblk1; have f0 := fun j => frozen_of_row w1 w.heap.size j _ _ hblk1; clear hblk1))
  refine bodyPost_ret (v := .tuple #[.agg #[.int .i64 kd, .string (bs ts), .int .i64 nn, .int .i64 ln, .bool nl], .int .i64 len, .int .i64 er]) (by simp [results, Tryd.results34, go_sem, c0, c1, c2, c3, c4]) rfl ⟨rfl, ?_⟩
  exact (((((((Below.refl _ w).alloc (Nat.le_refl _) _).trans (hb.mono (by simp))).setCell (Nat.le_refl _) _).setCell (Nat.le_refl _) _).setCell (Nat.le_refl _) _).setCell (Nat.le_refl _) _).setCell (Nat.le_refl _) _

set_option maxRecDepth 100000 in
set_option maxHeartbeats 2000000 in
theorem first_name (s : ByteArray) (b : Nat) (w : World) (h0 : 0 < s.size) (hl : letterB s[0] = true) (hs : s.size ≤ 1000000) (hW : WM w b wordsL) :
    Calls Tryd.prog 34 #[.string s, .map (some b)] w fun e w' => e = .returned (oneV (nameL s.data.toList)) ∧ Below w.heap.size w w' := by
  have HO := named_any s b (w.alloc (.cells #[.int .i64 0, .string ⟨#[]⟩, .int .i64 0, .int .i64 0, .bool false] 30)) (hW.below hW.lt ((Below.refl _ w).alloc (Nat.le_refl _) _)) hs
  have he : (nameL s.data.toList).e = 0 := rfl
  obtain ⟨⟨⟨kd, ts, nn, ln, nl⟩, len, er⟩, hn⟩ : ∃ o, nameL s.data.toList = o := ⟨_, rfl⟩
  rw [hn] at HO he ⊢
  have he : er = 0 := he
  subst he
  unfold oneV tokV at *
  have HO := Lib.hid HO
  have g0 : (0 : Int) < s.size := by omega
  have HL := letter_any s[0]
  rw [hl] at HL
  have HL := Lib.hid HL
  clear hl hn
  go_enter Tryd.func34, Tryd.ntmps34
  go_wp2_with (first | (go_at_call 22; refine (HL.out _).mono ?_; rintro e w' ⟨rfl, rfl⟩) | (go_at_call 39; refine HO.out.mono ?_; rintro e w1 ⟨rfl, hb⟩; have hblk1 : w1.heap[w.heap.size]? = some (.cells #[.int .i64 0, .string ⟨#[]⟩, .int .i64 0, .int .i64 0, .bool false] 30 (0, 0)) := (hb.block w.heap.size (by simp)).trans (heap_alloc_new w _); have hz1 := hb.size; (try simp only [World.size_alloc] at hz1); have hz2 : w.heap.size < w1.heap.size := hz1; have c0 : w1.cell? ⟨w.heap.size, 0, none⟩ = some (.int .i64 0) := cell_of_row w1 w.heap.size 0 _ _ _ hblk1; have c1 : w1.cell? ⟨w.heap.size, 1, none⟩ = some (.string ⟨#[]⟩) := cell_of_row w1 w.heap.size 1 _ _ _ hblk1; have c2 : w1.cell? ⟨w.heap.size, 2, none⟩ = some (.int .i64 0) := cell_of_row w1 w.heap.size 2 _ _ _ hblk1; have c3 : w1.cell? ⟨w.heap.size, 3, none⟩ = some (.int .i64 0) := cell_of_row w1 w.heap.size 3 _ _ _ hblk1; have c4 : w1.cell? ⟨w.heap.size, 4, none⟩ = some (.bool false) := cell_of_row w1 w.heap.size 4 _ _ _ hblk1; have f0 := fun j => frozen_of_row w1 w.heap.size j _ _ hblk1; clear hblk1))
  refine bodyPost_ret (v := .tuple #[.agg #[.int .i64 kd, .string (bs ts), .int .i64 nn, .int .i64 ln, .bool nl], .int .i64 len, .int .i64 0]) (by simp [results, Tryd.results34, go_sem, c0, c1, c2, c3, c4, hz2]) rfl ⟨rfl, ?_⟩
  exact ((((((((Below.refl _ w).alloc (Nat.le_refl _) _).trans (hb.mono (by simp))).setCell (Nat.le_refl _) _).setCell (Nat.le_refl _) _).setCell (Nat.le_refl _) _).setCell (Nat.le_refl _) _).setCell (Nat.le_refl _) _).alloc (by simp; omega) _

theorem first_any (s : ByteArray) (b : Nat) (w : World) (h0 : 0 < s.size) (hs : s.size ≤ 1000000) (hW : WM w b wordsL) (hE : Env w) :
    Calls Tryd.prog 34 #[.string s, .map (some b)] w fun e w' => e = .returned (oneV (firstL s.data.toList)) ∧ Below w.heap.size w w' := by
  unfold firstL
  rw [getD_at s 0 h0]
  cases hl : letterB s[0] with
  | true => rw [if_pos rfl]; exact first_name s b w h0 hl hs hW
  | false =>
    rw [if_neg (by simp)]
    cases hd : digitB s[0] with
    | true => rw [if_pos rfl]; exact first_num s _ w h0 hl hd _ (fun w' hb => number_any s w' (hE.kept hb) hs h0 hd)
    | false =>
      rw [if_neg (by simp)]
      by_cases h1 : s[0].toNat = 34
      · rw [if_pos (by simp [← UInt8.toNat_inj, h1])]
        exact first_txa s _ w h0 hl hd h1 _ (fun w' _ => text_any s w' hs h0)
      · by_cases h2 : s[0].toNat = 39
        · rw [if_pos (by simp [← UInt8.toNat_inj, h2])]
          exact first_txb s _ w h0 hl hd h2 _ (fun w' _ => text_any s w' hs h0)
        · rw [if_neg (by simp [← UInt8.toNat_inj, h1, h2])]
          exact first_sig s _ w h0 hl hd h1 h2 _ (fun w' _ => sign_any s w')
end Go.Proofs.YtfjfbpmlohgghaaDoor
