/- jlex.text: what stands in quotes. -/
import Derived.Test.YtfjfbpmlohgghaaDoorSaid
import Derived.Deep.OwnRows
import Derived.Maps.AppendAt
import Derived.OwnWalk
namespace Go.Proofs.YtfjfbpmlohgghaaDoor
open Go.RowKit Go.Proofs

/-- A token as the program has it. -/
def tokV (t : Tok) : Value := .agg #[.int .i64 t.kind, .string (bs t.s), .int .i64 t.n, .int .i64 t.line, .bool t.nl]
def oneV (o : One) : Value := .tuple #[tokV o.t, .int .i64 o.len, .int .i64 o.e]

theorem info5 : (Tryd.prog.info? 5).map (fun i => (i.zero, i.size, i.bytes)) = some (some (.int .u8 0), 1, 1) := by kernel_rfl
theorem byteRow_str {W : World} {B : Nat} {v : Value} {l : Bs} (h : W.ownsRow B 5 1 v l.length (Lib.byteCells l)) : (convert 31 9 v).run Tryd.prog W = .ok (.string (bs l)) W := by
  rcases h.2 with ⟨rfl, h0⟩ | ⟨g, cap, cur, rfl, _, _, _, _, _, _⟩
  · obtain rfl : l = [] := List.eq_nil_of_length_eq_zero h0
    rw [run_convert_bytes_string W 31 9 5 none 0 0 Tryd.underlying31 Tryd.underlying5 Tryd.underlying9]
    rfl
  · exact run_convert_bytes_back W 31 9 5 ⟨g, 0, none⟩ cap l Tryd.underlying31 Tryd.underlying5 Tryd.underlying9 (fun j hj => h.cells (g := g) rfl j _ (by simp [Lib.byteCells, hj]))

theorem quoted_end (q : UInt8) : quotedL q [] = none := by rw [quotedL]
theorem quoted_close (q : UInt8) (r : Bs) : quotedL q (q :: r) = some ([], 1) := by rw [quotedL, if_pos rfl]
theorem quoted_bad {q c : UInt8} {r : Bs} (h : c ≠ q) (hs : (saidL (c :: r)).2 = 0) : quotedL q (c :: r) = none := by
  rw [quotedL, if_neg h]
  split
  · rfl
  · rename_i b n hb; rw [hb] at hs; cases hs
theorem quoted_more {q c : UInt8} {r : Bs} (h : c ≠ q) (hs : (saidL (c :: r)).2 ≠ 0) :
    quotedL q (c :: r) = (quotedL q ((c :: r).drop (saidL (c :: r)).2)).map fun o => ((saidL (c :: r)).1 :: o.1, (saidL (c :: r)).2 + o.2) := by
  rw [quotedL, if_neg h]
  split
  · rename_i b hb; rw [hb] at hs; exact absurd rfl hs
  · rename_i b n hb; rw [hb]; simp

theorem ownsRow_below {W W' : World} {base e size n : Nat} {v : Value} {xs : List Value} (h : W.ownsRow base e size v n xs) (hb : Below W.heap.size W W') : W'.ownsRow base e size v n xs := by
  refine ⟨h.1, ?_⟩
  rcases h.2 with h | ⟨g, cap, cur, rfl, h1, h2, h3⟩
  · exact .inl h
  · exact .inr ⟨g, cap, cur, rfl, h1, (hb.block g (Array.getElem?_eq_some_iff.1 h2).1).trans h2, h3⟩
theorem ext_drop (s : ByteArray) (k : Nat) : (s.extract k s.size).data.toList = s.data.toList.drop k := by
  rw [← Lib.toList_data, Lib.extract_toList, List.take_of_length_le (by rw [List.length_drop, len_toList]; omega)]
theorem ext_take (s : ByteArray) (k : Nat) : (s.extract 0 k).data.toList = s.data.toList.take k := by
  rw [← Lib.toList_data, Lib.extract_toList]
  simp
theorem ext_size (s : ByteArray) (k : Nat) : (s.extract k s.size).size = s.size - k := by
  rw [← len_toList, ext_drop, List.length_drop, len_toList]
theorem hexL_len (l : Bs) : (hexL l).2 ≤ l.length := by
  unfold hexL
  split
  · split
    · simp
    · simp
  · simp
theorem saidL_len (l : Bs) (h : 0 < l.length) : (saidL l).2 ≤ l.length := by
  unfold saidL
  split
  · rename_i hp; exact prefix_len hp
  · split
    · rename_i hp; exact prefix_len hp
    · split
      · rename_i hl
        rcases longestL_mem l [[92, 92], [92, 34], [92, 39]] with h | ⟨h, h'⟩
        · rw [h] at hl; simp at hl
        · have := prefix_len h'
          have e : (longestL l [[92, 92], [92, 34], [92, 39]]).length = 2 := by
            rcases List.mem_cons.1 h with h | h
            · rw [h]; rfl
            · rcases List.mem_cons.1 h with h | h
              · rw [h]; rfl
              · rw [List.mem_singleton.1 h]; rfl
          show 2 ≤ _
          omega
      · split
        · exact hexL_len l
        · split
          · simp
          · exact h
/-- So far so good: what was said ahead of this place, and how far it is. -/
def QAt (l : Bs) (q : UInt8) (at_ : Nat) (out : Bs) : Prop := quotedL q (l.drop 1) = (quotedL q (l.drop at_)).map fun o => (out ++ o.1, (at_ - 1) + o.2)

theorem QAt.step {l : Bs} {q : UInt8} {k n : Nat} {out : Bs} {c : UInt8} (h : QAt l q k out) (hk : 1 ≤ k) (e : quotedL q (l.drop k) = (quotedL q (l.drop (k + n))).map fun o => (c :: o.1, n + o.2)) : QAt l q (k + n) (out ++ [c]) := by
  unfold QAt at *
  rw [h, e]
  cases quotedL q (l.drop (k + n)) with
  | none => rfl
  | some o => simp; omega
theorem textL_none {s : ByteArray} (h0 : 0 < s.size) {k : Nat} {out : Bs} (h : QAt s.data.toList s[0] k out) (e : quotedL s[0] (s.data.toList.drop k) = none) : textL s.data.toList = ⟨.zero, 0, 22⟩ := by
  have hd := drop_toList s 0 h0
  rw [List.drop_zero] at hd
  unfold QAt at h
  rw [e] at h
  rw [hd]
  unfold textL
  simp only [Nat.zero_add]
  rw [h]
  rfl
theorem textL_some {s : ByteArray} (h0 : 0 < s.size) {k : Nat} {out : Bs} (hk : 1 ≤ k) (h : QAt s.data.toList s[0] k out) (e : quotedL s[0] (s.data.toList.drop k) = some ([], 1)) : textL s.data.toList = ⟨⟨4, out, 0, 0, false⟩, k + 1, 0⟩ := by
  have hd := drop_toList s 0 h0
  rw [List.drop_zero] at hd
  unfold QAt at h
  rw [e] at h
  rw [hd]
  unfold textL
  simp only [Nat.zero_add]
  rw [h]
  simp
  omega

set_option maxRecDepth 100000 in
set_option maxHeartbeats 4000000 in
theorem text_any (s : ByteArray) (w : World) (hs : s.size ≤ 1000000) (h0 : 0 < s.size) :
    Calls Tryd.prog 41 #[.string s] w fun e w' => e = .returned (oneV (textL s.data.toList)) ∧ Below w.heap.size w w' := by
  obtain ⟨i0, hi, hz0, hz1, hz2⟩ := info_parts info5
  have HI := Lib.hid (And.intro hi (And.intro hz0 (And.intro hz1 hz2)))
  clear hi hz0 hz1 hz2
  go_enter Tryd.func41, Tryd.ntmps41
  go_wp2
  go_loopw [5, 6] (fun vo va wr => ∃ (k : Nat) (out : Bs), va = .int .i64 k ∧ 1 ≤ k ∧ k ≤ s.size ∧ out.length ≤ k ∧ QAt s.data.toList s[0] k out ∧ wr.ownsRow (w.heap.size + 1) 5 1 vo out.length (Lib.byteCells out) ∧
      wr.heap[w.heap.size]? = some (.cells #[.int .i64 0, .string ⟨#[]⟩, .int .i64 0, .int .i64 0, .bool false] 30 (0, 0)) ∧ Below w.heap.size w wr ∧ w.heap.size + 1 ≤ wr.heap.size) (fun _ va _ => s.size - (intOf va).toNat)
  case atStart => exact ⟨1, [], rfl, by omega, by omega, by simp, by simp [QAt], World.ownsRow_nil _ _ _ _, heap_alloc_new w _, (Below.refl _ w).alloc (Nat.le_refl _) _, by simp⟩
  case round =>
    obtain ⟨k, out, rfl, hk1, hk2, ho, hq, hrow, hblk, hB, hsz⟩ := hrel
    have HQ := Lib.hid hq
    clear hq
    by_cases hlt : k < s.size
    · have g0 : (0 : Int) < s.size := by omega
      have gk : (k : Int) < s.size := by omega
      have hd := Lib.hid (drop_toList s k hlt)
      by_cases hc : s[k] = s[0]
      · have hcv := fun j => byteRow_str (W := wr.drewN j) hrow
        have c0 : wr.cell? ⟨w.heap.size, 0, none⟩ = some (.int .i64 0) := cell_of_row wr w.heap.size 0 _ _ _ hblk
        have c1 : wr.cell? ⟨w.heap.size, 1, none⟩ = some (.string ⟨#[]⟩) := cell_of_row wr w.heap.size 1 _ _ _ hblk
        have c2 : wr.cell? ⟨w.heap.size, 2, none⟩ = some (.int .i64 0) := cell_of_row wr w.heap.size 2 _ _ _ hblk
        have c3 : wr.cell? ⟨w.heap.size, 3, none⟩ = some (.int .i64 0) := cell_of_row wr w.heap.size 3 _ _ _ hblk
        have c4 : wr.cell? ⟨w.heap.size, 4, none⟩ = some (.bool false) := cell_of_row wr w.heap.size 4 _ _ _ hblk
        have f0 := fun j => frozen_of_row wr w.heap.size j _ _ hblk
        have HC := Lib.hid hc
        have e1 : ((s[k].toNat : Int) == (s[0].toNat : Int)) = true := by rw [hc]; simp
        clear hc
        go_wp2
        go_quiet (fail)
        go_wp2
        refine bodyPost_ret (v := .tuple #[.agg #[.int .i64 4, .string (bs out), .int .i64 0, .int .i64 0, .bool false], .int .i64 (↑k + 1), .int .i64 0]) (by simp [results, Tryd.results41, go_sem, c0, c1, c2, c3, c4]) rfl ⟨?_, ?_⟩
        · rw [textL_some h0 hk1 HQ.out (by rw [hd.out, HC.out]; exact quoted_close _ _)]
          rfl
        · exact (((((Drewn.below ⟨_, rfl⟩ : Below wr.heap.size wr (wr.drewN nq)).mono hB.size |> hB.trans).setCell (Nat.le_refl _) _).setCell (Nat.le_refl _) _).setCell (Nat.le_refl _) _).setCell (Nat.le_refl _) _ |>.setCell (Nat.le_refl _) _
      · obtain ⟨⟨c, n⟩, hsd⟩ : ∃ d, saidL (s.data.toList.drop k) = d := ⟨_, rfl⟩
        have hsl := saidL_len (s.data.toList.drop k) (by rw [List.length_drop, len_toList]; omega)
        rw [hsd, List.length_drop, len_toList] at hsl
        have hSD := fun w => said_any (s.extract k s.size) w (by rw [ext_size]; unfold maxLen; omega) (by rw [ext_size]; omega)
        rw [ext_drop, hsd] at hSD
        have e1 : ((s[k].toNat : Int) == (s[0].toNat : Int)) = false := by
          rw [Bool.eq_false_iff]
          simp
          intro h
          exact hc (UInt8.toNat_inj.1 (by omega))
        by_cases hn : n = 0
        · subst hn
          have HB := Lib.hid (And.intro hc (And.intro hsd hd.out))
          have hSD : ∀ w, Calls Tryd.prog 49 #[.string (s.extract k s.size)] w fun e w' => e = .returned (.tuple #[.int .u8 c.toNat, .int .i64 0]) ∧ Below w.heap.size w w' := hSD
          have HS := Lib.hid hSD
          clear hc hsd hSD hsl
          go_wp2
          go_quiet (fail)
          go_wp2_with (go_at_call 49; refine (HS.out _).mono ?_; rintro e w1 ⟨rfl, hb1⟩; have hb2 : Below wr.heap.size wr w1 := (Drewn.below ⟨_, rfl⟩ : Below wr.heap.size wr (wr.drewN nq)).trans hb1; have hblk1 := (hb2.block w.heap.size (by omega)).trans hblk; have c0 : w1.cell? ⟨w.heap.size, 0, none⟩ = some (.int .i64 0) := cell_of_row w1 w.heap.size 0 _ _ _ hblk1; have c1 : w1.cell? ⟨w.heap.size, 1, none⟩ = some (.string ⟨#[]⟩) := cell_of_row w1 w.heap.size 1 _ _ _ hblk1; have c2 : w1.cell? ⟨w.heap.size, 2, none⟩ = some (.int .i64 0) := cell_of_row w1 w.heap.size 2 _ _ _ hblk1; have c3 : w1.cell? ⟨w.heap.size, 3, none⟩ = some (.int .i64 0) := cell_of_row w1 w.heap.size 3 _ _ _ hblk1; have c4 : w1.cell? ⟨w.heap.size, 4, none⟩ = some (.bool false) := cell_of_row w1 w.heap.size 4 _ _ _ hblk1; have f0 := fun j => frozen_of_row w1 w.heap.size j _ _ hblk1)
          refine bodyPost_ret (v := .tuple #[.agg #[.int .i64 0, .string ⟨#[]⟩, .int .i64 0, .int .i64 0, .bool false], .int .i64 0, .int .i64 22]) (by simp [results, Tryd.results41, go_sem, c0, c1, c2, c3, c4]) rfl ⟨?_, ?_⟩
          · rw [textL_none h0 HQ.out (by rw [HB.out.2.2]; exact quoted_bad HB.out.1 (by rw [← HB.out.2.2, HB.out.2.1]))]
            rfl
          · exact (((((hB.trans (hb2.mono hB.size)).setCell (Nat.le_refl _) _).setCell (Nat.le_refl _) _).setCell (Nat.le_refl _) _).setCell (Nat.le_refl _) _).setCell (Nat.le_refl _) _
        · have HB := Lib.hid (And.intro hc (And.intro hsd hd.out))
          have e2 : ((n : Int) == 0) = false := by simpa using hn
          have hSD : ∀ w, Calls Tryd.prog 49 #[.string (s.extract k s.size)] w fun e w' => e = .returned (.tuple #[.int .u8 c.toNat, .int .i64 n]) ∧ Below w.heap.size w w' := hSD
          have HS := Lib.hid hSD
          have HO := Lib.hid ho
          have hlen : out.length + 1 ≤ 1000001 := by omega
          have hn1 : 1 ≤ n := by omega
          clear hc hsd hSD ho hn
          go_wp2
          go_quiet (fail)
          go_wp2_with (first | (go_at_call 49; refine (HS.out _).mono ?_; rintro e w1 ⟨rfl, hb1⟩; have hb2 : Below wr.heap.size wr w1 := (Drewn.below ⟨_, rfl⟩ : Below wr.heap.size wr (wr.drewN nq)).trans hb1; have hrow1 := ownsRow_below hrow hb2; have hz2 := hb2.size) | (at_builtin; refine wpList_append_own _ rfl _ _ 31 rfl (w.heap.size + 1) 5 i0 (.int .u8 0) 1 1 Tryd.underlying31 HI.out.1 HI.out.2.1 HI.out.2.2.1 HI.out.2.2.2 rfl (by decide) _ _ _ rfl (hrow1.alloc _) ⟨w1.heap.size, 0, none⟩ 1 1 [.int .u8 c.toNat] rfl rfl (cell_one_new _ _ _) (by simp [Value.oneCell']) (by unfold maxLen; omega) (by omega) (by simp; omega) ?_; intro v' w2 hown' hgrow _; have HG := Lib.hid (And.intro hown' hgrow); clear hown' hgrow))
          go_roundw
          case rel =>
            have hg := HG.out.2
            have hown : ∀ r, u5.ownBlock = some r → w.heap.size + 1 ≤ r := fun r e => by
              rcases hrow.2 with ⟨rfl, _⟩ | ⟨g, cap, cur, rfl, h1, _⟩
              · simp [Value.ownBlock] at e
              · simp [Value.ownBlock] at e
                omega
            have hblk1 := (hb2.block w.heap.size (by omega)).trans hblk
            have hsz2 := hg.size
            rw [World.size_alloc] at hsz2
            refine ⟨k + n, out ++ [c], by go_num, by omega, by omega, by have := HO.out; simp; omega, HQ.out.step hk1 ?_, ?_, ?_, ?_, by omega⟩
            · rw [HB.out.2.2, quoted_more HB.out.1 (by rw [← HB.out.2.2, HB.out.2.1]; simp; omega), ← HB.out.2.2, HB.out.2.1]
              simp
            · have := HG.out.1
              simpa [Lib.byteCells] using this
            · rw [hg.block w.heap.size (by simp; omega) (fun e => by have := hown _ e.symm; omega)]
              rw [← hblk1]
              exact Below.heap_alloc w1 _ _ (by omega)
            · exact ((hB.trans (hb2.mono hB.size)).alloc (by omega) _).grown hg (by simp; omega) (fun r e => by have := hown r e; omega)
          case measure => simp [intOf]; omega
    · have c0 : wr.cell? ⟨w.heap.size, 0, none⟩ = some (.int .i64 0) := cell_of_row wr w.heap.size 0 _ _ _ hblk
      have c1 : wr.cell? ⟨w.heap.size, 1, none⟩ = some (.string ⟨#[]⟩) := cell_of_row wr w.heap.size 1 _ _ _ hblk
      have c2 : wr.cell? ⟨w.heap.size, 2, none⟩ = some (.int .i64 0) := cell_of_row wr w.heap.size 2 _ _ _ hblk
      have c3 : wr.cell? ⟨w.heap.size, 3, none⟩ = some (.int .i64 0) := cell_of_row wr w.heap.size 3 _ _ _ hblk
      have c4 : wr.cell? ⟨w.heap.size, 4, none⟩ = some (.bool false) := cell_of_row wr w.heap.size 4 _ _ _ hblk
      have f0 := fun j => frozen_of_row wr w.heap.size j _ _ hblk
      go_wp2
      refine bodyPost_ret (v := .tuple #[.agg #[.int .i64 0, .string ⟨#[]⟩, .int .i64 0, .int .i64 0, .bool false], .int .i64 0, .int .i64 22]) (by simp [results, Tryd.results41, go_sem, c0, c1, c2, c3, c4]) rfl ⟨?_, ?_⟩
      · rw [textL_none h0 HQ.out (by rw [List.drop_eq_nil_of_le (by rw [len_toList]; omega)]; exact quoted_end _)]
        rfl
      · exact ((((hB.setCell (Nat.le_refl _) _).setCell (Nat.le_refl _) _).setCell (Nat.le_refl _) _).setCell (Nat.le_refl _) _).setCell (Nat.le_refl _) _
end Go.Proofs.YtfjfbpmlohgghaaDoor
