/- jtree.page: led. -/
import Derived.Test.YtiejpenffpjmeaaDoorList
namespace Go.Proofs.YtiejpenffpjmeaaDoor
open Go.RowKit Go.Proofs

/-- Each with a text ahead. -/
def ledL (s : Bs) (ts : List Bs) : Bs := ts.flatMap fun t => s ++ t
theorem ledL_next {s : Bs} {ts : List Bs} {n : Nat} {t : Bs} (ht : ts[n]? = some t) : ledL s (ts.take (n + 1)) = ledL s (ts.take n) ++ (s ++ t) := by
  rw [List.take_add_one, ht]
  simp [ledL]
theorem ledL_pre (s : Bs) (ts : List Bs) (n : Nat) : (ledL s (ts.take n)).length ≤ (ledL s ts).length := by
  have h : ledL s ts = ledL s (ts.take n) ++ ledL s (ts.drop n) := by
    unfold ledL
    rw [← List.flatMap_append, List.take_append_drop]
  rw [h, List.length_append]
  omega

set_option maxRecDepth 100000 in
set_option maxHeartbeats 4000000 in
theorem led_any (b k : Nat) (s : Bs) (xs : List Tr) (v : Value) (w : World) (l : Bs) (hx : Row w b xs v) (hp : PageAt w b l k) (hE : ∀ x ∈ xs, ExprOK x) (hk : k + sizes xs ≤ 100000)
    (hlen : (l ++ ledL s (xs.map (Tr.txt k))).length ≤ 100000000) (he : Env w) :
    Calls Tryd.prog 66 #[.pointer (some ⟨b, 0, none⟩), .string (bs s), v] w (Put b w (l ++ ledL s (xs.map (Tr.txt k))) k) := by
  obtain ⟨Ax, cx, rfl, ⟨hx1, hx2⟩, hX⟩ := hx
  have HX := Lib.hid hX
  have HE := Lib.hid hE
  have HLen := Lib.hid hlen
  have H1 := Lib.hid hp.1
  have HK := Lib.hid hk
  have HEn := Lib.hid he
  obtain ⟨len, ex⟩ : ∃ n, xs.length = n := ⟨_, rfl⟩
  rw [ex] at hx1 ⊢
  have HL := Lib.hid ex
  unfold maxLen at hx2
  have HP := Lib.hid hp
  clear hX hE hlen hk he ex hp
  go_enter Tryd.func66, Tryd.ntmps66
  go_wp2
  go_loopw [10] (fun i wr => ∃ n : Nat, n ≤ len ∧ i = .int .i64 n ∧ PageAt wr b (l ++ ledL s ((xs.map (Tr.txt k)).take n)) k ∧ PG b w wr) (fun i _ => len - (intOf i).toNat)
  case atStart => exact ⟨0, Nat.zero_le _, rfl, by simpa [ledL] using HP.out, PG.refl _ _⟩
  case round =>
    obtain ⟨n, hn2, rfl, hpg, hG⟩ := hrel
    have hbl := hpg.lt
    by_cases hlt : n < len
    · obtain ⟨gx, fx, rfl, hgx, HA⟩ := HX.out (by rw [HL.out]; omega)
      obtain ⟨x, hxe⟩ : ∃ x, xs[n]? = some x := ⟨_, List.getElem?_eq_getElem (by rw [HL.out]; omega)⟩
      obtain ⟨Av, cv, hAt, x0, x1, x2, x3, x4⟩ := elem_at HA hgx hG.below hxe
      have hmem := List.mem_of_getElem? hxe
      have hsz := size_mem hmem
      have hroom := ledL_pre s (xs.map (Tr.txt k)) (n + 1)
      have hmap : (xs.map (Tr.txt k))[n]? = some (x.txt k) := by rw [List.getElem?_map, hxe]; rfl
      have hlen := HLen.out
      rw [List.length_append] at hlen
      obtain ⟨bx, hbx⟩ : ∃ W, (wr.alloc (.cells #[.int .i64 x.op, .string (bs x.s), .int .i64 x.n, .slice Av x.l.length cv, .int .i64 x.line] 24)) = W := ⟨_, rfl⟩
      have hpB : PageAt bx b (l ++ ledL s ((xs.map (Tr.txt k)).take n)) k := by rw [← hbx]; exact hpg.alloc _
      have hGB : PG b w bx := by rw [← hbx]; exact hG.alloc (by omega) _
      have hbox : bx.heap[wr.heap.size]? = some (.cells #[.int .i64 x.op, .string (bs x.s), .int .i64 x.n, .slice Av x.l.length cv, .int .i64 x.line] 24 (0, 0)) := by rw [← hbx]; exact heap_alloc_new wr _
      have hAtB : At bx b x (nodeV x (.slice Av x.l.length cv)) := At.below hAt (by rw [← hbx]; exact ((Below.refl _ wr).alloc (by omega) _))
      have hcall := fun (w1 : World) (L : Bs) (h : Below b bx w1) (hp1 : PageAt w1 b L k) (hL : (L ++ x.txt k).length ≤ 100000000) (hE1 : Env w1) => HE.out x hmem b k _ w1 L (At.below hAtB h) hp1 (by have := HK.out; omega) hL hE1
      unfold nodeV at hcall
      have HC := Lib.hid hcall
      have HBx := Lib.hid (And.intro hpB (And.intro hGB (And.intro hbox hbx)))
      clear hcall hpB hGB hbox hAtB hAt HA hG hpg hxe hmem hbx
      have hf := ledL_next (s := s) hmap
      rw [hf, List.length_append, List.length_append] at hroom
      have hc := putOne b k s bx _ HBx.out.1 (by simp only [List.length_append]; omega)
      rw [← HBx.out.2.2.2] at hc
      rw [World.size_alloc] at hc
      have HC0 := Lib.hid hc
      have HF := Lib.hid hf
      have HRoom := Lib.hid hroom
      clear hc hf hmap hroom
      go_wp2_with (first
        | (go_at_call 46; refine HC0.out.mono ?_; rintro e w1 ⟨⟨v1, rfl⟩, hp1, hg1⟩; rw [HBx.out.2.2.2] at hg1; have hbl1 := hp1.lt; have q0 : w1.cell? ⟨wr.heap.size, 0, none⟩ = some (.int .i64 x.op) := (hg1.cell HBx.out.2.2.1 (by omega) rfl 0).trans (cell_of_row _ _ 0 _ _ _ HBx.out.2.2.1); have q1 : w1.cell? ⟨wr.heap.size, 1, none⟩ = some (.string (bs x.s)) := (hg1.cell HBx.out.2.2.1 (by omega) rfl 1).trans (cell_of_row _ _ 1 _ _ _ HBx.out.2.2.1); have q2 : w1.cell? ⟨wr.heap.size, 2, none⟩ = some (.int .i64 x.n) := (hg1.cell HBx.out.2.2.1 (by omega) rfl 2).trans (cell_of_row _ _ 2 _ _ _ HBx.out.2.2.1); have q3 : w1.cell? ⟨wr.heap.size, 3, none⟩ = some (.slice Av x.l.length cv) := (hg1.cell HBx.out.2.2.1 (by omega) rfl 3).trans (cell_of_row _ _ 3 _ _ _ HBx.out.2.2.1); have q4 : w1.cell? ⟨wr.heap.size, 4, none⟩ = some (.int .i64 x.line) := (hg1.cell HBx.out.2.2.1 (by omega) rfl 4).trans (cell_of_row _ _ 4 _ _ _ HBx.out.2.2.1); have hc2 := HC.out w1 _ hg1.below hp1 (by have := HRoom.out; simp only [List.length_append] at this ⊢; omega) (HEn.out.pg H1.out (HBx.out.2.1.trans hg1)); have HC2 := Lib.hid hc2; have HR1 := Lib.hid hg1; clear hp1 hg1 hc2)
        | (go_at_call 33; refine HC2.out.mono ?_; rintro e w2 ⟨⟨v2, rfl⟩, hp2, hg2⟩; have HR := Lib.hid (And.intro hp2 hg2); clear hp2 hg2))
      go_roundw
      case rel => exact ⟨n + 1, by omega, by go_num, by
        have := HR.out.1
        rw [HF.out]
        simpa using this, (HBx.out.2.1.trans HR1.out).trans HR.out.2⟩
      case measure => simp [intOf]; omega
    · obtain rfl : n = len := by omega
      have HN := Lib.hid (show ((xs.map (Tr.txt k)).take n) = xs.map (Tr.txt k) from List.take_of_length_le (by rw [List.length_map, HL.out]; exact Nat.le_refl _))
      have HPg := Lib.hid hpg
      clear hpg
      go_wp2
      refine bodyPost_ret (results_none rfl _ _ _) rfl ?_
      have := HPg.out
      rw [HN.out] at this
      exact ⟨⟨_, rfl⟩, this, hG⟩
end Go.Proofs.YtiejpenffpjmeaaDoor
