/- jtree.page: list, led. -/
import Derived.Test.YtiejpenffpjmeaaDoorMix
namespace Go.Proofs.YtiejpenffpjmeaaDoor
open Go.RowKit Go.Proofs

theorem Put.from_ {b k : Nat} {w : World} {o : Obj} {l : Bs} {e : Ending} {w' : World} (h : Put b (w.alloc o) l k e w') (hb : b ≤ w.heap.size) : Put b w l k e w' :=
  ⟨h.1, h.2.1, ((PG.refl b w).alloc hb o).trans h.2.2⟩
theorem putOne (b k : Nat) (t : Bs) (w : World) (L : Bs) (hp : PageAt w b L k) (hlen : (L ++ t).length ≤ 100000000) :
    Calls Tryd.prog 46 #[.pointer (some ⟨b, 0, none⟩), .slice (some ⟨w.heap.size, 0, none⟩) 1 1] (w.alloc (.cells #[.string (bs t)] 9)) (Put b w (L ++ t) k) := by
  have := put_any b [t] _ _ L k (hp.alloc (.cells #[.string (bs t)] 9)) (Strs.mk_ w b hp.lt [t] 1 rfl (by omega) _ rfl) (by simpa using hlen)
  simp only [List.flatten_cons, List.flatten_nil, List.append_nil] at this
  exact this.mono fun e w' h => h.from_ (Nat.le_of_lt hp.lt)
theorem putTwo (b k : Nat) (t u : Bs) (w : World) (L : Bs) (hp : PageAt w b L k) (hlen : (L ++ (t ++ u)).length ≤ 100000000) :
    Calls Tryd.prog 46 #[.pointer (some ⟨b, 0, none⟩), .slice (some ⟨w.heap.size, 0, none⟩) 2 2] (w.alloc (.cells #[.string (bs t), .string (bs u)] 9)) (Put b w (L ++ (t ++ u)) k) := by
  have := put_any b [t, u] _ _ L k (hp.alloc (.cells #[.string (bs t), .string (bs u)] 9)) (Strs.mk_ w b hp.lt [t, u] 2 rfl (by omega) _ rfl) (by simpa using hlen)
  simp only [List.flatten_cons, List.flatten_nil, List.append_nil] at this
  exact this.mono fun e w' h => h.from_ (Nat.le_of_lt hp.lt)

/-- An element of a row, in a later world. -/
theorem elem_at {w wr : World} {b g off i : Nat} {xs : List Tr} {x : Tr} (HA : AtL w b g off xs) (hg : g < b) (hb : Below b w wr) (hx : xs[i]? = some x) :
    ∃ Av cv, At wr b x (nodeV x (.slice Av x.l.length cv)) ∧ wr.cell? ⟨g, off + i * 5, none⟩ = some (.int .i64 x.op) ∧ wr.cell? ⟨g, off + i * 5 + 1, none⟩ = some (.string (bs x.s)) ∧ wr.cell? ⟨g, off + i * 5 + 2, none⟩ = some (.int .i64 x.n) ∧
      wr.cell? ⟨g, off + i * 5 + 3, none⟩ = some (.slice Av x.l.length cv) ∧ wr.cell? ⟨g, off + i * 5 + 4, none⟩ = some (.int .i64 x.line) := by
  obtain ⟨vx, hAt, x0, x1, x2, x3, x4⟩ := AtL.get xs i x (AtL.keep (W' := wr) (n' := b) xs HA hg (Nat.le_refl _) fun _ hp => hb.cell hp) hx
  have hvx : ∃ A c, vx = .slice A x.l.length c := by
    have h := hAt
    rw [At_iff] at h
    obtain ⟨u', e', ⟨A', c', rfl, _⟩, _⟩ := h
    unfold nodeV at e'
    simp at e'
    exact ⟨A', c', e'⟩
  obtain ⟨Av, cv, rfl⟩ := hvx
  exact ⟨Av, cv, hAt, x0, x1, x2, x3, x4⟩
theorem At.more {w w' : World} {b : Nat} {x : Tr} {v : Value} (h : At w b x v) (hg : Below b w w') : At w' b x v := h.below hg
theorem commas_next {ts : List Bs} {n : Nat} {t : Bs} (ht : ts[n]? = some t) (h0 : 0 < n) : commas (ts.take (n + 1)) = commas (ts.take n) ++ ([44, 32] ++ t) := by
  have hl : n < ts.length := (List.getElem?_eq_some_iff.1 ht).1
  rw [List.take_add_one, ht]
  exact commas_snoc _ _ (fun e => by have := congrArg List.length e; rw [List.length_take, List.length_nil] at this; omega)
theorem commas_first {ts : List Bs} {t : Bs} (ht : ts[0]? = some t) : commas (ts.take (0 + 1)) = t := by
  cases ts with
  | nil => simp at ht
  | cons a r => simp at ht; subst ht; simp [commas]
theorem commas_pre : ∀ (ts : List Bs) (n : Nat), (commas (ts.take n)).length ≤ (commas ts).length
  | [], n => by simp
  | [a], 0 => by simp [commas]
  | [a], n + 1 => by simp
  | a :: b :: r, 0 => by simp [commas]
  | a :: b :: r, 1 => by simp [commas]
  | a :: b :: r, n + 2 => by
    have := commas_pre (b :: r) (n + 1)
    rw [List.take_succ_cons] at this
    rw [List.take_succ_cons, List.take_succ_cons]
    simp only [commas, List.length_append]
    omega

set_option maxRecDepth 100000 in
set_option maxHeartbeats 4000000 in
theorem list_any (b k : Nat) (xs : List Tr) (v : Value) (w : World) (l : Bs) (hx : Row w b xs v) (hp : PageAt w b l k) (hE : ∀ x ∈ xs, ExprOK x) (hk : k + sizes xs ≤ 100000)
    (hlen : (l ++ commas (xs.map (Tr.txt k))).length ≤ 100000000) (he : Env w) :
    Calls Tryd.prog 49 #[.pointer (some ⟨b, 0, none⟩), v] w (Put b w (l ++ commas (xs.map (Tr.txt k))) k) := by
  obtain ⟨Ax, cx, rfl, ⟨hx1, hx2⟩, hX⟩ := hx
  have HX := Lib.hid hX
  have HE := Lib.hid hE
  have HLen := Lib.hid hlen
  have H1 := Lib.hid hp.1
  have HK := Lib.hid hk
  have HEn := Lib.hid he
  obtain ⟨len, ex⟩ : ∃ n, xs.length = n := ⟨_, rfl⟩
  rw [ex] at hx1 ⊢
  have HL := Lib.hid ex
  unfold maxLen at hx2
  have HP := Lib.hid hp
  clear hX hE hlen hk he ex hp
  go_enter Tryd.func49, Tryd.ntmps49
  go_wp2
  go_loopw [8] (fun i wr => ∃ n : Nat, n ≤ len ∧ i = .int .i64 n ∧ PageAt wr b (l ++ commas ((xs.map (Tr.txt k)).take n)) k ∧ PG b w wr) (fun i _ => len - (intOf i).toNat)
  case atStart => exact ⟨0, Nat.zero_le _, rfl, by simpa [commas] using HP.out, PG.refl _ _⟩
  case round =>
    obtain ⟨n, hn2, rfl, hpg, hG⟩ := hrel
    have hbl := hpg.lt
    by_cases hlt : n < len
    · obtain ⟨gx, fx, rfl, hgx, HA⟩ := HX.out (by rw [HL.out]; omega)
      obtain ⟨x, hxe⟩ : ∃ x, xs[n]? = some x := ⟨_, List.getElem?_eq_getElem (by rw [HL.out]; omega)⟩
      obtain ⟨Av, cv, hAt, x0, x1, x2, x3, x4⟩ := elem_at HA hgx hG.below hxe
      have hmem := List.mem_of_getElem? hxe
      have hsz := size_mem hmem
      have hroom := commas_pre (xs.map (Tr.txt k)) (n + 1)
      have hmap : (xs.map (Tr.txt k))[n]? = some (x.txt k) := by rw [List.getElem?_map, hxe]; rfl
      have hlen := HLen.out
      rw [List.length_append] at hlen
      obtain ⟨bx, hbx⟩ : ∃ W, (wr.alloc (.cells #[.int .i64 x.op, .string (bs x.s), .int .i64 x.n, .slice Av x.l.length cv, .int .i64 x.line] 24)) = W := ⟨_, rfl⟩
      have hpB : PageAt bx b (l ++ commas ((xs.map (Tr.txt k)).take n)) k := by rw [← hbx]; exact hpg.alloc _
      have hGB : PG b w bx := by rw [← hbx]; exact hG.alloc (by omega) _
      have hbox : bx.heap[wr.heap.size]? = some (.cells #[.int .i64 x.op, .string (bs x.s), .int .i64 x.n, .slice Av x.l.length cv, .int .i64 x.line] 24 (0, 0)) := by rw [← hbx]; exact heap_alloc_new wr _
      have hAtB : At bx b x (nodeV x (.slice Av x.l.length cv)) := At.below hAt (by rw [← hbx]; exact ((Below.refl _ wr).alloc (by omega) _))
      have hcall := fun (w1 : World) (L : Bs) (h : Below b bx w1) (hp1 : PageAt w1 b L k) (hL : (L ++ x.txt k).length ≤ 100000000) (hE1 : Env w1) => HE.out x hmem b k _ w1 L (At.below hAtB h) hp1 (by have := HK.out; omega) hL hE1
      unfold nodeV at hcall
      have HC := Lib.hid hcall
      have HBx := Lib.hid (And.intro hpB (And.intro hGB (And.intro hbox hbx)))
      clear hcall hpB hGB hbox hAtB hAt HA hG hpg hxe hmem hbx
      by_cases h0 : n = 0
      · subst h0
        have hf := commas_first hmap
        rw [hf] at hroom
        have hc := HC.out bx _ (Below.refl _ _) HBx.out.1 (by simp [commas]; omega) (HEn.out.pg H1.out HBx.out.2.1)
        rw [← HBx.out.2.2.2] at hc
        have HC1 := Lib.hid hc
        have HF := Lib.hid hf
        clear hc hf hmap
        simp only [Nat.zero_mul, Nat.add_zero] at x0 x1 x2 x3 x4
        go_wp2_with (go_at_call 33; refine HC1.out.mono ?_; rintro e w1 ⟨⟨v, rfl⟩, hp1, hg1⟩; have HR := Lib.hid (And.intro hp1 hg1); clear hp1 hg1)
        go_roundw
        case rel => exact ⟨1, by omega, by go_num, by
          have := HR.out.1
          rw [HF.out]
          simpa [commas] using this, by have := HR.out.2; rw [HBx.out.2.2.2] at this; exact HBx.out.2.1.trans this⟩
        case measure => simp [intOf]; omega
      · have hf := commas_next hmap (by omega)
        have g0 : (0 : Int) < n := by omega
        rw [hf, List.length_append, List.length_append] at hroom
        have hc := putOne b k [44, 32] bx _ HBx.out.1 (by simp only [List.length_append]; simp only [List.length_cons, List.length_nil] at hroom ⊢; omega)
        rw [← HBx.out.2.2.2] at hc
        rw [World.size_alloc] at hc
        have HC0 := Lib.hid hc
        have HF := Lib.hid hf
        have HRoom := Lib.hid hroom
        clear hc hf hmap hroom
        go_wp2_with (first
          | (go_at_call 46; refine HC0.out.mono ?_; rintro e w1 ⟨⟨v1, rfl⟩, hp1, hg1⟩; rw [HBx.out.2.2.2] at hg1; have hbl1 := hp1.lt; have q0 : w1.cell? ⟨wr.heap.size, 0, none⟩ = some (.int .i64 x.op) := (hg1.cell HBx.out.2.2.1 (by omega) rfl 0).trans (cell_of_row _ _ 0 _ _ _ HBx.out.2.2.1); have q1 : w1.cell? ⟨wr.heap.size, 1, none⟩ = some (.string (bs x.s)) := (hg1.cell HBx.out.2.2.1 (by omega) rfl 1).trans (cell_of_row _ _ 1 _ _ _ HBx.out.2.2.1); have q2 : w1.cell? ⟨wr.heap.size, 2, none⟩ = some (.int .i64 x.n) := (hg1.cell HBx.out.2.2.1 (by omega) rfl 2).trans (cell_of_row _ _ 2 _ _ _ HBx.out.2.2.1); have q3 : w1.cell? ⟨wr.heap.size, 3, none⟩ = some (.slice Av x.l.length cv) := (hg1.cell HBx.out.2.2.1 (by omega) rfl 3).trans (cell_of_row _ _ 3 _ _ _ HBx.out.2.2.1); have q4 : w1.cell? ⟨wr.heap.size, 4, none⟩ = some (.int .i64 x.line) := (hg1.cell HBx.out.2.2.1 (by omega) rfl 4).trans (cell_of_row _ _ 4 _ _ _ HBx.out.2.2.1); have hc2 := HC.out w1 _ hg1.below hp1 (by have := HRoom.out; simp only [List.length_append] at this ⊢; omega) (HEn.out.pg H1.out (HBx.out.2.1.trans hg1)); have HC2 := Lib.hid hc2; have HR1 := Lib.hid hg1; clear hp1 hg1 hc2)
          | (go_at_call 33; refine HC2.out.mono ?_; rintro e w2 ⟨⟨v2, rfl⟩, hp2, hg2⟩; have HR := Lib.hid (And.intro hp2 hg2); clear hp2 hg2))
        go_roundw
        case rel => exact ⟨n + 1, by omega, by go_num, by
          have := HR.out.1
          rw [HF.out]
          simpa using this, (HBx.out.2.1.trans HR1.out).trans HR.out.2⟩
        case measure => simp [intOf]; omega
    · obtain rfl : n = len := by omega
      have HN := Lib.hid (show ((xs.map (Tr.txt k)).take n) = xs.map (Tr.txt k) from List.take_of_length_le (by rw [List.length_map, HL.out]; exact Nat.le_refl _))
      have HPg := Lib.hid hpg
      clear hpg
      go_wp2
      refine bodyPost_ret (results_none rfl _ _ _) rfl ?_
      have := HPg.out
      rw [HN.out] at this
      exact ⟨⟨_, rfl⟩, this, hG⟩
end Go.Proofs.YtiejpenffpjmeaaDoor
