/- code.words, line: an instruction's line; a proc's first line. -/
import Derived.Test.YtconnhphkbgbkaaGreatDoorCdWords
import Derived.Test.YtconnhphkbgbkaaGreatDoorCdVal
namespace Go.Proofs.YtconnhphkbgbkaaGreatDoor
open Go.RowKit Go.Proofs

theorem OwnS.mono {w : World} {B B' : Nat} {v : Value} {ts : List ByteArray} (h : OwnS w B v ts) (hb : B' ≤ B) : OwnS w B' v ts := by
  refine ⟨h.1, ?_⟩
  rcases h.2 with h | ⟨g, cap, cur, rfl, h1, h2⟩
  · exact .inl h
  · exact .inr ⟨g, cap, cur, rfl, by omega, h2⟩
theorem ints_lit (w : World) (l : List Int) (n : Nat) (cs : Array Value) (hn : l.length = n) (hc : cs = (l.map fun x => Value.int .i64 x).toArray) (hl : n ≤ 1000) (hi : ∀ x ∈ l, I64 x) : Ints9 (w.alloc (.cells cs 3)) (.slice (some ⟨w.heap.size, 0, none⟩) n n) l := by
  subst hn hc
  refine ⟨_, l.length, rfl, ⟨Nat.le_refl _, by unfold maxLen; omega⟩, fun _ => ⟨w.heap.size, 0, rfl, by simp, fun i x hx => ⟨[.int .i64 x], ⟨rfl, hi x (List.mem_of_getElem? hx)⟩, fun j hj => ?_⟩⟩⟩
  obtain rfl : j = 0 := by omega
  simp only [Nat.zero_add, Nat.mul_one, Nat.add_zero]
  rw [cell_of_row _ _ _ _ _ _ (heap_alloc_new w _)]
  simp [hx]
/-- The words of an instruction's line. -/
def wordsT (x : Ins) : List ByteArray := numT [x.op, x.d, x.a, x.b, x.c] ++ [bs (Lib.itoa x.n)] ++ numT x.l ++ [bs (quoteL x.s.data.toList)]
set_option maxRecDepth 100000 in
set_option maxHeartbeats 4000000 in
theorem words_any (v : Value) (x : Ins) (w : World) (hx : InsAt w v x) (hE : Env w) (hl : x.l.length ≤ 100) (hs : x.s.size ≤ 1000) :
    Calls Tryz.prog 15 #[v] w fun e w' => (∃ v', e = .returned v' ∧ OwnS w' w.heap.size v' (wordsT x)) ∧ Below w.heap.size w w' := by
  obtain ⟨u, rfl, hu, hf⟩ := hx
  unfold insV
  have hb2 := two_box w (.cells #[.int .i64 x.op, .int .i64 x.d, .int .i64 x.a, .int .i64 x.b, .int .i64 x.c, .string x.s, .int .i64 x.n, u] 33) (.cells #[.int .i64 x.op, .int .i64 x.d, .int .i64 x.a, .int .i64 x.b, .int .i64 x.c] 3)
  have hlit := ints_lit (w.alloc (.cells #[.int .i64 x.op, .int .i64 x.d, .int .i64 x.a, .int .i64 x.b, .int .i64 x.c, .string x.s, .int .i64 x.n, u] 33)) [x.op, x.d, x.a, x.b, x.c] 5 _ rfl rfl (by omega) (by
    intro y hy
    simp only [List.mem_cons, List.not_mem_nil, or_false] at hy
    rcases hy with rfl | rfl | rfl | rfl | rfl
    · exact hf.1.1
    · exact hf.1.2.1
    · exact hf.1.2.2.1
    · exact hf.1.2.2.2.1
    · exact hf.1.2.2.2.2.1)
  rw [World.size_alloc] at hlit
  have hal0 := below_box (w.alloc (.cells #[.int .i64 x.op, .int .i64 x.d, .int .i64 x.a, .int .i64 x.b, .int .i64 x.c, .string x.s, .int .i64 x.n, u] 33)) (.cells #[.int .i64 x.op, .int .i64 x.d, .int .i64 x.a, .int .i64 x.b, .int .i64 x.c] 3)
  rw [World.size_alloc] at hal0
  have HD := Lib.hid (digits_any _ [x.op, x.d, x.a, x.b, x.c] _ hlit (hE.kept hb2) (by simp))
  obtain ⟨wb, hwb⟩ : ∃ wb, w.alloc (.cells #[.int .i64 x.op, .int .i64 x.d, .int .i64 x.a, .int .i64 x.b, .int .i64 x.c, .string x.s, .int .i64 x.n, u] 33) = wb := ⟨_, rfl⟩
  have HW := Lib.hid (show Below w.heap.size w wb ∧ wb.heap.size = w.heap.size + 1 ∧ wb.heap[w.heap.size]? = some (.cells #[.int .i64 x.op, .int .i64 x.d, .int .i64 x.a, .int .i64 x.b, .int .i64 x.c, .string x.s, .int .i64 x.n, u] 33 (0, 0)) by
    rw [← hwb]
    exact ⟨below_box _ _, by simp, heap_alloc_new w _⟩)
  have HU := Lib.hid (And.intro hu hf)
  have HE := Lib.hid hE
  have HA0 := Lib.hid hal0
  have HCell := Lib.hid (show ∀ W, Below (w.heap.size + 1) wb W → W.cell? ⟨w.heap.size, 5, none⟩ = some (.string x.s) ∧ W.cell? ⟨w.heap.size, 6, none⟩ = some (.int .i64 x.n) ∧ W.cell? ⟨w.heap.size, 7, none⟩ = some u ∧ Env W by
    intro W hW
    have hbx := (hW.block w.heap.size (by omega)).trans HW.out.2.2
    refine ⟨?_, ?_, ?_, HE.out.kept (HW.out.1.trans (hW.mono (by omega)))⟩
    · rw [cell_of_row W _ 5 _ _ _ hbx]; rfl
    · rw [cell_of_row W _ 6 _ _ _ hbx]; rfl
    · rw [cell_of_row W _ 7 _ _ _ hbx]; rfl)
  have HWb := Lib.hid hwb
  clear hb2 hlit hu hf hE hal0 hwb
  go_enter Tryz.func15, Tryz.ntmps15
  go_wp2_with fail
  rw [HWb.out] at HD HA0 ⊢
  go_at_call 28
  refine HD.out.mono ?_
  rintro e w1 ⟨⟨v1, rfl, ho1⟩, hb1⟩
  have hB1 := HA0.out.trans (hb1.mono (by rw [← HW.out.2.1]; exact HA0.out.size))
  have ho1 := ho1.mono (B' := w.heap.size + 1) (by rw [← HW.out.2.1]; exact HA0.out.size)
  obtain ⟨d5, d6, d7, hE1⟩ := HCell.out w1 hB1
  have HF := Lib.hid (fmt_any x.n HU.out.2.1.2.2.2.2.2 w1 hE1)
  have H1 := Lib.hid (And.intro ho1 hB1)
  clear ho1 hb1 hB1 HD HA0 hE1
  go_wp2_with fail
  go_at_call 29
  refine HF.out.mono ?_
  rintro e w2 ⟨rfl, hb2⟩
  have hal := (Below.refl w2.heap.size w2).alloc (Nat.le_refl _) (.cells #[.string (bs (Lib.itoa x.n))] 9)
  have hB2 := H1.out.2.trans (hb2.mono (by rw [← HW.out.2.1]; exact H1.out.2.size))
  have hBs := hB2.size
  have HR1 := Lib.hid (app_strs (w2.alloc (.cells #[.string (bs (Lib.itoa x.n))] 9)) (w.heap.size + 1) w2.heap.size v1 (.slice (some ⟨w2.heap.size, 0, none⟩) 1 1) (numT [x.op, x.d, x.a, x.b, x.c]) [bs (Lib.itoa x.n)] ((H1.out.1.below hb2).below hal) (own_lit w2 [bs (Lib.itoa x.n)] 1 _ rfl rfl (by omega)) (by have := HW.out.2.1; simp; omega) (by rw [numT_len]; simp))
  have H2 := Lib.hid (hB2.alloc (by have := HW.out.2.1; omega) (.cells #[.string (bs (Lib.itoa x.n))] 9))
  clear hal hB2 hb2 H1 HF hBs d5 d6 d7
  go_wp2_with (at_builtin; refine wl_app rfl _ _ 47 rfl _ _ rfl rfl _ HR1.out ?_; rintro v3 w3 ⟨ho3, hb3⟩; have H3 := Lib.hid (And.intro ho3 (H2.out.trans hb3)); clear ho3 hb3; obtain ⟨d5, d6, d7, hE3⟩ := HCell.out w3 H3.out.2; have HDL := Lib.hid (digits_any u x.l w3 (HU.out.1.below IntP.keeps (HW.out.1.trans (H3.out.2.mono (by omega)))) hE3 hl); clear hE3)
  go_at_call 28
  refine HDL.out.mono ?_
  rintro e w4 ⟨⟨v4, rfl, ho4⟩, hb4⟩
  have hB4 := H3.out.2.trans (hb4.mono (by rw [← HW.out.2.1]; exact H3.out.2.size))
  have HR2 := Lib.hid (app_strs w4 (w.heap.size + 1) w3.heap.size v3 v4 _ (numT x.l) (H3.out.1.below hb4) ho4 (by have := hB4.size; have := HW.out.2.1; omega) (by rw [numT_len, List.length_append, numT_len]; simp; omega))
  have H4 := Lib.hid hB4
  clear d5 d6 d7 ho4 hb4 hB4 HDL H3 H2 HR1
  go_wp2_with (at_builtin; refine wl_app rfl _ _ 47 rfl _ _ rfl rfl _ HR2.out ?_; rintro v5 w5 ⟨ho5, hb5⟩; have H5 := Lib.hid (And.intro ho5 (H4.out.trans hb5)); clear ho5 hb5; obtain ⟨d5, d6, d7, hE5⟩ := HCell.out w5 H5.out.2; have HQ := Lib.hid (quote_any x.s w5 (by omega)); clear hE5)
  go_at_call 30
  refine HQ.out.mono ?_
  rintro e w6 ⟨rfl, hb6⟩
  have hB6 := H5.out.2.trans (hb6.mono (by rw [← HW.out.2.1]; exact H5.out.2.size))
  have hal := (Below.refl w6.heap.size w6).alloc (Nat.le_refl _) (.cells #[.string (bs (quoteL x.s.data.toList))] 9)
  have HR3 := Lib.hid (app_strs (w6.alloc (.cells #[.string (bs (quoteL x.s.data.toList))] 9)) (w.heap.size + 1) w6.heap.size v5 (.slice (some ⟨w6.heap.size, 0, none⟩) 1 1) _ [bs (quoteL x.s.data.toList)] ((H5.out.1.below hb6).below hal) (own_lit w6 [bs (quoteL x.s.data.toList)] 1 _ rfl rfl (by omega)) (by have := hB6.size; have := HW.out.2.1; simp; omega) (by rw [List.length_append, numT_len, List.length_append, numT_len]; simp; omega))
  have H6 := Lib.hid (hB6.alloc (by have := hB6.size; have := HW.out.2.1; omega) (.cells #[.string (bs (quoteL x.s.data.toList))] 9))
  clear d5 d6 d7 hal hb6 hB6 HQ H5 H4 HR2
  go_wp2_with (at_builtin; refine wl_app rfl _ _ 47 rfl _ _ rfl rfl _ HR3.out ?_; rintro v7 w7 ⟨ho7, hb7⟩; have H7 := Lib.hid (And.intro ho7 (H6.out.trans hb7)); clear ho7 hb7)
  go_ret
  exact ⟨⟨_, rfl, H7.out.1.mono (by omega)⟩, HW.out.1.trans (H7.out.2.mono (by omega))⟩

theorem join_snoc (xs : List Bs) (q : Bs) : Lib.join (xs ++ [q]) [32] = xs.flatMap (fun a => a ++ [32]) ++ q := by
  cases xs with
  | nil => rw [List.nil_append, Lib.join_one]; rfl
  | cons a r =>
    rw [List.cons_append, Lib.join_cons]
    have key : ∀ (r : List Bs) (a : Bs), a ++ Lib.joinTail [32] (r ++ [q]) = (a :: r).flatMap (fun a => a ++ [32]) ++ q := by
      intro r
      induction r with
      | nil => intro a; simp [Lib.joinTail]
      | cons b r ih =>
        intro a
        have := ih b
        simp [Lib.joinTail] at this ⊢
        exact this
    exact key r a
/-- A line's bytes. -/
def lineT (ts : List ByteArray) : Bs := Lib.join (ts.map fun t => t.data.toList) [32] ++ [10]
theorem numT_list (l : List Int) : (numT l).map (fun t => t.data.toList) = l.map Lib.itoa := by
  unfold numT
  rw [List.map_map]
  apply List.map_congr_left
  intro n _
  exact bs_list _
theorem lineT_ins (x : Ins) : lineT (wordsT x) = insT x := by
  unfold lineT wordsT
  rw [List.map_append, List.map_cons, List.map_nil, bs_list, join_snoc, List.map_append, List.map_append, numT_list, numT_list]
  unfold insT spaced
  simp [List.flatMap_map, bs_list]
theorem lineT_proc (n : Int) : lineT [⟨#[112, 114, 111, 99]⟩, bs (Lib.itoa n)] = [112, 114, 111, 99, 32] ++ (Lib.itoa n ++ [10]) := by
  unfold lineT
  rw [show ([⟨#[112, 114, 111, 99]⟩, bs (Lib.itoa n)] : List ByteArray) = [⟨#[112, 114, 111, 99]⟩] ++ [bs (Lib.itoa n)] from rfl, List.map_append, List.map_cons, List.map_nil, List.map_cons, List.map_nil, bs_list, join_snoc]
  simp
theorem bs_snoc (l : Bs) : (⟨l.toArray⟩ : ByteArray) ++ ⟨#[10]⟩ = bs (l ++ [10]) := by
  have : bs l ++ bs [10] = bs (l ++ [10]) := by
    rw [← bs_of (bs l ++ bs [10])]
    congr 1
  exact this
set_option maxHeartbeats 4000000 in
theorem line_any (v : Value) (ts : List ByteArray) (w : World) (hv : SlAt 1 StrP w v ts) (h0 : 0 < ts.length) (hl : ts.length ≤ 1000) (hlen : (lineT ts).length ≤ 1000000) :
    Calls Tryz.prog 13 #[v] w fun e w' => e = .returned (.string (bs (lineT ts))) ∧ Below w.heap.size w w' := by
  obtain ⟨A, cap, rfl, ⟨h1, h2⟩, h3⟩ := hv
  obtain ⟨g, off, rfl, hg, hc⟩ := h3 h0
  have hlen2 : (Lib.join (ts.map fun t => t.data.toList) [32]).length ≤ 1000000 := by unfold lineT at hlen; simp at hlen; omega
  have HJ := Lib.hid (Tryz.strings_Join g off cap ts ⟨#[32]⟩ w (fun j x hj => by
    obtain ⟨cs, hcs, hc2⟩ := hc j x hj
    have := hc2 0 (by decide)
    rw [hcs] at this
    simpa using this) hg (by omega) h1 (by
      show (Lib.join (ts.map fun t => t.data.toList) [32]).length ≤ _
      omega))
  have HS := Lib.hid (bs_snoc (Lib.join (ts.map fun t => t.data.toList) [32]))
  have hsz : ¬ 9223372036854775807 < (⟨(Lib.join (ts.map fun t => t.data.toList) (⟨#[32]⟩ : ByteArray).data.toList).toArray⟩ : ByteArray).size + (⟨#[10]⟩ : ByteArray).size := by
    rw [← len_toList, ← len_toList]
    simp only [List.length_cons, List.length_nil]
    omega
  clear hc h3 hlen hlen2
  go_enter Tryz.func13, Tryz.ntmps13
  go_wp2_with (go_at_call 26; refine HJ.out.mono ?_; rintro e w1 ⟨rfl, hb1⟩)
  go_ret
  exact ⟨ret_s HS.out, hb1⟩
end Go.Proofs.YtconnhphkbgbkaaGreatDoor
