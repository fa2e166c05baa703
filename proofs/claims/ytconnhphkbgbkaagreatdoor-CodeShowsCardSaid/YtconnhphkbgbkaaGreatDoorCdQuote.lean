/- jlex.quotedByte and jlex.Quote. -/
import Derived.Test.YtconnhphkbgbkaaGreatDoorCdVal
import Derived.Lib.AppendStr
import Derived.StillTailTactics
import Derived.Deep.RegionLaw
import Derived.KernelRfl
import Derived.Deep.OwnRows
import Derived.Maps.AppendAt
import Derived.OwnWalk
namespace Go.Proofs.YtconnhphkbgbkaaGreatDoor
open Go.RowKit Go.Proofs

set_option maxHeartbeats 1000000 in
theorem plain_any (c : UInt8) (w : World) : Calls Tryz.prog 73 #[.int .u8 c.toNat] w fun e w' => e = .returned (.bool (plainB c)) ∧ w = w' := by
  go_enter Tryz.func73, Tryz.ntmps73
  go_wp2
  all_goals
    go_ret
    exact ⟨ret_b (by rw [Bool.eq_iff_iff, plainB_iff]; simp; omega), rfl⟩
theorem info5 : (Tryz.prog.info? 5).map (fun i => (i.zero, i.size, i.bytes)) = some (some (.int .u8 0), 1, 1) := by kernel_rfl
theorem byteRow_str {W : World} {B : Nat} {v : Value} {l : Bs} (h : W.ownsRow B 5 1 v l.length (Lib.byteCells l)) : (convert 38 9 v).run Tryz.prog W = .ok (.string (bs l)) W := by
  rcases h.2 with ⟨rfl, h0⟩ | ⟨g, cap, cur, rfl, _, _, _, _, _, _⟩
  · obtain rfl : l = [] := List.eq_nil_of_length_eq_zero h0
    rw [run_convert_bytes_string W 38 9 5 none 0 0 Tryz.underlying38 Tryz.underlying5 Tryz.underlying9]
    rfl
  · exact run_convert_bytes_back W 38 9 5 ⟨g, 0, none⟩ cap l Tryz.underlying38 Tryz.underlying5 Tryz.underlying9 (fun j hj => h.cells (g := g) rfl j _ (by simp [Lib.byteCells, hj]))

theorem ownsRow_below {W W' : World} {base e size n : Nat} {v : Value} {xs : List Value} (h : W.ownsRow base e size v n xs) (hb : Below W.heap.size W W') : W'.ownsRow base e size v n xs := by
  refine ⟨h.1, ?_⟩
  rcases h.2 with h | ⟨g, cap, cur, rfl, h1, h2, h3⟩
  · exact .inl h
  · exact .inr ⟨g, cap, cur, rfl, h1, (hb.block g (Array.getElem?_eq_some_iff.1 h2).1).trans h2, h3⟩
theorem ext_drop (s : ByteArray) (k : Nat) : (s.extract k s.size).data.toList = s.data.toList.drop k := by
  rw [← Lib.toList_data, Lib.extract_toList, List.take_of_length_le (by rw [List.length_drop, len_toList]; omega)]
theorem ext_take (s : ByteArray) (k : Nat) : (s.extract 0 k).data.toList = s.data.toList.take k := by
  rw [← Lib.toList_data, Lib.extract_toList]
  simp
theorem ext_size (s : ByteArray) (k : Nat) : (s.extract k s.size).size = s.size - k := by
  rw [← len_toList, ext_drop, List.length_drop, len_toList]
/-- The bytes l in a row from B on, and then more. -/
def Grew (w : World) (B : Nat) (l : Bs) (e : Ending) (w' : World) : Prop := ∃ v', e = .returned v' ∧ w'.ownsRow B 5 1 v' l.length (Lib.byteCells l) ∧ Below B w w'
theorem own_row_ge {W : World} {B e size n : Nat} {v : Value} {xs : List Value} (h : W.ownsRow B e size v n xs) : ∀ r, v.ownBlock = some r → B ≤ r := fun r hr => by
  rcases h.2 with ⟨rfl, _⟩ | ⟨g, cap, cur, rfl, h1, _⟩
  · simp [Value.ownBlock] at hr
  · simp [Value.ownBlock] at hr
    omega

set_option maxRecDepth 100000 in
set_option maxHeartbeats 1000000 in
theorem quoted_two (b : UInt8) (B : Nat) (v : Value) (l : Bs) (c : UInt8) (w : World) (hrow : w.ownsRow B 5 1 v l.length (Lib.byteCells l)) (hB : B ≤ w.heap.size) (hl : l.length ≤ 1000000000) (hc : c.toNat = 10 ∧ b = 110 ∨ c.toNat = 9 ∧ b = 116) :
    Calls Tryz.prog 55 #[v, .int .u8 c.toNat] w (Grew w B (l ++ [92, b])) := by
  obtain ⟨i0, hi, hz0, hz1, hz2⟩ := info_parts info5
  have HI := Lib.hid (And.intro hi (And.intro hz0 (And.intro hz1 hz2)))
  clear hi hz0 hz1 hz2
  rcases hc with ⟨hc, rfl⟩ | ⟨hc, rfl⟩
  · have e1 : ((c.toNat : Int) == 10) = true := by simp; omega
    have HH := Lib.hid hc
    clear hc
    go_enter Tryz.func55, Tryz.ntmps55
    go_wp2_with (at_builtin; refine Lib.wpList_append_own_string _ rfl _ _ 38 9 rfl B 5 i0 Tryz.underlying38 Tryz.underlying9 HI.out.1 HI.out.2.1 HI.out.2.2.1 HI.out.2.2.2 _ _ _ rfl hrow ⟨#[92, 110]⟩ rfl (by unfold maxLen; show l.length + 2 ≤ _; omega) (by show l.length + 2 ≤ _; omega) hB ?_; intro v' w' hown hg _; have HG := Lib.hid (And.intro hown hg); clear hown hg)
    go_ret
    refine ⟨_, rfl, ?_, (Below.refl B w).grown HG.out.2 hB (own_row_ge hrow)⟩
    have := HG.out.1
    rw [show (⟨#[92, 110]⟩ : ByteArray).size = 2 from rfl] at this
    simpa [Lib.byteCells, Lib.strCells] using this
  · have e0 : ((c.toNat : Int) == 10) = false := by simp; omega
    have e1 : ((c.toNat : Int) == 9) = true := by simp; omega
    have HH := Lib.hid hc
    clear hc
    go_enter Tryz.func55, Tryz.ntmps55
    go_wp2_with (at_builtin; refine Lib.wpList_append_own_string _ rfl _ _ 38 9 rfl B 5 i0 Tryz.underlying38 Tryz.underlying9 HI.out.1 HI.out.2.1 HI.out.2.2.1 HI.out.2.2.2 _ _ _ rfl hrow ⟨#[92, 116]⟩ rfl (by unfold maxLen; show l.length + 2 ≤ _; omega) (by show l.length + 2 ≤ _; omega) hB ?_; intro v' w' hown hg _; have HG := Lib.hid (And.intro hown hg); clear hown hg)
    go_ret
    refine ⟨_, rfl, ?_, (Below.refl B w).grown HG.out.2 hB (own_row_ge hrow)⟩
    have := HG.out.1
    rw [show (⟨#[92, 116]⟩ : ByteArray).size = 2 from rfl] at this
    simpa [Lib.byteCells, Lib.strCells] using this

set_option maxRecDepth 100000 in
set_option maxHeartbeats 1000000 in
theorem quoted_plain (B : Nat) (v : Value) (l : Bs) (c : UInt8) (w : World) (hrow : w.ownsRow B 5 1 v l.length (Lib.byteCells l)) (hB : B ≤ w.heap.size) (hl : l.length ≤ 1000000000) (h1 : c.toNat ≠ 10) (h2 : c.toNat ≠ 9) (h3 : c.toNat ≠ 34) (h4 : c.toNat ≠ 92) (hp : plainB c = true) :
    Calls Tryz.prog 55 #[v, .int .u8 c.toNat] w (Grew w B (l ++ [c])) := by
  obtain ⟨i0, hi, hz0, hz1, hz2⟩ := info_parts info5
  have HI := Lib.hid (And.intro hi (And.intro hz0 (And.intro hz1 hz2)))
  have HP := plain_any c
  rw [hp] at HP
  have HP := Lib.hid HP
  have e1 : ((c.toNat : Int) == 10) = false := by simp; omega
  have e2 : ((c.toNat : Int) == 9) = false := by simp; omega
  have e3 : ((c.toNat : Int) == 34) = false := by simp; omega
  have e4 : ((c.toNat : Int) == 92) = false := by simp; omega
  clear hi hz0 hz1 hz2 h1 h2 h3 h4 hp
  go_enter Tryz.func55, Tryz.ntmps55
  go_wp2_with (first | (go_at_call 73; refine (HP.out _).mono ?_; rintro e w' ⟨rfl, rfl⟩) | (at_builtin; refine wpList_append_own _ rfl _ _ 38 rfl B 5 i0 (.int .u8 0) 1 1 Tryz.underlying38 HI.out.1 HI.out.2.1 HI.out.2.2.1 HI.out.2.2.2 rfl (by decide) _ _ _ rfl (hrow.alloc _) ⟨w.heap.size, 0, none⟩ 1 1 [.int .u8 c.toNat] rfl rfl (cell_one_new _ _ _) (by simp [Value.oneCell']) (by unfold maxLen; omega) (by omega) (by simp; omega) ?_; intro v' w' hown hg _; have HG := Lib.hid (And.intro hown hg); clear hown hg))
  go_ret
  refine ⟨_, rfl, ?_, ((Below.refl B w).alloc hB _).grown HG.out.2 (by simp; omega) (own_row_ge hrow)⟩
  have := HG.out.1
  simpa [Lib.byteCells] using this

set_option maxRecDepth 100000 in
set_option maxHeartbeats 1000000 in
theorem quoted_esc (B : Nat) (v : Value) (l : Bs) (c : UInt8) (w : World) (hrow : w.ownsRow B 5 1 v l.length (Lib.byteCells l)) (hB : B ≤ w.heap.size) (hl : l.length ≤ 1000000000) (h : c.toNat = 34 ∨ (c.toNat ≠ 34 ∧ c.toNat = 92)) :
    Calls Tryz.prog 55 #[v, .int .u8 c.toNat] w (Grew w B (l ++ [92, c])) := by
  obtain ⟨i0, hi, hz0, hz1, hz2⟩ := info_parts info5
  have HI := Lib.hid (And.intro hi (And.intro hz0 (And.intro hz1 hz2)))
  have e1 : ((c.toNat : Int) == 10) = false := by simp; omega
  have e2 : ((c.toNat : Int) == 9) = false := by simp; omega
  clear hi hz0 hz1 hz2
  rcases h with h | ⟨h, h'⟩
  · have e3 : ((c.toNat : Int) == 34) = true := by simp; omega
    clear h
    go_enter Tryz.func55, Tryz.ntmps55
    go_wp2_with (first | (at_builtin; refine wpList_append_own _ rfl (.tmp 25) (.tmp 26) 38 rfl B 5 i0 (.int .u8 0) 1 1 Tryz.underlying38 HI.out.1 HI.out.2.1 HI.out.2.2.1 HI.out.2.2.2 rfl (by decide) _ _ _ rfl (hrow.alloc _) ⟨w.heap.size, 0, none⟩ 1 1 [.int .u8 92] rfl rfl (cell_one_new _ _ _) (by simp [Value.oneCell']) (by unfold maxLen; omega) (by omega) (by simp; omega) ?_; intro v1 w1 hown hg _; have HG := Lib.hid hg; have hz1 := hg.size; rw [World.size_alloc] at hz1; clear hg) | (at_builtin; refine wpList_append_own _ rfl (.tmp 28) (.tmp 30) 38 rfl B 5 i0 (.int .u8 0) 1 1 Tryz.underlying38 HI.out.1 HI.out.2.1 HI.out.2.2.1 HI.out.2.2.2 rfl (by decide) _ _ _ rfl (hown.alloc _) ⟨w1.heap.size, 0, none⟩ 1 1 [.int .u8 c.toNat] rfl rfl (cell_one_new _ _ _) (by simp [Value.oneCell']) (by unfold maxLen; omega) (by omega) (by simp; omega) ?_; intro v2 w2 hown2 hg2 _; have HG2 := Lib.hid (And.intro hown2 hg2); clear hown2 hg2))
    go_ret
    refine ⟨_, rfl, ?_, ((((Below.refl B w).alloc hB _).grown HG.out (by simp; omega) (own_row_ge hrow)).alloc (by omega) _).grown HG2.out.2 (by simp; omega) (own_row_ge hown)⟩
    have := HG2.out.1
    simpa [Lib.byteCells] using this
  · have e3 : ((c.toNat : Int) == 34) = false := by simp; omega
    have e4 : ((c.toNat : Int) == 92) = true := by simp; omega
    clear h h'
    go_enter Tryz.func55, Tryz.ntmps55
    go_wp2_with (first | (at_builtin; refine wpList_append_own _ rfl (.tmp 25) (.tmp 26) 38 rfl B 5 i0 (.int .u8 0) 1 1 Tryz.underlying38 HI.out.1 HI.out.2.1 HI.out.2.2.1 HI.out.2.2.2 rfl (by decide) _ _ _ rfl (hrow.alloc _) ⟨w.heap.size, 0, none⟩ 1 1 [.int .u8 92] rfl rfl (cell_one_new _ _ _) (by simp [Value.oneCell']) (by unfold maxLen; omega) (by omega) (by simp; omega) ?_; intro v1 w1 hown hg _; have HG := Lib.hid hg; have hz1 := hg.size; rw [World.size_alloc] at hz1; clear hg) | (at_builtin; refine wpList_append_own _ rfl (.tmp 28) (.tmp 30) 38 rfl B 5 i0 (.int .u8 0) 1 1 Tryz.underlying38 HI.out.1 HI.out.2.1 HI.out.2.2.1 HI.out.2.2.2 rfl (by decide) _ _ _ rfl (hown.alloc _) ⟨w1.heap.size, 0, none⟩ 1 1 [.int .u8 c.toNat] rfl rfl (cell_one_new _ _ _) (by simp [Value.oneCell']) (by unfold maxLen; omega) (by omega) (by simp; omega) ?_; intro v2 w2 hown2 hg2 _; have HG2 := Lib.hid (And.intro hown2 hg2); clear hown2 hg2))
    go_ret
    refine ⟨_, rfl, ?_, ((((Below.refl B w).alloc hB _).grown HG.out (by simp; omega) (own_row_ge hrow)).alloc (by omega) _).grown HG2.out.2 (by simp; omega) (own_row_ge hown)⟩
    have := HG2.out.1
    simpa [Lib.byteCells] using this

set_option maxRecDepth 100000 in
theorem and_all : ∀ n : Fin 256, bits BinOp.and IntKind.u8 (n.val : Int) 15 = ((n.val % 16 : Nat) : Int) := by decide
theorem hexAt_all : ∀ k : Fin 16, (⟨#[48, 49, 50, 51, 52, 53, 54, 55, 56, 57, 97, 98, 99, 100, 101, 102]⟩ : ByteArray)[k.val]'(k.isLt) = hexD k.val := by decide
theorem hexAt (k : Nat) (h : k < 16) : (⟨#[48, 49, 50, 51, 52, 53, 54, 55, 56, 57, 97, 98, 99, 100, 101, 102]⟩ : ByteArray)[k]'h = hexD k := hexAt_all ⟨k, h⟩

theorem cells_row (w : World) (vs : List Value) (T : TypeId) (j : Nat) (u : Value) (h : vs[j]? = some u) :
    (w.alloc (.cells vs.toArray T)).cell? ((⟨w.heap.size, 0, none⟩ : Addr).add j) = some u := by
  have e : (⟨w.heap.size, 0, none⟩ : Addr).add j = ⟨w.heap.size, j, none⟩ := by unfold Addr.add; split <;> simp_all
  rw [e, cell_of_row _ _ j _ T _ (heap_alloc_new w _)]
  simp [h]
/-- What is behind the append. -/
def App4 (w : World) (B : Nat) (l : Bs) (x y : Int) (v' : Value) (w' : World) : Prop := w'.ownsRow B 5 1 v' (l.length + 4) (Lib.byteCells l ++ [.int .u8 92, .int .u8 120, .int .u8 x, .int .u8 y]) ∧ Below B w w'
theorem app4_run (w W : World) (B : Nat) (v : Value) (l : Bs) (x y : Int) (hw : Below w.heap.size w W) (hrow : W.ownsRow B 5 1 v l.length (Lib.byteCells l)) (hB : B ≤ w.heap.size) (hl : l.length ≤ 1000000000)
    (hc : ∀ j u, ([.int .u8 92, .int .u8 120, .int .u8 x, .int .u8 y] : List Value)[j]? = some u → W.cell? ((⟨w.heap.size, 0, none⟩ : Addr).add j) = some u) :
    ∃ v' w', (Builtin.append_ #[38, 38] 38 #[v, .slice (some ⟨w.heap.size, 0, none⟩) 4 4]).run Tryz.prog W = .ok v' w' ∧ App4 w B l x y v' w' := by
  obtain ⟨i0, hi, hz0, hz1, hz2⟩ := info_parts info5
  obtain ⟨v', w', hr, h2, h3, _⟩ := run_append_own (P := Tryz.prog) (w := W) B 38 38 5 i0 (.int .u8 0) 1 1 Tryz.underlying38 hi hz0 hz1 hz2 rfl (by decide) v l.length (Lib.byteCells l) hrow ⟨w.heap.size, 0, none⟩ 4 4 [.int .u8 92, .int .u8 120, .int .u8 x, .int .u8 y] rfl hc (by simp [Value.oneCell']) (by unfold maxLen; omega) (by omega) (by have := hw.size; omega)
  exact ⟨v', w', hr, h2, (hw.mono hB).grown h3 (by have := hw.size; omega) (own_row_ge hrow)⟩

set_option maxRecDepth 100000 in
set_option maxHeartbeats 1000000 in
theorem quoted_hex (B : Nat) (v : Value) (l : Bs) (c : UInt8) (w : World) (hrow : w.ownsRow B 5 1 v l.length (Lib.byteCells l)) (hB : B ≤ w.heap.size) (hl : l.length ≤ 1000000000) (h1 : c.toNat ≠ 10) (h2 : c.toNat ≠ 9) (h3 : c.toNat ≠ 34) (h4 : c.toNat ≠ 92) (hp : plainB c = false) :
    Calls Tryz.prog 55 #[v, .int .u8 c.toNat] w (Grew w B (l ++ [92, 120, hexD (c.toNat / 16), hexD (c.toNat % 16)])) := by
  obtain ⟨i0, hi, hz0, hz1, hz2⟩ := info_parts info5
  have HI := Lib.hid (And.intro hi (And.intro hz0 (And.intro hz1 hz2)))
  have HP := plain_any c
  rw [hp] at HP
  have HP := Lib.hid HP
  have e1 : ((c.toNat : Int) == 10) = false := by simp; omega
  have e2 : ((c.toNat : Int) == 9) = false := by simp; omega
  have e3 : ((c.toNat : Int) == 34) = false := by simp; omega
  have e4 : ((c.toNat : Int) == 92) = false := by simp; omega
  clear hi hz0 hz1 hz2 h1 h2 h3 h4 hp
  have hlt : c.toNat < 256 := c.toNat_lt
  have hand : bits BinOp.and IntKind.u8 (c.toNat : Int) 15 = ((c.toNat % 16 : Nat) : Int) := and_all ⟨c.toNat, hlt⟩
  have hdiv : (c.toNat : Int) / 16 = ((c.toNat / 16 : Nat) : Int) := by omega
  obtain ⟨n1, hn1⟩ : ∃ n, c.toNat / 16 = n := ⟨_, rfl⟩
  obtain ⟨n2, hn2⟩ : ∃ n, c.toNat % 16 = n := ⟨_, rfl⟩
  have g1 : n1 < 16 := by omega
  have g2 : n2 < 16 := by omega
  simp only [hn1, hn2] at hand hdiv ⊢
  have k1 : (n1 : Int) < 16 := by omega
  have k2 : (n2 : Int) < 16 := by omega
  clear hn1 hn2
  go_enter Tryz.func55, Tryz.ntmps55
  go_wp2_with (go_at_call 73; refine (HP.out _).mono ?_; rintro e w' ⟨rfl, rfl⟩)
  go_region_law (refine step_app rfl (.tmp 32) (.tmp 39) 38 rfl v (.slice (some ⟨w.heap.size, 0, none⟩) 4 4) (by simp [Act.eval]) (by simp [Act.eval]) (App4 w B l _ _) (app4_run w _ B v l _ _ ((Below.refl _ w).drew.alloc (Nat.le_refl _) _) (hrow.alloc _) hB hl (cells_row w.drew _ 5)) ?_; intro v' w' hA)
  all_goals
    go_wp2
    go_ret
    refine ⟨v', rfl, ?_, hA.2⟩
    have := hA.1
    rw [hexAt n1 g1, hexAt n2 g2] at this
    simpa [Lib.byteCells] using this

theorem quotedByte_any (B : Nat) (v : Value) (l : Bs) (c : UInt8) (w : World) (hrow : w.ownsRow B 5 1 v l.length (Lib.byteCells l)) (hB : B ≤ w.heap.size) (hl : l.length ≤ 1000000000) :
    Calls Tryz.prog 55 #[v, .int .u8 c.toNat] w (Grew w B (l ++ quoteB c)) := by
  unfold quoteB
  by_cases h1 : c.toNat = 10
  · rw [if_pos h1]; exact quoted_two 110 B v l c w hrow hB hl (.inl ⟨h1, rfl⟩)
  · rw [if_neg h1]
    by_cases h2 : c.toNat = 9
    · rw [if_pos h2]; exact quoted_two 116 B v l c w hrow hB hl (.inr ⟨h2, rfl⟩)
    · rw [if_neg h2]
      by_cases h3 : c.toNat = 34 ∨ c.toNat = 92
      · rw [if_pos h3]; exact quoted_esc B v l c w hrow hB hl (by omega)
      · rw [if_neg h3]
        cases hp : plainB c with
        | true => rw [if_pos rfl]; exact quoted_plain B v l c w hrow hB hl h1 h2 (by omega) (by omega) hp
        | false => rw [if_neg (by simp)]; exact quoted_hex B v l c w hrow hB hl h1 h2 (by omega) (by omega) hp

theorem quoteB_len (c : UInt8) : (quoteB c).length ≤ 4 := by
  unfold quoteB
  repeat (first | split | simp)
theorem qflat_len : ∀ l : Bs, (l.flatMap quoteB).length ≤ 4 * l.length
  | [] => by simp
  | c :: r => by
    have := qflat_len r
    have := quoteB_len c
    simp only [List.flatMap_cons, List.length_append, List.length_cons]
    omega
def upTo (s : ByteArray) (k : Nat) : Bs := 34 :: (s.data.toList.take k).flatMap quoteB
theorem upTo_len (s : ByteArray) (k : Nat) : (upTo s k).length ≤ 1 + 4 * k := by
  have := qflat_len (s.data.toList.take k)
  have h2 : (s.data.toList.take k).length ≤ k := List.length_take_le _ _
  unfold upTo
  simp only [List.length_cons]
  omega
theorem upTo_snoc (s : ByteArray) (k : Nat) (h : k < s.size) : upTo s (k + 1) = upTo s k ++ quoteB s[k] := by
  unfold upTo
  rw [take_snoc s k h, List.flatMap_append]
  simp
theorem upTo_all (s : ByteArray) : upTo s s.size ++ [34] = quoteL s.data.toList := by
  unfold upTo quoteL
  rw [List.take_of_length_le (by rw [len_toList]; exact Nat.le_refl _)]
  simp

set_option maxRecDepth 100000 in
set_option maxHeartbeats 2000000 in
theorem quote_any (s : ByteArray) (w : World) (hs : s.size ≤ 200000000) :
    Calls Tryz.prog 30 #[.string s] w fun e w' => e = .returned (.string (bs (quoteL s.data.toList))) ∧ Below w.heap.size w w' := by
  obtain ⟨i0, hi, hz0, hz1, hz2⟩ := info_parts info5
  have HI := Lib.hid (And.intro hi (And.intro hz0 (And.intro hz1 hz2)))
  clear hi hz0 hz1 hz2
  go_enter Tryz.func30, Tryz.ntmps30
  go_wp2
  go_loopw [3, 8] (fun v i wr => ∃ k : Nat, k ≤ s.size ∧ i = .int .i64 k ∧ wr.ownsRow w.heap.size 5 1 v (upTo s k).length (Lib.byteCells (upTo s k)) ∧ Below w.heap.size w wr) (fun _ i _ => s.size - (intOf i).toNat)
  case atStart => exact ⟨0, Nat.zero_le _, rfl, ⟨rfl, .inr ⟨w.heap.size, 1, _, rfl, Nat.le_refl _, heap_alloc_new w _, Nat.le_refl _, by unfold maxLen; decide, rfl, rfl⟩⟩, (Below.refl _ w).alloc (Nat.le_refl _) _⟩
  case round =>
    obtain ⟨k, hk, rfl, hrow, hB⟩ := hrel
    have hul := upTo_len s k
    have hsz := hB.size
    by_cases hlt : k < s.size
    · have hq := quotedByte_any w.heap.size _ (upTo s k) s[k] wr hrow hB.size (by omega)
      rw [← upTo_snoc s k hlt] at hq
      have HQ := Lib.hid hq
      clear hq
      go_wp2_with (go_at_call 55; refine HQ.out.mono ?_; rintro e w1 ⟨v1, rfl, hr1, hb1⟩)
      go_roundw
      case rel => exact ⟨k + 1, by omega, by go_num, hr1, hB.trans hb1⟩
      case measure => simp [intOf]; omega
    · have hlen : (upTo s k).length + 1 ≤ 1000000000 := by omega
      obtain rfl : k = s.size := by omega
      have HU := Lib.hid (upTo_all s)
      clear hul
      go_wp2_with (at_builtin; refine wpList_append_own _ rfl _ _ 38 rfl w.heap.size 5 i0 (.int .u8 0) 1 1 Tryz.underlying38 HI.out.1 HI.out.2.1 HI.out.2.2.1 HI.out.2.2.2 rfl (by decide) _ _ _ rfl (hrow.alloc _) ⟨wr.heap.size, 0, none⟩ 1 1 [.int .u8 34] rfl rfl (cell_one_new _ _ _) (by simp [Value.oneCell']) (by unfold maxLen; omega) (by omega) (by simp; omega) ?_; intro v' w' hown hg _; have hcv := byteRow_str (W := w') (B := w.heap.size) (v := v') (l := upTo s s.size ++ [34]) (by simpa [Lib.byteCells] using hown); have HG := Lib.hid (And.intro hown hg); clear hown hg)
      go_ret
      exact ⟨ret_s (by rw [HU.out]), (hB.alloc hB.size _).grown HG.out.2 (by simp; omega) (own_row_ge hrow)⟩
end Go.Proofs.YtconnhphkbgbkaaGreatDoor
