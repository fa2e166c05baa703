/- JtreeHigh. -/
import Derived.Test.YtiejpenffpjmeaaDoorHead
import Derived.Test.YtiejpenffpjmeaaDoorLo
import Derived.Deep.DeepMust
namespace Go.Proofs.YtiejpenffpjmeaaDoor
set_option linter.unusedSimpArgs false
set_option linter.unusedVariables false
open Go.RowKit Go.Proofs

/-- So many levels of one operation around a tree. -/
def tower (op : Int) (t : Tr) : Nat → Tr
  | 0 => t
  | k + 1 => .mk op [] 0 0 [tower op t k]

/-- What a round keeps: in the box the tower so far. -/
def Built (op : Int) (t : Tr) (B k : Nat) (w : World) (wr : World) : Prop :=
  ∃ x : Lo, x.tree = tower op t k ∧ LoAt wr (fun g => g ≠ B ∧ g < wr.heap.size) x ∧ wr.heap[B]? = some (.cells #[.int .i64 x.op, .string (bs x.s), .int .i64 x.n, x.v, .int .i64 x.line] 24 (0, 0)) ∧ Below w.heap.size w wr ∧ w.heap.size ≤ B

theorem Built.start (op : Int) (t : Tr) (u : Value) (w W : World) (hb : Below w.heap.size w W) (hAt : At W W.heap.size t (nodeV t u)) :
    Built op t W.heap.size 0 w (W.alloc (.cells #[.int .i64 t.op, .string (bs t.s), .int .i64 t.n, u, .int .i64 t.line] 24)) := by
  obtain ⟨x, hx, hv, hLo⟩ := Lo.of_at t hAt
  have hbb := (Below.refl _ W).alloc (Nat.le_refl _) (.cells #[.int .i64 t.op, .string (bs t.s), .int .i64 t.n, u, .int .i64 t.line] 24)
  rw [val_eq, hx] at hv
  have hu : x.v = u := by
    unfold nodeV at hv
    simpa using hv
  have h0 : t.op = x.op ∧ t.s = x.s ∧ t.n = x.n ∧ t.line = x.line := by rw [← hx, tree_eq]; exact ⟨rfl, rfl, rfl, rfl⟩
  refine ⟨x, hx, LoAt.keep x hLo (fun g hg => ⟨by omega, by rw [World.size_alloc]; omega⟩) (fun p hp => hbb.cell hp), ?_, hb.trans (hbb.mono hb.size), hb.size⟩
  rw [hu, ← h0.1, ← h0.2.1, ← h0.2.2.1, ← h0.2.2.2]
  exact heap_alloc_new W _
theorem Built.below {op : Int} {t : Tr} {B k : Nat} {w W W' : World} (h : Built op t B k w W) (hB : B < W.heap.size) (hb : Below W.heap.size W W') : Built op t B k w W' := by
  obtain ⟨x, hx, hLo, hbox, hbel, hle⟩ := h
  exact ⟨x, hx, LoAt.keep x hLo (fun g hg => ⟨hg.1, Nat.lt_of_lt_of_le hg.2 hb.size⟩) (fun p hp => hb.cell hp.2), (hb.block B hB).trans hbox, hbel.trans (hb.mono hbel.size), hle⟩
theorem Built.lt {op : Int} {t : Tr} {B k : Nat} {w W : World} (h : Built op t B k w W) : B < W.heap.size := by
  obtain ⟨x, _, _, hbox, _⟩ := h
  exact (Array.getElem?_eq_some_iff.1 hbox).1
theorem box_facts {W : World} {B : Nat} {a b c d e : Value} (h : W.heap[B]? = some (.cells #[a, b, c, d, e] 24 (0, 0))) :
    (W.cell? ⟨B, 0, none⟩ = some a ∧ W.cell? ⟨B, 1, none⟩ = some b ∧ W.cell? ⟨B, 2, none⟩ = some c ∧ W.cell? ⟨B, 3, none⟩ = some d ∧ W.cell? ⟨B, 4, none⟩ = some e) ∧
    (W.frozen? ⟨B, 0, none⟩ = false ∧ W.frozen? ⟨B, 1, none⟩ = false ∧ W.frozen? ⟨B, 2, none⟩ = false ∧ W.frozen? ⟨B, 3, none⟩ = false ∧ W.frozen? ⟨B, 4, none⟩ = false) :=
  ⟨⟨cell_of_row W B 0 _ _ _ h, cell_of_row W B 1 _ _ _ h, cell_of_row W B 2 _ _ _ h, cell_of_row W B 3 _ _ _ h, cell_of_row W B 4 _ _ _ h⟩, by simp [World.frozen?, h]⟩
theorem Built.step {op : Int} {t : Tr} {B k : Nat} {w wr : World} {x : Lo} (hop : -9223372036854775808 ≤ op ∧ op ≤ 9223372036854775807) (hx : x.tree = tower op t k) (hLo : LoAt wr (fun g => g ≠ B ∧ g < wr.heap.size) x)
    (hbox : wr.heap[B]? = some (.cells #[.int .i64 x.op, .string (bs x.s), .int .i64 x.n, x.v, .int .i64 x.line] 24 (0, 0))) (hbel : Below w.heap.size w wr) (hle : w.heap.size ≤ B) :
    Built op t B (k + 1) w ((((((wr.setCell ⟨B, 0, none⟩ (.int .i64 op)).setCell ⟨B, 1, none⟩ (.string ⟨#[]⟩)).setCell ⟨B, 2, none⟩ (.int .i64 0)).setCell ⟨B, 3, none⟩ (.slice (some ⟨wr.heap.size, 0, none⟩) 1 1)).setCell ⟨B, 4, none⟩ (.int .i64 0)).alloc
      (.cells #[.int .i64 x.op, .string (bs x.s), .int .i64 x.n, x.v, .int .i64 x.line] 24)) := by
  have hb : Below w.heap.size w (((((wr.setCell ⟨B, 0, none⟩ (.int .i64 op)).setCell ⟨B, 1, none⟩ (.string ⟨#[]⟩)).setCell ⟨B, 2, none⟩ (.int .i64 0)).setCell ⟨B, 3, none⟩ (.slice (some ⟨wr.heap.size, 0, none⟩) 1 1)).setCell ⟨B, 4, none⟩ (.int .i64 0)) :=
    ((((hbel.setCell (p := ⟨B, 0, none⟩) hle _).setCell (p := ⟨B, 1, none⟩) hle _).setCell (p := ⟨B, 2, none⟩) hle _).setCell (p := ⟨B, 3, none⟩) hle _).setCell (p := ⟨B, 4, none⟩) hle _
  have hz : (((((wr.setCell ⟨B, 0, none⟩ (.int .i64 op)).setCell ⟨B, 1, none⟩ (.string ⟨#[]⟩)).setCell ⟨B, 2, none⟩ (.int .i64 0)).setCell ⟨B, 3, none⟩ (.slice (some ⟨wr.heap.size, 0, none⟩) 1 1)).setCell ⟨B, 4, none⟩ (.int .i64 0)).heap.size = wr.heap.size := by simp
  have hB : (((((wr.setCell ⟨B, 0, none⟩ (.int .i64 op)).setCell ⟨B, 1, none⟩ (.string ⟨#[]⟩)).setCell ⟨B, 2, none⟩ (.int .i64 0)).setCell ⟨B, 3, none⟩ (.slice (some ⟨wr.heap.size, 0, none⟩) 1 1)).setCell ⟨B, 4, none⟩ (.int .i64 0)).heap[B]? = some (.cells #[.int .i64 op, .string ⟨#[]⟩, .int .i64 0, .slice (some ⟨wr.heap.size, 0, none⟩) 1 1, .int .i64 0] 24 (0, 0)) :=
    heap_setCell_same _ B 4 _ _ _ (heap_setCell_same _ B 3 _ _ _ (heap_setCell_same _ B 2 _ _ _ (heap_setCell_same _ B 1 _ _ _ (heap_setCell_same _ B 0 _ _ (.int .i64 op) hbox))))
  have hO : ∀ g, g ≠ B → (((((wr.setCell ⟨B, 0, none⟩ (.int .i64 op)).setCell ⟨B, 1, none⟩ (.string ⟨#[]⟩)).setCell ⟨B, 2, none⟩ (.int .i64 0)).setCell ⟨B, 3, none⟩ (.slice (some ⟨wr.heap.size, 0, none⟩) 1 1)).setCell ⟨B, 4, none⟩ (.int .i64 0)).heap[g]? = wr.heap[g]? := by
    intro g hg
    rw [heap_setCell_other _ _ _ _ hg, heap_setCell_other _ _ _ _ hg, heap_setCell_other _ _ _ _ hg, heap_setCell_other _ _ _ _ hg, heap_setCell_other _ _ _ _ hg]
  obtain ⟨W5, e5⟩ : ∃ W, (((((wr.setCell ⟨B, 0, none⟩ (.int .i64 op)).setCell ⟨B, 1, none⟩ (.string ⟨#[]⟩)).setCell ⟨B, 2, none⟩ (.int .i64 0)).setCell ⟨B, 3, none⟩ (.slice (some ⟨wr.heap.size, 0, none⟩) 1 1)).setCell ⟨B, 4, none⟩ (.int .i64 0)) = W := ⟨_, rfl⟩
  rw [e5] at hb hz hB hO ⊢
  have hBl : B < wr.heap.size := (Array.getElem?_eq_some_iff.1 hbox).1
  have hnew : (W5.alloc (.cells #[.int .i64 x.op, .string (bs x.s), .int .i64 x.n, x.v, .int .i64 x.line] 24)).heap[wr.heap.size]? = some (.cells #[.int .i64 x.op, .string (bs x.s), .int .i64 x.n, x.v, .int .i64 x.line] 24 (0, 0)) := by rw [← hz]; exact heap_alloc_new W5 _
  have hbb := (Below.refl _ W5).alloc (Nat.le_refl _) (.cells #[.int .i64 x.op, .string (bs x.s), .int .i64 x.n, x.v, .int .i64 x.line] 24)
  have hsz : (W5.alloc (.cells #[.int .i64 x.op, .string (bs x.s), .int .i64 x.n, x.v, .int .i64 x.line] 24)).heap.size = wr.heap.size + 1 := by rw [World.size_alloc, hz]
  obtain ⟨W6, e6⟩ : ∃ W, W5.alloc (.cells #[.int .i64 x.op, .string (bs x.s), .int .i64 x.n, x.v, .int .i64 x.line] 24) = W := ⟨_, rfl⟩
  rw [e6] at hnew hbb hsz ⊢
  refine ⟨.mk op [] 0 0 (.slice (some ⟨wr.heap.size, 0, none⟩) 1 1) [x], ?_, ?_, ?_, hb.trans (hbb.mono hb.size), hle⟩
  · rw [tree_eq]
    show Tr.mk op [] 0 0 [x.tree] = _
    rw [hx]
    rfl
  · rw [LoAt_iff]
    refine ⟨fine_by op [] 0 (by decide) hop (by decide), _, 1, rfl, ⟨Nat.le_refl _, by decide⟩, fun _ => ⟨wr.heap.size, 0, rfl, ⟨by omega, by omega⟩, ?_⟩⟩
    show LoAtL W6 _ wr.heap.size 0 [x]
    rw [LoAtL_cons]
    refine ⟨⟨LoAt.keep x hLo (fun g hg => ⟨hg.1, by omega⟩) fun p hp => ?_, cell_of_row _ _ 0 _ _ _ hnew, cell_of_row _ _ 1 _ _ _ hnew, cell_of_row _ _ 2 _ _ _ hnew, cell_of_row _ _ 3 _ _ _ hnew, cell_of_row _ _ 4 _ _ _ hnew⟩, LoAtL_nil _ _ _ _⟩
    have h1 := hbb.cell (p := p) (by rw [hz]; exact hp.2)
    rw [h1]
    unfold World.cell?
    rw [hO p.block hp.1]
  · exact (hbb.block B (by rw [hz]; exact hBl)).trans hB
theorem tower_size (op : Int) (t : Tr) : ∀ k, (tower op t k).size = k + t.size
  | 0 => by simp [tower]
  | k + 1 => by rw [tower, size_mk, sizes_cons, sizes_nil, tower_size op t k]; omega

def tE : Tr := .mk 32 [] 0 0 []
theorem high_right (k : Nat) (h1 : 89 ≤ k) (h2 : k ≤ 109) : rightE (tower 19 tA k) = decide (k + 1 ≤ 100) ∧ rightP (tower 32 tE k) = decide (k + 1 ≤ 100) := by
  have h : ((List.range 110).all fun k => decide (k < 89) || (rightE (tower 19 tA k) == decide (k + 1 ≤ 100) && rightP (tower 32 tE k) == decide (k + 1 ≤ 100))) = true := by kernel_rfl
  rw [List.all_eq_true] at h
  have := h k (by rw [List.mem_range]; omega)
  simp only [Bool.or_eq_true, Bool.and_eq_true, decide_eq_true_eq, beq_iff_eq] at this
  rcases this with h | h
  · omega
  · exact h

set_option maxRecDepth 100000 in
set_option maxHeartbeats 4000000 in
theorem high_in (N : Nat) (hn : 90 ≤ N) (hn2 : N ≤ 110) (w : World) (he : Env w) (h1 : 1 ≤ w.heap.size) : Calls Tryd.prog 9 #[.int .i64 N] w fun e w' => e = .returned (.bool true) ∧ Below w.heap.size w w' := by
  have HI := Lib.hid id_any
  have HS := Lib.hid (And.intro (shown_any w he h1) (And.intro he h1))
  clear he h1
  go_enter Tryd.func9, Tryd.ntmps9
  go_wp2_with fail
  go_at_call 10
  refine HS.out.1.mono ?_
  rintro e w1 ⟨rfl, hb1⟩
  have HB1 := Lib.hid hb1
  clear hb1
  go_wp2_with fail
  go_at_call 25
  refine (HI.out _ _).mono ?_
  rintro e w2 ⟨rfl, hb2⟩
  have HB2 := Lib.hid (HB1.out.trans (hb2.mono HB1.out.size))
  clear hb2
  obtain ⟨B, eB⟩ : ∃ B, w2.heap.size = B := ⟨_, rfl⟩
  have HST := Lib.hid (Built.start 19 tA (.slice none 0 0) w w2 HB2.out (at_lit tA _ (row_none _ _) (fine_by _ _ _ (by decide) (by decide) (by decide))))
  rw [eB] at HST
  go_wp2
  clear eB
  go_loopw [5] (fun i wr => ∃ k : Nat, i = .int .i64 ((k + 1 : Nat) : Int) ∧ k + 1 ≤ N ∧ RowKit.Hid (Built 19 tA B k w wr)) (fun i _ => N - (intOf i).toNat)
  case atStart => exact ⟨0, rfl, by omega, HST⟩
  case round =>
    obtain ⟨k, rfl, hk, hrel⟩ := hrel
    by_cases hlt : k + 1 < N
    · obtain ⟨x, hx, hLo, hbox, hbel, hle⟩ := hrel.out
      obtain ⟨⟨f0, f1, f2, f3, f4⟩, ⟨z0, z1, z2, z3, z4⟩⟩ := box_facts hbox
      have hBlt : B < wr.heap.size := hrel.out.lt
      have HX := Lib.hid (And.intro hx (And.intro hLo (And.intro hbel hle)))
      clear hx hLo hbel hle
      go_wp2
      go_roundw
      case rel => exact ⟨k + 1, by simp, by omega, Lib.hid (Built.step (by decide) HX.out.1 HX.out.2.1 hbox HX.out.2.2.1 HX.out.2.2.2)⟩
      case measure => simp [intOf]; omega
    · obtain rfl : N = k + 1 := by omega
      clear hlt hk
      have HREL := hrel
      clear hrel
      obtain ⟨W1, eW⟩ : ∃ x, x = wr := ⟨_, rfl⟩
      subst eW
      obtain ⟨B2, eB2⟩ : ∃ B, W1.heap.size = B := ⟨_, rfl⟩
      have HST2 := Lib.hid (Built.start 32 tE (.slice none 0 0) W1 W1 (Below.refl _ _) (at_lit tE _ (row_none _ _) (fine_by _ _ _ (by decide) (by decide) (by decide))))
      rw [eB2] at HST2
      have HB0 := Lib.hid eB2
      go_wp2
      clear eB2
      go_loopw [7] (fun i wr => ∃ j : Nat, i = .int .i64 ((j + 1 : Nat) : Int) ∧ j + 1 ≤ k + 1 ∧ RowKit.Hid (Built 32 tE B2 j W1 wr)) (fun i _ => k + 1 - (intOf i).toNat)
      case atStart => exact ⟨0, rfl, by omega, HST2⟩
      case round =>
        obtain ⟨j, rfl, hj, hrel2⟩ := hrel
        by_cases hlt : j + 1 < k + 1
        · obtain ⟨x, hx, hLo, hbox, hbel, hle⟩ := hrel2.out
          obtain ⟨⟨f0, f1, f2, f3, f4⟩, ⟨z0, z1, z2, z3, z4⟩⟩ := box_facts hbox
          have hBlt : B2 < wr.heap.size := hrel2.out.lt
          have HX := Lib.hid (And.intro hx (And.intro hLo (And.intro hbel hle)))
          clear hx hLo hbel hle
          go_wp2
          go_roundw
          case rel => exact ⟨j + 1, by simp, by omega, Lib.hid (Built.step (by decide) HX.out.1 HX.out.2.1 hbox HX.out.2.2.1 HX.out.2.2.2)⟩
          case measure => simp [intOf]; omega
        · obtain rfl : j = k := by omega
          clear hlt hj
          obtain ⟨x2, hx2, hLo2, hbox2, hbel2, -⟩ := hrel2.out
          obtain ⟨x1, hx1, hLo1, hbox1, hbel1, -⟩ := HREL.out.below HREL.out.lt hbel2
          obtain ⟨hr1, hr2⟩ := high_right j (by omega) (by omega)
          have c1 := rightE_any x1.tree x1.val wr (LoAt.at_ x1 hLo1 fun g hg => hg.2) (by rw [hx1, tower_size, show tA.size = 1 from by kernel_rfl]; omega)
          have c2 := fun (w8 : World) (hb : Below wr.heap.size wr w8) => right_any x2.tree x2.val w8 (LoAt.at_ x2 (LoAt.keep x2 hLo2 (fun g hg => hg) (fun p hp => hb.cell hp.2)) fun g hg => Nat.lt_of_lt_of_le hg.2 hb.size) (by rw [hx2, tower_size, show tE.size = 1 from by kernel_rfl]; omega)
          rw [hx1, hr1] at c1
          rw [hx2, hr2] at c2
          unfold Lo.val at c1 c2
          obtain ⟨⟨f0, f1, f2, f3, f4⟩, -⟩ := box_facts hbox1
          have hl2 := hrel2.out.lt
          by_cases h100 : j + 1 ≤ 100
          · rw [decide_eq_true h100] at c1 c2
            have HC := Lib.hid (And.intro c1 (And.intro c2 (And.intro hbox2 (And.intro hbel1 hl2))))
            clear c1 c2 hbel1 hbel2 hLo1 hLo2 hx1 hx2 hbox1 hbox2 hl2 hr1 hr2
            go_wp2_with fail
            go_at_call 14
            refine HC.out.1.mono ?_
            rintro e w8 ⟨rfl, hb8⟩
            have c2 := HC.out.2.1 w8 hb8
            obtain ⟨⟨g0, g1, g2, g3, g4⟩, -⟩ := box_facts ((hb8.block B2 HC.out.2.2.2.2).trans HC.out.2.2.1)
            have HC2 := Lib.hid c2
            have HB8 := Lib.hid (HC.out.2.2.2.1.trans (hb8.mono HC.out.2.2.2.1.size))
            clear c2 hb8
            go_wp2_with fail
            go_at_call 12
            refine HC2.out.mono ?_
            rintro e w9 ⟨rfl, hb9⟩
            have HB9 := Lib.hid (HB8.out.trans (hb9.mono HB8.out.size))
            clear hb9
            go_wp2
            go_ret
            exact ⟨by first | rfl | (simp; done) | (simp; omega), HB9.out⟩
          · rw [decide_eq_false h100] at c1 c2
            have HC := Lib.hid (And.intro c1 (And.intro c2 (And.intro hbox2 (And.intro hbel1 hl2))))
            clear c1 c2 hbel1 hbel2 hLo1 hLo2 hx1 hx2 hbox1 hbox2 hl2 hr1 hr2
            go_wp2_with fail
            go_at_call 14
            refine HC.out.1.mono ?_
            rintro e w8 ⟨rfl, hb8⟩
            have c2 := HC.out.2.1 w8 hb8
            obtain ⟨⟨g0, g1, g2, g3, g4⟩, -⟩ := box_facts ((hb8.block B2 HC.out.2.2.2.2).trans HC.out.2.2.1)
            have HC2 := Lib.hid c2
            have HB8 := Lib.hid (HC.out.2.2.2.1.trans (hb8.mono HC.out.2.2.2.1.size))
            clear c2 hb8
            go_wp2_with fail
            go_at_call 12
            refine HC2.out.mono ?_
            rintro e w9 ⟨rfl, hb9⟩
            have HB9 := Lib.hid (HB8.out.trans (hb9.mono HB8.out.size))
            clear hb9
            go_wp2
            go_ret
            exact ⟨by first | rfl | (simp; done) | (simp; omega), HB9.out⟩

set_option maxRecDepth 100000 in
set_option maxHeartbeats 4000000 in
theorem high_any (n : Int) (w : World) (he : Env w) (h1 : 1 ≤ w.heap.size) : Calls Tryd.prog 9 #[.int .i64 n] w fun e w' => e = .returned (.bool true) ∧ Below w.heap.size w w' := by
  by_cases ha : n < 90
  · have HS := Lib.hid (shown_any w he h1)
    clear he h1
    go_enter Tryd.func9, Tryd.ntmps9
    go_wp2_with (go_at_call 10; refine HS.out.mono ?_; rintro e w1 ⟨rfl, hb1⟩)
    go_ret
    exact ⟨rfl, hb1⟩
  · by_cases hb : 110 < n
    · have HS := Lib.hid (shown_any w he h1)
      clear he h1
      go_enter Tryd.func9, Tryd.ntmps9
      go_wp2_with (go_at_call 10; refine HS.out.mono ?_; rintro e w1 ⟨rfl, hb1⟩)
      go_ret
      exact ⟨rfl, hb1⟩
    · obtain ⟨N, rfl⟩ : ∃ N : Nat, n = N := ⟨n.toNat, by omega⟩
      exact high_in N (by omega) (by omega) w he h1
end Go.Proofs.YtiejpenffpjmeaaDoor
