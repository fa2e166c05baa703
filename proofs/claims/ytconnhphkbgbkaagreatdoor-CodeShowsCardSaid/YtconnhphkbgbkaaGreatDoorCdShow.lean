/- code.Show: a code's text. -/
import Derived.Test.YtconnhphkbgbkaaGreatDoorCdLine
import Derived.Test.YtconnhphkbgbkaaGreatDoorCdRight
namespace Go.Proofs.YtconnhphkbgbkaaGreatDoor
open Go.RowKit Go.Proofs

theorem builder_below {T e : TypeId} {B b : Nat} {bs : List Value} {w w' : World} (h : Lib.IsBuilderF T e B b bs w) (hb : Below w.heap.size w w') : Lib.IsBuilderF T e B b bs w' := by
  have key : ∀ p, Lib.BuilderAtF T e B b p bs w → Lib.BuilderAtF T e B b p bs w' := by
    rintro p ⟨h1, v, h2, ⟨h3, h4⟩, h5⟩
    refine ⟨h1, v, (hb.block _ (heap_lt h2)).trans h2, ⟨h3, ?_⟩, h5⟩
    rcases h4 with h | ⟨g, cap, cur, fz, rfl, h6, h7, h8⟩
    · exact .inl h
    · exact .inr ⟨g, cap, cur, fz, rfl, h6, (hb.block _ (heap_lt h7)).trans h7, h8⟩
  exact h.imp (key _) (key _)
theorem heap_lt_builder {T e : TypeId} {B b : Nat} {bs : List Value} {w : World} (h : Lib.IsBuilderF T e B b bs w) : b < w.heap.size := by
  rcases h with ⟨_, v, h, _⟩ | ⟨_, v, h, _⟩ <;> exact heap_lt h
theorem strCells_eq (l : Bs) : Lib.strCells (bs l) = Lib.byteCells l := by simp [Lib.strCells, Lib.byteCells, bs]
theorem byteCells_app (a b : Bs) : Lib.byteCells a ++ Lib.byteCells b = Lib.byteCells (a ++ b) := by simp [Lib.byteCells]
theorem byteCells_len (a : Bs) : (Lib.byteCells a).length = a.length := by simp [Lib.byteCells]
/-- The builder's next text. -/
theorem write_any (b : Nat) (t l : Bs) (w : World) (h : Lib.IsBuilderF 40 5 b b (Lib.byteCells t) w) (ht : t.length ≤ 100000000) (hl : l.length ≤ 100000000) (hb : b ≤ w.heap.size) :
    Calls Tryz.prog 12 #[.pointer (some ⟨b, 0, none⟩), .string (bs l)] w fun e w' => (∃ v, e = .returned v) ∧ (Lib.IsBuilderF 40 5 b b (Lib.byteCells (t ++ l)) w' ∧ Below b w w' ∧ Lib.OthersKept 5 (some b) w w') := by
  refine (Tryz.Builder_WriteString_k b b _ (bs l) w h (by rw [byteCells_len, bs_size]; omega) hb).mono ?_
  rintro e w' ⟨h1, h2, h3, h4⟩
  rw [strCells_eq, byteCells_app] at h2
  exact ⟨⟨_, h1⟩, .inr h2, h3, h4⟩

/-- A code that is small, as the laws have it. -/
def smallP (p : Proc) : Bool := decide (p.ins.length ≤ 60) && p.ins.all fun x => decide (x.l.length ≤ 20) && decide (x.s.size ≤ 100)
def smallC (l : List Proc) : Bool := decide (l.length ≤ 15) && l.all smallP
theorem itoa_len9 (n : Int) (h : I64 n) : (Lib.itoa n).length ≤ 21 := Lib.itoa_length_le n h.1 h.2
theorem flat_len {α : Type} (f : α → Bs) (c : Nat) : ∀ l : List α, (∀ x ∈ l, (f x).length ≤ c) → (l.flatMap f).length ≤ l.length * c
  | [], _ => by simp
  | a :: r, h => by
    have h1 := h a List.mem_cons_self
    have h2 := flat_len f c r fun x hx => h x (List.mem_cons_of_mem _ hx)
    rw [List.flatMap_cons, List.length_append, List.length_cons, Nat.add_mul]
    omega
def Ins.FineL (x : Ins) : Prop := x.Fine ∧ ∀ n ∈ x.l, I64 n
def FineC (l : List Proc) : Prop := ∀ p ∈ l, I64 p.regs ∧ ∀ x ∈ p.ins, x.FineL
theorem ints_fine {w : World} {v : Value} {l : List Int} (h : Ints9 w v l) : ∀ n ∈ l, I64 n := fun n hn => by
  obtain ⟨A, cap, rfl⟩ := SlAt.form h
  obtain ⟨i, hi, e⟩ := List.mem_iff_getElem.1 hn
  obtain ⟨g, off, x, -, -, hx, hxi, -⟩ := int_get h i hi
  rw [List.getElem?_eq_getElem hi, e] at hx
  cases hx
  exact hxi
theorem ins_fine {w : World} {v : Value} {l : List Ins} (h : SlAt 8 InsP w v l) : ∀ x ∈ l, x.FineL := fun x hx => by
  obtain ⟨A, cap, rfl⟩ := SlAt.form h
  obtain ⟨i, hi, e⟩ := List.mem_iff_getElem.1 hx
  obtain ⟨g, off, y, A2, c2, -, -, hy, h1, h2, -⟩ := ins_get h i hi
  rw [List.getElem?_eq_getElem hi, e] at hy
  cases hy
  exact ⟨h2, ints_fine h1⟩
theorem code_fine {w : World} {v : Value} {l : List Proc} (h : CodeAt w v l) : FineC l := fun p hp => by
  obtain ⟨A, cap, rfl⟩ := SlAt.form h
  obtain ⟨i, hi, e⟩ := List.mem_iff_getElem.1 hp
  obtain ⟨g, off, y, A2, c2, -, -, hy, h1, h2, -⟩ := CodeAt.get h i hi
  rw [List.getElem?_eq_getElem hi, e] at hy
  cases hy
  exact ⟨h2, ins_fine h1⟩
def shortI (x : Ins) : Bool := decide (x.l.length ≤ 20) && decide (x.s.size ≤ 100)
theorem quote_len9 (s : Bs) : (quoteL s).length ≤ 4 * s.length + 2 := by
  have := qflat_len s
  unfold quoteL
  simp only [List.length_append, List.length_cons, List.length_nil]
  omega
theorem insT_len (x : Ins) (hf : x.FineL) (h1 : x.l.length ≤ 20) (h2 : x.s.size ≤ 100) : (insT x).length ≤ 1000 := by
  have h3 := flat_len (fun n => Lib.itoa n ++ [32]) 22 ([x.op, x.d, x.a, x.b, x.c, x.n] ++ x.l) (fun n hn => by
    have : I64 n := by
      rcases List.mem_append.1 hn with h | h
      · simp only [List.mem_cons, List.not_mem_nil, or_false] at h
        obtain ⟨⟨⟨a, b, c, d, e, f⟩, -⟩, -⟩ := hf
        rcases h with rfl | rfl | rfl | rfl | rfl | rfl <;> assumption
      · exact hf.2 n h
    have := itoa_len9 n this
    simp
    omega)
  have h4 := quote_len9 x.s.data.toList
  rw [len_toList] at h4
  simp only [List.length_append, List.length_cons, List.length_nil] at h3
  unfold insT spaced
  simp only [List.length_append, List.length_cons, List.length_nil]
  omega
theorem smallP_iff {p : Proc} : smallP p = true ↔ p.ins.length ≤ 60 ∧ ∀ x ∈ p.ins, x.l.length ≤ 20 ∧ x.s.size ≤ 100 := by simp [smallP]
theorem smallC_iff {l : List Proc} : smallC l = true ↔ l.length ≤ 15 ∧ ∀ p ∈ l, smallP p = true := by simp [smallC]
theorem insL_len (l : List Ins) (hf : ∀ x ∈ l, x.FineL) (h : ∀ x ∈ l, x.l.length ≤ 20 ∧ x.s.size ≤ 100) (hl : l.length ≤ 60) : (l.flatMap insT).length ≤ 60000 := by
  have := flat_len insT 1000 l fun x hx => insT_len x (hf x hx) (h x hx).1 (h x hx).2
  have : l.length * 1000 ≤ 60 * 1000 := Nat.mul_le_mul_right _ hl
  omega
theorem procT_len (p : Proc) (hf : I64 p.regs ∧ ∀ x ∈ p.ins, x.FineL) (h : smallP p = true) : (procT p).length ≤ 60100 := by
  rw [smallP_iff] at h
  have h1 := insL_len p.ins hf.2 h.2 h.1
  have h2 := itoa_len9 p.regs hf.1
  unfold procT
  simp only [List.length_append, List.length_cons, List.length_nil]
  omega
theorem codeT_len (l : List Proc) (hf : FineC l) (h : smallC l = true) : (codeT l).length ≤ 1000000 := by
  rw [smallC_iff] at h
  have := flat_len procT 60100 l fun p hp => procT_len p (hf p hp) (h.2 p hp)
  have : l.length * 60100 ≤ 15 * 60100 := Nat.mul_le_mul_right _ h.1
  unfold codeT
  omega
theorem flat_take {α : Type} (f : α → Bs) {l : List α} {k : Nat} {x : α} (h : l[k]? = some x) : (l.take (k + 1)).flatMap f = (l.take k).flatMap f ++ f x := by
  rw [List.take_add_one, h, List.flatMap_append]
  simp
theorem flat_take_le {α : Type} (f : α → Bs) (l : List α) (k : Nat) : ((l.take k).flatMap f).length ≤ (l.flatMap f).length := by
  conv => rhs; rw [← List.take_append_drop k l, List.flatMap_append, List.length_append]
  omega
/-- What Show gives. -/
def showV (l : List Proc) : Value := .tuple #[.string (bs (if rightC l = true then codeT l else [])), .int .i64 (if rightC l = true then 0 else 90)]

set_option maxRecDepth 100000 in
set_option maxHeartbeats 4000000 in
theorem show_any (v : Value) (l : List Proc) (w : World) (hl : CodeAt w v l) (hE : Env w) (hs : smallC l = true) :
    Calls Tryz.prog 6 #[v] w fun e w' => e = .returned (showV l) ∧ Below w.heap.size w w' := by
  have HF := Lib.hid (code_fine hl)
  have hlen := codeT_len l HF.out hs
  obtain ⟨A, cap, rfl⟩ := SlAt.form hl
  obtain ⟨-, hca, hcm, -⟩ := SlAt.get hl
  have hm1 : cap ≤ 9223372036854775807 := hcm
  have HR := Lib.hid (right_any (.slice A l.length cap) l w hl)
  have HL := Lib.hid hl
  have HE := Lib.hid hE
  have HS := Lib.hid (smallC_iff.1 hs)
  have HLen := Lib.hid hlen
  clear hl hE hs hcm hlen
  obtain ⟨q, hq⟩ : ∃ q, rightC l = q := ⟨_, rfl⟩
  rw [hq] at HR
  have HQ := Lib.hid hq
  clear hq
  cases q with
  | false =>
    have HV := Lib.hid (show showV l = .tuple #[.string ⟨#[]⟩, .int .i64 90] by unfold showV; rw [HQ.out]; rfl)
    go_enter Tryz.func6, Tryz.ntmps6
    go_wp2_with (go_at_call 11; refine HR.out.mono ?_; rintro e w1 ⟨rfl, hb1⟩)
    refine bodyPost_ret (results_tmp2 rfl _ _ _) rfl ?_
    exact ⟨by rw [HV.out]; rfl, hb1⟩
  | true =>
    have HV := Lib.hid (show showV l = .tuple #[.string (bs (codeT l)), .int .i64 0] by unfold showV; rw [HQ.out]; rfl)
    go_enter Tryz.func6, Tryz.ntmps6
    go_wp2_with (go_at_call 11; refine HR.out.mono ?_; rintro e w1 ⟨rfl, hb1⟩; have HB1 := Lib.hid hb1; clear hb1)
    go_loopw [14] (fun i wr => ∃ k : Nat, k ≤ l.length ∧ i = .int .i64 k ∧ Lib.IsBuilderF 40 5 w1.heap.size w1.heap.size (Lib.byteCells (codeT (l.take k))) wr ∧ Below w1.heap.size w1 wr ∧ w1.heap.size < wr.heap.size) (fun i _ => l.length - (intOf i).toNat)
    case atStart => exact ⟨0, Nat.zero_le _, rfl, Lib.IsBuilderF.of (Lib.fresh_isBuilder _ _ _), below_box _ _, by simp⟩
    case round =>
      obtain ⟨k, hk, rfl, hbl, hB, hz⟩ := hrel
      have HO := Lib.hid (And.intro hbl (And.intro hB hz))
      clear hbl hB hz
      by_cases hlt : k < l.length
      · obtain ⟨g, off, p, A', cx, rfl, hg, hp, hsl, hr, c0, c1⟩ := CodeAt.get HL.out k hlt
        have hBw := HB1.out.trans (HO.out.2.1.mono HB1.out.size)
        rw [← hBw.cell (p := ⟨g, off + k * 2, none⟩) hg] at c0
        rw [← hBw.cell (p := ⟨g, off + k * 2 + 1, none⟩) hg] at c1
        obtain ⟨-, hpa, hpm, -⟩ := SlAt.get hsl
        have hpm1 : cx ≤ 9223372036854775807 := hpm
        have g1 : (k : Int) < l.length := by omega
        have HP := Lib.hid (And.intro hp (And.intro hsl hr))
        have hal := below_box wr (.cells #[.int .i64 p.regs, .slice A' p.ins.length cx] 36)
        have HA := Lib.hid (And.intro hal (heap_alloc_new wr (.cells #[.int .i64 p.regs, .slice A' p.ins.length cx] 36)))
        have HI := Lib.hid (itoa_any p.regs hr _ (HE.out.kept (hBw.trans (hal.mono hBw.size))))
        clear hp hsl hr hBw hpm hal
        go_wp2_with fail
        go_at_call 14
        refine HI.out.mono ?_
        rintro e w2 ⟨rfl, hb2⟩
        have hal2 := below_box w2 (.cells #[.string ⟨#[112, 114, 111, 99]⟩, .string (bs (Lib.itoa p.regs))] 9)
        have hown := own_lit w2 [⟨#[112, 114, 111, 99]⟩, bs (Lib.itoa p.regs)] 2 _ rfl rfl (by omega)
        have HLi := Lib.hid (line_any _ _ _ hown.at_ (by simp) (by simp) (by
          rw [lineT_proc]
          have := itoa_len9 p.regs HP.out.2.2
          simp
          omega))
        have hB2 : Below w1.heap.size w1 w2 := HO.out.2.1.trans ((HA.out.1.mono HO.out.2.1.size).trans (hb2.mono (by have := HO.out.2.1.size; simp; omega)))
        have hbl2 := builder_below (builder_below HO.out.1 HA.out.1) hb2
        have hbx2 := (hb2.block _ (heap_lt HA.out.2)).trans HA.out.2
        have H2 := Lib.hid (And.intro (builder_below hbl2 hal2) (And.intro (hB2.alloc hB2.size (.cells #[.string ⟨#[112, 114, 111, 99]⟩, .string (bs (Lib.itoa p.regs))] 9)) ((hal2.block _ (heap_lt hbx2)).trans hbx2)))
        clear hal2 hown hB2 hbl2 hbx2 hb2 HI HA
        go_wp2_with fail
        go_at_call 13
        refine HLi.out.mono ?_
        rintro e w3 ⟨rfl, hb3⟩
        have hB3 := H2.out.2.1.trans (hb3.mono H2.out.2.1.size)
        have H3 := Lib.hid (And.intro hB3 ((hb3.block _ (heap_lt H2.out.2.2)).trans H2.out.2.2))
        have hlen1 : (codeT (l.take k)).length ≤ 100000000 := by
          have := flat_take_le procT l k
          have := HLen.out
          unfold codeT at *
          omega
        have hlenp := procT_len p (HF.out p (List.mem_of_getElem? HP.out.1)) (HS.out.2 p (List.mem_of_getElem? HP.out.1))
        have HLp := Lib.hid (And.intro hlen1 hlenp)
        have HWr := Lib.hid (write_any w1.heap.size (codeT (l.take k)) (lineT [⟨#[112, 114, 111, 99]⟩, bs (Lib.itoa p.regs)]) w3 (builder_below H2.out.1 hb3) hlen1 (by rw [lineT_proc]; unfold procT at hlenp; simp only [List.length_append, List.length_cons, List.length_nil] at hlenp ⊢; omega) hB3.size)
        clear hb3 hB3 hlen1 hlenp H2 HLi
        go_wp2_with fail
        go_at_call 12
        refine HWr.out.mono ?_
        rintro e w4 ⟨⟨rv, rfl⟩, hbl4, hb4, hok4⟩
        have hne : wr.heap.size ≠ w1.heap.size := by have := HO.out.2.2; omega
        have hbx4 := hok4 _ _ H3.out.2 (fun e => hne (by injection e)) (fun c fz e => by cases e)
        have x0 := cell_of_row w4 _ 0 _ _ _ hbx4
        have x1 := cell_of_row w4 _ 1 _ _ _ hbx4
        simp at x0 x1
        rw [lineT_proc] at hbl4
        have H4 := Lib.hid (And.intro hbl4 (And.intro (H3.out.1.trans hb4) (Nat.lt_of_lt_of_le (heap_lt hbx4) (Nat.le_refl _))))
        clear hbl4 hb4 hok4 hbx4 H3 HWr
        go_wp2
        go_loopw [27] (fun i wq => ∃ j : Nat, j ≤ p.ins.length ∧ i = .int .i64 j ∧ Lib.IsBuilderF 40 5 w1.heap.size w1.heap.size (Lib.byteCells (codeT (l.take k) ++ ([112, 114, 111, 99, 32] ++ (Lib.itoa p.regs ++ [10])) ++ (p.ins.take j).flatMap insT)) wq ∧ Below w1.heap.size w1 wq ∧ w1.heap.size < wq.heap.size) (fun i _ => p.ins.length - (intOf i).toNat)
        case atStart => exact ⟨0, Nat.zero_le _, rfl, by rw [List.take_zero, List.flatMap_nil, List.append_nil]; exact H4.out.1, H4.out.2.1, by have := H4.out.2.2; have := HO.out.2.2; omega⟩
        case round =>
          obtain ⟨j, hj, rfl, hbq, hBq, hzq⟩ := hrel
          have HOq := Lib.hid (And.intro hbq (And.intro hBq hzq))
          clear hbq hBq hzq
          by_cases hlj : j < p.ins.length
          · obtain ⟨gi, oi, x, A2, c2, rfl, hgi, hx, hints, hfine, f0, f1, f2, f3, f4, f5, f6, f7⟩ := ins_get HP.out.2.1 j hlj
            have hBw := HB1.out.trans (HOq.out.2.1.mono HB1.out.size)
            rw [← hBw.cell (p := ⟨gi, oi + j * 8, none⟩) hgi] at f0
            rw [← hBw.cell (p := ⟨gi, oi + j * 8 + 1, none⟩) hgi] at f1
            rw [← hBw.cell (p := ⟨gi, oi + j * 8 + 2, none⟩) hgi] at f2
            rw [← hBw.cell (p := ⟨gi, oi + j * 8 + 3, none⟩) hgi] at f3
            rw [← hBw.cell (p := ⟨gi, oi + j * 8 + 4, none⟩) hgi] at f4
            rw [← hBw.cell (p := ⟨gi, oi + j * 8 + 5, none⟩) hgi] at f5
            rw [← hBw.cell (p := ⟨gi, oi + j * 8 + 6, none⟩) hgi] at f6
            rw [← hBw.cell (p := ⟨gi, oi + j * 8 + 7, none⟩) hgi] at f7
            have g2 : (j : Int) < p.ins.length := by omega
            have hal := below_box wr (.cells #[.int .i64 x.op, .int .i64 x.d, .int .i64 x.a, .int .i64 x.b, .int .i64 x.c, .string x.s, .int .i64 x.n, .slice A2 x.l.length c2] 33)
            have hsm := (smallP_iff.1 (HS.out.2 p (List.mem_of_getElem? HP.out.1))).2 x (List.mem_of_getElem? hx)
            have HX := Lib.hid (And.intro (flat_take insT hx) (insT_len x ((HF.out p (List.mem_of_getElem? HP.out.1)).2 x (List.mem_of_getElem? hx)) hsm.1 hsm.2))
            have HWo := Lib.hid (words_any (.agg #[.int .i64 x.op, .int .i64 x.d, .int .i64 x.a, .int .i64 x.b, .int .i64 x.c, .string x.s, .int .i64 x.n, .slice A2 x.l.length c2]) x _ (InsAt.below ⟨_, rfl, hints, hfine⟩ (hBw.trans (hal.mono hBw.size))) (HE.out.kept (hBw.trans (hal.mono hBw.size))) (by omega) (by omega))
            have H5 := Lib.hid (And.intro (builder_below HOq.out.1 hal) (And.intro (HOq.out.2.1.trans (hal.mono HOq.out.2.1.size)) hsm))
            clear hx hints hfine hBw hal hsm
            go_wp2_with fail
            go_at_call 15
            refine HWo.out.mono ?_
            rintro e w5 ⟨⟨v5, rfl, ho5⟩, hb5⟩
            have HLi := Lib.hid (line_any v5 (wordsT x) w5 ho5.at_ (by simp [wordsT]; omega) (by have := H5.out.2.2.1; simp [wordsT, numT]; omega) (by rw [lineT_ins]; have := HX.out.2; omega))
            have H6 := Lib.hid (And.intro (builder_below H5.out.1 hb5) (H5.out.2.1.trans (hb5.mono H5.out.2.1.size)))
            clear ho5 hb5 HWo H5
            go_wp2_with fail
            go_at_call 13
            refine HLi.out.mono ?_
            rintro e w6 ⟨rfl, hb6⟩
            have hB6 := H6.out.2.trans (hb6.mono H6.out.2.size)
            have hlen2 : (codeT (l.take k) ++ ([112, 114, 111, 99, 32] ++ (Lib.itoa p.regs ++ [10])) ++ (p.ins.take j).flatMap insT).length ≤ 100000000 := by
              have h1 := HLp.out.1
              have h2 := HLp.out.2
              have h3 := flat_take_le insT p.ins j
              have h4 := HLen.out
              have h5 := flat_take_le procT l k
              unfold procT at h2
              unfold codeT at h1 h4 ⊢
              simp only [List.length_append, List.length_cons, List.length_nil] at h1 h2 ⊢
              omega
            have HWr := Lib.hid (write_any w1.heap.size _ (lineT (wordsT x)) w6 (builder_below H6.out.1 hb6) hlen2 (by rw [lineT_ins]; have := HX.out.2; omega) hB6.size)
            have HB6 := Lib.hid hB6
            clear hb6 hB6 hlen2 H6 HLi
            go_wp2_with fail
            go_at_call 12
            refine HWr.out.mono ?_
            rintro e w7 ⟨⟨rv2, rfl⟩, hbl7, hb7, -⟩
            have hB7 := HB6.out.trans hb7
            rw [lineT_ins, List.append_assoc, ← HX.out.1] at hbl7
            have H7 := Lib.hid (And.intro hbl7 (And.intro hB7 (show w1.heap.size < w7.heap.size by have := hb7.size; have := HB6.out.size; have := heap_lt_builder hbl7; omega)))
            clear hbl7 hb7 hB7 HWr
            go_wp2
            go_roundw
            case rel => exact ⟨j + 1, by omega, by go_num, H7.out.1, H7.out.2.1, H7.out.2.2⟩
            case measure => simp [intOf]; omega
          · have g2 : ¬ (j : Int) < p.ins.length := by omega
            have HT := Lib.hid (show codeT (l.take k) ++ ([112, 114, 111, 99, 32] ++ (Lib.itoa p.regs ++ [10])) ++ (p.ins.take j).flatMap insT = codeT (l.take (k + 1)) by
              rw [List.take_of_length_le (l := p.ins) (by omega)]
              unfold codeT
              rw [flat_take procT HP.out.1]
              unfold procT
              simp)
            rw [HT.out] at HOq
            go_wp2
            go_roundw
            case rel => exact ⟨k + 1, by omega, by go_num, HOq.out.1, HOq.out.2.1, HOq.out.2.2⟩
            case measure => simp [intOf]; omega
      · have g1 : ¬ (k : Int) < l.length := by omega
        have HT := Lib.hid (show l.take k = l from List.take_of_length_le (by omega))
        rw [HT.out] at HO
        have HSt := Lib.hid (Tryz.Builder_String_k w1.heap.size w1.heap.size (codeT l) wr HO.out.1 (by have := HO.out.2.2; omega))
        go_wp2_with (go_at_call 16; refine HSt.out.mono ?_; rintro e w2 ⟨rfl, -, hb2, -⟩)
        refine bodyPost_ret (results_tmp2 rfl _ _ _) rfl ?_
        exact ⟨by rw [HV.out]; rfl, HB1.out.trans ((HO.out.2.1.trans hb2).mono HB1.out.size)⟩
end Go.Proofs.YtconnhphkbgbkaaGreatDoor
