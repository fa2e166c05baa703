/- gumshoeref09.Show: the document's own answer. -/
import Derived.Test.YtconnhphkbgbkaaGreatDoorCdRDig
import Derived.Test.YtconnhphkbgbkaaGreatDoorCdRef7
import Derived.Test.YtconnhphkbgbkaaGreatDoorCdShow
import Derived.Deep.RegionHeld3
namespace Go.Proofs.YtconnhphkbgbkaaGreatDoor
set_option linter.unusedSimpArgs false
set_option linter.unusedVariables false
open Go.RowKit Go.Proofs

def lsT (l : List Int) : Bs := l.flatMap fun n => 32 :: Lib.itoa n
def hdT (x : Ins) : Bs := Lib.itoa x.op ++ lsT [x.d, x.a, x.b, x.c, x.n]
theorem spaced_ls (r : List Int) : ∀ a, spaced (a :: r) = Lib.itoa a ++ lsT r ++ [32] := by
  induction r with
  | nil => intro a; simp [spaced, lsT]
  | cons b r ih =>
    intro a
    have h : spaced (a :: b :: r) = Lib.itoa a ++ [32] ++ spaced (b :: r) := by simp [spaced]
    rw [h, ih b]
    simp [lsT]
theorem insT_alt (x : Ins) : insT x = hdT x ++ lsT x.l ++ [32] ++ quoteL x.s.data.toList ++ [10] := by
  unfold insT
  rw [show [x.op, x.d, x.a, x.b, x.c, x.n] ++ x.l = x.op :: ([x.d, x.a, x.b, x.c, x.n] ++ x.l) from rfl, spaced_ls]
  unfold hdT
  simp [lsT]
theorem lsT_take {l : List Int} {k : Nat} {n : Int} (h : l[k]? = some n) : lsT (l.take (k + 1)) = lsT (l.take k) ++ 32 :: Lib.itoa n := flat_take (fun n => 32 :: Lib.itoa n) h
theorem cells6_of {W : World} {B : Nat} {x : Ins} {u : Value} {T : TypeId} (h : W.heap[B]? = some (.cells #[.int .i64 x.op, .int .i64 x.d, .int .i64 x.a, .int .i64 x.b, .int .i64 x.c, .string x.s, .int .i64 x.n, u] T (0, 0))) :
    W.cell? ⟨B, 0, none⟩ = some (.int .i64 x.op) ∧ W.cell? ⟨B, 1, none⟩ = some (.int .i64 x.d) ∧ W.cell? ⟨B, 2, none⟩ = some (.int .i64 x.a) ∧ W.cell? ⟨B, 3, none⟩ = some (.int .i64 x.b) ∧ W.cell? ⟨B, 4, none⟩ = some (.int .i64 x.c) ∧ W.cell? ⟨B, 6, none⟩ = some (.int .i64 x.n) :=
  ⟨cell_of_row W B 0 _ _ _ h, cell_of_row W B 1 _ _ _ h, cell_of_row W B 2 _ _ _ h, cell_of_row W B 3 _ _ _ h, cell_of_row W B 4 _ _ _ h, cell_of_row W B 6 _ _ _ h⟩
theorem bs32 : (⟨#[32]⟩ : ByteArray) = bs [32] := rfl
theorem bs10 : (⟨#[10]⟩ : ByteArray) = bs [10] := rfl
theorem bsproc : (⟨#[112, 114, 111, 99, 32]⟩ : ByteArray) = bs [112, 114, 111, 99, 32] := rfl
theorem lsT_len (l : List Int) (h : ∀ n ∈ l, I64 n) : (lsT l).length ≤ l.length * 22 := flat_len _ 22 l fun n hn => by
  have := itoa_len9 n (h n hn)
  simp
  omega
set_option maxRecDepth 100000 in
set_option maxHeartbeats 4000000 in
theorem rshow_any (v : Value) (l : List Proc) (w : World) (hl : CodeAt w v l) (hs : smallC l = true) :
    Calls Tryz.prog 7 #[v] w fun e w' => e = .returned (showV l) ∧ Below w.heap.size w w' := by
  have HF := Lib.hid (code_fine hl)
  have hlen := codeT_len l HF.out hs
  have HS := Lib.hid (smallC_iff.1 hs)
  have hR := refright_any v l w hl (by have := HS.out.1; omega)
  rw [refOk_all] at hR
  obtain ⟨A, cap, rfl⟩ := SlAt.form hl
  obtain ⟨-, hca, hcm, -⟩ := SlAt.get hl
  have hm1 : cap ≤ 9223372036854775807 := hcm
  have HL := Lib.hid hl
  have HLen := Lib.hid hlen
  have HN := Lib.hid (fun n hn w => rnum_any n hn w)
  clear hl hs hcm hlen
  obtain ⟨q, hq⟩ : ∃ q, rightC l = q := ⟨_, rfl⟩
  rw [hq] at hR
  have HR := Lib.hid hR
  have HQ := Lib.hid hq
  clear hq hR
  cases q with
  | false =>
    have HV := Lib.hid (show showV l = .tuple #[.string ⟨#[]⟩, .int .i64 90] by unfold showV; rw [HQ.out]; rfl)
    go_enter Tryz.func7, Tryz.ntmps7
    go_wp2_with (go_at_call 17; refine HR.out.mono ?_; rintro e w1 ⟨rfl, hb1⟩)
    refine bodyPost_ret (results_tmp2 rfl _ _ _) rfl ?_
    exact ⟨by rw [HV.out]; rfl, hb1⟩
  | true =>
    have HV := Lib.hid (show showV l = .tuple #[.string (bs (codeT l)), .int .i64 0] by unfold showV; rw [HQ.out]; rfl)
    go_enter Tryz.func7, Tryz.ntmps7
    go_wp2_with (go_at_call 17; refine HR.out.mono ?_; rintro e w1 ⟨rfl, hb1⟩; have HB1 := Lib.hid hb1; clear hb1)
    go_loopw [5, 6] (fun s i wr => ∃ k : Nat, k ≤ l.length ∧ i = .int .i64 k ∧ s = .string (bs (codeT (l.take k))) ∧ Below w1.heap.size w1 wr) (fun _ i _ => l.length - (intOf i).toNat)
    case atStart => exact ⟨0, Nat.zero_le _, rfl, rfl, Below.refl _ _⟩
    case round =>
      obtain ⟨k, hk, rfl, rfl, hB⟩ := hrel
      have HO := Lib.hid hB
      clear hB
      by_cases hlt : k < l.length
      · obtain ⟨g, off, p, A', cx, rfl, hg, hp, hsl, hr, c0, c1⟩ := CodeAt.get HL.out k hlt
        have HC1 := Lib.hid c1
        have hBw := HB1.out.trans (HO.out.mono HB1.out.size)
        rw [← hBw.cell (p := ⟨g, off + k * 2, none⟩) hg] at c0
        obtain ⟨-, hpa, hpm, -⟩ := SlAt.get hsl
        have hpm1 : cx ≤ 9223372036854775807 := hpm
        have g1 : (k : Int) < l.length := by omega
        have HP := Lib.hid (And.intro hp (And.intro hsl hr))
        have hlen1 : (codeT (l.take k)).length ≤ 1000000 := by
          have := flat_take_le procT l k
          have := HLen.out
          unfold codeT at *
          omega
        have hlenp := procT_len p (HF.out p (List.mem_of_getElem? hp)) (HS.out.2 p (List.mem_of_getElem? hp))
        have HLp := Lib.hid (And.intro hlen1 hlenp)
        have HNr := Lib.hid (HN.out p.regs hr wr)
        have hz1 : (bs (codeT (l.take k))).size ≤ 1000000 := by rw [bs_size]; exact hlen1
        have hz2 : (bs (Lib.itoa p.regs)).size ≤ 21 := by rw [bs_size]; exact itoa_len9 _ hr
        obtain ⟨T0, hT0⟩ : ∃ T0, codeT (l.take k) ++ ([112, 114, 111, 99, 32] ++ (Lib.itoa p.regs ++ [10])) = T0 := ⟨_, rfl⟩
        have HT0 := Lib.hid hT0
        have HQ8 := Lib.hid (show bs (codeT (l.take k)) ++ ⟨#[112, 114, 111, 99, 32]⟩ ++ bs (Lib.itoa p.regs) ++ ⟨#[10]⟩ = bs T0 by
          rw [← hT0, bsproc, bs10, bs_join, bs_join, bs_join]
          simp)
        obtain ⟨Q, hQ⟩ : ∃ Q, bs (codeT (l.take k)) = Q := ⟨_, rfl⟩
        obtain ⟨D, hD⟩ : ∃ Q, bs (Lib.itoa p.regs) = Q := ⟨_, rfl⟩
        rw [hQ, hD] at HQ8
        rw [hQ] at hz1 ⊢
        rw [hD] at hz2 HNr
        have o1 : ¬ 9223372036854775807 < Q.size + 5 := by omega
        have o2 : ¬ 9223372036854775807 < Q.size + 5 + D.size := by omega
        have o3 : ¬ 9223372036854775807 < Q.size + 5 + D.size + 1 := by omega
        clear hp hsl hr hBw hpm hlen1 hlenp hQ hD hz1 hz2 hT0
        go_wp2_with (go_at_call 18; refine HNr.out.mono ?_; rintro e w2 ⟨rfl, hb2⟩; have HB2 := Lib.hid (HO.out.trans (hb2.mono HO.out.size)); clear hb2)
        rw [HQ8.out]
        go_loopw [5, 7] (fun s i wr => ∃ j : Nat, j ≤ p.ins.length ∧ i = .int .i64 j ∧ s = .string (bs (T0 ++ (p.ins.take j).flatMap insT)) ∧ Below w1.heap.size w1 wr) (fun _ i _ => p.ins.length - (intOf i).toNat)
        case atStart => exact ⟨0, Nat.zero_le _, rfl, by rw [List.take_zero, List.flatMap_nil, List.append_nil], HB2.out⟩
        case round =>
          obtain ⟨j, hj, rfl, rfl, hBq⟩ := hrel
          clear c0
          have hBw := HB1.out.trans (hBq.mono HB1.out.size)
          have c1 := (hBw.cell (p := ⟨g, off + k * 2 + 1, none⟩) hg).trans HC1.out
          have HOq := Lib.hid hBq
          clear hBq
          by_cases hlj : j < p.ins.length
          · obtain ⟨gi, oi, x, A2, c2, rfl, hgi, hx, hints, hfine, f0, f1, f2, f3, f4, f5, f6, f7⟩ := ins_get HP.out.2.1 j hlj
            rw [← hBw.cell (p := ⟨gi, oi + j * 8, none⟩) hgi] at f0
            rw [← hBw.cell (p := ⟨gi, oi + j * 8 + 1, none⟩) hgi] at f1
            rw [← hBw.cell (p := ⟨gi, oi + j * 8 + 2, none⟩) hgi] at f2
            rw [← hBw.cell (p := ⟨gi, oi + j * 8 + 3, none⟩) hgi] at f3
            rw [← hBw.cell (p := ⟨gi, oi + j * 8 + 4, none⟩) hgi] at f4
            rw [← hBw.cell (p := ⟨gi, oi + j * 8 + 5, none⟩) hgi] at f5
            rw [← hBw.cell (p := ⟨gi, oi + j * 8 + 6, none⟩) hgi] at f6
            rw [← hBw.cell (p := ⟨gi, oi + j * 8 + 7, none⟩) hgi] at f7
            have g2 : (j : Int) < p.ins.length := by omega
            have hsm := (smallP_iff.1 (HS.out.2 p (List.mem_of_getElem? HP.out.1))).2 x (List.mem_of_getElem? hx)
            have hfl := (HF.out p (List.mem_of_getElem? HP.out.1)).2 x (List.mem_of_getElem? hx)
            have HX := Lib.hid (And.intro (flat_take insT hx) (And.intro hsm hfl))
            have hlen2 : (T0 ++ (p.ins.take j).flatMap insT).length ≤ 2000000 := by
              rw [← HT0.out]
              have h1 := HLp.out.1
              have h2 := HLp.out.2
              have h3 := flat_take_le insT p.ins j
              unfold procT at h2
              simp only [List.length_append, List.length_cons, List.length_nil] at h1 h2 ⊢
              omega
            obtain ⟨T, hT⟩ : ∃ T, T0 ++ (p.ins.take j).flatMap insT = T := ⟨_, rfl⟩
            rw [hT] at hlen2 ⊢
            have HT := Lib.hid (And.intro hT hlen2)
            have HIn := Lib.hid hints
            obtain ⟨⟨i0, i1, i2, i3, i4, i5⟩, -⟩ := hfine
            have HBx := Lib.hid (below_box wr (.cells #[.int .i64 x.op, .int .i64 x.d, .int .i64 x.a, .int .i64 x.b, .int .i64 x.c, .string x.s, .int .i64 x.n, .slice A2 x.l.length c2] 33))
            have bx := heap_alloc_new wr (.cells #[.int .i64 x.op, .int .i64 x.d, .int .i64 x.a, .int .i64 x.b, .int .i64 x.c, .string x.s, .int .i64 x.n, .slice A2 x.l.length c2] 33)
            have HBwr := Lib.hid hBw
            clear hx hints hsm hfl hBw hT hlen2
            go_wp2_with fail
            obtain ⟨W0, eW⟩ : ∃ W, wr.alloc (.cells #[.int .i64 x.op, .int .i64 x.d, .int .i64 x.a, .int .i64 x.b, .int .i64 x.c, .string x.s, .int .i64 x.n, .slice A2 x.l.length c2] 33) = W := ⟨_, rfl⟩
            obtain ⟨N8, eN⟩ : ∃ N, wr.heap.size = N := ⟨_, rfl⟩
            have hbx0 := HBx.out
            rw [eW, eN] at bx hbx0 ⊢
            have x0 := cell_of_row W0 N8 0 _ _ _ bx
            have x1 := cell_of_row W0 N8 1 _ _ _ bx
            have x2 := cell_of_row W0 N8 2 _ _ _ bx
            have x3 := cell_of_row W0 N8 3 _ _ _ bx
            have x4 := cell_of_row W0 N8 4 _ _ _ bx
            have x6 := cell_of_row W0 N8 6 _ _ _ bx
            simp at x0 x1 x2 x3 x4 x6
            have HBX := Lib.hid bx
            have HXl := Lib.hid (fun W' (h : Below W0.heap.size W0 W') => (h.block N8 (heap_lt bx)).trans bx)
            have HB0 := Lib.hid (show Below w1.heap.size w1 W0 from HOq.out.trans (hbx0.mono (by rw [← eN]; exact HOq.out.size)))
            obtain ⟨Q, hQ⟩ : ∃ Q, bs T = Q := ⟨_, rfl⟩
            have zQ : Q.size ≤ 2000000 := by rw [← hQ, bs_size]; exact HT.out.2
            obtain ⟨D1, hD1⟩ : ∃ Q, bs (Lib.itoa x.op) = Q := ⟨_, rfl⟩
            have z1 : D1.size ≤ 21 := by rw [← hD1, bs_size]; exact itoa_len9 _ i0
            obtain ⟨D2, hD2⟩ : ∃ Q, bs (Lib.itoa x.d) = Q := ⟨_, rfl⟩
            have z2 : D2.size ≤ 21 := by rw [← hD2, bs_size]; exact itoa_len9 _ i1
            obtain ⟨D3, hD3⟩ : ∃ Q, bs (Lib.itoa x.a) = Q := ⟨_, rfl⟩
            have z3 : D3.size ≤ 21 := by rw [← hD3, bs_size]; exact itoa_len9 _ i2
            obtain ⟨D4, hD4⟩ : ∃ Q, bs (Lib.itoa x.b) = Q := ⟨_, rfl⟩
            have z4 : D4.size ≤ 21 := by rw [← hD4, bs_size]; exact itoa_len9 _ i3
            obtain ⟨D5, hD5⟩ : ∃ Q, bs (Lib.itoa x.c) = Q := ⟨_, rfl⟩
            have z5 : D5.size ≤ 21 := by rw [← hD5, bs_size]; exact itoa_len9 _ i4
            obtain ⟨D6, hD6⟩ : ∃ Q, bs (Lib.itoa x.n) = Q := ⟨_, rfl⟩
            have z6 : D6.size ≤ 21 := by rw [← hD6, bs_size]; exact itoa_len9 _ i5
            have HQ13 := Lib.hid (show Q ++ D1 ++ ⟨#[32]⟩ ++ D2 ++ ⟨#[32]⟩ ++ D3 ++ ⟨#[32]⟩ ++ D4 ++ ⟨#[32]⟩ ++ D5 ++ ⟨#[32]⟩ ++ D6 = bs (T ++ hdT x) by
              rw [← hQ, ← hD1, ← hD2, ← hD3, ← hD4, ← hD5, ← hD6, bs32]
              simp only [bs_join]
              congr 1
              simp [hdT, lsT])
            have o1 : ¬ 9223372036854775807 < Q.size + D1.size := by omega
            have o2 : ¬ 9223372036854775807 < Q.size + D1.size + 1 := by omega
            have o3 : ¬ 9223372036854775807 < Q.size + D1.size + 1 + D2.size := by omega
            have o4 : ¬ 9223372036854775807 < Q.size + D1.size + 1 + D2.size + 1 := by omega
            have o5 : ¬ 9223372036854775807 < Q.size + D1.size + 1 + D2.size + 1 + D3.size := by omega
            have o6 : ¬ 9223372036854775807 < Q.size + D1.size + 1 + D2.size + 1 + D3.size + 1 := by omega
            have o7 : ¬ 9223372036854775807 < Q.size + D1.size + 1 + D2.size + 1 + D3.size + 1 + D4.size := by omega
            have o8 : ¬ 9223372036854775807 < Q.size + D1.size + 1 + D2.size + 1 + D3.size + 1 + D4.size + 1 := by omega
            have o9 : ¬ 9223372036854775807 < Q.size + D1.size + 1 + D2.size + 1 + D3.size + 1 + D4.size + 1 + D5.size := by omega
            have o10 : ¬ 9223372036854775807 < Q.size + D1.size + 1 + D2.size + 1 + D3.size + 1 + D4.size + 1 + D5.size + 1 := by omega
            have o11 : ¬ 9223372036854775807 < Q.size + D1.size + 1 + D2.size + 1 + D3.size + 1 + D4.size + 1 + D5.size + 1 + D6.size := by omega
            have HDs := Lib.hid (And.intro hQ (And.intro hD1 (And.intro hD2 (And.intro hD3 (And.intro hD4 (And.intro hD5 hD6))))))
            have hn1 := HN.out x.op i0 W0.drew
            rw [hD1] at hn1
            have HN1 := Lib.hid hn1
            rw [hQ]
            clear hn1 bx hbx0 f0 f1 f2 f3 f4 f5 f6 f7 hQ hD1 hD2 hD3 hD4 hD5 hD6 z1 z2 z3 z4 z5 z6 zQ
            go_region_held3 (fun w' => w'.cell? ⟨N8, 0, none⟩ = some (.int .i64 x.op) ∧ w'.cell? ⟨N8, 1, none⟩ = some (.int .i64 x.d) ∧ w'.cell? ⟨N8, 2, none⟩ = some (.int .i64 x.a) ∧ w'.cell? ⟨N8, 3, none⟩ = some (.int .i64 x.b) ∧ w'.cell? ⟨N8, 4, none⟩ = some (.int .i64 x.c) ∧ w'.cell? ⟨N8, 6, none⟩ = some (.int .i64 x.n))
              (first | go_keep | exact HS6.out | exact HS5.out | exact HS4.out | exact HS3.out | exact HS2.out | exact HS1.out)
              (first
                | (go_at_call 18; refine HN1.out.mono ?_; rintro e u1 ⟨rfl, hb1⟩; have HU1 := Lib.hid (show Below W0.heap.size W0 u1 from (show Below W0.heap.size W0 W0.drew from ⟨rfl, rfl, rfl, Nat.le_refl _, fun _ _ => rfl⟩).trans hb1); have hbk1 := HXl.out u1 HU1.out; have HS1 := Lib.hid (cells6_of hbk1); clear hb1 hbk1 HN1; have hn2 := HN.out x.d i1 u1; rw [HDs.out.2.2.1] at hn2; have HN2 := Lib.hid hn2; clear hn2)
                | (go_at_call 18; refine HN2.out.mono ?_; rintro e u2 ⟨rfl, hb2⟩; have HU2 := Lib.hid (show Below W0.heap.size W0 u2 from HU1.out.trans (hb2.mono HU1.out.size)); have hbk2 := HXl.out u2 HU2.out; have HS2 := Lib.hid (cells6_of hbk2); clear hb2 hbk2 HN2; have hn3 := HN.out x.a i2 u2; rw [HDs.out.2.2.2.1] at hn3; have HN3 := Lib.hid hn3; clear hn3)
                | (go_at_call 18; refine HN3.out.mono ?_; rintro e u3 ⟨rfl, hb3⟩; have HU3 := Lib.hid (show Below W0.heap.size W0 u3 from HU2.out.trans (hb3.mono HU2.out.size)); have hbk3 := HXl.out u3 HU3.out; have HS3 := Lib.hid (cells6_of hbk3); clear hb3 hbk3 HN3; have hn4 := HN.out x.b i3 u3; rw [HDs.out.2.2.2.2.1] at hn4; have HN4 := Lib.hid hn4; clear hn4)
                | (go_at_call 18; refine HN4.out.mono ?_; rintro e u4 ⟨rfl, hb4⟩; have HU4 := Lib.hid (show Below W0.heap.size W0 u4 from HU3.out.trans (hb4.mono HU3.out.size)); have hbk4 := HXl.out u4 HU4.out; have HS4 := Lib.hid (cells6_of hbk4); clear hb4 hbk4 HN4; have hn5 := HN.out x.c i4 u4; rw [HDs.out.2.2.2.2.2.1] at hn5; have HN5 := Lib.hid hn5; clear hn5)
                | (go_at_call 18; refine HN5.out.mono ?_; rintro e u5 ⟨rfl, hb5⟩; have HU5 := Lib.hid (show Below W0.heap.size W0 u5 from HU4.out.trans (hb5.mono HU4.out.size)); have hbk5 := HXl.out u5 HU5.out; have HS5 := Lib.hid (cells6_of hbk5); clear hb5 hbk5 HN5; have hn6 := HN.out x.n i5 u5; rw [HDs.out.2.2.2.2.2.2] at hn6; have HN6 := Lib.hid hn6; clear hn6)
                | (go_at_call 18; refine HN6.out.mono ?_; rintro e u6 ⟨rfl, hb6⟩; have HU6 := Lib.hid (show Below W0.heap.size W0 u6 from HU5.out.trans (hb6.mono HU5.out.size)); have hbk6 := HXl.out u6 HU6.out; have HS6 := Lib.hid (cells6_of hbk6); clear hb6 hbk6 HN6))
            have hq13 := HQ13.out
            have hbk := HXl.out u6 HU6.out
            have HB6 := Lib.hid (HB0.out.trans (HU6.out.mono HB0.out.size))
            have zT := HT.out.2
            have HT2 := Lib.hid (show (T ++ hdT x).length ≤ 2001000 by
              unfold hdT
              have h1 := itoa_len9 x.op i0
              have h2 := lsT_len [x.d, x.a, x.b, x.c, x.n] (by
                intro n hn
                simp only [List.mem_cons, List.not_mem_nil, or_false] at hn
                rcases hn with rfl | rfl | rfl | rfl | rfl <;> assumption)
              simp only [List.length_append, List.length_cons, List.length_nil] at h2 ⊢
              omega)
            have HBK := Lib.hid hbk
            have x7 := cell_of_row u6 N8 7 _ _ _ hbk
            simp at x7
            obtain ⟨G, hG⟩ : ∃ G, T ++ hdT x = G := ⟨_, rfl⟩
            rw [hG] at HT2
            have HGG := Lib.hid hG
            clear hq13 hbk zT o1 o2 o3 o4 o5 o6 o7 o8 o9 o10 o11 x0 x1 x2 x3 x4 x6 HS1 HS2 HS3 HS4 HS5 HS6
            go_wp2
            rw [HQ13.out, hG]
            clear hG
            go_loopw [5, 9] (fun s i wr => ∃ m : Nat, m ≤ x.l.length ∧ i = .int .i64 m ∧ s = .string (bs (G ++ lsT (x.l.take m))) ∧ wr.heap[N8]? = some (.cells #[.int .i64 x.op, .int .i64 x.d, .int .i64 x.a, .int .i64 x.b, .int .i64 x.c, .string x.s, .int .i64 x.n, .slice A2 x.l.length c2] 33 (0, 0)) ∧ Below w1.heap.size w1 wr) (fun _ i _ => x.l.length - (intOf i).toNat)
            case atStart => exact ⟨0, Nat.zero_le _, rfl, by simp [lsT], HBK.out, HB6.out⟩
            case round =>
              obtain ⟨m, hm, rfl, rfl, hbk, hBm⟩ := hrel
              clear x7
              have hx20 : x.l.length ≤ 20 := HX.out.2.1.1
              have y5 := cell_of_row wr N8 5 _ _ _ hbk
              have y7 := cell_of_row wr N8 7 _ _ _ hbk
              simp at y5 y7
              have hlen := lsT_len (x.l.take m) (fun n hn => HX.out.2.2.2 n (List.mem_of_mem_take hn))
              have hlm : (x.l.take m).length ≤ 20 := by rw [List.length_take]; have := HX.out.2.1.1; omega
              have hz : (bs (G ++ lsT (x.l.take m))).size ≤ 2002000 := by
                rw [bs_size, List.length_append]
                have := HT2.out
                have : (x.l.take m).length * 22 ≤ 20 * 22 := Nat.mul_le_mul_right _ hlm
                omega
              have hQe := bs_join (G ++ lsT (x.l.take m))
              obtain ⟨R, hR⟩ : ∃ R, bs (G ++ lsT (x.l.take m)) = R := ⟨_, rfl⟩
              have HRe := Lib.hid hR
              have HBk := Lib.hid (And.intro hbk hBm)
              rw [hR] at hz ⊢
              by_cases hlm2 : m < x.l.length
              · obtain ⟨gx, ox, n, rfl, hgx, hxn, hni, hcx⟩ := int_get HIn.out m hlm2
                have hBw := HB1.out.trans (hBm.mono HB1.out.size)
                rw [← hBw.cell (p := ⟨gx, ox + m, none⟩) hgx] at hcx
                have g3 : (m : Int) < x.l.length := by omega
                have hnn := HN.out n hni wr
                have hz2 : (bs (Lib.itoa n)).size ≤ 21 := by rw [bs_size]; exact itoa_len9 _ hni
                have HEq := Lib.hid (show R ++ ⟨#[32]⟩ ++ bs (Lib.itoa n) = bs (G ++ lsT (x.l.take (m + 1))) by
                  rw [← hR, bs32, bs_join, bs_join, lsT_take hxn]
                  simp)
                obtain ⟨D, hD⟩ : ∃ D, bs (Lib.itoa n) = D := ⟨_, rfl⟩
                rw [hD] at hnn hz2 HEq
                have p1 : ¬ 9223372036854775807 < R.size + 1 := by omega
                have p2 : ¬ 9223372036854775807 < R.size + 1 + D.size := by omega
                have HNn := Lib.hid hnn
                clear hnn hz hz2 hR hQe hlen hlm hbk hBm hBw hD hxn
                go_wp2_with (go_at_call 18; refine HNn.out.mono ?_; rintro e v1 ⟨rfl, hv1⟩; have HV1 := Lib.hid (And.intro ((hv1.block N8 (heap_lt HBk.out.1)).trans HBk.out.1) (HBk.out.2.trans (hv1.mono HBk.out.2.size))); clear hv1)
                go_roundw
                case rel => exact ⟨m + 1, by omega, by go_num, by rw [HEq.out], HV1.out.1, HV1.out.2⟩
                case measure => simp [intOf]; omega
              · have g3 : ¬ (m : Int) < x.l.length := by omega
                have hq := rquote_any x.s wr (by have := HX.out.2.1.2; omega)
                have hz2 : (bs (quoteL x.s.data.toList)).size ≤ 402 := by
                  rw [bs_size]
                  have h9 := quote_len9 x.s.data.toList
                  rw [len_toList] at h9
                  have := HX.out.2.1.2
                  omega
                have HEq := Lib.hid (show R ++ ⟨#[32]⟩ ++ bs (quoteL x.s.data.toList) ++ ⟨#[10]⟩ = bs (T0 ++ (p.ins.take (j + 1)).flatMap insT) by
                  rw [← hR, bs32, bs10, bs_join, bs_join, bs_join, HX.out.1, List.take_of_length_le (l := x.l) (i := m) (by omega), insT_alt, ← HGG.out, ← HT.out.1]
                  simp only [List.append_assoc])
                obtain ⟨D, hD⟩ : ∃ D, bs (quoteL x.s.data.toList) = D := ⟨_, rfl⟩
                rw [hD] at hq hz2 HEq
                have p1 : ¬ 9223372036854775807 < R.size + 1 := by omega
                have p2 : ¬ 9223372036854775807 < R.size + 1 + D.size := by omega
                have p3 : ¬ 9223372036854775807 < R.size + 1 + D.size + 1 := by omega
                have HQq := Lib.hid hq
                clear hq hz hz2 hR hQe hlen hlm hbk hBm hD
                go_wp2_with (go_at_call 19; refine HQq.out.mono ?_; rintro e v1 ⟨rfl, hv1⟩; have HV1 := Lib.hid (HBk.out.2.trans (hv1.mono HBk.out.2.size)); clear hv1)
                go_roundw
                case rel => exact ⟨j + 1, by omega, by go_num, by rw [HEq.out], HV1.out⟩
                case measure => simp [intOf]; omega
          · have g2 : ¬ (j : Int) < p.ins.length := by omega
            have HEq := Lib.hid (show T0 ++ (p.ins.take j).flatMap insT = codeT (l.take (k + 1)) by
              rw [← HT0.out, List.take_of_length_le (l := p.ins) (i := j) (by omega)]
              unfold codeT
              rw [flat_take procT HP.out.1]
              simp [procT])
            rw [HEq.out]
            go_wp2
            go_roundw
            case rel => exact ⟨k + 1, by omega, by go_num, rfl, HOq.out⟩
            case measure => simp [intOf]; omega
      · have g1 : ¬ (k : Int) < l.length := by omega
        have HEq := Lib.hid (show codeT (l.take k) = codeT l by rw [List.take_of_length_le (by omega)])
        rw [HEq.out]
        go_wp2
        refine bodyPost_ret (results_tmp2 rfl _ _ _) rfl ?_
        exact ⟨by rw [HV.out]; rfl, HB1.out.trans (HO.out.mono HB1.out.size)⟩
end Go.Proofs.YtconnhphkbgbkaaGreatDoor
