/- JtreeWalks. -/
import Derived.Test.YtiejpenffpjmeaaDoorWalk2
import Derived.Test.YtiejpenffpjmeaaDoorRSame
import Derived.Test.YtiejpenffpjmeaaDoorSize
import Derived.Deep.RegionHeld3
namespace Go.Proofs.YtiejpenffpjmeaaDoor
set_option linter.unusedSimpArgs false
set_option linter.unusedVariables false
open Go.RowKit Go.Proofs

theorem own_five {W : World} {b m : Nat} {v : Value} {xs : List Value} (h : W.ownsRow b 24 5 v m xs) (hm : 0 < m) : ∃ g c, v = .slice (some ⟨g, 0, none⟩) m c ∧ m ≤ c ∧ b ≤ g ∧ g < W.heap.size ∧ ∀ j u, xs[j]? = some u → W.cell? ⟨g, j, none⟩ = some u := by
  rcases h.2 with ⟨-, h0⟩ | ⟨g, cap, cur, rfl, h1, h2, h3, -⟩
  · omega
  · obtain ⟨g', c', e, -, hc⟩ := own_cells h hm
    simp only [Value.slice.injEq, Option.some.injEq, Addr.mk.injEq, and_true, true_and] at e
    obtain ⟨rfl, rfl⟩ := e
    exact ⟨g, cap, rfl, h3, h1, (Array.getElem?_eq_some_iff.1 h2).1, fun j u hu => by have := hc j u hu; rwa [Addr.add_mid, Nat.zero_add] at this⟩
theorem fives_get : ∀ (ps : List (Tr × Value)) (i : Nat) (p : Tr × Value), ps[i]? = some p → ∀ j, j < 5 → (ps.flatMap five)[i * 5 + j]? = (five p)[j]?
  | [], i, p, h => by simp at h
  | a :: r, 0, p, h => fun j hj => by
    obtain rfl : a = p := by simpa using h
    rw [List.flatMap_cons, List.getElem?_append_left (by simp [five]; omega)]
    simp
  | a :: r, i + 1, p, h => fun j hj => by
    rw [List.flatMap_cons, List.getElem?_append_right (by simp [five]; omega)]
    have := fives_get r i p (by simpa using h) j hj
    rw [← this]
    congr 1
    simp [five]
    omega

theorem prefix_get {α : Type} {a b : List α} (h : a <+: b) {k : Nat} (hk : k < a.length) : b[k]? = a[k]? := by
  obtain ⟨r, rfl⟩ := h
  exact List.getElem?_append_left hk
theorem keep5 {W W' : World} {g o : Nat} {a b c d e : Value} (h : Below W.heap.size W W') (hc : W.cell? ⟨g, o, none⟩ = some a ∧ W.cell? ⟨g, o + 1, none⟩ = some b ∧ W.cell? ⟨g, o + 2, none⟩ = some c ∧ W.cell? ⟨g, o + 3, none⟩ = some d ∧ W.cell? ⟨g, o + 4, none⟩ = some e) :
    W'.cell? ⟨g, o, none⟩ = some a ∧ W'.cell? ⟨g, o + 1, none⟩ = some b ∧ W'.cell? ⟨g, o + 2, none⟩ = some c ∧ W'.cell? ⟨g, o + 3, none⟩ = some d ∧ W'.cell? ⟨g, o + 4, none⟩ = some e := by
  have hl : g < W.heap.size := by
    obtain ⟨o', ho, -⟩ := cells_of_cell hc.1
    exact (Array.getElem?_eq_some_iff.1 ho).1
  obtain ⟨h0, h1, h2, h3, h4⟩ := hc
  exact ⟨(h.cell (p := ⟨g, o, none⟩) hl).trans h0, (h.cell (p := ⟨g, o + 1, none⟩) hl).trans h1, (h.cell (p := ⟨g, o + 2, none⟩) hl).trans h2, (h.cell (p := ⟨g, o + 3, none⟩) hl).trans h3, (h.cell (p := ⟨g, o + 4, none⟩) hl).trans h4⟩

/-- What lies at one place of both rows. -/
theorem walks_round {w w3 w5 wr : World} {x : Lo} {ps : List (Tr × Value)} {pre : List (Lo × Nat)} {g3 g5 k : Nat} (hk : k < pre.length) (hx : LoAt w (fun k => k < w.heap.size) x) (h1 : ps.map (·.1) = x.tree.flat) (h2 : ∀ p ∈ ps, At w w.heap.size p.1 (nodeV p.1 p.2)) (hpre : pre <+: x.levels 1)
    (hc5 : ∀ j u, ((pre.map (·.1)).flatMap fiveLo)[j]? = some u → w5.cell? ⟨g5, j, none⟩ = some u) (hc3 : ∀ j u, (ps.flatMap five)[j]? = some u → w3.cell? ⟨g3, j, none⟩ = some u) (hg5 : g5 < w5.heap.size) (hg3 : g3 < w3.heap.size) (hb3 : Below w.heap.size w w3) (hs3 : w.heap.size + 2 ≤ w3.heap.size)
    (hb5 : Below w3.heap.size (w3.alloc (.cells #[.slice none 0 0] 22)) w5) (hbr : Below w5.heap.size w5 wr) :
    ∃ (y : Lo) (Ay : Option Addr) (cy : Nat) (p : Tr) (Ap : Option Addr) (cp : Nat),
      (wr.cell? ⟨g5, k * 5, none⟩ = some (.int .i64 y.op) ∧ wr.cell? ⟨g5, k * 5 + 1, none⟩ = some (.string (bs y.s)) ∧ wr.cell? ⟨g5, k * 5 + 2, none⟩ = some (.int .i64 y.n) ∧ wr.cell? ⟨g5, k * 5 + 3, none⟩ = some (.slice Ay y.l.length cy) ∧ wr.cell? ⟨g5, k * 5 + 4, none⟩ = some (.int .i64 y.line)) ∧
      (wr.cell? ⟨g3, k * 5, none⟩ = some (.int .i64 p.op) ∧ wr.cell? ⟨g3, k * 5 + 1, none⟩ = some (.string (bs p.s)) ∧ wr.cell? ⟨g3, k * 5 + 2, none⟩ = some (.int .i64 p.n) ∧ wr.cell? ⟨g3, k * 5 + 3, none⟩ = some (.slice Ap p.l.length cp) ∧ wr.cell? ⟨g3, k * 5 + 4, none⟩ = some (.int .i64 p.line)) ∧
      ∀ wd, Below wr.heap.size wr wd → Calls Tryd.prog 21 #[.agg #[.int .i64 y.op, .string (bs y.s), .int .i64 y.n, .slice Ay y.l.length cy, .int .i64 y.line], .agg #[.int .i64 p.op, .string (bs p.s), .int .i64 p.n, .slice Ap p.l.length cp, .int .i64 p.line]] wd fun e w' => e = .returned (.bool true) ∧ Below wd.heap.size wd w' := by
  obtain ⟨z, hz⟩ : ∃ z, pre[k]? = some z := ⟨_, List.getElem?_eq_getElem hk⟩
  have hlev : (x.levels 1).map (fun z => z.1.tree) = ps.map (·.1) := by
    rw [h1, ← levels_flat 1 x.tree, ← lo_levels_tree, List.map_map]
    rfl
  have hzx : (x.levels 1)[k]? = some z := (prefix_get hpre hk).trans hz
  have hpk := congrArg (fun l => l[k]?) hlev
  simp only [List.getElem?_map, hzx, Option.map_some] at hpk
  obtain ⟨p, hp, hpt⟩ : ∃ p, ps[k]? = some p ∧ z.1.tree = p.1 := by
    cases e : ps[k]? with
    | none => rw [e] at hpk; cases hpk
    | some p => rw [e] at hpk; exact ⟨p, rfl, by simpa using hpk⟩
  have hLz := LoAt.part 1 x hx z (List.mem_of_getElem? hzx)
  obtain ⟨Ay, cy, hvy⟩ := hLz.slice
  have hAp := h2 p (List.mem_of_getElem? hp)
  obtain ⟨up, ep, ⟨Ap, cp, hvp, -⟩, -⟩ := (At_iff _ _ _ _).1 hAp
  have eup : p.2 = up := by
    unfold nodeV at ep
    simp only [Value.agg.injEq, Array.mk.injEq, List.cons.injEq, and_true, true_and] at ep
    exact ep
  have hw5 : Below w3.heap.size w3 w5 := ((Below.refl _ w3).alloc (Nat.le_refl _) _).trans hb5
  have hwr : Below w.heap.size w wr := hb3.trans ((hw5.trans (hbr.mono hw5.size)).mono hb3.size)
  have k5 : ∀ j u, j < 5 → (fiveLo z.1)[j]? = some u → wr.cell? ⟨g5, k * 5 + j, none⟩ = some u := fun j u hj hu => by
    refine (hbr.cell hg5).trans (hc5 _ _ ?_)
    rw [fiveLos_five, fives_get _ k (z.1.tree, z.1.v) (by rw [List.map_map, List.getElem?_map, hz]; rfl) j hj, ← fiveLo_five]
    exact hu
  have k3 : ∀ j u, j < 5 → (five p)[j]? = some u → wr.cell? ⟨g3, k * 5 + j, none⟩ = some u := fun j u hj hu => by
    refine (hbr.cell (Nat.lt_of_lt_of_le hg3 hw5.size)).trans ((hw5.cell hg3).trans (hc3 _ _ ?_))
    rw [fives_get _ k p hp j hj]
    exact hu
  have hzv : z.1.val = .agg #[.int .i64 z.1.op, .string (bs z.1.s), .int .i64 z.1.n, .slice Ay z.1.l.length cy, .int .i64 z.1.line] := by unfold Lo.val; rw [hvy]
  have hpv : nodeV p.1 p.2 = .agg #[.int .i64 p.1.op, .string (bs p.1.s), .int .i64 p.1.n, .slice Ap p.1.l.length cp, .int .i64 p.1.line] := by unfold nodeV; rw [eup, hvp]
  refine ⟨z.1, Ay, cy, p.1, Ap, cp, ⟨k5 0 _ (by decide) rfl, k5 1 _ (by decide) rfl, k5 2 _ (by decide) rfl, k5 3 _ (by decide) (by unfold fiveLo; rw [hvy]; rfl), k5 4 _ (by decide) rfl⟩,
    ⟨k3 0 _ (by decide) rfl, k3 1 _ (by decide) rfl, k3 2 _ (by decide) rfl, k3 3 _ (by decide) (by unfold five; rw [eup, hvp]; rfl), k3 4 _ (by decide) rfl⟩, fun wd hbd => ?_⟩
  have hwd : Below w.heap.size w wd := hwr.trans (hbd.mono hwr.size)
  have hA1 : At wd wd.heap.size z.1.tree z.1.val := At.keep _ (LoAt.at_ (n := w.heap.size) z.1 hLz (fun _ h => h)) hwd.size fun p hp => hwd.cell hp
  have hA2 : At wd wd.heap.size p.1 (nodeV p.1 p.2) := At.keep _ hAp hwd.size fun p hp => hwd.cell hp
  have := rsame_any z.1.tree p.1 _ _ wd hA1 hA2
  rw [hzv, hpv, hpt, same_self] at this
  exact this

set_option maxRecDepth 100000 in
set_option maxHeartbeats 4000000 in
theorem walks_any (t : Tr) (n : Int) (v : Value) (w : World) (hA : At w w.heap.size t v) (he : Env w) (h1 : 1 ≤ w.heap.size) :
    Calls Tryd.prog 6 #[v, .int .i64 n] w fun e w' => e = .returned (.bool true) ∧ Below w.heap.size w w' := by
  obtain ⟨x, rfl, rfl, hx⟩ := Lo.of_at t hA
  obtain ⟨Av, cv, hvs⟩ := hx.slice
  obtain ⟨W1, eW⟩ : ∃ W, (w.alloc (.cells #[.int .i64 x.op, .string (bs x.s), .int .i64 x.n, .slice Av x.l.length cv, .int .i64 x.line] 24)).alloc (.cells #[.int .i64 n] 3) = W := ⟨_, rfl⟩
  have hb0 : Below w.heap.size w W1 := by rw [← eW]; exact ((Below.refl _ w).alloc (Nat.le_refl _) _).alloc (by simp) _
  have hz0 : W1.heap.size = w.heap.size + 2 := by rw [← eW]; simp
  have hp : W1.heap[w.heap.size]? = some (.cells #[.int .i64 x.op, .string (bs x.s), .int .i64 x.n, .slice Av x.l.length cv, .int .i64 x.line] 24 (0, 0)) := by
    rw [← eW]
    exact (((Below.refl _ _).alloc (Nat.le_refl _) _).block _ (by rw [World.size_alloc]; omega)).trans (heap_alloc_new w _)
  have hN : Boxed W1 (w.heap.size + 1) 3 (.int .i64 n) := by
    have := Boxed.new (w.alloc (.cells #[.int .i64 x.op, .string (bs x.s), .int .i64 x.n, .slice Av x.l.length cv, .int .i64 x.line] 24)) 3 (.int .i64 n)
    rw [World.size_alloc, eW] at this
    exact this
  have hAt : ∀ w', Below W1.heap.size W1 w' → At w' w'.heap.size x.tree x.val := fun w' hb =>
    have hb' := hb0.trans (hb.mono (by omega))
    At.keep _ hA hb'.size fun p hp => hb'.cell hp
  have hbx := fun (w' : World) (hb : Below W1.heap.size W1 w') => And.intro (box_in (t := .mk x.op x.s x.n x.line []) hb hp) (Boxed.cell (W := w') (t := 3) ((hb.block _ hN.lt).trans hN))
  have h11 := fun (w' : World) (hb : Below W1.heap.size W1 w') => small_any _ _ w' (hAt w' hb)
  have h22 := fun (w' : World) (hb : Below W1.heap.size W1 w') (hsz : x.tree.size ≤ 1500) => flat_any w w.heap.size x.tree x.val w' hA (hb0.trans (hb.mono (by omega))) (by have := hb.size; omega) (by omega)
  have hs := shown_any W1 (he.below hb0) (by omega)
  unfold BoxAt at hbx
  simp only [Tr.op_mk, Tr.s_mk, Tr.n_mk, Tr.line_mk] at hbx
  have hval : x.val = .agg #[.int .i64 x.op, .string (bs x.s), .int .i64 x.n, .slice Av x.l.length cv, .int .i64 x.line] := by unfold Lo.val; rw [hvs]
  rw [hval] at h11 h22 ⊢
  have HS := Lib.hid hs
  have HBx := Lib.hid hbx
  have H11 := Lib.hid h11
  have H22 := Lib.hid h22
  have HW := Lib.hid (And.intro eW (And.intro hb0 (And.intro hz0 hN)))
  have HX := Lib.hid (And.intro hx hval)
  clear hs hbx h11 h22 hb0 hz0 hN hx hvs hval hp hAt hA he h1
  go_enter Tryd.func6, Tryd.ntmps6
  go_wp2_with fail
  go_at_call 10
  refine HS.out.mono ?_
  rintro e w1 ⟨rfl, hb1⟩
  have HB1 := Lib.hid hb1
  obtain ⟨⟨f0, f1, f2, f3, f4⟩, g0⟩ := HBx.out w1 hb1
  have HC1 := Lib.hid (H11.out w1 hb1)
  clear hb1 eW
  by_cases hsz : x.tree.size ≤ 1500
  · rw [if_pos hsz] at HC1
    go_wp2_with fail
    go_at_call 11
    refine HC1.out.mono ?_
    rintro e w2 ⟨rfl, hb2⟩
    have HB2 := Lib.hid (HB1.out.trans (hb2.mono HB1.out.size))
    clear hb2 f0 f1 f2 f3 f4 g0
    obtain ⟨⟨f0, f1, f2, f3, f4⟩, g0⟩ := HBx.out w2 HB2.out
    by_cases h1n : 1 ≤ n
    · have HF := Lib.hid (H22.out w2 HB2.out hsz)
      have hlt : ¬ n < 1 := by omega
      go_wp2_with fail
      go_at_call 22
      refine HF.out.mono ?_
      rintro e w3 ⟨v3, ps, rfl, hps1, hps2, hps3, hb3⟩
      have HB3 := Lib.hid (HB2.out.trans (hb3.mono HB2.out.size))
      have HP := Lib.hid (And.intro hps1 (And.intro hps2 (And.intro hps3 hb3)))
      clear hps1 hps2 hps3 hb3 f0 f1 f2 f3 f4 g0
      obtain ⟨⟨f0, f1, f2, f3, f4⟩, g0⟩ := HBx.out w3 HB3.out
      have hB3w : Below w.heap.size w w3 := HW.out.2.1.trans (HB3.out.mono (by have := HW.out.2.2.1; omega))
      have hs3 : w.heap.size + 2 ≤ w3.heap.size := by have := HW.out.2.2.1; have := HB3.out.size; omega
      have hq1 : w.heap.size < w3.heap.size := by omega
      have hq2 : w.heap.size + 1 < w3.heap.size := by omega
      have hwk := callsIn_wide.1 (walk_in 3 (by decide) w3.heap.size (w.heap.size + 1) w.heap.size n x (w3.alloc (.cells #[.slice none 0 0] 22)) (LoAt.keep x HX.out.1 (fun _ h => h) (fun p hp => (hB3w.alloc (by omega) _).cell hp)) (by rw [lo_size_tree] at hsz; omega)
        (Boxed.new _ _ _) (Boxed.alloc ((HB3.out.block _ (by have := HW.out.2.2.1; omega)).trans HW.out.2.2.2) _) (by omega) (by omega) h1n)
      rw [HX.out.2] at hwk
      have HWk := Lib.hid hwk
      have HS3 := Lib.hid (And.intro hB3w hs3)
      clear hwk hB3w
      have hlp : ps.length = x.size := by
        have := congrArg List.length HP.out.1
        rwa [List.length_map, flat_len, lo_size_tree] at this
      have hxp : 0 < ps.length := by rw [hlp, lo_size_eq]; omega
      obtain ⟨g3, c3, rfl, hc3, hb3, hl3, hcell3⟩ := own_five HP.out.2.2.1 hxp
      have HC3 := Lib.hid (And.intro hcell3 (And.intro hb3 (And.intro hl3 hlp)))
      clear hcell3 hb3 hl3
      go_wp2_with fail
      go_at_call 23
      refine HWk.out.mono ?_
      rintro e w5 ⟨⟨v0, rfl⟩, ⟨pre, v5, hpre, hg5, hlen⟩, hN5, hb5⟩
      have hb5' : Below W1.heap.size W1 w5 := HB3.out.trans (((Below.refl _ w3).alloc (Nat.le_refl _) _).trans hb5 |>.mono HB3.out.size)
      have hpl : 0 < pre.length := by omega
      obtain ⟨g5, c5, rfl, hc5, hgb5, hgl5, hcell5⟩ := own_five (hg5.2) (by rw [List.length_map]; exact hpl)
      rw [List.length_map] at hg5 hc5
      have cG := hg5.1.cell
      have hGl := hg5.1.lt
      have hmin : (pre.length : Int) = min n (ps.length : Int) := by rw [hlp]; exact hlen
      have H5 := Lib.hid (And.intro hpre (And.intro hcell5 (And.intro hb5 (And.intro hb5' hgb5))))
      clear hpre hg5 hcell5 hb5 hgb5 f0 f1 f2 f3 f4 g0
      obtain ⟨⟨f0, f1, f2, f3, f4⟩, g0⟩ := HBx.out w5 hb5'
      clear hb5'
      have HRound := Lib.hid (fun (k : Nat) (hk : k < pre.length) (wr : World) (hb : Below w5.heap.size w5 wr) => walks_round hk HX.out.1 HP.out.1 HP.out.2.1 H5.out.1 H5.out.2.1 HC3.out.1 hgl5 HC3.out.2.2.1 HS3.out.1 HS3.out.2 H5.out.2.2.1 hb)
      have HG := Lib.hid (fun (wr : World) (hb : Below w5.heap.size w5 wr) => (hb.cell (p := ⟨w3.heap.size, 0, none⟩) hGl).trans cG)
      go_wp2_with fail
      go_loopw [8] (fun i wr => ∃ k : Nat, k ≤ pre.length ∧ i = .int .i64 k ∧ RowKit.Hid (Below w5.heap.size w5 wr)) (fun i _ => pre.length - (intOf i).toNat)
      case atStart => exact ⟨0, Nat.zero_le _, rfl, Lib.hid (Below.refl _ _)⟩
      case round =>
        obtain ⟨k, hk, rfl, HR⟩ := hrel
        have cGr := HG.out wr HR.out
        have fin : Below w.heap.size w wr := HW.out.2.1.trans ((H5.out.2.2.2.1.trans (HR.out.mono H5.out.2.2.2.1.size)).mono (by have := HW.out.2.2.1; omega))
        have HFin := Lib.hid fin
        clear fin cG
        by_cases hlt : k < pre.length
        · obtain ⟨y, Ay, cy, p, Ap, cp, hcy, hcp, hcl⟩ := HRound.out k hlt wr HR.out
          have HK := Lib.hid (And.intro hcy hcp)
          have HCl := Lib.hid hcl
          have hk3 : (k : Int) < x.size := by omega
          have hk15 : k ≤ 1000000 := by rw [lo_size_tree] at hsz; omega
          obtain ⟨x0, x1, x2, x3, x4⟩ := hcy
          obtain ⟨y0, y1, y2, y3, y4⟩ := hcp
          clear hcl
          have hdr : Below wr.heap.size wr wr.drew := (Below.refl _ _).drew
          have HCd := Lib.hid (HCl.out _ hdr)
          clear hdr
          go_wp2_with fail
          go_region_held3 (fun w' => w'.cell? ⟨w3.heap.size, 0, none⟩ = some (.slice (some ⟨g5, 0, none⟩) pre.length c5) ∧ (w'.cell? ⟨g5, k * 5, none⟩ = some (.int .i64 y.op) ∧ w'.cell? ⟨g5, k * 5 + 1, none⟩ = some (.string (bs y.s)) ∧ w'.cell? ⟨g5, k * 5 + 2, none⟩ = some (.int .i64 y.n) ∧ w'.cell? ⟨g5, k * 5 + 3, none⟩ = some (.slice Ay y.l.length cy) ∧ w'.cell? ⟨g5, k * 5 + 4, none⟩ = some (.int .i64 y.line)) ∧
            (w'.cell? ⟨g3, k * 5, none⟩ = some (.int .i64 p.op) ∧ w'.cell? ⟨g3, k * 5 + 1, none⟩ = some (.string (bs p.s)) ∧ w'.cell? ⟨g3, k * 5 + 2, none⟩ = some (.int .i64 p.n) ∧ w'.cell? ⟨g3, k * 5 + 3, none⟩ = some (.slice Ap p.l.length cp) ∧ w'.cell? ⟨g3, k * 5 + 4, none⟩ = some (.int .i64 p.line)))
            (first | go_keep | (exact HKd.out))
            (first | (go_at_call 21; refine HCd.out.mono ?_; rintro e w6 ⟨rfl, hb6⟩; have HB6 := Lib.hid hb6; have HKd := Lib.hid (And.intro ((hb6.cell (p := ⟨w3.heap.size, 0, none⟩) (by have := HR.out.size; simp; omega)).trans cGr) (And.intro (keep5 hb6 HK.out.1) (keep5 hb6 HK.out.2))); clear hb6 HCd))
          go_wp2
          go_roundw
          case rel => exact ⟨k + 1, by omega, by simp, Lib.hid ((HR.out.trans ((Below.refl _ wr).drew.mono HR.out.size)).trans (HB6.out.mono HR.out.size))⟩
          case measure => simp [intOf]; omega
        · obtain rfl : k = pre.length := by omega
          go_wp2
          go_ret
          exact ⟨rfl, HFin.out⟩
    · have hlt : n < 1 := by omega
      go_wp2
      go_ret
      exact ⟨rfl, HW.out.2.1.trans (HB2.out.mono (by have := HW.out.2.2.1; omega))⟩
  · rw [if_neg hsz] at HC1
    go_wp2_with fail
    go_at_call 11
    refine HC1.out.mono ?_
    rintro e w2 ⟨rfl, hb2⟩
    have HB2 := Lib.hid (HB1.out.trans (hb2.mono HB1.out.size))
    clear hb2 f0 f1 f2 f3 f4 g0
    go_wp2
    go_ret
    exact ⟨rfl, HW.out.2.1.trans (HB2.out.mono (by have := HW.out.2.2.1; omega))⟩
end Go.Proofs.YtiejpenffpjmeaaDoor
