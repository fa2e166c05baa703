/- code.fits: has an instruction what is asked of it, and nothing else. -/
import Derived.Test.YtconnhphkbgbkaaGreatDoorCdDem4
namespace Go.Proofs.YtconnhphkbgbkaaGreatDoor
open Go.RowKit Go.Proofs

def DemP (W : World) (cs : List Value) (m : Dm) : Prop := ∃ v, cs = [v] ∧ DemAt W v m
theorem DemP.keeps : Keeps DemP := fun _ _ _ _ h hb => by
  obtain ⟨v, h1, h2⟩ := h
  exact ⟨v, h1, h2.below hb⟩
/-- The function values' forms. -/
theorem DemAt.forms {w : World} {v : Value} {m : Dm} (h : DemAt w v m) : (∃ p q, v = .func (.func 63) #[] #[p, q]) ∨ (∃ p, v = .func (.func 64) #[] #[p]) ∨ v = .func (.func 48) #[] #[] ∨ v = .func (.func 50) #[] #[] ∨ v = .func (.func 47) #[] #[] ∨ v = .func (.func 49) #[] #[] := by
  cases m with
  | reg l f =>
    obtain ⟨bf, bl, i, h1, -⟩ := h
    exact .inl ⟨_, _, h1⟩
  | num k =>
    obtain ⟨bf, i, h1, -⟩ := h
    exact .inr (.inl ⟨_, h1⟩)
  | key => exact .inr (.inr (.inl h))
  | sign => exact .inr (.inr (.inr (.inl h)))
  | val => exact .inr (.inr (.inr (.inr (.inl h))))
  | args => exact .inr (.inr (.inr (.inr (.inr h))))
/-- The demand at a place, by its cell. -/
theorem dem_get {W : World} {A : Option Addr} {n cap : Nat} {l : List Dm} (h : SlAt 1 DemP W (.slice A n cap) l) (i : Nat) (hi : i < n) :
    ∃ g off m v, A = some ⟨g, off, none⟩ ∧ g < W.heap.size ∧ l[i]? = some m ∧ DemAt W v m ∧ W.cell? ⟨g, off + i, none⟩ = some v := by
  obtain ⟨-, -, -, hget⟩ := SlAt.get h
  obtain ⟨g, off, p, cs, rfl, hg, hp, ⟨v, rfl, h2⟩, hc⟩ := hget i hi
  have := hc 0 (by decide)
  exact ⟨g, off, p, v, rfl, hg, hp, h2, by simpa using this⟩
theorem fits_drop {R : Room} {ds : List Dm} {k : Nat} {m : Dm} {y : Ins} (h : ds[k]? = some m) : fitsB R (ds.drop k) y = (m.ok y R && fitsB R (ds.drop (k + 1)) (m.next y)) := by
  obtain ⟨hk, rfl⟩ := List.getElem?_eq_some_iff.1 h
  rw [List.drop_eq_getElem_cons hk, fitsB]
theorem fits_end {R : Room} {ds : List Dm} {k : Nat} {y : Ins} (h : ds.length ≤ k) : fitsB R (ds.drop k) y = decide (y = bareI y.op) := by
  rw [List.drop_eq_nil_of_le h, fitsB]

set_option maxRecDepth 100000 in
set_option maxHeartbeats 4000000 in
theorem fits_any (w : World) (vi vd : Value) (x : Ins) (R : Room) (ds : List Dm) (hx : InsAt w vi x) (hd : SlAt 1 DemP w vd ds) :
    Calls Tryz.prog 24 #[vi, roomV R, vd] w fun e w' => e = .returned (.bool (fitsB R ds x)) ∧ Below w.heap.size w w' := by
  obtain ⟨u, rfl, hu, hfx⟩ := hx
  obtain ⟨A, cap, rfl⟩ := SlAt.form hd
  obtain ⟨-, hca, hcm, -⟩ := SlAt.get hd
  have hm1 : cap ≤ 9223372036854775807 := hcm
  have HD := Lib.hid hd
  have HS := Lib.hid (fun vx vy x y w => sameIns_any vx vy x y w)
  have H0 := Lib.hid (show MidF w ((w.alloc (.cells (insV x u).toArray 33)).alloc (.cells #[.int .i64 R.regs, .int .i64 R.places, .int .i64 R.procs] 63)) ((w.alloc (.cells (insV x u).toArray 33)).alloc (.cells #[.int .i64 R.regs, .int .i64 R.places, .int .i64 R.procs] 63)) w.heap.size x u from
    ⟨((below_box _ _).block _ (by simp)).trans (heap_alloc_new w _), hu, hfx, Nat.le_refl _, (below_box w _).trans ((below_box _ _).mono (by simp)), Only.refl _ _⟩)
  clear hd hu hfx hcm
  unfold roomV
  unfold insV at H0 ⊢
  go_enter Tryz.func24, Tryz.ntmps24
  go_wp2
  go_loopw [11] (fun i wr => ∃ (k : Nat) (y : Ins) (u' : Value), k ≤ ds.length ∧ i = .int .i64 k ∧ fitsB R ds x = fitsB R (ds.drop k) y ∧ MidF w ((w.alloc (.cells #[.int .i64 x.op, .int .i64 x.d, .int .i64 x.a, .int .i64 x.b, .int .i64 x.c, .string x.s, .int .i64 x.n, u] 33)).alloc (.cells #[.int .i64 R.regs, .int .i64 R.places, .int .i64 R.procs] 63)) wr w.heap.size y u') (fun i _ => ds.length - (intOf i).toNat)
  case atStart => exact ⟨0, x, u, Nat.zero_le _, rfl, by rw [List.drop_zero], H0.out⟩
  case round =>
    obtain ⟨k, y, u', hk, rfl, hfit, hM⟩ := hrel
    have HF := Lib.hid hfit
    have HM := Lib.hid hM
    have hr : wr.heap[w.heap.size + 1]? = some (.cells #[.int .i64 R.regs, .int .i64 R.places, .int .i64 R.procs] 63 (0, 0)) := by
      refine (hM.only.block (w.heap.size + 1) (by simp) (by omega)).trans ?_
      have := heap_alloc_new (w.alloc (.cells #[.int .i64 x.op, .int .i64 x.d, .int .i64 x.a, .int .i64 x.b, .int .i64 x.c, .string x.s, .int .i64 x.n, u] 33)) (.cells #[.int .i64 R.regs, .int .i64 R.places, .int .i64 R.procs] 63)
      simpa using this
    have r0 := cell_of_row wr _ 0 _ _ _ hr
    have r1 := cell_of_row wr _ 1 _ _ _ hr
    have r2 := cell_of_row wr _ 2 _ _ _ hr
    simp at r0 r1 r2
    obtain ⟨c0, c1, c2, c3, c4, c5, c6, c7, -⟩ := hM.cells
    clear hfit hM hr
    by_cases hlt : k < ds.length
    · obtain ⟨g, off, m, v, rfl, hg, hx, hv, hc⟩ := dem_get HD.out k hlt
      rw [← HM.out.bel.cell (p := ⟨g, off + k, none⟩) hg] at hc
      have g1 : (k : Int) < ds.length := by omega
      have HX := Lib.hid (fits_drop (R := R) (y := y) hx)
      clear hx
      have hforms := hv.forms
      rcases hforms with ⟨p, q, rfl⟩ | ⟨p, rfl⟩ | rfl | rfl | rfl | rfl
      all_goals
        have HC := Lib.hid (dem_any m _ _ w _ wr w.heap.size y u' R HM.out hv)
        clear hv
        unfold roomV at HC
        cases hok : m.ok y R
        all_goals
          rw [hok] at HC HX
          clear hok
          go_wp2_with (first | (go_at_call 63; refine HC.out.mono ?_; rintro e w1 ⟨rfl, u2, hM2⟩; have HM2 := Lib.hid hM2; clear hM2) | (go_at_call 64; refine HC.out.mono ?_; rintro e w1 ⟨rfl, u2, hM2⟩; have HM2 := Lib.hid hM2; clear hM2) | (go_at_call 48; refine HC.out.mono ?_; rintro e w1 ⟨rfl, u2, hM2⟩; have HM2 := Lib.hid hM2; clear hM2) | (go_at_call 50; refine HC.out.mono ?_; rintro e w1 ⟨rfl, u2, hM2⟩; have HM2 := Lib.hid hM2; clear hM2) | (go_at_call 47; refine HC.out.mono ?_; rintro e w1 ⟨rfl, u2, hM2⟩; have HM2 := Lib.hid hM2; clear hM2) | (go_at_call 49; refine HC.out.mono ?_; rintro e w1 ⟨rfl, u2, hM2⟩; have HM2 := Lib.hid hM2; clear hM2))
          first
            | (go_ret; exact ⟨by rw [HF.out, HX.out]; rfl, HM2.out.bel⟩)
            | (go_roundw
               case rel => exact ⟨k + 1, _, _, by omega, by go_num, by rw [HF.out, HX.out]; rfl, HM2.out⟩
               case measure => simp [intOf]; omega)
    · have g1 : ¬ (k : Int) < ds.length := by omega
      have HE := Lib.hid (fits_end (R := R) (ds := ds) (y := y) (k := k) (by omega))
      have HC := Lib.hid (HS.out (.agg #[.int .i64 y.op, .int .i64 y.d, .int .i64 y.a, .int .i64 y.b, .int .i64 y.c, .string y.s, .int .i64 y.n, u']) (.agg #[.int .i64 y.op, .int .i64 0, .int .i64 0, .int .i64 0, .int .i64 0, .string ⟨#[]⟩, .int .i64 0, .slice none 0 0]) y (bareI y.op) wr ⟨u', rfl, HM.out.ints.below IntP.keeps HM.out.bel, HM.out.fine⟩ ⟨_, rfl, SlAt.nil _ _ _, ⟨HM.out.fine.1.1, i64_0, i64_0, i64_0, i64_0, i64_0⟩, fine_nil⟩)
      go_wp2_with (go_at_call 51; refine HC.out.mono ?_; rintro e w1 ⟨rfl, hb1⟩)
      go_ret
      exact ⟨by rw [HF.out, HE.out]; rfl, HM.out.bel.trans (hb1.mono HM.out.bel.size)⟩
end Go.Proofs.YtconnhphkbgbkaaGreatDoor
