/- gumshoeref07's Put. -/
import Derived.Test.YtpbbinppikaamaaRefSee
import Derived.Deep.RegionHeldLaw
import Derived.Test.YtpbbinppikaamaaRefAlloc
import Derived.StillTailTactics
namespace Go.Proofs.Ytpbbinppikaamaa
open Go.RowKit Go.Proofs Go.Maps

theorem set_map {ths : List TH} {i : Nat} {t : TH} (hi : ths[i]? = some t) (s : ByteArray) (x : V) (ks vs : Value) : (ths.set i ⟨{ t.o with kv := pt t.o.kv s x }, ks, vs⟩).map TH.o = setO (ths.map TH.o) i s x := by
  have e : (ths.map TH.o)[i]? = some t.o := by rw [List.getElem?_map, hi]; rfl
  unfold setO
  rw [e, List.map_set]
/-- What a put comes to, where the object is there and the value may be put. -/
def Done (w w' : World) (F : Nat → Prop) (b T : Nat) (L : Hp) (n : Nat) (s : ByteArray) (x : V) : Prop := IsR w' (ext F w w') b (T + 1) (setO L n s x) ∧ Only F w w'
theorem RefAt.done {w W W' : World} {F : Nat → Prop} {b T : Nat} {ths : List TH} {v : Value} {n : Nat} {t : TH} {s : ByteArray} {x : V} {ks vs : Value} (hb : Below w.heap.size w W) (hlt : ∀ i, F i → i < w.heap.size) (hw : Wf (ths.map TH.o)) (h3 : (ths.map TH.o).length ≤ 5000) (hi : ths[n]? = some t)
    (h : RefAt W' (ext F W W') b (T + 1) (ths.set n ⟨{ t.o with kv := pt t.o.kv s x }, ks, vs⟩) v ∧ Only F W W') : Done w W' F b T (ths.map TH.o) n s x := by
  have hs := hb.size
  have hs2 := h.2.size
  refine ⟨⟨⟨v, _, h.1.mono (G := ext F w W') (fun i hi => hi.imp id (fun hi => ⟨by omega, hi.2⟩)) (ext_lt hlt (Nat.le_trans hs hs2)), (set_map hi s x ks vs).symm⟩, hw.setO _ _ _, by rw [setO_len]; exact h3⟩, (Only.of_below hb).trans' h.2⟩
theorem Done.drew {w W' : World} {F : Nat → Prop} {b T : Nat} {L : Hp} {n : Nat} {s : ByteArray} {x : V} (h : Done w W' F b T L n s x) : Done w W'.drew F b T L n s x :=
  ⟨h.1.keep (w' := W'.drew) (fun _ _ => rfl) (Nat.le_refl _), ⟨h.2.os, h.2.tape, h.2.output, h.2.size, h.2.block⟩⟩
/-- An append of one element to a row of values, behind a draw. -/
theorem app_drew {W : World} {t e : TypeId} {z : Value} {size bytes : Nat} (ht : Try.prog.underlying t = some (.slice e)) (hi : (Try.prog.info? e).map (fun i => (i.zero, i.size, i.bytes)) = some (some z, size, bytes)) (hzs : z.cells.size = size) (hsz : 0 < size) (hby : bytes ≤ 100)
    {v : Value} {n : Nat} {xs : List Value} (hrow : W.ownsRow 0 e size v n xs) (news : List Value) (hl : news.length = size) (h1 : ∀ u ∈ news, u.oneCell' = true) (hn : n ≤ 1000000) :
    ∃ v' w', (Builtin.append_ #[t, t] t #[v, .slice (some ⟨W.heap.size, 0, none⟩) 1 1]).run Try.prog (W.alloc (.cells news.toArray e)).drew = .ok v' w' ∧ App (W.alloc (.cells news.toArray e)) e size (n + 1) v (xs ++ news) v' w' := by
  obtain ⟨u, w3, r1, r2⟩ := app_one (P := Try.prog) (w := (W.alloc (.cells news.toArray e)).drew) (t := t) (ty := t) ht hi hzs hsz hby (row_keep (w' := (W.alloc (.cells news.toArray e)).drew) hrow (fun j hj => Below.heap_alloc W _ j (row_lt hrow hj))) W.heap.size news e (heap_alloc_new W _) hl h1 hn
  exact ⟨u, w3, r1, r2.own, ⟨r2.grown.os, r2.grown.tape, r2.grown.output, r2.grown.size, r2.grown.block⟩, r2.lies⟩

set_option maxRecDepth 100000 in
set_option maxHeartbeats 8000000 in
theorem rput_in {F : Nat → Prop} {b T : Nat} {L : Hp} (n : Nat) (o : Ob) (s : ByteArray) (vk vn : Int) (vs : ByteArray) (w : World) (h : IsR w F b T L) (hL : L[n]? = some o) (hT : T ≤ 1000000) (hok : okPut L ⟨vk, vn, vs⟩ = true) :
    Calls Try.prog 30 #[.pointer (some ⟨b, 0, none⟩), .int .i64 n, .string s, .agg #[.int .i64 vk, .int .i64 vn, .string vs]] w fun e w' => e = .returned (.int .i64 0) ∧ Done w w' F b T L n s ⟨vk, vn, vs⟩ := by
  have hb := (Below.refl w.heap.size w).alloc (Nat.le_refl _) (.cells #[.int .i64 vk, .int .i64 vn, .string vs] 32)
  have HI := Lib.hid (Is_any (n : Int) _ (h.below hb))
  have eb : isB L n = true := by simp [isB, at?_nat, hL]
  rw [eb] at HI
  have HR := Lib.hid (fun w => rright_any vk vn vs w)
  have hlt := h.lt
  have hgood : rightB vk vn vs = true ∧ (vk = 5 → 0 ≤ vn ∧ vn < L.length) := by
    unfold okPut at hok
    cases hr : rightB vk vn vs with
    | false => rw [hr] at hok; simp at hok
    | true =>
      rw [hr] at hok
      simp at hok
      refine ⟨rfl, fun h => ?_⟩
      rcases hok with h' | h'
      · exact absurd h h'
      · omega
  rw [hgood.1] at HR
  have hcase : (vk == 5) = false ∨ ((vk == 5) = true ∧ decide (vn < 0) = false ∧ decide ((L.length : Int) ≤ vn) = false) := by
    by_cases h5 : vk = 5
    · exact .inr ⟨by simpa using h5, decide_eq_false (by have := hgood.2 h5; omega), decide_eq_false (by have := hgood.2 h5; omega)⟩
    · exact .inl (by simpa using h5)
  obtain ⟨⟨v, ths, hr, rfl⟩, hw, h3⟩ := h
  obtain ⟨t, ht, rfl⟩ := ths_at hL
  have hbl : b < w.heap.size := hlt b hr.mine
  have hlenL : (ths.map TH.o).length = ths.length := by simp
  rw [hlenL] at hcase
  -- what the search finds in a world
  have hfacts : ∀ W, Below w.heap.size w W → RefAt W F b T ths v := fun W hbW => hr.keep (fun i hi => hbW.block i (hlt i hi)) (by have := hbW.size; omega)
  have HH := Lib.hid (And.intro hfacts (And.intro hlt (And.intro hw (And.intro h3 ht))))
  clear hok hgood hL hr hfacts hw h3 ht eb hb
  have hn1 : n < ths.length := (List.getElem?_eq_some_iff.1 HH.out.2.2.2.2).1
  have hn' : (n : Int) < (ths.length : Int) := by omega
  rcases hcase with d9 | ⟨d7, d8, d9⟩
  all_goals
    go_enter Try.func30, Try.ntmps30
    go_wp2_with fail
    go_at_call 34
    refine (HI.out).mono ?_
    rintro e w' ⟨rfl, rfl⟩
    go_wp2_with fail
    go_at_call 27
    refine (HR.out _).mono ?_
    rintro e W0 ⟨rfl, hb0⟩
    obtain ⟨⟨a0, a1, a2⟩, -, hbw, hltb⟩ := box_facts hb0
    have hrW := HH.out.1 W0 hbw
    have HB := Lib.hid (And.intro hbw hltb)
    obtain ⟨g, c, A, ck, B, cv, ev, d0, hc1, hc2, hn2, hFg, d4, d5, -, hk1, hk2, hv1, hv2, ek, ev2, hx⟩ := own_facts hrW HH.out.2.2.2.2
    subst ev
    have hth := hrW.th n t HH.out.2.2.2.2
    have HRW := Lib.hid (And.intro hrW hth)
    have HX := Lib.hid (And.intro hx (And.intro ek ev2))
    obtain ⟨m, hm⟩ : ∃ m, t.o.kv.length = m := ⟨_, rfl⟩
    have HM := Lib.hid hm
    rw [hm] at d4 d5 hk1 hv1
    clear hb0 hbw hrW hth hx ek ev2 hm
    go_wp2_with fail
    go_quiet (fail)
    go_wp2
    obtain ⟨W1, hW1⟩ : ∃ x, x = W0.drewN nq := ⟨_, rfl⟩
    have hfr : ∀ p, W1.frozen? p = W0.frozen? p := fun p => by rw [hW1]; rfl
    have hce : ∀ p, W1.cell? p = W0.cell? p := fun p => by rw [hW1]; rfl
    have hb1 : Below w.heap.size w W1 := by rw [hW1]; exact below_drewN HB.out.1 _
    have hr1 : RefAt W1 F b T ths (.slice (some ⟨g, 0, none⟩) ths.length c) := by rw [hW1]; exact HRW.out.1.keep (fun _ _ => rfl) (Nat.le_refl _)
    have hth1 := hr1.th n t HH.out.2.2.2.2
    have g0 := (hce _).trans d0
    have g4 := (hce _).trans d4
    have g5 := (hce _).trans d5
    have p0 := (hce _).trans a0
    have p1 := (hce _).trans a1
    have p2 := (hce _).trans a2
    have HR1 := Lib.hid (And.intro hr1 (And.intro hb1 hth1))
    have HX1 := Lib.hid (fun (k : Nat) (x : ByteArray × V) (hk : t.o.kv[k]? = some x) => (by
      obtain ⟨gk, gv, q1, q2, -, -, q3, q4, q5, q6⟩ := HX.out.1 k x hk
      exact ⟨gk, gv, q1, q2, (hce _).trans q3, (hce _).trans q4, (hce _).trans q5, (hce _).trans q6⟩ : ∃ gk gv, A = some ⟨gk, 0, none⟩ ∧ B = some ⟨gv, 0, none⟩ ∧ W1.cell? ⟨gk, k, none⟩ = some (.string x.1) ∧ W1.cell? ⟨gv, k * 3, none⟩ = some (.int .i64 x.2.k) ∧ W1.cell? ⟨gv, k * 3 + 1, none⟩ = some (.int .i64 x.2.n) ∧ W1.cell? ⟨gv, k * 3 + 2, none⟩ = some (.string x.2.s)))
    rw [← hW1]
    clear d0 d4 d5 a0 a1 a2 hW1 hce hfr hr1 hth1 hb1
    go_loopg [11] m (fun gn i wr => ∃ k : Nat, k ≤ m ∧ gn = m - k ∧ i = .int .i64 k ∧ W1 = wr ∧ pt t.o.kv s ⟨vk, vn, vs⟩ = t.o.kv.take k ++ pt (t.o.kv.drop k) s ⟨vk, vn, vs⟩ ∧ lk t.o.kv s = lk (t.o.kv.drop k) s)
    case atStart => exact ⟨0, Nat.zero_le _, rfl, rfl, rfl, rfl, rfl⟩
    case round =>
      obtain ⟨k, hk, rfl, rfl, rfl, hpt, hlk⟩ := hrel
      by_cases hkm : k < m
      · obtain ⟨x, hxk⟩ : ∃ x, t.o.kv[k]? = some x := ⟨_, List.getElem?_eq_getElem (by rw [HM.out]; exact hkm)⟩
        obtain ⟨gk, gv, rfl, rfl, e0, e1, e2, e3⟩ := HX1.out k x hxk
        have hkm' : (k : Int) < (m : Int) := by omega
        have f0 : W1.frozen? ⟨gv, k * 3, none⟩ = false := by have := HR1.out.2.2.vs; rw [HX.out.2.2] at this; exact this.frozenAt _
        have f1 : W1.frozen? ⟨gv, k * 3 + 1, none⟩ = false := by have := HR1.out.2.2.vs; rw [HX.out.2.2] at this; exact this.frozenAt _
        have f2 : W1.frozen? ⟨gv, k * 3 + 2, none⟩ = false := by have := HR1.out.2.2.vs; rw [HX.out.2.2] at this; exact this.frozenAt _
        by_cases hxs : x.1 = s
        · obtain ⟨xk, xv⟩ := x
          simp only at hxs e0 e1 e2 e3
          subst hxs
          have hhit := RefAt.hit (x := ⟨vk, vn, vs⟩) HR1.out.1 HH.out.2.2.2.2 hxk HX.out.2.2 (pt_hit hxk _ hpt)
          have HZ := Lib.hid (RefAt.done HR1.out.2.1 HH.out.2.1 HH.out.2.2.1 HH.out.2.2.2.1 HH.out.2.2.2.2 hhit)
          clear hpt hlk hxk hhit
          go_wp2_with fail
          go_still_tail 11, (by kernel_rfl)
          change wpList _ _ _ _ _ W1.drew
          go_wp2
          go_ret
          exact ⟨rfl, HZ.out.drew⟩
        · have dx := str_ne hxs
          have HE := Lib.hid (And.intro (pt_step hxk hxs _ hpt) (show lk t.o.kv s = lk (t.o.kv.drop (k + 1)) s by rw [hlk, lk_drop hxk s, if_neg hxs]))
          clear hpt hlk hxk hxs
          go_wp2
          go_roundg (m - (k + 1))
          case measure => omega
          case rel => exact ⟨k + 1, by omega, rfl, by go_num, rfl, HE.out⟩
      · obtain rfl : k = m := by omega
        have HE := Lib.hid (show lk t.o.kv s = none by rw [hlk, List.drop_eq_nil_of_le (by rw [HM.out]; exact Nat.le_refl _)]; rfl)
        have hend : ¬ (k : Int) < (k : Int) := by omega
        have hsm : k ≤ 1000000 := by have := HRW.out.2.small; rw [HM.out] at this; omega
        clear hpt hlk
        have hr1 := HR1.out.1
        have hb1 := HR1.out.2.1
        have hth1 := hr1.th n t HH.out.2.2.2.2
        have HA := Lib.hid (app_drew (t := 43) Try.underlying43 info9 rfl (by decide) (by decide) hth1.ks [.string s] rfl (by simp [Value.oneCell']) (by rw [HM.out]; exact hsm))
        rw [HX.out.2.1, HM.out] at HA
        have HQ := Lib.hid (fun (u : Value) (w3 : World) (happ : App (W1.alloc (.cells #[.string s] 9)) 9 1 (k + 1) (.slice A k ck) (strsOf (keysOf t.o.kv) ++ [.string s]) u w3) => RefAt.mid hr1 HH.out.2.2.2.2 (s := s) (u := u) (by rw [HX.out.2.1, HM.out]; exact happ))
        have HN := Lib.hid (fun (u : Value) (w3 : World) (hm : MidR W1 w3 F b T ths t n g c s u) => (by
          have hv := hm.half.vs
          rw [HX.out.2.2, HM.out] at hv
          refine ⟨app_drew (t := 63) Try.underlying63 info32 rfl (by decide) (by decide) hv [.int .i64 vk, .int .i64 vn, .string vs] rfl (by simp [Value.oneCell']) hsm, fun u2 w4 happ => ?_⟩
          have hf := hm.fin (x := ⟨vk, vn, vs⟩) hr1 HH.out.2.2.2.2 HE.out (ob := (.cells [.int .i64 vk, .int .i64 vn, .string vs].toArray 32)) (by rw [HX.out.2.2, HM.out]; exact happ)
          exact ⟨(RefAt.done hb1 HH.out.2.1 HH.out.2.2.1 HH.out.2.2.2.1 HH.out.2.2.2.2 hf.done), (by have := hf.e5; rw [HX.out.2.2] at this; exact this), hf.f5, hf.hd, hf.hd2⟩ :
          (∃ v' w', (Builtin.append_ #[63, 63] 63 #[.slice B k cv, .slice (some ⟨(w3.setCell ⟨g, n * 6 + 4, none⟩ u).heap.size, 0, none⟩) 1 1]).run Try.prog ((w3.setCell ⟨g, n * 6 + 4, none⟩ u).alloc (.cells [.int .i64 vk, .int .i64 vn, .string vs].toArray 32)).drew = .ok v' w' ∧ App ((w3.setCell ⟨g, n * 6 + 4, none⟩ u).alloc (.cells [.int .i64 vk, .int .i64 vn, .string vs].toArray 32)) 32 3 (k + 1) (.slice B k cv) (valsOf t.o.kv ++ [.int .i64 vk, .int .i64 vn, .string vs]) v' w') ∧
          ∀ u2 w4, App ((w3.setCell ⟨g, n * 6 + 4, none⟩ u).alloc (.cells [.int .i64 vk, .int .i64 vn, .string vs].toArray 32)) 32 3 (k + 1) (.slice B k cv) (valsOf t.o.kv ++ [.int .i64 vk, .int .i64 vn, .string vs]) u2 w4 →
            Done w (w4.setCell ⟨g, n * 6 + 5, none⟩ u2) F b T (ths.map TH.o) n s ⟨vk, vn, vs⟩ ∧ w4.cell? ⟨g, n * 6 + 5, none⟩ = some (.slice B t.o.kv.length cv) ∧ w4.frozen? ⟨g, n * 6 + 5, none⟩ = false ∧
            w4.cell? ⟨b, 0, none⟩ = some (.slice (some ⟨g, 0, none⟩) ths.length c) ∧ (w4.setCell ⟨g, n * 6 + 5, none⟩ u2).cell? ⟨b, 0, none⟩ = some (.slice (some ⟨g, 0, none⟩) ths.length c)))
        have hnF : ¬ F w.heap.size := fun e => Nat.lt_irrefl _ (HH.out.2.1 _ e)
        have hgl : g < W1.heap.size := hr1.lt g hFg
        have hbl2 : b < W1.heap.size := hr1.lt b hr1.mine
        have hltb1 : w.heap.size < W1.heap.size := World.block_lt_of_cell? _ _ p0
        have hSa : (W1.alloc (.cells #[.string s] 9)).cell? ⟨b, 0, none⟩ = some (.slice (some ⟨g, 0, none⟩) ths.length c) := (World.cell?_alloc_past _ _ _ hbl2).trans g0
        clear hr1 hb1 hth1
        go_wp2_with fail
        refine wp_region_held_drew (S := (fun w' => w'.cell? ⟨b, 0, none⟩ = some (.slice (some ⟨g, 0, none⟩) ths.length c))) (by kernel_rfl) g0 (fun hHeld => ?_)
        refine wpAnyH_take (i := 0) (v := ?_) rfl (by kernel_rfl) (by kernel_rfl) (by kernel_rfl) (fun _ _ _ h => h) (Or.inl ⟨by rfl, ?_⟩) (by assumption) ?_
        rotate_left 1
        · (intro w hSw; (try dsimp only at hSw); go_simp <;> (with_reducible rfl))
        refine wpAnyH_take (i := 1) (v := ?_) rfl (by kernel_rfl) (by kernel_rfl) (by kernel_rfl) (fun _ _ _ h => h) (Or.inl ⟨by rfl, ?_⟩) (by assumption) ?_
        rotate_left 1
        · (intro w hSw; (try dsimp only at hSw); go_simp <;> (with_reducible rfl))
        refine wpAnyH_take (i := 2) (v := ?_) rfl (by kernel_rfl) (by kernel_rfl) (by kernel_rfl) (fun _ _ _ h => h) (Or.inl ⟨by rfl, ?_⟩) (by assumption) ?_
        rotate_left 1
        · (intro w hSw; (try dsimp only at hSw); go_simp <;> (with_reducible rfl))
        refine wpAnyH_take (i := 3) (v := ?_) rfl (by kernel_rfl) (by kernel_rfl) (by kernel_rfl) (fun _ _ _ h => h) (Or.inl ⟨by rfl, ?_⟩) (by assumption) ?_
        rotate_left 1
        · (intro w hSw; (try dsimp only at hSw); go_simp <;> (with_reducible rfl))
        refine wpAnyH_take (i := 4) (v := ?_) rfl (by kernel_rfl) (by kernel_rfl) (by kernel_rfl) (fun _ _ _ h => h) (Or.inl ⟨by rfl, ?_⟩) (by assumption) ?_
        rotate_left 1
        · (intro w hSw; (try dsimp only at hSw); go_simp <;> (with_reducible rfl))
        refine wpAnyH_take (i := 5) (v := ?_) rfl (by kernel_rfl) (by kernel_rfl) (by kernel_rfl) (fun _ _ _ h => h) (Or.inl ⟨by rfl, ?_⟩) (by assumption) ?_
        rotate_left 1
        · (intro w hSw; (try dsimp only at hSw); go_simp <;> (with_reducible rfl))
        refine wpAnyH_take (i := 6) (v := ?_) rfl (by kernel_rfl) (by kernel_rfl) (by kernel_rfl) (fun _ _ _ h => h) (Or.inl ⟨by rfl, ?_⟩) (by assumption) ?_
        rotate_left 1
        · (intro w hSw; (try dsimp only at hSw); go_simp <;> (with_reducible rfl))
        refine wpAnyH_take (i := 7) (v := ?_) rfl (by kernel_rfl) (by kernel_rfl) (by kernel_rfl) (fun _ _ _ h => h) (Or.inl ⟨by rfl, ?_⟩) (by assumption) ?_
        rotate_left 1
        · (intro w hSw; (try dsimp only at hSw); go_simp <;> (with_reducible rfl))
        refine wpAnyH_take (i := 8) (v := ?_) rfl (by kernel_rfl) (by kernel_rfl) (by kernel_rfl) (fun _ _ _ h => h) (Or.inl ⟨by rfl, ?_⟩) (by assumption) ?_
        rotate_left 1
        · (intro w hSw; (try dsimp only at hSw); go_simp <;> (with_reducible rfl))
        refine wpAnyH_take (i := 9) (v := ?_) rfl (by kernel_rfl) (by kernel_rfl) (by kernel_rfl) (fun _ _ _ h => h) (Or.inl ⟨by rfl, ?_⟩) (by assumption) ?_
        rotate_left 1
        · (intro w hSw; (try dsimp only at hSw); go_simp <;> (with_reducible rfl))
        refine wpAnyH_take (i := 10) (v := ?_) rfl (by kernel_rfl) (by kernel_rfl) (by kernel_rfl) (fun _ _ _ h => h) (Or.inl ⟨by rfl, ?_⟩) (by assumption) ?_
        rotate_left 1
        · (intro w hSw; (try dsimp only at hSw); go_simp <;> (with_reducible rfl))
        refine wpAnyH_take (i := 11) (v := ?_) rfl (by kernel_rfl) (by kernel_rfl) (by kernel_rfl) (fun _ _ _ h => h) (Or.inl ⟨by rfl, ?_⟩) (by assumption) ?_
        rotate_left 1
        · (intro w hSw; (try dsimp only at hSw); go_simp <;> (with_reducible rfl))
        refine wpAnyH_take (i := 13) (v := ?_) rfl (by kernel_rfl) (by kernel_rfl) (by kernel_rfl) (fun _ _ _ h => h) (Or.inl ⟨by rfl, ?_⟩) (by assumption) ?_
        rotate_left 1
        · (intro w hSw; (try dsimp only at hSw); go_simp <;> (with_reducible rfl))
        refine wpAnyH_ready (rs := [12, 14]) (by kernel_rfl) (by simp) ?_
        refine AllReadyH.cons rfl (fun K hK => ?_) ?_
        · go_simp
          refine hK.out _ _ ?_ (fun hHeld => ?_)
          · exact hHeld
          clear hK K
          refine wpAnyH_ready (rs := [14]) (by kernel_rfl) (by simp) ?_
          refine AllReadyH.cons rfl (fun K hK => ?_) ?_
          · go_simp
            refine hK.out _ _ ?_ (fun hHeld => ?_)
            · exact hSa
            clear hK K
            refine wpAnyH_ready (rs := [15]) (by kernel_rfl) (by simp) ?_
            refine AllReadyH.cons rfl (fun K hK => ?_) ?_
            · refine step_app rfl (.tmp 90) (.tmp 92) 43 rfl _ _ rfl rfl _ (HA.out) ?_
              intro u w3 happ
              obtain ⟨A', c', rfl, -, -⟩ := row_slice happ.own
              have HMid := Lib.hid (HQ.out _ _ happ)
              have e4 := HMid.out.e4
              have f4 := HMid.out.f4
              have hd := HMid.out.hd
              have hd2 := HMid.out.hd2
              clear happ
              refine hK.out _ _ ?_ (fun hHeld => ?_)
              · exact hd
              clear hK K
              refine wpAnyH_take (i := 16) (v := ?_) rfl (by kernel_rfl) (by kernel_rfl) (by kernel_rfl) (fun _ _ _ h => h) (Or.inl ⟨by rfl, ?_⟩) (by assumption) ?_
              rotate_left 1
              · (intro w hSw; (try dsimp only at hSw); go_simp <;> (with_reducible rfl))
              refine wpAnyH_take (i := 17) (v := ?_) rfl (by kernel_rfl) (by kernel_rfl) (by kernel_rfl) (fun _ _ _ h => h) (Or.inl ⟨by rfl, ?_⟩) (by assumption) ?_
              rotate_left 1
              · (intro w hSw; (try dsimp only at hSw); go_simp <;> (with_reducible rfl))
              refine wpAnyH_ready (rs := [18]) (by kernel_rfl) (by simp) ?_
              refine AllReadyH.cons rfl (fun K hK => ?_) ?_
              · go_simp
                refine hK.out _ _ ?_ (fun hHeld => ?_)
                · exact hd2
                clear hK K
                refine wpAnyH_done (by kernel_rfl) ?_ _
                have HN2 := Lib.hid (HN.out _ _ HMid.out)
                have q5 := HMid.out.e5
                rw [HX.out.2.2, HM.out] at q5
                have q0 := HMid.out.hd2
                have r0 := (HMid.out.see w.heap.size hnF hltb1 0).trans p0
                have r1 := (HMid.out.see w.heap.size hnF hltb1 1).trans p1
                have r2 := (HMid.out.see w.heap.size hnF hltb1 2).trans p2
                have gl2 := Nat.lt_of_lt_of_le hgl HMid.out.size
                have bl2 := Nat.lt_of_lt_of_le hbl2 HMid.out.size
                have lt2 := Nat.lt_of_lt_of_le hltb1 HMid.out.size
                have gs := HMid.out.half.row.frozenAt (n * 6 + 5)
                clear e4 f4 hd hd2 HMid hHeld p0 p1 p2
                generalize hW2 : (w3.setCell ⟨g, n * 6 + 4, none⟩ (.slice A' (k + 1) c')) = W2 at HN2 q0 q5 r0 r1 r2 gl2 bl2 lt2 gs ⊢
                have hSb : (W2.alloc (.cells #[.int .i64 vk, .int .i64 vn, .string vs] 32)).cell? ⟨b, 0, none⟩ = some (.slice (some ⟨g, 0, none⟩) ths.length c) := (World.cell?_alloc_past _ _ _ bl2).trans q0
                go_wp2_with fail
                refine wp_region_held_drew (S := (fun w' => w'.cell? ⟨b, 0, none⟩ = some (.slice (some ⟨g, 0, none⟩) ths.length c))) (by kernel_rfl) q0 (fun hHeld => ?_)
                refine wpAnyH_take (i := 0) (v := ?_) rfl (by kernel_rfl) (by kernel_rfl) (by kernel_rfl) (fun _ _ _ h => h) (Or.inl ⟨by rfl, ?_⟩) (by assumption) ?_
                rotate_left 1
                · (intro w hSw; (try dsimp only at hSw); go_simp <;> (with_reducible rfl))
                refine wpAnyH_take (i := 1) (v := ?_) rfl (by kernel_rfl) (by kernel_rfl) (by kernel_rfl) (fun _ _ _ h => h) (Or.inl ⟨by rfl, ?_⟩) (by assumption) ?_
                rotate_left 1
                · (intro w hSw; (try dsimp only at hSw); go_simp <;> (with_reducible rfl))
                refine wpAnyH_take (i := 2) (v := ?_) rfl (by kernel_rfl) (by kernel_rfl) (by kernel_rfl) (fun _ _ _ h => h) (Or.inl ⟨by rfl, ?_⟩) (by assumption) ?_
                rotate_left 1
                · (intro w hSw; (try dsimp only at hSw); go_simp <;> (with_reducible rfl))
                refine wpAnyH_take (i := 3) (v := ?_) rfl (by kernel_rfl) (by kernel_rfl) (by kernel_rfl) (fun _ _ _ h => h) (Or.inl ⟨by rfl, ?_⟩) (by assumption) ?_
                rotate_left 1
                · (intro w hSw; (try dsimp only at hSw); go_simp <;> (with_reducible rfl))
                refine wpAnyH_take (i := 4) (v := ?_) rfl (by kernel_rfl) (by kernel_rfl) (by kernel_rfl) (fun _ _ _ h => h) (Or.inl ⟨by rfl, ?_⟩) (by assumption) ?_
                rotate_left 1
                · (intro w hSw; (try dsimp only at hSw); go_simp <;> (with_reducible rfl))
                refine wpAnyH_take (i := 5) (v := ?_) rfl (by kernel_rfl) (by kernel_rfl) (by kernel_rfl) (fun _ _ _ h => h) (Or.inl ⟨by rfl, ?_⟩) (by assumption) ?_
                rotate_left 1
                · (intro w hSw; (try dsimp only at hSw); go_simp <;> (with_reducible rfl))
                refine wpAnyH_take (i := 6) (v := ?_) rfl (by kernel_rfl) (by kernel_rfl) (by kernel_rfl) (fun _ _ _ h => h) (Or.inl ⟨by rfl, ?_⟩) (by assumption) ?_
                rotate_left 1
                · (intro w hSw; (try dsimp only at hSw); go_simp <;> (with_reducible rfl))
                refine wpAnyH_take (i := 7) (v := ?_) rfl (by kernel_rfl) (by kernel_rfl) (by kernel_rfl) (fun _ _ _ h => h) (Or.inl ⟨by rfl, ?_⟩) (by assumption) ?_
                rotate_left 1
                · (intro w hSw; (try dsimp only at hSw); go_simp <;> (with_reducible rfl))
                refine wpAnyH_take (i := 8) (v := ?_) rfl (by kernel_rfl) (by kernel_rfl) (by kernel_rfl) (fun _ _ _ h => h) (Or.inl ⟨by rfl, ?_⟩) (by assumption) ?_
                rotate_left 1
                · (intro w hSw; (try dsimp only at hSw); go_simp <;> (with_reducible rfl))
                refine wpAnyH_take (i := 9) (v := ?_) rfl (by kernel_rfl) (by kernel_rfl) (by kernel_rfl) (fun _ _ _ h => h) (Or.inl ⟨by rfl, ?_⟩) (by assumption) ?_
                rotate_left 1
                · (intro w hSw; (try dsimp only at hSw); go_simp <;> (with_reducible rfl))
                refine wpAnyH_take (i := 10) (v := ?_) rfl (by kernel_rfl) (by kernel_rfl) (by kernel_rfl) (fun _ _ _ h => h) (Or.inl ⟨by rfl, ?_⟩) (by assumption) ?_
                rotate_left 1
                · (intro w hSw; (try dsimp only at hSw); go_simp <;> (with_reducible rfl))
                refine wpAnyH_take (i := 11) (v := ?_) rfl (by kernel_rfl) (by kernel_rfl) (by kernel_rfl) (fun _ _ _ h => h) (Or.inl ⟨by rfl, ?_⟩) (by assumption) ?_
                rotate_left 1
                · (intro w hSw; (try dsimp only at hSw); go_simp <;> (with_reducible rfl))
                refine wpAnyH_ready (rs := [12, 13]) (by kernel_rfl) (by simp) ?_
                refine AllReadyH.cons rfl (fun K hK => ?_) ?_
                · go_simp
                  refine hK.out _ _ ?_ (fun hHeld => ?_)
                  · exact hHeld
                  clear hK K
                  refine wpAnyH_ready (rs := [13]) (by kernel_rfl) (by simp) ?_
                  refine AllReadyH.cons rfl (fun K hK => ?_) ?_
                  · go_simp
                    refine hK.out _ _ ?_ (fun hHeld => ?_)
                    · exact hHeld
                    clear hK K
                    refine wpAnyH_ready (rs := [14]) (by kernel_rfl) (by simp) ?_
                    refine AllReadyH.cons rfl (fun K hK => ?_) ?_
                    · go_simp
                      refine hK.out _ _ ?_ (fun hHeld => ?_)
                      · exact hSb
                      clear hK K
                      refine wpAnyH_ready (rs := [15]) (by kernel_rfl) (by simp) ?_
                      refine AllReadyH.cons rfl (fun K hK => ?_) ?_
                      · refine step_app rfl (.tmp 108) (.tmp 110) 63 rfl _ _ rfl rfl _ (HN2.out.1) ?_
                        intro u2 w4 happ
                        obtain ⟨B', c2', rfl, -, -⟩ := row_slice happ.own
                        obtain ⟨z1, z2, z3, z4, z5⟩ := HN2.out.2 _ _ happ
                        have HZ := Lib.hid z1
                        clear happ z1
                        refine hK.out _ _ ?_ (fun hHeld => ?_)
                        · exact z4
                        clear hK K
                        refine wpAnyH_take (i := 16) (v := ?_) rfl (by kernel_rfl) (by kernel_rfl) (by kernel_rfl) (fun _ _ _ h => h) (Or.inl ⟨by rfl, ?_⟩) (by assumption) ?_
                        rotate_left 1
                        · (intro w hSw; (try dsimp only at hSw); go_simp <;> (with_reducible rfl))
                        refine wpAnyH_take (i := 17) (v := ?_) rfl (by kernel_rfl) (by kernel_rfl) (by kernel_rfl) (fun _ _ _ h => h) (Or.inl ⟨by rfl, ?_⟩) (by assumption) ?_
                        rotate_left 1
                        · (intro w hSw; (try dsimp only at hSw); go_simp <;> (with_reducible rfl))
                        refine wpAnyH_ready (rs := [18]) (by kernel_rfl) (by simp) ?_
                        refine AllReadyH.cons rfl (fun K hK => ?_) ?_
                        · go_simp
                          refine hK.out _ _ ?_ (fun hHeld => ?_)
                          · exact z5
                          clear hK K
                          refine wpAnyH_done (by kernel_rfl) ?_ _
                          go_wp2
                          go_ret
                          exact ⟨rfl, HZ.out⟩
                        exact AllReadyH.nil
                      exact AllReadyH.nil
                    exact AllReadyH.nil
                  exact AllReadyH.nil
                refine AllReadyH.cons rfl (fun K hK => ?_) ?_
                · go_simp
                  refine hK.out _ _ ?_ (fun hHeld => ?_)
                  · exact hHeld
                  clear hK K
                  refine wpAnyH_ready (rs := [12, 14]) (by kernel_rfl) (by simp) ?_
                  refine AllReadyH.cons rfl (fun K hK => ?_) ?_
                  · go_simp
                    refine hK.out _ _ ?_ (fun hHeld => ?_)
                    · exact hHeld
                    clear hK K
                    refine wpAnyH_ready (rs := [14]) (by kernel_rfl) (by simp) ?_
                    refine AllReadyH.cons rfl (fun K hK => ?_) ?_
                    · go_simp
                      refine hK.out _ _ ?_ (fun hHeld => ?_)
                      · exact hSb
                      clear hK K
                      refine wpAnyH_ready (rs := [15]) (by kernel_rfl) (by simp) ?_
                      refine AllReadyH.cons rfl (fun K hK => ?_) ?_
                      · refine step_app rfl (.tmp 108) (.tmp 110) 63 rfl _ _ rfl rfl _ (HN2.out.1) ?_
                        intro u2 w4 happ
                        obtain ⟨B', c2', rfl, -, -⟩ := row_slice happ.own
                        obtain ⟨z1, z2, z3, z4, z5⟩ := HN2.out.2 _ _ happ
                        have HZ := Lib.hid z1
                        clear happ z1
                        refine hK.out _ _ ?_ (fun hHeld => ?_)
                        · exact z4
                        clear hK K
                        refine wpAnyH_take (i := 16) (v := ?_) rfl (by kernel_rfl) (by kernel_rfl) (by kernel_rfl) (fun _ _ _ h => h) (Or.inl ⟨by rfl, ?_⟩) (by assumption) ?_
                        rotate_left 1
                        · (intro w hSw; (try dsimp only at hSw); go_simp <;> (with_reducible rfl))
                        refine wpAnyH_take (i := 17) (v := ?_) rfl (by kernel_rfl) (by kernel_rfl) (by kernel_rfl) (fun _ _ _ h => h) (Or.inl ⟨by rfl, ?_⟩) (by assumption) ?_
                        rotate_left 1
                        · (intro w hSw; (try dsimp only at hSw); go_simp <;> (with_reducible rfl))
                        refine wpAnyH_ready (rs := [18]) (by kernel_rfl) (by simp) ?_
                        refine AllReadyH.cons rfl (fun K hK => ?_) ?_
                        · go_simp
                          refine hK.out _ _ ?_ (fun hHeld => ?_)
                          · exact z5
                          clear hK K
                          refine wpAnyH_done (by kernel_rfl) ?_ _
                          go_wp2
                          go_ret
                          exact ⟨rfl, HZ.out⟩
                        exact AllReadyH.nil
                      exact AllReadyH.nil
                    exact AllReadyH.nil
                  refine AllReadyH.cons rfl (fun K hK => ?_) ?_
                  · go_simp
                    refine hK.out _ _ ?_ (fun hHeld => ?_)
                    · exact hSb
                    clear hK K
                    refine wpAnyH_ready (rs := [12]) (by kernel_rfl) (by simp) ?_
                    refine AllReadyH.cons rfl (fun K hK => ?_) ?_
                    · go_simp
                      refine hK.out _ _ ?_ (fun hHeld => ?_)
                      · exact hSb
                      clear hK K
                      refine wpAnyH_ready (rs := [15]) (by kernel_rfl) (by simp) ?_
                      refine AllReadyH.cons rfl (fun K hK => ?_) ?_
                      · refine step_app rfl (.tmp 108) (.tmp 110) 63 rfl _ _ rfl rfl _ (HN2.out.1) ?_
                        intro u2 w4 happ
                        obtain ⟨B', c2', rfl, -, -⟩ := row_slice happ.own
                        obtain ⟨z1, z2, z3, z4, z5⟩ := HN2.out.2 _ _ happ
                        have HZ := Lib.hid z1
                        clear happ z1
                        refine hK.out _ _ ?_ (fun hHeld => ?_)
                        · exact z4
                        clear hK K
                        refine wpAnyH_take (i := 16) (v := ?_) rfl (by kernel_rfl) (by kernel_rfl) (by kernel_rfl) (fun _ _ _ h => h) (Or.inl ⟨by rfl, ?_⟩) (by assumption) ?_
                        rotate_left 1
                        · (intro w hSw; (try dsimp only at hSw); go_simp <;> (with_reducible rfl))
                        refine wpAnyH_take (i := 17) (v := ?_) rfl (by kernel_rfl) (by kernel_rfl) (by kernel_rfl) (fun _ _ _ h => h) (Or.inl ⟨by rfl, ?_⟩) (by assumption) ?_
                        rotate_left 1
                        · (intro w hSw; (try dsimp only at hSw); go_simp <;> (with_reducible rfl))
                        refine wpAnyH_ready (rs := [18]) (by kernel_rfl) (by simp) ?_
                        refine AllReadyH.cons rfl (fun K hK => ?_) ?_
                        · go_simp
                          refine hK.out _ _ ?_ (fun hHeld => ?_)
                          · exact z5
                          clear hK K
                          refine wpAnyH_done (by kernel_rfl) ?_ _
                          go_wp2
                          go_ret
                          exact ⟨rfl, HZ.out⟩
                        exact AllReadyH.nil
                      exact AllReadyH.nil
                    exact AllReadyH.nil
                  exact AllReadyH.nil
                exact AllReadyH.nil
              exact AllReadyH.nil
            exact AllReadyH.nil
          exact AllReadyH.nil
        refine AllReadyH.cons rfl (fun K hK => ?_) ?_
        · go_simp
          refine hK.out _ _ ?_ (fun hHeld => ?_)
          · exact hSa
          clear hK K
          refine wpAnyH_ready (rs := [12]) (by kernel_rfl) (by simp) ?_
          refine AllReadyH.cons rfl (fun K hK => ?_) ?_
          · go_simp
            refine hK.out _ _ ?_ (fun hHeld => ?_)
            · exact hSa
            clear hK K
            refine wpAnyH_ready (rs := [15]) (by kernel_rfl) (by simp) ?_
            refine AllReadyH.cons rfl (fun K hK => ?_) ?_
            · refine step_app rfl (.tmp 90) (.tmp 92) 43 rfl _ _ rfl rfl _ (HA.out) ?_
              intro u w3 happ
              obtain ⟨A', c', rfl, -, -⟩ := row_slice happ.own
              have HMid := Lib.hid (HQ.out _ _ happ)
              have e4 := HMid.out.e4
              have f4 := HMid.out.f4
              have hd := HMid.out.hd
              have hd2 := HMid.out.hd2
              clear happ
              refine hK.out _ _ ?_ (fun hHeld => ?_)
              · exact hd
              clear hK K
              refine wpAnyH_take (i := 16) (v := ?_) rfl (by kernel_rfl) (by kernel_rfl) (by kernel_rfl) (fun _ _ _ h => h) (Or.inl ⟨by rfl, ?_⟩) (by assumption) ?_
              rotate_left 1
              · (intro w hSw; (try dsimp only at hSw); go_simp <;> (with_reducible rfl))
              refine wpAnyH_take (i := 17) (v := ?_) rfl (by kernel_rfl) (by kernel_rfl) (by kernel_rfl) (fun _ _ _ h => h) (Or.inl ⟨by rfl, ?_⟩) (by assumption) ?_
              rotate_left 1
              · (intro w hSw; (try dsimp only at hSw); go_simp <;> (with_reducible rfl))
              refine wpAnyH_ready (rs := [18]) (by kernel_rfl) (by simp) ?_
              refine AllReadyH.cons rfl (fun K hK => ?_) ?_
              · go_simp
                refine hK.out _ _ ?_ (fun hHeld => ?_)
                · exact hd2
                clear hK K
                refine wpAnyH_done (by kernel_rfl) ?_ _
                have HN2 := Lib.hid (HN.out _ _ HMid.out)
                have q5 := HMid.out.e5
                rw [HX.out.2.2, HM.out] at q5
                have q0 := HMid.out.hd2
                have r0 := (HMid.out.see w.heap.size hnF hltb1 0).trans p0
                have r1 := (HMid.out.see w.heap.size hnF hltb1 1).trans p1
                have r2 := (HMid.out.see w.heap.size hnF hltb1 2).trans p2
                have gl2 := Nat.lt_of_lt_of_le hgl HMid.out.size
                have bl2 := Nat.lt_of_lt_of_le hbl2 HMid.out.size
                have lt2 := Nat.lt_of_lt_of_le hltb1 HMid.out.size
                have gs := HMid.out.half.row.frozenAt (n * 6 + 5)
                clear e4 f4 hd hd2 HMid hHeld p0 p1 p2
                generalize hW2 : (w3.setCell ⟨g, n * 6 + 4, none⟩ (.slice A' (k + 1) c')) = W2 at HN2 q0 q5 r0 r1 r2 gl2 bl2 lt2 gs ⊢
                have hSb : (W2.alloc (.cells #[.int .i64 vk, .int .i64 vn, .string vs] 32)).cell? ⟨b, 0, none⟩ = some (.slice (some ⟨g, 0, none⟩) ths.length c) := (World.cell?_alloc_past _ _ _ bl2).trans q0
                go_wp2_with fail
                refine wp_region_held_drew (S := (fun w' => w'.cell? ⟨b, 0, none⟩ = some (.slice (some ⟨g, 0, none⟩) ths.length c))) (by kernel_rfl) q0 (fun hHeld => ?_)
                refine wpAnyH_take (i := 0) (v := ?_) rfl (by kernel_rfl) (by kernel_rfl) (by kernel_rfl) (fun _ _ _ h => h) (Or.inl ⟨by rfl, ?_⟩) (by assumption) ?_
                rotate_left 1
                · (intro w hSw; (try dsimp only at hSw); go_simp <;> (with_reducible rfl))
                refine wpAnyH_take (i := 1) (v := ?_) rfl (by kernel_rfl) (by kernel_rfl) (by kernel_rfl) (fun _ _ _ h => h) (Or.inl ⟨by rfl, ?_⟩) (by assumption) ?_
                rotate_left 1
                · (intro w hSw; (try dsimp only at hSw); go_simp <;> (with_reducible rfl))
                refine wpAnyH_take (i := 2) (v := ?_) rfl (by kernel_rfl) (by kernel_rfl) (by kernel_rfl) (fun _ _ _ h => h) (Or.inl ⟨by rfl, ?_⟩) (by assumption) ?_
                rotate_left 1
                · (intro w hSw; (try dsimp only at hSw); go_simp <;> (with_reducible rfl))
                refine wpAnyH_take (i := 3) (v := ?_) rfl (by kernel_rfl) (by kernel_rfl) (by kernel_rfl) (fun _ _ _ h => h) (Or.inl ⟨by rfl, ?_⟩) (by assumption) ?_
                rotate_left 1
                · (intro w hSw; (try dsimp only at hSw); go_simp <;> (with_reducible rfl))
                refine wpAnyH_take (i := 4) (v := ?_) rfl (by kernel_rfl) (by kernel_rfl) (by kernel_rfl) (fun _ _ _ h => h) (Or.inl ⟨by rfl, ?_⟩) (by assumption) ?_
                rotate_left 1
                · (intro w hSw; (try dsimp only at hSw); go_simp <;> (with_reducible rfl))
                refine wpAnyH_take (i := 5) (v := ?_) rfl (by kernel_rfl) (by kernel_rfl) (by kernel_rfl) (fun _ _ _ h => h) (Or.inl ⟨by rfl, ?_⟩) (by assumption) ?_
                rotate_left 1
                · (intro w hSw; (try dsimp only at hSw); go_simp <;> (with_reducible rfl))
                refine wpAnyH_take (i := 6) (v := ?_) rfl (by kernel_rfl) (by kernel_rfl) (by kernel_rfl) (fun _ _ _ h => h) (Or.inl ⟨by rfl, ?_⟩) (by assumption) ?_
                rotate_left 1
                · (intro w hSw; (try dsimp only at hSw); go_simp <;> (with_reducible rfl))
                refine wpAnyH_take (i := 7) (v := ?_) rfl (by kernel_rfl) (by kernel_rfl) (by kernel_rfl) (fun _ _ _ h => h) (Or.inl ⟨by rfl, ?_⟩) (by assumption) ?_
                rotate_left 1
                · (intro w hSw; (try dsimp only at hSw); go_simp <;> (with_reducible rfl))
                refine wpAnyH_take (i := 8) (v := ?_) rfl (by kernel_rfl) (by kernel_rfl) (by kernel_rfl) (fun _ _ _ h => h) (Or.inl ⟨by rfl, ?_⟩) (by assumption) ?_
                rotate_left 1
                · (intro w hSw; (try dsimp only at hSw); go_simp <;> (with_reducible rfl))
                refine wpAnyH_take (i := 9) (v := ?_) rfl (by kernel_rfl) (by kernel_rfl) (by kernel_rfl) (fun _ _ _ h => h) (Or.inl ⟨by rfl, ?_⟩) (by assumption) ?_
                rotate_left 1
                · (intro w hSw; (try dsimp only at hSw); go_simp <;> (with_reducible rfl))
                refine wpAnyH_take (i := 10) (v := ?_) rfl (by kernel_rfl) (by kernel_rfl) (by kernel_rfl) (fun _ _ _ h => h) (Or.inl ⟨by rfl, ?_⟩) (by assumption) ?_
                rotate_left 1
                · (intro w hSw; (try dsimp only at hSw); go_simp <;> (with_reducible rfl))
                refine wpAnyH_take (i := 11) (v := ?_) rfl (by kernel_rfl) (by kernel_rfl) (by kernel_rfl) (fun _ _ _ h => h) (Or.inl ⟨by rfl, ?_⟩) (by assumption) ?_
                rotate_left 1
                · (intro w hSw; (try dsimp only at hSw); go_simp <;> (with_reducible rfl))
                refine wpAnyH_ready (rs := [12, 13]) (by kernel_rfl) (by simp) ?_
                refine AllReadyH.cons rfl (fun K hK => ?_) ?_
                · go_simp
                  refine hK.out _ _ ?_ (fun hHeld => ?_)
                  · exact hHeld
                  clear hK K
                  refine wpAnyH_ready (rs := [13]) (by kernel_rfl) (by simp) ?_
                  refine AllReadyH.cons rfl (fun K hK => ?_) ?_
                  · go_simp
                    refine hK.out _ _ ?_ (fun hHeld => ?_)
                    · exact hHeld
                    clear hK K
                    refine wpAnyH_ready (rs := [14]) (by kernel_rfl) (by simp) ?_
                    refine AllReadyH.cons rfl (fun K hK => ?_) ?_
                    · go_simp
                      refine hK.out _ _ ?_ (fun hHeld => ?_)
                      · exact hSb
                      clear hK K
                      refine wpAnyH_ready (rs := [15]) (by kernel_rfl) (by simp) ?_
                      refine AllReadyH.cons rfl (fun K hK => ?_) ?_
                      · refine step_app rfl (.tmp 108) (.tmp 110) 63 rfl _ _ rfl rfl _ (HN2.out.1) ?_
                        intro u2 w4 happ
                        obtain ⟨B', c2', rfl, -, -⟩ := row_slice happ.own
                        obtain ⟨z1, z2, z3, z4, z5⟩ := HN2.out.2 _ _ happ
                        have HZ := Lib.hid z1
                        clear happ z1
                        refine hK.out _ _ ?_ (fun hHeld => ?_)
                        · exact z4
                        clear hK K
                        refine wpAnyH_take (i := 16) (v := ?_) rfl (by kernel_rfl) (by kernel_rfl) (by kernel_rfl) (fun _ _ _ h => h) (Or.inl ⟨by rfl, ?_⟩) (by assumption) ?_
                        rotate_left 1
                        · (intro w hSw; (try dsimp only at hSw); go_simp <;> (with_reducible rfl))
                        refine wpAnyH_take (i := 17) (v := ?_) rfl (by kernel_rfl) (by kernel_rfl) (by kernel_rfl) (fun _ _ _ h => h) (Or.inl ⟨by rfl, ?_⟩) (by assumption) ?_
                        rotate_left 1
                        · (intro w hSw; (try dsimp only at hSw); go_simp <;> (with_reducible rfl))
                        refine wpAnyH_ready (rs := [18]) (by kernel_rfl) (by simp) ?_
                        refine AllReadyH.cons rfl (fun K hK => ?_) ?_
                        · go_simp
                          refine hK.out _ _ ?_ (fun hHeld => ?_)
                          · exact z5
                          clear hK K
                          refine wpAnyH_done (by kernel_rfl) ?_ _
                          go_wp2
                          go_ret
                          exact ⟨rfl, HZ.out⟩
                        exact AllReadyH.nil
                      exact AllReadyH.nil
                    exact AllReadyH.nil
                  exact AllReadyH.nil
                refine AllReadyH.cons rfl (fun K hK => ?_) ?_
                · go_simp
                  refine hK.out _ _ ?_ (fun hHeld => ?_)
                  · exact hHeld
                  clear hK K
                  refine wpAnyH_ready (rs := [12, 14]) (by kernel_rfl) (by simp) ?_
                  refine AllReadyH.cons rfl (fun K hK => ?_) ?_
                  · go_simp
                    refine hK.out _ _ ?_ (fun hHeld => ?_)
                    · exact hHeld
                    clear hK K
                    refine wpAnyH_ready (rs := [14]) (by kernel_rfl) (by simp) ?_
                    refine AllReadyH.cons rfl (fun K hK => ?_) ?_
                    · go_simp
                      refine hK.out _ _ ?_ (fun hHeld => ?_)
                      · exact hSb
                      clear hK K
                      refine wpAnyH_ready (rs := [15]) (by kernel_rfl) (by simp) ?_
                      refine AllReadyH.cons rfl (fun K hK => ?_) ?_
                      · refine step_app rfl (.tmp 108) (.tmp 110) 63 rfl _ _ rfl rfl _ (HN2.out.1) ?_
                        intro u2 w4 happ
                        obtain ⟨B', c2', rfl, -, -⟩ := row_slice happ.own
                        obtain ⟨z1, z2, z3, z4, z5⟩ := HN2.out.2 _ _ happ
                        have HZ := Lib.hid z1
                        clear happ z1
                        refine hK.out _ _ ?_ (fun hHeld => ?_)
                        · exact z4
                        clear hK K
                        refine wpAnyH_take (i := 16) (v := ?_) rfl (by kernel_rfl) (by kernel_rfl) (by kernel_rfl) (fun _ _ _ h => h) (Or.inl ⟨by rfl, ?_⟩) (by assumption) ?_
                        rotate_left 1
                        · (intro w hSw; (try dsimp only at hSw); go_simp <;> (with_reducible rfl))
                        refine wpAnyH_take (i := 17) (v := ?_) rfl (by kernel_rfl) (by kernel_rfl) (by kernel_rfl) (fun _ _ _ h => h) (Or.inl ⟨by rfl, ?_⟩) (by assumption) ?_
                        rotate_left 1
                        · (intro w hSw; (try dsimp only at hSw); go_simp <;> (with_reducible rfl))
                        refine wpAnyH_ready (rs := [18]) (by kernel_rfl) (by simp) ?_
                        refine AllReadyH.cons rfl (fun K hK => ?_) ?_
                        · go_simp
                          refine hK.out _ _ ?_ (fun hHeld => ?_)
                          · exact z5
                          clear hK K
                          refine wpAnyH_done (by kernel_rfl) ?_ _
                          go_wp2
                          go_ret
                          exact ⟨rfl, HZ.out⟩
                        exact AllReadyH.nil
                      exact AllReadyH.nil
                    exact AllReadyH.nil
                  refine AllReadyH.cons rfl (fun K hK => ?_) ?_
                  · go_simp
                    refine hK.out _ _ ?_ (fun hHeld => ?_)
                    · exact hSb
                    clear hK K
                    refine wpAnyH_ready (rs := [12]) (by kernel_rfl) (by simp) ?_
                    refine AllReadyH.cons rfl (fun K hK => ?_) ?_
                    · go_simp
                      refine hK.out _ _ ?_ (fun hHeld => ?_)
                      · exact hSb
                      clear hK K
                      refine wpAnyH_ready (rs := [15]) (by kernel_rfl) (by simp) ?_
                      refine AllReadyH.cons rfl (fun K hK => ?_) ?_
                      · refine step_app rfl (.tmp 108) (.tmp 110) 63 rfl _ _ rfl rfl _ (HN2.out.1) ?_
                        intro u2 w4 happ
                        obtain ⟨B', c2', rfl, -, -⟩ := row_slice happ.own
                        obtain ⟨z1, z2, z3, z4, z5⟩ := HN2.out.2 _ _ happ
                        have HZ := Lib.hid z1
                        clear happ z1
                        refine hK.out _ _ ?_ (fun hHeld => ?_)
                        · exact z4
                        clear hK K
                        refine wpAnyH_take (i := 16) (v := ?_) rfl (by kernel_rfl) (by kernel_rfl) (by kernel_rfl) (fun _ _ _ h => h) (Or.inl ⟨by rfl, ?_⟩) (by assumption) ?_
                        rotate_left 1
                        · (intro w hSw; (try dsimp only at hSw); go_simp <;> (with_reducible rfl))
                        refine wpAnyH_take (i := 17) (v := ?_) rfl (by kernel_rfl) (by kernel_rfl) (by kernel_rfl) (fun _ _ _ h => h) (Or.inl ⟨by rfl, ?_⟩) (by assumption) ?_
                        rotate_left 1
                        · (intro w hSw; (try dsimp only at hSw); go_simp <;> (with_reducible rfl))
                        refine wpAnyH_ready (rs := [18]) (by kernel_rfl) (by simp) ?_
                        refine AllReadyH.cons rfl (fun K hK => ?_) ?_
                        · go_simp
                          refine hK.out _ _ ?_ (fun hHeld => ?_)
                          · exact z5
                          clear hK K
                          refine wpAnyH_done (by kernel_rfl) ?_ _
                          go_wp2
                          go_ret
                          exact ⟨rfl, HZ.out⟩
                        exact AllReadyH.nil
                      exact AllReadyH.nil
                    exact AllReadyH.nil
                  exact AllReadyH.nil
                exact AllReadyH.nil
              exact AllReadyH.nil
            exact AllReadyH.nil
          exact AllReadyH.nil
        exact AllReadyH.nil
end Go.Proofs.Ytpbbinppikaamaa
