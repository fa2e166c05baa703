/- code.Right: which lists of procs are codes. -/
import Derived.Test.YtconnhphkbgbkaaGreatDoorCdLook
import Derived.Test.YtconnhphkbgbkaaGreatDoorCdMiss
import Derived.Test.YtconnhphkbgbkaaGreatDoorCdIter
namespace Go.Proofs.YtconnhphkbgbkaaGreatDoor
open Go.RowKit Go.Proofs Go.Shelf

theorem any_take {α : Type} {p : α → Bool} {l : List α} {k : Nat} {x : α} (h : (l.take k).any p = false) (hx : l[k]? = some x) (hp : p x = false) : (l.take (k + 1)).any p = false := by
  rw [List.take_add_one, hx, List.any_append, h]
  simp [hp]
theorem any_hit {α : Type} {p : α → Bool} {l : List α} {k : Nat} {x : α} (hx : l[k]? = some x) (hp : p x = true) : l.any p = true := by
  rw [List.any_eq_true]
  exact ⟨x, List.mem_of_getElem? hx, hp⟩
theorem any_done {α : Type} {p : α → Bool} {l : List α} {k : Nat} (h : (l.take k).any p = false) (hk : l.length ≤ k) : l.any p = false := by
  rwa [List.take_of_length_le hk] at h
set_option maxRecDepth 100000 in
set_option maxHeartbeats 4000000 in
theorem indexF_any (v : Value) (l : List Proc) (w : World) (hl : CodeAt w v l) (Y N : Prop) (hY : l.any missB = true → Y) (hN : l.any missB = false → N) : Calls Tryz.prog 34 #[v, .func (.func 22) #[] #[]] w fun e w' =>
    (∃ r : Int, e = .returned (.int .i64 r) ∧ (0 ≤ r ∧ Y ∨ ¬ 0 ≤ r ∧ N)) ∧ Below w.heap.size w w' := by
  obtain ⟨A, cap, rfl⟩ := SlAt.form hl
  obtain ⟨-, hca, hcm, -⟩ := SlAt.get hl
  have hm1 : cap ≤ 9223372036854775807 := hcm
  have HA := Lib.hid hl
  have HS := Lib.hid (fun v p w h => miss_any v p w h)
  have HYN := Lib.hid (And.intro hY hN)
  clear hl hcm hY hN
  go_enter Tryz.func34, Tryz.ntmps34
  go_wp2
  go_loopw [8] (fun i wr => ∃ k : Nat, k ≤ l.length ∧ i = .int .i64 k ∧ (l.take k).any missB = false ∧ Below w.heap.size w wr) (fun i _ => l.length - (intOf i).toNat)
  case atStart => exact ⟨0, Nat.zero_le _, rfl, rfl, Below.refl _ _⟩
  case round =>
    obtain ⟨k, hk, rfl, hall, hB⟩ := hrel
    have HAll := Lib.hid hall
    clear hall
    by_cases hlt : k < l.length
    · obtain ⟨g, off, p, A', cx, rfl, hg, hx, hs, hr, c0, c1⟩ := CodeAt.get HA.out k hlt
      have HC := Lib.hid (HS.out (.agg #[.int .i64 p.regs, .slice A' p.ins.length cx]) p wr (ProcAt.below ⟨_, rfl, hs, hr⟩ hB))
      rw [← hB.cell (p := ⟨g, off + k * 2, none⟩) hg] at c0
      rw [← hB.cell (p := ⟨g, off + k * 2 + 1, none⟩) hg] at c1
      have g1 : (k : Int) < l.length := by omega
      have HX := Lib.hid hx
      clear hx hs hr
      obtain ⟨q, hq⟩ : ∃ q, missB p = q := ⟨_, rfl⟩
      rw [hq] at HC
      have HQ := Lib.hid hq
      clear hq
      cases q with
      | true =>
        go_wp2_with (go_at_call 22; refine HC.out.mono ?_; rintro e w1 ⟨rfl, hb1⟩)
        go_ret
        exact ⟨⟨k, rfl, .inl ⟨by omega, HYN.out.1 (any_hit HX.out HQ.out)⟩⟩, hB.trans (hb1.mono hB.size)⟩
      | false =>
        go_wp2_with (go_at_call 22; refine HC.out.mono ?_; rintro e w1 ⟨rfl, hb1⟩)
        go_roundw
        case rel => exact ⟨k + 1, by omega, by go_num, any_take HAll.out HX.out HQ.out, hB.trans (hb1.mono hB.size)⟩
        case measure => simp [intOf]; omega
    · have g1 : ¬ (k : Int) < l.length := by omega
      have HE := Lib.hid (any_done HAll.out (by omega))
      go_wp2
      go_ret
      exact ⟨⟨-1, rfl, .inr ⟨by omega, HYN.out.2 HE.out⟩⟩, hB⟩
set_option maxHeartbeats 4000000 in
theorem containsF_any (v : Value) (l : List Proc) (w : World) (hl : CodeAt w v l) : Calls Tryz.prog 21 #[v, .func (.func 22) #[] #[]] w fun e w' => e = .returned (.bool (l.any missB)) ∧ Below w.heap.size w w' := by
  have HE := Lib.hid (indexF_any v l w hl (l.any missB = true) (l.any missB = false) id id)
  clear hl
  go_enter Tryz.func21, Tryz.ntmps21
  go_wp2_with fail
  go_at_call 34
  refine HE.out.mono ?_
  rintro e w1 ⟨⟨r, rfl, hr⟩, hb1⟩
  rcases hr with ⟨hr, hm⟩ | ⟨hr, hm⟩
  all_goals
    have HM := Lib.hid hm
    clear hm
    go_wp2
    go_ret
    exact ⟨ret_b (by first | exact HM.out.symm | exact (decide_eq_false (by omega)).trans HM.out.symm), hb1⟩

/-- The instruction at a place, with its proc. -/
def pairAt (l : List Proc) (q : Nat × Nat) : Option (Proc × Ins) := (l[q.1]?).bind fun p => (p.ins[q.2]?).map fun x => (p, x)
theorem range_get {α β : Type} (f : α → β) (l : List α) : (List.range' 0 l.length).map (fun j => (l[j]?).map f) = l.map fun x => some (f x) := by
  apply List.ext_getElem?
  intro i
  rw [List.getElem?_map, List.getElem?_map]
  by_cases h : i < l.length
  · rw [List.getElem?_range' (by omega), List.getElem?_eq_getElem h]
    simp [h]
  · rw [List.getElem?_eq_none (by simp; omega), List.getElem?_eq_none (by omega)]
    rfl
theorem idx_pairs_from (l0 : List Proc) : ∀ (l : List Proc) (k : Nat), (∀ i, l[i]? = l0[k + i]?) → (idxFrom k l).map (pairAt l0) = (pairsL l).map some
  | [], _, _ => rfl
  | p :: r, k, h => by
    have h0 : l0[k]? = some p := by have := h 0; simpa using this.symm
    have ih := idx_pairs_from l0 r (k + 1) fun i => by have := h (i + 1); rw [show k + 1 + i = k + (i + 1) by omega]; simpa using this
    rw [idxFrom, List.map_append, ih, List.map_map]
    have e : (pairAt l0 ∘ fun j => (k, j)) = fun j => (p.ins[j]?).map fun x => (p, x) := by
      funext j
      simp [pairAt, h0]
    rw [e, range_get]
    simp [pairsL]
theorem idx_pairs (l : List Proc) : (idx l).map (pairAt l) = (pairsL l).map some := idx_pairs_from l l 0 fun i => by rw [Nat.zero_add]
theorem idx_mem {l : List Proc} {q : Nat × Nat} (h : q ∈ idx l) : ∃ p x, l[q.1]? = some p ∧ p.ins[q.2]? = some x := by
  have h2 : pairAt l q ∈ (idx l).map (pairAt l) := List.mem_map_of_mem h
  rw [idx_pairs] at h2
  obtain ⟨⟨p, x⟩, -, e⟩ := List.mem_map.1 h2
  unfold pairAt at e
  cases hp : l[q.1]? with
  | none => rw [hp] at e; cases e
  | some p' =>
    rw [hp] at e
    cases hx : p'.ins[q.2]? with
    | none => rw [Option.bind_some, hx] at e; cases e
    | some x' => exact ⟨p', x', rfl, hx⟩
def okAt (l : List Proc) (q : Nat × Nat) : Bool := match pairAt l q with
  | none => false
  | some r => insB (roomOf r.1 l.length) r.2
theorem okAt_eq {l : List Proc} {i j : Nat} {p : Proc} {x : Ins} (hp : l[i]? = some p) (hx : p.ins[j]? = some x) : okAt l (i, j) = insB (roomOf p l.length) x := by
  unfold okAt pairAt
  simp [hp, hx]
theorem all_okAt (l : List Proc) : (idx l).all (okAt l) = (pairsL l).all fun q => insB (roomOf q.1 l.length) q.2 := by
  have h := congrArg (fun m => m.all fun o : Option (Proc × Ins) => match o with | none => false | some r => insB (roomOf r.1 l.length) r.2) (idx_pairs l)
  simp only [List.all_map] at h
  exact h
theorem pre_mem9 {α : Type} {pre xs : List α} {y : α} (h : pre ++ [y] <+: xs) : y ∈ xs := by
  obtain ⟨r, rfl⟩ := h
  simp

theorem ItKeeps.below {mine : World → Nat → Prop} {base n : Nat} {A B : World} (h : ItKeeps mine base A B) (hb : n ≤ base) (hA : n ≤ A.heap.size) : Below n A B :=
  ⟨h.os, h.tape, h.output, h.size, fun k hk => h.keep k (by omega) (.inl (by omega))⟩
theorem boxed_it {mine : World → Nat → Prop} {base b : Nat} {A B : World} {t : TypeId} {v : Value} (h : Boxed A b t v) (hk : ItKeeps mine base A B) (hb : b < base ∨ mine A b) : Boxed B b t v :=
  (hk.keep b h.lt hb).trans h
/-- What holds between two rounds. -/
structure RightI (w1 W : World) (b : Nat) : Prop where
  known : Boxed W w1.heap.size 57 (.map (some b))
  below : Below w1.heap.size w1 W
theorem RightI.it {w1 W W' : World} {b base : Nat} (h : RightI w1 W b) (hk : ItKeeps (fun _ k => k = w1.heap.size + 1) base W W') (h1 : w1.heap.size < base) : RightI w1 W' b :=
  ⟨boxed_it h.known hk (.inl h1), h.below.trans (hk.below (by omega) h.below.size)⟩

attribute [local go_sem] Oper.semAt_some
set_option maxRecDepth 100000 in
set_option maxHeartbeats 4000000 in
theorem right_in (n : Nat) (hn : 3 ≤ n) (v : Value) (l : List Proc) (w : World) (hl : CodeAt w v l) :
    CallsIn Fence.wide n Tryz.prog 11 #[v] w fun e W' => e = .returned (.bool (rightC l)) ∧ Below w.heap.size w W' := by
  have h1 : 1 ≤ n := by omega
  obtain ⟨A, cap, rfl⟩ := SlAt.form hl
  obtain ⟨-, hca, hcm, -⟩ := SlAt.get hl
  have hm1 : cap ≤ 9223372036854775807 := hcm
  have HA := Lib.hid hl
  have HB0 := Lib.hid (below_box w (.cells #[.slice A l.length cap] 22))
  have HC := Lib.hid (containsF_any (.slice A l.length cap) l _ (hl.below (below_box w (.cells #[.slice A l.length cap] 22))))
  have HT := Lib.hid (fun w => table_any w)
  clear hl
  by_cases hz : l.length = 0
  · have e : ((l.length : Int) == 0) = true := by simp [hz]
    have HR := Lib.hid (show rightC l = false by rw [List.eq_nil_of_length_eq_zero hz]; rfl)
    have hz' : (l.length : Int) = 0 := by omega
    clear hz HC
    refine callsIn_wide.2 ?_
    go_enter Tryz.func11, Tryz.ntmps11
    go_wp2_with fail
    refine wp_scope_straight ?_
    go_wp2
    rw [Exit.noGoto_ret]
    go_ret
    exact ⟨ret_b HR.out.symm, HB0.out⟩
  have e : ((l.length : Int) == 0) = false := by rw [beq_eq_false_iff_ne]; omega
  obtain ⟨q, hq⟩ : ∃ q, l.any missB = q := ⟨_, rfl⟩
  rw [hq] at HC
  cases q with
  | true =>
    have HR := Lib.hid (show rightC l = false by unfold rightC; rw [hq]; simp)
    clear hq
    refine callsIn_wide.2 ?_
    go_enter Tryz.func11, Tryz.ntmps11
    go_wp2_with fail
    refine wp_scope_straight ?_
    go_wp2_with (go_at_call 21; refine HC.out.mono ?_; rintro e w1 ⟨rfl, hb1⟩)
    rw [Exit.noGoto_ret]
    go_ret
    exact ⟨ret_b HR.out.symm, HB0.out.trans (hb1.mono HB0.out.size)⟩
  | false =>
  have HR := Lib.hid (show rightC l = (idx l).all (okAt l) by
    unfold rightC
    rw [hq, all_okAt]
    cases l with
    | nil => exact (hz rfl).elim
    | cons a b => rfl)
  clear hq hz
  refine callsIn_of_wp_marks Tryz.func11 rfl trivial ?_ rfl
  simp only [Tryz.ntmps11, List.size_toArray, List.length_cons, List.length_nil, Nat.reduceAdd, Nat.reduceSub, Array.replicate_succ, Array.replicate_zero, List.push_toArray, List.append_toArray, List.nil_append, List.cons_append]
  gi_wp2_with fail
  refine wpIn_wide.2 (wp_scope_straight ((wpIn_wide (n := n)).1 ?_))
  gi_wp2_with fail
  refine ⟨trivial, ?_⟩
  gi_at_call 21
  refine (callsIn_wide.2 HC.out).mono ?_
  rintro e w0 ⟨rfl, hb0⟩
  have hB0 := HB0.out.trans (hb0.mono HB0.out.size)
  have hlb := (hb0.block w.heap.size (by simp)).trans (heap_alloc_new w (.cells #[.slice A l.length cap] 22))
  have HB1 := Lib.hid (And.intro hB0 hlb)
  clear hb0 hB0 hlb HB0 HC
  gi_wp2_with fail
  refine ⟨trivial, ?_⟩
  gi_at_call 23
  refine (callsIn_wide.2 (HT.out _)).mono ?_
  rintro e w1 ⟨b, rfl, hTab, hbw, hb1⟩
  have hlb1 : Boxed w1 w.heap.size 22 (.slice A l.length cap) := (hb1.block _ (heap_lt HB1.out.2)).trans HB1.out.2
  have p0 := hlb1.cell
  have q1 := hlb1.lt
  have hw1 := HB1.out.1.trans (hb1.mono HB1.out.1.size)
  have HW1 := Lib.hid (And.intro hw1 (And.intro hTab hlb1))
  clear hb1 hw1 hTab hlb1 hbw HB1
  gi_wp2
  refine wpIn_label ?_
  have q2 : w.heap.size < w1.heap.size + 1 := by omega
  gi_wp2_with (refine ⟨trivial, ?_⟩; gi_at_call 20; refine (instr_in (n - 1) A l.length cap _).mono ?_; rintro e w' ⟨rfl, rfl⟩)
  obtain ⟨K, eK⟩ : ∃ K, w1.heap.size = K := ⟨_, rfl⟩
  have bK := ((Boxed.new w1 57 (.map (some b))).alloc (.cells #[.bool true] 4)).alloc (.cells #[.slice A l.length cap] 22)
  have bR := (Boxed.new (w1.alloc (.cells #[.map (some b)] 57)) 4 (.bool true)).alloc (.cells #[.slice A l.length cap] 22)
  have bP := heap_alloc_new ((w1.alloc (.cells #[.map (some b)] 57)).alloc (.cells #[.bool true] 4)) (.cells #[.slice A l.length cap] 22)
  have hbl : Below w1.heap.size w1 (((w1.alloc (.cells #[.map (some b)] 57)).alloc (.cells #[.bool true] 4)).alloc (.cells #[.slice A l.length cap] 22)) :=
    (((Below.refl _ w1).alloc (Nat.le_refl _) _).alloc (by simp) _).alloc (by simp; omega) _
  have hsz0 : (((w1.alloc (.cells #[.map (some b)] 57)).alloc (.cells #[.bool true] 4)).alloc (.cells #[.slice A l.length cap] 22)).heap.size = w1.heap.size + 3 := by simp
  obtain ⟨W0, hW0⟩ : ∃ W0, (((w1.alloc (.cells #[.map (some b)] 57)).alloc (.cells #[.bool true] 4)).alloc (.cells #[.slice A l.length cap] 22)) = W0 := ⟨_, rfl⟩
  simp only [World.size_alloc] at bK bR bP
  rw [hW0] at bK bR bP hbl hsz0 ⊢
  clear hW0
  rw [eK] at bK bR bP hbl hsz0 q1 ⊢
  obtain ⟨U, V, hrows⟩ := Rows9.of HA.out
  have HRo := Lib.hid hrows
  have hbase : W0.heap.size = K + 3 := by omega
  have hBw : Below w.heap.size w W0 := HW1.out.1.trans (hbl.mono (by omega))
  clear p0 hrows
  refine wpIn_rangeRows (mine := fun _ k => k = w1.heap.size + 1) rfl h1 (gf := 33) (lb := #[.pointer (some ⟨K + 1 + 1, 0, none⟩)]) rfl trivial (enters_of Tryz.func33 (by kernel_rfl) rfl)
    (encs := enc9 l U V) (xs := idx l) (w0 := W0)
    (ins_seq (n - 1) (by omega) (K + 1 + 1) l.length cap A l U V w (fun _ k => k = w1.heap.size + 1) W0 rfl ⟨hca, hcm⟩ HRo.out (fun _ k hk => by have := HW1.out.1.size; omega) bP hBw) (Below.refl _ _) (enc9_size l U V)
    (fun pre W => (RightI w1 W b ∧ Boxed W (w1.heap.size + 1) 4 (.bool true)) ∧ pre.all (okAt l) = true)
    (fun c pre W => (RightI w1 W b ∧ Boxed W (w1.heap.size + 1) 4 (.bool false)) ∧ (c = .exit 0 ∧ pre.all (okAt l) = false))
    (fun pre A B h g => ⟨⟨h.1.1.it g (by omega), boxed_it h.1.2 g (.inl (by omega))⟩, h.2⟩)
    (fun c pre A B h g => ⟨⟨h.1.1.it g (by omega), boxed_it h.1.2 g (.inl (by omega))⟩, h.2⟩)
    (fun pre A k h hk => by subst hk; exact ⟨_, h.1.2, rfl⟩) (fun c pre A k h hk => by subst hk; exact ⟨_, h.1.2, rfl⟩) (fun _ _ _ _ h => h)
    ⟨⟨⟨by rw [eK]; exact bK, by rw [eK]; exact hbl⟩, by rw [eK]; exact bR⟩, rfl⟩
    (fun y a' W => ∃ (Bx : Nat) (p : Proc) (x : Ins), l[y.1]? = some p ∧ p.ins[y.2]? = some x ∧ W.heap[Bx]? = some (.cells #[.int .i64 p.regs, U y.1] 36 (0, 0)) ∧ W.heap[Bx + 1]? = some (.cells #[.int .i64 x.op, .int .i64 x.d, .int .i64 x.a, .int .i64 x.b, .int .i64 x.c, .string x.s, .int .i64 x.n, V y.1 y.2] 33 (0, 0)) ∧ a' = { tmps := #[.slice A l.length cap, .pointer (some ⟨w.heap.size, 0, none⟩), .bool false, .pointer (some ⟨K, 0, none⟩), .pointer (some ⟨K + 1, 0, none⟩), .pointer (some ⟨Bx, 0, none⟩), .pointer (some ⟨Bx + 1, 0, none⟩), undef, undef, .slice A l.length cap, .int .i64 l.length, .bool false, .bool false, .slice A l.length cap, .bool false, .bool false, .map (some b), .slice A l.length cap, .func (.func 33) #[] #[.pointer (some ⟨K + 1 + 1, 0, none⟩)], .agg #[.int .i64 p.regs, U y.1], .agg #[.int .i64 x.op, .int .i64 x.d, .int .i64 x.a, .int .i64 x.b, .int .i64 x.c, .string x.s, .int .i64 x.n, V y.1 y.2], undef, undef, undef, undef, undef, undef, undef, undef, undef, undef, undef, undef, undef, undef, undef, undef, undef, undef, undef, undef, undef, undef, undef, undef], defers := [] })
    (fun y a' A B h g => by
      obtain ⟨Bx, p, x, g1, g0, g2, g3, g4⟩ := h
      exact ⟨Bx, p, x, g1, g0, g _ _ g2 rfl, g _ _ g3 rfl, g4⟩)
    ?assign ?body ?done ?stop
  case assign =>
    rintro l' pre ⟨i, j⟩ W K' ⟨⟨hI, hR⟩, hall⟩ hpre hK
    obtain ⟨p, x, hp, hx⟩ := idx_mem (pre_mem9 hpre)
    simp only at hp hx hK ⊢
    have HPX := Lib.hid (And.intro hp hx)
    rw [enc9_eq hp hx]
    obtain ⟨gi, oi, ci, hU, -, ⟨A2, cap2, hV⟩, -⟩ := HRo.out.ins i p j x hp hx
    have HUV := Lib.hid (And.intro hU hV)
    rw [hU, hV] at hK ⊢
    clear hI hR hall hpre hp hx hU hV
    gi_wp2
    have hb2 := two_box W (.cells #[.int .i64 p.regs, .slice (some ⟨gi, oi, none⟩) p.ins.length ci] 36) (.cells #[.int .i64 x.op, .int .i64 x.d, .int .i64 x.a, .int .i64 x.b, .int .i64 x.c, .string x.s, .int .i64 x.n, .slice A2 x.l.length cap2] 33)
    refine hK _ _ hb2 ⟨W.heap.size, p, x, HPX.out.1, HPX.out.2, ?_, ?_, ?_⟩
    · exact ((below_box _ _).block _ (by simp)).trans (heap_alloc_new W _)
    · have := heap_alloc_new (W.alloc (.cells #[.int .i64 p.regs, .slice (some ⟨gi, oi, none⟩) p.ins.length ci] 36)) (.cells #[.int .i64 x.op, .int .i64 x.d, .int .i64 x.a, .int .i64 x.b, .int .i64 x.c, .string x.s, .int .i64 x.n, .slice A2 x.l.length cap2] 33)
      simpa using this
    · rfl
  case body =>
    rintro l' pre ⟨i, j⟩ a' W hl ⟨⟨hI, hR⟩, hall⟩ ⟨Bx, p, x, hp, hx, hbp, hbi, rfl⟩ hpre
    simp only at hp hx hbp hbi ⊢
    obtain ⟨gi, oi, ci, hU, hgi, ⟨A2, cap2, hV⟩, hints, hfine, -⟩ := HRo.out.ins i p j x hp hx
    have hIA : InsAt w (.agg #[.int .i64 x.op, .int .i64 x.d, .int .i64 x.a, .int .i64 x.b, .int .i64 x.c, .string x.s, .int .i64 x.n, V i j]) x := ⟨_, rfl, hints, hfine⟩
    rw [hU] at hbp ⊢
    rw [hV] at hbi hIA ⊢
    have c0 := cell_of_row W Bx 0 _ _ _ hbp
    have c1 := cell_of_row W Bx 1 _ _ _ hbp
    have d0 := cell_of_row W (Bx + 1) 0 _ _ _ hbi
    have d1 := cell_of_row W (Bx + 1) 1 _ _ _ hbi
    have d2 := cell_of_row W (Bx + 1) 2 _ _ _ hbi
    have d3 := cell_of_row W (Bx + 1) 3 _ _ _ hbi
    have d4 := cell_of_row W (Bx + 1) 4 _ _ _ hbi
    have d5 := cell_of_row W (Bx + 1) 5 _ _ _ hbi
    have d6 := cell_of_row W (Bx + 1) 6 _ _ _ hbi
    have d7 := cell_of_row W (Bx + 1) 7 _ _ _ hbi
    simp at c0 c1 d0 d1 d2 d3 d4 d5 d6 d7
    have cK := hI.known.cell
    have cR := hR.cell
    have fR := hR.frozen
    rw [eK] at cK cR fR
    have hlW : Boxed W w.heap.size 22 (.slice A l.length cap) := (hI.below.block _ (by omega)).trans HW1.out.2.2
    have cL := hlW.cell
    have lR := hR.lt
    have lK := hI.known.lt
    obtain ⟨lv, hlook, hdem⟩ := (HW1.out.2.1.below hI.below).look x.op hfine.1.1
    have hbW : Below w.heap.size w W := HW1.out.1.trans (hI.below.mono (by omega))
    have hall2 : (pre ++ [(i, j)]).all (okAt l) = insB (roomOf p l.length) x := by rw [List.all_append, hall, List.all_cons, List.all_nil, okAt_eq hp hx]; simp
    have HI := Lib.hid hI
    have HRr := Lib.hid hR
    have HIA := Lib.hid (fun W' (h : Below W.heap.size W W') => hIA.below (hbW.trans (h.mono hbW.size)))
    have HD := Lib.hid hdem
    have HA2 := Lib.hid hall2
    have hset : ∀ (W' : World), Below W.heap.size W W' → Boxed (W'.setCell ⟨K + 1, 0, none⟩ (.bool false)) (K + 1) 4 (.bool false) ∧ RdKeeps (fun _ k => k = K + 1) W (W'.setCell ⟨K + 1, 0, none⟩ (.bool false)) ∧ RightI w1 (W'.setCell ⟨K + 1, 0, none⟩ (.bool false)) b := by
      intro W' hb
      have hR' : Boxed W' (K + 1) 4 (.bool true) := by rw [← eK]; exact (hb.block _ lR).trans HRr.out
      have hRs : Boxed (W'.setCell ⟨K + 1, 0, none⟩ (.bool false)) (K + 1) 4 (.bool false) := by simpa using hR'.set (.bool false)
      have ho : ∀ k, k ≠ K + 1 → (W'.setCell ⟨K + 1, 0, none⟩ (.bool false)).heap[k]? = W'.heap[k]? := fun k hk => heap_setCell_other W' ⟨K + 1, 0, none⟩ k _ hk
      have hz : (W'.setCell ⟨K + 1, 0, none⟩ (.bool false)).heap.size = W'.heap.size := by simp
      refine ⟨hRs, ⟨hb.os, hb.tape, hb.output, by rw [hz]; exact hb.size, fun k hk hm => (ho k hm).trans (hb.block k hk), fun k hk => .inl hk⟩, ?_⟩
      refine ⟨(ho _ (by omega)).trans ((hb.block _ lK).trans HI.out.known), ?_⟩
      exact (HI.out.below.trans (hb.mono HI.out.below.size)).setCell (p := ⟨K + 1, 0, none⟩) (by simp; omega) _
    have HSet := Lib.hid hset
    clear hset hIA hdem hall2 hI hR hints hfine hp hx hbp hbi hall hpre hU hV hlW hbW hgi
    obtain ⟨od, hod⟩ : ∃ od, dms x.op = od := ⟨_, rfl⟩
    rw [hod] at hlook HD
    cases od with
    | none =>
      have HG := Lib.hid (show insB (roomOf p l.length) x = false by unfold insB; rw [hod])
      simp only [Option.isSome_none] at hlook
      clear hod
      gi_wp2
      refine ⟨trivial, ?_⟩
      gi_wp2
      obtain ⟨s1, s2, s3⟩ := HSet.out W (Below.refl _ W)
      rw [eK]
      exact ⟨s2, ⟨s3, s1⟩, rfl, HA2.out.trans HG.out⟩
    | some ds =>
      simp only [Option.isSome_some] at hlook
      have hg : insB (roomOf p l.length) x = fitsB (roomOf p l.length) ds x := by unfold insB; rw [hod]
      have HF := fun W' h => fits_any W' _ lv x (roomOf p l.length) ds (HIA.out W' h) ((HD.out ds rfl).below DemP.keeps h)
      unfold roomV at HF
      obtain ⟨q, eq⟩ : ∃ q, fitsB (roomOf p l.length) ds x = q := ⟨_, rfl⟩
      rw [eq] at hg
      simp only [eq] at HF
      simp only [roomOf] at HF
      have HF := Lib.hid HF
      have HG := Lib.hid hg
      clear hg eq hod
      gi_wp2_with fail
      refine ⟨trivial, fun h => absurd h (by simp [Fence.wide]), ?_⟩
      gi_at_call 24
      refine (CallsIn.inRound l' (callsIn_wide.2 (HF.out _ (Below.refl _ W)))).mono ?_
      rintro e w2 ⟨rfl, hb3⟩
      have hR2 : Boxed w2 (K + 1) 4 (.bool true) := by rw [← eK]; exact (hb3.block _ lR).trans HRr.out
      have cR2 := hR2.cell
      have fR2 := hR2.frozen
      cases q with
      | true =>
        gi_wp2
        exact ⟨RdKeeps.of_below hb3 (fun _ h => h), ⟨HI.out.it (base := K + 2) (.of_below hb3) (by omega), by rw [eK]; exact hR2⟩, HA2.out.trans HG.out⟩
      | false =>
        gi_wp2
        obtain ⟨s1, s2, s3⟩ := HSet.out w2 hb3
        rw [eK]
        exact ⟨s2, ⟨s3, s1⟩, rfl, HA2.out.trans HG.out⟩
  case done =>
    rintro D W hD ⟨⟨hI, hR⟩, hall⟩ hK
    have cR := hR.cell
    rw [eK] at cR
    have HRR := Lib.hid (show rightC l = true by rw [HR.out]; exact hall)
    have HB := Lib.hid (HW1.out.1.trans (hI.below.mono (by omega)))
    clear hall hI
    gi_wp2
    rw [Exit.noGoto_ret]
    refine ⟨by simp, .inl ⟨_, _, rfl, run_takeDeferred hK, ?_⟩⟩
    exact ⟨_, results_tmp rfl _ _ _, by rw [HRR.out]; rfl, HB.out.trans (belowK_b (w := w) (Nat.le_refl _) W D _ _ (by omega) hK rfl rfl)⟩
  case stop =>
    rintro D c pre W hD hpre ⟨⟨hI, hR⟩, rfl, hall⟩ hK
    have cR := hR.cell
    rw [eK] at cR
    have HRR := Lib.hid (show rightC l = false by
      rw [HR.out]
      obtain ⟨r, hr⟩ := hpre
      rw [← hr, List.all_append, hall]
      rfl)
    have HB := Lib.hid (HW1.out.1.trans (hI.below.mono (by omega)))
    clear hall hI
    gi_wp2
    rw [Exit.noGoto_ret]
    refine ⟨by simp, .inl ⟨_, _, rfl, run_takeDeferred hK, ?_⟩⟩
    exact ⟨_, results_tmp rfl _ _ _, by rw [HRR.out]; rfl, HB.out.trans (belowK_b (w := w) (Nat.le_refl _) W D _ _ (by omega) hK rfl rfl)⟩
theorem right_any (v : Value) (l : List Proc) (w : World) (hl : CodeAt w v l) : Calls Tryz.prog 11 #[v] w fun e w' => e = .returned (.bool (rightC l)) ∧ Below w.heap.size w w' :=
  callsIn_wide.1 (right_in 3 (Nat.le_refl _) v l w hl)
end Go.Proofs.YtconnhphkbgbkaaGreatDoor
