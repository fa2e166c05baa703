/- heap.Get. -/
import Derived.Test.YtpbbinppikaamaaChain
namespace Go.Proofs.Ytpbbinppikaamaa
open Go.RowKit Go.Proofs Go.Maps Go.Shelf

attribute [local go_sem] Oper.semAt_some

theorem boxed_alloc {W : World} {B : Nat} {t : TypeId} {v : Value} (h : Boxed W B t v) (o : Obj) : Boxed (W.alloc o) B t v := (Below.heap_alloc W o B h.lt).trans h
/-- A value's box. -/
def VBox (W : World) (B : Nat) (x : V) : Prop := W.heap[B]? = some (.cells #[.int .i64 x.k, .int .i64 x.n, .string x.s] 32 (0, 0))

theorem getL_app (L : Hp) (s : ByteArray) (a c : List Nat) : getL L s (a ++ c) = match getL L s a with
    | some v => some v
    | none => getL L s c := by
  induction a with
  | nil => rfl
  | cons i r ih =>
    simp only [List.cons_append, getL]
    cases lk ((L[i]?).elim [] (·.kv)) s with
    | some v => rfl
    | none => simp only [ih]
theorem vbox_cells {W : World} {B : Nat} {x : V} (h : VBox W B x) : (W.cell? ⟨B, 0, none⟩ = some (.int .i64 x.k) ∧ W.cell? ⟨B, 1, none⟩ = some (.int .i64 x.n) ∧ W.cell? ⟨B, 2, none⟩ = some (.string x.s)) ∧
    (W.frozen? ⟨B, 0, none⟩ = false ∧ W.frozen? ⟨B, 1, none⟩ = false ∧ W.frozen? ⟨B, 2, none⟩ = false) := by
  refine ⟨⟨?_, ?_, ?_⟩, ⟨?_, ?_, ?_⟩⟩
  · rw [cell_of_row _ _ _ _ _ _ h]; rfl
  · rw [cell_of_row _ _ _ _ _ _ h]; rfl
  · rw [cell_of_row _ _ _ _ _ _ h]; rfl
  all_goals (unfold World.frozen?; simp only; rw [h]; simp)
theorem vbox_set {W : World} {B : Nat} {x : V} (h : VBox W B x) (y : V) : VBox (((W.setCell ⟨B, 0, none⟩ (.int .i64 y.k)).setCell ⟨B, 1, none⟩ (.int .i64 y.n)).setCell ⟨B, 2, none⟩ (.string y.s)) B y :=
  blk_set (blk_set (blk_set h 0 (.int .i64 y.k)) 1 (.int .i64 y.n)) 2 (.string y.s)
theorem set3_other {W : World} {B k : Nat} (a c d : Value) (h : k ≠ B) : (((W.setCell ⟨B, 0, none⟩ a).setCell ⟨B, 1, none⟩ c).setCell ⟨B, 2, none⟩ d).heap[k]? = W.heap[k]? := by
  rw [Below.heap_setCell _ ⟨B, 2, none⟩ _ _ h, Below.heap_setCell _ ⟨B, 1, none⟩ _ _ h, Below.heap_setCell _ ⟨B, 0, none⟩ _ _ h]

/-- Between two rounds: nothing is found yet, or the last one had it. -/
structure GetI (w : World) (N : Nat) (s : ByteArray) (x : V) (ok : Bool) (W : World) : Prop where
  key : Boxed W N 9 (.string s)
  res : VBox W (N + 1) V.zero
  val : VBox W (N + 1 + 1) x
  ok : Boxed W (N + 1 + 1 + 1) 4 (.bool ok)
  below : Below N w W
  size : N + 6 ≤ W.heap.size
theorem GetI.it {w A B : World} {N b0 : Nat} {s : ByteArray} {x : V} {ok : Bool} (h : GetI w N s x ok A) (g : ItKeeps (fun _ k => k = N + 1 + 1 ∨ k = N + 1 + 1 + 1) b0 A B) (hN : N + 2 ≤ b0) : GetI w N s x ok B := by
  have hk : ∀ k, k < A.heap.size → k < b0 ∨ (k = N + 1 + 1 ∨ k = N + 1 + 1 + 1) → B.heap[k]? = A.heap[k]? := g.keep
  have hs := h.size
  exact ⟨(hk N (by omega) (.inl (by omega))).trans h.key, (hk (N + 1) (by omega) (.inl (by omega))).trans h.res, (hk _ (by omega) (.inr (.inl rfl))).trans h.val, (hk _ (by omega) (.inr (.inr rfl))).trans h.ok,
    h.below.trans ⟨g.os, g.tape, g.output, g.size, fun k hk' => hk k (by omega) (.inl (by omega))⟩, by have := g.size; omega⟩

theorem GetI.stored {w W w2 : World} {N : Nat} {s : ByteArray} {x : V} {ok : Bool} (h : GetI w N s x ok W) (hb : Below W.heap.size W w2) (y : V) (ok2 : Bool) :
    RdKeeps (fun _ k => k = N + 1 + 1 ∨ k = N + 1 + 1 + 1) W ((((w2.setCell ⟨N + 1 + 1, 0, none⟩ (.int .i64 y.k)).setCell ⟨N + 1 + 1, 1, none⟩ (.int .i64 y.n)).setCell ⟨N + 1 + 1, 2, none⟩ (.string y.s)).setCell ⟨N + 1 + 1 + 1, 0, none⟩ (.bool ok2)) ∧
    GetI w N s y ok2 ((((w2.setCell ⟨N + 1 + 1, 0, none⟩ (.int .i64 y.k)).setCell ⟨N + 1 + 1, 1, none⟩ (.int .i64 y.n)).setCell ⟨N + 1 + 1, 2, none⟩ (.string y.s)).setCell ⟨N + 1 + 1 + 1, 0, none⟩ (.bool ok2)) := by
  have hs := h.size
  have hs2 := hb.size
  have hv2 : VBox w2 (N + 1 + 1) x := (hb.block _ (by omega)).trans h.val
  have ho2 : Boxed w2 (N + 1 + 1 + 1) 4 (.bool ok) := (hb.block _ (by omega)).trans h.ok
  have keep : ∀ k, k ≠ N + 1 + 1 → k ≠ N + 1 + 1 + 1 → ((((w2.setCell ⟨N + 1 + 1, 0, none⟩ (.int .i64 y.k)).setCell ⟨N + 1 + 1, 1, none⟩ (.int .i64 y.n)).setCell ⟨N + 1 + 1, 2, none⟩ (.string y.s)).setCell ⟨N + 1 + 1 + 1, 0, none⟩ (.bool ok2)).heap[k]? = w2.heap[k]? := fun k h1 h2 =>
    (Below.heap_setCell _ ⟨N + 1 + 1 + 1, 0, none⟩ _ _ h2).trans (set3_other _ _ _ h1)
  have hz : ((((w2.setCell ⟨N + 1 + 1, 0, none⟩ (.int .i64 y.k)).setCell ⟨N + 1 + 1, 1, none⟩ (.int .i64 y.n)).setCell ⟨N + 1 + 1, 2, none⟩ (.string y.s)).setCell ⟨N + 1 + 1 + 1, 0, none⟩ (.bool ok2)).heap.size = w2.heap.size := by simp [World.setCell]
  refine ⟨⟨hb.os, hb.tape, hb.output, by rw [hz]; exact hs2, fun k hk hm => (keep k (fun e => hm (.inl e)) (fun e => hm (.inr e))).trans (hb.block k hk), fun k hk => .inl hk⟩, ?_⟩
  refine ⟨(keep N (by omega) (by omega)).trans ((hb.block N (by omega)).trans h.key), (keep (N + 1) (by omega) (by omega)).trans ((hb.block _ (by omega)).trans h.res), ?_, ?_, ?_, by rw [hz]; omega⟩
  · exact (Below.heap_setCell _ ⟨N + 1 + 1 + 1, 0, none⟩ _ _ (by simp)).trans (vbox_set hv2 y)
  · exact blk_set ((set3_other _ _ _ (by omega)).trans ho2) 0 (.bool ok2)
  · exact (set3 (h.below.trans (hb.mono (by omega))) (N + 1 + 1) (by omega) _ _ _).setCell (p := ⟨N + 1 + 1 + 1, 0, none⟩) (by show N ≤ N + 1 + 1 + 1; omega) _
set_option maxRecDepth 100000 in
set_option maxHeartbeats 4000000 in
theorem Get_in (n : Nat) (hn : 3 ≤ n) {hp hv : Value} {F : Nat → Prop} {T : Nat} {L : Hp} {sp : List Spot} (p : Int) (s : ByteArray) (w : World) (hh : HeapV w hp F T L hv sp) (hw : Wf L) (h3 : L.length ≤ 5000) (hlt : ∀ k, F k → k < w.heap.size) (hs : s.size ≤ maxLen) :
    CallsIn Fence.wide n Try.prog 25 #[hp, .int .i64 p, .string s] w fun e w' => e = .returned (ans (get L p s)) ∧ Below w.heap.size w w' := by
  have h1 : 1 ≤ n := by omega
  obtain ⟨N, eN⟩ : ∃ N, w.heap.size = N := ⟨_, rfl⟩
  have HH := Lib.hid hh
  have HP := Lib.hid hh.ptr
  clear hh
  refine callsIn_of_wp_marks Try.func25 rfl trivial ?_ rfl
  simp only [Try.ntmps25, List.size_toArray, List.length_cons, List.length_nil, Nat.reduceAdd, Nat.reduceSub, Array.replicate_succ, Array.replicate_zero, List.push_toArray, List.append_toArray, List.nil_append, List.cons_append]
  gi_wp2
  refine wpIn_wide.2 (wp_scope_straight ((wpIn_wide (n := n)).1 ?_))
  gi_wp2
  refine wpIn_label ?_
  gi_wp2_with (refine ⟨trivial, ?_⟩; gi_at_call 35; refine (chain_in (n - 1) _ p HP.out _).mono ?_; rintro e w' ⟨rfl, rfl⟩)
  obtain ⟨W0, hW0⟩ : ∃ W0, (((((w.alloc (.cells #[.string s] 9)).alloc (.cells #[.int .i64 0, .int .i64 0, .string ⟨#[]⟩] 32)).alloc (.cells #[.int .i64 0, .int .i64 0, .string ⟨#[]⟩] 32)).alloc (.cells #[.bool false] 4)).alloc (.cells #[hp] 24)).alloc (.cells #[.int .i64 p] 3) = W0 := ⟨_, rfl⟩
  have hI : GetI w N s V.zero false W0 ∧ Boxed W0 (N + 1 + 1 + 1 + 1) 24 (hp) ∧ Boxed W0 (N + 1 + 1 + 1 + 1 + 1) 3 (.int .i64 p) ∧ W0.heap.size = N + 6 := by
    have a0 := heap_alloc_new w (.cells #[.string s] 9)
    have a1 := heap_alloc_new (w.alloc (.cells #[.string s] 9)) (.cells #[.int .i64 0, .int .i64 0, .string ⟨#[]⟩] 32)
    have a2 := heap_alloc_new ((w.alloc (.cells #[.string s] 9)).alloc (.cells #[.int .i64 0, .int .i64 0, .string ⟨#[]⟩] 32)) (.cells #[.int .i64 0, .int .i64 0, .string ⟨#[]⟩] 32)
    have a3 := heap_alloc_new (((w.alloc (.cells #[.string s] 9)).alloc (.cells #[.int .i64 0, .int .i64 0, .string ⟨#[]⟩] 32)).alloc (.cells #[.int .i64 0, .int .i64 0, .string ⟨#[]⟩] 32)) (.cells #[.bool false] 4)
    have a4 := heap_alloc_new ((((w.alloc (.cells #[.string s] 9)).alloc (.cells #[.int .i64 0, .int .i64 0, .string ⟨#[]⟩] 32)).alloc (.cells #[.int .i64 0, .int .i64 0, .string ⟨#[]⟩] 32)).alloc (.cells #[.bool false] 4)) (.cells #[hp] 24)
    have a5 := heap_alloc_new (((((w.alloc (.cells #[.string s] 9)).alloc (.cells #[.int .i64 0, .int .i64 0, .string ⟨#[]⟩] 32)).alloc (.cells #[.int .i64 0, .int .i64 0, .string ⟨#[]⟩] 32)).alloc (.cells #[.bool false] 4)).alloc (.cells #[hp] 24)) (.cells #[.int .i64 p] 3)
    simp only [World.size_alloc, eN] at a0 a1 a2 a3 a4 a5
    subst hW0
    refine ⟨⟨?_, ?_, ?_, ?_, ?_, ?_⟩, ?_, ?_, ?_⟩
    · exact (Below.heap_alloc _ _ _ (by simp; omega)).trans ((Below.heap_alloc _ _ _ (by simp; omega)).trans ((Below.heap_alloc _ _ _ (by simp; omega)).trans ((Below.heap_alloc _ _ _ (by simp; omega)).trans ((Below.heap_alloc _ _ _ (by simp; omega)).trans a0))))
    · exact (Below.heap_alloc _ _ _ (by simp; omega)).trans ((Below.heap_alloc _ _ _ (by simp; omega)).trans ((Below.heap_alloc _ _ _ (by simp; omega)).trans ((Below.heap_alloc _ _ _ (by simp; omega)).trans a1)))
    · exact (Below.heap_alloc _ _ _ (by simp; omega)).trans ((Below.heap_alloc _ _ _ (by simp; omega)).trans ((Below.heap_alloc _ _ _ (by simp; omega)).trans a2))
    · exact (Below.heap_alloc _ _ _ (by simp; omega)).trans ((Below.heap_alloc _ _ _ (by simp; omega)).trans a3)
    · rw [← eN]
      exact ((((((Below.refl _ w).alloc (Nat.le_refl _) _).alloc (by simp) _).alloc (by simp; omega) _).alloc (by simp; omega) _).alloc (by simp; omega) _).alloc (by simp; omega) _
    · simp; omega
    · exact (Below.heap_alloc _ _ _ (by simp; omega)).trans a4
    · exact a5
    · simp; omega
  rw [hW0]
  clear hW0
  obtain ⟨hI, bH, bP, hsz⟩ := hI
  have hmF : ∀ k, F k → k < N := fun k hk => by have := hlt k hk; omega
  have hkeep : ∀ W, Below N w W → HeapV W hp F T L hv sp := fun W hb => HH.out.keep (fun k hk _ => hb.block k (hmF k hk)) (by have := hb.size; omega)
  have HK := Lib.hid hkeep
  clear hkeep
  refine wpIn_rangeRows (mine := fun _ k => k = N + 1 + 1 ∨ k = N + 1 + 1 + 1) rfl h1 (gf := 40) (lb := #[.pointer (some ⟨N + 1 + 1 + 1 + 1, 0, none⟩), .pointer (some ⟨N + 1 + 1 + 1 + 1 + 1, 0, none⟩)]) rfl trivial (enters_of Try.func40 (by kernel_rfl) rfl)
    (encs := encS sp) (xs := chain L p) (w0 := W0)
    (chain_rows (n - 1) (by omega) p _ W0 hw h3 bH bP (HK.out W0 hI.below) (fun _ k hk => ⟨fun hF => by have := hmF k hF; omega, by omega, by omega⟩)) (Below.refl _ _) (fun _ => rfl)
    (fun pre W => GetI w N s V.zero false W ∧ getL L s pre = none)
    (fun c pre W => c = .exit 0 ∧ ∃ x, GetI w N s x true W ∧ getL L s pre = some x)
    (fun pre A B h g => ⟨h.1.it g (by omega), h.2⟩)
    (fun c pre A B h g => by
      obtain ⟨h1, x, h2, h3⟩ := h
      exact ⟨h1, x, h2.it g (by omega), h3⟩)
    (fun pre A k h hk => by
      rcases hk with rfl | rfl
      · exact ⟨_, h.1.val, noBook_cells⟩
      · exact ⟨_, h.1.ok, noBook_cells⟩)
    (fun c pre A k h hk => by
      obtain ⟨-, x, h, -⟩ := h
      rcases hk with rfl | rfl
      · exact ⟨_, h.val, noBook_cells⟩
      · exact ⟨_, h.ok, noBook_cells⟩)
    (fun _ _ _ _ h => h)
    ⟨hI, rfl⟩
    (fun i a' W => ∃ c, c = (sp[i]?).elim undef ptr ∧ a' = { tmps := (hp :: .int .i64 p :: .string s :: undef :: undef :: .pointer (some ⟨N, 0, none⟩) :: .pointer (some ⟨N + 1, 0, none⟩) :: .bool false :: .pointer (some ⟨N + 1 + 1, 0, none⟩) :: .pointer (some ⟨N + 1 + 1 + 1, 0, none⟩) :: c :: hp :: .int .i64 p :: .func (.func 40) #[] #[.pointer (some ⟨N + 1 + 1 + 1 + 1, 0, none⟩), .pointer (some ⟨N + 1 + 1 + 1 + 1 + 1, 0, none⟩)] :: c :: undef :: undef :: undef :: undef :: undef :: undef :: undef :: undef :: undef :: []).toArray, defers := [] })
    (fun i a' A B h _ => h)
    ?assign ?body ?done ?stop
  case assign =>
    rintro l pre i W K' ⟨hI, hlt⟩ hpre hK
    have HI := Lib.hid hI
    unfold encS
    generalize (sp[i]?).elim undef ptr = c at hK ⊢
    clear hI hpre
    gi_wp2
    exact hK _ _ (Below.refl _ W) ⟨_, rfl, rfl⟩
  case body =>
    rintro l pre i a' W hl ⟨hI, hnone⟩ ⟨c, hc, rfl⟩ hpre
    obtain ⟨r, hr⟩ := hpre
    have hi : i < L.length := chain_lt _ _ i (by
      show i ∈ chain L p
      rw [← hr]; simp)
    obtain ⟨o, hL⟩ : ∃ o, L[i]? = some o := ⟨_, List.getElem?_eq_getElem hi⟩
    have hhW := HK.out W hI.below
    obtain ⟨q, hq, hob⟩ := hhW.has hL
    have ec : c = .pointer (some ⟨q.b, 0, none⟩) := by rw [hc, hq]; rfl
    have HG := Lib.hid (get_any q o T s W hob hs)
    have hgl : getL L s (pre ++ [i]) = lk o.kv s := by
      rw [getL_app, hnone]
      simp only [getL, hL, Option.elim]
      cases lk o.kv s <;> rfl
    have ck := hI.key.cell
    have HI := Lib.hid hI
    have hsz := hI.size
    rw [ec]
    clear hhW hob hI hr hc ec hnone
    cases hlk : lk o.kv s with
    | none =>
      rw [hlk] at HG hgl
      have HL := Lib.hid hgl
      simp only [V.v, V.zero, Option.getD_none, Option.isSome_none] at HG
      clear hlk hgl
      gi_wp2_with fail
      refine ⟨trivial, fun h => absurd h (by simp [Fence.wide]), ?_⟩
      gi_at_call 37
      refine (CallsIn.inRound l (callsIn_wide.2 HG.out)).mono ?_
      rintro e w2 ⟨rfl, hb⟩
      have hs2 := hb.size
      have hv2 : VBox w2 (N + 1 + 1) V.zero := (hb.block _ (by omega)).trans HI.out.val
      have ho2 : Boxed w2 (N + 1 + 1 + 1) 4 (.bool false) := (hb.block _ (by omega)).trans HI.out.ok
      obtain ⟨⟨c0, c1, c2⟩, ⟨f0, f1, f2⟩⟩ := vbox_cells hv2
      have k0 := ho2.cell
      have k1 := ho2.frozen
      have HB := Lib.hid hb
      simp only [V.zero] at c0 c1 c2
      have HV := Lib.hid (And.intro hv2 ho2)
      clear hb hv2 ho2
      gi_wp2
      obtain ⟨r1, r2⟩ := HI.out.stored HB.out V.zero false
      exact ⟨r1, r2, HL.out⟩
    | some x =>
      rw [hlk] at HG hgl
      have HL := Lib.hid hgl
      obtain ⟨xk, xn, xs⟩ := x
      simp only [V.v, Option.getD_some, Option.isSome_some] at HG
      clear hlk hgl
      gi_wp2_with fail
      refine ⟨trivial, fun h => absurd h (by simp [Fence.wide]), ?_⟩
      gi_at_call 37
      refine (CallsIn.inRound l (callsIn_wide.2 HG.out)).mono ?_
      rintro e w2 ⟨rfl, hb⟩
      have hs2 := hb.size
      have hv2 : VBox w2 (N + 1 + 1) V.zero := (hb.block _ (by omega)).trans HI.out.val
      have ho2 : Boxed w2 (N + 1 + 1 + 1) 4 (.bool false) := (hb.block _ (by omega)).trans HI.out.ok
      obtain ⟨⟨c0, c1, c2⟩, ⟨f0, f1, f2⟩⟩ := vbox_cells hv2
      have k0 := ho2.cell
      have k1 := ho2.frozen
      have HB := Lib.hid hb
      simp only [V.zero] at c0 c1 c2
      have HV := Lib.hid (And.intro hv2 ho2)
      clear hb hv2 ho2
      gi_wp2
      obtain ⟨r1, r2⟩ := HI.out.stored HB.out ⟨xk, xn, xs⟩ true
      exact ⟨r1, rfl, _, r2, HL.out⟩
  case done =>
    rintro D W hD ⟨hI, hnone⟩ hK
    obtain ⟨⟨c0, c1, c2⟩, ⟨f0, f1, f2⟩⟩ := vbox_cells hI.val
    obtain ⟨⟨d0, d1, d2⟩, ⟨g0, g1, g2⟩⟩ := vbox_cells hI.res
    have k0 := hI.ok.cell
    simp only [V.zero] at c0 c1 c2 d0 d1 d2
    have HI := Lib.hid hI
    have hsW := hI.size
    have HE := Lib.hid (show get L p s = none from hnone)
    clear hI hnone
    gi_wp2
    gi_region
    all_goals
      gi_wp2
      rw [Exit.noGoto_ret]
      have hK' : ((((W.setCell ⟨N + 1, 0, none⟩ (.int .i64 0)).setCell ⟨N + 1, 1, none⟩ (.int .i64 0)).setCell ⟨N + 1, 2, none⟩ (.string ⟨#[]⟩)).drew).heap[D]? = some (.deferred (some [])) := (set3_other _ _ _ (by omega)).trans hK
      refine ⟨by simp, .inl ⟨_, _, rfl, run_takeDeferred hK', ?_⟩⟩
      have hv : VBox ((((W.setCell ⟨N + 1, 0, none⟩ (.int .i64 0)).setCell ⟨N + 1, 1, none⟩ (.int .i64 0)).setCell ⟨N + 1, 2, none⟩ (.string ⟨#[]⟩)).drew) (N + 1) V.zero := vbox_set HI.out.res V.zero
      have hbl : Below N w ((((W.setCell ⟨N + 1, 0, none⟩ (.int .i64 0)).setCell ⟨N + 1, 1, none⟩ (.int .i64 0)).setCell ⟨N + 1, 2, none⟩ (.string ⟨#[]⟩)).drew) := (set3 HI.out.below (N + 1) (by omega) _ _ _).drew
      generalize (((W.setCell ⟨N + 1, 0, none⟩ (.int .i64 0)).setCell ⟨N + 1, 1, none⟩ (.int .i64 0)).setCell ⟨N + 1, 2, none⟩ (.string ⟨#[]⟩)).drew = W9 at hK' hv hbl ⊢
      have hv9 : VBox (W9.putObj D (.deferred none)) (N + 1) V.zero := (World.putObj_heap_other (by omega)).trans hv
      have hb9 : Below N w (W9.putObj D (.deferred none)) := hbl.trans (belowK_b (w := w) (by omega) W9 D _ _ (by omega) hK' rfl rfl)
      generalize W9.putObj D (.deferred none) = W10 at hv9 hb9 ⊢
      obtain ⟨⟨t0, t1, t2⟩, -⟩ := vbox_cells hv9
      simp only [V.zero] at t0 t1 t2
      refine ⟨.tuple #[.agg #[.int .i64 0, .int .i64 0, .string ⟨#[]⟩], .bool false], by simp [results, Try.results25, go_sem, t0, t1, t2], ?_, by rw [eN]; exact hb9⟩
      rw [HE.out]
      rfl
  case stop =>
    rintro D c pre W hD hpre ⟨rfl, x, hI, hsome⟩ hK
    obtain ⟨⟨c0, c1, c2⟩, ⟨f0, f1, f2⟩⟩ := vbox_cells hI.val
    obtain ⟨⟨d0, d1, d2⟩, ⟨g0, g1, g2⟩⟩ := vbox_cells hI.res
    have k0 := hI.ok.cell
    obtain ⟨xk, xn, xs⟩ := x
    simp only [V.zero] at c0 c1 c2 d0 d1 d2
    have HI := Lib.hid hI
    have hsW := hI.size
    have HE := Lib.hid (show get L p s = some ⟨xk, xn, xs⟩ by
      obtain ⟨r, hr⟩ := hpre
      show getL L s (chain L p) = _
      rw [← hr, getL_app, hsome])
    clear hI hsome hpre
    gi_wp2
    gi_region
    all_goals
      gi_wp2
      rw [Exit.noGoto_ret]
      have hK' : ((((W.setCell ⟨N + 1, 0, none⟩ (.int .i64 xk)).setCell ⟨N + 1, 1, none⟩ (.int .i64 xn)).setCell ⟨N + 1, 2, none⟩ (.string xs)).drew).heap[D]? = some (.deferred (some [])) := (set3_other _ _ _ (by omega)).trans hK
      refine ⟨by simp, .inl ⟨_, _, rfl, run_takeDeferred hK', ?_⟩⟩
      have hv : VBox ((((W.setCell ⟨N + 1, 0, none⟩ (.int .i64 xk)).setCell ⟨N + 1, 1, none⟩ (.int .i64 xn)).setCell ⟨N + 1, 2, none⟩ (.string xs)).drew) (N + 1) ⟨xk, xn, xs⟩ := vbox_set HI.out.res ⟨xk, xn, xs⟩
      have hbl : Below N w ((((W.setCell ⟨N + 1, 0, none⟩ (.int .i64 xk)).setCell ⟨N + 1, 1, none⟩ (.int .i64 xn)).setCell ⟨N + 1, 2, none⟩ (.string xs)).drew) := (set3 HI.out.below (N + 1) (by omega) _ _ _).drew
      generalize (((W.setCell ⟨N + 1, 0, none⟩ (.int .i64 xk)).setCell ⟨N + 1, 1, none⟩ (.int .i64 xn)).setCell ⟨N + 1, 2, none⟩ (.string xs)).drew = W9 at hK' hv hbl ⊢
      have hv9 : VBox (W9.putObj D (.deferred none)) (N + 1) ⟨xk, xn, xs⟩ := (World.putObj_heap_other (by omega)).trans hv
      have hb9 : Below N w (W9.putObj D (.deferred none)) := hbl.trans (belowK_b (w := w) (by omega) W9 D _ _ (by omega) hK' rfl rfl)
      generalize W9.putObj D (.deferred none) = W10 at hv9 hb9 ⊢
      obtain ⟨⟨t0, t1, t2⟩, -⟩ := vbox_cells hv9
      refine ⟨.tuple #[.agg #[.int .i64 xk, .int .i64 xn, .string xs], .bool true], by simp [results, Try.results25, go_sem, t0, t1, t2], ?_, by rw [eN]; exact hb9⟩
      rw [HE.out]
      rfl

theorem Get_any {F : Nat → Prop} {b T : Nat} {L : Hp} (p : Int) (s : ByteArray) (w : World) (h : IsH w F b T L) (hs : s.size ≤ maxLen) :
    Calls Try.prog 25 #[.pointer (some ⟨b, 0, none⟩), .int .i64 p, .string s] w fun e w' => e = .returned (ans (get L p s)) ∧ Below w.heap.size w w' := by
  obtain ⟨⟨v, sp, hh⟩, h2, h3⟩ := h
  exact callsIn_wide.1 (Get_in 3 (Nat.le_refl _) p s w (.inr ⟨b, rfl, hh⟩) h2 h3 hh.lt hs)
theorem Get_nil (p : Int) (s : ByteArray) (w : World) (hs : s.size ≤ maxLen) : Calls Try.prog 25 #[.pointer none, .int .i64 p, .string s] w fun e w' => e = .returned (ans none) ∧ Below w.heap.size w w' := by
  have e : get [] p s = none := by
    unfold get
    rw [chain_none (by unfold at?; split <;> simp)]
    rfl
  rw [← e]
  exact callsIn_wide.1 (Get_in 3 (Nat.le_refl _) (F := fun _ => False) (T := 0) (hv := undef) p s w (.inl ⟨rfl, rfl, rfl⟩) (fun i o h => by simp at h) (by simp) (fun _ h => h.elim) hs)
end Go.Proofs.Ytpbbinppikaamaa
