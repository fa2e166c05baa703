/- heap.All. -/
import Derived.Test.YtpbbinppikaamaaAdd
import Derived.Test.YtpbbinppikaamaaGet
import Derived.Test.YtpbbinppikaamaaAlloc
namespace Go.Proofs.Ytpbbinppikaamaa
open Go.RowKit Go.Proofs Go.Maps Go.Shelf

attribute [local go_sem] Oper.semAt_some

theorem allL_app (L : Hp) (acc : List ByteArray) (a : List Nat) (i : Nat) : allL L acc (a ++ [i]) = addL (allL L acc a) (keysOf ((L[i]?).elim [] (·.kv))) := by
  induction a generalizing acc with
  | nil => rfl
  | cons k r ih => simp only [List.cons_append, allL, ih]
theorem chainF_len (L : Hp) : ∀ (f : Nat) (p : Int), (chainF L f p).length ≤ f
  | 0, _ => Nat.le_refl _
  | f + 1, p => by
    unfold chainF
    cases at? L p with
    | none => simp
    | some o =>
      have := chainF_len L f o.proto
      simp
      omega
theorem chain_len (L : Hp) (p : Int) : (chain L p).length ≤ L.length := by
  cases h : at? L p with
  | none => rw [chain_none h]; simp
  | some o =>
    obtain ⟨n, rfl, hn, _⟩ := at?_some h
    have := chainF_len L ((n : Int) + 1).toNat (n : Int)
    unfold chain
    omega
theorem row_base {w : World} {e : TypeId} {size n base : Nat} {v : Value} {xs : List Value} (h : w.ownsRow 0 e size v n xs) (hb : ∀ k, v.ownBlock = some k → base ≤ k) : w.ownsRow base e size v n xs := by
  refine ⟨h.1, h.2.imp id fun ⟨g, cap, cur, h1, _, h3⟩ => ⟨g, cap, cur, h1, ?_, h3⟩⟩
  exact hb g (by rw [h1]; rfl)
/-- The list's blocks. -/
def mineL (N : Nat) (W : World) (k : Nat) : Prop := k = N ∨ k = N + 1 ∨ (N + 4 ≤ k ∧ (W.heap.size ≤ N + 1 ∨ ∃ v, W.heap[N + 1]? = some (.cells #[v, .map (some N)] 73 (0, 0)) ∧ v.ownBlock = some k))
/-- Between two rounds. -/
structure AllI (w : World) (N : Nat) (acc : List ByteArray) (T : Nat) (W : World) : Prop where
  list : ∃ v, LAt W (N + 1) N v acc T ∧ ∀ k, v.ownBlock = some k → N + 4 ≤ k
  below : Below N w W
  size : N + 4 ≤ W.heap.size
theorem AllI.mine {W : World} {N T : Nat} {acc : List ByteArray} {v : Value} {k : Nat} (hs : N + 4 ≤ W.heap.size) (h : LAt W (N + 1) N v acc T) (hk : mineL N W k) : k = N + 1 ∨ k = N ∨ v.ownBlock = some k := by
  rcases hk with h1 | h1 | ⟨h1, h2 | ⟨u, h2, h3⟩⟩
  · exact .inr (.inl h1)
  · exact .inl h1
  · omega
  · rw [h.head] at h2
    simp at h2
    subst h2
    exact .inr (.inr h3)
theorem AllI.it {w A B : World} {N T b0 : Nat} {acc : List ByteArray} (h : AllI w N acc T A) (g : ItKeeps (mineL N) b0 A B) (hN : N + 4 ≤ b0) : AllI w N acc T B := by
  obtain ⟨v, hv, hb⟩ := h.list
  have hs := h.size
  refine ⟨⟨v, hv.keep (fun k hk => g.keep k (hv.lt k hk) ?_), hb⟩, h.below.trans ⟨g.os, g.tape, g.output, g.size, fun k hk => g.keep k (by omega) (.inl (by omega))⟩, by have := g.size; omega⟩
  rcases hk with rfl | rfl | hk
  · exact .inr (.inr (.inl rfl))
  · exact .inr (.inl rfl)
  · exact .inr (.inr (.inr ⟨hb k hk, .inr ⟨v, hv.head, hk⟩⟩))
theorem AllI.book {w A : World} {N T : Nat} {acc : List ByteArray} (h : AllI w N acc T A) {k : Nat} (hk : mineL N A k) : ∃ o, A.heap[k]? = some o ∧ NoBook o := by
  obtain ⟨v, hv, -⟩ := h.list
  rcases AllI.mine h.size hv hk with rfl | rfl | hk
  · exact ⟨_, hv.head, noBook_cells⟩
  · obtain ⟨D, hm, -⟩ := hv.map
    exact noBook_map hm
  · obtain ⟨cs, hc⟩ := row_blk hv.row hk
    exact ⟨_, hc, noBook_cells⟩
theorem mineL_back {A B : World} {N b0 k : Nat} (hN : N + 2 ≤ b0) (g : ItKeeps (mineL N) b0 A B) (h : mineL N B k) : mineL N A k := by
  rcases h with h | h | ⟨h1, h2⟩
  · exact .inl h
  · exact .inr (.inl h)
  · refine .inr (.inr ⟨h1, ?_⟩)
    by_cases hA : A.heap.size ≤ N + 1
    · exact .inl hA
    · rcases h2 with h2 | ⟨v, h2, h3⟩
      · have := g.size
        omega
      · exact .inr ⟨v, (g.keep (N + 1) (by omega) (.inl (by omega))).symm.trans h2, h3⟩
theorem AllI.step {w W W2 : World} {N T T2 : Nat} {acc acc2 : List ByteArray} {v v2 : Value} (h : AllI w N acc T W) (hv : LAt W (N + 1) N v acc T) (hb : ∀ k, v.ownBlock = some k → N + 4 ≤ k) (h2 : LAt W2 (N + 1) N v2 acc2 T2) (hF : Fr (N + 1) N v W v2 W2) :
    RdKeeps (mineL N) W W2 ∧ AllI w N acc2 T2 W2 := by
  have hs := h.size
  have hs2 := hF.1.size
  refine ⟨⟨hF.1.os, hF.1.tape, hF.1.output, hs2, fun k hk hm => hF.1.block k hk (fun e => hm ?_), fun k hk => ?_⟩, ⟨⟨v2, h2, fun k hk => ?_⟩, h.below.trans ⟨hF.1.os, hF.1.tape, hF.1.output, hs2, fun k hk => hF.1.block k (by omega) (fun e => ?_)⟩, by omega⟩⟩
  · rcases e with rfl | rfl | e
    · exact .inr (.inl rfl)
    · exact .inl rfl
    · exact .inr (.inr ⟨hb k e, .inr ⟨v, hv.head, e⟩⟩)
  · rcases AllI.mine (by omega) h2 hk with rfl | rfl | hk
    · exact .inl (.inr (.inl rfl))
    · exact .inl (.inl rfl)
    · rcases hF.2 with e | ⟨j, e, hj⟩
      · exact .inl (.inr (.inr ⟨hb k (e ▸ hk), .inr ⟨v, hv.head, e ▸ hk⟩⟩))
      · rw [hk] at e
        cases e
        exact .inr hj
  · rcases hF.2 with e | ⟨j, e, hj⟩
    · exact hb k (e ▸ hk)
    · rw [hk] at e
      cases e
      omega
  · rcases e with rfl | rfl | e
    · omega
    · omega
    · have := hb k e
      omega

set_option maxRecDepth 100000 in
set_option maxHeartbeats 4000000 in
theorem All_in (n : Nat) (hn : 3 ≤ n) {hp hv : Value} {F : Nat → Prop} {T : Nat} {L : Hp} {sp : List Spot} (p : Int) (w : World) (hh : HeapV w hp F T L hv sp) (hw : Wf L) (h3 : L.length ≤ 5000) (hlt : ∀ k, F k → k < w.heap.size) (hTL : L.length * T ≤ 1000000) :
    CallsIn Fence.wide n Try.prog 21 #[hp, .int .i64 p] w fun e w' => ∃ v, e = .returned v ∧ Strs w' w.heap.size v (all L p) ∧ Below w.heap.size w w' := by
  have h1 : 1 ≤ n := by omega
  obtain ⟨N, eN⟩ : ∃ N, w.heap.size = N := ⟨_, rfl⟩
  have HH := Lib.hid hh
  have HP := Lib.hid hh.ptr
  have hmm := @run_makeMap Try.prog
  clear hh
  refine callsIn_of_wp_marks Try.func21 rfl trivial ?_ rfl
  simp only [Try.ntmps21, List.size_toArray, List.length_cons, List.length_nil, Nat.reduceAdd, Nat.reduceSub, Array.replicate_succ, Array.replicate_zero, List.push_toArray, List.append_toArray, List.nil_append, List.cons_append]
  gi_wp2_with (refine ⟨trivial, ?_⟩; gi_at_call 35; refine (chain_in (n - 1) _ p HP.out _).mono ?_; rintro e w' ⟨rfl, rfl⟩)
  obtain ⟨W0, hW0⟩ : ∃ W0, (((w.alloc (.map #[] 0)).alloc (.cells #[.slice none 0 0, .map (some N)] 73)).alloc (.cells #[hp] 24)).alloc (.cells #[.int .i64 p] 3) = W0 := ⟨_, rfl⟩
  have hI : AllI w N [] 0 W0 ∧ Boxed W0 (N + 1 + 1) 24 hp ∧ Boxed W0 (N + 1 + 1 + 1) 3 (.int .i64 p) ∧ W0.heap.size = N + 4 := by
    have a1 := heap_alloc_new (w.alloc (.map #[] 0)) (.cells #[.slice none 0 0, .map (some N)] 73)
    have a2 := heap_alloc_new ((w.alloc (.map #[] 0)).alloc (.cells #[.slice none 0 0, .map (some N)] 73)) (.cells #[hp] 24)
    have a3 := heap_alloc_new (((w.alloc (.map #[] 0)).alloc (.cells #[.slice none 0 0, .map (some N)] 73)).alloc (.cells #[hp] 24)) (.cells #[.int .i64 p] 3)
    have m0 := (((World.ownsMap_made (H := Unit) w Try.prog 9 unitElem).alloc (.cells #[.slice none 0 0, .map (some N)] 73)).alloc (.cells #[hp] 24)).alloc (.cells #[.int .i64 p] 3)
    simp only [World.size_alloc, eN] at a1 a2 a3 m0
    subst hW0
    refine ⟨⟨⟨.slice none 0 0, ⟨?_, World.ownsRow_nil _ _ _ _, ⟨.map [], m0, fun _ => rfl⟩, Nat.le_refl _⟩, fun k hk => by simp [Value.ownBlock] at hk⟩, ?_, ?_⟩, ?_, ?_, ?_⟩
    · exact (Below.heap_alloc _ _ _ (by simp; omega)).trans ((Below.heap_alloc _ _ _ (by simp; omega)).trans a1)
    · rw [← eN]
      exact ((((Below.refl _ w).alloc (Nat.le_refl _) _).alloc (by simp) _).alloc (by simp; omega) _).alloc (by simp; omega) _
    · simp; omega
    · exact (Below.heap_alloc _ _ _ (by simp; omega)).trans a2
    · exact a3
    · simp; omega
  rw [hW0]
  clear hW0
  obtain ⟨hI, bH, bP, hsz⟩ := hI
  have hmF : ∀ k, F k → k < N := fun k hk => by have := hlt k hk; omega
  have hkeep : ∀ W, Below N w W → HeapV W hp F T L hv sp := fun W hb => HH.out.keep (fun k hk _ => hb.block k (hmF k hk)) (by have := hb.size; omega)
  have HK := Lib.hid hkeep
  clear hkeep
  refine wpIn_rangeRows (mine := mineL N) rfl h1 (gf := 40) (lb := #[.pointer (some ⟨N + 1 + 1, 0, none⟩), .pointer (some ⟨N + 1 + 1 + 1, 0, none⟩)]) rfl trivial (enters_of Try.func40 (by kernel_rfl) rfl)
    (encs := encS sp) (xs := chain L p) (w0 := W0)
    (chain_rows (n - 1) (by omega) p _ W0 hw h3 bH bP (HK.out W0 hI.below) (fun _ k hk => by
      rcases hk with rfl | rfl | ⟨hk, -⟩
      · exact ⟨fun hF => by have := hmF _ hF; omega, by omega, by omega⟩
      · exact ⟨fun hF => by have := hmF _ hF; omega, by omega, by omega⟩
      · exact ⟨fun hF => by have := hmF _ hF; omega, by omega, by omega⟩)) (Below.refl _ _) (fun _ => rfl)
    (fun pre W => AllI w N (allL L [] pre) (pre.length * T) W)
    (fun _ _ _ => False)
    (fun pre A B h g => h.it g (by omega))
    (fun c pre A B h g => h)
    (fun pre A k h hk => h.book hk)
    (fun c pre A k h hk => h.elim)
    (fun _ _ _ g h => mineL_back (by omega) g h)
    (by simpa [allL] using hI)
    (fun i a' W => ∃ c, c = (sp[i]?).elim undef ptr ∧ a' = { tmps := (hp :: .int .i64 p :: undef :: undef :: .slice none 0 0 :: .pointer (some ⟨N + 1, 0, none⟩) :: c :: .map (some N) :: .agg #[.slice none 0 0, .map (some N)] :: hp :: .int .i64 p :: .func (.func 40) #[] #[.pointer (some ⟨N + 1 + 1, 0, none⟩), .pointer (some ⟨N + 1 + 1 + 1, 0, none⟩)] :: c :: undef :: undef :: undef :: undef :: undef :: undef :: undef :: []).toArray, defers := [] })
    (fun i a' A B h _ => h)
    ?assign ?body ?done ?stop
  case assign =>
    rintro l pre i W K' hI hpre hK
    have HI := Lib.hid hI
    unfold encS
    generalize (sp[i]?).elim undef ptr = c at hK ⊢
    clear hI hpre
    gi_wp2
    exact hK _ _ (Below.refl _ W) ⟨_, rfl, rfl⟩
  case body =>
    rintro l pre i a' W hl hI ⟨c, hc, rfl⟩ hpre
    have hlen : pre.length + 1 ≤ L.length := by
      have h1 := hpre.length_le
      have h2 := chain_len L p
      simp at h1
      omega
    obtain ⟨r, hr⟩ := hpre
    have hi : i < L.length := chain_lt _ _ i (by
      show i ∈ chain L p
      rw [← hr]; simp)
    obtain ⟨o, hL⟩ : ∃ o, L[i]? = some o := ⟨_, List.getElem?_eq_getElem hi⟩
    have hhW := HK.out W hI.below
    obtain ⟨q, hq, hob⟩ := hhW.has hL
    obtain ⟨q', hq', hob0⟩ := HH.out.has hL
    rw [hq] at hq'
    cases hq'
    have ec : c = .pointer (some ⟨q.b, 0, none⟩) := by rw [hc, hq]; rfl
    have e4 := hob.cell 4 q.ks rfl
    obtain ⟨v, hv, hvb⟩ := hI.list
    have hall : allL L [] (pre ++ [i]) = addL (allL L [] pre) (keysOf o.kv) := by rw [allL_app, hL]; rfl
    have hsm := hob.small
    have hmul : (pre.length + 1) * T ≤ 1000000 := Nat.le_trans (Nat.mul_le_mul_right T hlen) hTL
    rw [Nat.add_mul, Nat.one_mul] at hmul
    have hC : Calls Try.prog 36 #[.pointer (some ⟨N + 1, 0, none⟩), q.ks] W fun e w' => e = .returned (.tuple #[]) ∧ RdKeeps (mineL N) W w' ∧ AllI w N (allL L [] (pre ++ [i])) ((pre ++ [i]).length * T) w' := by
      have fin : ∀ (e : Ending) (w' : World) (k : Nat), k ≤ T → (e = .returned (.tuple #[]) ∧ ∃ v2, LAt w' (N + 1) N v2 (addL (allL L [] pre) (keysOf o.kv)) (pre.length * T + k) ∧ Fr (N + 1) N v W v2 w') → e = .returned (.tuple #[]) ∧ RdKeeps (mineL N) W w' ∧ AllI w N (allL L [] (pre ++ [i])) ((pre ++ [i]).length * T) w' := by
        rintro e w' k hk ⟨h1, v2, h2, h3⟩
        rw [hall, List.length_append, List.length_singleton, Nat.add_mul, Nat.one_mul]
        exact ⟨h1, hI.step hv hvb (h2.mono (by omega)) h3⟩
      rcases row_form hob.row with ⟨ek, e0⟩ | ⟨g, cg, ek, hg1, hg2, hgo⟩
      · have ekv : keysOf o.kv = [] := List.eq_nil_of_length_eq_zero (by rw [keysOf_len]; exact e0)
        rw [ek]
        refine (add_none (N + 1) N v _ _ W hv).mono (fun e w' h => fin e w' 0 (Nat.zero_le _) ?_)
        rw [ekv]
        exact h
      · have hrow := hob.row
        rw [ek] at hrow ⊢
        rw [← keysOf_len]
        have hgN : g < w.heap.size := hob0.lt (.inr (.inr hgo))
        refine (add_any (N + 1) N v _ (keysOf o.kv) _ g cg W hv (by rw [keysOf_len]; exact hg1) (fun j x hj => row_cell hrow j _ (by simp [strsOf, hj])) (by have := hI.size; omega) (fun e => by have := hvb g e; omega) (by omega) (by omega) hob.keyb (by rw [keysOf_len]; omega)).mono (fun e w' h => fin e w' _ (by rw [keysOf_len]; exact hsm) h)
    have HC := Lib.hid hC
    rw [ec]
    clear hC hhW hob hob0 hI hr hc ec hv hvb hall
    gi_wp2_with fail
    refine ⟨trivial, fun h => absurd h (by simp [Fence.wide]), ?_⟩
    gi_at_call 36
    refine (CallsIn.inRound l (callsIn_wide.2 HC.out)).mono ?_
    rintro e w2 ⟨rfl, hR, hA⟩
    gi_wp2
    exact ⟨hR, hA⟩
  case done =>
    rintro D W hD hI hK
    obtain ⟨v, hv, hvb⟩ := hI.list
    obtain ⟨A', c', rfl, -, -⟩ := row_slice hv.row
    have c0 : W.cell? ⟨N + 1, 0, none⟩ = some (.slice A' (allL L [] (chain L p)).length c') := cell_of_row W (N + 1) 0 _ _ _ hv.head
    have HV := Lib.hid (And.intro hv (And.intro hvb hI))
    clear hv hvb hI
    gi_wp2
    refine ⟨by simp, .inl ⟨_, _, rfl, run_takeDeferred hK, ?_⟩⟩
    refine ⟨_, by simp [results, Try.results21, go_sem]; rfl, _, rfl, ?_, by rw [eN]; exact HV.out.2.2.below.trans (belowK_b (w := w) (by omega) W D _ _ (by omega) hK rfl rfl)⟩
    rw [eN]
    refine row_base (row_keep HV.out.1.row (fun k hk => World.putObj_heap_other (fun e => ?_))) (fun k hk => by have := HV.out.2.1 k hk; omega)
    obtain ⟨cs, hc⟩ := row_blk HV.out.1.row hk
    rw [e, hK] at hc
    cases hc
  case stop =>
    rintro D c pre W hD hpre hI hK
    exact hI.elim
theorem All_any {F : Nat → Prop} {b T : Nat} {L : Hp} (p : Int) (w : World) (h : IsH w F b T L) (hTL : L.length * T ≤ 1000000) :
    Calls Try.prog 21 #[.pointer (some ⟨b, 0, none⟩), .int .i64 p] w fun e w' => ∃ v, e = .returned v ∧ Strs w' w.heap.size v (all L p) ∧ Below w.heap.size w w' := by
  obtain ⟨⟨v, sp, hh⟩, h2, h3⟩ := h
  exact callsIn_wide.1 (All_in 3 (Nat.le_refl _) p w (.inr ⟨b, rfl, hh⟩) h2 h3 hh.lt hTL)
theorem All_nil (p : Int) (w : World) : Calls Try.prog 21 #[.pointer none, .int .i64 p] w fun e w' => ∃ v, e = .returned v ∧ Strs w' w.heap.size v [] ∧ Below w.heap.size w w' := by
  have e : all [] p = [] := by
    unfold all
    rw [chain_none (by unfold at?; split <;> simp)]
    rfl
  rw [← e]
  exact callsIn_wide.1 (All_in 3 (Nat.le_refl _) (F := fun _ => False) (T := 0) (hv := undef) p w (.inl ⟨rfl, rfl, rfl⟩) (fun i o h => by simp at h) (by simp) (fun _ h => h.elim) (by simp))
end Go.Proofs.Ytpbbinppikaamaa
