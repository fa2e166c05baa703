/- graph.Callees. -/
import Derived.Test.YtfiockconbaniaaGrEntered
namespace Go.Proofs.Ytfiockconbaniaa
set_option linter.unusedSimpArgs false
set_option linter.unusedVariables false
open Go.RowKit Go.Proofs Go.Shelf

attribute [local go_sem] Oper.semAt_some
theorem RdP.mono {S S' : Nat → Prop} {A B : World} (h : RdP S A B) (hS : ∀ k, S' k → S k) : RdP S' A B := ⟨h.os, h.tape, h.output, h.size, fun k hk hm => h.keep k hk (hm.imp (hS k) id)⟩
theorem RdP.refl (S : Nat → Prop) (A : World) : RdP S A A := ⟨rfl, rfl, rfl, Nat.le_refl _, fun _ _ _ => rfl⟩
set_option maxRecDepth 100000 in
set_option maxHeartbeats 4000000 in
theorem callees_in (n : Nat) (hn : 3 ≤ n) (A : Option Addr) (len cap : Nat) (l : List Ft) (m : Int) (w : World) (hl : Facts9 w (.slice A len cap) l) (hsm : len ≤ 100000) :
    CallsIn Fence.wide n Try.prog 19 #[.slice A len cap, .int .i64 m] w fun e W' => ∃ v', e = .returned v' ∧ OutI w W' v' (setI (calL m l)) := by
  have h1 : 1 ≤ n := by omega
  obtain ⟨hnl, hca, hcm, -⟩ := SlAt.get hl
  have hm1 : cap ≤ 9223372036854775807 := hcm
  have HA := Lib.hid hl
  obtain ⟨K, eK⟩ : ∃ K, w.heap.size = K := ⟨_, rfl⟩
  have bG := ((Boxed.new (w.alloc (.cells #[.int .i64 m] 3)) 35 (.slice none 0 0)).alloc (.cells #[.slice A len cap] 26)).alloc (.cells #[.int .i64 5] 3)
  have bM := (((Boxed.new w 3 (.int .i64 m)).alloc (.cells #[.slice none 0 0] 35)).alloc (.cells #[.slice A len cap] 26)).alloc (.cells #[.int .i64 5] 3)
  have bP := heap_alloc_new ((w.alloc (.cells #[.int .i64 m] 3)).alloc (.cells #[.slice none 0 0] 35)) (.cells #[.slice A len cap] 26)
  have bQ := heap_alloc_new (((w.alloc (.cells #[.int .i64 m] 3)).alloc (.cells #[.slice none 0 0] 35)).alloc (.cells #[.slice A len cap] 26)) (.cells #[.int .i64 5] 3)
  have bP2 := (Below.heap_alloc (((w.alloc (.cells #[.int .i64 m] 3)).alloc (.cells #[.slice none 0 0] 35)).alloc (.cells #[.slice A len cap] 26)) (.cells #[.int .i64 5] 3) _ (by simp)).trans bP
  have hbl : Below w.heap.size w ((((w.alloc (.cells #[.int .i64 m] 3)).alloc (.cells #[.slice none 0 0] 35)).alloc (.cells #[.slice A len cap] 26)).alloc (.cells #[.int .i64 5] 3)) := ((((Below.refl _ w).alloc (Nat.le_refl _) _).alloc (by simp) _).alloc (by simp; omega) _).alloc (by simp; omega) _
  have hsz0 : ((((w.alloc (.cells #[.int .i64 m] 3)).alloc (.cells #[.slice none 0 0] 35)).alloc (.cells #[.slice A len cap] 26)).alloc (.cells #[.int .i64 5] 3)).heap.size = w.heap.size + 4 := by simp
  obtain ⟨W0, hW0⟩ : ∃ W0, ((((w.alloc (.cells #[.int .i64 m] 3)).alloc (.cells #[.slice none 0 0] 35)).alloc (.cells #[.slice A len cap] 26)).alloc (.cells #[.int .i64 5] 3)) = W0 := ⟨_, rfl⟩
  simp only [World.size_alloc] at bP2 bQ bG
  rw [hW0] at bG bM bP2 bQ hbl hsz0
  have HW0 := Lib.hid hW0
  rw [eK] at bG bM bP2 bQ hsz0
  have HB0 := Lib.hid (And.intro bG (And.intro bP2 (And.intro bQ (And.intro hbl hsz0))))
  have HM := Lib.hid bM
  have HN := Lib.hid (And.intro hnl hsm)
  have HK := Lib.hid eK
  clear hl hsm hW0 bG bM bP bP2 bQ hbl hsz0 hcm hnl
  refine callsIn_of_wp_marks Try.func19 rfl trivial ?_ rfl
  simp only [Try.ntmps19, List.size_toArray, List.length_cons, List.length_nil, Nat.reduceAdd, Nat.reduceSub, Array.replicate_succ, Array.replicate_zero, List.push_toArray, List.append_toArray, List.nil_append, List.cons_append]
  gi_wp2_with (refine ⟨trivial, ?_⟩; gi_at_call 41; refine (facts_in (n - 1) A len cap 5 _).mono ?_; rintro e w' ⟨rfl, rfl⟩)
  rw [HW0.out]
  have q0 := HB0.out.2.2.2.2
  refine wpIn_rangeP rfl h1 (gf := 58) (lb := #[.pointer (some ⟨K + 1 + 1, 0, none⟩), .pointer (some ⟨K + 1 + 1 + 1, 0, none⟩)]) rfl trivial (enters_of Try.func58 (by kernel_rfl) rfl)
    (encs := fun x => #[ftV x]) (xs := kindL 5 l) (w0 := W0) (S := fun k => blkS A k ∨ k = K + 1 + 1 + 1) (L := True)
    (facts_seq (n - 1) (by omega) (K + 1 + 1) (K + 1 + 1 + 1) len cap 5 A l W0 (HA.out.below FtP.keeps HB0.out.2.2.2.1) HB0.out.2.1 HB0.out.2.2.1 True) (Below.refl _ _) (fun _ => rfl)
    (fun (pre : List Ft) W => OutB 1 3 35 IntP w W (K + 1) (K + 4) (byA m pre) ∧ W.heap[K]? = some (.cells #[.int .i64 m] 3 (0, 0)))
    (fun _ _ _ => False)
    (fun pre A B h g => ⟨OutB.it h.1 g (by omega), g.cells h.2⟩)
    (fun c pre A B h g => h)
    ⟨⟨⟨_, HB0.out.1, OwnR.nil _ _ _ _ _ _⟩, HB0.out.2.2.2.1, by omega⟩, HM.out⟩
    (fun (x : Ft) a' W => ∃ (Bx : Nat), W.heap[Bx]? = some (.cells #[.int .i64 x.kind, .int .i64 x.a, .string x.s, .int .i64 x.b] 49 (0, 0)) ∧ a' = { tmps := #[.slice A len cap, .int .i64 m, undef, .pointer (some ⟨K, 0, none⟩), .slice none 0 0, .pointer (some ⟨K + 1, 0, none⟩), .pointer (some ⟨Bx, 0, none⟩), .slice A len cap, .func (.func 58) #[] #[.pointer (some ⟨K + 1 + 1, 0, none⟩), .pointer (some ⟨K + 1 + 1 + 1, 0, none⟩)], ftV x, undef, undef, undef, undef, undef, undef, undef, undef, undef, undef, undef], defers := [] })
    (fun x a' A B h g => by
      obtain ⟨Bx, g3, g4⟩ := h
      exact ⟨Bx, g _ _ g3 rfl, g4⟩)
    ?assign ?body ?done ?stop
  case assign =>
    rintro l' pre x W K' hI hpre hK
    unfold ftV at hK ⊢
    clear hI hpre
    gi_wp2
    exact hK _ _ ((Below.refl _ W).alloc (Nat.le_refl _) _) ⟨W.heap.size, heap_alloc_new W _, rfl⟩
  case body =>
    rintro l' pre x a' W hl' hI ⟨Bx, hbi, rfl⟩ hpre
    unfold ftV
    have d1 := cell_of_row W Bx 1 _ _ _ hbi
    have d3 := cell_of_row W Bx 3 _ _ _ hbi
    simp at d1 d3
    obtain ⟨hI, hM⟩ := hI
    have dm := cell_of_row W K 0 _ _ _ hM
    simp at dm
    obtain ⟨v, hbv, hov⟩ := hI.row
    have cK := hbv.cell
    have hx := pre_mem9 hpre
    have hxl : x ∈ l := (List.mem_filter.1 hx).1
    obtain ⟨⟨-, hxa, -, hxb⟩, g, off, eA, hg⟩ := facts_of HA.out hxl
    have hlen : (byA m pre).length + 1 ≤ 1000000 := by
      have h9 := hpre.length_le
      have h8 := kindL_len 5 l
      have h7 := byA_len m pre
      have := HN.out.1
      have := HN.out.2
      rw [List.length_append, List.length_singleton] at h9
      omega
    have hsrc : Src9 IntP w (W.alloc (.cells #[.int .i64 x.b] 3)) (.slice (some ⟨W.heap.size, 0, none⟩) 1 1) [x.b] := OwnR.src (OwnR.lit IntP.cells W [.int .i64 x.b] x.b ⟨rfl, hxb⟩)
    have HRun := Lib.hid (app9 (p := Try.prog) (t := 35) IntP.cells (by decide) Try.underlying35 info3g rfl (by decide) (hov.below ((Below.refl _ W).alloc (Nat.le_refl _) (.cells #[.int .i64 x.b] 3))) hsrc (by have := hI.size; simp; omega) hlen)
    have HI := Lib.hid (And.intro hI (And.intro hbv hM))
    have HS := Lib.hid (show ∀ i, ((blkS A i ∨ i = K + 1 + 1 + 1) ∨ i = K) → i < K + 4 ∧ i ≠ K + 1 from fun i hi => by
      rcases hi with (⟨a, ea, eb⟩ | rfl) | rfl
      · rw [eA] at ea
        cases ea
        simp only at eb
        omega
      · omega
      · omega)
    by_cases hA : x.a = m
    · have hA' : (x.a == m) = true := by simpa using hA
      have HX := Lib.hid hA
      clear hI hbv hov hlen hsrc hx hxl hxa hxb eA hg hbi hpre hM hA
      gi_wp2_with (gi_at_builtin; refine wli_app rfl _ _ 35 rfl _ _ rfl rfl _ HRun.out ?_; rintro v5 w5 h5; obtain ⟨A5, k5, rfl, -, -⟩ := h5.form; obtain ⟨s1, s2, s3⟩ := HI.out.1.hit (by omega) (by omega) (by omega) HI.out.2.1 h5 HS.out; have c5 := s1.cell; have f5 := s1.frozen; simp only [List.length_append, List.length_cons, List.length_nil, Nat.zero_add] at s2 s3; have HE := Lib.hid (And.intro s2 s3); clear s1 s2 s3 h5)
      refine ⟨HE.out.1.mono (fun k hk => .inl hk), ?_⟩
      show OutB 1 3 35 IntP w _ (K + 1) (K + 4) (byA m (pre ++ [x])) ∧ _
      rw [byA_snoc, if_pos (by simpa using HX.out)]
      exact ⟨HE.out.2, (HE.out.1.keep K (heap_lt HI.out.2.2) (.inl (.inr rfl))).trans HI.out.2.2⟩
    · have hA' : (x.a == m) = false := by simpa using hA
      have HX := Lib.hid hA
      clear hI hbv hov hlen hsrc hx hxl hxa hxb eA hg hbi hpre hM hA HRun
      gi_wp2
      refine ⟨RdP.refl _ _, ?_⟩
      show OutB 1 3 35 IntP w _ (K + 1) (K + 4) (byA m (pre ++ [x])) ∧ _
      rw [byA_snoc, if_neg (by simpa using HX.out)]
      exact ⟨HI.out.1, HI.out.2.2⟩
  case done =>
    rintro D W hD ⟨hI, -⟩ hK
    rw [byA_kind] at hI
    obtain ⟨v, hbv, hov⟩ := hI.row
    have cK := hbv.cell
    have hlen : (calL m l).length ≤ 1000000 := by
      have h8 := calL_len m l
      have := HN.out.1
      have := HN.out.2
      omega
    have HR := Lib.hid (rising_any hov hI.size hlen)
    have HI := Lib.hid (And.intro hI (And.intro hov hK))
    clear hI hbv hov hK hlen
    gi_wp2_with (refine ⟨trivial, ?_⟩; gi_at_call 40; refine (callsIn_wide.2 HR.out).mono ?_; rintro e w8 ⟨v8, rfl, h8, g8⟩; have H8 := Lib.hid (rise_end HI.out.1 HI.out.2.1 (by omega) (by omega) HI.out.2.2 h8 g8); clear h8 g8)
    refine ⟨by simp, .inl ⟨_, _, rfl, run_takeDeferred H8.out.1, ?_⟩⟩
    exact ⟨_, results_tmp rfl _ _ _, v8, rfl, H8.out.2⟩
  case stop =>
    rintro D c pre W hD hpre hI hK
    exact hI.elim
end Go.Proofs.Ytfiockconbaniaa
