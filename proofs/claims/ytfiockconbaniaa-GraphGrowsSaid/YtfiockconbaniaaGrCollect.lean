/- slices.SortedFunc of a list's edges. -/
import Derived.Test.YtfiockconbaniaaGrSortE
import Derived.Test.YtfiockconbaniaaGrCallees
namespace Go.Proofs.Ytfiockconbaniaa
set_option linter.unusedSimpArgs false
set_option linter.unusedVariables false
open Go.RowKit Go.Proofs Go.Shelf

attribute [local go_sem] Oper.semAt_some
theorem infoE : (Try.prog.info? 44).map (fun i => (i.zero, i.size, i.bytes)) = some (some (.agg #[.int .i64 0, .int .i64 0, .int .i64 0]), 3, 24) := by kernel_rfl
/-- The end of a range that gathers. -/
theorem gather_end {α : Type} {k : Nat} {T t : TypeId} {P : World → List Value → α → Prop} {w W : World} {G base D : Nat} {v : Value} {l : List α} (hI : OutB k T t P w W G base l) (hv : OwnR k T P w W base v l) (hbase : w.heap.size ≤ base) (hD : w.heap.size ≤ D) (hK : W.heap[D]? = some (.deferred (some []))) :
    OwnR k T P w (W.putObj D (.deferred none)) w.heap.size v l ∧ Below w.heap.size w (W.putObj D (.deferred none)) :=
  ⟨(hv.keep fun b hb => World.putObj_heap_other (fun e => by
    obtain ⟨-, cs, h3⟩ := hv.blk hb
    subst e
    rw [hK] at h3
    cases h3)).low hbase, belowK_b9 hI.below hD (.deferred none)⟩
set_option maxRecDepth 100000 in
set_option maxHeartbeats 4000000 in
theorem seq_in (n : Nat) (hn : 3 ≤ n) (A : Option Addr) (len cap Bp : Nat) (l : List Ed) (w : World) (hl : Edges9 w (.slice A len cap) l) (hBp : w.heap[Bp]? = some (.cells #[.slice A len cap] 30 (0, 0))) (hsm : len ≤ 100000) :
    CallsIn Fence.wide n Try.prog 64 #[.slice none 0 0, .func (.func 48) #[] #[.pointer (some ⟨Bp, 0, none⟩)]] w fun e W' => ∃ v', e = .returned v' ∧ OwnR 3 44 EdP w W' w.heap.size v' l ∧ Below w.heap.size w W' := by
  have h1 : 1 ≤ n := by omega
  obtain ⟨hnl, hca, hcm, -⟩ := SlAt.get hl
  have hm1 : cap ≤ 9223372036854775807 := hcm
  have HA := Lib.hid hl
  have HBp := Lib.hid hBp
  obtain ⟨K, eK⟩ : ∃ K, w.heap.size = K := ⟨_, rfl⟩
  have bG := Boxed.new w 30 (.slice none 0 0)
  have hbl : Below w.heap.size w (w.alloc (.cells #[.slice none 0 0] 30)) := (Below.refl _ w).alloc (Nat.le_refl _) _
  have hsz0 : (w.alloc (.cells #[.slice none 0 0] 30)).heap.size = w.heap.size + 1 := by simp
  obtain ⟨W0, hW0⟩ : ∃ W0, (w.alloc (.cells #[.slice none 0 0] 30)) = W0 := ⟨_, rfl⟩
  rw [hW0] at bG hbl hsz0
  have HW0 := Lib.hid hW0
  rw [eK] at bG hsz0
  have HB0 := Lib.hid (And.intro bG (And.intro hbl hsz0))
  have HN := Lib.hid (And.intro hnl hsm)
  have HK := Lib.hid eK
  clear hl hsm hW0 bG hbl hsz0 hcm hnl hBp
  refine callsIn_of_wp_marks Try.func64 rfl trivial ?_ rfl
  simp only [Try.ntmps64, List.size_toArray, List.length_cons, List.length_nil, Nat.reduceAdd, Nat.reduceSub, Array.replicate_succ, Array.replicate_zero, List.push_toArray, List.append_toArray, List.nil_append, List.cons_append]
  gi_wp2
  rw [HW0.out]
  have q0 := HB0.out.2.2
  refine wpIn_rangeP rfl h1 (gf := 48) (lb := #[.pointer (some ⟨Bp, 0, none⟩)]) rfl trivial (enters_of Try.func48 (by kernel_rfl) rfl)
    (encs := fun x => #[edV x]) (xs := l) (w0 := W0) (S := blkS A) (L := True)
    (vals_seq (n - 1) (by omega) Bp len cap A l W0 (HA.out.below EdP.keeps HB0.out.2.1) ((HB0.out.2.1.block Bp (Array.getElem?_eq_some_iff.1 HBp.out).1).trans HBp.out) True) (Below.refl _ _) (fun _ => rfl)
    (fun (pre : List Ed) W => OutB 3 44 30 EdP w W K (K + 1) pre)
    (fun _ _ _ => False)
    (fun pre A B h g => OutB.it h g (by omega))
    (fun c pre A B h g => h)
    ⟨⟨_, HB0.out.1, OwnR.nil _ _ _ _ _ _⟩, HB0.out.2.1, by omega⟩
    (fun (x : Ed) a' W => ∃ (Bx : Nat), W.heap[Bx]? = some (.cells #[.int .i64 x.fr, .int .i64 x.mark, .int .i64 x.to] 44 (0, 0)) ∧ a' = { tmps := #[.slice none 0 0, .func (.func 48) #[] #[.pointer (some ⟨Bp, 0, none⟩)], .pointer (some ⟨K, 0, none⟩), undef, .slice none 0 0, .pointer (some ⟨Bx, 0, none⟩), .func (.func 48) #[] #[.pointer (some ⟨Bp, 0, none⟩)], edV x, undef, undef, undef, undef, undef], defers := [] })
    (fun x a' A B h g => by
      obtain ⟨Bx, g3, g4⟩ := h
      exact ⟨Bx, g _ _ g3 rfl, g4⟩)
    ?assign ?body ?done ?stop
  case assign =>
    rintro l' pre x W K' hI hpre hK
    unfold edV at hK ⊢
    clear hI hpre
    gi_wp2
    exact hK _ _ ((Below.refl _ W).alloc (Nat.le_refl _) _) ⟨W.heap.size, heap_alloc_new W _, rfl⟩
  case body =>
    rintro l' pre x a' W hl' hI ⟨Bx, hbi, rfl⟩ hpre
    unfold edV
    obtain ⟨d0, d1, d2⟩ := box3 hbi
    obtain ⟨v, hbv, hov⟩ := hI.row
    have cK := hbv.cell
    have hx := pre_mem9 hpre
    obtain ⟨hxa, g, off, eA, hg⟩ := edges_of HA.out hx
    have hlen : pre.length + 1 ≤ 1000000 := by
      have h9 := hpre.length_le
      have := HN.out.1
      have := HN.out.2
      rw [List.length_append, List.length_singleton] at h9
      omega
    have hsrc : Src9 EdP w (W.alloc (.cells #[.int .i64 x.fr, .int .i64 x.mark, .int .i64 x.to] 44)) (.slice (some ⟨W.heap.size, 0, none⟩) 1 1) [x] := OwnR.src (OwnR.lit EdP.cells W [.int .i64 x.fr, .int .i64 x.mark, .int .i64 x.to] x ⟨rfl, hxa⟩)
    have HRun := Lib.hid (app9 (p := Try.prog) (t := 30) EdP.cells (by decide) Try.underlying30 infoE rfl (by decide) (hov.below ((Below.refl _ W).alloc (Nat.le_refl _) (.cells #[.int .i64 x.fr, .int .i64 x.mark, .int .i64 x.to] 44))) hsrc (by have := hI.size; simp; omega) hlen)
    have HI := Lib.hid (And.intro hI hbv)
    have HS := Lib.hid (show ∀ i, blkS A i → i < K + 1 ∧ i ≠ K from fun i hi => by
      obtain ⟨a, ea, eb⟩ := hi
      rw [eA] at ea
      cases ea
      simp only at eb
      omega)
    clear hI hbv hov hlen hsrc hx hxa eA hg hbi hpre
    gi_wp2_with (gi_at_builtin; refine wli_app rfl _ _ 30 rfl _ _ rfl rfl _ HRun.out ?_; rintro v5 w5 h5; obtain ⟨A5, k5, rfl, -, -⟩ := h5.form; obtain ⟨s1, s2, s3⟩ := HI.out.1.hit (by omega) (by omega) (by omega) HI.out.2 h5 HS.out; have c5 := s1.cell; have f5 := s1.frozen; simp only [List.length_append, List.length_cons, List.length_nil, Nat.zero_add] at s2 s3; have HE := Lib.hid (And.intro s2 s3); clear s1 s2 s3 h5)
    exact ⟨HE.out.1, HE.out.2⟩
  case done =>
    rintro D W hD hI hK
    obtain ⟨v, hbv, hov⟩ := hI.row
    have cK := hbv.cell
    have HI := Lib.hid (And.intro (gather_end hI hov (by omega) (by omega) hK) hK)
    clear hI hbv hov hK
    gi_wp2
    refine ⟨by simp, .inl ⟨_, _, rfl, run_takeDeferred HI.out.2, ?_⟩⟩
    exact ⟨_, results_tmp rfl _ _ _, v, rfl, HI.out.1.1, HI.out.1.2⟩
  case stop =>
    rintro D c pre W hD hpre hI hK
    exact hI.elim
set_option maxHeartbeats 4000000 in
theorem collect_any (A : Option Addr) (len cap Bp : Nat) (l : List Ed) (w : World) (hl : Edges9 w (.slice A len cap) l) (hBp : w.heap[Bp]? = some (.cells #[.slice A len cap] 30 (0, 0))) (hsm : len ≤ 100000) :
    Calls Try.prog 47 #[.func (.func 48) #[] #[.pointer (some ⟨Bp, 0, none⟩)]] w fun e W' => ∃ v', e = .returned v' ∧ OwnR 3 44 EdP w W' w.heap.size v' l ∧ Below w.heap.size w W' := by
  have HS := Lib.hid (callsIn_wide.1 (seq_in 3 (Nat.le_refl _) A len cap Bp l w hl hBp hsm))
  clear hl hBp
  go_enter Try.func47, Try.ntmps47
  go_wp2_with (go_at_call 64; refine (HS.out).mono ?_; rintro e w7 ⟨v7, rfl, h1, h2⟩; have H7 := Lib.hid (And.intro h1 h2); clear h1 h2)
  go_ret
  exact ⟨_, rfl, H7.out.1, H7.out.2⟩
set_option maxHeartbeats 4000000 in
theorem sortedFunc_any (A : Option Addr) (len cap Bp : Nat) (l : List Ed) (w : World) (hl : Edges9 w (.slice A len cap) l) (hBp : w.heap[Bp]? = some (.cells #[.slice A len cap] 30 (0, 0))) (hsm : len ≤ 100000) :
    Calls Try.prog 29 #[.func (.func 48) #[] #[.pointer (some ⟨Bp, 0, none⟩)], .func (.func 31) #[] #[]] w fun e W' => ∃ v', e = .returned v' ∧ OwnR 3 44 EdP w W' w.heap.size v' (sortE l) ∧ Below w.heap.size w W' := by
  have HS := Lib.hid (collect_any A len cap Bp l w hl hBp hsm)
  have HN := Lib.hid (And.intro (SlAt.get hl).1 hsm)
  clear hl hBp hsm
  go_enter Try.func29, Try.ntmps29
  go_wp2_with (first
    | (go_at_call 47; refine (HS.out).mono ?_; rintro e w7 ⟨v7, rfl, h1, h2⟩; have H7 := Lib.hid (And.intro h1 h2); have H8 := Lib.hid (sorte_any h1 (by have := HN.out.1; have := HN.out.2; omega)); clear h1 h2)
    | (go_at_call 43; refine (H8.out).mono ?_; rintro e w8 ⟨rfl, h1, h2⟩; have H9 := Lib.hid (And.intro h1 h2); clear h1 h2))
  go_ret
  exact ⟨_, rfl, H9.out.1, H7.out.2.grown H9.out.2 H7.out.2.size (fun k e => (H7.out.1.blk e).1)⟩
end Go.Proofs.Ytfiockconbaniaa
