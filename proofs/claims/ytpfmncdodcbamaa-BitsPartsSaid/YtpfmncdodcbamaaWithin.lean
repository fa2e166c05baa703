/- bits.Within; the document's own Parts. -/
import Derived.Test.YtpfmncdodcbamaaLawAdds
namespace Go.Proofs.Ytpfmncdodcbamaa
open Go.RowKit Go.Proofs Go.Shelf

attribute [local go_sem] Oper.semAt_some

/-- Are all of a's numbers in b? -/
def subB (a b : List Int) : Bool := a.all (fun x => hasB b x)
def cntA (l : List Fnd) : Nat := (sel (fun x _ => x) l).length
theorem cntA_snoc (l : List Fnd) (f : Fnd) : cntA (l ++ [f]) = cntA l + if f.2.1 then 1 else 0 := by
  unfold cntA
  cases h : f.2.1 with
  | true => rw [sel_hit (fun x _ => x) l f h]; simp
  | false => rw [sel_miss (fun x _ => x) l f h]; simp
theorem cntA_mrg {a b : List Int} (ha : isSet a = true) (hb : isSet b = true) : cntA (mrg a b) = a.length := by
  obtain ⟨h1, h2⟩ := sel_set ha hb (fun x _ => x)
  unfold cntA
  rw [set_ext h1 ha (fun x => by rw [h2 x]; simp; intro h; exact .inl h)]
theorem cntA_pre {l m : List Fnd} (h : l <+: m) : cntA l ≤ cntA m := by
  obtain ⟨r, rfl⟩ := h
  simp [cntA, sel]
theorem cntA_app (l m : List Fnd) : cntA (l ++ m) = cntA l + cntA m := by simp [cntA, sel]
/-- All that came is in b, and nothing of a is left: a is within b. -/
theorem sub_yes {a b : List Int} {pre : List Fnd} (ha : isSet a = true) (hb : isSet b = true) (hp : pre <+: mrg a b) (hall : ∀ f ∈ pre, f.2.2 = true) (hc : cntA pre = a.length) : subB a b = true := by
  obtain ⟨r, hr⟩ := hp
  have hspec := mrg_spec a b ((isSet_iff a).1 ha).1 ((isSet_iff b).1 hb).1
  have h0 : cntA r = 0 := by
    have := cntA_mrg ha hb
    rw [← hr, cntA_app] at this
    omega
  unfold subB
  rw [List.all_eq_true]
  intro x hx
  obtain ⟨f, hf, rfl⟩ := hspec.2.2.1 x (.inl hx)
  obtain ⟨_, h2, h3⟩ := hspec.2.1 f hf
  rw [← hr] at hf
  rcases List.mem_append.1 hf with h | h
  · have := hall f h
    rw [h3, decide_eq_true_iff] at this
    exact (hasB_iff b f.1).2 this
  · exfalso
    have hfa : f.2.1 = true := by rw [h2]; simpa using hx
    have : f ∈ r.filter (fun f => f.2.1) := List.mem_filter.2 ⟨h, hfa⟩
    simp only [cntA, sel, List.length_map] at h0
    rw [List.eq_nil_of_length_eq_zero h0] at this
    cases this
theorem sub_no {a b : List Int} {f : Fnd} (ha : isSet a = true) (hb : isSet b = true) (hp : f ∈ mrg a b) (hf : f.2.2 = false) : subB a b = false := by
  have hspec := mrg_spec a b ((isSet_iff a).1 ha).1 ((isSet_iff b).1 hb).1
  obtain ⟨h1, h2, h3⟩ := hspec.2.1 f hp
  rw [h3, decide_eq_false_iff_not] at hf
  have hfa : f.1 ∈ a := h1.resolve_right hf
  unfold subB
  rw [List.all_eq_false]
  refine ⟨f.1, hfa, ?_⟩
  intro h
  exact hf ((hasB_iff b f.1).1 h)

def AllIn (pre : List Fnd) : Prop := ∀ f ∈ pre, f.2.2 = true
/-- The loop was left: what is left of a is v; either nothing, or the last one is not in b. -/
def LeftAt (na B : Nat) (c : Code) (pre : List Fnd) (W : World) : Prop :=
  ∃ v : Int, c = .exit 0 ∧ Boxed W B 3 (.int .i64 v) ∧ (∃ q f, pre = q ++ [f] ∧ v = (na : Int) - cntA q ∧ AllIn q ∧ (v = 0 ∨ v ≠ 0 ∧ f.2.2 = false))

set_option maxRecDepth 100000 in
set_option maxHeartbeats 4000000 in
theorem within_in (n : Nat) (hn : 3 ≤ n) (A A' : Option Addr) (na ca nb cb : Nat) (a b : List Int) (w : World) (hA : Ints w w.heap.size A na ca a) (hA' : Ints w w.heap.size A' nb cb b) (ha : isSet a = true) (hb : isSet b = true) :
    CallsIn Fence.wide n Try.prog 23 #[.slice A na ca, .slice A' nb cb] w fun e W' => e = .returned (.tuple #[.bool (subB a b), .int .i64 0]) ∧ Below w.heap.size w W' := by
  have h1 : 1 ≤ n := by omega
  have hna : na ≤ 281474976710656 := hA.2.2.1.1
  have hlen := hA.1
  have hcnt := cntA_mrg ha hb
  have hs2 : (isSet a && isSet b) = true := by rw [ha, hb]; rfl
  have HA := Lib.hid (allRight_any _ 2 2 _ [a, b] _ (mat2 (t := 22) hA hA'))
  have hall : [a, b].all isSet = true := by simp [ha, hb]
  rw [hall] at HA
  have HL := Lib.hid (And.intro hlen (And.intro hcnt (And.intro ha hb)))
  have hW1 := below1 w (.cells #[.slice A na ca, .slice A' nb cb] 22)
  have HI := Lib.hid (And.intro hA hA')
  clear hs2 hall hlen hcnt ha hb hA hA' hW1
  refine callsIn_of_wp_marks Try.func23 rfl trivial ?_ rfl
  simp only [Try.ntmps23, List.size_toArray, List.length_cons, List.length_nil, Nat.reduceAdd, Nat.reduceSub, Array.replicate_succ, Array.replicate_zero, List.push_toArray, List.append_toArray, List.nil_append, List.cons_append]
  gi_wp2_with fail
  refine wpIn_wide.2 (wp_scope_straight ((wpIn_wide (n := n)).1 ?_))
  gi_wp2_with (refine ⟨trivial, ?_⟩; gi_at_call 29; refine (callsIn_wide.2 HA.out).mono ?_; rintro e w' ⟨rfl, rfl⟩)
  refine wpIn_label ?_
  gi_wp2_with (refine ⟨trivial, ?_⟩; gi_at_call 36; refine (merged_in (n - 1) A A' na ca nb cb _).mono ?_; rintro e w' ⟨rfl, rfl⟩)
  have bL := ((Boxed.new (w.alloc (.cells #[.slice A na ca, .slice A' nb cb] 22)) 3 (.int .i64 na)).alloc (.cells #[.slice A na ca] 22)).alloc (.cells #[.slice A' nb cb] 22)
  have bA := (Boxed.new ((w.alloc (.cells #[.slice A na ca, .slice A' nb cb] 22)).alloc (.cells #[.int .i64 na] 3)) 22 (.slice A na ca)).alloc (.cells #[.slice A' nb cb] 22)
  have bB := Boxed.new (((w.alloc (.cells #[.slice A na ca, .slice A' nb cb] 22)).alloc (.cells #[.int .i64 na] 3)).alloc (.cells #[.slice A na ca] 22)) 22 (.slice A' nb cb)
  simp only [World.size_alloc] at bL bA bB
  have hB0 : Below w.heap.size w ((((w.alloc (.cells #[.slice A na ca, .slice A' nb cb] 22)).alloc (.cells #[.int .i64 na] 3)).alloc (.cells #[.slice A na ca] 22)).alloc (.cells #[.slice A' nb cb] 22)) :=
    ((((Below.refl _ w).alloc (Nat.le_refl _) _).alloc (by simp) _).alloc (by simp; omega) _).alloc (by simp; omega) _
  have hsz : ((((w.alloc (.cells #[.slice A na ca, .slice A' nb cb] 22)).alloc (.cells #[.int .i64 na] 3)).alloc (.cells #[.slice A na ca] 22)).alloc (.cells #[.slice A' nb cb] 22)).heap.size = w.heap.size + 4 := by simp
  obtain ⟨W0, hW0⟩ : ∃ W0, ((((w.alloc (.cells #[.slice A na ca, .slice A' nb cb] 22)).alloc (.cells #[.int .i64 na] 3)).alloc (.cells #[.slice A na ca] 22)).alloc (.cells #[.slice A' nb cb] 22)) = W0 := ⟨_, rfl⟩
  rw [hW0] at bL bA bB hB0 hsz ⊢
  clear hW0
  refine wpIn_rangeFunc_ownH rfl h1 (gf := 41) (lb := #[.pointer (some ⟨w.heap.size + 1 + 1, 0, none⟩), .pointer (some ⟨w.heap.size + 1 + 1 + 1, 0, none⟩)]) rfl trivial (enters_of Try.func41 (by kernel_rfl) rfl)
    (merged_stops (n - 1) (by omega) (w.heap.size + 1 + 1) (w.heap.size + 1 + 1 + 1) (w.heap.size + 1) w.heap.size (by omega) (by omega) A A' na ca nb cb a b W0 bA bB (by omega) (by omega) (HI.out.1.below hB0) (HI.out.2.below hB0))
    KpM.trans (KpM.book (by omega)) (Below.refl _ _) (fun _ => rfl)
    (fun pre W => (Boxed W (w.heap.size + 1) 3 (.int .i64 ((na : Int) - cntA pre)) ∧ AllIn pre) ∧ Below w.heap.size w W)
    (fun c pre W => LeftAt na (w.heap.size + 1) c pre W ∧ Below w.heap.size w W)
    (OwnFrom.and (OwnFrom.and (Own.from (boxed_own _ _ _) _) (ownFrom_pure _ _)) (ownFrom_below (Nat.le_refl _) (by omega)))
    (fun c => OwnFrom.and (fun s X Y row hs hg hr => by
      obtain ⟨v, g1, g2, g3⟩ := hs
      exact ⟨v, g1, boxed_own (w.heap.size + 1) 3 (fun (_ : Unit) => Value.int .i64 v) () X Y row g2 hg (fun r e => (hr r e).2), g3⟩) (ownFrom_below (Nat.le_refl _) (by omega)))
    ⟨⟨by simpa [cntA, sel] using bL, by simp [AllIn]⟩, hB0⟩
    (fun x a' W => ∃ Bx, w.heap.size + 1 < Bx ∧ W.heap[Bx]? = some (.cells #[.int .i64 x.1, .bool x.2.1, .bool x.2.2] 52 (0, 0)) ∧
      a' = { tmps := #[.slice A na ca, .slice A' nb cb, undef, undef, .bool false, .int .i64 0, .pointer (some ⟨w.heap.size + 1, 0, none⟩), .pointer (some ⟨Bx, 0, none⟩), .slice A na ca, .slice A' nb cb, .slice (some ⟨w.heap.size, 0, none⟩) 2 2, .bool true, .bool false, .slice A na ca, .int .i64 na, .slice A na ca, .slice A' nb cb, .func (.func 41) #[] #[.pointer (some ⟨w.heap.size + 1 + 1, 0, none⟩), .pointer (some ⟨w.heap.size + 1 + 1 + 1, 0, none⟩)], .agg #[.int .i64 x.1, .bool x.2.1, .bool x.2.2], undef, undef, undef, undef, undef, undef, undef, undef, undef, undef, undef, undef, undef], defers := [] })
    (fun x a' _ X Y row hs hg hr => by
      obtain ⟨Bx, g1, g2, g3⟩ := hs
      exact ⟨Bx, g1, (hg.block Bx (Array.getElem?_eq_some_iff.1 g2).1 (fun e => by obtain ⟨_, o, ho, hc⟩ := hr Bx e.symm; rw [g2] at ho; cases ho; cases hc)).trans g2, g3⟩)
    ?assign ?body ?done ?stop
  case assign =>
    rintro l pre x W K ⟨⟨bL1, hin⟩, hB1⟩ hK
    gi_wp2
    exact hK _ _ ((KeepsOthers.alloc _ _).from _) (KpM.alloc W hB1.size _) ⟨⟨bL1.alloc _, hin⟩, hB1.alloc hB1.size _⟩ ⟨W.heap.size, bL1.lt, heap_alloc_new W _, rfl⟩
  case body =>
    rintro l pre x a' W hl ⟨r, hr⟩ ⟨⟨bL1, hin⟩, hB1⟩ ⟨Bx, hBx, hblk, rfl⟩ hlt
    obtain ⟨z, x1, x2⟩ := x
    have HIn := Lib.hid hin
    clear hin
    have hcl : cntA pre ≤ pre.length := by unfold cntA; exact sel_len _ _
    generalize hcv : (na : Int) - cntA pre = lv at bL1
    have HV := Lib.hid hcv
    have cL := bL1.cell
    have fL := bL1.frozen
    have c1 : W.cell? ⟨Bx, 1, none⟩ = some (.bool x1) := cell_of_row W Bx 1 _ _ _ hblk
    have c2 : W.cell? ⟨Bx, 2, none⟩ = some (.bool x2) := cell_of_row W Bx 2 _ _ _ hblk
    have hlo : -17592186044415 ≤ lv := by
      have := mrg_len HL.out.2.2.1 HL.out.2.2.2
      omega
    have hhi : lv ≤ 281474976710656 := by omega
    clear hcv
    by_cases h0 : lv = 0
    · have hq : (lv == 0) = true := by simpa using h0
      have H0 := Lib.hid h0
      clear h0
      gi_wp2
      exact ⟨KeepsFrom.refl _ _, ⟨lv, rfl, bL1, pre, (z, x1, x2), rfl, HV.out.symm, HIn.out, .inl H0.out⟩, hB1⟩
    · have hq : (lv == 0) = false := by simpa using h0
      have H0 := Lib.hid h0
      clear h0
      cases x2 with
      | false =>
        gi_wp2
        exact ⟨KeepsFrom.refl _ _, ⟨lv, rfl, bL1, pre, (z, x1, false), rfl, HV.out.symm, HIn.out, .inr ⟨H0.out, rfl⟩⟩, hB1⟩
      | true =>
        have hin' : AllIn (pre ++ [(z, x1, true)]) := fun f hf => by
          rcases List.mem_append.1 hf with h | h
          · exact HIn.out f h
          · obtain rfl : f = (z, x1, true) := by simpa using h
            rfl
        have HN := Lib.hid hin'
        have hcs := cntA_snoc pre (z, x1, true)
        have HC := Lib.hid hcs
        clear hin' hcs
        cases x1 with
        | false =>
          gi_wp2
          exact ⟨KeepsFrom.refl _ _, KpM.refl _ _ _, ⟨by rw [HC.out]; simpa [HV.out] using bL1, HN.out⟩, hB1⟩
        | true =>
          gi_wp2
          refine ⟨(KeepsOthers.setCell _ _ _).from _, KpM.setBox _ (by omega) _, ⟨?_, HN.out⟩, hB1.setCell (p := ⟨w.heap.size + 1, 0, none⟩) (by simp) _⟩
          have e : (na : Int) - cntA (pre ++ [(z, true, true)]) = lv - 1 := by
            rw [HC.out]
            have := HV.out
            simp
            omega
          rw [e]
          exact bL1.set _
  case done =>
    rintro D ys W hD rfl ⟨⟨bL1, hin⟩, hB1⟩ hK
    have hz : (na : Int) - cntA (mrg a b) = 0 := by rw [HL.out.2.1, ← HL.out.1]; omega
    rw [hz] at bL1
    have cL := bL1.cell
    have HR := Lib.hid (sub_yes HL.out.2.2.1 HL.out.2.2.2 (List.prefix_refl _) hin HL.out.2.1)
    clear hin hz
    gi_wp2
    rw [Exit.noGoto_ret]
    refine ⟨by simp, .inl ⟨_, _, rfl, run_takeDeferred hK, ?_⟩⟩
    exact ⟨_, results_tmp2 rfl _ _ _, by rw [HR.out]; rfl, hB1.trans (belowK_b (w := w) (Nat.le_refl _) W D _ _ (by omega) hK rfl rfl)⟩
  case stop =>
    rintro D c pre W hD hpre ⟨⟨v, rfl, bL1, q, f, rfl, hv, hin, hor⟩, hB1⟩ hK
    have cL := bL1.cell
    have hres : (v == 0) = subB a b := by
      have hqp : q <+: mrg a b := (List.prefix_append q [f]).trans hpre
      rcases hor with rfl | ⟨h0, hf⟩
      · rw [sub_yes HL.out.2.2.1 HL.out.2.2.2 hqp hin (by have := HL.out.1; omega)]
        rfl
      · obtain ⟨r, hr⟩ := hpre
        rw [sub_no HL.out.2.2.1 HL.out.2.2.2 (f := f) (by rw [← hr]; simp) hf]
        simpa using h0
    have HR := Lib.hid hres
    clear hres hor hv hin
    gi_wp2
    rw [Exit.noGoto_ret]
    refine ⟨by simp, .inl ⟨_, _, rfl, run_takeDeferred hK, ?_⟩⟩
    exact ⟨_, results_tmp2 rfl _ _ _, by rw [← HR.out]; rfl, hB1.trans (belowK_b (w := w) (Nat.le_refl _) W D _ _ (by omega) hK rfl rfl)⟩
end Go.Proofs.Ytpfmncdodcbamaa
