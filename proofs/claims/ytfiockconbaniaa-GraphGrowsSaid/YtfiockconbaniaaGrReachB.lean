/- graph.Reached, walked. -/
import Derived.Test.YtfiockconbaniaaGrReachA
import Derived.OwnWalkIn
import Derived.Carry
import Derived.Sort.CutIn
namespace Go.Proofs.Ytfiockconbaniaa
set_option linter.unusedSimpArgs false
set_option linter.unusedVariables false
open Go.RowKit Go.Proofs Go.Maps Go.Shelf

attribute [local go_sem] Oper.semAt_some
theorem eds_drop {W : World} {g off n c k : Nat} {l : List Ed} (h : Edges9 W (.slice (some ⟨g, off, none⟩) n c) l) (hk : k ≤ n) (hc : k < c) : Edges9 W (.slice (some ⟨g, off + k * 3, none⟩) (n - k) (c - k)) (l.drop k) := by
  obtain ⟨A, cap, e, ⟨h1, h2⟩, h3⟩ := h
  injection e with e1 e2 e3
  subst e1 e2 e3
  refine ⟨_, _, by rw [List.length_drop], ⟨by rw [List.length_drop]; omega, by omega⟩, fun h0 => ?_⟩
  rw [List.length_drop] at h0
  obtain ⟨g', off', e, hg, hx⟩ := h3 (by omega)
  injection e with e
  injection e with e4 e5
  subst e4 e5
  refine ⟨g, off + k * 3, rfl, hg, fun i x hi => ?_⟩
  rw [List.getElem?_drop] at hi
  obtain ⟨cs, h5, h6⟩ := hx (k + i) x hi
  refine ⟨cs, h5, fun j hj => ?_⟩
  rw [← h6 j hj, show off + k * 3 + i * 3 + j = off + (k + i) * 3 + j by omega]
theorem eds_none {W : World} {A : Option Addr} : Edges9 W (.slice A 0 0) [] := ⟨A, 0, rfl, ⟨Nat.le_refl _, by unfold maxLen; omega⟩, fun h => absurd h (by simp)⟩
set_option maxRecDepth 100000 in
set_option maxHeartbeats 8000000 in
theorem reached_in (n : Nat) (hn : 8 ≤ n) (A : Option Addr) (len cap : Nat) (l : List Ed) (w : World) (hl : Edges9 w (.slice A len cap) l) (hsm : len ≤ 1000) :
    CallsIn Fence.wide n Try.prog 14 #[.slice A len cap] w fun e W' => ∃ v, e = .returned v ∧ ∃ cur, OutI w W' v cur ∧ IsReach (prE l) cur := by
  have h1 : 1 ≤ n := by omega
  have h2 : 1 ≤ n - 1 - 1 := by omega
  obtain ⟨hnl, hca, hcm, -⟩ := SlAt.get hl
  have hal : Below w.heap.size w (w.alloc (.cells #[.slice A len cap] 30)) := (Below.refl _ w).alloc (Nat.le_refl _) _
  have hbx := heap_alloc_new w (.cells #[.slice A len cap] 30)
  obtain ⟨w1, e1⟩ : ∃ x, w.alloc (.cells #[.slice A len cap] 30) = x := ⟨_, rfl⟩
  have hz1 : w1.heap.size = w.heap.size + 1 := by rw [← e1]; simp
  rw [e1] at hal hbx
  have HS := Lib.hid (sortedFunc_any A len cap w.heap.size l w1 (hl.below EdP.keeps hal) hbx (by omega))
  have HE1 := Lib.hid e1
  have H1 := Lib.hid (And.intro hal hz1)
  have HL := Lib.hid (And.intro hl (And.intro hnl hsm))
  have hmm := @run_makeMap Try.prog
  clear hl hal hbx e1 hz1 hnl hsm hca hcm
  refine callsIn_of_wp_marks Try.func14 rfl trivial ?_ rfl
  simp only [Try.ntmps14, List.size_toArray, List.length_cons, List.length_nil, Nat.reduceAdd, Nat.reduceSub, Array.replicate_succ, Array.replicate_zero, List.push_toArray, List.append_toArray, List.nil_append, List.cons_append]
  gi_wp2_with fail
  refine wpIn_wide.2 (wp_scope_straight ((wpIn_wide (n := n)).1 ?_))
  gi_wp2_with fail
  refine ⟨trivial, ?_⟩
  gi_at_call 30
  refine (vals_in (n - 1) A len cap _).mono ?_
  rintro e w' ⟨rfl, rfl⟩
  rw [HE1.out]
  gi_wp2_with fail
  refine ⟨trivial, ?_⟩
  gi_at_call 29
  refine (callsIn_wide.2 HS.out).mono ?_
  rintro e w2 ⟨v2, rfl, ho2, hb2⟩
  obtain ⟨A2, c2, rfl, hc2, hm2⟩ := ho2.form
  rw [sortE_len] at hc2 ⊢
  obtain ⟨N, eN⟩ : ∃ N, w2.heap.size = N := ⟨_, rfl⟩
  have hb3 : Below w.heap.size w w2 := H1.out.1.trans (hb2.mono (by have := H1.out.2; omega))
  have hed := ho2.at_ EdP.cells EdP.keeps hb2
  rw [sortE_len] at hed
  have hA2 : A2 = none ∧ c2 = 0 ∨ ∃ g, A2 = some ⟨g, 0, none⟩ ∧ g < w2.heap.size := by
    obtain ⟨L, -, -, ho⟩ := ho2
    rcases ho.2 with ⟨e9, -⟩ | ⟨g, cap9, cur, e9, -, hg9, -⟩
    · injection e9 with e1 e2 e3
      exact .inl ⟨e1, e3⟩
    · injection e9 with e1 e2 e3
      exact .inr ⟨g, e1, (Array.getElem?_eq_some_iff.1 hg9).1⟩
  have HC := Lib.hid (show ∀ (W : World), Edges9 W (.slice A2 l.length c2) (sortE l) → ∀ kk, kk ≤ l.length → ¬ c2 = kk → Edges9 W (.slice (Option.map (fun x => x.add (kk * 3)) A2) (l.length - kk) (c2 - kk)) ((sortE l).drop kk) from fun W hW kk hkk hne => by
    rcases hA2 with ⟨-, h0⟩ | ⟨g, rfl, -⟩
    · omega
    · rw [Option.map_some, add_none9]
      exact eds_drop hW hkk (by omega))
  have HG := Lib.hid (show ∀ (kk i : Nat), blkS (Option.map (fun x => x.add (kk * 3)) A2) i → (sortE l).drop kk ≠ [] → i < N from fun kk i hi _ => by
    obtain ⟨a, ea, eb⟩ := hi
    rcases hA2 with ⟨rfl, -⟩ | ⟨g, rfl, hg⟩
    · cases ea
    · rw [Option.map_some, add_none9] at ea
      cases ea
      simp only at eb
      omega)
  have H2 := Lib.hid (And.intro hed (And.intro hb3 eN))
  clear hA2
  have hm2' : c2 ≤ 9223372036854775807 := hm2
  obtain ⟨w3, hr3, hm3, hg3⟩ := (MetAt.new w2).put (x := 0) (by unfold I64; omega) (by simp) (by simp)
  rw [eN] at hr3 hm3 hg3
  have H3 := Lib.hid (And.intro hm3 hg3)
  clear ho2 hb2 hed hb3 hm2 hm3 hg3
  gi_upto_region 3 with fail
  obtain ⟨Bm, eBm⟩ : ∃ x, w3.heap.size = x := ⟨_, rfl⟩
  have hal4 : Below w3.heap.size w3 (w3.alloc (.cells #[.map (some N)] 65)) := (Below.refl _ w3).alloc (Nat.le_refl _) _
  have bm4 := Boxed.new w3 65 (.map (some N))
  obtain ⟨w4, e4⟩ : ∃ x, w3.alloc (.cells #[.map (some N)] 65) = x := ⟨_, rfl⟩
  have z4 : w4.heap.size = Bm + 1 := by rw [← e4, ← eBm]; simp
  rw [e4] at hal4 bm4 ⊢
  rw [eBm] at hal4 bm4 ⊢
  have hN3 : N < Bm := by have := H3.out.1.lt; omega
  have hm4 := H3.out.1.keep (hal4.block N (by omega))
  have hb4 : Below N w2 w4 := by
    have h0 : Below N w2 (w2.alloc (.map #[] 0)) := ((Below.refl _ w2).alloc (by omega) _)
    exact (h0.grown H3.out.2 (by simp; omega) (fun k e => by cases e; exact Nat.le_refl _)).trans (hal4.mono (by omega))
  have H4 := Lib.hid (And.intro hm4 (And.intro hb4 bm4))
  have HN5 := Lib.hid (newf_any w4)
  clear hal4 bm4 e4 hm4 hb4 H3 hr3 hmm
  gi_wp2_with fail
  refine ⟨trivial, ?_⟩
  gi_at_call 32
  refine (callsIn_wide.2 HN5.out).mono ?_
  rintro e w5 ⟨rfl, hq5, hb5⟩
  rw [z4] at hq5 hb5 ⊢
  gi_upto_region 4 with fail
  have hal6 : Below w5.heap.size w5 (w5.alloc (.cells #[.pointer (some ⟨Bm + 1 + 1, 0, none⟩)] 66)) := (Below.refl _ w5).alloc (Nat.le_refl _) _
  have bq6 := Boxed.new w5 66 (.pointer (some ⟨Bm + 1 + 1, 0, none⟩))
  obtain ⟨w6, e6⟩ : ∃ x, w5.alloc (.cells #[.pointer (some ⟨Bm + 1 + 1, 0, none⟩)] 66) = x := ⟨_, rfl⟩
  obtain ⟨Bq, eBq⟩ : ∃ x, w5.heap.size = x := ⟨_, rfl⟩
  have z6 : w6.heap.size = Bq + 1 := by rw [← e6, ← eBq]; simp
  rw [e6] at hal6 bq6 ⊢
  rw [eBq] at hal6 bq6 ⊢
  have hz5 : Bm + 1 + 1 < Bq := by rw [← eBq]; exact hq5.lt _ ⟨by omega, by obtain ⟨_, _, _, _, _, h, _⟩ := hq5; exact h.2⟩
  have hq6 : IsFp w6 (Bm + 1) (fun i => i = Bq) (Bm + 1 + 1) 0 [] := by
    obtain ⟨F', h5, h6⟩ := hq5.shrink
    have h7 : IsFp w5 (Bm + 1) (fun _ => False) (Bm + 1 + 1) 0 [] := ⟨F', h5, fun i hi => ⟨(h6 i hi).1.1, fun h => h, (h6 i hi).2⟩⟩
    exact h7.below (by rw [eBq]; exact hal6) (fun i hi => .inr (by omega))
  have hb6 : Below (Bm + 1) w4 w6 := hb5.trans (hal6.mono (by omega))
  have cq := bq6.cell
  have HP := Lib.hid (push_p hq6 (x := 0) (by unfold I64; omega) (by simp) (by omega) (by simp) (by omega) (fun i hi => by omega))
  have H6 := Lib.hid (And.intro hb6 (And.intro bq6 hz5))
  clear hal6 bq6 e6 hq5 hb5 hq6 hb6
  gi_wp2_with fail
  refine ⟨trivial, ?_⟩
  gi_at_call 33
  refine (callsIn_wide.2 HP.out).mono ?_
  rintro e w7 ⟨rfl, hq7, hr7⟩
  have HR7 := Lib.hid (show Rs w2 w7 N Bm (Bm + 1) (Bm + 1 + 1) Bq (fun i => i = Bq) [0] [0] from by
    have hb7 : Below (Bm + 1) w4 w7 := ⟨hr7.os.trans H6.out.1.os, hr7.tape.trans H6.out.1.tape, hr7.output.trans H6.out.1.output, Nat.le_trans H6.out.1.size hr7.size, fun i hi => (hr7.keep i (by have := H6.out.1.size; omega) (.inl (.inl hi))).trans (H6.out.1.block i hi)⟩
    exact ⟨H4.out.2.1.trans (hb7.mono (by omega)), (hb7.block Bm (by omega)).trans H4.out.2.2, (hr7.keep _ H6.out.2.1.lt (.inl (.inr rfl))).trans H6.out.2.1, H4.out.1.keep (hb7.block N (by omega)), hq7, rfl, by omega, by omega, by have := hb7.size; omega⟩)
  clear hq7 hr7 HP H6 H4 HN5
  gi_wp2_with fail
  refine wpIn_label ?_
  gi_wp2_with fail
  obtain ⟨inv, hinv⟩ : ∃ inv : Nat → Act → World → Prop, inv = (fun m a' wr => ∃ (met xs : List Int) (Ds : List Nat) (u5 u6 u7 u8 u9 u10 u11 u12 u13 u14 u15 u16 u17 u18 u19 u20 u21 u22 u23 u24 u25 u26 u27 u28 u29 u30 u31 u32 u33 u34 u35 u36 u37 u38 u39 u40 u41 u42 u43 u44 u45 u46 u47 u48 u49 u50 u51 u52 u53 u54 u55 u56 u57 u58 u59 u60 u61 u62 : Value), (Rs w2 wr N Bm (Bm + 1) (Bm + 1 + 1) Bq (fun i => i = Bq) met xs ∧ Lg (sortE l) met xs ∧ (Ds.Nodup ∧ ∀ D ∈ Ds, wr.heap[D]? = some (.deferred (some [])) ∧ N ≤ D) ∧ muR (sortE l) met xs ≤ m ∧
    a' = { tmps := (.slice A2 l.length c2 :: undef :: .slice none 0 0 :: .pointer (some ⟨Bm, 0, none⟩) :: .pointer (some ⟨Bq, 0, none⟩) :: u5 :: u6 :: u7 :: u8 :: u9 :: u10 :: u11 :: u12 :: u13 :: u14 :: u15 :: u16 :: u17 :: u18 :: u19 :: u20 :: u21 :: u22 :: u23 :: u24 :: u25 :: u26 :: u27 :: u28 :: u29 :: u30 :: u31 :: u32 :: u33 :: u34 :: u35 :: u36 :: u37 :: u38 :: u39 :: u40 :: u41 :: u42 :: u43 :: u44 :: u45 :: u46 :: u47 :: u48 :: u49 :: u50 :: u51 :: u52 :: u53 :: u54 :: u55 :: u56 :: u57 :: u58 :: u59 :: u60 :: u61 :: u62 :: []).toArray, defers := marks Ds })) := ⟨_, rfl⟩
  have HInv := Lib.hid hinv
  clear hinv
  refine loop_ghost inv ?_ (muR (sortE l) [0] [0]) _ _ (by
      rw [HInv.out]
      refine ⟨[0], [0], [], ?_⟩
      (iterate 58 apply Exists.intro)
      exact ⟨HR7.out, ⟨by simp, fun x hx => (by obtain rfl := List.mem_singleton.1 hx; exact .zero), fun x hx => hx, fun x hx hn => absurd hx hn⟩, ⟨by simp, fun D hD => by cases hD⟩, Nat.le_refl _, rfl⟩)
  clear HR7
  intro m a' wr hI
  rw [HInv.out] at hI
  obtain ⟨met, xs, Ds, u5, u6, u7, u8, u9, u10, u11, u12, u13, u14, u15, u16, u17, u18, u19, u20, u21, u22, u23, u24, u25, u26, u27, u28, u29, u30, u31, u32, u33, u34, u35, u36, u37, u38, u39, u40, u41, u42, u43, u44, u45, u46, u47, u48, u49, u50, u51, u52, u53, u54, u55, u56, u57, u58, u59, u60, u61, u62, hRs, hLg, hDs, hmu, rfl⟩ := hI
  have HR := Lib.hid (And.intro hRs (And.intro hLg (And.intro hDs hmu)))
  have cm := hRs.bm.cell
  have cq := hRs.bq.cell
  have hmet := met_len (l := sortE l) (met := met) (by obtain ⟨D, -, h, -⟩ := hRs.mt; exact h) hLg.sound
  rw [sortE_len] at hmet
  have hl1 := HL.out.2.1
  have hl2 := HL.out.2.2
  cases xs with
  | nil =>
    have HP := Lib.hid (pop_e hRs.q)
    have lm := hRs.bm.lt
    clear hRs hLg hDs hmu
    gi_wp2_with fail
    refine ⟨trivial, ?_⟩
    gi_at_call 34
    refine (callsIn_wide.2 HP.out).mono ?_
    rintro e w1' ⟨rfl, rfl⟩
    gi_upto_region 6 with fail
    have hal8 : Below wr.heap.size wr (wr.alloc (.cells #[.int .i64 0] 3)) := (Below.refl _ wr).alloc (Nat.le_refl _) _
    obtain ⟨w8, e8⟩ : ∃ y, wr.alloc (.cells #[.int .i64 0] 3) = y := ⟨_, rfl⟩
    rw [e8] at hal8 ⊢
    have cm8 := (show Boxed w8 Bm 65 (.map (some N)) from (hal8.block _ lm).trans HR.out.1.bm).cell
    have HK := Lib.hid (sortedKeys_any (HR.out.1.mt.keep (hal8.block N HR.out.1.mt.lt)) (by omega))
    have H8 := Lib.hid hal8
    clear e8 hal8 HP
    gi_wp2_with (first
      | (refine ⟨trivial, ?_⟩; gi_at_call 36; refine (keys_in (n - 1) (some N) _).mono ?_; rintro e w' ⟨rfl, rfl⟩)
      | (refine ⟨trivial, ?_⟩; gi_at_call 35; refine (callsIn_wide.2 HK.out).mono ?_; rintro e w9 ⟨v9, rfl, ho9, hb9⟩; have H9 := Lib.hid (And.intro ho9 hb9); clear ho9 hb9))
    refine leaves_marks (by simp) Ds _ HR.out.2.2.1.1 (fun D hD => ?_) fun w' hw' => ?_
    · have e1 := (HR.out.2.2.1.2 D hD).1
      have e2 := (H8.out.block D (Array.getElem?_eq_some_iff.1 e1).1).trans e1
      exact (H9.out.2.block D (Array.getElem?_eq_some_iff.1 e2).1).trans e2
    · refine ⟨_, results_tmp rfl _ _ _, v9, rfl, setI met, ?_, reach_perm (fun x => (sortE_perm l).mem_iff) HR.out.2.1.reach⟩
      exact reach_out H2.out.2.1 H2.out.2.2 HR.out.1.low HR.out.1.mt.lt H8.out H9.out.1 H9.out.2 hw' (fun D hD => ⟨(HR.out.2.2.1.2 D hD).2, (Array.getElem?_eq_some_iff.1 (HR.out.2.2.1.2 D hD).1).1⟩)
  | cons x xs =>
    have HP := Lib.hid (pop_p hRs.q)
    clear hRs hLg hDs hmu
    gi_wp2_with fail
    refine ⟨trivial, ?_⟩
    gi_at_call 34
    refine (callsIn_wide.2 HP.out).mono ?_
    rintro e w1' ⟨rfl, hq1, hr1⟩
    have hR1 := HR.out.1.rd hr1 hq1
    have HRd := Lib.hid hr1
    clear hq1 hr1 HP
    gi_upto_region 6 with fail
    have hal8 : Below w1'.heap.size w1' (w1'.alloc (.cells #[.int .i64 x] 3)) := (Below.refl _ w1').alloc (Nat.le_refl _) _
    have b58 := Boxed.new w1' 3 (.int .i64 x)
    obtain ⟨w8, e8⟩ : ∃ y, w1'.alloc (.cells #[.int .i64 x] 3) = y := ⟨_, rfl⟩
    obtain ⟨B5, eB5⟩ : ∃ y, w1'.heap.size = y := ⟨_, rfl⟩
    have z8 : w8.heap.size = B5 + 1 := by rw [← e8, ← eB5]; simp
    rw [e8] at hal8 b58 ⊢
    have hR8 : Rs w2 w8 N Bm (Bm + 1) (Bm + 1 + 1) Bq (fun i => i = Bq ∨ i = B5) met xs := hR1.grown hal8 (fun i hi => hi.imp id fun h => by omega) (.inl rfl)
    rw [eB5] at hal8 b58 ⊢
    have cm8 := hR8.bm.cell
    have c58 := b58.cell
    have hed8 := H2.out.1.below EdP.keeps (show Below w2.heap.size w2 w8 by rw [H2.out.2.2]; exact hR8.low)
    have HSr := Lib.hid (search_any A2 l.length c2 (sortE l) x w8 hed8 (sortE_fr l) (by omega))
    have H8 := Lib.hid (And.intro hR8 (And.intro hal8 (And.intro b58 eB5)))
    clear e8 hal8 b58 hR8 hed8 hR1 eB5
    gi_wp2_with fail
    refine ⟨trivial, ?_⟩
    gi_at_call 37
    refine (callsIn_wide.2 HSr.out).mono ?_
    rintro e w9 ⟨kk, bb, rfl, hkk, hcut, hb9⟩
    have hR9 := H8.out.1.grown hb9 (X' := fun i => i = Bq ∨ i = B5) (fun i hi => .inl hi) (.inl rfl)
    have b59 : Boxed w9 B5 3 (.int .i64 x) := (hb9.block _ H8.out.2.2.1.lt).trans H8.out.2.2.1
    have hed9 := H2.out.1.below EdP.keeps (show Below w2.heap.size w2 w9 by rw [H2.out.2.2]; exact hR9.low)
    have c59 := b59.cell
    have cm9 := hR9.bm.cell
    have cq9 := hR9.bq.cell
    have H9 := Lib.hid (And.intro hR9 (And.intro b59 (And.intro hcut (And.intro hb9 hed9))))
    clear hb9 hR9 b59 hcut hed9 HSr
    gi_upto_region 9 with fail
    gi_wp2_with fail
    · have hck : c2 = kk := by assumption
      subst hck
      refine ⟨trivial, ?_⟩
      gi_at_call 30
      refine (vals_in (n - 1) A2 (l.length - c2) 0 _).mono ?_
      rintro e w' ⟨rfl, rfl⟩
      have hal10 : Below w9.heap.size w9 (w9.alloc (.cells #[.slice A2 (l.length - c2) 0] 30)) := (Below.refl _ w9).alloc (Nat.le_refl _) _
      have bp10 := heap_alloc_new w9 (.cells #[.slice A2 (l.length - c2) 0] 30)
      obtain ⟨w10, e10⟩ : ∃ y, w9.alloc (.cells #[.slice A2 (l.length - c2) 0] 30) = y := ⟨_, rfl⟩
      obtain ⟨Bp, eBp⟩ : ∃ y, w9.heap.size = y := ⟨_, rfl⟩
      rw [e10] at hal10 bp10 ⊢
      rw [eBp] at hal10 bp10 ⊢
      have hal10' : Below w9.heap.size w9 w10 := by rw [eBp]; exact hal10
      have hR10 : Rs w2 w10 N Bm (Bm + 1) (Bm + 1 + 1) Bq (fun i => i = Bq ∨ i = B5) met xs := H9.out.1.grown hal10' (fun i hi => .inl hi) (.inl rfl)
      have b510 : Boxed w10 B5 3 (.int .i64 x) := (hal10'.block _ H9.out.2.1.lt).trans H9.out.2.1
      have hed10 := (show Edges9 w9 (.slice A2 (l.length - c2) 0) ((sortE l).drop c2) from by
        rw [show l.length - c2 = 0 by omega, List.drop_eq_nil_of_le (by rw [sortE_len]; omega)]
        exact eds_none).below EdP.keeps hal10'
      have hS : ∀ i, blkS A2 i → (sortE l).drop c2 ≠ [] → i < N := fun i _ h => absurd (List.drop_eq_nil_of_le (by rw [sortE_len]; omega)) h
      have hDs10 : ∀ D ∈ Ds, w10.heap[D]? = some (.deferred (some [])) ∧ D < w10.heap.size := fun D hD => by
        obtain ⟨e1, -⟩ := HR.out.2.2.1.2 D hD
        have l1 := (Array.getElem?_eq_some_iff.1 e1).1
        have e2 := (HRd.out.keep D l1 (.inr ⟨_, e1, rfl⟩)).trans e1
        have l2 := (Array.getElem?_eq_some_iff.1 e2).1
        have e3 := (H8.out.2.1.block D (by rw [← H8.out.2.2.2]; exact l2)).trans e2
        have l3 := (Array.getElem?_eq_some_iff.1 e3).1
        have e4 := (H9.out.2.2.2.1.block D l3).trans e3
        have l4 := (Array.getElem?_eq_some_iff.1 e4).1
        have e5 := (hal10'.block D l4).trans e4
        exact ⟨e5, (Array.getElem?_eq_some_iff.1 e5).1⟩
      have hN10 : N ≤ w10.heap.size := by have := hR10.mt.lt; omega
      have H10 := Lib.hid (And.intro hR10 (And.intro b510 (And.intro hed10 (And.intro hS (And.intro hDs10 (And.intro hN10 bp10))))))
      have hal10z := hal10'.size
      clear hR10 b510 hed10 hS hDs10 hN10 bp10 hal10 hal10' e10
      gi_wp2_with fail
      refine wpIn_rangeP rfl h1 (gf := 48) (lb := #[.pointer (some ⟨Bp, 0, none⟩)]) rfl trivial (enters_of Try.func48 (by kernel_rfl) rfl)
        (encs := fun y => #[edV y]) (xs := (sortE l).drop c2) (w0 := w10) (S := blkS A2) (L := True)
        (vals_seq (n - 1) (by omega) Bp (l.length - c2) 0 A2 ((sortE l).drop c2) w10 H10.out.2.2.1 H10.out.2.2.2.2.2.2 True) (Below.refl _ _) (fun _ => rfl)
        (fun (pre : List Ed) W => RdI (sortE l) w2 W N Bm (Bm + 1) (Bm + 1 + 1) Bq B5 x met xs Ds pre)
        (fun c (pre : List Ed) W => c = .exit 1 ∧ ∃ pre' y, pre = pre' ++ [y] ∧ y.fr ≠ x ∧ RdI (sortE l) w2 W N Bm (Bm + 1) (Bm + 1 + 1) Bq B5 x met xs Ds pre')
        (fun pre A B h g => h.it g H10.out.2.2.2.2.2.1 (fun D hD => (H10.out.2.2.2.2.1 D hD).2))
        (fun c pre A B h g => ⟨h.1, by
          obtain ⟨pre', y, h2, h3, h4⟩ := h.2
          exact ⟨pre', y, h2, h3, h4.it g H10.out.2.2.2.2.2.1 (fun D hD => (H10.out.2.2.2.2.1 D hD).2)⟩⟩)
        ⟨met, xs, H10.out.1, HR.out.2.1.pop, H10.out.2.1, fun D hD => (H10.out.2.2.2.2.1 D hD).1, Nat.le_refl _⟩
        (fun (y : Ed) a' W => ∃ (Bx : Nat), W.heap[Bx]? = some (.cells #[.int .i64 y.fr, .int .i64 y.mark, .int .i64 y.to] 44 (0, 0)) ∧ a' = { tmps := (.slice A2 l.length c2 :: undef :: .slice none 0 0 :: .pointer (some ⟨Bm, 0, none⟩) :: .pointer (some ⟨Bq, 0, none⟩) :: .pointer (some ⟨B5, 0, none⟩) :: .bool true :: .int .i64 c2 :: .bool bb :: .pointer (some ⟨Bx, 0, none⟩) :: u10 :: u11 :: u12 :: u13 :: u14 :: u15 :: u16 :: u17 :: u18 :: u19 :: u20 :: .tuple #[.int .i64 x, .bool true] :: .pointer (some ⟨Bm + 1 + 1, 0, none⟩) :: .tuple #[.int .i64 x, .bool true] :: .int .i64 x :: .bool true :: .bool true :: .bool false :: u28 :: u29 :: u30 :: .tuple #[.int .i64 c2, .bool bb] :: .slice A2 l.length c2 :: .int .i64 x :: .tuple #[.int .i64 c2, .bool bb] :: .int .i64 c2 :: .bool bb :: .slice A2 l.length c2 :: .int .i64 c2 :: .slice A2 0 0 :: .func (.func 48) #[] #[.pointer (some ⟨Bp, 0, none⟩)] :: edV y :: u42 :: u43 :: u44 :: u45 :: u46 :: u47 :: u48 :: u49 :: u50 :: u51 :: u52 :: u53 :: u54 :: u55 :: u56 :: u57 :: u58 :: u59 :: u60 :: u61 :: u62 :: []).toArray, defers := [] })
        (fun y a' A B h g => by
          obtain ⟨Bx, g3, g4⟩ := h
          exact ⟨Bx, g _ _ g3 rfl, g4⟩)
        ?assign ?body ?done ?stop
      case assign =>
        rintro l' pre y W K' hI hpre hK
        unfold edV at hK ⊢
        clear hI hpre
        gi_wp2
        exact hK _ _ ((Below.refl _ W).alloc (Nat.le_refl _) _) ⟨W.heap.size, heap_alloc_new W _, rfl⟩
      case body =>
        rintro l' pre y a' W hl' hI ⟨Bx, hbi, rfl⟩ hpre
        unfold edV
        obtain ⟨met', xs', hRs, hMd, hb5, hDs', hmu'⟩ := hI
        obtain ⟨d0, d1, d2⟩ := box3 hbi
        have hyd := pre_mem9 hpre
        have hyl := List.mem_of_mem_drop hyd
        have hyI := (edges_of H2.out.1 hyl).1.2.2
        have hS : ∀ i, blkS A2 i → i < N := fun i hi => H10.out.2.2.2.1 i hi (fun e => by rw [e] at hyd; cases hyd)
        have cm' := hRs.bm.cell
        have cq' := hRs.bq.cell
        have c5' := hb5.cell
        have lx := (Array.getElem?_eq_some_iff.1 hbi).1
        have lm := hRs.bm.lt
        have lq := hRs.bq.lt
        have l5 := hb5.lt
        have hml := met_len (l := sortE l) (met := met') (by obtain ⟨D, -, h, -⟩ := hRs.mt; exact h) hMd.sound
        rw [sortE_len] at hml
        have hxl := nd_len xs' met' hRs.q.nodup hMd.sub
        by_cases hf : y.fr = x
        · have g1 : (y.fr != x) = false := by simpa using hf
          have hal1 : Below W.heap.size W (W.alloc (.cells #[] 64)) := (Below.refl _ W).alloc (Nat.le_refl _) _
          have hR1' := hRs.grown hal1 (X' := fun i => i = Bq ∨ i = B5) (fun i hi => .inl hi) (.inl rfl)
          have hb51 : Boxed (W.alloc (.cells #[] 64)) B5 3 (.int .i64 x) := (hal1.block _ l5).trans hb5
          have hDs1 : ∀ D ∈ Ds, (W.alloc (.cells #[] 64)).heap[D]? = some (.deferred (some [])) := fun D hD => (hal1.block D (Array.getElem?_eq_some_iff.1 (hDs' D hD)).1).trans (hDs' D hD)
          obtain ⟨Dm, hown, hhas, hkey⟩ := hRs.mt.look hyI
          by_cases hin : y.to ∈ met'
          · rw [decide_eq_true hin] at hhas
            have HO := Lib.hid (And.intro hown (And.intro hhas hkey))
            have HI := Lib.hid (show RdI (sortE l) w2 (W.alloc (.cells #[] 64)) N Bm (Bm + 1) (Bm + 1 + 1) Bq B5 x met xs Ds (pre ++ [y]) from ⟨met', xs', hR1', hMd.old hf hin, hb51, hDs1, hmu'⟩)
            have HB := Lib.hid hal1
            clear hown hhas hkey hRs hMd hb5 hDs' hmu' hbi hpre hyd hyl hS hal1 hR1' hb51 hDs1 hin hf hml hxl cq' hyI
            gi_wp2_with (gi_at_lookup; refine wpListIn_lookup_own_unit _ rfl _ _ 65 rfl 3 64 keyed3 Try.underlying65 (zeroU _) N met'.length Dm rfl HO.out.1 _ _ rfl HO.out.2.2 ?_; rw [HO.out.2.1])
            exact ⟨RdP.of_below HB.out, HI.out⟩
          · rw [decide_eq_false hin] at hhas
            obtain ⟨W2, hr2, hm2, hg2⟩ := hR1'.mt.put hyI hin (by omega)
            have hq2 := hR1'.qput hg2
            have hb52 : Boxed W2 B5 3 (.int .i64 x) := (hg2.block _ hb51.lt (fun e => by
              injection e with e
              obtain ⟨es, clock, hme⟩ := hR1'.mt.obj
              rw [Boxed, e, hme] at hb51
              cases hb51)).trans hb51
            have hbx2 : W2.heap[Bx]? = some (.cells #[.int .i64 y.fr, .int .i64 y.mark, .int .i64 y.to] 44 (0, 0)) := (hg2.block Bx (by simp; omega) (fun e => by
              injection e with e
              obtain ⟨es, clock, hme⟩ := hR1'.mt.obj
              have := (hal1.block Bx lx).trans hbi
              rw [e, hme] at this
              cases this)).trans ((hal1.block Bx lx).trans hbi)
            have hbq2 : Boxed W2 Bq 66 (.pointer (some ⟨Bm + 1 + 1, 0, none⟩)) := (hg2.block _ hR1'.bq.lt (fun e => by
              injection e with e
              obtain ⟨es, clock, hme⟩ := hR1'.mt.obj
              have := hR1'.bq
              rw [Boxed, e, hme] at this
              cases this)).trans hR1'.bq
            have c22 := (box3 hbx2).2.2
            have cq2 := hbq2.cell
            have hs2 := hg2.size
            have HP2 := Lib.hid (push_p hq2 hyI (fun h => hin (hMd.sub _ h)) (by omega) (by omega) (by have := hR1'.hlo.2.2; omega) (fun i hi => by
              have e1 := hbq2.lt
              have e2 := hb52.lt
              rcases hi with rfl | rfl
              · exact e1
              · exact e2))
            have HO := Lib.hid (And.intro hown (And.intro hhas hkey))
            have HE := Lib.hid (show ∀ W3, IsFp W3 (Bm + 1) (fun i => i = Bq ∨ i = B5) (Bm + 1 + 1) (met'.length + 1) (xs' ++ [y.to]) → RdP (fun i => i < Bm + 1 ∨ (i = Bq ∨ i = B5)) W2 W3 → RdP (blkS A2) W W3 ∧ RdI (sortE l) w2 W3 N Bm (Bm + 1) (Bm + 1 + 1) Bq B5 x met xs Ds (pre ++ [y]) from fun W3 hq3 hr3 => by
              have h12 : RdP (blkS A2) (W.alloc (.cells #[] 64)) W2 := ⟨hg2.os, hg2.tape, hg2.output, hg2.size, fun k hk hm => hg2.block k hk (fun e => by
                injection e with e
                rcases hm with hm | ⟨o, e1, e2⟩
                · have := hS k hm
                  omega
                · obtain ⟨es, clock, hme⟩ := hR1'.mt.obj
                  rw [e, hme] at e1
                  cases e1
                  cases e2)⟩
              refine ⟨((RdP.of_below hal1).trans h12).trans (hr3.mono fun k hk => .inl (by have := hS k hk; have := hR1'.hlo.1; omega)), y.to :: met', xs' ++ [y.to], hR1'.put hm2 hg2 hq3 hr3, hMd.new hyl hf hin, (hr3.keep _ hb52.lt (.inl (.inr (.inr rfl)))).trans hb52, fun D hD => ?_, Nat.le_trans (Nat.le_of_lt (muR_new hyl hin)) hmu'⟩
              have e1 := hDs1 D hD
              have e2 : W2.heap[D]? = some (.deferred (some [])) := (h12.keep D (Array.getElem?_eq_some_iff.1 e1).1 (.inr ⟨_, e1, rfl⟩)).trans e1
              exact (hr3.keep D (Array.getElem?_eq_some_iff.1 e2).1 (.inr ⟨_, e2, rfl⟩)).trans e2)
            clear hown hhas hkey hRs hMd hb5 hDs' hmu' hbi hpre hyd hyl hS hal1 hR1' hb51 hDs1 hin hf hml hxl cq' hyI hm2 hg2 hq2 hb52 hbx2 hbq2
            gi_wp2_with (first
              | (gi_at_lookup; refine wpListIn_lookup_own_unit _ rfl _ _ 65 rfl 3 64 keyed3 Try.underlying65 (zeroU _) N met'.length Dm rfl HO.out.1 _ _ rfl HO.out.2.2 ?_; rw [HO.out.2.1])
              | (refine ⟨trivial, ?_⟩; gi_at_call 33; refine (CallsIn.inRound l' (callsIn_wide.2 HP2.out)).mono ?_; rintro e W3 ⟨rfl, hq3, hr3⟩; have HF := Lib.hid (HE.out W3 hq3 hr3); clear hq3 hr3))
            exact ⟨HF.out.1, HF.out.2⟩
        · have g1 : (y.fr != x) = true := by simpa using hf
          have HI := Lib.hid (And.intro hf (show RdI (sortE l) w2 W N Bm (Bm + 1) (Bm + 1 + 1) Bq B5 x met xs Ds pre from ⟨met', xs', hRs, hMd, hb5, hDs', hmu'⟩))
          clear hRs hMd hb5 hDs' hmu' hbi hpre hyd hyl hS hf hml hxl cq' hyI
          gi_wp2
          exact ⟨RdP.refl _ _, rfl, pre, y, rfl, HI.out.1, HI.out.2⟩
      case done =>
        rintro D W hD hI hK
        have HZ := Lib.hid (round_end hI HR.out.2.2.1 H10.out.2.2.2.2.1 hD H10.out.2.2.2.2.2.1 hK (all_done H9.out.2.2.1))
        have hmu := HR.out.2.2.2
        clear hI hK
        gi_wp2
        obtain ⟨met', xs', k1, k2, k3, k4⟩ := HZ.out
        refine ⟨muR (sortE l) met' xs', Nat.lt_of_le_of_lt k4 (Nat.lt_of_lt_of_le muR_pop hmu), ?_⟩
        rw [HInv.out]
        refine ⟨met', xs', D :: Ds, ?_⟩
        (iterate 58 apply Exists.intro)
        exact ⟨k1, k2, k3, Nat.le_refl _, rfl⟩
      case stop =>
        rintro D c pre W hD hpre ⟨rfl, pre', y, rfl, hy, hI⟩ hK
        have HZ := Lib.hid (round_end hI HR.out.2.2.1 H10.out.2.2.2.2.1 hD H10.out.2.2.2.2.2.1 hK (all_stop H9.out.2.2.1 (sortE_fr l) hpre hy))
        have hmu := HR.out.2.2.2
        clear hI hK hpre
        gi_wp2
        obtain ⟨met', xs', k1, k2, k3, k4⟩ := HZ.out
        refine ⟨muR (sortE l) met' xs', Nat.lt_of_le_of_lt k4 (Nat.lt_of_lt_of_le muR_pop hmu), ?_⟩
        rw [HInv.out]
        refine ⟨met', xs', D :: Ds, ?_⟩
        (iterate 58 apply Exists.intro)
        exact ⟨k1, k2, k3, Nat.le_refl _, rfl⟩
    · have h : ¬ c2 = kk := by assumption
      refine ⟨trivial, ?_⟩
      gi_at_call 30
      refine (vals_in (n - 1) (Option.map (fun x => x.add (kk * 3)) A2) (l.length - kk) (c2 - kk) _).mono ?_
      rintro e w' ⟨rfl, rfl⟩
      have hal10 : Below w9.heap.size w9 (w9.alloc (.cells #[.slice (Option.map (fun x => x.add (kk * 3)) A2) (l.length - kk) (c2 - kk)] 30)) := (Below.refl _ w9).alloc (Nat.le_refl _) _
      have bp10 := heap_alloc_new w9 (.cells #[.slice (Option.map (fun x => x.add (kk * 3)) A2) (l.length - kk) (c2 - kk)] 30)
      obtain ⟨w10, e10⟩ : ∃ y, w9.alloc (.cells #[.slice (Option.map (fun x => x.add (kk * 3)) A2) (l.length - kk) (c2 - kk)] 30) = y := ⟨_, rfl⟩
      obtain ⟨Bp, eBp⟩ : ∃ y, w9.heap.size = y := ⟨_, rfl⟩
      rw [e10] at hal10 bp10 ⊢
      rw [eBp] at hal10 bp10 ⊢
      have hal10' : Below w9.heap.size w9 w10 := by rw [eBp]; exact hal10
      have hR10 : Rs w2 w10 N Bm (Bm + 1) (Bm + 1 + 1) Bq (fun i => i = Bq ∨ i = B5) met xs := H9.out.1.grown hal10' (fun i hi => .inl hi) (.inl rfl)
      have b510 : Boxed w10 B5 3 (.int .i64 x) := (hal10'.block _ H9.out.2.1.lt).trans H9.out.2.1
      have hed10 := (show Edges9 w9 (.slice (Option.map (fun x => x.add (kk * 3)) A2) (l.length - kk) (c2 - kk)) ((sortE l).drop kk) from HC.out w9 H9.out.2.2.2.2 kk hkk h).below EdP.keeps hal10'
      have hS : ∀ i, blkS (Option.map (fun x => x.add (kk * 3)) A2) i → (sortE l).drop kk ≠ [] → i < N := fun i hi hne => HG.out kk i hi hne
      have hDs10 : ∀ D ∈ Ds, w10.heap[D]? = some (.deferred (some [])) ∧ D < w10.heap.size := fun D hD => by
        obtain ⟨e1, -⟩ := HR.out.2.2.1.2 D hD
        have l1 := (Array.getElem?_eq_some_iff.1 e1).1
        have e2 := (HRd.out.keep D l1 (.inr ⟨_, e1, rfl⟩)).trans e1
        have l2 := (Array.getElem?_eq_some_iff.1 e2).1
        have e3 := (H8.out.2.1.block D (by rw [← H8.out.2.2.2]; exact l2)).trans e2
        have l3 := (Array.getElem?_eq_some_iff.1 e3).1
        have e4 := (H9.out.2.2.2.1.block D l3).trans e3
        have l4 := (Array.getElem?_eq_some_iff.1 e4).1
        have e5 := (hal10'.block D l4).trans e4
        exact ⟨e5, (Array.getElem?_eq_some_iff.1 e5).1⟩
      have hN10 : N ≤ w10.heap.size := by have := hR10.mt.lt; omega
      have H10 := Lib.hid (And.intro hR10 (And.intro b510 (And.intro hed10 (And.intro hS (And.intro hDs10 (And.intro hN10 bp10))))))
      have hal10z := hal10'.size
      clear hR10 b510 hed10 hS hDs10 hN10 bp10 hal10 hal10' e10
      gi_wp2_with fail
      refine wpIn_rangeP rfl h1 (gf := 48) (lb := #[.pointer (some ⟨Bp, 0, none⟩)]) rfl trivial (enters_of Try.func48 (by kernel_rfl) rfl)
        (encs := fun y => #[edV y]) (xs := (sortE l).drop kk) (w0 := w10) (S := blkS (Option.map (fun x => x.add (kk * 3)) A2)) (L := True)
        (vals_seq (n - 1) (by omega) Bp (l.length - kk) (c2 - kk) (Option.map (fun x => x.add (kk * 3)) A2) ((sortE l).drop kk) w10 H10.out.2.2.1 H10.out.2.2.2.2.2.2 True) (Below.refl _ _) (fun _ => rfl)
        (fun (pre : List Ed) W => RdI (sortE l) w2 W N Bm (Bm + 1) (Bm + 1 + 1) Bq B5 x met xs Ds pre)
        (fun c (pre : List Ed) W => c = .exit 1 ∧ ∃ pre' y, pre = pre' ++ [y] ∧ y.fr ≠ x ∧ RdI (sortE l) w2 W N Bm (Bm + 1) (Bm + 1 + 1) Bq B5 x met xs Ds pre')
        (fun pre A B h g => h.it g H10.out.2.2.2.2.2.1 (fun D hD => (H10.out.2.2.2.2.1 D hD).2))
        (fun c pre A B h g => ⟨h.1, by
          obtain ⟨pre', y, h2, h3, h4⟩ := h.2
          exact ⟨pre', y, h2, h3, h4.it g H10.out.2.2.2.2.2.1 (fun D hD => (H10.out.2.2.2.2.1 D hD).2)⟩⟩)
        ⟨met, xs, H10.out.1, HR.out.2.1.pop, H10.out.2.1, fun D hD => (H10.out.2.2.2.2.1 D hD).1, Nat.le_refl _⟩
        (fun (y : Ed) a' W => ∃ (Bx : Nat), W.heap[Bx]? = some (.cells #[.int .i64 y.fr, .int .i64 y.mark, .int .i64 y.to] 44 (0, 0)) ∧ a' = { tmps := (.slice A2 l.length c2 :: undef :: .slice none 0 0 :: .pointer (some ⟨Bm, 0, none⟩) :: .pointer (some ⟨Bq, 0, none⟩) :: .pointer (some ⟨B5, 0, none⟩) :: .bool true :: .int .i64 kk :: .bool bb :: .pointer (some ⟨Bx, 0, none⟩) :: u10 :: u11 :: u12 :: u13 :: u14 :: u15 :: u16 :: u17 :: u18 :: u19 :: u20 :: .tuple #[.int .i64 x, .bool true] :: .pointer (some ⟨Bm + 1 + 1, 0, none⟩) :: .tuple #[.int .i64 x, .bool true] :: .int .i64 x :: .bool true :: .bool true :: .bool false :: u28 :: u29 :: u30 :: .tuple #[.int .i64 kk, .bool bb] :: .slice A2 l.length c2 :: .int .i64 x :: .tuple #[.int .i64 kk, .bool bb] :: .int .i64 kk :: .bool bb :: .slice A2 l.length c2 :: .int .i64 kk :: .slice (Option.map (fun x => x.add (kk * 3)) A2) (l.length - kk) (c2 - kk) :: .func (.func 48) #[] #[.pointer (some ⟨Bp, 0, none⟩)] :: edV y :: u42 :: u43 :: u44 :: u45 :: u46 :: u47 :: u48 :: u49 :: u50 :: u51 :: u52 :: u53 :: u54 :: u55 :: u56 :: u57 :: u58 :: u59 :: u60 :: u61 :: u62 :: []).toArray, defers := [] })
        (fun y a' A B h g => by
          obtain ⟨Bx, g3, g4⟩ := h
          exact ⟨Bx, g _ _ g3 rfl, g4⟩)
        ?assign ?body ?done ?stop
      case assign =>
        rintro l' pre y W K' hI hpre hK
        unfold edV at hK ⊢
        clear hI hpre
        gi_wp2
        exact hK _ _ ((Below.refl _ W).alloc (Nat.le_refl _) _) ⟨W.heap.size, heap_alloc_new W _, rfl⟩
      case body =>
        rintro l' pre y a' W hl' hI ⟨Bx, hbi, rfl⟩ hpre
        unfold edV
        obtain ⟨met', xs', hRs, hMd, hb5, hDs', hmu'⟩ := hI
        obtain ⟨d0, d1, d2⟩ := box3 hbi
        have hyd := pre_mem9 hpre
        have hyl := List.mem_of_mem_drop hyd
        have hyI := (edges_of H2.out.1 hyl).1.2.2
        have hS : ∀ i, blkS (Option.map (fun x => x.add (kk * 3)) A2) i → i < N := fun i hi => H10.out.2.2.2.1 i hi (fun e => by rw [e] at hyd; cases hyd)
        have cm' := hRs.bm.cell
        have cq' := hRs.bq.cell
        have c5' := hb5.cell
        have lx := (Array.getElem?_eq_some_iff.1 hbi).1
        have lm := hRs.bm.lt
        have lq := hRs.bq.lt
        have l5 := hb5.lt
        have hml := met_len (l := sortE l) (met := met') (by obtain ⟨D, -, h, -⟩ := hRs.mt; exact h) hMd.sound
        rw [sortE_len] at hml
        have hxl := nd_len xs' met' hRs.q.nodup hMd.sub
        by_cases hf : y.fr = x
        · have g1 : (y.fr != x) = false := by simpa using hf
          have hal1 : Below W.heap.size W (W.alloc (.cells #[] 64)) := (Below.refl _ W).alloc (Nat.le_refl _) _
          have hR1' := hRs.grown hal1 (X' := fun i => i = Bq ∨ i = B5) (fun i hi => .inl hi) (.inl rfl)
          have hb51 : Boxed (W.alloc (.cells #[] 64)) B5 3 (.int .i64 x) := (hal1.block _ l5).trans hb5
          have hDs1 : ∀ D ∈ Ds, (W.alloc (.cells #[] 64)).heap[D]? = some (.deferred (some [])) := fun D hD => (hal1.block D (Array.getElem?_eq_some_iff.1 (hDs' D hD)).1).trans (hDs' D hD)
          obtain ⟨Dm, hown, hhas, hkey⟩ := hRs.mt.look hyI
          by_cases hin : y.to ∈ met'
          · rw [decide_eq_true hin] at hhas
            have HO := Lib.hid (And.intro hown (And.intro hhas hkey))
            have HI := Lib.hid (show RdI (sortE l) w2 (W.alloc (.cells #[] 64)) N Bm (Bm + 1) (Bm + 1 + 1) Bq B5 x met xs Ds (pre ++ [y]) from ⟨met', xs', hR1', hMd.old hf hin, hb51, hDs1, hmu'⟩)
            have HB := Lib.hid hal1
            clear hown hhas hkey hRs hMd hb5 hDs' hmu' hbi hpre hyd hyl hS hal1 hR1' hb51 hDs1 hin hf hml hxl cq' hyI
            gi_wp2_with (gi_at_lookup; refine wpListIn_lookup_own_unit _ rfl _ _ 65 rfl 3 64 keyed3 Try.underlying65 (zeroU _) N met'.length Dm rfl HO.out.1 _ _ rfl HO.out.2.2 ?_; rw [HO.out.2.1])
            exact ⟨RdP.of_below HB.out, HI.out⟩
          · rw [decide_eq_false hin] at hhas
            obtain ⟨W2, hr2, hm2, hg2⟩ := hR1'.mt.put hyI hin (by omega)
            have hq2 := hR1'.qput hg2
            have hb52 : Boxed W2 B5 3 (.int .i64 x) := (hg2.block _ hb51.lt (fun e => by
              injection e with e
              obtain ⟨es, clock, hme⟩ := hR1'.mt.obj
              rw [Boxed, e, hme] at hb51
              cases hb51)).trans hb51
            have hbx2 : W2.heap[Bx]? = some (.cells #[.int .i64 y.fr, .int .i64 y.mark, .int .i64 y.to] 44 (0, 0)) := (hg2.block Bx (by simp; omega) (fun e => by
              injection e with e
              obtain ⟨es, clock, hme⟩ := hR1'.mt.obj
              have := (hal1.block Bx lx).trans hbi
              rw [e, hme] at this
              cases this)).trans ((hal1.block Bx lx).trans hbi)
            have hbq2 : Boxed W2 Bq 66 (.pointer (some ⟨Bm + 1 + 1, 0, none⟩)) := (hg2.block _ hR1'.bq.lt (fun e => by
              injection e with e
              obtain ⟨es, clock, hme⟩ := hR1'.mt.obj
              have := hR1'.bq
              rw [Boxed, e, hme] at this
              cases this)).trans hR1'.bq
            have c22 := (box3 hbx2).2.2
            have cq2 := hbq2.cell
            have hs2 := hg2.size
            have HP2 := Lib.hid (push_p hq2 hyI (fun h => hin (hMd.sub _ h)) (by omega) (by omega) (by have := hR1'.hlo.2.2; omega) (fun i hi => by
              have e1 := hbq2.lt
              have e2 := hb52.lt
              rcases hi with rfl | rfl
              · exact e1
              · exact e2))
            have HO := Lib.hid (And.intro hown (And.intro hhas hkey))
            have HE := Lib.hid (show ∀ W3, IsFp W3 (Bm + 1) (fun i => i = Bq ∨ i = B5) (Bm + 1 + 1) (met'.length + 1) (xs' ++ [y.to]) → RdP (fun i => i < Bm + 1 ∨ (i = Bq ∨ i = B5)) W2 W3 → RdP (blkS (Option.map (fun x => x.add (kk * 3)) A2)) W W3 ∧ RdI (sortE l) w2 W3 N Bm (Bm + 1) (Bm + 1 + 1) Bq B5 x met xs Ds (pre ++ [y]) from fun W3 hq3 hr3 => by
              have h12 : RdP (blkS (Option.map (fun x => x.add (kk * 3)) A2)) (W.alloc (.cells #[] 64)) W2 := ⟨hg2.os, hg2.tape, hg2.output, hg2.size, fun k hk hm => hg2.block k hk (fun e => by
                injection e with e
                rcases hm with hm | ⟨o, e1, e2⟩
                · have := hS k hm
                  omega
                · obtain ⟨es, clock, hme⟩ := hR1'.mt.obj
                  rw [e, hme] at e1
                  cases e1
                  cases e2)⟩
              refine ⟨((RdP.of_below hal1).trans h12).trans (hr3.mono fun k hk => .inl (by have := hS k hk; have := hR1'.hlo.1; omega)), y.to :: met', xs' ++ [y.to], hR1'.put hm2 hg2 hq3 hr3, hMd.new hyl hf hin, (hr3.keep _ hb52.lt (.inl (.inr (.inr rfl)))).trans hb52, fun D hD => ?_, Nat.le_trans (Nat.le_of_lt (muR_new hyl hin)) hmu'⟩
              have e1 := hDs1 D hD
              have e2 : W2.heap[D]? = some (.deferred (some [])) := (h12.keep D (Array.getElem?_eq_some_iff.1 e1).1 (.inr ⟨_, e1, rfl⟩)).trans e1
              exact (hr3.keep D (Array.getElem?_eq_some_iff.1 e2).1 (.inr ⟨_, e2, rfl⟩)).trans e2)
            clear hown hhas hkey hRs hMd hb5 hDs' hmu' hbi hpre hyd hyl hS hal1 hR1' hb51 hDs1 hin hf hml hxl cq' hyI hm2 hg2 hq2 hb52 hbx2 hbq2
            gi_wp2_with (first
              | (gi_at_lookup; refine wpListIn_lookup_own_unit _ rfl _ _ 65 rfl 3 64 keyed3 Try.underlying65 (zeroU _) N met'.length Dm rfl HO.out.1 _ _ rfl HO.out.2.2 ?_; rw [HO.out.2.1])
              | (refine ⟨trivial, ?_⟩; gi_at_call 33; refine (CallsIn.inRound l' (callsIn_wide.2 HP2.out)).mono ?_; rintro e W3 ⟨rfl, hq3, hr3⟩; have HF := Lib.hid (HE.out W3 hq3 hr3); clear hq3 hr3))
            exact ⟨HF.out.1, HF.out.2⟩
        · have g1 : (y.fr != x) = true := by simpa using hf
          have HI := Lib.hid (And.intro hf (show RdI (sortE l) w2 W N Bm (Bm + 1) (Bm + 1 + 1) Bq B5 x met xs Ds pre from ⟨met', xs', hRs, hMd, hb5, hDs', hmu'⟩))
          clear hRs hMd hb5 hDs' hmu' hbi hpre hyd hyl hS hf hml hxl cq' hyI
          gi_wp2
          exact ⟨RdP.refl _ _, rfl, pre, y, rfl, HI.out.1, HI.out.2⟩
      case done =>
        rintro D W hD hI hK
        have HZ := Lib.hid (round_end hI HR.out.2.2.1 H10.out.2.2.2.2.1 hD H10.out.2.2.2.2.2.1 hK (all_done H9.out.2.2.1))
        have hmu := HR.out.2.2.2
        clear hI hK
        gi_wp2
        obtain ⟨met', xs', k1, k2, k3, k4⟩ := HZ.out
        refine ⟨muR (sortE l) met' xs', Nat.lt_of_le_of_lt k4 (Nat.lt_of_lt_of_le muR_pop hmu), ?_⟩
        rw [HInv.out]
        refine ⟨met', xs', D :: Ds, ?_⟩
        (iterate 58 apply Exists.intro)
        exact ⟨k1, k2, k3, Nat.le_refl _, rfl⟩
      case stop =>
        rintro D c pre W hD hpre ⟨rfl, pre', y, rfl, hy, hI⟩ hK
        have HZ := Lib.hid (round_end hI HR.out.2.2.1 H10.out.2.2.2.2.1 hD H10.out.2.2.2.2.2.1 hK (all_stop H9.out.2.2.1 (sortE_fr l) hpre hy))
        have hmu := HR.out.2.2.2
        clear hI hK hpre
        gi_wp2
        obtain ⟨met', xs', k1, k2, k3, k4⟩ := HZ.out
        refine ⟨muR (sortE l) met' xs', Nat.lt_of_le_of_lt k4 (Nat.lt_of_lt_of_le muR_pop hmu), ?_⟩
        rw [HInv.out]
        refine ⟨met', xs', D :: Ds, ?_⟩
        (iterate 58 apply Exists.intro)
        exact ⟨k1, k2, k3, Nat.le_refl _, rfl⟩
end Go.Proofs.Ytfiockconbaniaa
