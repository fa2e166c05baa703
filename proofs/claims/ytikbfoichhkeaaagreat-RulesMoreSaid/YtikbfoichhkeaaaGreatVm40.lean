/- rules.trees: an iterator over a numbered tree's parts. rules.trees' iterator. rules.rule: every part of a program adds its rules. -/
import Derived.BigRegion
import Derived.Deep.RegionHeld3
import Derived.OwnWalkIn
import Derived.Carry
import Derived.Shelf.Abstract
import Derived.Shelf.RegionOpen
import Derived.Sort.CutIn
import Derived.LoopNIn
import Derived.Test.YtikbfoichhkeaaaGreatVm38
import Derived.Test.YtikbfoichhkeaaaGreatVm39
set_option linter.unusedSimpArgs false
set_option linter.unusedVariables false
set_option maxRecDepth 100000
set_option maxHeartbeats 40000000
namespace Go.Proofs.YtikbfoichhkeaaaGreat
section
open Go.RowKit Go.Proofs
theorem rtrees_in (n Mb : Nat) (o k li : Int) (s : Bs) (A : Option Addr) (l c : Nat) (w : World) : CallsIn Fence.wide n Tryz.prog 43 #[.pointer (some ⟨Mb, 0, none⟩), .agg #[.int .i64 o, .string (bs s), .int .i64 k, .slice A l c, .int .i64 li]] w fun e w' => e = .returned (.func (.func 74) #[] #[.pointer (some ⟨w.heap.size, 0, none⟩), .pointer (some ⟨w.heap.size + 1, 0, none⟩)]) ∧ w' = (w.alloc (.cells #[.pointer (some ⟨Mb, 0, none⟩)] 84)).alloc (.cells #[.int .i64 o, .string (bs s), .int .i64 k, .slice A l c, .int .i64 li] 24) := by
 refine callsIn_of_wp Tryz.func43 rfl trivial ?_ rfl
 simp only [Tryz.ntmps43, List.size_toArray, List.length_cons, List.length_nil, Nat.reduceAdd, Nat.reduceSub, Array.replicate_succ, Array.replicate_zero, List.push_toArray, List.append_toArray, List.nil_append, List.cons_append]
 gi_wp2
 go_ret
 exact ⟨rfl, rfl⟩
theorem yield_mono {F : Fence} {n : Nat} {P : Program} {l : Nat} {args : Array Value} {W : World} {R R' : Ending → World → Prop} (h : YieldAt F n P l args W R) (hR : ∀ e w, R e w → R' e w) : YieldAt F n P l args W R' := by
 obtain ⟨fn, tmps, assign, body, h1, h2⟩ := h
 exact ⟨fn, tmps, assign, body, h1, h2.mono hR⟩
theorem pre_of (lf : Nat) {W0 W w' Wt W2 : World} {Mb fB : Nat} {X : Cx} {fv fsv : Value} (hX : CxOK X) {t : Tr} {cs : List Value} {P0 : Pl9} (mine : World → Nat → Prop) (J : List (Ev9 × List Value) → World → Prop)
  (hJ : ∀ pre A B, J pre A → ItA W.heap.size A B → J pre B) (hM : ∀ pre A k, J pre A → mine A k → k < A.heap.size) (hMs : ∀ A B k, ItA W.heap.size A B → mine B k → mine A k)
  (hY : ∀ pre x W1, J pre W1 → (∃ xs : List (Ev9 × List Value), xs.map (·.1) = evR X t 0 P0 ∧ pre ++ [x] <+: xs) → KxN mine x W1 → YieldAt Fence.wide 0 Tryz.prog lf (encC x) W1 fun e W' => e = .returned (.bool true) ∧ J (pre ++ [x]) W' ∧ RdKeeps mine W1 W')
  (hK : ∀ pre A, J pre A → ∃ rv rs, MkAt W0 A Mb fB X fv fsv rv rs) (hok : ∀ e ∈ evR X t 0 P0, PartOK X e.t) (h0 : J [] W)
  (h1 : Below W.heap.size W w') (hNt : NtP Wt (New w' Wt) t 0 cs) (h2 : Below w'.heap.size w' Wt) (h3 : Below Wt.heap.size Wt W2) :
  Calls Tryz.prog 75 #[.pointer (some ⟨Mb, 0, none⟩), .agg cs.toArray, placeW P0, .func (.yield lf) #[] #[]] W2 fun e W' => e = .returned (.bool true) ∧ (∃ xs : List (Ev9 × List Value), xs.map (·.1) = evR X t 0 P0 ∧ J xs W') ∧ RdKeeps mine W W' := by
 have hz1 := h1.size
 have hz2 := h2.size
 have hz3 := h3.size
 have hb2 : Below W.heap.size W W2 := h1.trans ((h2.mono hz1).trans (h3.mono (by omega)))
 have hk2 : ItA W.heap.size W W2 := .of_below hb2
 have hmn2 : ∀ k, mine W2 k → k < W.heap.size := fun k hk => hM _ _ _ h0 (hMs _ _ _ hk2 hk)
 have hR2 : RdKeeps mine W W2 := .of_below hb2 (fun k hk => hMs _ _ _ hk2 hk)
 obtain ⟨S, hS⟩ : ∃ S : Nat → Prop, (fun i => New w' Wt i ∧ Cl Wt i) = S := ⟨_, rfl⟩
 have hNc := hNt.cl
 rw [hS] at hNc
 have hSn : ∀ i, S i → New w' Wt i ∧ Cl Wt i := fun i hi => by rw [← hS] at hi; exact hi
 have hlt : ∀ A : World, (∀ b, S b → A.heap[b]? = Wt.heap[b]?) → ∀ b, S b → b < A.heap.size := fun A h b hb => by
  obtain ⟨o, h4, -⟩ := (hSn b hb).2
  exact heap_lt ((h b hb).trans h4)
 have hmap := evC_map Wt X t 0 P0 cs
 refine (preorder_r lf Wt.heap.size (Wt := Wt) (S := S) hX (evC Wt X t 0 P0 cs) mine (fun pre A => J pre A ∧ (∀ b, S b → A.heap[b]? = Wt.heap[b]?) ∧ ∀ b, S b → ¬ mine A b) (fun _ _ => False) ?_ (fun pre A k h hk => hM _ _ _ h.1 hk) (fun A B k g hk => hMs A B k (g.mono (by omega)) hk) ?_ (fun pre A h => ⟨hK _ _ h.1, h.2.1⟩) (fun e he => hok e.1 (by rw [← hmap]; exact List.mem_map_of_mem he)) t 0 cs P0 [] [] W2 h3.size hNc ?_ (by simp)).mono ?_
 ·rintro pre A B ⟨g1, g2, g3⟩ g
  exact ⟨hJ _ _ _ g1 (g.mono (by omega)), fun b hb => by obtain ⟨o, h4, h5⟩ := (hSn b hb).2; rw [h4]; exact g.keep b o ((g2 b hb).trans h4) (.inr h5), fun b hb hm => g3 b hb (hMs A B b (g.mono (by omega)) hm)⟩
 ·rintro pre x W1 ⟨g1, g2, g3⟩ hpre
  have hx : x ∈ evC Wt X t 0 P0 cs := hpre.subset (by simp)
  refine yield_mono (hY pre x W1 g1 ⟨_, hmap, hpre⟩ ⟨S, (evC_nt X t 0 P0 cs hNc x hx).keep (fun _ h => h) g2, fun i hi => ⟨?_, g3 i hi⟩⟩) ?_
  ·obtain ⟨o, h4, h5⟩ := (hSn i hi).2
   exact ⟨o, (g2 i hi).trans h4, h5⟩
  ·rintro e W' ⟨h4, h5, h6⟩
   refine .inl ⟨h4, ⟨h5, fun b hb => (h6.keep b (hlt W1 g2 b hb) (g3 b hb)).trans (g2 b hb), fun b hb hm => (h6.new b hm).elim (g3 b hb) (fun h => ?_)⟩, h6⟩
   have := hlt W1 g2 b hb
   omega
 ·exact ⟨hJ _ _ _ h0 hk2, fun b hb => h3.block b (hSn b hb).1.2, fun b hb hm => by have := hmn2 b hm; have := (hSn b hb).1.1; omega⟩
 ·rintro e W' (⟨h4, h5, h6⟩ | ⟨-, pre', -, h⟩)
  ·exact ⟨h4, ⟨_, hmap, by simpa using h5.1⟩, hR2.then_ h6⟩
  ·exact h.elim
end
section
open Go.RowKit Go.Proofs
theorem rtrees_seq (n : Nat) {W0 : World} {Mb fB : Nat} {X : Cx} {fv fsv : Value} (hX : CxOK X) {b1 b2 : Nat} {t : Tr} {A : Option Addr} {c : Nat} {S0 : Nat → Prop} (mine : World → Nat → Prop) (w : World)
  (hT : TreeAt w S0 t (.agg #[.int .i64 t.op, .string (bs t.s), .int .i64 t.n, .slice A t.l.length c, .int .i64 t.line])) (hS0 : ∀ i, S0 i → i < w.heap.size) (hz : t.size ≤ 100000)
  (hb1 : w.heap[b1]? = some (.cells #[.pointer (some ⟨Mb, 0, none⟩)] 84 (0, 0))) (hb2 : w.heap[b2]? = some (.cells #[.int .i64 t.op, .string (bs t.s), .int .i64 t.n, .slice A t.l.length c, .int .i64 t.line] 24 (0, 0)))
  {s0 : FS} (hfs : X.fs[0]? = some s0) (hok : ∀ e ∈ evR X t 0 ⟨0, s0.thr, false⟩, PartOK X e.t) :
  SeqRowsX Fence.wide n Tryz.prog 74 #[.pointer (some ⟨b1, 0, none⟩), .pointer (some ⟨b2, 0, none⟩)] encC mine (fun _ A => (∃ rv rs, MkAt W0 A Mb fB X fv fsv rv rs) ∧ ¬ mine A b1 ∧ ¬ mine A b2 ∧ ∀ k, k < Mb → ¬ mine A k) (KxN mine) (fun xs => xs.map (·.1) = evR X t 0 ⟨0, s0.thr, false⟩) w := by
 intro lf J W hW hJ hM hMs hY hK h0
 obtain ⟨⟨rv, rs, hMk⟩, hn1, hn2, hnl⟩ := hK _ _ h0
 obtain ⟨ln, hln⟩ : ∃ y, t.l.length = y := ⟨_, rfl⟩
 rw [hln] at hT hb2
 have hx1 := (hW.block b1 (heap_lt hb1)).trans hb1
 have hx2 := (hW.block b2 (heap_lt hb2)).trans hb2
 have hNum : ∀ w', Below W.heap.size W w' → Calls Tryz.prog 76 #[.agg #[.int .i64 t.op, .string (bs t.s), .int .i64 t.n, .slice A ln c, .int .i64 t.line], .int .i64 0] w' fun e W2 => ∃ cs, e = .returned (.agg cs.toArray) ∧ NtP W2 (New w' W2) t 0 cs ∧ Below w'.heap.size w' W2 := fun w' hb =>
  numbered_any t 0 _ w' S0 (hT.keep (fun _ h => h) (fun i hi => (hb.block i (Nat.lt_of_lt_of_le (hS0 i hi) hW.size)).trans (hW.block i (hS0 i hi)))) (fun i hi => Nat.lt_of_lt_of_le (hS0 i hi) (Nat.le_trans hW.size hb.size)) hz (by omega)
 have hPre : ∀ (w' Wt W2 : World) cs, Below W.heap.size W w' → NtP Wt (New w' Wt) t 0 cs → Below w'.heap.size w' Wt → Below Wt.heap.size Wt W2 → _ := fun w' Wt W2 cs h1 h2 h3 h4 =>
  pre_of lf hX (P0 := ⟨0, s0.thr, false⟩) mine J hJ hM hMs (fun pre x W1 g1 g2 g3 => yieldAt_any (hY pre x W1 g1 g2 g3)) (fun pre A h => (hK pre A h).1) hok h0 h1 h2 h3 h4
 obtain ⟨As2, cs2, efs⟩ := hMk.fs0.form
 have hfs9 := hMk.fs1
 rw [efs] at hfs9
 obtain ⟨g2, off2, v2, rfl, hg2, -, f0, f1, f2, f3, f4⟩ := fs_get hfs9 0 s0 hfs
 rw [Nat.zero_mul, Nat.add_zero] at f4
 have hfl : 0 < X.fs.length := (List.getElem?_eq_some_iff.1 hfs).1
 have hgm : g2 < Mb := by
  have h9 := hMk.fs0
  rw [efs] at h9
  obtain ⟨g3, off3, v3, e3, hg3, -⟩ := fs_get h9 0 s0 hfs
  have e4 : g2 = g3 := by injection e3 with e5; injection e5
  rw [hMk.size0] at hg3
  omega
 have hmc := hMk.cells.1.2.2.1.trans (congrArg some efs)
 have hlb : ∀ i v, W.cell? ⟨b2, i, none⟩ = v → W.cell? ⟨b2, i, none⟩ = v := fun _ _ h => h
 obtain ⟨x1, x2, x3, x4, x5⟩ := (box_facts hx2).1
 have x0 := cell_of_row W b1 0 _ _ _ hx1
 simp at x0
 have hMl := hMk.lt
 have hl1 := heap_lt hx1
 have hl2 := heap_lt hx2
 have hcf : ∀ w' : World, Below W.heap.size W w' → (w'.cell? ⟨b1, 0, none⟩ = some (.pointer (some ⟨Mb, 0, none⟩)) ∧ w'.cell? ⟨b2, 0, none⟩ = some (.int .i64 t.op) ∧ w'.cell? ⟨b2, 1, none⟩ = some (.string (bs t.s)) ∧ w'.cell? ⟨b2, 2, none⟩ = some (.int .i64 t.n) ∧ w'.cell? ⟨b2, 3, none⟩ = some (.slice A ln c) ∧ w'.cell? ⟨b2, 4, none⟩ = some (.int .i64 t.line) ∧ w'.cell? ⟨Mb, 2, none⟩ = some (.slice (some ⟨g2, off2, none⟩) X.fs.length cs2) ∧ w'.cell? ⟨g2, off2 + 4, none⟩ = some (.int .i64 s0.thr)) := fun w' hb => by
  have hq : ∀ b o v, b < W.heap.size → W.cell? ⟨b, o, none⟩ = some v → w'.cell? ⟨b, o, none⟩ = some v := fun b o v h h' => (cell_block (hb.block b h) ⟨b, o, none⟩ rfl).trans h'
  exact ⟨hq _ _ _ hl1 x0, hq _ _ _ hl2 x1, hq _ _ _ hl2 x2, hq _ _ _ hl2 x3, hq _ _ _ hl2 x4, hq _ _ _ hl2 x5, hq _ _ _ hMl hmc, hq _ _ _ hg2 f4⟩
 have hcr : ∀ (w' : World) xs, J xs w' → RdKeeps mine W w' → (w'.cell? ⟨b1, 0, none⟩ = some (.pointer (some ⟨Mb, 0, none⟩)) ∧ w'.cell? ⟨b2, 0, none⟩ = some (.int .i64 t.op) ∧ w'.cell? ⟨b2, 1, none⟩ = some (.string (bs t.s)) ∧ w'.cell? ⟨b2, 2, none⟩ = some (.int .i64 t.n) ∧ w'.cell? ⟨b2, 3, none⟩ = some (.slice A ln c) ∧ w'.cell? ⟨b2, 4, none⟩ = some (.int .i64 t.line) ∧ w'.cell? ⟨Mb, 2, none⟩ = some (.slice (some ⟨g2, off2, none⟩) X.fs.length cs2) ∧ w'.cell? ⟨g2, off2 + 4, none⟩ = some (.int .i64 s0.thr)) := fun w' xs hj hr => by
  obtain ⟨⟨rv', rs', hm'⟩, -⟩ := hK _ _ hj
  have hq : ∀ b o v, b < W.heap.size → ¬ mine W b → W.cell? ⟨b, o, none⟩ = some v → w'.cell? ⟨b, o, none⟩ = some v := fun b o v h hn h' => (cell_block (hr.keep b h hn) ⟨b, o, none⟩ rfl).trans h'
  exact ⟨hq _ _ _ hl1 hn1 x0, hq _ _ _ hl2 hn2 x1, hq _ _ _ hl2 hn2 x2, hq _ _ _ hl2 hn2 x3, hq _ _ _ hl2 hn2 x4, hq _ _ _ hl2 hn2 x5, hm'.cells.1.2.2.1.trans (congrArg some efs), hq _ _ _ hg2 (hnl _ hgm) f4⟩
 have HSD := Lib.hid (hcf W.drew (drew_below W))
 have HCF := Lib.hid hcf
 have HCR := Lib.hid hcr
 have HN := Lib.hid hNum
 have HP := Lib.hid hPre
 clear hcf hcr hNum hPre hT hS0 hz hb1 hb2 hok hW hJ hM hMs hY hK h0 hMk hx1 hx2 hfs9 f0 f1 f2 f3 hg2 hgm hlb hMl hl1 hl2 hn1 hn2 hnl efs hln hX hfs
 refine callsIn_wide.2 ?_
 go_enter Tryz.func74, Tryz.ntmps74
 go_upto_region 0 with fail
 go_region_held3 (fun w' => w'.cell? ⟨b1, 0, none⟩ = some (.pointer (some ⟨Mb, 0, none⟩)) ∧ w'.cell? ⟨b2, 0, none⟩ = some (.int .i64 t.op) ∧ w'.cell? ⟨b2, 1, none⟩ = some (.string (bs t.s)) ∧ w'.cell? ⟨b2, 2, none⟩ = some (.int .i64 t.n) ∧ w'.cell? ⟨b2, 3, none⟩ = some (.slice A ln c) ∧ w'.cell? ⟨b2, 4, none⟩ = some (.int .i64 t.line) ∧ w'.cell? ⟨Mb, 2, none⟩ = some (.slice (some ⟨g2, off2, none⟩) X.fs.length cs2) ∧ w'.cell? ⟨g2, off2 + 4, none⟩ = some (.int .i64 s0.thr))
  (first | go_keep | exact HSD.out | exact HSa.out | exact HSb.out)
  (first
   | (go_at_call 76; refine (HN.out W.drew (drew_below W)).mono ?_; rintro e w1 ⟨cs, rfl, hnt, hb⟩; have HQ := Lib.hid (And.intro hnt hb); have HSa := Lib.hid (HCF.out w1 ((drew_below W).trans hb)); clear hnt hb)
   | (go_at_call 75; refine (HP.out W.drew w1 w1 cs (drew_below W) HQ.out.1 HQ.out.2 (Below.refl _ _)).mono ?_; rintro e w2 ⟨rfl, ⟨xs, hxs, hj⟩, hr⟩; have HSb := Lib.hid (HCR.out w2 xs hj hr); have HL := Lib.hid (And.intro hxs hj); clear hxs hj hr))
 all_goals
  go_wp2
  go_end0
  exact ⟨⟨_, rfl⟩, _, HL.out.1, HL.out.2⟩
end
section
open Go.RowKit Go.Proofs Go.Shelf
attribute [local go_sem] Oper.semAt_some
abbrev RQ (X : Cx) (t : Tr) (s0 : FS) (xs : List (Ev9 × List Value)) : Prop := xs.map (·.1) = evR X t 0 ⟨0, s0.thr, false⟩
def InR (W0 w4 : World) (Mb fB : Nat) (X : Cx) (fv fsv : Value) (t : Tr) (s0 : FS) (pre : List (Ev9 × List Value)) (A : World) : Prop :=
 ∃ rv', MkAt W0 A Mb fB X fv fsv rv' (rulesE X (pre.map (·.1))) ∧ Only (fun i => i = Mb) w4 A ∧ (∀ k, rv'.ownBlock = some k → w4.heap.size ≤ k) ∧ ∃ xs, RQ X t s0 xs ∧ pre <+: xs
theorem InR.it {W0 w4 A B : World} {Mb fB base : Nat} {X : Cx} {fv fsv : Value} {t : Tr} {s0 : FS} {pre : List (Ev9 × List Value)} (h : InR W0 w4 Mb fB X fv fsv t s0 pre A) (g : ItA base A B) (hb : w4.heap.size ≤ base) (hm : Mb ≤ base) : InR W0 w4 Mb fB X fv fsv t s0 pre B := by
 obtain ⟨rv', h1, h2, h3, h4⟩ := h
 exact ⟨rv', h1.it g hm, ⟨g.os.trans h2.os, g.tape.trans h2.tape, g.output.trans h2.output, Nat.le_trans h2.size g.size, fun k hk hn => by
  have h5 := h2.block k hk hn
  rw [← h5, Array.getElem?_eq_getElem (Nat.lt_of_lt_of_le hk h2.size)]
  exact g.keep k _ (Array.getElem?_eq_getElem _) (.inl (by omega))⟩, h3, h4⟩
theorem rule_any {W0 W : World} {Mb fB : Nat} {X : Cx} {fv fsv : Value} (hX : CxOK X) (hM : MkAt W0 W Mb fB X fv fsv (.slice none 0 0) []) {t : Tr} {S0 : Nat → Prop} {A : Option Addr} {c : Nat} (hT : TreeAt W S0 t (.agg #[.int .i64 t.op, .string (bs t.s), .int .i64 t.n, .slice A t.l.length c, .int .i64 t.line])) (hS0 : ∀ i, S0 i → i < W.heap.size) (hz : t.size ≤ 100000)
  {s0 : FS} (hfs : X.fs[0]? = some s0) (hok : ∀ e ∈ evR X t 0 ⟨0, s0.thr, false⟩, PartOK X e.t ∧ (e.p.tg = false → RuleOK X e.t e.p)) (hlen : (rulesE X (evR X t 0 ⟨0, s0.thr, false⟩)).length ≤ 600000) :
  Calls Tryz.prog 27 #[.pointer (some ⟨Mb, 0, none⟩), .agg #[.int .i64 t.op, .string (bs t.s), .int .i64 t.n, .slice A t.l.length c, .int .i64 t.line]] W fun e W' => (∃ v, e = .returned v) ∧ ∃ rv', MkAt W0 W' Mb fB X fv fsv rv' (rulesE X (evR X t 0 ⟨0, s0.thr, false⟩)) ∧ Only (fun i => i = Mb) W W' ∧ ∀ k, rv'.ownBlock = some k → W.heap.size ≤ k := by
 obtain ⟨ln, hln⟩ : ∃ y, t.l.length = y := ⟨_, rfl⟩
 rw [hln] at hT ⊢
 have hMl := hM.lt
 obtain ⟨N, eN⟩ : ∃ y, W.heap.size = y := ⟨_, rfl⟩
 have hal := below_alloc9 W (.cells #[.int .i64 t.op, .string (bs t.s), .int .i64 t.n, .slice A ln c, .int .i64 t.line] 24)
 have hbx := heap_alloc_new W (.cells #[.int .i64 t.op, .string (bs t.s), .int .i64 t.n, .slice A ln c, .int .i64 t.line] 24)
 obtain ⟨W1, e1⟩ : ∃ y, W.alloc (.cells #[.int .i64 t.op, .string (bs t.s), .int .i64 t.n, .slice A ln c, .int .i64 t.line] 24) = y := ⟨_, rfl⟩
 rw [e1] at hal hbx
 rw [eN] at hbx hMl
 have HK := Lib.hid (kinds_any Mb W1)
 have H := Lib.hid (And.intro hX (And.intro hM (And.intro hT (And.intro hS0 (And.intro hz (And.intro hfs (And.intro hok hlen)))))))
 have HA := Lib.hid (And.intro hal (And.intro hbx eN))
 clear hX hM hT hS0 hz hfs hok hlen hal hbx
 refine (callsIn_wide (n := 8)).1 ?_
 refine callsIn_of_wp_marks Tryz.func27 rfl trivial ?_ rfl
 simp only [Tryz.ntmps27, List.size_toArray, List.length_cons, List.length_nil, Nat.reduceAdd, Nat.reduceSub, Array.replicate_succ, Array.replicate_zero, List.push_toArray, List.append_toArray, List.nil_append, List.cons_append]
 gi_upto_region 1 with fail
 gi_wp2_with fail
 refine ⟨trivial, ?_⟩
 gi_at_call 42
 refine (callsIn_wide.2 HK.out).mono ?_
 rintro e w2 ⟨bm, rfl, hkm, hbm, hb2⟩
 have hx2 := (hb2.block N (heap_lt HA.out.2.1)).trans HA.out.2.1
 obtain ⟨n0, n1, n2, n3, n4⟩ := (box_facts hx2).1
 have hal3 := below_alloc9 w2 (.cells #[.map (some bm)] 85)
 have hb3 := heap_alloc_new w2 (.cells #[.map (some bm)] 85)
 obtain ⟨w3, e3⟩ : ∃ y, w2.alloc (.cells #[.map (some bm)] 85) = y := ⟨_, rfl⟩
 obtain ⟨Kb, eK⟩ : ∃ y, w2.heap.size = y := ⟨_, rfl⟩
 rw [e3] at hal3 hb3
 rw [eK] at hb3
 have hx3 := (hal3.block N (heap_lt hx2)).trans hx2
 obtain ⟨m0, m1, m2, m3, m4⟩ := (box_facts hx3).1
 gi_wp2_with fail
 refine ⟨trivial, ?_⟩
 gi_at_call 43
 refine (rtrees_in _ Mb t.op t.n t.line t.s A ln c _).mono ?_
 rintro e w9 ⟨rfl, e9⟩
 obtain ⟨hal4, hb4, hb5, hz4⟩ := alloc2 w3 (.cells #[.pointer (some ⟨Mb, 0, none⟩)] 84) (.cells #[.int .i64 t.op, .string (bs t.s), .int .i64 t.n, .slice A ln c, .int .i64 t.line] 24)
 rw [← e9] at hal4 hb4 hb5 hz4
 obtain ⟨b1, eb1⟩ : ∃ y, w3.heap.size = y := ⟨_, rfl⟩
 rw [eb1] at hb4 hb5 hz4 ⊢
 clear e9 e3 n0 n1 n2 n3 n4 m0 m1 m2 m3 m4 hx2 hx3
 have hb29 : Below W1.heap.size W1 w2 := hb2
 have s1 : W1.heap.size = N + 1 := by rw [← e1, World.size_alloc, eN]
 have s2 : W1.heap.size ≤ Kb := by rw [← eK]; exact hb2.size
 have s3 : Kb + 1 ≤ b1 := by rw [← eb1]; exact heap_lt hb3
 have hW9 : Below W.heap.size W w9 := HA.out.1.trans ((hb2.mono (by omega)).trans ((hal3.mono (by omega)).trans (hal4.mono (by have := HA.out.1.size; omega))))
 have hm9 : MkAt W0 w9 Mb fB X fv fsv (.slice none 0 0) [] := H.out.2.1.below hW9
 have hkb9 : w9.heap[Kb]? = some (.cells #[.map (some bm)] 85 (0, 0)) := (hal4.block Kb (heap_lt hb3)).trans hb3
 have hbk : bm < w2.heap.size := World.ownsMap.lt hkm
 have hkm9 : KM w9 Mb bm kindsL := hkm.same ((hal4.block bm (by omega)).trans (hal3.block bm hbk))
 have hI0 : InR W0 w9 Mb fB X fv fsv t s0 [] w9 := ⟨_, hm9, Only.refl _ _, fun k hk => by simp [Value.ownBlock] at hk, _, (show RQ X t s0 (evC w9 X t 0 ⟨0, s0.thr, false⟩ []) from evC_map _ _ _ _ _ _), List.nil_prefix⟩
 have hTw : TreeAt w9 S0 t (.agg #[.int .i64 t.op, .string (bs t.s), .int .i64 t.n, .slice A ln c, .int .i64 t.line]) := H.out.2.2.1.keep (fun _ h => h) (fun i hi => hW9.block i (H.out.2.2.2.1 i hi))
 have HI := Lib.hid (And.intro hI0 (And.intro hTw (And.intro hkb9 (And.intro hkm9 (And.intro hb4 hb5)))))
 have HZ := Lib.hid (And.intro hz4 hW9)
 clear hI0 hTw hkb9 hkm9 hb4 hb5 hm9 hW9 hb29 hkm hb2 hal3 hal4 hb3
 have hsz : Mb < N ∧ N < w9.heap.size ∧ b1 + 2 = w9.heap.size ∧ Kb < b1 ∧ bm < Kb ∧ N < bm := ⟨hMl, by have := HZ.out.1; omega, HZ.out.1.symm, by omega, by omega, by omega⟩
 rw [← hln] at HI
 have hseq := rtrees_seq (W0 := W0) (Mb := Mb) (fB := fB) (fv := fv) (fsv := fsv) (8 - 1) H.out.1 (b1 := b1) (b2 := b1 + 1) (mineK Mb) w9 HI.out.2.1 (fun i hi => Nat.lt_of_lt_of_le (H.out.2.2.2.1 i hi) HZ.out.2.size) H.out.2.2.2.2.1 HI.out.2.2.2.2.1 HI.out.2.2.2.2.2 H.out.2.2.2.2.2.1 (fun e he => (H.out.2.2.2.2.2.2.1 e he).1)
 rw [hln] at HI
 gi_wp2_with fail
 refine wpIn_rangeRowsX (mine := mineK Mb) (encs := encC) rfl (by omega) (gf := 74) (lb := #[.pointer (some ⟨b1, 0, none⟩), .pointer (some ⟨b1 + 1, 0, none⟩)]) rfl trivial (enters_of Tryz.func74 (by kernel_rfl) rfl) hseq (Below.refl _ _) (fun _ => rfl)
  (InR W0 w9 Mb fB X fv fsv t s0)
  (fun pre A h => by
   obtain ⟨rv', h1, h2, h3, h4⟩ := h
   have hno : ∀ k, k ≠ Mb → k < w9.heap.size → ¬ mineK Mb A k := fun k hk hl hm => (mineK_of h1 hm).elim hk (fun h => by have := h3 k h; omega)
   exact ⟨⟨_, _, h1⟩, hno _ (by omega) (by omega), hno _ (by omega) (by omega), fun k hk => hno _ (by omega) (by omega)⟩)
  (fun pre A B h g => h.it g (Nat.le_refl _) (by omega))
  (fun pre A k h hk => by obtain ⟨rv', h1, -⟩ := h; exact mineK_cells h1 hk)
  (fun A B k g h => mineK_it g h) (fun x A B h hk hm => h.keep hk hm) HI.out.1
  (fun e a' W' => ∃ B5, W'.heap[B5]? = some (.cells e.2.toArray 92 (0, 0)) ∧ W'.heap[B5 + 1]? = some (.cells #[.int .i64 e.1.p.fn, .int .i64 e.1.p.th, .bool e.1.p.tg] 94 (0, 0)) ∧ a' = { tmps := (.pointer (some ⟨Mb, 0, none⟩) :: .agg #[.int .i64 t.op, .string (bs t.s), .int .i64 t.n, .slice A ln c, .int .i64 t.line] :: undef :: .pointer (some ⟨N, 0, none⟩) :: .pointer (some ⟨Kb, 0, none⟩) :: .pointer (some ⟨B5, 0, none⟩) :: .pointer (some ⟨B5 + 1, 0, none⟩) :: undef :: undef :: .pointer (some ⟨Mb, 0, none⟩) :: .map (some bm) :: .pointer (some ⟨Mb, 0, none⟩) :: .agg #[.int .i64 t.op, .string (bs t.s), .int .i64 t.n, .slice A ln c, .int .i64 t.line] :: .func (.func 74) #[] #[.pointer (some ⟨b1, 0, none⟩), .pointer (some ⟨b1 + 1, 0, none⟩)] :: .agg e.2.toArray :: .agg #[.int .i64 e.1.p.fn, .int .i64 e.1.p.th, .bool e.1.p.tg] :: undef :: undef :: undef :: undef :: undef :: undef :: undef :: undef :: undef :: undef :: undef :: undef :: undef :: undef :: undef :: undef :: undef :: undef :: []).toArray, defers := [] })
  (fun e a' A B h g => by
   obtain ⟨B5, g1, g2, g3⟩ := h
   exact ⟨B5, g _ _ g1 rfl, g _ _ g2 rfl, g3⟩)
  ?assign ?body ?done
 case assign =>
  rintro l pre ⟨⟨te, ke, pe⟩, cse⟩ W' K' hI ⟨S, hNt, hS⟩ hK
  dsimp only at hNt
  obtain ⟨A0, n0, c0, Ae, ce, rfl, hc, -⟩ := (NtP_eq _ _ _ _ _).1 hNt
  clear hI hNt hS hc
  unfold encC placeW ntV
  unfold ntV at hK
  obtain ⟨esz, eesz⟩ : ∃ q, ke + te.size = q := ⟨_, rfl⟩
  rw [eesz] at hK ⊢
  have HKK := Lib.hid hK
  clear hK
  gi_wp2
  obtain ⟨h1, h2, h3, h4⟩ := alloc2 W' (.cells #[.int .i64 te.op, .string (bs te.s), .int .i64 te.n, .slice A0 n0 c0, .int .i64 te.line, .int .i64 ke, .int .i64 esz, .slice Ae te.l.length ce] 92) (.cells #[.int .i64 pe.fn, .int .i64 pe.th, .bool pe.tg] 94)
  exact HKK.out _ _ h1 ⟨W'.heap.size, h2, h3, rfl⟩
 case body =>
  rintro l pre ⟨⟨te, ke, ⟨pf, pth, ptg⟩⟩, cse⟩ a' W' hl ⟨rv', hm', ho', hn', hpx⟩ ⟨B5, hB5, hB6, rfl⟩ ⟨S, hNt, hS⟩ ⟨xs, hR, hpre⟩
  dsimp only at hNt hB5 hB6
  have he : (⟨te, ke, ⟨pf, pth, ptg⟩⟩ : Ev9) ∈ evR X t 0 ⟨0, s0.thr, false⟩ := by
   rw [← hR]
   exact List.mem_map_of_mem (f := (·.1)) (hpre.subset (List.mem_append_right _ (List.mem_singleton.2 rfl)))
  have hRO := (H.out.2.2.2.2.2.2.1 _ he).2
  have hx0 := (ho'.block Kb (by omega) (by omega)).trans HI.out.2.2.1
  have hkm' : KM W' Mb bm kindsL := HI.out.2.2.2.1.same (ho'.block bm (by omega) (by omega))
  have hlr : (rulesE X (pre.map (·.1))).length ≤ 600000 := by
   refine Nat.le_trans (rulesE_le (b := evR X t 0 ⟨0, s0.thr, false⟩) ?_) H.out.2.2.2.2.2.2.2
   rw [← hR]
   exact ((List.prefix_append pre _).trans hpre).map _
  have hz9 := ho'.size
  have hadd : ∀ (w2 : World) (rv2 : Value), MkAt W0 w2 Mb fB X fv fsv rv2 (rulesE X (pre.map (·.1)) ++ rulesAt X te ke ⟨pf, pth, ptg⟩) → Only (mkF Mb rv') W' w2 → (∀ k, rv2.ownBlock = some k → rv'.ownBlock = some k ∨ W'.heap.size ≤ k) → RdKeeps (mineK Mb) W' w2 ∧ InR W0 w9 Mb fB X fv fsv t s0 (pre ++ [(⟨te, ke, ⟨pf, pth, ptg⟩⟩, cse)]) w2 := fun w2 rv2 h1 h2 h3 =>
   ⟨rd_add hm' h1 h2 h3, rv2, by simpa [rulesE] using h1, ho'.trans (h2.mono fun i hi hf => hf.elim .inl (fun h => .inr ⟨hn' i h, hi⟩)), fun k hk => (h3 k hk).elim (hn' k) (fun h => Nat.le_trans hz9 h), xs, hR, hpre⟩
  have hno : rulesAt X te ke ⟨pf, pth, ptg⟩ = [] → RdKeeps (mineK Mb) W' W' ∧ InR W0 w9 Mb fB X fv fsv t s0 (pre ++ [(⟨te, ke, ⟨pf, pth, ptg⟩⟩, cse)]) W' := fun h => hadd _ _ (by rw [h, List.append_nil]; exact hm') (Only.refl _ _) (fun k hk => .inl hk)
  have hdo := fun (htg : ptg = false) (i : Nat) (hi : kindIn kindsL te.op = some i) => do_any H.out.1 hm' hNt (fun i hi => ⟨by obtain ⟨o, h1, -⟩ := (hS i hi).1; exact heap_lt h1, fun h => (hS i hi).2 (mineK_mk hm' h)⟩) (hRO htg) htg hlr hi
  obtain ⟨A0, n0, c0, Ae, ce, rfl, hc, -⟩ := (NtP_eq _ _ _ _ _).1 hNt
  have hlook := hkm'.look te.op ⟨hc.2.2.2.1.1, hc.2.2.2.1.2⟩
  unfold ntV at *
  unfold placeW at hdo
  obtain ⟨q0, q1, q2, q3, q4, q5, q6, q7⟩ := (box8 hB5).1
  obtain ⟨p0, p1, p2⟩ := box3c hB6
  have x0 := cell_of_row W' Kb 0 _ _ _ hx0
  simp at x0
  have HN := Lib.hid hno
  have HA9 := Lib.hid hadd
  have HD := Lib.hid hdo
  clear hno hadd hdo hkm' hx0 hlr hRO he hB5 hB6 hm' ho' hn' hpx hNt hS hR hpre hz9
  cases hki : kindIn kindsL te.op with
  | none =>
   rw [hki] at hlook
   have HH := Lib.hid (HN.out (by rw [rulesAt, rules_none hki]; simp))
   clear hki
   unfold mthO at hlook
   simp only [Option.isSome] at hlook
   gi_wp2
   exact HH.out
  | some i =>
   rw [hki] at hlook
   unfold mthO mthV at hlook
   simp only [Option.isSome] at hlook
   cases ptg with
   | true =>
    have HH := Lib.hid (HN.out (by simp [rulesAt]))
    clear hki
    gi_wp2
    exact HH.out
   | false =>
    have HC := Lib.hid (HD.out rfl i hki)
    clear HD
    have hm := kind_some hki
    simp only [kindsL, List.mem_cons, Prod.mk.injEq, List.not_mem_nil, or_false] at hm
    gi_wp2_with fail
    clear hki hlook
    rcases hm with ⟨-, rfl⟩ | ⟨-, rfl⟩ | ⟨-, rfl⟩ | ⟨-, rfl⟩ | ⟨-, rfl⟩ | ⟨-, rfl⟩ | ⟨-, rfl⟩ | ⟨-, rfl⟩ | ⟨-, rfl⟩ | ⟨-, rfl⟩ | ⟨-, rfl⟩ | ⟨-, rfl⟩ | ⟨-, rfl⟩ | ⟨-, rfl⟩ | ⟨-, rfl⟩ | ⟨-, rfl⟩
    all_goals
     refine ⟨trivial, fun h => absurd h (by simp [Fence.wide]), ?_⟩
     first
      | gi_at_call 73
      | gi_at_call 72
      | gi_at_call 71
      | gi_at_call 70
      | gi_at_call 69
      | gi_at_call 68
      | gi_at_call 67
      | gi_at_call 66
      | gi_at_call 65
      | gi_at_call 64
      | gi_at_call 63
      | gi_at_call 62
      | gi_at_call 61
      | gi_at_call 60
     refine (CallsIn.inRound l (callsIn_wide.2 HC.out)).mono ?_
     rintro e w2 ⟨⟨v, rfl⟩, rv2, h1, h2, h3⟩
     have HH := Lib.hid (HA9.out _ _ h1 h2 h3)
     clear h1 h2 h3
     gi_wp2
     exact HH.out
 case done =>
  rintro D W' xs hR hD ⟨rv', h1, h2, h3, -⟩ hK
  have hgr := grownBy_putObj' W' D (.deferred none)
  have hit : ItA w9.heap.size W' (W'.putObj D (.deferred none)) := ⟨hgr.os, hgr.tape, hgr.output, hgr.size, fun k o hk hm => (World.putObj_heap_other (fun e => by
   subst e
   rw [hK] at hk
   cases hk
   rcases hm with h | h
   ·omega
   ·cases h)).trans hk⟩
  have hon : Only (fun i => i = Mb) W (W'.putObj D (.deferred none)) := (Only.of_below HZ.out.2).trans' ((⟨h2.os, h2.tape, h2.output, h2.size, h2.block⟩ : Only (fun i => i = Mb) w9 W').trans ⟨hit.os, hit.tape, hit.output, hit.size, fun k hk hn => World.putObj_heap_other (fun e => hn (.inr ⟨by omega, by omega⟩))⟩)
  have HX := Lib.hid (And.intro (h1.it hit (by omega)) (And.intro hon (And.intro h3 hK)))
  clear h1 h2 h3 hgr hit hon
  gi_wp2
  refine ⟨by simp, .inl ⟨_, _, rfl, run_takeDeferred HX.out.2.2.2, ?_⟩⟩
  refine ⟨_, results_none rfl _ _ _, ⟨_, rfl⟩, rv', ?_, HX.out.2.1, fun k hk => Nat.le_trans HZ.out.2.size (HX.out.2.2.1 k hk)⟩
  have h9 := HX.out.1
  rw [show xs.map (·.1) = evR X t 0 ⟨0, s0.thr, false⟩ from hR] at h9
  exact h9
end
end Go.Proofs.YtikbfoichhkeaaaGreat
