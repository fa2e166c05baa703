/- The document's reader: nodes in boxes. The document's reader: stmt. The document's reader: stmts. -/
import Derived.Deep.RegionHeldLaw
import Derived.Deep.LoopGhost
import Derived.Deep.DeepCutAuto
import Derived.Test.YtikbfoichhkeaaaGreatVm23
set_option linter.unusedSimpArgs false
set_option linter.unusedVariables false
set_option maxRecDepth 100000
set_option maxHeartbeats 40000000
namespace Go.Proofs.YtikbfoichhkeaaaGreat
section
open Go.RowKit Go.Proofs
section
variable {R cp : Nat} {A : Option Addr} {L : List Tok} {st st1 : St} {w wa wk w' : World} {t : Tr} {l : List Tr} {v : Value} {B : Nat}
structure Pl (R : Nat) (A : Option Addr) (cp : Nat) (L : List Tok) (w wk : World) (st : St) : Prop where
 rd : RdAt wk R A cp L st
 fr : Fr R w wk
theorem Pl.start (h : RdAt w R A cp L st) : Pl R A cp L w w st := ⟨h, Only.refl _ _⟩
theorem Pl.call (m : Pl R A cp L w wk st) (h : RdAt w' R A cp L st1) (hf : Fr R wk w') : Pl R A cp L w w' st1 := ⟨h, m.fr.trans' hf⟩
def Bx (W : World) (B : Nat) (v0 v1 v2 v3 v4 : Value) : Prop := W.heap[B]? = some (.cells #[v0, v1, v2, v3, v4] 24 (0, 0))
section
variable {v0 v1 v2 v3 v4 : Value}
theorem Bx.fr (h : Bx wk B v0 v1 v2 v3 v4) (hf : Fr R wk w') (hR : R < B) : Bx w' B v0 v1 v2 v3 v4 := (hf.block B (heap_lt h) (by omega)).trans h
theorem Bx.below {b : Nat} (h : Bx wk B v0 v1 v2 v3 v4) (hb : Below b wk w') (hB : wk.heap.size ≤ b) : Bx w' B v0 v1 v2 v3 v4 := (hb.block B (by have := heap_lt h; omega)).trans h
theorem Bx.cells (h : Bx wk B v0 v1 v2 v3 v4) : wk.cell? ⟨B, 0, none⟩ = some v0 ∧ wk.cell? ⟨B, 1, none⟩ = some v1 ∧ wk.cell? ⟨B, 2, none⟩ = some v2 ∧ wk.cell? ⟨B, 3, none⟩ = some v3 ∧ wk.cell? ⟨B, 4, none⟩ = some v4 := (box_facts h).1
theorem Bx.thaw (h : Bx wk B v0 v1 v2 v3 v4) : wk.frozen? ⟨B, 0, none⟩ = false ∧ wk.frozen? ⟨B, 1, none⟩ = false ∧ wk.frozen? ⟨B, 2, none⟩ = false ∧ wk.frozen? ⟨B, 3, none⟩ = false ∧ wk.frozen? ⟨B, 4, none⟩ = false := (box_facts h).2
theorem tok_kind (kd : Int) (ts : Bs) (tn : Int) (ln : Nat) (nl : Bool) (W : World) : Sem.run Tryz.prog (Instr.field 112 (.agg #[.int .i64 kd, .string (bs ts), .int .i64 tn, .int .i64 ln, .bool nl]) 0) W = .ok (.int .i64 kd) W := by kernel_rfl
theorem tok_line (kd : Int) (ts : Bs) (tn : Int) (ln : Nat) (nl : Bool) (W : World) : Sem.run Tryz.prog (Instr.field 112 (.agg #[.int .i64 kd, .string (bs ts), .int .i64 tn, .int .i64 ln, .bool nl]) 3) W = .ok (.int .i64 ln) W := by kernel_rfl
theorem Mid.box_ (m : Mid R A cp L w wk st) (v0 v1 v2 v3 v4 : Value) :
  ∃ W, wk.alloc (.cells #[v0, v1, v2, v3, v4] 24) = W ∧ Mid R A cp L w W st ∧ Fr R wk W ∧ Bx W wk.heap.size v0 v1 v2 v3 v4 ∧ W.heap.size = wk.heap.size + 1 :=
 ⟨_, rfl, m.call (m.rd.alloc _) (Only.alloc _ _), Only.alloc _ _, heap_alloc_new _ _, by simp⟩
theorem Mid.arr (m : Mid R A cp L w wk st) (cs : Array Value) :
  ∃ W, wk.alloc (.cells cs 24) = W ∧ Mid R A cp L w W st ∧ Fr R wk W ∧ W.heap[wk.heap.size]? = some (.cells cs 24 (0, 0)) ∧ W.heap.size = wk.heap.size + 1 :=
 ⟨_, rfl, m.call (m.rd.alloc _) (Only.alloc _ _), Only.alloc _ _, heap_alloc_new _ _, by simp⟩
theorem Mid.tok_ (m : Mid R A cp L w wk st) (kd : Int) (ts : Bs) (tn : Int) (ln : Nat) (nl : Bool) :
  ∃ W, wk.alloc (.cells #[.int .i64 kd, .string (bs ts), .int .i64 tn, .int .i64 ln, .bool nl] 112) = W ∧ Mid R A cp L w W st ∧ Fr R wk W ∧
   W.heap[wk.heap.size]? = some (.cells #[.int .i64 kd, .string (bs ts), .int .i64 tn, .int .i64 ln, .bool nl] 112 (0, 0)) ∧ W.heap.size = wk.heap.size + 1 :=
 ⟨_, rfl, m.call (m.rd.alloc _) (Only.alloc _ _), Only.alloc _ _, heap_alloc_new _ _, by simp⟩
theorem Bx.put3 (h : Bx wk B v0 v1 v2 v3 v4) (u : Value) : Bx (wk.setCell ⟨B, 3, none⟩ u) B v0 v1 v2 u v4 := by
 unfold Bx; rw [blk_set h]; rfl
theorem Bx.put0 (h : Bx wk B v0 v1 v2 v3 v4) (u : Value) : Bx (wk.setCell ⟨B, 0, none⟩ u) B u v1 v2 v3 v4 := by
 unfold Bx; rw [blk_set h]; rfl
theorem Bx.put1 (h : Bx wk B v0 v1 v2 v3 v4) (u : Value) : Bx (wk.setCell ⟨B, 1, none⟩ u) B v0 u v2 v3 v4 := by
 unfold Bx; rw [blk_set h]; rfl
end
theorem Bx.away {v0 v1 v2 v3 v4 : Value} {B' : Nat} (h : Bx wk B v0 v1 v2 v3 v4) (hb : B ≠ B') (i : Nat) (u : Value) : Bx (wk.setCell ⟨B', i, none⟩ u) B v0 v1 v2 v3 v4 :=
 (Below.heap_setCell wk _ _ B (by show B ≠ B'; exact hb)).trans h
abbrev Af (B : Nat) (W : World) : Nat → Prop := fun k => B < k ∧ k < W.heap.size
theorem TreeAt.af (h : TreeAt w' (New wk w') t v) (hB : B < wk.heap.size) : TreeAt w' (Af B w') t v := h.keep (fun k hk => ⟨by have := hk.1; omega, hk.2⟩) (fun k hk => rfl)
theorem RowAt.af (h : RowAt w' (New wk w') l v) (hB : B < wk.heap.size) : RowAt w' (Af B w') l v := h.keep (fun k hk => ⟨by have := hk.1; omega, hk.2⟩) (fun k hk => rfl)
theorem TreeAt.up (h : TreeAt wk (Af B wk) t v) (hf : Fr R wk w') (hR : R ≤ B) : TreeAt w' (Af B w') t v :=
 h.fr hf (fun k hk => ⟨hk.1, by have := hf.size; have := hk.2; omega⟩) (fun k hk => ⟨hk.2, by have := hk.1; omega⟩)
theorem RowAt.up (h : RowAt wk (Af B wk) l v) (hf : Fr R wk w') (hR : R ≤ B) : RowAt w' (Af B w') l v :=
 h.fr hf (fun k hk => ⟨hk.1, by have := hf.size; have := hk.2; omega⟩) (fun k hk => ⟨hk.2, by have := hk.1; omega⟩)
theorem TreeAt.lower {B' : Nat} (h : TreeAt wk (Af B wk) t v) (hB : B' ≤ B) : TreeAt wk (Af B' wk) t v := h.keep (fun k hk => ⟨by have := hk.1; omega, hk.2⟩) (fun k hk => rfl)
theorem RowAt.lower {B' : Nat} (h : RowAt wk (Af B wk) l v) (hB : B' ≤ B) : RowAt wk (Af B' wk) l v := h.keep (fun k hk => ⟨by have := hk.1; omega, hk.2⟩) (fun k hk => rfl)
theorem TreeAt.set (h : TreeAt wk (Af B wk) t v) (i : Nat) (u : Value) : TreeAt (wk.setCell ⟨B, i, none⟩ u) (Af B (wk.setCell ⟨B, i, none⟩ u)) t v :=
 h.keep (fun k hk => ⟨hk.1, by simp; exact hk.2⟩) (fun k hk => Below.heap_setCell wk _ _ k (by show k ≠ B; have := hk.1; omega))
theorem RowAt.set (h : RowAt wk (Af B wk) l v) (i : Nat) (u : Value) : RowAt (wk.setCell ⟨B, i, none⟩ u) (Af B (wk.setCell ⟨B, i, none⟩ u)) l v :=
 h.keep (fun k hk => ⟨hk.1, by simp; exact hk.2⟩) (fun k hk => Below.heap_setCell wk _ _ k (by show k ≠ B; have := hk.1; omega))
theorem Mid.set (m : Mid R A cp L w wk st) (hB : w.heap.size < B) (i : Nat) (u : Value) : Mid R A cp L w (wk.setCell ⟨B, i, none⟩ u) st := by
 have hs := Only.setCell (F := fun k => k = B) wk (b := B) rfl i u
 have := m.lt
 exact ⟨m.rd.only hs (fun i hi => by omega), Fr.own m.fr hs (fun i hi => by omega), (hs.block _ m.gt (by omega)).trans m.box, m.lt⟩
theorem Mid.drew (m : Mid R A cp L w wk st) : Mid R A cp L w wk.drew st := m.call (m.rd.keep fun i _ => rfl) ((Only.refl _ _).drew)
theorem Mid.gives' {fn : Func} {a : Act} {v0 v1 v2 v3 v4 : Value} (s : Nat) (m : Mid R A cp L w wk st1) (h : TreeAt wk (Af w.heap.size wk) t (.agg #[v0, v1, v2, v3, v4]))
  (hfn : fn.results = #[.cell s 24]) (hs : a.tmps.getD s undef = .pointer (some ⟨w.heap.size, 0, none⟩)) (hd : a.defers = []) :
  bodyPost Tryz.prog fn (GivesT R A cp L w t st1) .ret a (put5 wk w.heap.size v0 v1 v2 v3 v4) := Mid.gives s m h hfn hs hd
theorem own_blk {B : Nat} {ts : List Tr} (h : AccAt B wk ts v) {k : Nat} (hk : v.ownBlock = some k) : B ≤ k ∧ k < wk.heap.size := by
 obtain ⟨xs, -, h2, -⟩ := h
 exact own_lt h2 hk
theorem Pl.push {ts : List Tr} (m : Pl R A cp L w wk st) (h : AccAt w.heap.size wk ts v) (hon : Only (fun k => v.ownBlock = some k) wk w') (hR : R < w.heap.size) : Pl R A cp L w w' st :=
 ⟨m.rd.only hon (fun i hi => by have := own_blk h hi; omega), Fr.own m.fr hon (fun i hi => (own_blk h hi).1)⟩
theorem AccAt.fresh {ts : List Tr} {u : Value} (h : AccAt B wk ts v) (ht : TreeAt w' (New wk w') t u) (hB : B ≤ wk.heap.size) : TreeAt w' (fun k => (B ≤ k ∧ k < w'.heap.size) ∧ v.ownBlock ≠ some k) t u :=
 ht.keep (fun k hk => ⟨⟨by have := hk.1; omega, hk.2⟩, fun e => by have := (own_blk h e).2; have := hk.1; omega⟩) (fun k hk => rfl)
theorem TreeAt.leaf {S : Nat → Prop} {o k i : Int} {s : Bs} (W : World) (hf : Fine o s k) : TreeAt W S (.mk o s k i []) (.agg #[.int .i64 o, .string (bs s), .int .i64 k, .slice none 0 0, .int .i64 i]) := TreeAt.mk (RowAt.nil W S) hf
theorem Pl.givesL {ts : List Tr} (m : Pl R A cp L w wk st) (h : AccAt w.heap.size wk ts v) : GivesL R A cp L w ts st (.returned v) wk :=
 ⟨v, rfl, m.rd, m.fr, h.row.keep (fun k hk => hk) (fun k hk => rfl)⟩
theorem blk_fr {o : Obj} (h : wk.heap[B]? = some o) (hf : Fr R wk w') (hR : R < B) : w'.heap[B]? = some o := (hf.block B (heap_lt h) (by omega)).trans h
theorem blk_away {o : Obj} {B' : Nat} (h : wk.heap[B]? = some o) (hb : B ≠ B') (i : Nat) (u : Value) : (wk.setCell ⟨B', i, none⟩ u).heap[B]? = some o :=
 (Below.heap_setCell wk _ _ B (by show B ≠ B'; exact hb)).trans h
theorem Mid.next_ (m : Mid R A cp L w wk st) (hp : st.pos < L.length) :
  ∃ W, wk.setCell ⟨R, 1, none⟩ (.int .i64 ((st.pos : Int) + 1)) = W ∧ RdAt W R A cp L st.next ∧ Fr R wk W :=
 ⟨_, rfl, (m.rd.put_pos hp).1, (m.rd.put_pos hp).2⟩
theorem name_len (h : RdAt wk R A cp L st) : (nameR L st).1.length ≤ 65536 := by
 have := (h.tok_fine 0).1
 unfold nameR
 dsimp only
 split
 ·simp
 ·exact this
theorem fine_s {o : Int} {s : Bs} (h : s.length ≤ 65536) (ho : 0 ≤ o ∧ o ≤ 1000) : Fine o s 0 := ⟨by unfold maxLen; omega, by omega, by omega⟩
theorem wrap_next (h : st.pos < L.length) (hl : L.length ≤ 65536) : IntKind.i64.wrap ((st.pos : Int) + 1) = (st.pos : Int) + 1 := IntWalk.i64_in _ (by omega)
theorem bs_eq (s : Bs) (l : List UInt8) : ((bs s).toList == l) = decide (s = l) := by rw [Lib.toList_data, bs_list, Bool.eq_iff_iff]; simp
theorem tok_pos (h : RdAt wk R A cp L st) {kd : Int} {ts : Bs} {tn : Int} {ln : Nat} {nl : Bool} (ht : tokR L st 0 = ⟨kd, ts, tn, ln, nl⟩) (hk : kd ≠ 0) : st.pos < L.length := tok_lt0 (k := kd) (by rw [ht]) hk
theorem tok_len (h : RdAt wk R A cp L st) {kd : Int} {ts : Bs} {tn : Int} {ln : Nat} {nl : Bool} {k : Nat} (ht : tokR L st k = ⟨kd, ts, tn, ln, nl⟩) : ts.length ≤ 65536 ∧ 0 ≤ tn ∧ tn ≤ 999999999999999 := by
 have := h.tok_fine k
 rw [ht] at this
 exact this
theorem Fr.own2 (h : Fr R w wk) (k : Only (fun i => i = R ∨ i = B) wk w') (hB : w.heap.size ≤ B) : Fr R w w' :=
 ⟨k.os.trans h.os, k.tape.trans h.tape, k.output.trans h.output, Nat.le_trans h.size k.size, fun i hi hr => (k.block i (Nat.lt_of_lt_of_le hi h.size) (fun hf => by rcases hf with hf | hf <;> omega)).trans (h.block i hi hr)⟩
theorem Tr.eta_at {S : Nat → Prop} {y : Tr} {v : Value} (h : TreeAt wk S (.mk y.op y.s y.n y.line y.l) v) : TreeAt wk S y v := by cases y; exact h
theorem Only.of_set {n i : Nat} {u : Value} (h : Only (fun k => k = B) wk (wk.setCell ⟨B, i, none⟩ u)) (hB : n ≤ B) : Below n wk (wk.setCell ⟨B, i, none⟩ u) := ⟨h.os, h.tape, h.output, h.size, fun k hk => Below.heap_setCell wk _ _ k (by show k ≠ B; omega)⟩
abbrev AfX (b B : Nat) (W : World) : Nat → Prop := fun k => (b < k ∧ k < W.heap.size) ∧ k ≠ B
section
variable {b : Nat}
theorem TreeAt.upx (h : TreeAt wk (AfX b B wk) t v) (hf : Fr R wk w') (hR : R ≤ b) : TreeAt w' (AfX b B w') t v :=
 h.fr hf (fun k hk => ⟨⟨hk.1.1, by have := hf.size; have := hk.1.2; omega⟩, hk.2⟩) (fun k hk => ⟨hk.1.2, by have := hk.1.1; omega⟩)
theorem below_set {n : Nat} (W : World) (hB : n ≤ B) (i : Nat) (u : Value) : Below n W (W.setCell ⟨B, i, none⟩ u) := (Only.setCell (F := fun k => k = B) W (b := B) rfl i u).of_set hB
theorem TreeAt.x_before (h : TreeAt wk (Af b wk) t v) (hw : wk.heap.size ≤ B) : TreeAt wk (AfX b B wk) t v := h.keep (fun k hk => ⟨hk, by have := hk.2; omega⟩) (fun k hk => rfl)
theorem TreeAt.of_x (h : TreeAt wk (AfX b B wk) t v) : TreeAt wk (Af b wk) t v := h.keep (fun k hk => hk.1) (fun k hk => rfl)
theorem Mid.put5 (m : Mid R A cp L w wk st) (hB : w.heap.size < B) (v0 v1 v2 v3 v4 : Value) : Mid R A cp L w (put5 wk B v0 v1 v2 v3 v4) st := ((((m.set hB 0 v0).set hB 1 v1).set hB 2 v2).set hB 3 v3).set hB 4 v4
theorem Bx.put5 {u0 u1 u2 u3 u4 : Value} (h : Bx wk B u0 u1 u2 u3 u4) (v0 v1 v2 v3 v4 : Value) : Bx (put5 wk B v0 v1 v2 v3 v4) B v0 v1 v2 v3 v4 := put5_blk h
end
end
end
section
open Go.RowKit Go.Proofs
section
variable {R cp : Nat} {A : Option Addr} {L : List Tok} {st : St} {F : Nat}
theorem worded_ne (rec : M → St → Res) (line : Int) (s : Bs) (l : List Tr) (s' : St) (h : wordedR L rec line s st = some (l, s')) : l ≠ [] := by
 have bind : ∀ {α : Type} {o : Option α} {f : α → Res} {l : List Tr} {s' : St}, (o >>= f) = some (l, s') → (∀ x, f x = some (l, s') → l ≠ []) → l ≠ [] := fun {α o f l s'} e hf => by
  cases o with
  | none => cases e
  | some x => exact hf x e
 have hone : ∀ {t : Tr} {s : St} {l : List Tr} {s' : St}, one t s = some (l, s') → l ≠ [] := fun {t s l s'} e => by
  unfold one at e
  cases e
  simp
 unfold wordedR at h
 split at h
 ·dsimp only at h
  split at h
  ·exact bind h fun x h => hone h
  ·exact hone h
 ·cases h
theorem stmt_ok (ih : All R A cp L F) (l : List Tr) (st1 : St) (hr : run L (F + 1) .stmt st = some (l, st1)) : Spec R A cp L .stmt st l st1 := by
 intro w h
 rw [run] at hr
 dsimp only at hr
 cases ht : tokR L st 0 with | mk kd ts tn ln nl =>
 rw [ht] at hr
 dsimp only at hr
 have htl := tok_len h ht
 have hpz := tok_pos h ht
 have hR := h.lt
 by_cases hw : kd = 2
 ·subst hw
  have hps := hpz (by decide)
  clear hpz
  rw [if_pos rfl] at hr
  have H1 := Lib.hid (ih (.worded ln ts) _ _ _ hr hps)
  cases l with
  | nil =>
   exfalso
   cases F with
   | zero => cases hr
   | succ FF => exact worded_ne _ _ _ _ _ (show wordedR L (run L FF) ln ts st = some ([], st1) by rw [run] at hr; exact hr) rfl
  | cons y ys =>
   clear hr
   go_enter Tryz.func92, Tryz.ntmps92
   have m0 := Mid.start h
   obtain ⟨W1, eW1⟩ : ∃ W, w.alloc (.cells #[.int .i64 0, .string ⟨#[]⟩, .int .i64 0, .slice none 0 0, .int .i64 0] 24) = W := ⟨_, rfl⟩
   rw [eW1] at m0
   have hz0 := m0.gt
   have M0 := Lib.hid m0
   have hR := h.lt
   clear h m0
   have HQ0 := tok_any 0 W1 M0.out.rd (by omega)
   rw [ht] at HQ0
   unfold tokV at HQ0
   have HQ := Lib.hid HQ0
   clear HQ0
   go_wp2_with fail
   go_at_call 89
   refine (HQ.out).mono ?_
   rintro e w2 ⟨rfl, hb⟩
   have f2 := Fr.of_below (R := R) hb (Nat.le_refl _)
   have h2 := M0.out.rd.below hb M0.out.rd.lt
   have z2 := f2.size
   clear hb
   have M2 := Lib.hid ((M0.out.call h2 f2))
   clear h2 f2
   clear HQ
   obtain ⟨w3, e3, m3, f3, b3, zq3⟩ := M2.out.tok_ (2) ts tn ln nl
   have z3 : w2.heap.size < w3.heap.size := by omega
   clear zq3
   have M3 := Lib.hid (And.intro m3 (b3))
   have hl3 := heap_lt b3
   clear m3 f3 b3
   obtain ⟨t0, t1, t2, t3, t4⟩ := (box_facts M3.out.2).1
   obtain ⟨w4, e4, m4, f4, b4, zq4⟩ := M3.out.1.box_ (.int .i64 0) (.string ⟨#[]⟩) (.int .i64 0) (.slice none 0 0) (.int .i64 ln)
   have z4 : w3.heap.size < w4.heap.size := by omega
   clear zq4
   have M4 := Lib.hid (And.intro m4 (And.intro (blk_fr M3.out.2 f4 (by omega)) (b4)))
   clear m4 f4 b4
   obtain ⟨t0, t1, t2, t3, t4⟩ := (box_facts M4.out.2.1).1
   go_wp2_with fail
   go_at_call 116
   refine (H1.out w4 w3.heap.size M4.out.1.rd (by omega) M4.out.2.2).mono ?_
   rintro e w5 ⟨rfl, h5, o5, -, p5⟩
   have z5 := o5.size
   obtain ⟨v5, p5, r5, i5⟩ := p5 (by simp)
   try dsimp only [hd] at p5 r5 i5
   have m5 : Mid R A cp L w w5 _ := ⟨h5, Fr.own2 M4.out.1.fr o5 (by omega), (o5.block _ M4.out.1.gt (by omega)).trans M4.out.1.box, M4.out.1.lt⟩
   obtain ⟨A5, c5, rfl, -, -⟩ := r5.slice
   have p5 : Bx w5 (w3.heap.size) _ _ _ _ _ := p5
   have M5 := Lib.hid (And.intro m5 (And.intro p5 (And.intro (r5.af (B := w.heap.size) (by omega)) (i5))))
   clear m5 p5 r5 i5 h5 o5
   obtain ⟨x0, x1, x2, x3, x4⟩ := M5.out.2.1.cells
   obtain ⟨⟨y0, y1, y2, y3, y4⟩, g0, g1, g2, g3, g4⟩ := M5.out.1.facts
   go_wp2
   exact M5.out.1.gives' 2 (Tr.eta_at (TreeAt.mk (i := y.line) M5.out.2.2.1 M5.out.2.2.2)) rfl rfl rfl
 ·rw [if_neg hw] at hr
  by_cases k1 : kd = 1
  ·subst k1
   rw [if_pos rfl] at hr
   cases ht2 : tokR L st 1 with | mk kd2 ts2 tn2 ln2 nl2 =>
   rw [ht2] at hr
   dsimp only at hr
   by_cases hl : kd2 = 5 ∧ ts2 = [58]
   ·rw [if_pos hl] at hr
    cases hr
   rw [if_neg hl] at hr
   cases e2 : run L F .expr st with
   | none => simp [e2] at hr
   | some z =>
   obtain ⟨z, s3⟩ := z
   obtain ⟨rfl, rfl⟩ : [Tr.mk 31 [] 0 ln [hd z]] = l ∧ endR L s3 = st1 := by simpa [e2, one] using hr
   have H2 := Lib.hid (ih .expr _ _ _ e2)
   have hf : ((kd2 == 5) = true ∧ ((bs ts2).toList == [58]) = false) ∨ (kd2 == 5) = false := by
    rw [bs_eq]
    by_cases k5 : kd2 = 5
    ·exact .inl ⟨by simpa using k5, by simpa using fun h => hl ⟨k5, h⟩⟩
    ·exact .inr (by simpa using k5)
   clear hr e2 hpz hl hw
   rcases hf with ⟨dk3, q3⟩ | dk3
   all_goals
    go_enter Tryz.func92, Tryz.ntmps92
    have m0 := Mid.start h
    obtain ⟨W1, eW1⟩ : ∃ W, w.alloc (.cells #[.int .i64 0, .string ⟨#[]⟩, .int .i64 0, .slice none 0 0, .int .i64 0] 24) = W := ⟨_, rfl⟩
    rw [eW1] at m0
    have hz0 := m0.gt
    have M0 := Lib.hid m0
    have hR := h.lt
    clear h m0
    have HQ0 := tok_any 0 W1 M0.out.rd (by omega)
    rw [ht] at HQ0
    unfold tokV at HQ0
    have HQ := Lib.hid HQ0
    clear HQ0
    go_wp2_with fail
    go_at_call 89
    refine (HQ.out).mono ?_
    rintro e w2 ⟨rfl, hb⟩
    have f2 := Fr.of_below (R := R) hb (Nat.le_refl _)
    have h2 := M0.out.rd.below hb M0.out.rd.lt
    have z2 := f2.size
    clear hb
    have M2 := Lib.hid ((M0.out.call h2 f2))
    clear h2 f2
    clear HQ
    obtain ⟨w3, e3, m3, f3, b3, zq3⟩ := M2.out.tok_ (1) ts tn ln nl
    have z3 : w2.heap.size < w3.heap.size := by omega
    clear zq3
    have M3 := Lib.hid (And.intro m3 (b3))
    have hl3 := heap_lt b3
    clear m3 f3 b3
    obtain ⟨t0, t1, t2, t3, t4⟩ := (box_facts M3.out.2).1
    obtain ⟨w4, e4, m4, f4, b4, zq4⟩ := M3.out.1.box_ (.int .i64 0) (.string ⟨#[]⟩) (.int .i64 0) (.slice none 0 0) (.int .i64 ln)
    have z4 : w3.heap.size < w4.heap.size := by omega
    clear zq4
    have M4 := Lib.hid (And.intro m4 (And.intro (blk_fr M3.out.2 f4 (by omega)) (b4)))
    clear m4 f4 b4
    obtain ⟨t0, t1, t2, t3, t4⟩ := (box_facts M4.out.2.1).1
    have HQ0 := tok_any 1 w4 M4.out.1.rd (by omega)
    rw [ht2] at HQ0
    unfold tokV at HQ0
    have HQ := Lib.hid HQ0
    clear HQ0
    go_wp2_with fail
    go_at_call 89
    refine (HQ.out).mono ?_
    rintro e w5 ⟨rfl, hb⟩
    have f5 := Fr.of_below (R := R) hb (Nat.le_refl _)
    have h5 := M4.out.1.rd.below hb M4.out.1.rd.lt
    have z5 := f5.size
    clear hb
    have M5 := Lib.hid (And.intro (M4.out.1.call h5 f5) (And.intro (blk_fr M4.out.2.1 f5 (by omega)) (M4.out.2.2.fr f5 (by omega))))
    clear h5 f5
    clear HQ
    obtain ⟨w6, e6, m6, f6, b6, zq6⟩ := M5.out.1.tok_ kd2 ts2 tn2 ln2 nl2
    have z6 : w5.heap.size < w6.heap.size := by omega
    clear zq6
    have M6 := Lib.hid (And.intro m6 (And.intro (blk_fr M5.out.2.1 f6 (by omega)) (And.intro (M5.out.2.2.fr f6 (by omega)) (b6))))
    have hl6 := heap_lt b6
    clear m6 f6 b6
    obtain ⟨t0, t1, t2, t3, t4⟩ := (box_facts M6.out.2.1).1
    obtain ⟨u0, u1, u2, u3, u4⟩ := (box_facts M6.out.2.2.2).1
    obtain ⟨x0, x1, x2, x3, x4⟩ := M6.out.2.2.1.cells
    obtain ⟨q0, q1, q2, q3, q4⟩ := M6.out.2.2.1.thaw
    obtain ⟨w7, e7⟩ : ∃ W, w6.setCell ⟨w3.heap.size, 0, none⟩ (.int .i64 31) = W := ⟨_, rfl⟩
    have m7 := M6.out.1.set (B := w3.heap.size) (by omega) 0 (.int .i64 31)
    have i7_0 := blk_away (B' := w3.heap.size) M6.out.2.1 (by omega) 0 (.int .i64 31)
    have i7_1 := M6.out.2.2.1.put0 (.int .i64 31)
    have i7_2 := blk_away (B' := w3.heap.size) M6.out.2.2.2 (by omega) 0 (.int .i64 31)
    have z7 : w6.heap.size ≤ w7.heap.size := by rw [← e7]; simp
    rw [e7] at m7 i7_0 i7_1 i7_2
    have M7 := Lib.hid (And.intro m7 (And.intro i7_0 (And.intro i7_1 (i7_2))))
    clear m7 i7_0 i7_1 i7_2
    go_wp2_with fail
    go_at_call 117
    refine (H2.out w7 M7.out.1.rd).mono ?_
    rintro e w8 ⟨v8, rfl, h8, f8, t8⟩
    obtain ⟨A8, c8, rfl, -, -⟩ := t8.form
    have z8 := f8.size
    have M8 := Lib.hid (And.intro (M7.out.1.call h8 f8) (And.intro (blk_fr M7.out.2.1 f8 (by omega)) (And.intro (M7.out.2.2.1.fr f8 (by omega)) (And.intro (blk_fr M7.out.2.2.2 f8 (by omega)) (t8.af (B := w3.heap.size) (by omega))))))
    clear h8 f8 t8
    obtain ⟨w9, e9, m9, f9, b9, zq9⟩ := M8.out.1.arr #[.int .i64 (hd z).op, .string (bs (hd z).s), .int .i64 (hd z).n, .slice A8 (hd z).l.length c8, .int .i64 (hd z).line]
    have z9 : w8.heap.size < w9.heap.size := by omega
    clear zq9
    have M9 := Lib.hid (And.intro m9 (And.intro (blk_fr M8.out.2.1 f9 (by omega)) (And.intro (M8.out.2.2.1.fr f9 (by omega)) (And.intro (blk_fr M8.out.2.2.2.1 f9 (by omega)) (And.intro (M8.out.2.2.2.2.up f9 (by omega)) (b9))))))
    clear m9 f9 b9
    have r10 := RowAt.one M9.out.2.2.2.2.1 M9.out.2.2.2.2.2 rfl (show Af w3.heap.size w9 w8.heap.size from ⟨by omega, by omega⟩)
    have M10 := Lib.hid (And.intro M9.out.1 (And.intro M9.out.2.1 (And.intro M9.out.2.2.1 (And.intro M9.out.2.2.2.1 (r10)))))
    clear r10
    obtain ⟨x0, x1, x2, x3, x4⟩ := M10.out.2.2.1.cells
    obtain ⟨q0, q1, q2, q3, q4⟩ := M10.out.2.2.1.thaw
    obtain ⟨w11, e11⟩ : ∃ W, w9.setCell ⟨w3.heap.size, 3, none⟩ (.slice (some ⟨w8.heap.size, 0, none⟩) 1 1) = W := ⟨_, rfl⟩
    have m11 := M10.out.1.set (B := w3.heap.size) (by omega) 3 (.slice (some ⟨w8.heap.size, 0, none⟩) 1 1)
    have i11_0 := blk_away (B' := w3.heap.size) M10.out.2.1 (by omega) 3 (.slice (some ⟨w8.heap.size, 0, none⟩) 1 1)
    have i11_1 := M10.out.2.2.1.put3 (.slice (some ⟨w8.heap.size, 0, none⟩) 1 1)
    have i11_2 := blk_away (B' := w3.heap.size) M10.out.2.2.2.1 (by omega) 3 (.slice (some ⟨w8.heap.size, 0, none⟩) 1 1)
    have i11_3 := M10.out.2.2.2.2.set 3 (.slice (some ⟨w8.heap.size, 0, none⟩) 1 1)
    have z11 : w9.heap.size ≤ w11.heap.size := by rw [← e11]; simp
    rw [e11] at m11 i11_0 i11_1 i11_2 i11_3
    have M11 := Lib.hid (And.intro m11 (And.intro i11_0 (And.intro i11_1 (And.intro i11_2 (i11_3)))))
    clear m11 i11_0 i11_1 i11_2 i11_3
    have HQ := Lib.hid (end_any w11 M11.out.1.rd)
    go_wp2_with fail
    go_at_call 118
    refine (HQ.out).mono ?_
    rintro e w12 ⟨rfl, h12, f12⟩
    have z12 := f12.size
    have M12 := Lib.hid (And.intro (M11.out.1.call h12 f12) (And.intro (blk_fr M11.out.2.1 f12 (by omega)) (And.intro (M11.out.2.2.1.fr f12 (by omega)) (And.intro (blk_fr M11.out.2.2.2.1 f12 (by omega)) (M11.out.2.2.2.2.up f12 (by omega))))))
    clear h12 f12
    clear HQ
    obtain ⟨x0, x1, x2, x3, x4⟩ := M12.out.2.2.1.cells
    obtain ⟨⟨y0, y1, y2, y3, y4⟩, g0, g1, g2, g3, g4⟩ := M12.out.1.facts
    go_wp2
    exact M12.out.1.gives' 2 (TreeAt.mk (o := 31) (k := 0) (i := ln) (s := []) (M12.out.2.2.2.2.lower (by omega)) ⟨by simp, by omega, by omega⟩) rfl rfl rfl
  ·rw [if_neg k1] at hr
   cases hr
end
end
section
open Go.RowKit Go.Proofs
section
variable {R cp : Nat} {A : Option Addr} {L : List Tok} {st : St} {F : Nat}
theorem stmts_ok (ihs : ∀ F', F' ≤ F → All R A cp L F') (hF : F ≤ 2000000) (l : List Tr) (st1 : St) (hr : run L (F + 1) (.stmts []) st = some (l, st1)) : Spec R A cp L (.stmts []) st l st1 := by
 intro _ w h
 have hR := h.lt
 have M0 := Lib.hid (Pl.start h)
 clear h
 go_enter Tryz.func51, Tryz.ntmps51
 go_wp2
 go_loopg [3] (F + 1) (fun gn v wr => ∃ (acc : List Tr) (s' : St), RowKit.Hid (run L gn (.stmts acc) s' = some (l, st1) ∧ acc.length + gn ≤ F + 1 ∧ Pl R A cp L w wr s' ∧ AccAt w.heap.size wr acc v ∧ w.heap.size ≤ wr.heap.size))
 case atStart => exact ⟨[], st, Lib.hid ⟨hr, by simp, M0.out, AccAt.nil _ _, Nat.le_refl _⟩⟩
 case round =>
  obtain ⟨acc, s', HH⟩ := hrel
  obtain ⟨hrun, hacc, hpl, hac, hz0⟩ := HH.out
  obtain ⟨W0, hW0⟩ : ∃ x, x = wr := ⟨_, rfl⟩
  subst hW0
  obtain ⟨A0, c0', rfl, hlc, hcm⟩ := hac.slice
  obtain ⟨c0, c1, c2, c3⟩ := hpl.rd.cells
  have MR := Lib.hid (And.intro hpl hac)
  clear hpl hac HH hr
  cases gk with
  | zero => simp [run] at hrun
  | succ G =>
  rw [run] at hrun
  by_cases he : s'.e = 0
  ·have d1 : (s'.e == 0) = true := by simpa using he
   rw [he] at c2
   cases ht : tokR L s' 0 with | mk kd ts tn ln nl =>
   have HQ0 := tok_any 0 W0 MR.out.1.rd (by omega)
   rw [ht] at HQ0
   unfold tokV at HQ0
   have HQ := Lib.hid HQ0
   clear HQ0
   go_wp2_with fail
   go_at_call 89
   refine (HQ.out).mono ?_
   rintro e w3 ⟨rfl, hb⟩
   have f3 := Fr.of_below (R := R) hb (Nat.le_refl _)
   have h3 := MR.out.1.rd.below hb MR.out.1.rd.lt
   have z3 := f3.size
   clear hb
   have M3 := Lib.hid (And.intro (MR.out.1.call h3 f3) (MR.out.2.fr f3 (by omega)))
   clear h3 f3
   clear HQ
   have fk := tok_kind kd ts tn ln nl w3
   by_cases hk : kd = 0
   ·obtain ⟨rfl, rfl⟩ : acc = l ∧ s' = st1 := by simpa [he, ht, hk] using hrun
    have dk : (kd != 0) = false := by simpa using hk
    clear hrun hk he ht
    go_wp2
    go_ret
    exact M3.out.1.givesL M3.out.2
   ·have dk : (kd != 0) = true := by simpa using hk
    cases hi : isR L s' [125] with
    | true => simp [he, ht, hk, hi] at hrun
    | false =>
     cases hj : isR L s' [59] with
     | true => simp [he, ht, hk, hi, hj] at hrun
     | false =>
      cases e1 : run L G .stmt s' with
      | none => simp [he, ht, hk, hi, hj, e1] at hrun
      | some x =>
      obtain ⟨x, s2⟩ := x
      have HN := Lib.hid (show run L G (.stmts (acc ++ [hd x])) s2 = some (l, st1) by simpa [he, ht, hk, hi, hj, e1] using hrun)
      have H1 := Lib.hid (ihs G (by omega) .stmt _ _ _ e1)
      clear hrun hk he ht e1
      have HQ0 := is_any [125] ⟨#[125]⟩ rfl w3 M3.out.1.rd
      rw [hi] at HQ0
      have HQ := Lib.hid HQ0
      clear HQ0
      go_wp2_with fail
      go_at_call 90
      refine (HQ.out).mono ?_
      rintro e w4 ⟨rfl, hb⟩
      have f4 := Fr.of_below (R := R) hb (Nat.le_refl _)
      have h4 := M3.out.1.rd.below hb M3.out.1.rd.lt
      have z4 := f4.size
      clear hb
      have M4 := Lib.hid (And.intro (M3.out.1.call h4 f4) (M3.out.2.fr f4 (by omega)))
      clear h4 f4
      clear HQ
      have HQ0 := take_any [59] ⟨#[59]⟩ rfl w4 M4.out.1.rd
      unfold takeR at HQ0
      rw [hj] at HQ0
      have HQ := Lib.hid HQ0
      clear HQ0
      go_wp2_with fail
      go_at_call 91
      refine (HQ.out).mono ?_
      rintro e w5 ⟨rfl, h5, f5⟩
      have h5 : RdAt w5 R A cp L (s') := h5
      have z5 := f5.size
      have M5 := Lib.hid (And.intro (M4.out.1.call h5 f5) (M4.out.2.fr f5 (by omega)))
      clear h5 f5
      clear HQ
      go_wp2_with fail
      go_at_call 92
      refine (H1.out w5 M5.out.1.rd).mono ?_
      rintro e w6 ⟨v6, rfl, h6, f6, t6⟩
      obtain ⟨A6, c6, rfl, -, -⟩ := t6.form
      have z6 := f6.size
      have HP := Lib.hid (AccAt.push (R := R) (w := w6) (M5.out.2.fr f6 (by omega)) (M5.out.2.fresh t6 (by omega)) (by omega) (by omega) 22 #[.int .i64 (hd x).op, .string (bs (hd x).s), .int .i64 (hd x).n, .slice A6 (hd x).l.length c6, .int .i64 (hd x).line] rfl)
      have M6 := Lib.hid (And.intro (M5.out.1.call h6 f6) (M5.out.2.fr f6 (by omega)))
      clear h6 f6 t6
      go_wp2_with (at_builtin; refine wl_app rfl _ _ 22 rfl _ (.slice (some ⟨w6.heap.size, 0, none⟩) 1 1) rfl rfl _ HP.out ?_; rintro u w7 ⟨hacc, hon, A7, c7, rfl⟩; have z7 := hon.size; have M7 := Lib.hid (And.intro (M6.out.1.push M6.out.2 hon (by omega)) hacc); clear hacc hon)
      clear HP
      skip
      go_roundg G
      case rel => exact ⟨acc ++ [hd x], _, Lib.hid ⟨HN.out, by simp; omega, M7.out.1, M7.out.2, by omega⟩⟩
      case measure => omega
  ·obtain ⟨rfl, rfl⟩ : acc = l ∧ s' = st1 := by simpa [he] using hrun
   have d1 : (s'.e == 0) = false := by simpa using he
   clear hrun
   go_wp2
   go_ret
   exact MR.out.1.givesL MR.out.2
end
end
end Go.Proofs.YtikbfoichhkeaaaGreat
