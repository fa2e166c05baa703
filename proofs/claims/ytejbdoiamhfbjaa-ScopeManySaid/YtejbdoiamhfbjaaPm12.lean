/- The document's reader: nodes in boxes. The document's reader: rest. The document's reader: stmts. -/
import Derived.Deep.RegionHeldLaw
import Derived.Deep.LoopGhost
import Derived.Test.YtejbdoiamhfbjaaPm11
set_option linter.unusedSimpArgs false
set_option linter.unusedVariables false
set_option maxRecDepth 100000
set_option maxHeartbeats 4000000
namespace Go.Proofs.Ytejbdoiamhfbjaa
section
open Go.RowKit Go.Proofs
section
variable {R cp : Nat} {A : Option Addr} {L : List Tok} {st st1 : St} {w wa wk w' : World} {t : Tr} {l : List Tr} {v : Value} {B : Nat}
structure Pl (R : Nat) (A : Option Addr) (cp : Nat) (L : List Tok) (w wk : World) (st : St) : Prop where
 rd : RdAt wk R A cp L st
 fr : Fr R w wk
theorem Pl.start (h : RdAt w R A cp L st) : Pl R A cp L w w st := ⟨h, Only.refl _ _⟩
theorem Pl.call (m : Pl R A cp L w wk st) (h : RdAt w' R A cp L st1) (hf : Fr R wk w') : Pl R A cp L w w' st1 := ⟨h, m.fr.trans' hf⟩
def Bx (W : World) (B : Nat) (v0 v1 v2 v3 v4 : Value) : Prop := W.heap[B]? = some (.cells #[v0, v1, v2, v3, v4] 24 (0, 0))
section
variable {v0 v1 v2 v3 v4 : Value}
theorem Bx.fr (h : Bx wk B v0 v1 v2 v3 v4) (hf : Fr R wk w') (hR : R < B) : Bx w' B v0 v1 v2 v3 v4 := (hf.block B (heap_lt h) (by omega)).trans h
theorem Bx.below {b : Nat} (h : Bx wk B v0 v1 v2 v3 v4) (hb : Below b wk w') (hB : wk.heap.size ≤ b) : Bx w' B v0 v1 v2 v3 v4 := (hb.block B (by have := heap_lt h; omega)).trans h
theorem Bx.cells (h : Bx wk B v0 v1 v2 v3 v4) : wk.cell? ⟨B, 0, none⟩ = some v0 ∧ wk.cell? ⟨B, 1, none⟩ = some v1 ∧ wk.cell? ⟨B, 2, none⟩ = some v2 ∧ wk.cell? ⟨B, 3, none⟩ = some v3 ∧ wk.cell? ⟨B, 4, none⟩ = some v4 := (box_facts h).1
theorem Bx.thaw (h : Bx wk B v0 v1 v2 v3 v4) : wk.frozen? ⟨B, 0, none⟩ = false ∧ wk.frozen? ⟨B, 1, none⟩ = false ∧ wk.frozen? ⟨B, 2, none⟩ = false ∧ wk.frozen? ⟨B, 3, none⟩ = false ∧ wk.frozen? ⟨B, 4, none⟩ = false := (box_facts h).2
theorem tok_kind (kd : Int) (ts : Bs) (tn : Int) (ln : Nat) (nl : Bool) (W : World) : Sem.run Try.prog (Instr.field 85 (.agg #[.int .i64 kd, .string (bs ts), .int .i64 tn, .int .i64 ln, .bool nl]) 0) W = .ok (.int .i64 kd) W := by kernel_rfl
theorem tok_line (kd : Int) (ts : Bs) (tn : Int) (ln : Nat) (nl : Bool) (W : World) : Sem.run Try.prog (Instr.field 85 (.agg #[.int .i64 kd, .string (bs ts), .int .i64 tn, .int .i64 ln, .bool nl]) 3) W = .ok (.int .i64 ln) W := by kernel_rfl
theorem tok_nl (kd : Int) (ts : Bs) (tn : Int) (ln : Nat) (nl : Bool) (W : World) : Sem.run Try.prog (Instr.field 85 (.agg #[.int .i64 kd, .string (bs ts), .int .i64 tn, .int .i64 ln, .bool nl]) 4) W = .ok (.bool nl) W := by kernel_rfl
theorem Mid.box_ (m : Mid R A cp L w wk st) (v0 v1 v2 v3 v4 : Value) :
  ∃ W, wk.alloc (.cells #[v0, v1, v2, v3, v4] 24) = W ∧ Mid R A cp L w W st ∧ Fr R wk W ∧ Bx W wk.heap.size v0 v1 v2 v3 v4 ∧ W.heap.size = wk.heap.size + 1 :=
 ⟨_, rfl, m.call (m.rd.alloc _) (Only.alloc _ _), Only.alloc _ _, heap_alloc_new _ _, by simp⟩
theorem Mid.arr (m : Mid R A cp L w wk st) (cs : Array Value) :
  ∃ W, wk.alloc (.cells cs 24) = W ∧ Mid R A cp L w W st ∧ Fr R wk W ∧ W.heap[wk.heap.size]? = some (.cells cs 24 (0, 0)) ∧ W.heap.size = wk.heap.size + 1 :=
 ⟨_, rfl, m.call (m.rd.alloc _) (Only.alloc _ _), Only.alloc _ _, heap_alloc_new _ _, by simp⟩
theorem Mid.tok_ (m : Mid R A cp L w wk st) (kd : Int) (ts : Bs) (tn : Int) (ln : Nat) (nl : Bool) :
  ∃ W, wk.alloc (.cells #[.int .i64 kd, .string (bs ts), .int .i64 tn, .int .i64 ln, .bool nl] 85) = W ∧ Mid R A cp L w W st ∧ Fr R wk W ∧
   W.heap[wk.heap.size]? = some (.cells #[.int .i64 kd, .string (bs ts), .int .i64 tn, .int .i64 ln, .bool nl] 85 (0, 0)) ∧ W.heap.size = wk.heap.size + 1 :=
 ⟨_, rfl, m.call (m.rd.alloc _) (Only.alloc _ _), Only.alloc _ _, heap_alloc_new _ _, by simp⟩
theorem Bx.put3 (h : Bx wk B v0 v1 v2 v3 v4) (u : Value) : Bx (wk.setCell ⟨B, 3, none⟩ u) B v0 v1 v2 u v4 := by
 unfold Bx; rw [blk_set h]; rfl
theorem Bx.put0 (h : Bx wk B v0 v1 v2 v3 v4) (u : Value) : Bx (wk.setCell ⟨B, 0, none⟩ u) B u v1 v2 v3 v4 := by
 unfold Bx; rw [blk_set h]; rfl
theorem Bx.put1 (h : Bx wk B v0 v1 v2 v3 v4) (u : Value) : Bx (wk.setCell ⟨B, 1, none⟩ u) B v0 u v2 v3 v4 := by
 unfold Bx; rw [blk_set h]; rfl
theorem Bx.put2 (h : Bx wk B v0 v1 v2 v3 v4) (u : Value) : Bx (wk.setCell ⟨B, 2, none⟩ u) B v0 v1 u v3 v4 := by
 unfold Bx; rw [blk_set h]; rfl
end
theorem Bx.past {v0 v1 v2 v3 v4 : Value} {b : Nat} (h : Bx wk B v0 v1 v2 v3 v4) (hb : b < B) (u0 u1 u2 u3 u4 : Value) : Bx (put5 wk b u0 u1 u2 u3 u4) B v0 v1 v2 v3 v4 :=
 ((put5_only wk b u0 u1 u2 u3 u4).block B (heap_lt h) (by omega)).trans h
theorem Bx.away {v0 v1 v2 v3 v4 : Value} {B' : Nat} (h : Bx wk B v0 v1 v2 v3 v4) (hb : B ≠ B') (i : Nat) (u : Value) : Bx (wk.setCell ⟨B', i, none⟩ u) B v0 v1 v2 v3 v4 :=
 (Below.heap_setCell wk _ _ B (by show B ≠ B'; exact hb)).trans h
abbrev Af (B : Nat) (W : World) : Nat → Prop := fun k => B < k ∧ k < W.heap.size
theorem TreeAt.af (h : TreeAt w' (New wk w') t v) (hB : B < wk.heap.size) : TreeAt w' (Af B w') t v := h.keep (fun k hk => ⟨by have := hk.1; omega, hk.2⟩) (fun k hk => rfl)
theorem RowAt.af (h : RowAt w' (New wk w') l v) (hB : B < wk.heap.size) : RowAt w' (Af B w') l v := h.keep (fun k hk => ⟨by have := hk.1; omega, hk.2⟩) (fun k hk => rfl)
theorem TreeAt.up (h : TreeAt wk (Af B wk) t v) (hf : Fr R wk w') (hR : R ≤ B) : TreeAt w' (Af B w') t v :=
 h.fr hf (fun k hk => ⟨hk.1, by have := hf.size; have := hk.2; omega⟩) (fun k hk => ⟨hk.2, by have := hk.1; omega⟩)
theorem RowAt.up (h : RowAt wk (Af B wk) l v) (hf : Fr R wk w') (hR : R ≤ B) : RowAt w' (Af B w') l v :=
 h.fr hf (fun k hk => ⟨hk.1, by have := hf.size; have := hk.2; omega⟩) (fun k hk => ⟨hk.2, by have := hk.1; omega⟩)
theorem TreeAt.lower {B' : Nat} (h : TreeAt wk (Af B wk) t v) (hB : B' ≤ B) : TreeAt wk (Af B' wk) t v := h.keep (fun k hk => ⟨by have := hk.1; omega, hk.2⟩) (fun k hk => rfl)
theorem RowAt.lower {B' : Nat} (h : RowAt wk (Af B wk) l v) (hB : B' ≤ B) : RowAt wk (Af B' wk) l v := h.keep (fun k hk => ⟨by have := hk.1; omega, hk.2⟩) (fun k hk => rfl)
theorem TreeAt.set (h : TreeAt wk (Af B wk) t v) (i : Nat) (u : Value) : TreeAt (wk.setCell ⟨B, i, none⟩ u) (Af B (wk.setCell ⟨B, i, none⟩ u)) t v :=
 h.keep (fun k hk => ⟨hk.1, by simp; exact hk.2⟩) (fun k hk => Below.heap_setCell wk _ _ k (by show k ≠ B; have := hk.1; omega))
theorem RowAt.set (h : RowAt wk (Af B wk) l v) (i : Nat) (u : Value) : RowAt (wk.setCell ⟨B, i, none⟩ u) (Af B (wk.setCell ⟨B, i, none⟩ u)) l v :=
 h.keep (fun k hk => ⟨hk.1, by simp; exact hk.2⟩) (fun k hk => Below.heap_setCell wk _ _ k (by show k ≠ B; have := hk.1; omega))
theorem Mid.set (m : Mid R A cp L w wk st) (hB : w.heap.size < B) (i : Nat) (u : Value) : Mid R A cp L w (wk.setCell ⟨B, i, none⟩ u) st := by
 have hs := Only.setCell (F := fun k => k = B) wk (b := B) rfl i u
 have := m.lt
 exact ⟨m.rd.only hs (fun i hi => by omega), Fr.own m.fr hs (fun i hi => by omega), (hs.block _ m.gt (by omega)).trans m.box, m.lt⟩
theorem Mid.drew (m : Mid R A cp L w wk st) : Mid R A cp L w wk.drew st := m.call (m.rd.keep fun i _ => rfl) ((Only.refl _ _).drew)
theorem Mid.gives' {fn : Func} {a : Act} {v0 v1 v2 v3 v4 : Value} (s : Nat) (m : Mid R A cp L w wk st1) (h : TreeAt wk (Af w.heap.size wk) t (.agg #[v0, v1, v2, v3, v4]))
  (hfn : fn.results = #[.cell s 24]) (hs : a.tmps.getD s undef = .pointer (some ⟨w.heap.size, 0, none⟩)) (hd : a.defers = []) :
  bodyPost Try.prog fn (GivesT R A cp L w t st1) .ret a (put5 wk w.heap.size v0 v1 v2 v3 v4) := Mid.gives s m h hfn hs hd
theorem own_blk {B : Nat} {ts : List Tr} (h : AccAt B wk ts v) {k : Nat} (hk : v.ownBlock = some k) : B ≤ k ∧ k < wk.heap.size := by
 obtain ⟨xs, -, h2, -⟩ := h
 exact own_lt h2 hk
theorem Pl.push {ts : List Tr} (m : Pl R A cp L w wk st) (h : AccAt w.heap.size wk ts v) (hon : Only (fun k => v.ownBlock = some k) wk w') (hR : R < w.heap.size) : Pl R A cp L w w' st :=
 ⟨m.rd.only hon (fun i hi => by have := own_blk h hi; omega), Fr.own m.fr hon (fun i hi => (own_blk h hi).1)⟩
theorem AccAt.fresh {ts : List Tr} {u : Value} (h : AccAt B wk ts v) (ht : TreeAt w' (New wk w') t u) (hB : B ≤ wk.heap.size) : TreeAt w' (fun k => (B ≤ k ∧ k < w'.heap.size) ∧ v.ownBlock ≠ some k) t u :=
 ht.keep (fun k hk => ⟨⟨by have := hk.1; omega, hk.2⟩, fun e => by have := (own_blk h e).2; have := hk.1; omega⟩) (fun k hk => rfl)
theorem TreeAt.leaf {S : Nat → Prop} {o k i : Int} {s : Bs} (W : World) (hf : Fine o s k) : TreeAt W S (.mk o s k i []) (.agg #[.int .i64 o, .string (bs s), .int .i64 k, .slice none 0 0, .int .i64 i]) := TreeAt.mk (RowAt.nil W S) hf
theorem Pl.givesL {ts : List Tr} (m : Pl R A cp L w wk st) (h : AccAt w.heap.size wk ts v) : GivesL R A cp L w ts st (.returned v) wk :=
 ⟨v, rfl, m.rd, m.fr, h.row.keep (fun k hk => hk) (fun k hk => rfl)⟩
theorem blk_fr {o : Obj} (h : wk.heap[B]? = some o) (hf : Fr R wk w') (hR : R < B) : w'.heap[B]? = some o := (hf.block B (heap_lt h) (by omega)).trans h
theorem blk_away {o : Obj} {B' : Nat} (h : wk.heap[B]? = some o) (hb : B ≠ B') (i : Nat) (u : Value) : (wk.setCell ⟨B', i, none⟩ u).heap[B]? = some o :=
 (Below.heap_setCell wk _ _ B (by show B ≠ B'; exact hb)).trans h
theorem Mid.next_ (m : Mid R A cp L w wk st) (hp : st.pos < L.length) :
  ∃ W, wk.setCell ⟨R, 1, none⟩ (.int .i64 ((st.pos : Int) + 1)) = W ∧ RdAt W R A cp L st.next ∧ Fr R wk W :=
 ⟨_, rfl, (m.rd.put_pos hp).1, (m.rd.put_pos hp).2⟩
theorem name_len (h : RdAt wk R A cp L st) : (nameR L st).1.length ≤ 65536 := by
 have := (h.tok_fine 0).1
 unfold nameR
 dsimp only
 split
 ·simp
 ·exact this
theorem fine_s {o : Int} {s : Bs} (h : s.length ≤ 65536) (ho : 0 ≤ o ∧ o ≤ 1000) : Fine o s 0 := ⟨by unfold maxLen; omega, by omega, by omega⟩
theorem wrap_next (h : st.pos < L.length) (hl : L.length ≤ 65536) : IntKind.i64.wrap ((st.pos : Int) + 1) = (st.pos : Int) + 1 := IntWalk.i64_in _ (by omega)
theorem bs_eq (s : Bs) (l : List UInt8) : ((bs s).toList == l) = decide (s = l) := by rw [Lib.toList_data, bs_list, Bool.eq_iff_iff]; simp
theorem tok_pos (h : RdAt wk R A cp L st) {kd : Int} {ts : Bs} {tn : Int} {ln : Nat} {nl : Bool} (ht : tokR L st 0 = ⟨kd, ts, tn, ln, nl⟩) (hk : kd ≠ 0) : st.pos < L.length := tok_lt0 (k := kd) (by rw [ht]) hk
theorem tok_len (h : RdAt wk R A cp L st) {kd : Int} {ts : Bs} {tn : Int} {ln : Nat} {nl : Bool} {k : Nat} (ht : tokR L st k = ⟨kd, ts, tn, ln, nl⟩) : ts.length ≤ 65536 ∧ 0 ≤ tn ∧ tn ≤ 999999999999999 := by
 have := h.tok_fine k
 rw [ht] at this
 exact this
theorem Fr.own2 (h : Fr R w wk) (k : Only (fun i => i = R ∨ i = B) wk w') (hB : w.heap.size ≤ B) : Fr R w w' :=
 ⟨k.os.trans h.os, k.tape.trans h.tape, k.output.trans h.output, Nat.le_trans h.size k.size, fun i hi hr => (k.block i (Nat.lt_of_lt_of_le hi h.size) (fun hf => by rcases hf with hf | hf <;> omega)).trans (h.block i hi hr)⟩
theorem Tr.eta_at {S : Nat → Prop} {y : Tr} {v : Value} (h : TreeAt wk S (.mk y.op y.s y.n y.line y.l) v) : TreeAt wk S y v := by cases y; exact h
theorem Only.of_set {n i : Nat} {u : Value} (h : Only (fun k => k = B) wk (wk.setCell ⟨B, i, none⟩ u)) (hB : n ≤ B) : Below n wk (wk.setCell ⟨B, i, none⟩ u) := ⟨h.os, h.tape, h.output, h.size, fun k hk => Below.heap_setCell wk _ _ k (by show k ≠ B; omega)⟩
abbrev AfX (b B : Nat) (W : World) : Nat → Prop := fun k => (b < k ∧ k < W.heap.size) ∧ k ≠ B
section
variable {b : Nat}
theorem TreeAt.upx (h : TreeAt wk (AfX b B wk) t v) (hf : Fr R wk w') (hR : R ≤ b) : TreeAt w' (AfX b B w') t v :=
 h.fr hf (fun k hk => ⟨⟨hk.1.1, by have := hf.size; have := hk.1.2; omega⟩, hk.2⟩) (fun k hk => ⟨hk.1.2, by have := hk.1.1; omega⟩)
theorem TreeAt.setx (h : TreeAt wk (AfX b B wk) t v) (i : Nat) (u : Value) : TreeAt (wk.setCell ⟨B, i, none⟩ u) (AfX b B (wk.setCell ⟨B, i, none⟩ u)) t v :=
 h.keep (fun k hk => ⟨⟨hk.1.1, by simp; exact hk.1.2⟩, hk.2⟩) (fun k hk => Below.heap_setCell wk _ _ k (by show k ≠ B; exact hk.2))
theorem TreeAt.put5x (h : TreeAt wk (AfX b B wk) t v) (v0 v1 v2 v3 v4 : Value) : TreeAt (put5 wk B v0 v1 v2 v3 v4) (AfX b B (put5 wk B v0 v1 v2 v3 v4)) t v := ((((h.setx 0 v0).setx 1 v1).setx 2 v2).setx 3 v3).setx 4 v4
theorem TreeAt.belowx (h : TreeAt wk (AfX b B wk) t v) (hb : Below wk.heap.size wk w') : TreeAt w' (AfX b B w') t v := h.keep (fun k hk => ⟨⟨hk.1.1, by have := hb.size; have := hk.1.2; omega⟩, hk.2⟩) (fun k hk => hb.block k hk.1.2)
theorem below_set {n : Nat} (W : World) (hB : n ≤ B) (i : Nat) (u : Value) : Below n W (W.setCell ⟨B, i, none⟩ u) := (Only.setCell (F := fun k => k = B) W (b := B) rfl i u).of_set hB
theorem TreeAt.x_before (h : TreeAt wk (Af b wk) t v) (hw : wk.heap.size ≤ B) : TreeAt wk (AfX b B wk) t v := h.keep (fun k hk => ⟨hk, by have := hk.2; omega⟩) (fun k hk => rfl)
theorem TreeAt.x_behind {b' : Nat} (h : TreeAt wk (Af b' wk) t v) (hb : b ≤ b') (hB : B ≤ b') : TreeAt wk (AfX b B wk) t v := h.keep (fun k hk => ⟨⟨by have := hk.1; omega, hk.2⟩, by have := hk.1; omega⟩) (fun k hk => rfl)
theorem TreeAt.of_x (h : TreeAt wk (AfX b B wk) t v) : TreeAt wk (Af b wk) t v := h.keep (fun k hk => hk.1) (fun k hk => rfl)
theorem Mid.put5 (m : Mid R A cp L w wk st) (hB : w.heap.size < B) (v0 v1 v2 v3 v4 : Value) : Mid R A cp L w (put5 wk B v0 v1 v2 v3 v4) st := ((((m.set hB 0 v0).set hB 1 v1).set hB 2 v2).set hB 3 v3).set hB 4 v4
theorem Bx.put5 {u0 u1 u2 u3 u4 : Value} (h : Bx wk B u0 u1 u2 u3 u4) (v0 v1 v2 v3 v4 : Value) : Bx (put5 wk B v0 v1 v2 v3 v4) B v0 v1 v2 v3 v4 := put5_blk h
theorem fine_op {o : Int} {s : Bs} (h : s.length ≤ 65536) (ho : 0 ≤ o ∧ o ≤ 1000) : Fine o s 0 := fine_s h ho
end
end
end
section
open Go.RowKit Go.Proofs
section
variable {R cp : Nat} {A : Option Addr} {L : List Tok} {st : St} {F : Nat}
theorem rest_ok (ihs : ∀ F', F' ≤ F → All R A cp L F') (hF : F ≤ 2000000) (l : List Tr) (st1 : St) (hr : run L (F + 1) .rest st = some (l, st1)) : Spec R A cp L .rest st l st1 := by
 intro w h
 have hR := h.lt
 have M0 := Lib.hid (Pl.start h)
 clear h
 rw [run] at hr
 dsimp only at hr
 cases e1 : run L F (.params [] (!isR L (mustR L st [40]) [41])) (mustR L st [40]) with
 | none => rw [e1] at hr; cases hr
 | some x =>
 obtain ⟨ps, s2⟩ := x
 cases e2 : run L F .block (mustR L s2 [41]) with
 | none => simp [e1, e2] at hr
 | some y =>
 obtain ⟨y, s3⟩ := y
 obtain ⟨rfl, rfl⟩ : ps ++ [hd y] = l ∧ s3 = st1 := by simpa [e1, e2] using hr
 have H2 := Lib.hid (ihs F (Nat.le_refl _) .block _ _ _ e2)
 clear hr e2
 go_enter Try.func93, Try.ntmps93
 have HQ := Lib.hid (must_any [40] ⟨#[40]⟩ rfl w M0.out.rd)
 go_wp2_with fail
 go_at_call 89
 refine (HQ.out).mono ?_
 rintro e w2 ⟨rfl, h2, f2⟩
 have z2 := f2.size
 have M2 := Lib.hid ((M0.out.call h2 f2))
 clear h2 f2
 clear HQ
 have HQ := Lib.hid (is_any [41] ⟨#[41]⟩ rfl w2 M2.out.rd)
 go_wp2_with fail
 go_at_call 56
 refine (HQ.out).mono ?_
 rintro e w3 ⟨rfl, hb⟩
 have f3 := Fr.of_below (R := R) hb (Nat.le_refl _)
 have h3 := M2.out.rd.below hb M2.out.rd.lt
 have z3 := f3.size
 clear hb
 have M3 := Lib.hid ((M2.out.call h3 f3))
 clear h3 f3
 clear HQ
 go_wp2
 go_loopg [3, 5] F (fun gn v b wr => ∃ (acc : List Tr) (bb : Bool) (s' : St), b = .bool bb ∧ RowKit.Hid (run L gn (.params acc bb) s' = some (ps, s2) ∧ acc.length + gn ≤ F ∧ Pl R A cp L w wr s' ∧ AccAt w.heap.size wr acc v ∧ w.heap.size ≤ wr.heap.size))
 case atStart => exact ⟨[], _, _, rfl, Lib.hid ⟨e1, by simp, M3.out, AccAt.nil _ _, by omega⟩⟩
 case round =>
  obtain ⟨acc, bb, s', rfl, HH⟩ := hrel
  obtain ⟨hrun, hacc, hpl, hac, hz0⟩ := HH.out
  obtain ⟨W0, hW0⟩ : ∃ x, x = wr := ⟨_, rfl⟩
  subst hW0
  obtain ⟨A0, c0', rfl, hlc, hcm⟩ := hac.slice
  obtain ⟨c0, c1, c2, c3⟩ := hpl.rd.cells
  have MR := Lib.hid (And.intro hpl hac)
  clear hpl hac HH e1
  cases gk with
  | zero => simp [run] at hrun
  | succ G =>
  rw [run] at hrun
  by_cases he : s'.e = 0 ∧ bb = true
  ·obtain ⟨he1, rfl⟩ := he
   cases ht : tokR L s' 0 with | mk kd ts tn ln nl =>
   have HN := Lib.hid (show run L G (.params (acc ++ [.mk 1 (nameR L s').1 0 ln []]) (isR L (nameR L s').2 [44])) (takeR L (nameR L s').2 [44]) = some (ps, s2) by simpa [he1, ht] using hrun)
   have d1 : (s'.e == 0) = true := by simpa using he1
   rw [he1] at c2
   clear hrun he1
   have HQ0 := tok_any 0 W0 MR.out.1.rd (by omega)
   rw [ht] at HQ0
   unfold tokV at HQ0
   have HQ := Lib.hid HQ0
   clear HQ0
   go_wp2_with fail
   go_at_call 55
   refine (HQ.out).mono ?_
   rintro e w3 ⟨rfl, hb⟩
   have f3 := Fr.of_below (R := R) hb (Nat.le_refl _)
   have h3 := MR.out.1.rd.below hb MR.out.1.rd.lt
   have z3 := f3.size
   clear hb
   have M3 := Lib.hid (And.intro (MR.out.1.call h3 f3) (MR.out.2.fr f3 (by omega)))
   clear h3 f3
   clear HQ
   have fl := tok_line kd ts tn ln nl w3
   have HQ := Lib.hid (name_any w3 M3.out.1.rd)
   have hnl := name_len M3.out.1.rd
   go_wp2_with fail
   go_at_call 90
   refine (HQ.out).mono ?_
   rintro e w4 ⟨rfl, h4, f4⟩
   have z4 := f4.size
   have M4 := Lib.hid (And.intro (M3.out.1.call h4 f4) (M3.out.2.fr f4 (by omega)))
   clear h4 f4
   clear HQ
   have HP := Lib.hid (AccAt.push (R := R) (w := w4) M4.out.2 (TreeAt.leaf (o := 1) (k := 0) (i := ln) (s := (nameR L s').1) _ (fine_s hnl (by omega))) (by omega) (by omega) 22 #[.int .i64 1, .string (bs (nameR L s').1), .int .i64 0, .slice none 0 0, .int .i64 ln] rfl)
   go_wp2_with (at_builtin; refine wl_app rfl _ _ 22 rfl _ (.slice (some ⟨w4.heap.size, 0, none⟩) 1 1) rfl rfl _ HP.out ?_; rintro u w5 ⟨hacc, hon, A5, c5, rfl⟩; have z5 := hon.size; have M5 := Lib.hid (And.intro (M4.out.1.push M4.out.2 hon (by omega)) hacc); clear hacc hon)
   clear HP
   have HQ := Lib.hid (take_any [44] ⟨#[44]⟩ rfl w5 M5.out.1.rd)
   go_at_call 57
   refine (HQ.out).mono ?_
   rintro e w6 ⟨rfl, h6, f6⟩
   have z6 := f6.size
   have M6 := Lib.hid (And.intro (M5.out.1.call h6 f6) (M5.out.2.fr f6 (by omega)))
   clear h6 f6
   go_wp2
   go_roundg G
   case rel => exact ⟨acc ++ [.mk 1 (nameR L s').1 0 ln []], _, _, rfl, Lib.hid ⟨HN.out, by simp; omega, M6.out.1, M6.out.2, by omega⟩⟩
   case measure => omega
  ·obtain ⟨rfl, rfl⟩ : acc = ps ∧ s' = s2 := by simpa [he] using hrun
   have HE := Lib.hid he
   clear he hrun
   cases bb with
   | true =>
    have d1 : (s'.e == 0) = false := by simpa using fun h => HE.out ⟨h, rfl⟩
    have HQ := Lib.hid (must_any [41] ⟨#[41]⟩ rfl W0 MR.out.1.rd)
    go_wp2_with fail
    go_at_call 89
    refine (HQ.out).mono ?_
    rintro e w3 ⟨rfl, h3, f3⟩
    have z3 := f3.size
    have M3 := Lib.hid (And.intro (MR.out.1.call h3 f3) (MR.out.2.fr f3 (by omega)))
    clear h3 f3
    clear HQ
    go_wp2_with fail
    go_at_call 72
    refine (H2.out w3 M3.out.1.rd).mono ?_
    rintro e w4 ⟨v4, rfl, h4, f4, t4⟩
    obtain ⟨A4, c4, rfl, -, -⟩ := t4.form
    have z4 := f4.size
    have HP := Lib.hid (AccAt.push (R := R) (w := w4) (M3.out.2.fr f4 (by omega)) (M3.out.2.fresh t4 (by omega)) (by omega) (by omega) 22 #[.int .i64 (hd y).op, .string (bs (hd y).s), .int .i64 (hd y).n, .slice A4 (hd y).l.length c4, .int .i64 (hd y).line] rfl)
    have M4 := Lib.hid (And.intro (M3.out.1.call h4 f4) (M3.out.2.fr f4 (by omega)))
    clear h4 f4 t4
    go_wp2_with (at_builtin; refine wl_app rfl _ _ 22 rfl _ (.slice (some ⟨w4.heap.size, 0, none⟩) 1 1) rfl rfl _ HP.out ?_; rintro u w5 ⟨hacc, hon, A5, c5, rfl⟩; have z5 := hon.size; have M5 := Lib.hid (And.intro (M4.out.1.push M4.out.2 hon (by omega)) hacc); clear hacc hon)
    clear HP
    go_wp2
    go_ret
    exact M5.out.1.givesL M5.out.2
   | false =>
    by_cases he : s'.e = 0
    ·have d1 : (s'.e == 0) = true := by simpa using he
     rw [he] at c2
     have HQ := Lib.hid (must_any [41] ⟨#[41]⟩ rfl W0 MR.out.1.rd)
     go_wp2_with fail
     go_at_call 89
     refine (HQ.out).mono ?_
     rintro e w3 ⟨rfl, h3, f3⟩
     have z3 := f3.size
     have M3 := Lib.hid (And.intro (MR.out.1.call h3 f3) (MR.out.2.fr f3 (by omega)))
     clear h3 f3
     clear HQ
     go_wp2_with fail
     go_at_call 72
     refine (H2.out w3 M3.out.1.rd).mono ?_
     rintro e w4 ⟨v4, rfl, h4, f4, t4⟩
     obtain ⟨A4, c4, rfl, -, -⟩ := t4.form
     have z4 := f4.size
     have HP := Lib.hid (AccAt.push (R := R) (w := w4) (M3.out.2.fr f4 (by omega)) (M3.out.2.fresh t4 (by omega)) (by omega) (by omega) 22 #[.int .i64 (hd y).op, .string (bs (hd y).s), .int .i64 (hd y).n, .slice A4 (hd y).l.length c4, .int .i64 (hd y).line] rfl)
     have M4 := Lib.hid (And.intro (M3.out.1.call h4 f4) (M3.out.2.fr f4 (by omega)))
     clear h4 f4 t4
     go_wp2_with (at_builtin; refine wl_app rfl _ _ 22 rfl _ (.slice (some ⟨w4.heap.size, 0, none⟩) 1 1) rfl rfl _ HP.out ?_; rintro u w5 ⟨hacc, hon, A5, c5, rfl⟩; have z5 := hon.size; have M5 := Lib.hid (And.intro (M4.out.1.push M4.out.2 hon (by omega)) hacc); clear hacc hon)
     clear HP
     go_wp2
     go_ret
     exact M5.out.1.givesL M5.out.2
    ·have d1 : (s'.e == 0) = false := by simpa using he
     have HQ := Lib.hid (must_any [41] ⟨#[41]⟩ rfl W0 MR.out.1.rd)
     go_wp2_with fail
     go_at_call 89
     refine (HQ.out).mono ?_
     rintro e w3 ⟨rfl, h3, f3⟩
     have z3 := f3.size
     have M3 := Lib.hid (And.intro (MR.out.1.call h3 f3) (MR.out.2.fr f3 (by omega)))
     clear h3 f3
     clear HQ
     go_wp2_with fail
     go_at_call 72
     refine (H2.out w3 M3.out.1.rd).mono ?_
     rintro e w4 ⟨v4, rfl, h4, f4, t4⟩
     obtain ⟨A4, c4, rfl, -, -⟩ := t4.form
     have z4 := f4.size
     have HP := Lib.hid (AccAt.push (R := R) (w := w4) (M3.out.2.fr f4 (by omega)) (M3.out.2.fresh t4 (by omega)) (by omega) (by omega) 22 #[.int .i64 (hd y).op, .string (bs (hd y).s), .int .i64 (hd y).n, .slice A4 (hd y).l.length c4, .int .i64 (hd y).line] rfl)
     have M4 := Lib.hid (And.intro (M3.out.1.call h4 f4) (M3.out.2.fr f4 (by omega)))
     clear h4 f4 t4
     go_wp2_with (at_builtin; refine wl_app rfl _ _ 22 rfl _ (.slice (some ⟨w4.heap.size, 0, none⟩) 1 1) rfl rfl _ HP.out ?_; rintro u w5 ⟨hacc, hon, A5, c5, rfl⟩; have z5 := hon.size; have M5 := Lib.hid (And.intro (M4.out.1.push M4.out.2 hon (by omega)) hacc); clear hacc hon)
     clear HP
     go_wp2
     go_ret
     exact M5.out.1.givesL M5.out.2
end
end
section
open Go.RowKit Go.Proofs
section
variable {R cp : Nat} {A : Option Addr} {L : List Tok} {st : St} {F : Nat}
theorem stmts_ok (ihs : ∀ F', F' ≤ F → All R A cp L F') (hF : F ≤ 2000000) (l : List Tr) (st1 : St) (hr : run L (F + 1) (.stmts []) st = some (l, st1)) : Spec R A cp L (.stmts []) st l st1 := by
 intro _ w h
 have hR := h.lt
 have M0 := Lib.hid (Pl.start h)
 clear h
 go_enter Try.func44, Try.ntmps44
 go_wp2
 go_loopg [3] (F + 1) (fun gn v wr => ∃ (acc : List Tr) (s' : St), RowKit.Hid (run L gn (.stmts acc) s' = some (l, st1) ∧ acc.length + gn ≤ F + 1 ∧ Pl R A cp L w wr s' ∧ AccAt w.heap.size wr acc v ∧ w.heap.size ≤ wr.heap.size))
 case atStart => exact ⟨[], st, Lib.hid ⟨hr, by simp, M0.out, AccAt.nil _ _, Nat.le_refl _⟩⟩
 case round =>
  obtain ⟨acc, s', HH⟩ := hrel
  obtain ⟨hrun, hacc, hpl, hac, hz0⟩ := HH.out
  obtain ⟨W0, hW0⟩ : ∃ x, x = wr := ⟨_, rfl⟩
  subst hW0
  obtain ⟨A0, c0', rfl, hlc, hcm⟩ := hac.slice
  obtain ⟨c0, c1, c2, c3⟩ := hpl.rd.cells
  have MR := Lib.hid (And.intro hpl hac)
  clear hpl hac HH hr
  cases gk with
  | zero => simp [run] at hrun
  | succ G =>
  rw [run] at hrun
  by_cases he : s'.e = 0
  ·have d1 : (s'.e == 0) = true := by simpa using he
   rw [he] at c2
   cases ht : tokR L s' 0 with | mk kd ts tn ln nl =>
   have HQ0 := tok_any 0 W0 MR.out.1.rd (by omega)
   rw [ht] at HQ0
   unfold tokV at HQ0
   have HQ := Lib.hid HQ0
   clear HQ0
   go_wp2_with fail
   go_at_call 55
   refine (HQ.out).mono ?_
   rintro e w3 ⟨rfl, hb⟩
   have f3 := Fr.of_below (R := R) hb (Nat.le_refl _)
   have h3 := MR.out.1.rd.below hb MR.out.1.rd.lt
   have z3 := f3.size
   clear hb
   have M3 := Lib.hid (And.intro (MR.out.1.call h3 f3) (MR.out.2.fr f3 (by omega)))
   clear h3 f3
   clear HQ
   have fk := tok_kind kd ts tn ln nl w3
   by_cases hk : kd = 0
   ·obtain ⟨rfl, rfl⟩ : acc = l ∧ s' = st1 := by simpa [he, ht, hk] using hrun
    have dk : (kd != 0) = false := by simpa using hk
    clear hrun hk he ht
    go_wp2
    go_ret
    exact M3.out.1.givesL M3.out.2
   ·have dk : (kd != 0) = true := by simpa using hk
    cases hi : isR L s' [125] with
    | true =>
     obtain ⟨rfl, rfl⟩ : acc = l ∧ s' = st1 := by simpa [he, ht, hk, hi] using hrun
     clear hrun hk he ht
     have HQ0 := is_any [125] ⟨#[125]⟩ rfl w3 M3.out.1.rd
     rw [hi] at HQ0
     have HQ := Lib.hid HQ0
     clear HQ0
     go_wp2_with fail
     go_at_call 56
     refine (HQ.out).mono ?_
     rintro e w4 ⟨rfl, hb⟩
     have f4 := Fr.of_below (R := R) hb (Nat.le_refl _)
     have h4 := M3.out.1.rd.below hb M3.out.1.rd.lt
     have z4 := f4.size
     clear hb
     have M4 := Lib.hid (And.intro (M3.out.1.call h4 f4) (M3.out.2.fr f4 (by omega)))
     clear h4 f4
     clear HQ
     go_wp2
     go_ret
     exact M4.out.1.givesL M4.out.2
    | false =>
     cases hj : isR L s' [59] with
     | true =>
      have HN := Lib.hid (show run L G (.stmts acc) s'.next = some (l, st1) by simpa [he, ht, hk, hi, hj] using hrun)
      clear hrun hk he ht
      have HQ0 := is_any [125] ⟨#[125]⟩ rfl w3 M3.out.1.rd
      rw [hi] at HQ0
      have HQ := Lib.hid HQ0
      clear HQ0
      go_wp2_with fail
      go_at_call 56
      refine (HQ.out).mono ?_
      rintro e w4 ⟨rfl, hb⟩
      have f4 := Fr.of_below (R := R) hb (Nat.le_refl _)
      have h4 := M3.out.1.rd.below hb M3.out.1.rd.lt
      have z4 := f4.size
      clear hb
      have M4 := Lib.hid (And.intro (M3.out.1.call h4 f4) (M3.out.2.fr f4 (by omega)))
      clear h4 f4
      clear HQ
      have HQ0 := take_any [59] ⟨#[59]⟩ rfl w4 M4.out.1.rd
      unfold takeR at HQ0
      rw [hj] at HQ0
      have HQ := Lib.hid HQ0
      clear HQ0
      go_wp2_with fail
      go_at_call 57
      refine (HQ.out).mono ?_
      rintro e w5 ⟨rfl, h5, f5⟩
      have h5 : RdAt w5 R A cp L (s'.next) := h5
      have z5 := f5.size
      have M5 := Lib.hid (And.intro (M4.out.1.call h5 f5) (M4.out.2.fr f5 (by omega)))
      clear h5 f5
      clear HQ
      go_wp2
      go_roundg G
      case rel => exact ⟨acc, _, Lib.hid ⟨HN.out, by omega, M5.out.1, M5.out.2, by omega⟩⟩
      case measure => omega
     | false =>
      cases e1 : run L G .stmt s' with
      | none => simp [he, ht, hk, hi, hj, e1] at hrun
      | some x =>
      obtain ⟨x, s2⟩ := x
      have HN := Lib.hid (show run L G (.stmts (acc ++ [hd x])) s2 = some (l, st1) by simpa [he, ht, hk, hi, hj, e1] using hrun)
      have H1 := Lib.hid (ihs G (by omega) .stmt _ _ _ e1)
      clear hrun hk he ht e1
      have HQ0 := is_any [125] ⟨#[125]⟩ rfl w3 M3.out.1.rd
      rw [hi] at HQ0
      have HQ := Lib.hid HQ0
      clear HQ0
      go_wp2_with fail
      go_at_call 56
      refine (HQ.out).mono ?_
      rintro e w4 ⟨rfl, hb⟩
      have f4 := Fr.of_below (R := R) hb (Nat.le_refl _)
      have h4 := M3.out.1.rd.below hb M3.out.1.rd.lt
      have z4 := f4.size
      clear hb
      have M4 := Lib.hid (And.intro (M3.out.1.call h4 f4) (M3.out.2.fr f4 (by omega)))
      clear h4 f4
      clear HQ
      have HQ0 := take_any [59] ⟨#[59]⟩ rfl w4 M4.out.1.rd
      unfold takeR at HQ0
      rw [hj] at HQ0
      have HQ := Lib.hid HQ0
      clear HQ0
      go_wp2_with fail
      go_at_call 57
      refine (HQ.out).mono ?_
      rintro e w5 ⟨rfl, h5, f5⟩
      have h5 : RdAt w5 R A cp L (s') := h5
      have z5 := f5.size
      have M5 := Lib.hid (And.intro (M4.out.1.call h5 f5) (M4.out.2.fr f5 (by omega)))
      clear h5 f5
      clear HQ
      go_wp2_with fail
      go_at_call 58
      refine (H1.out w5 M5.out.1.rd).mono ?_
      rintro e w6 ⟨v6, rfl, h6, f6, t6⟩
      obtain ⟨A6, c6, rfl, -, -⟩ := t6.form
      have z6 := f6.size
      have HP := Lib.hid (AccAt.push (R := R) (w := w6) (M5.out.2.fr f6 (by omega)) (M5.out.2.fresh t6 (by omega)) (by omega) (by omega) 22 #[.int .i64 (hd x).op, .string (bs (hd x).s), .int .i64 (hd x).n, .slice A6 (hd x).l.length c6, .int .i64 (hd x).line] rfl)
      have M6 := Lib.hid (And.intro (M5.out.1.call h6 f6) (M5.out.2.fr f6 (by omega)))
      clear h6 f6 t6
      go_wp2_with (at_builtin; refine wl_app rfl _ _ 22 rfl _ (.slice (some ⟨w6.heap.size, 0, none⟩) 1 1) rfl rfl _ HP.out ?_; rintro u w7 ⟨hacc, hon, A7, c7, rfl⟩; have z7 := hon.size; have M7 := Lib.hid (And.intro (M6.out.1.push M6.out.2 hon (by omega)) hacc); clear hacc hon)
      clear HP
      skip
      go_roundg G
      case rel => exact ⟨acc ++ [hd x], _, Lib.hid ⟨HN.out, by simp; omega, M7.out.1, M7.out.2, by omega⟩⟩
      case measure => omega
  ·obtain ⟨rfl, rfl⟩ : acc = l ∧ s' = st1 := by simpa [he] using hrun
   have d1 : (s'.e == 0) = false := by simpa using he
   clear hrun
   go_wp2
   go_ret
   exact MR.out.1.givesL MR.out.2
end
end
end Go.Proofs.Ytejbdoiamhfbjaa
