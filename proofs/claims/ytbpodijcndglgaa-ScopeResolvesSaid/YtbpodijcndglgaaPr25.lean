/- The document's reader: must, name, end, isKey, plain, signs, num. The document's reader: nodes in boxes. The document's reader: a row behind a row; boxes written as a whole. The document's reader: signed. -/
import Derived.Deep.RegionLaw
import Derived.Deep.RegionHeldLaw
import Derived.Deep.LoopGhost
import Derived.Test.YtbpodijcndglgaaPr10
set_option linter.unusedSimpArgs false
set_option linter.unusedVariables false
set_option maxRecDepth 100000
set_option maxHeartbeats 4000000
namespace Go.Proofs.Ytbpodijcndglgaa
section
open Go.RowKit Go.Proofs
section
variable {R cp : Nat} {A : Option Addr} {L : List Tok} {st : St}
theorem must_any (S : Bs) (s : ByteArray) (hs : s = bs S) (w : World) (h : RdAt w R A cp L st) :
  Calls Try.prog 80 #[ptr R, .string s] w fun e w' => e = .returned (.tuple #[]) ∧ RdAt w' R A cp L (mustR L st S) ∧ Fr R w w' := by
 subst hs
 have HC := Lib.hid (take_any S _ rfl w h)
 unfold takeR at HC
 unfold mustR
 cases hi : isR L st S with
 | true =>
  rw [hi] at HC
  clear h hi
  go_enter Try.func80, Try.ntmps80
  go_wp2_with (go_at_call 48; refine (HC.out).mono ?_; rintro e w1 ⟨rfl, h1, hf⟩)
  go_end0
  exact ⟨rfl, h1, hf⟩
 | false =>
  rw [hi] at HC
  clear h hi
  by_cases he : st.e = 0
  ·go_enter Try.func80, Try.ntmps80
   go_wp2_with fail
   go_at_call 48
   refine (HC.out).mono ?_
   rintro e w1 ⟨rfl, h1, hf⟩
   have h1 : RdAt w1 R A cp L st := h1
   obtain ⟨c0, c1, c2, c3⟩ := h1.cells
   rw [he] at c2
   have HS := Lib.hid (stop_any false w1 h1)
   clear h1
   go_wp2_with (go_at_call 36; refine (HS.out).mono ?_; rintro e w2 ⟨rfl, h2, hf2⟩)
   go_end0
   exact ⟨rfl, h2, hf.trans' hf2⟩
  ·have d1 : (st.e == 0) = false := by simpa using he
   go_enter Try.func80, Try.ntmps80
   go_wp2_with fail
   go_at_call 48
   refine (HC.out).mono ?_
   rintro e w1 ⟨rfl, h1, hf⟩
   have h1 : RdAt w1 R A cp L st := h1
   obtain ⟨c0, c1, c2, c3⟩ := h1.cells
   go_wp2
   go_end0
   exact ⟨rfl, h1, hf⟩
theorem name_any (w : World) (h : RdAt w R A cp L st) :
  Calls Try.prog 81 #[ptr R] w fun e w' => e = .returned (.string (bs (nameR L st).1)) ∧ RdAt w' R A cp L (nameR L st).2 ∧ Fr R w w' := by
 have HT := tok_any 0 w h (by omega)
 have hlen := h.len
 have hp : (tokR L st 0).kind = 1 → st.pos < L.length := fun e => tok_lt0 e (by decide)
 unfold nameR
 cases ht : tokR L st 0 with | mk kd ts tn ln nl =>
 rw [ht] at HT hp
 unfold tokV at HT
 have HC := Lib.hid HT
 have H := Lib.hid h
 clear h HT ht
 dsimp only [Tok.kind, Tok.s] at hp ⊢
 by_cases hc : st.e ≠ 0 ∨ kd ≠ 1
 ·rw [if_pos hc]
  go_enter Try.func81, Try.ntmps81
  go_wp2_with fail
  go_at_call 46
  refine (HC.out).mono ?_
  rintro e w1 ⟨rfl, hb⟩
  obtain ⟨W2, eW, hb2, h2, x0, x1, x2, x3, x4, hsz⟩ := box_tok (H.out.below hb H.out.lt) kd ts tn ln nl
  obtain ⟨c0, c1, c2, c3⟩ := h2.cells
  have HB := Lib.hid (And.intro (hb.trans (hb2.mono hb.size)) (stop_any false W2 h2))
  clear hb hb2 h2
  by_cases he : st.e = 0
  ·have hk : (kd != 1) = true := by simpa using hc.resolve_left (fun h => h he)
   rw [he] at c2
   go_wp2_with (go_at_call 36; refine (HB.out.2).mono ?_; rintro e w4 ⟨rfl, h4, hf4⟩)
   go_ret
   exact ⟨rfl, h4, (Fr.of_below (R := R) HB.out.1 (Nat.le_refl _)).trans' hf4⟩
  ·have he' : (st.e != 0) = true := by simpa using he
   go_wp2_with (go_at_call 36; refine (HB.out.2).mono ?_; rintro e w4 ⟨rfl, h4, hf4⟩)
   go_ret
   exact ⟨rfl, h4, (Fr.of_below (R := R) HB.out.1 (Nat.le_refl _)).trans' hf4⟩
 ·rw [if_neg hc]
  have he : st.e = 0 := Classical.byContradiction fun h => hc (.inl h)
  have hk : kd = 1 := Classical.byContradiction fun h => hc (.inr h)
  subst hk
  have hps : st.pos < L.length := hp rfl
  clear hp
  clear hc
  go_enter Try.func81, Try.ntmps81
  go_wp2_with fail
  go_at_call 46
  refine (HC.out).mono ?_
  rintro e w1 ⟨rfl, hb⟩
  obtain ⟨W2, eW, hb2, h2, x0, x1, x2, x3, x4, hsz⟩ := box_tok (H.out.below hb H.out.lt) 1 ts tn ln nl
  obtain ⟨c0, c1, c2, c3⟩ := h2.cells
  have f1 := h2.thaw 1
  have HB := Lib.hid (And.intro (hb.trans (hb2.mono hb.size)) (h2.put_pos hps))
  have hw : IntKind.i64.wrap ((st.pos : Int) + 1) = (st.pos : Int) + 1 := IntWalk.i64_in _ (by omega)
  have hne : (⟨w1.heap.size, 1, none⟩ : Addr).block ≠ R := by have := H.out.lt; have := hb.size; show w1.heap.size ≠ R; omega
  have z1 : (W2.setCell ⟨R, 1, none⟩ (.int .i64 ((st.pos : Int) + 1))).cell? ⟨w1.heap.size, 1, none⟩ = some (.string (bs ts)) := by
   rw [cell_block (Below.heap_setCell W2 _ _ w1.heap.size hne) _ rfl]; exact x1
  rw [he] at c2
  clear hb hb2 h2
  go_wp2
  go_ret
  exact ⟨rfl, HB.out.2.1, (Fr.of_below (R := R) HB.out.1 (Nat.le_refl _)).trans' HB.out.2.2⟩
theorem end_any (w : World) (h : RdAt w R A cp L st) :
  Calls Try.prog 66 #[ptr R] w fun e w' => e = .returned (.tuple #[]) ∧ RdAt w' R A cp L (endR L st) ∧ Fr R w w' := by
 have HT := tok_any 0 w h (by omega)
 unfold endR
 cases ht : tokR L st 0 with | mk kd ts tn ln nl =>
 rw [ht] at HT
 unfold tokV at HT
 have HC := Lib.hid HT
 have H := Lib.hid h
 clear h HT ht
 dsimp only [Tok.kind, Tok.s, Tok.nl]
 cases hi : isR L st [59] with
 | true =>
  rw [if_pos rfl]
  go_enter Try.func66, Try.ntmps66
  go_wp2_with fail
  go_at_call 46
  refine (HC.out).mono ?_
  rintro e w1 ⟨rfl, hb⟩
  obtain ⟨W2, eW, hb2, h2, x0, x1, x2, x3, x4, hsz⟩ := box_tok (H.out.below hb H.out.lt) kd ts tn ln nl
  have HK := take_any [59] ⟨#[59]⟩ rfl W2 h2
  unfold takeR at HK
  rw [hi] at HK
  have HB := Lib.hid (And.intro (hb.trans (hb2.mono hb.size)) HK)
  clear hb hb2 h2 HK hi
  go_wp2_with (go_at_call 48; refine (HB.out.2).mono ?_; rintro e w4 ⟨rfl, h4, hf4⟩)
  exact bodyPost_ret (v := .tuple #[]) (results_none rfl _ _ _) rfl ⟨rfl, h4, (Fr.of_below (R := R) HB.out.1 (Nat.le_refl _)).trans' hf4⟩
 | false =>
  rw [if_neg (by decide)]
  obtain ⟨b4, e4⟩ : ∃ b, ((bs ts).toList == [125]) = b := ⟨_, rfl⟩
  have s4 : (ts = [125]) = (b4 = true) := by rw [← e4]; simp [Lib.toList_data, bs_list]
  simp only [s4]
  clear s4
  go_enter Try.func66, Try.ntmps66
  go_wp2_with fail
  go_at_call 46
  refine (HC.out).mono ?_
  rintro e w1 ⟨rfl, hb⟩
  obtain ⟨W2, eW, hb2, h2, x0, x1, x2, x3, x4, hsz⟩ := box_tok (H.out.below hb H.out.lt) kd ts tn ln nl
  have HK := take_any [59] ⟨#[59]⟩ rfl W2 h2
  unfold takeR at HK
  rw [hi] at HK
  have HB := Lib.hid (And.intro (hb.trans (hb2.mono hb.size)) HK)
  have hR := H.out.lt
  have hz := hb.size
  clear hb hb2 h2 HK hi
  go_wp2_with fail
  go_at_call 48
  refine (HB.out.2).mono ?_
  rintro e w4 ⟨rfl, h4, hf4⟩
  have h4 : RdAt w4 R A cp L st := h4
  have ky := fun o => hf4.cell hsz (by omega) o
  rw [← ky] at x0 x1 x2 x3 x4
  obtain ⟨c0, c1, c2, c3⟩ := h4.cells
  have HS := Lib.hid (stop_any false w4 h4)
  have HH := Lib.hid (And.intro h4 ((Fr.of_below (R := R) HB.out.1 (Nat.le_refl _)).trans' hf4))
  clear h4 hf4 ky
  by_cases he : st.e = 0
  ·rw [he] at c2
   go_wp2_with (go_at_call 36; refine (HS.out).mono ?_; rintro e w5 ⟨rfl, h5, hf5⟩)
   all_goals first
    | exact bodyPost_ret (v := .tuple #[]) (results_none rfl _ _ _) rfl ⟨rfl, by first | exact HH.out.1 | (rw [if_pos (by simp [*])]; exact HH.out.1), HH.out.2⟩
    | (go_end0; exact ⟨rfl, by first | exact h5 | (rw [if_neg (by simp [*])]; exact h5), HH.out.2.trans' hf5⟩)
  ·have he' : (st.e != 0) = true := by simpa using he
   go_wp2
   all_goals exact bodyPost_ret (v := .tuple #[]) (results_none rfl _ _ _) rfl ⟨rfl, by first | exact HH.out.1 | (rw [if_pos (by simp [*])]; exact HH.out.1), HH.out.2⟩
end
end
section
open Go.RowKit Go.Proofs
section
variable {R cp : Nat} {A : Option Addr} {L : List Tok} {st st1 : St} {w wa wk w' : World} {t : Tr} {l : List Tr} {v : Value} {B : Nat}
structure Pl (R : Nat) (A : Option Addr) (cp : Nat) (L : List Tok) (w wk : World) (st : St) : Prop where
 rd : RdAt wk R A cp L st
 fr : Fr R w wk
theorem Pl.start (h : RdAt w R A cp L st) : Pl R A cp L w w st := ⟨h, Only.refl _ _⟩
theorem Pl.call (m : Pl R A cp L w wk st) (h : RdAt w' R A cp L st1) (hf : Fr R wk w') : Pl R A cp L w w' st1 := ⟨h, m.fr.trans' hf⟩
def Bx (W : World) (B : Nat) (v0 v1 v2 v3 v4 : Value) : Prop := W.heap[B]? = some (.cells #[v0, v1, v2, v3, v4] 24 (0, 0))
section
variable {v0 v1 v2 v3 v4 : Value}
theorem Bx.fr (h : Bx wk B v0 v1 v2 v3 v4) (hf : Fr R wk w') (hR : R < B) : Bx w' B v0 v1 v2 v3 v4 := (hf.block B (heap_lt h) (by omega)).trans h
theorem Bx.below {b : Nat} (h : Bx wk B v0 v1 v2 v3 v4) (hb : Below b wk w') (hB : wk.heap.size ≤ b) : Bx w' B v0 v1 v2 v3 v4 := (hb.block B (by have := heap_lt h; omega)).trans h
theorem Bx.cells (h : Bx wk B v0 v1 v2 v3 v4) : wk.cell? ⟨B, 0, none⟩ = some v0 ∧ wk.cell? ⟨B, 1, none⟩ = some v1 ∧ wk.cell? ⟨B, 2, none⟩ = some v2 ∧ wk.cell? ⟨B, 3, none⟩ = some v3 ∧ wk.cell? ⟨B, 4, none⟩ = some v4 := (box_facts h).1
theorem Bx.thaw (h : Bx wk B v0 v1 v2 v3 v4) : wk.frozen? ⟨B, 0, none⟩ = false ∧ wk.frozen? ⟨B, 1, none⟩ = false ∧ wk.frozen? ⟨B, 2, none⟩ = false ∧ wk.frozen? ⟨B, 3, none⟩ = false ∧ wk.frozen? ⟨B, 4, none⟩ = false := (box_facts h).2
theorem tok_kind (kd : Int) (ts : Bs) (tn : Int) (ln : Nat) (nl : Bool) (W : World) : Sem.run Try.prog (Instr.field 83 (.agg #[.int .i64 kd, .string (bs ts), .int .i64 tn, .int .i64 ln, .bool nl]) 0) W = .ok (.int .i64 kd) W := by kernel_rfl
theorem tok_line (kd : Int) (ts : Bs) (tn : Int) (ln : Nat) (nl : Bool) (W : World) : Sem.run Try.prog (Instr.field 83 (.agg #[.int .i64 kd, .string (bs ts), .int .i64 tn, .int .i64 ln, .bool nl]) 3) W = .ok (.int .i64 ln) W := by kernel_rfl
theorem Mid.box_ (m : Mid R A cp L w wk st) (v0 v1 v2 v3 v4 : Value) :
  ∃ W, wk.alloc (.cells #[v0, v1, v2, v3, v4] 24) = W ∧ Mid R A cp L w W st ∧ Fr R wk W ∧ Bx W wk.heap.size v0 v1 v2 v3 v4 ∧ W.heap.size = wk.heap.size + 1 :=
 ⟨_, rfl, m.call (m.rd.alloc _) (Only.alloc _ _), Only.alloc _ _, heap_alloc_new _ _, by simp⟩
theorem Mid.arr (m : Mid R A cp L w wk st) (cs : Array Value) :
  ∃ W, wk.alloc (.cells cs 24) = W ∧ Mid R A cp L w W st ∧ Fr R wk W ∧ W.heap[wk.heap.size]? = some (.cells cs 24 (0, 0)) ∧ W.heap.size = wk.heap.size + 1 :=
 ⟨_, rfl, m.call (m.rd.alloc _) (Only.alloc _ _), Only.alloc _ _, heap_alloc_new _ _, by simp⟩
theorem Mid.tok_ (m : Mid R A cp L w wk st) (kd : Int) (ts : Bs) (tn : Int) (ln : Nat) (nl : Bool) :
  ∃ W, wk.alloc (.cells #[.int .i64 kd, .string (bs ts), .int .i64 tn, .int .i64 ln, .bool nl] 83) = W ∧ Mid R A cp L w W st ∧ Fr R wk W ∧
   W.heap[wk.heap.size]? = some (.cells #[.int .i64 kd, .string (bs ts), .int .i64 tn, .int .i64 ln, .bool nl] 83 (0, 0)) ∧ W.heap.size = wk.heap.size + 1 :=
 ⟨_, rfl, m.call (m.rd.alloc _) (Only.alloc _ _), Only.alloc _ _, heap_alloc_new _ _, by simp⟩
theorem Bx.put3 (h : Bx wk B v0 v1 v2 v3 v4) (u : Value) : Bx (wk.setCell ⟨B, 3, none⟩ u) B v0 v1 v2 u v4 := by
 unfold Bx; rw [blk_set h]; rfl
theorem Bx.put0 (h : Bx wk B v0 v1 v2 v3 v4) (u : Value) : Bx (wk.setCell ⟨B, 0, none⟩ u) B u v1 v2 v3 v4 := by
 unfold Bx; rw [blk_set h]; rfl
theorem Bx.put1 (h : Bx wk B v0 v1 v2 v3 v4) (u : Value) : Bx (wk.setCell ⟨B, 1, none⟩ u) B v0 u v2 v3 v4 := by
 unfold Bx; rw [blk_set h]; rfl
end
theorem Bx.away {v0 v1 v2 v3 v4 : Value} {B' : Nat} (h : Bx wk B v0 v1 v2 v3 v4) (hb : B ≠ B') (i : Nat) (u : Value) : Bx (wk.setCell ⟨B', i, none⟩ u) B v0 v1 v2 v3 v4 :=
 (Below.heap_setCell wk _ _ B (by show B ≠ B'; exact hb)).trans h
abbrev Af (B : Nat) (W : World) : Nat → Prop := fun k => B < k ∧ k < W.heap.size
theorem TreeAt.af (h : TreeAt w' (New wk w') t v) (hB : B < wk.heap.size) : TreeAt w' (Af B w') t v := h.keep (fun k hk => ⟨by have := hk.1; omega, hk.2⟩) (fun k hk => rfl)
theorem RowAt.af (h : RowAt w' (New wk w') l v) (hB : B < wk.heap.size) : RowAt w' (Af B w') l v := h.keep (fun k hk => ⟨by have := hk.1; omega, hk.2⟩) (fun k hk => rfl)
theorem TreeAt.up (h : TreeAt wk (Af B wk) t v) (hf : Fr R wk w') (hR : R ≤ B) : TreeAt w' (Af B w') t v :=
 h.fr hf (fun k hk => ⟨hk.1, by have := hf.size; have := hk.2; omega⟩) (fun k hk => ⟨hk.2, by have := hk.1; omega⟩)
theorem RowAt.up (h : RowAt wk (Af B wk) l v) (hf : Fr R wk w') (hR : R ≤ B) : RowAt w' (Af B w') l v :=
 h.fr hf (fun k hk => ⟨hk.1, by have := hf.size; have := hk.2; omega⟩) (fun k hk => ⟨hk.2, by have := hk.1; omega⟩)
theorem TreeAt.lower {B' : Nat} (h : TreeAt wk (Af B wk) t v) (hB : B' ≤ B) : TreeAt wk (Af B' wk) t v := h.keep (fun k hk => ⟨by have := hk.1; omega, hk.2⟩) (fun k hk => rfl)
theorem RowAt.lower {B' : Nat} (h : RowAt wk (Af B wk) l v) (hB : B' ≤ B) : RowAt wk (Af B' wk) l v := h.keep (fun k hk => ⟨by have := hk.1; omega, hk.2⟩) (fun k hk => rfl)
theorem TreeAt.set (h : TreeAt wk (Af B wk) t v) (i : Nat) (u : Value) : TreeAt (wk.setCell ⟨B, i, none⟩ u) (Af B (wk.setCell ⟨B, i, none⟩ u)) t v :=
 h.keep (fun k hk => ⟨hk.1, by simp; exact hk.2⟩) (fun k hk => Below.heap_setCell wk _ _ k (by show k ≠ B; have := hk.1; omega))
theorem RowAt.set (h : RowAt wk (Af B wk) l v) (i : Nat) (u : Value) : RowAt (wk.setCell ⟨B, i, none⟩ u) (Af B (wk.setCell ⟨B, i, none⟩ u)) l v :=
 h.keep (fun k hk => ⟨hk.1, by simp; exact hk.2⟩) (fun k hk => Below.heap_setCell wk _ _ k (by show k ≠ B; have := hk.1; omega))
theorem Mid.set (m : Mid R A cp L w wk st) (hB : w.heap.size < B) (i : Nat) (u : Value) : Mid R A cp L w (wk.setCell ⟨B, i, none⟩ u) st := by
 have hs := Only.setCell (F := fun k => k = B) wk (b := B) rfl i u
 have := m.lt
 exact ⟨m.rd.only hs (fun i hi => by omega), Fr.own m.fr hs (fun i hi => by omega), (hs.block _ m.gt (by omega)).trans m.box, m.lt⟩
theorem Mid.drew (m : Mid R A cp L w wk st) : Mid R A cp L w wk.drew st := m.call (m.rd.keep fun i _ => rfl) ((Only.refl _ _).drew)
theorem Mid.gives' {fn : Func} {a : Act} {v0 v1 v2 v3 v4 : Value} (s : Nat) (m : Mid R A cp L w wk st1) (h : TreeAt wk (Af w.heap.size wk) t (.agg #[v0, v1, v2, v3, v4]))
  (hfn : fn.results = #[.cell s 24]) (hs : a.tmps.getD s undef = .pointer (some ⟨w.heap.size, 0, none⟩)) (hd : a.defers = []) :
  bodyPost Try.prog fn (GivesT R A cp L w t st1) .ret a (put5 wk w.heap.size v0 v1 v2 v3 v4) := Mid.gives s m h hfn hs hd
theorem own_blk {B : Nat} {ts : List Tr} (h : AccAt B wk ts v) {k : Nat} (hk : v.ownBlock = some k) : B ≤ k ∧ k < wk.heap.size := by
 obtain ⟨xs, -, h2, -⟩ := h
 exact own_lt h2 hk
theorem Pl.push {ts : List Tr} (m : Pl R A cp L w wk st) (h : AccAt w.heap.size wk ts v) (hon : Only (fun k => v.ownBlock = some k) wk w') (hR : R < w.heap.size) : Pl R A cp L w w' st :=
 ⟨m.rd.only hon (fun i hi => by have := own_blk h hi; omega), Fr.own m.fr hon (fun i hi => (own_blk h hi).1)⟩
theorem AccAt.fresh {ts : List Tr} {u : Value} (h : AccAt B wk ts v) (ht : TreeAt w' (New wk w') t u) (hB : B ≤ wk.heap.size) : TreeAt w' (fun k => (B ≤ k ∧ k < w'.heap.size) ∧ v.ownBlock ≠ some k) t u :=
 ht.keep (fun k hk => ⟨⟨by have := hk.1; omega, hk.2⟩, fun e => by have := (own_blk h e).2; have := hk.1; omega⟩) (fun k hk => rfl)
theorem TreeAt.leaf {S : Nat → Prop} {o k i : Int} {s : Bs} (W : World) (hf : Fine o s k) : TreeAt W S (.mk o s k i []) (.agg #[.int .i64 o, .string (bs s), .int .i64 k, .slice none 0 0, .int .i64 i]) := TreeAt.mk (RowAt.nil W S) hf
theorem Pl.givesL {ts : List Tr} (m : Pl R A cp L w wk st) (h : AccAt w.heap.size wk ts v) : GivesL R A cp L w ts st (.returned v) wk :=
 ⟨v, rfl, m.rd, m.fr, h.row.keep (fun k hk => hk) (fun k hk => rfl)⟩
theorem blk_fr {o : Obj} (h : wk.heap[B]? = some o) (hf : Fr R wk w') (hR : R < B) : w'.heap[B]? = some o := (hf.block B (heap_lt h) (by omega)).trans h
theorem blk_away {o : Obj} {B' : Nat} (h : wk.heap[B]? = some o) (hb : B ≠ B') (i : Nat) (u : Value) : (wk.setCell ⟨B', i, none⟩ u).heap[B]? = some o :=
 (Below.heap_setCell wk _ _ B (by show B ≠ B'; exact hb)).trans h
theorem Mid.next_ (m : Mid R A cp L w wk st) (hp : st.pos < L.length) :
  ∃ W, wk.setCell ⟨R, 1, none⟩ (.int .i64 ((st.pos : Int) + 1)) = W ∧ RdAt W R A cp L st.next ∧ Fr R wk W :=
 ⟨_, rfl, (m.rd.put_pos hp).1, (m.rd.put_pos hp).2⟩
theorem name_len (h : RdAt wk R A cp L st) : (nameR L st).1.length ≤ 65536 := by
 have := (h.tok_fine 0).1
 unfold nameR
 dsimp only
 split
 ·simp
 ·exact this
theorem fine_s {o : Int} {s : Bs} (h : s.length ≤ 65536) (ho : 0 ≤ o ∧ o ≤ 1000) : Fine o s 0 := ⟨by unfold maxLen; omega, by omega, by omega⟩
theorem wrap_next (h : st.pos < L.length) (hl : L.length ≤ 65536) : IntKind.i64.wrap ((st.pos : Int) + 1) = (st.pos : Int) + 1 := IntWalk.i64_in _ (by omega)
theorem bs_eq (s : Bs) (l : List UInt8) : ((bs s).toList == l) = decide (s = l) := by rw [Lib.toList_data, bs_list, Bool.eq_iff_iff]; simp
theorem tok_pos (h : RdAt wk R A cp L st) {kd : Int} {ts : Bs} {tn : Int} {ln : Nat} {nl : Bool} (ht : tokR L st 0 = ⟨kd, ts, tn, ln, nl⟩) (hk : kd ≠ 0) : st.pos < L.length := tok_lt0 (k := kd) (by rw [ht]) hk
theorem tok_len (h : RdAt wk R A cp L st) {kd : Int} {ts : Bs} {tn : Int} {ln : Nat} {nl : Bool} {k : Nat} (ht : tokR L st k = ⟨kd, ts, tn, ln, nl⟩) : ts.length ≤ 65536 ∧ 0 ≤ tn ∧ tn ≤ 999999999999999 := by
 have := h.tok_fine k
 rw [ht] at this
 exact this
theorem Fr.own2 (h : Fr R w wk) (k : Only (fun i => i = R ∨ i = B) wk w') (hB : w.heap.size ≤ B) : Fr R w w' :=
 ⟨k.os.trans h.os, k.tape.trans h.tape, k.output.trans h.output, Nat.le_trans h.size k.size, fun i hi hr => (k.block i (Nat.lt_of_lt_of_le hi h.size) (fun hf => by rcases hf with hf | hf <;> omega)).trans (h.block i hi hr)⟩
theorem Tr.eta_at {S : Nat → Prop} {y : Tr} {v : Value} (h : TreeAt wk S (.mk y.op y.s y.n y.line y.l) v) : TreeAt wk S y v := by cases y; exact h
theorem Only.of_set {n i : Nat} {u : Value} (h : Only (fun k => k = B) wk (wk.setCell ⟨B, i, none⟩ u)) (hB : n ≤ B) : Below n wk (wk.setCell ⟨B, i, none⟩ u) := ⟨h.os, h.tape, h.output, h.size, fun k hk => Below.heap_setCell wk _ _ k (by show k ≠ B; omega)⟩
abbrev AfX (b B : Nat) (W : World) : Nat → Prop := fun k => (b < k ∧ k < W.heap.size) ∧ k ≠ B
section
variable {b : Nat}
theorem TreeAt.upx (h : TreeAt wk (AfX b B wk) t v) (hf : Fr R wk w') (hR : R ≤ b) : TreeAt w' (AfX b B w') t v :=
 h.fr hf (fun k hk => ⟨⟨hk.1.1, by have := hf.size; have := hk.1.2; omega⟩, hk.2⟩) (fun k hk => ⟨hk.1.2, by have := hk.1.1; omega⟩)
theorem TreeAt.setx (h : TreeAt wk (AfX b B wk) t v) (i : Nat) (u : Value) : TreeAt (wk.setCell ⟨B, i, none⟩ u) (AfX b B (wk.setCell ⟨B, i, none⟩ u)) t v :=
 h.keep (fun k hk => ⟨⟨hk.1.1, by simp; exact hk.1.2⟩, hk.2⟩) (fun k hk => Below.heap_setCell wk _ _ k (by show k ≠ B; exact hk.2))
theorem TreeAt.put5x (h : TreeAt wk (AfX b B wk) t v) (v0 v1 v2 v3 v4 : Value) : TreeAt (put5 wk B v0 v1 v2 v3 v4) (AfX b B (put5 wk B v0 v1 v2 v3 v4)) t v := ((((h.setx 0 v0).setx 1 v1).setx 2 v2).setx 3 v3).setx 4 v4
theorem TreeAt.belowx (h : TreeAt wk (AfX b B wk) t v) (hb : Below wk.heap.size wk w') : TreeAt w' (AfX b B w') t v := h.keep (fun k hk => ⟨⟨hk.1.1, by have := hb.size; have := hk.1.2; omega⟩, hk.2⟩) (fun k hk => hb.block k hk.1.2)
theorem below_set {n : Nat} (W : World) (hB : n ≤ B) (i : Nat) (u : Value) : Below n W (W.setCell ⟨B, i, none⟩ u) := (Only.setCell (F := fun k => k = B) W (b := B) rfl i u).of_set hB
theorem TreeAt.x_before (h : TreeAt wk (Af b wk) t v) (hw : wk.heap.size ≤ B) : TreeAt wk (AfX b B wk) t v := h.keep (fun k hk => ⟨hk, by have := hk.2; omega⟩) (fun k hk => rfl)
theorem TreeAt.x_behind {b' : Nat} (h : TreeAt wk (Af b' wk) t v) (hb : b ≤ b') (hB : B ≤ b') : TreeAt wk (AfX b B wk) t v := h.keep (fun k hk => ⟨⟨by have := hk.1; omega, hk.2⟩, by have := hk.1; omega⟩) (fun k hk => rfl)
theorem TreeAt.of_x (h : TreeAt wk (AfX b B wk) t v) : TreeAt wk (Af b wk) t v := h.keep (fun k hk => hk.1) (fun k hk => rfl)
theorem Mid.put5 (m : Mid R A cp L w wk st) (hB : w.heap.size < B) (v0 v1 v2 v3 v4 : Value) : Mid R A cp L w (put5 wk B v0 v1 v2 v3 v4) st := ((((m.set hB 0 v0).set hB 1 v1).set hB 2 v2).set hB 3 v3).set hB 4 v4
theorem Bx.put5 {u0 u1 u2 u3 u4 : Value} (h : Bx wk B u0 u1 u2 u3 u4) (v0 v1 v2 v3 v4 : Value) : Bx (put5 wk B v0 v1 v2 v3 v4) B v0 v1 v2 v3 v4 := put5_blk h
theorem fine_op {o : Int} {s : Bs} (h : s.length ≤ 65536) (ho : 0 ≤ o ∧ o ≤ 1000) : Fine o s 0 := fine_s h ho
end
end
end
section
open Go.RowKit Go.Proofs
section
variable {R cp : Nat} {A : Option Addr} {L : List Tok} {st st1 : St} {w wa wk w' : World} {t : Tr} {l : List Tr} {v : Value} {B : Nat}
theorem append_nothing {P : Program} (base : Nat) (t ty e : TypeId) (i : TypeInfo) (size c : Nat) (ht : P.underlying t = some (.slice e)) (hi : P.info? e = some i)
  (v : Value) (n : Nat) (xs : List Value) (hown : w.ownsRow base e size v n xs) :
  (Builtin.append_ #[t, t] ty #[v, .slice none 0 c]).run P w = .ok v w := by
 rcases hown.2 with ⟨rfl, rfl⟩ | ⟨g, cap, cur, rfl, _, _, hnc, _⟩
 ·simp [Builtin.append_, run_underlying ht, sizeOf, typeInfo, hi, Builtin.lenOf, Builtin.firstCells]
 ·simp [Builtin.append_, run_underlying ht, sizeOf, typeInfo, hi, Builtin.lenOf, Builtin.firstCells, hnc, storeCells]
theorem AccAt.lit1 {g : Nat} {cs : Array Value} (h : TreeAt wk (fun k => (B ≤ k ∧ k < wk.heap.size) ∧ k ≠ g) t v) (hg : wk.heap[g]? = some (.cells cs 24 (0, 0))) (hcs : cs.toList = cellsT v) (hB : B ≤ g) : AccAt B wk [t] (.slice (some ⟨g, 0, none⟩) 1 1) := by
 obtain ⟨-, hl5⟩ := val_one h
 obtain ⟨x, rfl, rfl, h3⟩ := h
 refine ⟨[x], by rw [trees, trees], ⟨by simp [hl5], .inr ⟨g, 1, cs, rfl, hB, hg, Nat.le_refl _, by simp [maxLen], ?_, ?_⟩⟩, fun y hy => ?_⟩
 ·rw [← Array.length_toList, hcs, hl5]
 ·rw [List.take_of_length_le (by rw [hcs, hl5]; exact Nat.le_refl _), hcs]; simp
 ·rw [List.mem_singleton.1 hy]
  exact h3.frame (fun k hk => ⟨hk.1, by simp [Value.ownBlock]; exact fun e => hk.2 e.symm⟩) (fun k hk => rfl)
theorem cells_at {W : World} {S : Nat → Prop} {g : Nat} : ∀ (xs : List Lo) (off : Nat), LoAtL W S g off xs → ∀ j u, (xs.flatMap fun x => cellsT x.val)[j]? = some u → W.cell? ⟨g, off + j, none⟩ = some u
 | [], off, _, j, u, h => by simp at h
 | x :: r, off, h, j, u, hj => by
  rw [LoAtL_cons] at h
  obtain ⟨⟨-, h0, h1, h2, h3, h4⟩, hr⟩ := h
  rw [List.flatMap_cons, cellsT_val] at hj
  by_cases h5 : j < 5
  ·rw [List.getElem?_append_left (by simpa using h5)] at hj
   match j, h5 with
   | 0, _ => cases hj; exact h0
   | 1, _ => cases hj; exact h1
   | 2, _ => cases hj; exact h2
   | 3, _ => cases hj; exact h3
   | 4, _ => cases hj; exact h4
  ·rw [List.getElem?_append_right (by simp; omega)] at hj
   have := cells_at r (off + 5) hr (j - 5) u (by simpa using hj)
   have e : off + 5 + (j - 5) = off + j := by omega
   rwa [e] at this
theorem AccAt.pushL {ts : List Tr} {u : Value} (h : AccAt B w ts v) (hl : RowAt w (fun k => (B ≤ k ∧ k < w.heap.size) ∧ v.ownBlock ≠ some k) l u) (hn : ts.length + l.length ≤ 3000000) (hB : B ≤ w.heap.size) (ty : TypeId) :
    ∃ v' w', (Builtin.append_ #[22, 22] ty #[v, u]).run Try.prog w = .ok v' w' ∧
      (AccAt B w' (ts ++ l) v' ∧ Only (fun k => v.ownBlock = some k) w w' ∧ ∃ A' c', v' = .slice A' (ts.length + l.length) c') := by
  obtain ⟨xs, rfl, h2, h3⟩ := id h
  obtain ⟨ys, rfl, A', c', rfl, ⟨hc1, hc2⟩, h4⟩ := hl
  have hyl : (trees ys).length = ys.length := by rw [trees_map, List.length_map]
  obtain ⟨i0, j0, j1, j2, j3⟩ := info_parts node_info
  by_cases h0 : ys = []
  · subst h0
    obtain ⟨A2, c2, e2, -, -⟩ := h.slice
    have hz : (trees xs ++ trees []) = trees xs := by rw [show trees [] = [] by rw [trees], List.append_nil]
    cases A' with
    | none =>
      refine ⟨v, w, append_nothing B 22 ty 24 i0 5 c' Try.underlying22 j0 v _ _ h2, ?_, Only.refl _ _, A2, c2, ?_⟩
      · rw [hz]; exact h
      · rw [e2]; simp [trees]
    | some a =>
      obtain ⟨v', w', r1, r2, r3, -, r5⟩ := run_append_own_at (P := Try.prog) w B 22 ty 24 i0 _ 5 64 Try.underlying22 j0 j1 j2 j3 rfl (by decide) v (trees xs).length _ h2 a 0 c' [] rfl (fun j u hj => by simp at hj) (by simp) (by unfold maxLen; omega) (by omega) hB
      have hon : Only (fun k => v.ownBlock = some k) w w' := Only.grown r3 fun k e => e
      refine ⟨v', w', r1, ⟨xs, hz.symm, by rw [hz]; simpa using r2, fun y hy => (h3 y hy).frame (fun k hk => ⟨⟨hk.1.1, by have := hon.size; omega⟩, fun e => ?_⟩) (fun k hk => hon.block k hk.1.2 hk.2)⟩, hon, ?_⟩
      · rcases r5 with r5 | r5
        · exact hk.2 (r5 ▸ e)
        · rw [r5] at e
          have := hk.1.2
          simp at e
          omega
      · rcases r2.2 with ⟨e, h0⟩ | ⟨g, cap, cur, e, -⟩
        · exact ⟨none, 0, by rw [e]; have : (trees xs).length = 0 := by omega
                             rw [this]; simp [trees]⟩
        · exact ⟨some ⟨g, 0, none⟩, cap, by rw [e]; simp [trees]⟩
  · have hpos : 0 < ys.length := List.length_pos_iff.2 h0
    obtain ⟨g, off, rfl, hg, ha⟩ := h4 hpos
    have h5 : ∀ y ∈ ys, LoAt w (fun k => (B ≤ k ∧ k < w.heap.size) ∧ v.ownBlock ≠ some k) y := fun y hy => by
      have := LoAtL.part 0 ys ha (y, 0)
      refine this ?_
      have key : ∀ (zs : List Lo), y ∈ zs → (y, 0) ∈ loLevels 0 zs := by
        intro zs
        induction zs with
        | nil => intro h; cases h
        | cons z r ih =>
          intro h
          rw [loLevels_cons]
          rcases List.mem_cons.1 h with rfl | h
          · rw [lo_levels_eq]; exact List.mem_append_left _ (List.mem_cons_self ..)
          · exact List.mem_append_right _ (ih h)
      exact key ys hy
    have hflat : (ys.flatMap fun x => cellsT x.val).length = ys.length * 5 := by
      clear h5 ha hpos h0 hyl hn h4 hc1
      induction ys with
      | nil => rfl
      | cons y r ih => rw [List.flatMap_cons, List.length_append, ih, cellsT_val, List.length_cons]; simp; omega
    have hone : ∀ u ∈ (ys.flatMap fun x => cellsT x.val), u.oneCell' = true := fun u hu => by
      obtain ⟨y, hy, hu⟩ := List.mem_flatMap.1 hu
      exact (val_one ⟨y, rfl, rfl, h5 y hy⟩).1 u hu
    obtain ⟨v', w', r1, r2, r3, -, r5⟩ := run_append_own_at (P := Try.prog) w B 22 ty 24 i0 _ 5 64 Try.underlying22 j0 j1 j2 j3 rfl (by decide) v (trees xs).length _ h2 ⟨g, off, none⟩ ys.length c' (ys.flatMap fun x => cellsT x.val) hflat (fun j u hj => by
      have e : (⟨g, off, none⟩ : Addr).add j = ⟨g, off + j, none⟩ := by unfold Addr.add; split <;> simp_all
      rw [e]
      exact cells_at ys off ha j u hj) hone (by unfold maxLen; omega) (by omega) hB
    have hon : Only (fun k => v.ownBlock = some k) w w' := Only.grown r3 fun k e => e
    refine ⟨v', w', r1, ⟨xs ++ ys, by rw [trees_map, trees_map, trees_map, List.map_append], by rw [List.length_append, hyl, List.flatMap_append]; exact r2, fun y hy => ?_⟩, hon, ?_⟩
    · have hnew : ∀ k, ((B ≤ k ∧ k < w.heap.size) ∧ v.ownBlock ≠ some k) → (B ≤ k ∧ k < w'.heap.size) ∧ v'.ownBlock ≠ some k := fun k hk => ⟨⟨hk.1.1, by have := hon.size; omega⟩, fun e => by
        rcases r5 with r5 | r5
        · exact hk.2 (r5 ▸ e)
        · rw [r5] at e
          have := hk.1.2
          simp at e
          omega⟩
      have hky : ∀ k, ((B ≤ k ∧ k < w.heap.size) ∧ v.ownBlock ≠ some k) → w'.heap[k]? = w.heap[k]? := fun k hk => hon.block k hk.1.2 hk.2
      rcases List.mem_append.1 hy with hy | hy
      · exact (h3 y hy).frame hnew hky
      · exact (h5 y hy).frame hnew hky
    · rcases r2.2 with ⟨-, h0⟩ | ⟨g, cap, cur, e, -⟩
      · omega
      · exact ⟨_, _, by rw [e, hyl]⟩
theorem AccAt.freshL {ts : List Tr} {u : Value} (h : AccAt B wk ts v) (ht : RowAt w' (New wk w') l u) (hB : B ≤ wk.heap.size) : RowAt w' (fun k => (B ≤ k ∧ k < w'.heap.size) ∧ v.ownBlock ≠ some k) l u :=
 ht.keep (fun k hk => ⟨⟨by have := hk.1; omega, hk.2⟩, fun e => by have := (own_blk h e).2; have := hk.1; omega⟩) (fun k hk => rfl)
theorem AccAt.af {ts : List Tr} {b : Nat} (h : AccAt B wk ts v) (hb : b < B) : RowAt wk (Af b wk) ts v := h.row.keep (fun k hk => ⟨by omega, hk.2⟩) (fun k hk => rfl)
theorem Mid.push {ts : List Tr} (m : Mid R A cp L w wk st) (h : AccAt B wk ts v) (hB : w.heap.size < B) (hon : Only (fun k => v.ownBlock = some k) wk w') : Mid R A cp L w w' st := by
 have hR := m.lt
 refine ⟨m.rd.only hon (fun i hi => by have := own_blk h hi; omega), Fr.own m.fr hon (fun i hi => by have := own_blk h hi; omega), (hon.block _ m.gt (fun e => by have := own_blk h e; omega)).trans m.box, m.lt⟩
theorem Bx.push {ts : List Tr} {v0 v1 v2 v3 v4 : Value} {b : Nat} (h : Bx wk b v0 v1 v2 v3 v4) (ha : AccAt B wk ts v) (hb : b < B) (hon : Only (fun k => v.ownBlock = some k) wk w') : Bx w' b v0 v1 v2 v3 v4 :=
 (hon.block _ (heap_lt h) (fun e => by have := own_blk ha e; omega)).trans h
theorem TreeAt.put5a (h : TreeAt wk (Af B wk) t v) (v0 v1 v2 v3 v4 : Value) : TreeAt (put5 wk B v0 v1 v2 v3 v4) (Af B (put5 wk B v0 v1 v2 v3 v4)) t v := ((((h.set 0 v0).set 1 v1).set 2 v2).set 3 v3).set 4 v4
theorem put5_below {n : Nat} (hB : n ≤ B) (v0 v1 v2 v3 v4 : Value) : Below n wk (put5 wk B v0 v1 v2 v3 v4) :=
 ((((below_set wk hB 0 v0).trans (below_set _ hB 1 v1)).trans (below_set _ hB 2 v2)).trans (below_set _ hB 3 v3)).trans (below_set _ hB 4 v4)
theorem AccAt.away {ts : List Tr} {b : Nat} (h : AccAt B wk ts v) (hb : b < B) (i : Nat) (u : Value) : AccAt B (wk.setCell ⟨b, i, none⟩ u) ts v :=
 h.keep (by simp) (fun k h1 h2 => Below.heap_setCell wk _ _ k (by show k ≠ b; omega))
theorem AccAt.put5 {ts : List Tr} {b : Nat} (h : AccAt B wk ts v) (hb : b < B) (v0 v1 v2 v3 v4 : Value) : AccAt B (put5 wk b v0 v1 v2 v3 v4) ts v := ((((h.away hb 0 v0).away hb 1 v1).away hb 2 v2).away hb 3 v3).away hb 4 v4
end
end
section
open Go.RowKit Go.Proofs
section
variable {R cp : Nat} {A : Option Addr} {L : List Tok} {st : St} {F : Nat}
theorem args_len {F : Nat} {acc : List Tr} {m : Bool} {s : St} {l : List Tr} {s' : St} (h : run L F (.args acc m) s = some (l, s')) : l.length ≤ acc.length + F := by
 cases F with
 | zero => cases h
 | succ F =>
  rw [run] at h
  cases m with
  | true => cases h
  | false =>
   cases h
   omega
theorem signed_ok (ih : All R A cp L F) (hF : F ≤ 2000000) (l : List Tr) (st1 : St) (hr : run L (F + 1) .signed st = some (l, st1)) : Spec R A cp L .signed st l st1 := by
 intro w h
 rw [run] at hr
 try dsimp only at hr
 cases ht : tokR L st 0 with | mk kd ts tn ln nl =>
 have m0 := Mid.start h
 obtain ⟨W1, eW1⟩ : ∃ W, w.alloc (.cells #[.int .i64 0, .string ⟨#[]⟩, .int .i64 0, .slice none 0 0, .int .i64 0] 24) = W := ⟨_, rfl⟩
 rw [eW1] at m0
 have hz0 := m0.gt
 have M0 := Lib.hid m0
 have hR := h.lt
 clear h m0
 cases hi : isR L st [33] with
 | true => simp [hi] at hr
 | false =>
  cases hj : isR L st [45] with
  | true => simp [hi, hj] at hr
  | false =>
   cases hn : isR L st [110, 101, 119] with
   | false =>
    cases e1 : run L F .thing st with
    | none => simp [hi, hj, hn, e1] at hr
    | some x =>
    obtain ⟨x, s2⟩ := x
    have e2 : run L F (.parts (hd x) true) s2 = some (l, st1) := by simpa [hi, hj, hn, e1] using hr
    have H1 := Lib.hid (ih .thing _ _ _ e1)
    have H2 := Lib.hid (ih (.parts (hd x) true) _ _ _ e2)
    clear hr e1 e2
    go_enter Try.func99, Try.ntmps99
    have HQ0 := tok_any 0 W1 M0.out.rd (by omega)
    rw [ht] at HQ0
    unfold tokV at HQ0
    have HQ := Lib.hid HQ0
    clear HQ0
    go_wp2_with fail
    go_at_call 46
    refine (HQ.out).mono ?_
    rintro e w2 ⟨rfl, hb⟩
    have f2 := Fr.of_below (R := R) hb (Nat.le_refl _)
    have h2 := M0.out.rd.below hb M0.out.rd.lt
    have z2 := f2.size
    clear hb
    have M2 := Lib.hid ((M0.out.call h2 f2))
    clear h2 f2
    clear HQ
    have fl := tok_line kd ts tn ln nl w2
    have HQ0 := take_any [33] ⟨#[33]⟩ rfl w2 M2.out.rd
    unfold takeR at HQ0
    rw [hi] at HQ0
    have HQ := Lib.hid HQ0
    clear HQ0
    go_wp2_with fail
    go_at_call 48
    refine (HQ.out).mono ?_
    rintro e w3 ⟨rfl, h3, f3⟩
    have h3 : RdAt w3 R A cp L (st) := h3
    have z3 := f3.size
    have M3 := Lib.hid ((M2.out.call h3 f3))
    clear h3 f3
    clear HQ
    have HQ0 := take_any [45] ⟨#[45]⟩ rfl w3 M3.out.rd
    unfold takeR at HQ0
    rw [hj] at HQ0
    have HQ := Lib.hid HQ0
    clear HQ0
    go_wp2_with fail
    go_at_call 48
    refine (HQ.out).mono ?_
    rintro e w4 ⟨rfl, h4, f4⟩
    have h4 : RdAt w4 R A cp L (st) := h4
    have z4 := f4.size
    have M4 := Lib.hid ((M3.out.call h4 f4))
    clear h4 f4
    clear HQ
    obtain ⟨w5, e5, m5, f5, b5, zq5⟩ := M4.out.box_ (.int .i64 0) (.string ⟨#[]⟩) (.int .i64 0) (.slice none 0 0) (.int .i64 0)
    have z5 : w4.heap.size < w5.heap.size := by omega
    clear zq5
    have M5 := Lib.hid (And.intro m5 (b5))
    clear m5 f5 b5
    have HQ0 := take_any [110, 101, 119] ⟨#[110, 101, 119]⟩ rfl w5 M5.out.1.rd
    unfold takeR at HQ0
    rw [hn] at HQ0
    have HQ := Lib.hid HQ0
    clear HQ0
    go_wp2_with fail
    go_at_call 48
    refine (HQ.out).mono ?_
    rintro e w6 ⟨rfl, h6, f6⟩
    have h6 : RdAt w6 R A cp L (st) := h6
    have z6 := f6.size
    have M6 := Lib.hid (And.intro (M5.out.1.call h6 f6) (M5.out.2.fr f6 (by omega)))
    clear h6 f6
    clear HQ
    go_wp2_with fail
    go_at_call 102
    refine (H1.out w6 M6.out.1.rd).mono ?_
    rintro e w7 ⟨v7, rfl, h7, f7, t7⟩
    obtain ⟨A7, c7, rfl, -, -⟩ := t7.form
    have z7 := f7.size
    have M7 := Lib.hid (And.intro (M6.out.1.call h7 f7) (And.intro (M6.out.2.fr f7 (by omega)) (t7.af (B := w4.heap.size) (by omega))))
    clear h7 f7 t7
    obtain ⟨x0, x1, x2, x3, x4⟩ := M7.out.2.1.cells
    obtain ⟨q0, q1, q2, q3, q4⟩ := M7.out.2.1.thaw
    obtain ⟨w8, e8⟩ : ∃ W, put5 w7 w4.heap.size (.int .i64 (hd x).op) (.string (bs (hd x).s)) (.int .i64 (hd x).n) (.slice A7 (hd x).l.length c7) (.int .i64 (hd x).line) = W := ⟨_, rfl⟩
    have m8 := M7.out.1.put5 (B := w4.heap.size) (by omega) (.int .i64 (hd x).op) (.string (bs (hd x).s)) (.int .i64 (hd x).n) (.slice A7 (hd x).l.length c7) (.int .i64 (hd x).line)
    have b8 := M7.out.2.1.put5 (.int .i64 (hd x).op) (.string (bs (hd x).s)) (.int .i64 (hd x).n) (.slice A7 (hd x).l.length c7) (.int .i64 (hd x).line)
    have i8x := M7.out.2.2.put5a (.int .i64 (hd x).op) (.string (bs (hd x).s)) (.int .i64 (hd x).n) (.slice A7 (hd x).l.length c7) (.int .i64 (hd x).line)
    have z8 : w7.heap.size ≤ w8.heap.size := by rw [← e8]; exact (put5_only w7 w4.heap.size (.int .i64 (hd x).op) (.string (bs (hd x).s)) (.int .i64 (hd x).n) (.slice A7 (hd x).l.length c7) (.int .i64 (hd x).line)).size
    rw [e8] at m8 b8 i8x
    dsimp only [put5] at e8
    have M8 := Lib.hid (And.intro m8 (And.intro b8 (i8x)))
    clear m8 b8 i8x
    obtain ⟨x0, x1, x2, x3, x4⟩ := M8.out.2.1.cells
    go_wp2_with fail
    go_at_call 101
    refine (H2.out w8 _ _ M8.out.1.rd (M8.out.2.2.lower (by omega)) (fun k hk => ⟨hk.2, by have := hk.1; omega⟩)).mono ?_
    rintro e w9 ⟨v9, rfl, h9, f9, t9⟩
    have t9 : TreeAt w9 (Af w.heap.size w9) _ _ := t9.keep (fun k hk => by rcases hk with hk | hk <;> exact ⟨by have := hk.1; omega, by have := hk.2; have := f9.size; omega⟩) (fun k hk => rfl)
    obtain ⟨A9, c9, rfl, -, -⟩ := t9.form
    have z9 := f9.size
    have M9 := Lib.hid (And.intro (M8.out.1.call h9 f9) t9)
    clear h9 f9 t9
    obtain ⟨⟨y0, y1, y2, y3, y4⟩, g0, g1, g2, g3, g4⟩ := M9.out.1.facts
    go_wp2
    exact M9.out.1.gives' 2 M9.out.2 rfl rfl rfl
   | true => simp [hi, hj, hn] at hr
end
end
end Go.Proofs.Ytbpodijcndglgaa
