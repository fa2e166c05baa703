/- The document's reader: must, name, end, isKey, plain, signs, num. The document's reader: nodes in boxes. -/
import Derived.Test.YtbpodijcndglgaaPn24
set_option linter.unusedSimpArgs false
set_option linter.unusedVariables false
set_option maxRecDepth 100000
set_option maxHeartbeats 40000000
namespace Go.Proofs.Ytbpodijcndglgaa
section
open Go.RowKit Go.Proofs
section
variable {R cp : Nat} {A : Option Addr} {L : List Tok} {st : St}
theorem must_any (S : Bs) (s : ByteArray) (hs : s = bs S) (w : World) (h : RdAt w R A cp L st) :
  Calls Try.prog 80 #[ptr R, .string s] w fun e w' => e = .returned (.tuple #[]) ∧ RdAt w' R A cp L (mustR L st S) ∧ Fr R w w' := by
 subst hs
 have HC := Lib.hid (take_any S _ rfl w h)
 unfold takeR at HC
 unfold mustR
 cases hi : isR L st S with
 | true =>
  rw [hi] at HC
  clear h hi
  go_enter Try.func80, Try.ntmps80
  go_wp2_with (go_at_call 48; refine (HC.out).mono ?_; rintro e w1 ⟨rfl, h1, hf⟩)
  go_end0
  exact ⟨rfl, h1, hf⟩
 | false =>
  rw [hi] at HC
  clear h hi
  by_cases he : st.e = 0
  ·go_enter Try.func80, Try.ntmps80
   go_wp2_with fail
   go_at_call 48
   refine (HC.out).mono ?_
   rintro e w1 ⟨rfl, h1, hf⟩
   have h1 : RdAt w1 R A cp L st := h1
   obtain ⟨c0, c1, c2, c3⟩ := h1.cells
   rw [he] at c2
   have HS := Lib.hid (stop_any false w1 h1)
   clear h1
   go_wp2_with (go_at_call 36; refine (HS.out).mono ?_; rintro e w2 ⟨rfl, h2, hf2⟩)
   go_end0
   exact ⟨rfl, h2, hf.trans' hf2⟩
  ·have d1 : (st.e == 0) = false := by simpa using he
   go_enter Try.func80, Try.ntmps80
   go_wp2_with fail
   go_at_call 48
   refine (HC.out).mono ?_
   rintro e w1 ⟨rfl, h1, hf⟩
   have h1 : RdAt w1 R A cp L st := h1
   obtain ⟨c0, c1, c2, c3⟩ := h1.cells
   go_wp2
   go_end0
   exact ⟨rfl, h1, hf⟩
theorem name_any (w : World) (h : RdAt w R A cp L st) :
  Calls Try.prog 81 #[ptr R] w fun e w' => e = .returned (.string (bs (nameR L st).1)) ∧ RdAt w' R A cp L (nameR L st).2 ∧ Fr R w w' := by
 have HT := tok_any 0 w h (by omega)
 have hlen := h.len
 have hp : (tokR L st 0).kind = 1 → st.pos < L.length := fun e => tok_lt0 e (by decide)
 unfold nameR
 cases ht : tokR L st 0 with | mk kd ts tn ln nl =>
 rw [ht] at HT hp
 unfold tokV at HT
 have HC := Lib.hid HT
 have H := Lib.hid h
 clear h HT ht
 dsimp only [Tok.kind, Tok.s] at hp ⊢
 by_cases hc : st.e ≠ 0 ∨ kd ≠ 1
 ·rw [if_pos hc]
  go_enter Try.func81, Try.ntmps81
  go_wp2_with fail
  go_at_call 46
  refine (HC.out).mono ?_
  rintro e w1 ⟨rfl, hb⟩
  obtain ⟨W2, eW, hb2, h2, x0, x1, x2, x3, x4, hsz⟩ := box_tok (H.out.below hb H.out.lt) kd ts tn ln nl
  obtain ⟨c0, c1, c2, c3⟩ := h2.cells
  have HB := Lib.hid (And.intro (hb.trans (hb2.mono hb.size)) (stop_any false W2 h2))
  clear hb hb2 h2
  by_cases he : st.e = 0
  ·have hk : (kd != 1) = true := by simpa using hc.resolve_left (fun h => h he)
   rw [he] at c2
   go_wp2_with (go_at_call 36; refine (HB.out.2).mono ?_; rintro e w4 ⟨rfl, h4, hf4⟩)
   go_ret
   exact ⟨rfl, h4, (Fr.of_below (R := R) HB.out.1 (Nat.le_refl _)).trans' hf4⟩
  ·have he' : (st.e != 0) = true := by simpa using he
   go_wp2_with (go_at_call 36; refine (HB.out.2).mono ?_; rintro e w4 ⟨rfl, h4, hf4⟩)
   go_ret
   exact ⟨rfl, h4, (Fr.of_below (R := R) HB.out.1 (Nat.le_refl _)).trans' hf4⟩
 ·rw [if_neg hc]
  have he : st.e = 0 := Classical.byContradiction fun h => hc (.inl h)
  have hk : kd = 1 := Classical.byContradiction fun h => hc (.inr h)
  subst hk
  have hps : st.pos < L.length := hp rfl
  clear hp
  clear hc
  go_enter Try.func81, Try.ntmps81
  go_wp2_with fail
  go_at_call 46
  refine (HC.out).mono ?_
  rintro e w1 ⟨rfl, hb⟩
  obtain ⟨W2, eW, hb2, h2, x0, x1, x2, x3, x4, hsz⟩ := box_tok (H.out.below hb H.out.lt) 1 ts tn ln nl
  obtain ⟨c0, c1, c2, c3⟩ := h2.cells
  have f1 := h2.thaw 1
  have HB := Lib.hid (And.intro (hb.trans (hb2.mono hb.size)) (h2.put_pos hps))
  have hw : IntKind.i64.wrap ((st.pos : Int) + 1) = (st.pos : Int) + 1 := IntWalk.i64_in _ (by omega)
  have hne : (⟨w1.heap.size, 1, none⟩ : Addr).block ≠ R := by have := H.out.lt; have := hb.size; show w1.heap.size ≠ R; omega
  have z1 : (W2.setCell ⟨R, 1, none⟩ (.int .i64 ((st.pos : Int) + 1))).cell? ⟨w1.heap.size, 1, none⟩ = some (.string (bs ts)) := by
   rw [cell_block (Below.heap_setCell W2 _ _ w1.heap.size hne) _ rfl]; exact x1
  rw [he] at c2
  clear hb hb2 h2
  go_wp2
  go_ret
  exact ⟨rfl, HB.out.2.1, (Fr.of_below (R := R) HB.out.1 (Nat.le_refl _)).trans' HB.out.2.2⟩
theorem end_any (w : World) (h : RdAt w R A cp L st) :
  Calls Try.prog 66 #[ptr R] w fun e w' => e = .returned (.tuple #[]) ∧ RdAt w' R A cp L (endR L st) ∧ Fr R w w' := by
 have HT := tok_any 0 w h (by omega)
 unfold endR
 cases ht : tokR L st 0 with | mk kd ts tn ln nl =>
 rw [ht] at HT
 unfold tokV at HT
 have HC := Lib.hid HT
 have H := Lib.hid h
 clear h HT ht
 dsimp only [Tok.kind, Tok.s, Tok.nl]
 cases hi : isR L st [59] with
 | true =>
  rw [if_pos rfl]
  go_enter Try.func66, Try.ntmps66
  go_wp2_with fail
  go_at_call 46
  refine (HC.out).mono ?_
  rintro e w1 ⟨rfl, hb⟩
  obtain ⟨W2, eW, hb2, h2, x0, x1, x2, x3, x4, hsz⟩ := box_tok (H.out.below hb H.out.lt) kd ts tn ln nl
  have HK := take_any [59] ⟨#[59]⟩ rfl W2 h2
  unfold takeR at HK
  rw [hi] at HK
  have HB := Lib.hid (And.intro (hb.trans (hb2.mono hb.size)) HK)
  clear hb hb2 h2 HK hi
  go_wp2_with (go_at_call 48; refine (HB.out.2).mono ?_; rintro e w4 ⟨rfl, h4, hf4⟩)
  exact bodyPost_ret (v := .tuple #[]) (results_none rfl _ _ _) rfl ⟨rfl, h4, (Fr.of_below (R := R) HB.out.1 (Nat.le_refl _)).trans' hf4⟩
 | false =>
  rw [if_neg (by decide)]
  obtain ⟨b4, e4⟩ : ∃ b, ((bs ts).toList == [125]) = b := ⟨_, rfl⟩
  have s4 : (ts = [125]) = (b4 = true) := by rw [← e4]; simp [Lib.toList_data, bs_list]
  simp only [s4]
  clear s4
  go_enter Try.func66, Try.ntmps66
  go_wp2_with fail
  go_at_call 46
  refine (HC.out).mono ?_
  rintro e w1 ⟨rfl, hb⟩
  obtain ⟨W2, eW, hb2, h2, x0, x1, x2, x3, x4, hsz⟩ := box_tok (H.out.below hb H.out.lt) kd ts tn ln nl
  have HK := take_any [59] ⟨#[59]⟩ rfl W2 h2
  unfold takeR at HK
  rw [hi] at HK
  have HB := Lib.hid (And.intro (hb.trans (hb2.mono hb.size)) HK)
  have hR := H.out.lt
  have hz := hb.size
  clear hb hb2 h2 HK hi
  go_wp2_with fail
  go_at_call 48
  refine (HB.out.2).mono ?_
  rintro e w4 ⟨rfl, h4, hf4⟩
  have h4 : RdAt w4 R A cp L st := h4
  have ky := fun o => hf4.cell hsz (by omega) o
  rw [← ky] at x0 x1 x2 x3 x4
  obtain ⟨c0, c1, c2, c3⟩ := h4.cells
  have HS := Lib.hid (stop_any false w4 h4)
  have HH := Lib.hid (And.intro h4 ((Fr.of_below (R := R) HB.out.1 (Nat.le_refl _)).trans' hf4))
  clear h4 hf4 ky
  by_cases he : st.e = 0
  ·rw [he] at c2
   go_wp2_with (go_at_call 36; refine (HS.out).mono ?_; rintro e w5 ⟨rfl, h5, hf5⟩)
   all_goals first
    | exact bodyPost_ret (v := .tuple #[]) (results_none rfl _ _ _) rfl ⟨rfl, by first | exact HH.out.1 | (rw [if_pos (by simp [*])]; exact HH.out.1), HH.out.2⟩
    | (go_end0; exact ⟨rfl, by first | exact h5 | (rw [if_neg (by simp [*])]; exact h5), HH.out.2.trans' hf5⟩)
  ·have he' : (st.e != 0) = true := by simpa using he
   go_wp2
   all_goals exact bodyPost_ret (v := .tuple #[]) (results_none rfl _ _ _) rfl ⟨rfl, by first | exact HH.out.1 | (rw [if_pos (by simp [*])]; exact HH.out.1), HH.out.2⟩
end
end
section
open Go.RowKit Go.Proofs
section
variable {R cp : Nat} {A : Option Addr} {L : List Tok} {st st1 : St} {w wa wk w' : World} {t : Tr} {l : List Tr} {v : Value} {B : Nat}
structure Pl (R : Nat) (A : Option Addr) (cp : Nat) (L : List Tok) (w wk : World) (st : St) : Prop where
 rd : RdAt wk R A cp L st
 fr : Fr R w wk
theorem Pl.start (h : RdAt w R A cp L st) : Pl R A cp L w w st := ⟨h, Only.refl _ _⟩
theorem Pl.call (m : Pl R A cp L w wk st) (h : RdAt w' R A cp L st1) (hf : Fr R wk w') : Pl R A cp L w w' st1 := ⟨h, m.fr.trans' hf⟩
def Bx (W : World) (B : Nat) (v0 v1 v2 v3 v4 : Value) : Prop := W.heap[B]? = some (.cells #[v0, v1, v2, v3, v4] 24 (0, 0))
section
variable {v0 v1 v2 v3 v4 : Value}
theorem Bx.fr (h : Bx wk B v0 v1 v2 v3 v4) (hf : Fr R wk w') (hR : R < B) : Bx w' B v0 v1 v2 v3 v4 := (hf.block B (heap_lt h) (by omega)).trans h
theorem Bx.below {b : Nat} (h : Bx wk B v0 v1 v2 v3 v4) (hb : Below b wk w') (hB : wk.heap.size ≤ b) : Bx w' B v0 v1 v2 v3 v4 := (hb.block B (by have := heap_lt h; omega)).trans h
theorem Bx.cells (h : Bx wk B v0 v1 v2 v3 v4) : wk.cell? ⟨B, 0, none⟩ = some v0 ∧ wk.cell? ⟨B, 1, none⟩ = some v1 ∧ wk.cell? ⟨B, 2, none⟩ = some v2 ∧ wk.cell? ⟨B, 3, none⟩ = some v3 ∧ wk.cell? ⟨B, 4, none⟩ = some v4 := (box_facts h).1
theorem Bx.thaw (h : Bx wk B v0 v1 v2 v3 v4) : wk.frozen? ⟨B, 0, none⟩ = false ∧ wk.frozen? ⟨B, 1, none⟩ = false ∧ wk.frozen? ⟨B, 2, none⟩ = false ∧ wk.frozen? ⟨B, 3, none⟩ = false ∧ wk.frozen? ⟨B, 4, none⟩ = false := (box_facts h).2
theorem tok_kind (kd : Int) (ts : Bs) (tn : Int) (ln : Nat) (nl : Bool) (W : World) : Sem.run Try.prog (Instr.field 83 (.agg #[.int .i64 kd, .string (bs ts), .int .i64 tn, .int .i64 ln, .bool nl]) 0) W = .ok (.int .i64 kd) W := by kernel_rfl
theorem tok_line (kd : Int) (ts : Bs) (tn : Int) (ln : Nat) (nl : Bool) (W : World) : Sem.run Try.prog (Instr.field 83 (.agg #[.int .i64 kd, .string (bs ts), .int .i64 tn, .int .i64 ln, .bool nl]) 3) W = .ok (.int .i64 ln) W := by kernel_rfl
theorem Mid.box_ (m : Mid R A cp L w wk st) (v0 v1 v2 v3 v4 : Value) :
  ∃ W, wk.alloc (.cells #[v0, v1, v2, v3, v4] 24) = W ∧ Mid R A cp L w W st ∧ Fr R wk W ∧ Bx W wk.heap.size v0 v1 v2 v3 v4 ∧ W.heap.size = wk.heap.size + 1 :=
 ⟨_, rfl, m.call (m.rd.alloc _) (Only.alloc _ _), Only.alloc _ _, heap_alloc_new _ _, by simp⟩
theorem Mid.arr (m : Mid R A cp L w wk st) (cs : Array Value) :
  ∃ W, wk.alloc (.cells cs 24) = W ∧ Mid R A cp L w W st ∧ Fr R wk W ∧ W.heap[wk.heap.size]? = some (.cells cs 24 (0, 0)) ∧ W.heap.size = wk.heap.size + 1 :=
 ⟨_, rfl, m.call (m.rd.alloc _) (Only.alloc _ _), Only.alloc _ _, heap_alloc_new _ _, by simp⟩
theorem Mid.tok_ (m : Mid R A cp L w wk st) (kd : Int) (ts : Bs) (tn : Int) (ln : Nat) (nl : Bool) :
  ∃ W, wk.alloc (.cells #[.int .i64 kd, .string (bs ts), .int .i64 tn, .int .i64 ln, .bool nl] 83) = W ∧ Mid R A cp L w W st ∧ Fr R wk W ∧
   W.heap[wk.heap.size]? = some (.cells #[.int .i64 kd, .string (bs ts), .int .i64 tn, .int .i64 ln, .bool nl] 83 (0, 0)) ∧ W.heap.size = wk.heap.size + 1 :=
 ⟨_, rfl, m.call (m.rd.alloc _) (Only.alloc _ _), Only.alloc _ _, heap_alloc_new _ _, by simp⟩
theorem Bx.put3 (h : Bx wk B v0 v1 v2 v3 v4) (u : Value) : Bx (wk.setCell ⟨B, 3, none⟩ u) B v0 v1 v2 u v4 := by
 unfold Bx; rw [blk_set h]; rfl
theorem Bx.put0 (h : Bx wk B v0 v1 v2 v3 v4) (u : Value) : Bx (wk.setCell ⟨B, 0, none⟩ u) B u v1 v2 v3 v4 := by
 unfold Bx; rw [blk_set h]; rfl
theorem Bx.put1 (h : Bx wk B v0 v1 v2 v3 v4) (u : Value) : Bx (wk.setCell ⟨B, 1, none⟩ u) B v0 u v2 v3 v4 := by
 unfold Bx; rw [blk_set h]; rfl
end
theorem Bx.away {v0 v1 v2 v3 v4 : Value} {B' : Nat} (h : Bx wk B v0 v1 v2 v3 v4) (hb : B ≠ B') (i : Nat) (u : Value) : Bx (wk.setCell ⟨B', i, none⟩ u) B v0 v1 v2 v3 v4 :=
 (Below.heap_setCell wk _ _ B (by show B ≠ B'; exact hb)).trans h
abbrev Af (B : Nat) (W : World) : Nat → Prop := fun k => B < k ∧ k < W.heap.size
theorem TreeAt.af (h : TreeAt w' (New wk w') t v) (hB : B < wk.heap.size) : TreeAt w' (Af B w') t v := h.keep (fun k hk => ⟨by have := hk.1; omega, hk.2⟩) (fun k hk => rfl)
theorem RowAt.af (h : RowAt w' (New wk w') l v) (hB : B < wk.heap.size) : RowAt w' (Af B w') l v := h.keep (fun k hk => ⟨by have := hk.1; omega, hk.2⟩) (fun k hk => rfl)
theorem TreeAt.up (h : TreeAt wk (Af B wk) t v) (hf : Fr R wk w') (hR : R ≤ B) : TreeAt w' (Af B w') t v :=
 h.fr hf (fun k hk => ⟨hk.1, by have := hf.size; have := hk.2; omega⟩) (fun k hk => ⟨hk.2, by have := hk.1; omega⟩)
theorem RowAt.up (h : RowAt wk (Af B wk) l v) (hf : Fr R wk w') (hR : R ≤ B) : RowAt w' (Af B w') l v :=
 h.fr hf (fun k hk => ⟨hk.1, by have := hf.size; have := hk.2; omega⟩) (fun k hk => ⟨hk.2, by have := hk.1; omega⟩)
theorem TreeAt.lower {B' : Nat} (h : TreeAt wk (Af B wk) t v) (hB : B' ≤ B) : TreeAt wk (Af B' wk) t v := h.keep (fun k hk => ⟨by have := hk.1; omega, hk.2⟩) (fun k hk => rfl)
theorem RowAt.lower {B' : Nat} (h : RowAt wk (Af B wk) l v) (hB : B' ≤ B) : RowAt wk (Af B' wk) l v := h.keep (fun k hk => ⟨by have := hk.1; omega, hk.2⟩) (fun k hk => rfl)
theorem TreeAt.set (h : TreeAt wk (Af B wk) t v) (i : Nat) (u : Value) : TreeAt (wk.setCell ⟨B, i, none⟩ u) (Af B (wk.setCell ⟨B, i, none⟩ u)) t v :=
 h.keep (fun k hk => ⟨hk.1, by simp; exact hk.2⟩) (fun k hk => Below.heap_setCell wk _ _ k (by show k ≠ B; have := hk.1; omega))
theorem RowAt.set (h : RowAt wk (Af B wk) l v) (i : Nat) (u : Value) : RowAt (wk.setCell ⟨B, i, none⟩ u) (Af B (wk.setCell ⟨B, i, none⟩ u)) l v :=
 h.keep (fun k hk => ⟨hk.1, by simp; exact hk.2⟩) (fun k hk => Below.heap_setCell wk _ _ k (by show k ≠ B; have := hk.1; omega))
theorem Mid.set (m : Mid R A cp L w wk st) (hB : w.heap.size < B) (i : Nat) (u : Value) : Mid R A cp L w (wk.setCell ⟨B, i, none⟩ u) st := by
 have hs := Only.setCell (F := fun k => k = B) wk (b := B) rfl i u
 have := m.lt
 exact ⟨m.rd.only hs (fun i hi => by omega), Fr.own m.fr hs (fun i hi => by omega), (hs.block _ m.gt (by omega)).trans m.box, m.lt⟩
theorem Mid.drew (m : Mid R A cp L w wk st) : Mid R A cp L w wk.drew st := m.call (m.rd.keep fun i _ => rfl) ((Only.refl _ _).drew)
theorem Mid.gives' {fn : Func} {a : Act} {v0 v1 v2 v3 v4 : Value} (s : Nat) (m : Mid R A cp L w wk st1) (h : TreeAt wk (Af w.heap.size wk) t (.agg #[v0, v1, v2, v3, v4]))
  (hfn : fn.results = #[.cell s 24]) (hs : a.tmps.getD s undef = .pointer (some ⟨w.heap.size, 0, none⟩)) (hd : a.defers = []) :
  bodyPost Try.prog fn (GivesT R A cp L w t st1) .ret a (put5 wk w.heap.size v0 v1 v2 v3 v4) := Mid.gives s m h hfn hs hd
theorem own_blk {B : Nat} {ts : List Tr} (h : AccAt B wk ts v) {k : Nat} (hk : v.ownBlock = some k) : B ≤ k ∧ k < wk.heap.size := by
 obtain ⟨xs, -, h2, -⟩ := h
 exact own_lt h2 hk
theorem Pl.push {ts : List Tr} (m : Pl R A cp L w wk st) (h : AccAt w.heap.size wk ts v) (hon : Only (fun k => v.ownBlock = some k) wk w') (hR : R < w.heap.size) : Pl R A cp L w w' st :=
 ⟨m.rd.only hon (fun i hi => by have := own_blk h hi; omega), Fr.own m.fr hon (fun i hi => (own_blk h hi).1)⟩
theorem AccAt.fresh {ts : List Tr} {u : Value} (h : AccAt B wk ts v) (ht : TreeAt w' (New wk w') t u) (hB : B ≤ wk.heap.size) : TreeAt w' (fun k => (B ≤ k ∧ k < w'.heap.size) ∧ v.ownBlock ≠ some k) t u :=
 ht.keep (fun k hk => ⟨⟨by have := hk.1; omega, hk.2⟩, fun e => by have := (own_blk h e).2; have := hk.1; omega⟩) (fun k hk => rfl)
theorem TreeAt.leaf {S : Nat → Prop} {o k i : Int} {s : Bs} (W : World) (hf : Fine o s k) : TreeAt W S (.mk o s k i []) (.agg #[.int .i64 o, .string (bs s), .int .i64 k, .slice none 0 0, .int .i64 i]) := TreeAt.mk (RowAt.nil W S) hf
theorem Pl.givesL {ts : List Tr} (m : Pl R A cp L w wk st) (h : AccAt w.heap.size wk ts v) : GivesL R A cp L w ts st (.returned v) wk :=
 ⟨v, rfl, m.rd, m.fr, h.row.keep (fun k hk => hk) (fun k hk => rfl)⟩
theorem blk_fr {o : Obj} (h : wk.heap[B]? = some o) (hf : Fr R wk w') (hR : R < B) : w'.heap[B]? = some o := (hf.block B (heap_lt h) (by omega)).trans h
theorem blk_away {o : Obj} {B' : Nat} (h : wk.heap[B]? = some o) (hb : B ≠ B') (i : Nat) (u : Value) : (wk.setCell ⟨B', i, none⟩ u).heap[B]? = some o :=
 (Below.heap_setCell wk _ _ B (by show B ≠ B'; exact hb)).trans h
theorem Mid.next_ (m : Mid R A cp L w wk st) (hp : st.pos < L.length) :
  ∃ W, wk.setCell ⟨R, 1, none⟩ (.int .i64 ((st.pos : Int) + 1)) = W ∧ RdAt W R A cp L st.next ∧ Fr R wk W :=
 ⟨_, rfl, (m.rd.put_pos hp).1, (m.rd.put_pos hp).2⟩
theorem name_len (h : RdAt wk R A cp L st) : (nameR L st).1.length ≤ 65536 := by
 have := (h.tok_fine 0).1
 unfold nameR
 dsimp only
 split
 ·simp
 ·exact this
theorem fine_s {o : Int} {s : Bs} (h : s.length ≤ 65536) (ho : 0 ≤ o ∧ o ≤ 1000) : Fine o s 0 := ⟨by unfold maxLen; omega, by omega, by omega⟩
theorem wrap_next (h : st.pos < L.length) (hl : L.length ≤ 65536) : IntKind.i64.wrap ((st.pos : Int) + 1) = (st.pos : Int) + 1 := IntWalk.i64_in _ (by omega)
theorem bs_eq (s : Bs) (l : List UInt8) : ((bs s).toList == l) = decide (s = l) := by rw [Lib.toList_data, bs_list, Bool.eq_iff_iff]; simp
theorem tok_pos (h : RdAt wk R A cp L st) {kd : Int} {ts : Bs} {tn : Int} {ln : Nat} {nl : Bool} (ht : tokR L st 0 = ⟨kd, ts, tn, ln, nl⟩) (hk : kd ≠ 0) : st.pos < L.length := tok_lt0 (k := kd) (by rw [ht]) hk
theorem tok_len (h : RdAt wk R A cp L st) {kd : Int} {ts : Bs} {tn : Int} {ln : Nat} {nl : Bool} {k : Nat} (ht : tokR L st k = ⟨kd, ts, tn, ln, nl⟩) : ts.length ≤ 65536 ∧ 0 ≤ tn ∧ tn ≤ 999999999999999 := by
 have := h.tok_fine k
 rw [ht] at this
 exact this
theorem Fr.own2 (h : Fr R w wk) (k : Only (fun i => i = R ∨ i = B) wk w') (hB : w.heap.size ≤ B) : Fr R w w' :=
 ⟨k.os.trans h.os, k.tape.trans h.tape, k.output.trans h.output, Nat.le_trans h.size k.size, fun i hi hr => (k.block i (Nat.lt_of_lt_of_le hi h.size) (fun hf => by rcases hf with hf | hf <;> omega)).trans (h.block i hi hr)⟩
theorem Tr.eta_at {S : Nat → Prop} {y : Tr} {v : Value} (h : TreeAt wk S (.mk y.op y.s y.n y.line y.l) v) : TreeAt wk S y v := by cases y; exact h
theorem Only.of_set {n i : Nat} {u : Value} (h : Only (fun k => k = B) wk (wk.setCell ⟨B, i, none⟩ u)) (hB : n ≤ B) : Below n wk (wk.setCell ⟨B, i, none⟩ u) := ⟨h.os, h.tape, h.output, h.size, fun k hk => Below.heap_setCell wk _ _ k (by show k ≠ B; omega)⟩
abbrev AfX (b B : Nat) (W : World) : Nat → Prop := fun k => (b < k ∧ k < W.heap.size) ∧ k ≠ B
section
variable {b : Nat}
theorem TreeAt.upx (h : TreeAt wk (AfX b B wk) t v) (hf : Fr R wk w') (hR : R ≤ b) : TreeAt w' (AfX b B w') t v :=
 h.fr hf (fun k hk => ⟨⟨hk.1.1, by have := hf.size; have := hk.1.2; omega⟩, hk.2⟩) (fun k hk => ⟨hk.1.2, by have := hk.1.1; omega⟩)
theorem TreeAt.setx (h : TreeAt wk (AfX b B wk) t v) (i : Nat) (u : Value) : TreeAt (wk.setCell ⟨B, i, none⟩ u) (AfX b B (wk.setCell ⟨B, i, none⟩ u)) t v :=
 h.keep (fun k hk => ⟨⟨hk.1.1, by simp; exact hk.1.2⟩, hk.2⟩) (fun k hk => Below.heap_setCell wk _ _ k (by show k ≠ B; exact hk.2))
theorem TreeAt.put5x (h : TreeAt wk (AfX b B wk) t v) (v0 v1 v2 v3 v4 : Value) : TreeAt (put5 wk B v0 v1 v2 v3 v4) (AfX b B (put5 wk B v0 v1 v2 v3 v4)) t v := ((((h.setx 0 v0).setx 1 v1).setx 2 v2).setx 3 v3).setx 4 v4
theorem TreeAt.belowx (h : TreeAt wk (AfX b B wk) t v) (hb : Below wk.heap.size wk w') : TreeAt w' (AfX b B w') t v := h.keep (fun k hk => ⟨⟨hk.1.1, by have := hb.size; have := hk.1.2; omega⟩, hk.2⟩) (fun k hk => hb.block k hk.1.2)
theorem below_set {n : Nat} (W : World) (hB : n ≤ B) (i : Nat) (u : Value) : Below n W (W.setCell ⟨B, i, none⟩ u) := (Only.setCell (F := fun k => k = B) W (b := B) rfl i u).of_set hB
theorem TreeAt.x_before (h : TreeAt wk (Af b wk) t v) (hw : wk.heap.size ≤ B) : TreeAt wk (AfX b B wk) t v := h.keep (fun k hk => ⟨hk, by have := hk.2; omega⟩) (fun k hk => rfl)
theorem TreeAt.x_behind {b' : Nat} (h : TreeAt wk (Af b' wk) t v) (hb : b ≤ b') (hB : B ≤ b') : TreeAt wk (AfX b B wk) t v := h.keep (fun k hk => ⟨⟨by have := hk.1; omega, hk.2⟩, by have := hk.1; omega⟩) (fun k hk => rfl)
theorem TreeAt.of_x (h : TreeAt wk (AfX b B wk) t v) : TreeAt wk (Af b wk) t v := h.keep (fun k hk => hk.1) (fun k hk => rfl)
theorem Mid.put5 (m : Mid R A cp L w wk st) (hB : w.heap.size < B) (v0 v1 v2 v3 v4 : Value) : Mid R A cp L w (put5 wk B v0 v1 v2 v3 v4) st := ((((m.set hB 0 v0).set hB 1 v1).set hB 2 v2).set hB 3 v3).set hB 4 v4
theorem Bx.put5 {u0 u1 u2 u3 u4 : Value} (h : Bx wk B u0 u1 u2 u3 u4) (v0 v1 v2 v3 v4 : Value) : Bx (put5 wk B v0 v1 v2 v3 v4) B v0 v1 v2 v3 v4 := put5_blk h
theorem fine_op {o : Int} {s : Bs} (h : s.length ≤ 65536) (ho : 0 ≤ o ∧ o ≤ 1000) : Fine o s 0 := fine_s h ho
end
end
end
end Go.Proofs.Ytbpodijcndglgaa
