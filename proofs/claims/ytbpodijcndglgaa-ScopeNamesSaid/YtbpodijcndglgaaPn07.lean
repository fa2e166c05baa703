/- The document's reader in memory: its block, trees in sets of blocks, rows of trees of one's own. Trees that lie alone: each row in a block of its own, made for it. No program. scope.copied: a tree that lies alone. The map of a function's names to places. -/
import Derived.Test.YtbpodijcndglgaaProg
import Derived.Maps.OwnSet
import Derived.Maps.OwnIn
import Derived.StringKeys
import Derived.Test.YtbpodijcndglgaaPn04
import Derived.Test.YtbpodijcndglgaaPn06
set_option linter.unusedSimpArgs false
set_option linter.unusedVariables false
set_option maxRecDepth 100000
set_option maxHeartbeats 40000000
namespace Go.Proofs.Ytbpodijcndglgaa
section
open Go.RowKit Go.Proofs
abbrev Fr (R : Nat) (w w' : World) : Prop := Only (fun k => k = R) w w'
def New (w w' : World) : Nat → Prop := fun k => w.heap.size ≤ k ∧ k < w'.heap.size
section
variable {R B : Nat} {F S S' : Nat → Prop} {a b c w w' : World}
theorem Fr.of_below (h : Below B w w') (hB : w.heap.size ≤ B) : Fr R w w' := Only.of_below (h.mono hB)
theorem Fr.own (h : Fr R a b) (k : Only F b c) (hF : ∀ i, F i → a.heap.size ≤ i) : Fr R a c :=
 ⟨k.os.trans h.os, k.tape.trans h.tape, k.output.trans h.output, Nat.le_trans h.size k.size, fun i hi hr => (k.block i (Nat.lt_of_lt_of_le hi h.size) (fun hf => by have := hF i hf; omega)).trans (h.block i hi hr)⟩
theorem Fr.cell (h : Fr R w w') {k : Nat} (hk : k < w.heap.size) (hr : k ≠ R) (o : Nat) : w'.cell? ⟨k, o, none⟩ = w.cell? ⟨k, o, none⟩ := by
 unfold World.cell?
 rw [h.block k hk hr]
theorem cell_block {W W' : World} {k : Nat} (h : W'.heap[k]? = W.heap[k]?) : ∀ p : Addr, p.block = k → W'.cell? p = W.cell? p := by
 intro p hp
 unfold World.cell?
 rw [hp, h]
def TokAt (W : World) (g k : Nat) (t : Tok) : Prop :=
 W.cell? ⟨g, k * 5, none⟩ = some (.int .i64 t.kind) ∧ W.cell? ⟨g, k * 5 + 1, none⟩ = some (.string (bs t.s)) ∧ W.cell? ⟨g, k * 5 + 2, none⟩ = some (.int .i64 t.n) ∧ W.cell? ⟨g, k * 5 + 3, none⟩ = some (.int .i64 t.line) ∧ W.cell? ⟨g, k * 5 + 4, none⟩ = some (.bool t.nl)
def tokV (t : Tok) : Value := .agg #[.int .i64 t.kind, .string (bs t.s), .int .i64 t.n, .int .i64 t.line, .bool t.nl]
structure RdAt (W : World) (R : Nat) (A : Option Addr) (c : Nat) (L : List Tok) (st : St) : Prop where
 head : W.heap[R]? = some (.cells #[.slice A L.length c, .int .i64 st.pos, .int .i64 st.e, .int .i64 st.line] 79 (0, 0))
 row : ∀ k t, L[k]? = some t → ∃ g, A = some ⟨g, 0, none⟩ ∧ g < R ∧ TokAt W g k t
 len : L.length ≤ 65536
 cap : L.length ≤ c
 pos : st.pos ≤ L.length
 fine : ∀ t ∈ L, t.s.length ≤ 65536 ∧ 0 ≤ t.n ∧ t.n ≤ 999999999999999
variable {A : Option Addr} {cp : Nat} {L : List Tok} {st st' : St}
theorem RdAt.lt (h : RdAt w R A cp L st) : R < w.heap.size := heap_lt h.head
theorem TokAt.keep {W W' : World} {g k : Nat} {t : Tok} (h : TokAt W g k t) (hk : W'.heap[g]? = W.heap[g]?) : TokAt W' g k t := by
 have hc := cell_block hk
 obtain ⟨h0, h1, h2, h3, h4⟩ := h
 exact ⟨(hc ⟨g, _, none⟩ rfl).trans h0, (hc ⟨g, _, none⟩ rfl).trans h1, (hc ⟨g, _, none⟩ rfl).trans h2, (hc ⟨g, _, none⟩ rfl).trans h3, (hc ⟨g, _, none⟩ rfl).trans h4⟩
theorem RdAt.keep (h : RdAt w R A cp L st) (hk : ∀ i, i ≤ R → w'.heap[i]? = w.heap[i]?) : RdAt w' R A cp L st :=
 ⟨(hk R (Nat.le_refl _)).trans h.head, fun k t ht => by
  obtain ⟨g, e, hg, hT⟩ := h.row k t ht
  exact ⟨g, e, hg, hT.keep (hk g (by omega))⟩, h.len, h.cap, h.pos, h.fine⟩
theorem RdAt.below (h : RdAt w R A cp L st) (hb : Below B w w') (hB : R < B) : RdAt w' R A cp L st := h.keep fun i hi => hb.block i (by omega)
theorem RdAt.only (h : RdAt w R A cp L st) (hb : Only F w w') (hF : ∀ i, F i → R < i) : RdAt w' R A cp L st :=
 h.keep fun i hi => hb.block i (by have := h.lt; omega) (fun hf => by have := hF i hf; omega)
theorem RdAt.set (h : RdAt w R A cp L st) (hk : ∀ i, i < R → w'.heap[i]? = w.heap[i]?) (hh : w'.heap[R]? = some (.cells #[.slice A L.length cp, .int .i64 st'.pos, .int .i64 st'.e, .int .i64 st'.line] 79 (0, 0))) (hp : st'.pos ≤ L.length) : RdAt w' R A cp L st' :=
 ⟨hh, fun k t ht => by
  obtain ⟨g, e, hg, hT⟩ := h.row k t ht
  exact ⟨g, e, hg, hT.keep (hk g hg)⟩, h.len, h.cap, hp, h.fine⟩
theorem RdAt.cells (h : RdAt w R A cp L st) : w.cell? ⟨R, 0, none⟩ = some (.slice A L.length cp) ∧ w.cell? ⟨R, 1, none⟩ = some (.int .i64 st.pos) ∧ w.cell? ⟨R, 2, none⟩ = some (.int .i64 st.e) ∧ w.cell? ⟨R, 3, none⟩ = some (.int .i64 st.line) :=
 ⟨cell_of_row _ _ 0 _ _ _ h.head, cell_of_row _ _ 1 _ _ _ h.head, cell_of_row _ _ 2 _ _ _ h.head, cell_of_row _ _ 3 _ _ _ h.head⟩
theorem RdAt.thaw (h : RdAt w R A cp L st) (o : Nat) : w.frozen? ⟨R, o, none⟩ = false := by simp [World.frozen?, h.head]
theorem tokR_of {k : Nat} {t : Tok} (ht : L[st.pos + k]? = some t) : tokR L st k = t := by unfold tokR; rw [ht]; rfl
theorem tokR_none {k : Nat} (ht : L[st.pos + k]? = none) : tokR L st k = Tok.zero := by unfold tokR; rw [ht]; rfl
theorem RdAt.tok_fine (h : RdAt w R A cp L st) (k : Nat) : (tokR L st k).s.length ≤ 65536 ∧ 0 ≤ (tokR L st k).n ∧ (tokR L st k).n ≤ 999999999999999 := by
 cases ht : L[st.pos + k]? with
 | none => rw [tokR_none ht]; exact ⟨by decide, by decide, by decide⟩
 | some t => rw [tokR_of ht]; exact h.fine t (List.mem_of_getElem? ht)
def TreeAt (W : World) (S : Nat → Prop) (t : Tr) (v : Value) : Prop := ∃ x : Lo, x.tree = t ∧ x.val = v ∧ LoAt W S x
def RowAt (W : World) (S : Nat → Prop) (l : List Tr) (v : Value) : Prop := ∃ xs : List Lo, trees xs = l ∧ LoRow W S xs v
theorem LoAt.frame {x : Lo} (h : LoAt w S x) (hS : ∀ k, S k → S' k) (hk : ∀ k, S k → w'.heap[k]? = w.heap[k]?) : LoAt w' S' x := h.keep x hS fun p hp => cell_block (hk _ hp) p rfl
theorem TreeAt.keep {t : Tr} {v : Value} (h : TreeAt w S t v) (hS : ∀ k, S k → S' k) (hk : ∀ k, S k → w'.heap[k]? = w.heap[k]?) : TreeAt w' S' t v := by
 obtain ⟨x, h1, h2, h3⟩ := h
 exact ⟨x, h1, h2, h3.frame hS hk⟩
theorem RowAt.keep {l : List Tr} {v : Value} (h : RowAt w S l v) (hS : ∀ k, S k → S' k) (hk : ∀ k, S k → w'.heap[k]? = w.heap[k]?) : RowAt w' S' l v := by
 obtain ⟨x, h1, h2⟩ := h
 exact ⟨x, h1, h2.keep hS fun p hp => cell_block (hk _ hp) p rfl⟩
theorem TreeAt.fr {t : Tr} {v : Value} (h : TreeAt w S t v) (hf : Fr R w w') (hS : ∀ k, S k → S' k) (hk : ∀ k, S k → k < w.heap.size ∧ k ≠ R) : TreeAt w' S' t v :=
 h.keep hS fun k hs => hf.block k (hk k hs).1 (hk k hs).2
theorem RowAt.fr {l : List Tr} {v : Value} (h : RowAt w S l v) (hf : Fr R w w') (hS : ∀ k, S k → S' k) (hk : ∀ k, S k → k < w.heap.size ∧ k ≠ R) : RowAt w' S' l v :=
 h.keep hS fun k hs => hf.block k (hk k hs).1 (hk k hs).2
theorem RowAt.slice {l : List Tr} {v : Value} (h : RowAt w S l v) : ∃ A' c', v = .slice A' l.length c' ∧ l.length ≤ c' ∧ c' ≤ maxLen := by
 obtain ⟨xs, rfl, A', c', e, h1, -⟩ := h
 have : (trees xs).length = xs.length := by rw [trees_map, List.length_map]
 rw [this]
 exact ⟨A', c', e, h1⟩
theorem RowAt.nil (W : World) (S : Nat → Prop) : RowAt W S [] (.slice none 0 0) := ⟨[], rfl, none, 0, rfl, ⟨Nat.le_refl _, by simp [maxLen]⟩, fun h => absurd h (by simp)⟩
theorem TreeAt.mk {o k i : Int} {s : Bs} {l : List Tr} {v : Value} (h : RowAt w S l v) (hf : Fine o s k) : TreeAt w S (.mk o s k i l) (.agg #[.int .i64 o, .string (bs s), .int .i64 k, v, .int .i64 i]) := by
 obtain ⟨xs, rfl, hr⟩ := h
 exact ⟨.mk o s k i v xs, by rw [tree_eq]; simp [Lo.op, Lo.s, Lo.n, Lo.line, Lo.l, trees_map], rfl, by rw [LoAt_iff]; exact ⟨hf, hr⟩⟩
theorem TreeAt.zero (W : World) (S : Nat → Prop) : TreeAt W S Tr.zero (.agg #[.int .i64 0, .string (bs []), .int .i64 0, .slice none 0 0, .int .i64 0]) :=
 TreeAt.mk (RowAt.nil W S) ⟨by simp, by omega, by omega⟩
theorem TreeAt.form {t : Tr} {v : Value} (h : TreeAt w S t v) : ∃ A' c', v = .agg #[.int .i64 t.op, .string (bs t.s), .int .i64 t.n, .slice A' t.l.length c', .int .i64 t.line] ∧ RowAt w S t.l (.slice A' t.l.length c') ∧ Fine t.op t.s t.n := by
 obtain ⟨x, rfl, rfl, h3⟩ := h
 rw [LoAt_iff] at h3
 obtain ⟨hf, hr⟩ := h3
 obtain ⟨A', c', e, h4, h5⟩ := id hr
 have hl : x.tree.l.length = x.l.length := by rw [tree_eq]; simp
 have hls : x.tree.l = trees x.l := by rw [tree_eq, trees_map]; rfl
 refine ⟨A', c', ?_, ?_, ?_⟩
 ·rw [hl, ← e, val_eq, tree_eq]; rfl
 ·rw [hl, hls, ← e]; exact ⟨x.l, rfl, hr⟩
 ·rw [tree_eq]; exact hf
theorem row_cells (g : Nat) (q : List Value) : ∀ (pre : List Value) (xs : List Lo) (off : Nat) (W : World), off = pre.length → (∃ cs T, W.heap[g]? = some (.cells cs T (0, 0)) ∧ cs.toList = pre ++ (xs.flatMap (fun x => [.int .i64 x.op, .string (bs x.s), .int .i64 x.n, x.v, .int .i64 x.line]) ++ q)) → (∀ x ∈ xs, LoAt W S x) → LoAtL W S g off xs
 | pre, [], off, W, _, _, _ => LoAtL_nil _ _ _ _
 | pre, x :: r, off, W, ho, ⟨cs, T, hc, he⟩, hx => by
  rw [LoAtL_cons]
  have key : ∀ j u, ([.int .i64 x.op, .string (bs x.s), .int .i64 x.n, x.v, .int .i64 x.line] : List Value)[j]? = some u → W.cell? ⟨g, off + j, none⟩ = some u := fun j u hj => by
   have hj5 := (List.getElem?_eq_some_iff.1 hj).1
   rw [cell_of_row _ _ _ _ _ _ hc, ← Array.getElem?_toList, he, ho, List.getElem?_append_right (by omega), Nat.add_sub_cancel_left, List.flatMap_cons, List.append_assoc, List.getElem?_append_left hj5]
   exact hj
  refine ⟨⟨hx x (List.mem_cons_self ..), key 0 _ rfl, key 1 _ rfl, key 2 _ rfl, key 3 _ rfl, key 4 _ rfl⟩, row_cells g q (pre ++ [.int .i64 x.op, .string (bs x.s), .int .i64 x.n, x.v, .int .i64 x.line]) r (off + 5) W (by simp [ho]) ⟨cs, T, hc, by rw [he]; simp⟩ (fun y hy => hx y (List.mem_cons_of_mem _ hy))⟩
def cellsT : Value → List Value
 | .agg a => a.toList
 | _ => []
theorem cellsT_val (x : Lo) : cellsT x.val = [.int .i64 x.op, .string (bs x.s), .int .i64 x.n, x.v, .int .i64 x.line] := rfl
theorem RowAt.one {t : Tr} {v : Value} {g : Nat} {cs : Array Value} {T : TypeId} (h : TreeAt w S t v) (hg : w.heap[g]? = some (.cells cs T (0, 0))) (hcs : cs.toList = cellsT v) (hS : S g) : RowAt w S [t] (.slice (some ⟨g, 0, none⟩) 1 1) := by
 obtain ⟨x, rfl, rfl, h3⟩ := h
 exact ⟨[x], by rw [trees, trees], _, 1, rfl, ⟨Nat.le_refl _, by simp [maxLen]⟩, fun _ => ⟨g, 0, rfl, hS, row_cells g [] [] [x] 0 w rfl ⟨cs, T, hg, by rw [hcs, cellsT_val]; simp⟩ (fun y hy => by rw [List.mem_singleton.1 hy]; exact h3)⟩⟩
theorem RowAt.two {t u : Tr} {v x : Value} {g : Nat} {cs : Array Value} {T : TypeId} (h : TreeAt w S t v) (h' : TreeAt w S u x) (hg : w.heap[g]? = some (.cells cs T (0, 0))) (hcs : cs.toList = cellsT v ++ cellsT x) (hS : S g) : RowAt w S [t, u] (.slice (some ⟨g, 0, none⟩) 2 2) := by
 obtain ⟨x, rfl, rfl, h3⟩ := h
 obtain ⟨y, rfl, rfl, h4⟩ := h'
 exact ⟨[x, y], by rw [trees, trees, trees], _, 2, rfl, ⟨Nat.le_refl _, by simp [maxLen]⟩, fun _ => ⟨g, 0, rfl, hS, row_cells g [] [] [x, y] 0 w rfl ⟨cs, T, hg, by rw [hcs, cellsT_val, cellsT_val]; simp⟩ (fun z hz => by
  simp only [List.mem_cons, List.not_mem_nil, or_false] at hz
  rcases hz with rfl | rfl
  ·exact h3
  ·exact h4)⟩⟩
def AccAt (B : Nat) (W : World) (ts : List Tr) (v : Value) : Prop :=
 ∃ xs : List Lo, trees xs = ts ∧ W.ownsRow B 24 5 v ts.length (xs.flatMap fun x => cellsT x.val) ∧ ∀ x ∈ xs, LoAt W (fun k => (B ≤ k ∧ k < W.heap.size) ∧ v.ownBlock ≠ some k) x
theorem AccAt.nil (B : Nat) (W : World) : AccAt B W [] (.slice none 0 0) := ⟨[], rfl, World.ownsRow_nil _ _ _ _, fun x hx => by cases hx⟩
theorem own_lt {e : TypeId} {size n : Nat} {v : Value} {xs : List Value} (h : w.ownsRow B e size v n xs) {k : Nat} (hk : v.ownBlock = some k) : B ≤ k ∧ k < w.heap.size := by
 rcases h.2 with ⟨rfl, -⟩ | ⟨g, cap, cur, rfl, h1, h2, -⟩
 ·simp [Value.ownBlock] at hk
 ·simp [Value.ownBlock] at hk
  subst hk
  exact ⟨h1, heap_lt h2⟩
theorem AccAt.keep {ts : List Tr} {v : Value} (h : AccAt B w ts v) (hsz : w.heap.size ≤ w'.heap.size) (hk : ∀ k, B ≤ k → k < w.heap.size → w'.heap[k]? = w.heap[k]?) : AccAt B w' ts v := by
 obtain ⟨xs, h1, h2, h3⟩ := h
 refine ⟨xs, h1, ⟨h2.1, h2.2.imp id fun ⟨g, cap, cur, e1, e2, e3, e4⟩ => ⟨g, cap, cur, e1, e2, ?_, e4⟩⟩, fun x hx => (h3 x hx).frame (fun k hk => ⟨⟨hk.1.1, by omega⟩, hk.2⟩) (fun k hk' => hk k hk'.1.1 hk'.1.2)⟩
 exact (hk g e2 (heap_lt e3)).trans e3
theorem AccAt.fr {ts : List Tr} {v : Value} (h : AccAt B w ts v) (hf : Fr R w w') (hR : R < B) : AccAt B w' ts v := h.keep hf.size fun k h1 h2 => hf.block k h2 (by omega)
theorem AccAt.slice {ts : List Tr} {v : Value} (h : AccAt B w ts v) : ∃ A' c', v = .slice A' ts.length c' ∧ ts.length ≤ c' ∧ c' ≤ maxLen := by
 obtain ⟨xs, -, h2, -⟩ := h
 rcases h2.2 with ⟨rfl, h0⟩ | ⟨g, cap, cur, rfl, h1, h2, h3, h4, h5⟩
 ·rw [h0]; exact ⟨none, 0, rfl, Nat.le_refl _, by simp [maxLen]⟩
 ·exact ⟨_, _, rfl, h3, h4⟩
theorem AccAt.row {ts : List Tr} {v : Value} (h : AccAt B w ts v) : RowAt w (fun k => B ≤ k ∧ k < w.heap.size) ts v := by
 obtain ⟨xs, rfl, h2, h3⟩ := h
 have hl : (trees xs).length = xs.length := by rw [trees_map, List.length_map]
 rw [hl] at h2
 refine ⟨xs, rfl, ?_⟩
 rcases h2.2 with ⟨rfl, h0⟩ | ⟨g, cap, cur, rfl, h1, h4, h5, h6, h7, h8⟩
 ·exact ⟨none, 0, by rw [h0], ⟨by omega, by simp [maxLen]⟩, fun h => by omega⟩
 ·refine ⟨_, cap, rfl, ⟨h5, h6⟩, fun _ => ⟨g, 0, rfl, ⟨h1, heap_lt h4⟩, ?_⟩⟩
  exact row_cells g (cur.toList.drop (xs.length * 5)) [] xs 0 w rfl ⟨cur, _, h4, by
   rw [List.nil_append]
   conv => lhs; rw [← List.take_append_drop (xs.length * 5) cur.toList]
   rw [h8]
   rfl⟩ (fun x hx => (h3 x hx).frame (fun k hk => hk.1) (fun k hk => rfl))
end
theorem node_info : (Try.prog.info? 24).map (fun i => (i.zero, i.size, i.bytes)) = some (some (.agg #[.int .i64 0, .string ⟨#[]⟩, .int .i64 0, .slice none 0 0, .int .i64 0]), 5, 64) := by kernel_rfl
theorem val_one {W : World} {S : Nat → Prop} {t : Tr} {v : Value} (h : TreeAt W S t v) : (∀ u ∈ cellsT v, u.oneCell' = true) ∧ (cellsT v).length = 5 := by
 obtain ⟨A', c', rfl, -, -⟩ := h.form
 constructor
 ·intro u hu
  simp only [cellsT, List.mem_cons, List.not_mem_nil, or_false] at hu
  rcases hu with rfl | rfl | rfl | rfl | rfl <;> rfl
 ·rfl
theorem AccAt.push {B R : Nat} {w : World} {ts : List Tr} {v u : Value} {t : Tr} (h : AccAt B w ts v) (ht : TreeAt w (fun k => (B ≤ k ∧ k < w.heap.size) ∧ v.ownBlock ≠ some k) t u) (hn : ts.length ≤ 3000000) (hB : B ≤ w.heap.size) (ty : TypeId) (cs : Array Value) (hcs : cs.toList = cellsT u) :
  ∃ v' w', (Builtin.append_ #[22, 22] ty #[v, .slice (some ⟨w.heap.size, 0, none⟩) 1 1]).run Try.prog (w.alloc (.cells cs 24)) = .ok v' w' ∧
   (AccAt B w' (ts ++ [t]) v' ∧ Only (fun k => v.ownBlock = some k) w w' ∧ ∃ A' c', v' = .slice A' (ts.length + 1) c') := by
 obtain ⟨xs, rfl, h2, h3⟩ := h
 obtain ⟨h1c, hl5⟩ := val_one ht
 obtain ⟨x, rfl, rfl, h4⟩ := ht
 obtain ⟨i0, j0, j1, j2, j3⟩ := info_parts node_info
 have hal : (w.alloc (.cells cs 24)).ownsRow B 24 5 v (trees xs).length (xs.flatMap fun x => cellsT x.val) := ⟨h2.1, h2.2.imp id fun ⟨g, cap, cur, e1, e2, e3, e4⟩ => ⟨g, cap, cur, e1, e2, (Below.heap_alloc w _ g (heap_lt e3)).trans e3, e4⟩⟩
 obtain ⟨v', w', r1, r2, r3, -, r5⟩ := run_append_own_at (P := Try.prog) (w.alloc (.cells cs 24)) B 22 ty 24 i0 _ 5 64 Try.underlying22 j0 j1 j2 j3 rfl (by decide) v (trees xs).length _ hal ⟨w.heap.size, 0, none⟩ 1 1 (cellsT x.val) (by rw [hl5]) (fun j u hj => by
  rw [add_mid, cell_of_row _ _ _ _ _ _ (heap_alloc_new w _), ← Array.getElem?_toList, hcs]
  exact hj) h1c (by unfold maxLen; omega) (by omega) (by simp; omega)
 have hon : Only (fun k => v.ownBlock = some k) w w' := (Only.alloc w _).trans' (Only.grown r3 fun k e => e)
 have hlen : (trees xs ++ [x.tree]).length = (trees xs).length + 1 := by simp
 refine ⟨v', w', r1, ⟨xs ++ [x], by rw [trees_map, trees_map]; simp, by rw [hlen, List.flatMap_append]; simpa using r2, fun y hy => ?_⟩, hon, ?_⟩
 ·have hnew : ∀ k, ((B ≤ k ∧ k < w.heap.size) ∧ v.ownBlock ≠ some k) → (B ≤ k ∧ k < w'.heap.size) ∧ v'.ownBlock ≠ some k := fun k hk => ⟨⟨hk.1.1, by have := hon.size; omega⟩, fun e => by
   rcases r5 with r5 | r5
   ·exact hk.2 (r5 ▸ e)
   ·rw [r5] at e
    have := hk.1.2
    simp at e
    omega⟩
  have hky : ∀ k, ((B ≤ k ∧ k < w.heap.size) ∧ v.ownBlock ≠ some k) → w'.heap[k]? = w.heap[k]? := fun k hk => hon.block k hk.1.2 hk.2
  rcases List.mem_append.1 hy with hy | hy
  ·exact (h3 y hy).frame hnew hky
  ·rw [List.mem_singleton.1 hy]
   exact h4.frame hnew hky
 ·rcases r2.2 with ⟨-, h0⟩ | ⟨g, cap, cur, e, -⟩
  ·omega
  ·exact ⟨_, _, e⟩
end
section
open Go.RowKit Go.Proofs
def fiveO (x : Lo) : List Value := [.int .i64 x.op, .string (bs x.s), .int .i64 x.n, x.v, .int .i64 x.line]
abbrev fivesO (l : List Lo) : List Value := l.flatMap fiveO
theorem fivesO_cons (a : Lo) (r : List Lo) : fivesO (a :: r) = fiveO a ++ fivesO r := rfl
theorem fivesO_app (a b : List Lo) : fivesO (a ++ b) = fivesO a ++ fivesO b := by unfold fivesO; rw [List.flatMap_append]
theorem fivesO_len : ∀ l : List Lo, (fivesO l).length = l.length * 5
 | [] => by simp
 | a :: r => by
  rw [fivesO_cons, List.length_append, fivesO_len r, List.length_cons, Nat.add_mul]
  simp [fiveO]
  omega
mutual
def Lo.blks : Lo → List Nat
 | .mk _ _ _ _ v l => v.ownBlock.toList ++ blksL l
def blksL : List Lo → List Nat
 | [] => []
 | x :: r => x.blks ++ blksL r
end
theorem blks_eq (x : Lo) : x.blks = x.v.ownBlock.toList ++ blksL x.l := by cases x; rw [Lo.blks]; rfl
theorem blksL_cons (x : Lo) (r : List Lo) : blksL (x :: r) = x.blks ++ blksL r := by rw [blksL]
theorem blksL_nil : blksL [] = [] := by rw [blksL]
theorem blksL_app : ∀ a b : List Lo, blksL (a ++ b) = blksL a ++ blksL b
 | [], b => by rw [blksL_nil]; rfl
 | x :: r, b => by rw [List.cons_append, blksL_cons, blksL_cons, blksL_app r b, List.append_assoc]
mutual
def Lies (W : World) : Lo → Prop
 | .mk op s n _ v l => Fine op s n ∧ ((l = [] ∧ v = .slice none 0 0) ∨ ∃ g, v = .slice (some ⟨g, 0, none⟩) l.length l.length ∧ W.heap[g]? = some (.cells (fivesO l).toArray 24 (0, 0))) ∧ (l.length ≤ maxLen ∧ LiesL W l)
def LiesL (W : World) : List Lo → Prop
 | [] => True
 | x :: r => Lies W x ∧ LiesL W r
end
theorem Lies_iff (W : World) (x : Lo) : Lies W x ↔ Fine x.op x.s x.n ∧ ((x.l = [] ∧ x.v = .slice none 0 0) ∨ ∃ g, x.v = .slice (some ⟨g, 0, none⟩) x.l.length x.l.length ∧ W.heap[g]? = some (.cells (fivesO x.l).toArray 24 (0, 0))) ∧ (x.l.length ≤ maxLen ∧ LiesL W x.l) := by
 cases x; rw [Lies]; rfl
theorem LiesL_cons (W : World) (x : Lo) (r : List Lo) : LiesL W (x :: r) ↔ Lies W x ∧ LiesL W r := by rw [LiesL]
theorem LiesL_nil (W : World) : LiesL W [] := by rw [LiesL]; trivial
theorem LiesL_all (W : World) : ∀ l : List Lo, LiesL W l ↔ ∀ x ∈ l, Lies W x
 | [] => ⟨fun _ x h => (by cases h), fun _ => LiesL_nil W⟩
 | a :: r => by rw [LiesL_cons, LiesL_all W r]; simp
mutual
theorem Lies.keep : ∀ {W W' : World} (x : Lo), Lies W x → (∀ g ∈ x.blks, W'.heap[g]? = W.heap[g]?) → Lies W' x
 | W, W', .mk op s n i v l, h, hk => by
  rw [Lies] at h ⊢
  obtain ⟨h0, h1, h2, h3⟩ := h
  rw [Lo.blks] at hk
  refine ⟨h0, h1.imp id fun ⟨g, e, hg⟩ => ⟨g, e, (hk g ?_).trans hg⟩, h2, LiesL.keep l h3 fun g hg => hk g (by rw [List.mem_append]; exact .inr hg)⟩
  rw [e]
  simp [Value.ownBlock]
theorem LiesL.keep : ∀ {W W' : World} (l : List Lo), LiesL W l → (∀ g ∈ blksL l, W'.heap[g]? = W.heap[g]?) → LiesL W' l
 | W, W', [], h, hk => LiesL_nil _
 | W, W', x :: r, h, hk => by
  rw [LiesL] at h ⊢
  rw [blksL_cons] at hk
  exact ⟨Lies.keep x h.1 fun g hg => hk g (by rw [List.mem_append]; exact .inl hg), LiesL.keep r h.2 fun g hg => hk g (by rw [List.mem_append]; exact .inr hg)⟩
end
mutual
theorem Lies.lt : ∀ {W : World} (x : Lo), Lies W x → ∀ g ∈ x.blks, g < W.heap.size
 | W, .mk op s n i v l, h, g, hg => by
  rw [Lies] at h
  rw [Lo.blks, List.mem_append] at hg
  obtain ⟨-, h1, -, h3⟩ := h
  rcases hg with hg | hg
  ·rcases h1 with ⟨-, rfl⟩ | ⟨g', rfl, hb⟩
   ·simp [Value.ownBlock] at hg
   ·simp [Value.ownBlock] at hg
    subst hg
    exact heap_lt hb
  ·exact LiesL.lt l h3 g hg
theorem LiesL.lt : ∀ {W : World} (l : List Lo), LiesL W l → ∀ g ∈ blksL l, g < W.heap.size
 | W, [], h, g, hg => by rw [blksL_nil] at hg; cases hg
 | W, x :: r, h, g, hg => by
  rw [LiesL] at h
  rw [blksL_cons, List.mem_append] at hg
  rcases hg with hg | hg
  ·exact Lies.lt x h.1 g hg
  ·exact LiesL.lt r h.2 g hg
end
theorem LiesL.below {W W' : World} {l : List Lo} (h : LiesL W l) (hb : Below W.heap.size W W') : LiesL W' l := h.keep l fun g hg => hb.block g (LiesL.lt l h g hg)
theorem Lies.below {W W' : World} {x : Lo} (h : Lies W x) (hb : Below W.heap.size W W') : Lies W' x := h.keep x fun g hg => hb.block g (Lies.lt x h g hg)
mutual
theorem Lies.at_ : ∀ {W : World} {S : Nat → Prop} (x : Lo), Lies W x → (∀ g ∈ x.blks, S g) → LoAt W S x
 | W, S, .mk op s n i v l, h, hS => by
  rw [Lies] at h
  rw [Lo.blks] at hS
  rw [LoAt]
  obtain ⟨h0, h1, h2, h3⟩ := h
  have hl : ∀ g ∈ blksL l, S g := fun g hg => hS g (by rw [List.mem_append]; exact .inr hg)
  refine ⟨h0, ?_⟩
  rcases h1 with ⟨rfl, rfl⟩ | ⟨g, rfl, hb⟩
  ·exact ⟨none, 0, rfl, ⟨Nat.le_refl _, by simp [maxLen]⟩, fun h => absurd h (by simp)⟩
  ·refine ⟨_, _, rfl, ⟨Nat.le_refl _, h2⟩, fun _ => ⟨g, 0, rfl, hS g (by simp [Value.ownBlock]), ?_⟩⟩
   exact row_cells g [] [] l 0 W rfl ⟨_, _, hb, by simp only [List.nil_append, List.append_nil]; rfl⟩ (LiesL.at_ l h3 hl)
theorem LiesL.at_ : ∀ {W : World} {S : Nat → Prop} (l : List Lo), LiesL W l → (∀ g ∈ blksL l, S g) → ∀ x ∈ l, LoAt W S x
 | W, S, [], h, hS, x, hx => by cases hx
 | W, S, a :: r, h, hS, x, hx => by
  rw [LiesL] at h
  rw [blksL_cons] at hS
  rcases List.mem_cons.1 hx with e | hx
  ·rw [e]
   exact Lies.at_ a h.1 fun g hg => hS g (by rw [List.mem_append]; exact .inl hg)
  ·exact LiesL.at_ r h.2 (fun g hg => hS g (by rw [List.mem_append]; exact .inr hg)) x hx
end
end
section
open Go.RowKit Go.Proofs
theorem wl_makeN {P : Program} {ops : Array Oper} {rest : List Oper} {o : Oper} {a : Act} {w : World} {Q : Exit → Act → World → Prop} (hg : o.guard = none) (l c : Operand) (t : TypeId) (hop : o.op = Op.makeSlice t l c) (u v : Value) (hl : a.eval l = u) (hc : a.eval c = v)
  (x : Value) (w' : World) (hrun : (Instr.makeSlice t u v).run P w = .ok x w') (hK : wpList P ops Q rest (a.put o.dst x) w') : wpList P ops Q (o :: rest) a w := by
 refine wpList_plain hg fun K hK' => ?_
 unfold Oper.wp
 simp [execOp, hop, hl, hc, hrun, Result.andThen]
 exact hK' _ _ hK
def roomN (n : Nat) : Array Value := madeCells (Value.agg #[.int .i64 0, .string ⟨#[]⟩, .int .i64 0, .slice none 0 0, .int .i64 0]).cells (n * 5)
theorem roomN_len (n : Nat) : (roomN n).toList.length = n * 5 := by
 rw [Array.length_toList]
 exact size_madeCells _ _
theorem run_roomN (n : Nat) (hn : n ≤ 3000000) (W : World) : (Instr.makeSlice 22 (.int .i64 n) (.int .i64 n)).run Try.prog W = .ok (.slice (some ⟨W.heap.size, 0, none⟩) n n) (W.alloc (.cells (roomN n) 24)) := by
 obtain ⟨i0, h0, h2, h3, h4⟩ := info_parts node_info
 have h := run_make (P := Try.prog) W 22 24 i0 _ Try.underlying22 h0 h2 .i64 .i64 (n : Int) (n : Int) (by omega) (by omega) (by rw [h4]; omega) (by omega)
 rw [h, h3]
 simp [roomN]
theorem put1 {W : World} {G k : Nat} {T : TypeId} {pre q : List Value} {z : Value} (a : Value) (h : W.heap[G]? = some (.cells (pre ++ (z :: q)).toArray T (0, 0))) (hp : pre.length = k) :
  (W.setCell ⟨G, k, none⟩ a).heap[G]? = some (.cells ((pre ++ [a]) ++ q).toArray T (0, 0)) := by
 rw [blk_set h k a]
 subst hp
 have e : (pre ++ z :: q).toArray.setIfInBounds pre.length a = ((pre ++ [a]) ++ q).toArray := by
  rw [List.setIfInBounds_toArray, List.set_append_right _ _ (Nat.le_refl _)]
  simp
 rw [e]
theorem put5c {W : World} {G k : Nat} {T : TypeId} {pre q : List Value} {z0 z1 z2 z3 z4 : Value} (a b c d e : Value) (h : W.heap[G]? = some (.cells (pre ++ (z0 :: z1 :: z2 :: z3 :: z4 :: q)).toArray T (0, 0))) (hp : pre.length = k) :
  (((((W.setCell ⟨G, k, none⟩ a).setCell ⟨G, k + 1, none⟩ b).setCell ⟨G, k + 2, none⟩ c).setCell ⟨G, k + 3, none⟩ d).setCell ⟨G, k + 4, none⟩ e).heap[G]? = some (.cells ((pre ++ [a, b, c, d, e]) ++ q).toArray T (0, 0)) := by
 have h0 := put1 a h hp
 have h1 := put1 (k := k + 1) b h0 (by simp; omega)
 have h2 := put1 (k := k + 2) c h1 (by simp; omega)
 have h3 := put1 (k := k + 3) d h2 (by simp; omega)
 have h4 := put1 (k := k + 4) e h3 (by simp; omega)
 rw [h4]
 simp only [List.append_assoc, List.cons_append, List.nil_append]
theorem only5 (W : World) (G k : Nat) (a b c d e : Value) : Only (fun i => i = G) W (((((W.setCell ⟨G, k, none⟩ a).setCell ⟨G, k + 1, none⟩ b).setCell ⟨G, k + 2, none⟩ c).setCell ⟨G, k + 3, none⟩ d).setCell ⟨G, k + 4, none⟩ e) :=
 ((((Only.setCell (F := fun i => i = G) W rfl k a).trans' (Only.setCell (F := fun i => i = G) _ rfl (k + 1) b)).trans' (Only.setCell (F := fun i => i = G) _ rfl (k + 2) c)).trans' (Only.setCell (F := fun i => i = G) _ rfl (k + 3) d)).trans' (Only.setCell (F := fun i => i = G) _ rfl (k + 4) e)
end
section
open Go.RowKit Go.Proofs Go.Maps
theorem key9 : Keyed Try.prog 9 := string_keyed Try.underlying9
theorem zero3 (w : World) : (zeroValue 3).run Try.prog w = .ok (.int .i64 0) w := by kernel_rfl
theorem key_of (s : Bs) (h : s.length ≤ maxLen) : keyOf Try.prog 9 (.string (bs s)) = some (.string s) := by
 have := Go.WideMaps.keyOf_string_mk (P := Try.prog) (k := 9) Try.underlying9 (s := bs s) (by rw [bs_size]; exact h)
 rw [this, bs_list]
def PlacesAt (W : World) (m : Nat) (vars : List Bs) : Prop :=
 ∃ (k : Nat) (D : DataW Unit), W.ownsMap Try.prog 9 (plainElem Try.prog 3) m k D ∧ k ≤ vars.length ∧ (∀ s : Bs, has D (.string s) = decide (s ∈ vars)) ∧ ∀ (s : Bs) (i : Nat), vars.idxOf? s = some i → D.atKey (.string s) (.lit (.int .i64 0)) = .lit (.int .i64 i)
theorem PlacesAt.lt {W : World} {m : Nat} {vars : List Bs} (h : PlacesAt W m vars) : m < W.heap.size := by
 obtain ⟨k, D, h, -⟩ := h
 exact h.lt
theorem PlacesAt.keep {W W' : World} {m : Nat} {vars : List Bs} (h : PlacesAt W m vars) (hk : W'.heap[m]? = W.heap[m]?) : PlacesAt W' m vars := by
 obtain ⟨k, D, ⟨es, clock, hb, h1⟩, h2⟩ := h
 exact ⟨k, D, ⟨es, clock, hk.trans hb, h1⟩, h2⟩
theorem PlacesAt.made (W : World) : PlacesAt (W.alloc (.map #[] 0)) W.heap.size [] :=
 ⟨0, .map [], World.ownsMap_made _ _ _ _, Nat.le_refl _, fun s => by simp [has], fun s i h => by simp at h⟩
theorem PlacesAt.look {W : World} {m : Nat} {vars : List Bs} (h : PlacesAt W m vars) (s : Bs) (hs : s.length ≤ maxLen) :
  ∃ c : Int, (Instr.lookup 70 (.map (some m)) (.string (bs s)) true).run Try.prog W = .ok (.tuple #[.int .i64 c, .bool (decide (s ∈ vars))]) W ∧ ∀ i : Nat, vars.idxOf? s = some i → c = i := by
 obtain ⟨k, D, h1, -, h2, h3⟩ := h
 obtain ⟨v, ps, hrun, hv⟩ := h1.look_ok key9 Try.underlying70 (zero3 W) (plainElem_int Try.underlying3 (by decide)) (key_of s hs)
 obtain ⟨c, rfl, hc, -⟩ := plainElem_int_inv Try.underlying3 hv
 rw [h2] at hrun
 refine ⟨c, hrun, fun i hi => ?_⟩
 have h4 := h3 s i hi
 simp only [Prod.mk.injEq] at hc
 rw [hc.1] at h4
 simpa using h4
theorem idx_app_other {l : List Bs} {s u : Bs} (e : u ≠ s) : (l ++ [s]).idxOf? u = l.idxOf? u := by
 have e2 : (s == u) = false := by rw [beq_eq_false_iff_ne]; exact fun h => e h.symm
 simp [List.idxOf?, List.findIdx?_append, List.findIdx?_cons, e2]
theorem idx_app_same {l : List Bs} {s : Bs} (h : s ∉ l) : (l ++ [s]).idxOf? s = some l.length := by
 have h0 : l.idxOf? s = none := by rw [List.idxOf?_eq_none_iff]; exact h
 unfold List.idxOf? at h0 ⊢
 rw [List.findIdx?_append, h0]
 simp
theorem PlacesAt.put {W : World} {m : Nat} {vars : List Bs} (h : PlacesAt W m vars) (s : Bs) (hs : s.length ≤ maxLen) (hn : s ∉ vars) (hl : vars.length ≤ 1000000) :
  ∃ w', (Instr.mapUpdate 70 (.map (some m)) (.string (bs s)) (.int .i64 vars.length)).run Try.prog W = .ok () w' ∧ PlacesAt w' m (vars ++ [s]) ∧ W.mapTurned w' m := by
 obtain ⟨k, D, h1, hk, h2, h3⟩ := h
 obtain ⟨w', hrun, hown, ht⟩ := h1.store key9 Try.underlying70 (by unfold maxLen; omega) (key_of s hs) (plainElem_int Try.underlying3 (a := (vars.length : Int)) (WalkArith.wf_i64 (by omega)))
 refine ⟨w', hrun, ⟨k + 1, _, hown, by rw [List.length_append]; simp; omega, fun u => ?_, fun u i hi => ?_⟩, ht⟩
 ·by_cases e : u = s
  ·subst e
   rw [has_put_same h1.isMap (by simp [WideAt.IsKeyLit])]
   simp
  ·rw [has_put_other (by simp; exact e), h2]
   simp [e]
 ·by_cases e : u = s
  ·subst e
   rw [atKey_put_same h1.isMap (by simp [WideAt.IsKeyLit])]
   rw [idx_app_same hn] at hi
   cases hi
   rfl
  ·rw [atKey_put_other (by simp; exact e)]
   rw [idx_app_other e] at hi
   exact h3 u i hi
end
end Go.Proofs.Ytbpodijcndglgaa
