/- Sets of blocks, what turns of them; rows of one's own. No program. The tokens of a text, as plain functions of lists of bytes. No program. Programs as trees, as plain data. No program. The document's reader as a Lean function with fuel, over tokens as plain data. No program. Strings as lists of bytes. No program. Small facts of the reader. No program. The leaves: is a byte a letter, a digit, a plain one. jlex.run with each of its three tests; strings as lists of bytes. jlex.words: the map of words; jlex.IsWord. jlex.IsName. The document's tokens of a text, as plain functions, step by step as the document makes them. No program. -/
import Derived.WalkKit
import Derived.WalkSpells
import Derived.WalkLawsBesides
import Derived.BigQuiet
import Derived.Deep.QuietTactic
import Derived.BigGuard
import Derived.Lib.Hide
import Derived.WalkSmall
import Derived.Laws.OwnMore
import Derived.Deep.AppendLies
import Derived.Deep.Draws
import Derived.Maps.AppendAt
import Derived.Lib.Strings
import Derived.Lib.Bytealg
import Derived.Lib.Index
import Derived.Outline
import Derived.Test.YtikbfoichhkeaaaGreatProg
import Derived.Maps.Own
import Derived.Maps.OwnSet
import Derived.Maps.OwnIn
set_option linter.unusedSimpArgs false
set_option linter.unusedVariables false
set_option maxRecDepth 100000
set_option maxHeartbeats 40000000
namespace Go.Proofs.YtikbfoichhkeaaaGreat
section
open Go.RowKit Go.Proofs
theorem ret_b {a b : Bool} (h : a = b) : Ending.returned (.bool a) = .returned (.bool b) := by rw [h]
theorem blk_set {w : World} {g : Nat} {t : TypeId} {cs : Array Value} (h : w.heap[g]? = some (.cells cs t (0, 0))) (i : Nat) (u : Value) :
  (w.setCell ⟨g, i, none⟩ u).heap[g]? = some (.cells (cs.setIfInBounds i u) t (0, 0)) := by
 simp [World.setCell, Array.getElem?_modify, h]
theorem bcell {W w1 : World} (hb : Below W.heap.size W w1) : (∀ b o, b < W.heap.size → w1.cell? ⟨b, o, none⟩ = W.cell? ⟨b, o, none⟩) ∧ (∀ b o, b < W.heap.size → w1.frozen? ⟨b, o, none⟩ = W.frozen? ⟨b, o, none⟩) :=
 ⟨fun b o h => hb.cell (p := ⟨b, o, none⟩) h, fun b o h => hb.frozen (p := ⟨b, o, none⟩) h⟩
theorem heap_lt {w : World} {b : Nat} {o : Obj} (h : w.heap[b]? = some o) : b < w.heap.size := (Array.getElem?_eq_some_iff.1 h).1
def ext (F : Nat → Prop) (w w' : World) : Nat → Prop := fun i => F i ∨ (w.heap.size ≤ i ∧ i < w'.heap.size)
structure Only (F : Nat → Prop) (w w' : World) : Prop where
 os : w'.os = w.os
 tape : w'.tape = w.tape
 output : w'.output = w.output
 size : w.heap.size ≤ w'.heap.size
 block : ∀ k, k < w.heap.size → ¬ F k → w'.heap[k]? = w.heap[k]?
section
variable {F G : Nat → Prop} {w w' a b c : World}
theorem Only.refl (F : Nat → Prop) (w : World) : Only F w w := ⟨rfl, rfl, rfl, Nat.le_refl _, fun _ _ _ => rfl⟩
theorem Only.of_below (h : Below w.heap.size w w') : Only F w w' := ⟨h.os, h.tape, h.output, h.size, fun k hk _ => h.block k hk⟩
theorem Only.below {B : Nat} (h : Only F w w') (hB : B ≤ w.heap.size) (hF : ∀ i, F i → B ≤ i) : Below B w w' :=
 ⟨h.os, h.tape, h.output, h.size, fun k hk => h.block k (by omega) (fun hf => by have := hF k hf; omega)⟩
theorem Only.to_below {B : Nat} (h : Only F w w') (hB : B ≤ w.heap.size) (hF : ∀ i, F i → i < w.heap.size → B ≤ i) : Below B w w' :=
 ⟨h.os, h.tape, h.output, h.size, fun k hk => h.block k (by omega) (fun hf => by have := hF k hf (by omega); omega)⟩
theorem Only.trans (h : Only F a b) (k : Only (ext F a b) b c) : Only F a c :=
 ⟨k.os.trans h.os, k.tape.trans h.tape, k.output.trans h.output, Nat.le_trans h.size k.size, fun i hi hf => (k.block i (Nat.lt_of_lt_of_le hi h.size) (fun e => by
  rcases e with e | e
  ·exact hf e
  ·omega)).trans (h.block i hi hf)⟩
theorem Only.trans' (h : Only F a b) (k : Only F b c) : Only F a c :=
 ⟨k.os.trans h.os, k.tape.trans h.tape, k.output.trans h.output, Nat.le_trans h.size k.size, fun i hi hf => (k.block i (Nat.lt_of_lt_of_le hi h.size) hf).trans (h.block i hi hf)⟩
theorem Only.mono (h : Only F a b) (hF : ∀ i, i < a.heap.size → F i → G i) : Only G a b :=
 ⟨h.os, h.tape, h.output, h.size, fun k hk hg => h.block k hk (fun hf => hg (hF k hk hf))⟩
theorem Only.setCell (w : World) {b : Nat} (hb : F b) (i : Nat) (u : Value) : Only F w (w.setCell ⟨b, i, none⟩ u) :=
 ⟨rfl, rfl, rfl, by simp [World.setCell], fun k _ hf => Below.heap_setCell w _ u k (fun e => hf (by rw [e]; exact hb))⟩
theorem Only.grown {row : Option Nat} (hg : w.grownBy w' row) (hr : ∀ r, row = some r → F r) : Only F w w' :=
 ⟨hg.os, hg.tape, hg.output, hg.size, fun k hk hf => hg.block k hk (fun e => hf (hr k e.symm))⟩
theorem Only.alloc (w : World) (o : Obj) : Only F w (w.alloc o) := Only.of_below ((Below.refl _ w).alloc (Nat.le_refl _) o)
theorem Only.drew (h : Only F a b) : Only F a b.drew := ⟨h.os, h.tape, h.output, h.size, h.block⟩
theorem below_drewN {B : Nat} (h : Below B a w) (n : Nat) : Below B a (w.drewN n) := ⟨h.os, h.tape, h.output, h.size, h.block⟩
theorem Only.drewN (h : Only F a b) (n : Nat) : Only F a (b.drewN n) := ⟨h.os, h.tape, h.output, h.size, h.block⟩
end
def RowF (w : World) (F : Nat → Prop) (e : TypeId) (size : Nat) (v : Value) (n : Nat) (xs : List Value) : Prop := w.ownsRow 0 e size v n xs ∧ ∀ k, v.ownBlock = some k → F k
section
variable {w w' : World} {F G : Nat → Prop} {e : TypeId} {size n : Nat} {v : Value} {xs : List Value}
theorem RowF.mono (h : RowF w F e size v n xs) (hF : ∀ i, F i → G i) : RowF w G e size v n xs := ⟨h.1, fun k hk => hF k (h.2 k hk)⟩
theorem row_keep (h : w.ownsRow 0 e size v n xs) (hk : ∀ j, v.ownBlock = some j → w'.heap[j]? = w.heap[j]?) : w'.ownsRow 0 e size v n xs := by
 refine ⟨h.1, h.2.imp id fun ⟨g, cap, cur, h1, h2, h3, h4⟩ => ⟨g, cap, cur, h1, h2, ?_, h4⟩⟩
 exact (hk g (by rw [h1]; rfl)).trans h3
theorem RowF.keep (h : RowF w F e size v n xs) (hk : ∀ j, v.ownBlock = some j → w'.heap[j]? = w.heap[j]?) : RowF w' F e size v n xs := ⟨row_keep h.1 hk, h.2⟩
theorem row_blk (h : w.ownsRow 0 e size v n xs) {k : Nat} (hk : v.ownBlock = some k) : ∃ cs, w.heap[k]? = some (.cells cs e (0, 0)) := by
 rcases h.2 with ⟨rfl, -⟩ | ⟨g, cap, cur, rfl, h1, h2, -⟩
 ·simp [Value.ownBlock] at hk
 ·simp [Value.ownBlock] at hk
  subst hk
  exact ⟨cur, h2⟩
theorem row_lt (h : w.ownsRow 0 e size v n xs) {k : Nat} (hk : v.ownBlock = some k) : k < w.heap.size := by
 obtain ⟨cs, h⟩ := row_blk h hk
 exact heap_lt h
theorem row_form (h : w.ownsRow 0 e size v n xs) : (v = .slice none 0 0 ∧ n = 0) ∨ ∃ g cap, v = .slice (some ⟨g, 0, none⟩) n cap ∧ n ≤ cap ∧ cap ≤ maxLen ∧ v.ownBlock = some g := by
 rcases h.2 with ⟨h', h0⟩ | ⟨g, cap, cur, h', h1, h2, h3, h4, h5⟩
 ·exact .inl ⟨h', h0⟩
 ·exact .inr ⟨g, cap, h', h3, h4, by rw [h']; rfl⟩
theorem row_zero {base : Nat} (h : w.ownsRow base e size v n xs) : w.ownsRow 0 e size v n xs := ⟨h.1, h.2.imp id fun ⟨g, cap, cur, h1, _, h3⟩ => ⟨g, cap, cur, h1, Nat.zero_le _, h3⟩⟩
theorem row_slice (h : w.ownsRow 0 e size v n xs) : ∃ A c, v = .slice A n c ∧ n ≤ c ∧ c ≤ maxLen := by
 rcases row_form h with ⟨rfl, rfl⟩ | ⟨g, cap, rfl, h1, h2, -⟩
 ·exact ⟨none, 0, rfl, Nat.le_refl _, by simp [maxLen]⟩
 ·exact ⟨_, _, rfl, h1, h2⟩
theorem row_cell {g c : Nat} (h : w.ownsRow 0 e size (.slice (some ⟨g, 0, none⟩) n c) n xs) (j : Nat) (u : Value) (hj : xs[j]? = some u) : w.cell? ⟨g, j, none⟩ = some u := by
 have := h.cells (g := g) rfl j u hj
 have e : (⟨g, 0, none⟩ : Addr).add j = ⟨g, j, none⟩ := by unfold Addr.add; split <;> simp_all
 rwa [e] at this
end
structure App (w : World) (e : TypeId) (size n : Nat) (v : Value) (xs : List Value) (v' : Value) (w' : World) : Prop where
 own : w'.ownsRow 0 e size v' n xs
 grown : w.grownBy w' v.ownBlock
 lies : v'.ownBlock = v.ownBlock ∨ v'.ownBlock = some w.heap.size
theorem App.only {w w' : World} {e : TypeId} {size n : Nat} {v v' : Value} {xs : List Value} (h : App w e size n v xs v' w') : Only (fun k => v.ownBlock = some k) w w' := Only.grown h.grown (fun _ e => e)
theorem App.row {w w' : World} {F : Nat → Prop} {e : TypeId} {size n : Nat} {v v' : Value} {xs : List Value} (h : App w e size n v xs v' w') (hF : ∀ k, v.ownBlock = some k → F k) : RowF w' (ext F w w') e size v' n xs :=
 ⟨h.own, fun k hk => by
  have hl := row_lt h.own hk
  rcases h.lies with h | h
  ·exact .inl (hF k (h ▸ hk))
  ·rw [hk] at h
   cases h
   exact .inr ⟨Nat.le_refl _, hl⟩⟩
theorem step_app {P : Program} {ops : Array Oper} {o : Oper} {a : Act} {w : World} {K : Act → World → Prop} {Q : Exit → Act → World → Prop} {E : Prop} (hg : o.guard = none) (s x : Operand) (t : TypeId)
  (hop : o.op = Op.call { callee := Callee.builtin Builtin.append, args := #[s, x], argTypes := #[t, t] }) (v u : Value) (hs : a.eval s = v) (hx : a.eval x = u) (R : Value → World → Prop)
  (hrun : ∃ v' w', (Builtin.append_ #[t, t] o.type #[v, u]).run P w = .ok v' w' ∧ R v' w') (hK : ∀ v' w', R v' w' → K (a.put o.dst v') w') :
  if Region.wanted o (yielded ops a.tmps) = true then Oper.wp P o a w K Q else E := by
 have hw : Region.wanted o (yielded ops a.tmps) = true := by simp [Region.wanted, hg]
 rw [if_pos hw]
 obtain ⟨v', w', hr, h2⟩ := hrun
 unfold Oper.wp execOp
 simp only [hop, resolve, invoke, builtin, Sem.run_bind, Sem.run_pure, Result.andThen_ok, List.map_toArray, List.map_cons, List.map_nil, hs, hx, hr]
 exact hK _ _ h2
theorem wl_app {P : Program} {ops : Array Oper} {rest : List Oper} {o : Oper} {a : Act} {w : World} {Q : Exit → Act → World → Prop} (hg : o.guard = none) (s x : Operand) (t : TypeId)
  (hop : o.op = Op.call { callee := Callee.builtin Builtin.append, args := #[s, x], argTypes := #[t, t] }) (v u : Value) (hs : a.eval s = v) (hx : a.eval x = u) (R : Value → World → Prop)
  (hrun : ∃ v' w', (Builtin.append_ #[t, t] o.type #[v, u]).run P w = .ok v' w' ∧ R v' w') (hK : ∀ v' w', R v' w' → wpList P ops Q rest (a.put o.dst v') w') :
  wpList P ops Q (o :: rest) a w := by
 refine wpList_plain hg fun K hK' => ?_
 obtain ⟨v', w', hr, h2⟩ := hrun
 unfold Oper.wp execOp
 simp only [hop, resolve, invoke, builtin, Sem.run_bind, Sem.run_pure, Result.andThen_ok, List.map_toArray, List.map_cons, List.map_nil, hs, hx, hr]
 exact hK' _ _ (hK _ _ h2)
theorem add_mid (g j : Nat) : (⟨g, 0, none⟩ : Addr).add j = ⟨g, j, none⟩ := by unfold Addr.add; split <;> simp_all
end
abbrev Bs := List UInt8
def letterB (c : UInt8) : Bool := (97 ≤ c && c ≤ 122) || (65 ≤ c && c ≤ 90) || c == 95 || c == 36
def digitB (c : UInt8) : Bool := 48 ≤ c && c ≤ 57
def nameB (c : UInt8) : Bool := letterB c || digitB c
def noEndB (c : UInt8) : Bool := !(c == 10)
def runL (p : UInt8 → Bool) (l : Bs) : Nat := (l.takeWhile p).length
def wordsL : List Bs :=
 [[98, 114, 101, 97, 107], [99, 97, 115, 101], [99, 97, 116, 99, 104], [99, 111, 110, 116, 105, 110, 117, 101], [100, 101, 98, 117, 103, 103, 101, 114], [100, 101, 102, 97, 117, 108, 116], [100, 101, 108, 101, 116, 101], [100, 111], [101, 108, 115, 101], [102, 105, 110, 97, 108, 108, 121], [102, 111, 114], [102, 117, 110, 99, 116, 105, 111, 110], [105, 102], [105, 110], [105, 110, 115, 116, 97, 110, 99, 101, 111, 102], [110, 101, 119], [114, 101, 116, 117, 114, 110], [115, 119, 105, 116, 99, 104], [116, 104, 105, 115], [116, 104, 114, 111, 119], [116, 114, 121], [116, 121, 112, 101, 111, 102], [118, 97, 114], [118, 111, 105, 100], [119, 104, 105, 108, 101], [119, 105, 116, 104], [110, 117, 108, 108], [116, 114, 117, 101], [102, 97, 108, 115, 101], [117, 110, 100, 101, 102, 105, 110, 101, 100], [105, 110, 112, 117, 116]]
def isWordL (l : Bs) : Bool := wordsL.contains l
def isNameL : Bs → Bool
 | [] => false
 | c :: r => letterB c && (r.all nameB && !isWordL (c :: r))
structure Tok where
 kind : Int
 s : Bs
 n : Int
 line : Nat
 nl : Bool
def Tok.zero : Tok := ⟨0, [], 0, 0, false⟩
structure One where
 t : Tok
 len : Nat
 e : Int
structure Lexed where
 toks : List Tok
 line : Nat
 e : Int
inductive Tr where
 | mk (op : Int) (s : Bs) (n : Int) (line : Int) (l : List Tr) : Tr
namespace Tr
def op : Tr → Int | mk o _ _ _ _ => o
def s : Tr → Bs | mk _ x _ _ _ => x
def n : Tr → Int | mk _ _ x _ _ => x
def line : Tr → Int | mk _ _ _ x _ => x
def l : Tr → List Tr | mk _ _ _ _ x => x
@[simp] theorem op_mk (o : Int) (x : Bs) (k i : Int) (ts : List Tr) : (mk o x k i ts).op = o := rfl
@[simp] theorem s_mk (o : Int) (x : Bs) (k i : Int) (ts : List Tr) : (mk o x k i ts).s = x := rfl
@[simp] theorem n_mk (o : Int) (x : Bs) (k i : Int) (ts : List Tr) : (mk o x k i ts).n = k := rfl
@[simp] theorem line_mk (o : Int) (x : Bs) (k i : Int) (ts : List Tr) : (mk o x k i ts).line = i := rfl
@[simp] theorem l_mk (o : Int) (x : Bs) (k i : Int) (ts : List Tr) : (mk o x k i ts).l = ts := rfl
end Tr
mutual
def Tr.size : Tr → Nat
 | .mk _ _ _ _ l => 1 + sizes l
def sizes : List Tr → Nat
 | [] => 0
 | t :: r => t.size + sizes r
end
theorem size_pos (t : Tr) : 1 ≤ t.size := by cases t; unfold Tr.size; omega
theorem size_mk (o : Int) (x : Bs) (k i : Int) (l : List Tr) : (Tr.mk o x k i l).size = 1 + sizes l := by rw [Tr.size]
theorem size_eq (t : Tr) : t.size = 1 + sizes t.l := by cases t; rw [Tr.size]; rfl
theorem sizes_cons (t : Tr) (r : List Tr) : sizes (t :: r) = t.size + sizes r := by rw [sizes]
theorem sizes_nil : sizes [] = 0 := by rw [sizes]
theorem size_mem : ∀ {l : List Tr} {t : Tr}, t ∈ l → t.size ≤ sizes l
 | a :: r, t, h => by
  rw [sizes_cons]
  rcases List.mem_cons.1 h with rfl | h
  ·omega
  ·have := size_mem h
   omega
theorem size_part {t x : Tr} (h : x ∈ t.l) : x.size < t.size := by
 have := size_mem h
 rw [size_eq t]
 omega
theorem sizes_app : ∀ (a b : List Tr), sizes (a ++ b) = sizes a + sizes b
 | [], b => by simp [sizes_nil]
 | t :: r, b => by rw [List.cons_append, sizes_cons, sizes_cons, sizes_app r b]; omega
theorem length_le_sizes : ∀ l : List Tr, l.length ≤ sizes l
 | [] => by simp
 | t :: r => by
  have := length_le_sizes r
  have := size_pos t
  rw [sizes_cons, List.length_cons]
  omega
theorem tree_ind {P : Tr → Prop} (h : ∀ t, (∀ u, u.size < t.size → P u) → P t) (t : Tr) : P t := by
 have key : ∀ n (t : Tr), t.size ≤ n → P t := by
  intro n
  induction n with
  | zero => intro t ht; have := size_pos t; omega
  | succ n ih => intro t ht; exact h t fun u hu => ih u (by omega)
 exact key _ t (Nat.le_refl _)
mutual
def Tr.flat : Tr → List Tr
 | .mk o s n i l => .mk o s n i l :: flats l
def flats : List Tr → List Tr
 | [] => []
 | t :: r => t.flat ++ flats r
end
theorem flat_eq (t : Tr) : t.flat = t :: flats t.l := by cases t; rw [Tr.flat]; rfl
theorem flats_cons (t : Tr) (r : List Tr) : flats (t :: r) = t.flat ++ flats r := by rw [flats]
theorem flats_nil : flats [] = [] := by rw [flats]
mutual
theorem flat_len : ∀ t : Tr, t.flat.length = t.size
 | .mk o s n i l => by rw [Tr.flat, Tr.size, List.length_cons, flats_len l]; omega
theorem flats_len : ∀ l : List Tr, (flats l).length = sizes l
 | [] => by rw [flats, sizes]; rfl
 | t :: r => by rw [flats, sizes, List.length_append, flat_len t, flats_len r]
end
mutual
def Tr.levels (k : Nat) : Tr → List (Tr × Nat)
 | .mk o s n i l => (.mk o s n i l, k) :: levelsL (k + 1) l
def levelsL (k : Nat) : List Tr → List (Tr × Nat)
 | [] => []
 | t :: r => t.levels k ++ levelsL k r
end
theorem levels_eq (k : Nat) (t : Tr) : t.levels k = (t, k) :: levelsL (k + 1) t.l := by cases t; rw [Tr.levels]; rfl
theorem levelsL_cons (k : Nat) (t : Tr) (r : List Tr) : levelsL k (t :: r) = t.levels k ++ levelsL k r := by rw [levelsL]
theorem levelsL_nil (k : Nat) : levelsL k [] = [] := by rw [levelsL]
mutual
theorem levels_flat : ∀ (k : Nat) (t : Tr), (t.levels k).map (·.1) = t.flat
 | k, .mk o s n i l => by rw [Tr.levels, Tr.flat, List.map_cons, levelsL_flat (k + 1) l]
theorem levelsL_flat : ∀ (k : Nat) (l : List Tr), (levelsL k l).map (·.1) = flats l
 | k, [] => by rw [levelsL, flats]; rfl
 | k, t :: r => by rw [levelsL, flats, List.map_append, levels_flat k t, levelsL_flat k r]
end
def Tr.zero : Tr := .mk 0 [] 0 0 []
structure St where
 pos : Nat
 e : Int
 line : Int
def tokR (L : List Tok) (st : St) (k : Nat) : Tok := (L[st.pos + k]?).getD Tok.zero
def lastLine (L : List Tok) (d : Int) : Int := match L.getLast? with
 | some t => t.line
 | none => d
def failR (L : List Tok) (st : St) (e : Int) : St :=
 if st.e = 0 then
  match L[st.pos]? with
  | some t => ⟨st.pos, e, t.line⟩
  | none => ⟨st.pos, e, lastLine L st.line⟩
 else st
def bytes (s : List Nat) : Bs := s.map UInt8.ofNat
def otherL : List Bs := [[99, 97, 115, 101], [100, 101, 98, 117, 103, 103, 101, 114], [100, 101, 102, 97, 117, 108, 116], [100, 101, 108, 101, 116, 101], [100, 111], [102, 105, 110, 97, 108, 108, 121], [105, 110, 115, 116, 97, 110, 99, 101, 111, 102], [115, 119, 105, 116, 99, 104], [116, 121, 112, 101, 111, 102], [118, 111, 105, 100]]
def withW : Bs := [119, 105, 116, 104]
def stopR (L : List Tok) (st : St) (thing : Bool) : St :=
 let t := tokR L st 0
 if t.kind = 2 ∧ t.s = withW then failR L st 42
 else if t.kind = 5 ∧ t.s = [47] ∧ thing = true then failR L st 44
 else if (t.kind = 5 ∧ t.s = [47]) ∨ (t.kind = 2 ∧ t.s ∈ otherL) then failR L st 47
 else failR L st 40
def isR (L : List Tok) (st : St) (s : Bs) : Bool :=
 let t := tokR L st 0
 st.e == 0 && ((t.kind == 5 || t.kind == 2) && t.s == s)
def St.next (st : St) : St := ⟨st.pos + 1, st.e, st.line⟩
def takeR (L : List Tok) (st : St) (s : Bs) : St := if isR L st s then st.next else st
def mustR (L : List Tok) (st : St) (s : Bs) : St := if isR L st s then st.next else if st.e = 0 then stopR L st false else st
def nameR (L : List Tok) (st : St) : Bs × St :=
 let t := tokR L st 0
 if st.e ≠ 0 ∨ t.kind ≠ 1 then ([], stopR L st false) else (t.s, st.next)
def endR (L : List Tok) (st : St) : St :=
 let t := tokR L st 0
 if isR L st [59] then st.next
 else if st.e ≠ 0 ∨ t.kind = 0 ∨ t.nl = true ∨ (t.kind = 5 ∧ t.s = [125]) then st
 else stopR L st false
def signsR : Nat → List Bs
 | 0 => [[124, 124]]
 | 1 => [[38, 38]]
 | 2 => [[61, 61, 61], [33, 61, 61]]
 | 3 => [[60], [60, 61]]
 | 4 => [[43], [45]]
 | _ => [[42]]
def firstSign (L : List Tok) (st : St) (level : Nat) : Option Bs := (signsR level).find? (fun s => isR L st s)
def evalW : Bs := [101, 118, 97, 108]
def argsW : Bs := [97, 114, 103, 117, 109, 101, 110, 116, 115]
inductive M where
 | block | stmts (acc : List Tr) | within | params (acc : List Tr) (more : Bool) | rest | head | stmt
 | worded (line : Int) (s : Bs)
 | expr | cond | chain (level : Nat) | chainL (level : Nat) (x : Tr) | signed
 | args (acc : List Tr) (more : Bool) | parts (x : Tr) (calls : Bool) | thing | object (line : Int) (acc : List Tr)
abbrev Res := Option (List Tr × St)
def one (t : Tr) (st : St) : Res := some ([t], st)
def hd : List Tr → Tr
 | t :: _ => t
 | [] => Tr.zero
def wordedR (L : List Tok) (rec : M → St → Res) (line : Int) (s : Bs) (st : St) : Res :=
 if s = [118, 97, 114] then do
  let (x, st) := nameR L st.next
  if isR L st [61] then
   let (y, st) ← rec .expr st.next
   one (.mk 30 x 0 line [hd y]) (endR L st)
  else one (.mk 30 x 0 line []) (endR L st)
 else none
def run (L : List Tok) : Nat → M → St → Res
 | 0, _, _ => none
 | F + 1, m, st =>
  match m with
  | .block => none
  | .stmts acc =>
   if st.e = 0 ∧ (tokR L st 0).kind ≠ 0 then
    if isR L st [125] then none
    else if isR L st [59] then none
    else do
     let (t, st) ← run L F .stmt st
     run L F (.stmts (acc ++ [hd t])) st
   else some (acc, st)
  | .within => none
  | .params _ _ => none
  | .rest => none
  | .head => none
  | .stmt =>
   let t := tokR L st 0
   if t.kind = 2 then run L F (.worded t.line t.s) st
   else if t.kind = 1 then
    let next := tokR L st 1
    if next.kind = 5 ∧ next.s = [58] then none
    else do
     let (x, st) ← run L F .expr st
     one (.mk 31 [] 0 t.line [hd x]) (endR L st)
   else none
  | .worded line s => wordedR L (run L F) line s st
  | .expr =>
   if isR L st [40] then none
   else do
    let (x, st1) ← run L F .cond st
    if isR L st1 [61] then none else one (hd x) st1
  | .cond => do
   let (x, st) ← run L F (.chain 0) st
   if isR L st [63] then none else one (hd x) st
  | .chain level =>
   if level = 6 then run L F .signed st
   else do
    let (x, st) ← run L F (.chain (level + 1)) st
    run L F (.chainL level (hd x)) st
  | .chainL level x =>
   if st.e = 0 then
    match firstSign L st level with
    | none => one x st
    | some _ => none
   else one x st
  | .signed =>
   if isR L st [33] then none
   else if isR L st [45] then none
   else if isR L st [110, 101, 119] then none
   else do
    let (x, st) ← run L F .thing st
    run L F (.parts (hd x) true) st
  | .args _ _ => none
  | .parts x calls =>
   if st.e = 0 ∧ calls = true then
    if isR L st [46] then none
    else if isR L st [91] then none
    else if isR L st [40] then none
    else one x st
   else none
  | .thing =>
   let t := tokR L st 0
   if st.e ≠ 0 then none
   else if t.kind = 1 then
    if t.s = evalW ∨ t.s = argsW then none
    else one (.mk 1 t.s 0 t.line []) st.next
   else if t.kind = 5 ∧ t.s = [123] then run L F (.object t.line []) (mustR L st [123])
   else none
  | .object line acc =>
   if st.e = 0 ∧ acc = [] ∧ isR L st [125] = true then one (.mk 11 [] 0 line []) st.next
   else none
section
open Go.RowKit Go.Proofs
theorem letterB_iff (c : UInt8) : letterB c = true ↔ (97 ≤ c.toNat ∧ c.toNat ≤ 122) ∨ (65 ≤ c.toNat ∧ c.toNat ≤ 90) ∨ c.toNat = 95 ∨ c.toNat = 36 := by
 simp [letterB, UInt8.le_iff_toNat_le, ← UInt8.toNat_inj]
 omega
theorem digitB_iff (c : UInt8) : digitB c = true ↔ 48 ≤ c.toNat ∧ c.toNat ≤ 57 := by
 simp [digitB, UInt8.le_iff_toNat_le]
theorem noEndB_iff (c : UInt8) : noEndB c = true ↔ c.toNat ≠ 10 := by
 simp [noEndB, ← UInt8.toNat_inj]
theorem ret_i {k : IntKind} {a b : Int} (h : a = b) : Ending.returned (.int k a) = .returned (.int k b) := by rw [h]
theorem len_toList (s : ByteArray) : s.data.toList.length = s.size := by rw [Array.length_toList]; rfl
theorem get_toList (s : ByteArray) (k : Nat) (h : k < s.size) : s.data.toList[k]? = some s[k] := by
 rw [List.getElem?_eq_getElem (by rw [len_toList]; exact h)]; rfl
theorem drop_toList (s : ByteArray) (k : Nat) (h : k < s.size) : s.data.toList.drop k = s[k] :: s.data.toList.drop (k + 1) := by
 rw [List.drop_eq_getElem_cons (by rw [len_toList]; exact h)]; rfl
theorem runL_stop (p : UInt8 → Bool) : ∀ (k : Nat) (l : Bs), (∀ c ∈ l.take k, p c = true) → (∀ c, (l.drop k).head? = some c → p c = false) → k ≤ l.length → runL p l = k
 | 0, [], _, _, _ => rfl
 | 0, c :: r, _, h, _ => by
  have := h c rfl
  simp [runL, this]
 | k + 1, [], _, _, h => by simp at h
 | k + 1, c :: r, h1, h2, h3 => by
  have hc := h1 c (by simp)
  have := runL_stop p k r (fun x hx => h1 x (by simp [hx])) (fun x hx => h2 x (by simpa using hx)) (by simpa using h3)
  unfold runL at *
  rw [List.takeWhile_cons, if_pos hc, List.length_cons, this]
theorem runL_at (p : UInt8 → Bool) (s : ByteArray) (k : Nat) (hk : k < s.size) (h : ∀ c ∈ s.data.toList.take k, p c = true) (hp : p s[k] = false) : (k : Int) = runL p s.data.toList := by
 rw [runL_stop p k _ h (fun c hc => by
  rw [drop_toList s k hk] at hc
  obtain rfl : s[k] = c := by simpa using hc
  exact hp) (by rw [len_toList]; omega)]
theorem runL_all (p : UInt8 → Bool) (s : ByteArray) (k : Nat) (hk : k ≤ s.size) (hk2 : ¬ k < s.size) (h : ∀ c ∈ s.data.toList.take k, p c = true) : (s.size : Int) = runL p s.data.toList := by
 obtain rfl : k = s.size := by omega
 rw [runL_stop p s.size _ h (fun c hc => by
  rw [List.drop_eq_nil_of_le (by rw [len_toList]; omega)] at hc
  cases hc) (by rw [len_toList]; omega)]
theorem runL_le (p : UInt8 → Bool) (l : Bs) : runL p l ≤ l.length := by
 unfold runL; exact (List.takeWhile_prefix p).length_le
theorem take_snoc (s : ByteArray) (k : Nat) (h : k < s.size) : s.data.toList.take (k + 1) = s.data.toList.take k ++ [s[k]] := by
 rw [List.take_succ_eq_append_getElem (by simpa using h)]; rfl
def bs (l : Bs) : ByteArray := ⟨l.toArray⟩
theorem bs_list (l : Bs) : (bs l).data.toList = l := by simp [bs]
theorem bs_of (s : ByteArray) : bs s.data.toList = s := by simp [bs]
theorem bs_size (l : Bs) : (bs l).size = l.length := by rw [← len_toList, bs_list]
theorem runL_all_such (p : UInt8 → Bool) (l : Bs) (h : ∀ c ∈ l, p c = true) : runL p l = l.length := by
 exact runL_stop p l.length l (fun c hc => h c (by rwa [List.take_length] at hc)) (fun c hc => by rw [List.drop_length] at hc; cases hc) (Nat.le_refl _)
def Drewn (w w' : World) : Prop := ∃ k, w' = w.drewN k
theorem Drewn.below {w w' : World} (h : Drewn w w') : Below w.heap.size w w' := by
 obtain ⟨k, rfl⟩ := h
 exact ⟨rfl, rfl, rfl, Nat.le_refl _, fun _ _ => rfl⟩
end
theorem tok_lt {L : List Tok} {st : St} {k : Nat} (h : (tokR L st k).kind ≠ 0) : st.pos + k < L.length := by
 unfold tokR at h
 by_cases hl : st.pos + k < L.length
 ·exact hl
 ·rw [List.getElem?_eq_none (by omega)] at h
  exact absurd rfl h
theorem is_lt {L : List Tok} {st : St} {s : Bs} (h : isR L st s = true) : st.e = 0 ∧ st.pos < L.length := by
 unfold isR at h
 simp at h
 obtain ⟨h1, h2, _⟩ := h
 refine ⟨h1, ?_⟩
 have := tok_lt (L := L) (st := st) (k := 0) (by rcases h2 with h2 | h2 <;> rw [h2] <;> decide)
 omega
theorem tok_lt0 {L : List Tok} {st : St} {k : Int} (h : (tokR L st 0).kind = k) (hk : k ≠ 0) : st.pos < L.length := by
 have := tok_lt (L := L) (st := st) (k := 0) (by rw [h]; exact hk)
 omega
section
open Go.RowKit Go.Proofs
theorem digit_any (c : UInt8) (w : World) : Calls Tryz.prog 153 #[.int .u8 c.toNat] w fun e w' => e = .returned (.bool (digitB c)) ∧ w = w' := by
 go_enter Tryz.func153, Tryz.ntmps153
 go_wp2
 all_goals
  go_ret
  exact ⟨ret_b (by rw [Bool.eq_iff_iff, digitB_iff]; simp; omega), rfl⟩
theorem letter_any (c : UInt8) (w : World) : Calls Tryz.prog 145 #[.int .u8 c.toNat] w fun e w' => e = .returned (.bool (letterB c)) ∧ w = w' := by
 go_enter Tryz.func145, Tryz.ntmps145
 go_wp2
 all_goals
  go_ret
  exact ⟨ret_b (by rw [Bool.eq_iff_iff, letterB_iff]; simp; omega), rfl⟩
theorem rletter_any (c : UInt8) (w : World) : Calls Tryz.prog 111 #[.int .u8 c.toNat] w fun e w' => e = .returned (.bool (letterB c)) ∧ w = w' := by
 go_enter Tryz.func111, Tryz.ntmps111
 go_wp2
 all_goals
  go_ret
  exact ⟨ret_b (by rw [Bool.eq_iff_iff, letterB_iff]; simp; omega), rfl⟩
theorem rdigit_any (c : UInt8) (w : World) : Calls Tryz.prog 112 #[.int .u8 c.toNat] w fun e w' => e = .returned (.bool (digitB c)) ∧ w = w' := by
 go_enter Tryz.func112, Tryz.ntmps112
 go_wp2
 all_goals
  go_ret
  exact ⟨ret_b (by rw [Bool.eq_iff_iff, digitB_iff]; simp; omega), rfl⟩
theorem jname_any (c : UInt8) (w : World) : Calls Tryz.prog 147 #[.int .u8 c.toNat] w fun e w' => e = .returned (.bool (nameB c)) ∧ w = w' := by
 have H1 := Lib.hid (letter_any c)
 have H2 := Lib.hid (digit_any c)
 unfold nameB
 cases h : letterB c with
 | true =>
  rw [h] at H1
  clear h
  go_enter Tryz.func147, Tryz.ntmps147
  go_wp2_with (go_at_call 145; refine (H1.out _).mono ?_; rintro e w' ⟨rfl, rfl⟩)
  go_ret
  exact ⟨ret_b (by simp), rfl⟩
 | false =>
  rw [h] at H1
  clear h
  go_enter Tryz.func147, Tryz.ntmps147
  go_wp2_with (first | (go_at_call 145; refine (H1.out _).mono ?_; rintro e w' ⟨rfl, rfl⟩) | (go_at_call 153; refine (H2.out _).mono ?_; rintro e w' ⟨rfl, rfl⟩))
  go_ret
  exact ⟨ret_b (by simp), rfl⟩
end
section
open Go.RowKit Go.Proofs
theorem run24_any (s : ByteArray) (w : World) (hs : s.size ≤ maxLen) :
  Calls Tryz.prog 146 #[.string s, .func (.func 147) #[] #[]] w fun e w' => e = .returned (.int .i64 (runL nameB s.data.toList)) ∧ w = w' := by
 unfold maxLen at hs
 go_enter Tryz.func146, Tryz.ntmps146
 go_wp2
 go_loop [8] (fun i => ∃ k : Nat, k ≤ s.size ∧ i = .int .i64 k ∧ ∀ c ∈ s.data.toList.take k, nameB c = true) (fun i => s.size - (intOf i).toNat)
 case atStart => exact ⟨0, Nat.zero_le _, rfl, by simp⟩
 case round =>
  obtain ⟨k, hk, rfl, hall⟩ := hrel
  have HA := Lib.hid hall
  clear hall
  by_cases hlt : k < s.size
  ·have HN := Lib.hid (jname_any s[k])
   cases hp : nameB s[k] with
   | true =>
    have HP := Lib.hid hp
    rw [hp] at HN
    clear hp
    go_wp2_with (go_at_call 147; refine (HN.out _).mono ?_; rintro e w' ⟨rfl, rfl⟩)
    go_round
    case rel => exact ⟨k + 1, by omega, by go_num, fun c hc => by
     rw [take_snoc s k hlt] at hc
     rcases List.mem_append.1 hc with h | h
     ·exact HA.out c h
     ·obtain rfl : c = s[k] := by simpa using h
      exact HP.out⟩
    case measure => simp [intOf]; omega
   | false =>
    have HP := Lib.hid hp
    rw [hp] at HN
    clear hp
    go_wp2_with (go_at_call 147; refine (HN.out _).mono ?_; rintro e w' ⟨rfl, rfl⟩)
    go_ret
    exact ⟨ret_i (runL_at _ s k hlt HA.out HP.out), rfl⟩
  ·go_wp2
   go_ret
   exact ⟨ret_i (runL_all _ s k hk hlt HA.out), rfl⟩
end
section
open Go.RowKit Go.Proofs Go.Maps
theorem strKey : Keyed Tryz.prog 9 := string_keyed Tryz.underlying9
theorem zero74 (w : World) : (zeroValue 184).run Tryz.prog w = .ok (.agg #[]) w := by kernel_rfl
def WM (w : World) (b : Nat) (acc : List Bs) : Prop :=
 w.ownsMap (H := Unit) Tryz.prog 9 unitElem b acc.length (setOf (.agg []) (acc.map Lit.string))
theorem WM.below {w w' : World} {B b : Nat} {acc : List Bs} (h : WM w b acc) (hb : b < B) (hg : Below B w w') : WM w' b acc := by
 obtain ⟨es, clock, h1, h2⟩ := h
 exact ⟨es, clock, (hg.block b hb).trans h1, h2⟩
theorem WM.lt {w : World} {b : Nat} {acc : List Bs} (h : WM w b acc) : b < w.heap.size := World.ownsMap.lt h
theorem WM.put {w0 w : World} {B b : Nat} {acc : List Bs} (h : WM w b acc ∧ Below B w0 w) (hn : decide (acc.length < 100) = true) (hBb : B ≤ b) (s : ByteArray) (hs : decide (s.size ≤ 100) = true) :
  ∃ w', (Instr.mapUpdate 186 (.map (some b)) (.string s) (.agg #[])).run Tryz.prog w = .ok () w' ∧ (WM w' b (acc ++ [s.data.toList]) ∧ Below B w0 w') := by
 have hn := of_decide_eq_true hn
 have hs := of_decide_eq_true hs
 obtain ⟨w', hrun, r1, r2⟩ := World.ownsMap.update h.1 strKey Tryz.underlying186 (by unfold maxLen; omega) (WideMaps.keyOf_string_mk Tryz.underlying9 (s := s) (by unfold maxLen; omega)) unitElem_mk
 refine ⟨w', hrun, ?_, h.2.trans ?_⟩
 ·unfold WM
  rw [List.map_append, List.length_append, List.map_singleton, setOf_snoc]
  exact r1
 ·exact ⟨r2.os, r2.tape, r2.output, r2.size, fun i hi => r2.block i (by have := World.ownsMap.lt h.1; omega) (fun e => by cases e; omega)⟩
theorem words_any (w : World) : Calls Tryz.prog 148 #[] w fun e w' => ∃ b, e = .returned (.map (some b)) ∧ WM w' b wordsL ∧ w.heap.size ≤ b ∧ Below w.heap.size w w' := by
 have hmm := @run_makeMap Tryz.prog
 have H0 : WM (w.alloc (.map #[] 0)) w.heap.size [] ∧ Below w.heap.size w (w.alloc (.map #[] 0)) := ⟨World.ownsMap_made w _ _ _, (Below.refl _ w).alloc (Nat.le_refl _) _⟩
 obtain ⟨w1, e1, H1⟩ := WM.put H0 rfl (Nat.le_refl _) ⟨#[98, 114, 101, 97, 107]⟩ rfl
 clear H0
 obtain ⟨w2, e2, H2⟩ := WM.put H1 rfl (Nat.le_refl _) ⟨#[99, 97, 115, 101]⟩ rfl
 clear H1
 obtain ⟨w3, e3, H3⟩ := WM.put H2 rfl (Nat.le_refl _) ⟨#[99, 97, 116, 99, 104]⟩ rfl
 clear H2
 obtain ⟨w4, e4, H4⟩ := WM.put H3 rfl (Nat.le_refl _) ⟨#[99, 111, 110, 116, 105, 110, 117, 101]⟩ rfl
 clear H3
 obtain ⟨w5, e5, H5⟩ := WM.put H4 rfl (Nat.le_refl _) ⟨#[100, 101, 98, 117, 103, 103, 101, 114]⟩ rfl
 clear H4
 obtain ⟨w6, e6, H6⟩ := WM.put H5 rfl (Nat.le_refl _) ⟨#[100, 101, 102, 97, 117, 108, 116]⟩ rfl
 clear H5
 obtain ⟨w7, e7, H7⟩ := WM.put H6 rfl (Nat.le_refl _) ⟨#[100, 101, 108, 101, 116, 101]⟩ rfl
 clear H6
 obtain ⟨w8, e8, H8⟩ := WM.put H7 rfl (Nat.le_refl _) ⟨#[100, 111]⟩ rfl
 clear H7
 obtain ⟨w9, e9, H9⟩ := WM.put H8 rfl (Nat.le_refl _) ⟨#[101, 108, 115, 101]⟩ rfl
 clear H8
 obtain ⟨w10, e10, H10⟩ := WM.put H9 rfl (Nat.le_refl _) ⟨#[102, 105, 110, 97, 108, 108, 121]⟩ rfl
 clear H9
 obtain ⟨w11, e11, H11⟩ := WM.put H10 rfl (Nat.le_refl _) ⟨#[102, 111, 114]⟩ rfl
 clear H10
 obtain ⟨w12, e12, H12⟩ := WM.put H11 rfl (Nat.le_refl _) ⟨#[102, 117, 110, 99, 116, 105, 111, 110]⟩ rfl
 clear H11
 obtain ⟨w13, e13, H13⟩ := WM.put H12 rfl (Nat.le_refl _) ⟨#[105, 102]⟩ rfl
 clear H12
 obtain ⟨w14, e14, H14⟩ := WM.put H13 rfl (Nat.le_refl _) ⟨#[105, 110]⟩ rfl
 clear H13
 obtain ⟨w15, e15, H15⟩ := WM.put H14 rfl (Nat.le_refl _) ⟨#[105, 110, 115, 116, 97, 110, 99, 101, 111, 102]⟩ rfl
 clear H14
 obtain ⟨w16, e16, H16⟩ := WM.put H15 rfl (Nat.le_refl _) ⟨#[110, 101, 119]⟩ rfl
 clear H15
 obtain ⟨w17, e17, H17⟩ := WM.put H16 rfl (Nat.le_refl _) ⟨#[114, 101, 116, 117, 114, 110]⟩ rfl
 clear H16
 obtain ⟨w18, e18, H18⟩ := WM.put H17 rfl (Nat.le_refl _) ⟨#[115, 119, 105, 116, 99, 104]⟩ rfl
 clear H17
 obtain ⟨w19, e19, H19⟩ := WM.put H18 rfl (Nat.le_refl _) ⟨#[116, 104, 105, 115]⟩ rfl
 clear H18
 obtain ⟨w20, e20, H20⟩ := WM.put H19 rfl (Nat.le_refl _) ⟨#[116, 104, 114, 111, 119]⟩ rfl
 clear H19
 obtain ⟨w21, e21, H21⟩ := WM.put H20 rfl (Nat.le_refl _) ⟨#[116, 114, 121]⟩ rfl
 clear H20
 obtain ⟨w22, e22, H22⟩ := WM.put H21 rfl (Nat.le_refl _) ⟨#[116, 121, 112, 101, 111, 102]⟩ rfl
 clear H21
 obtain ⟨w23, e23, H23⟩ := WM.put H22 rfl (Nat.le_refl _) ⟨#[118, 97, 114]⟩ rfl
 clear H22
 obtain ⟨w24, e24, H24⟩ := WM.put H23 rfl (Nat.le_refl _) ⟨#[118, 111, 105, 100]⟩ rfl
 clear H23
 obtain ⟨w25, e25, H25⟩ := WM.put H24 rfl (Nat.le_refl _) ⟨#[119, 104, 105, 108, 101]⟩ rfl
 clear H24
 obtain ⟨w26, e26, H26⟩ := WM.put H25 rfl (Nat.le_refl _) ⟨#[119, 105, 116, 104]⟩ rfl
 clear H25
 obtain ⟨w27, e27, H27⟩ := WM.put H26 rfl (Nat.le_refl _) ⟨#[110, 117, 108, 108]⟩ rfl
 clear H26
 obtain ⟨w28, e28, H28⟩ := WM.put H27 rfl (Nat.le_refl _) ⟨#[116, 114, 117, 101]⟩ rfl
 clear H27
 obtain ⟨w29, e29, H29⟩ := WM.put H28 rfl (Nat.le_refl _) ⟨#[102, 97, 108, 115, 101]⟩ rfl
 clear H28
 obtain ⟨w30, e30, H30⟩ := WM.put H29 rfl (Nat.le_refl _) ⟨#[117, 110, 100, 101, 102, 105, 110, 101, 100]⟩ rfl
 clear H29
 obtain ⟨w31, e31, H31⟩ := WM.put H30 rfl (Nat.le_refl _) ⟨#[105, 110, 112, 117, 116]⟩ rfl
 clear H30
 have H := Lib.hid H31
 clear H31
 go_enter Tryz.func148, Tryz.ntmps148
 go_wp2
 go_ret
 exact ⟨_, rfl, H.out.1, Nat.le_refl _, H.out.2⟩
theorem words_has (l : Bs) : Maps.has (setOf (H := Unit) (.agg []) (wordsL.map Lit.string)) (.string l) = isWordL l := by
 rw [has_setOf _ _ _ (fun x hx => by
  obtain ⟨y, _, rfl⟩ := List.mem_map.1 hx
  exact strKey.key (WideMaps.keyOf_string_mk (s := ⟨#[]⟩) Tryz.underlying9 (by unfold maxLen; decide)) |> fun _ => trivial)]
 unfold isWordL
 rw [List.any_map]
 rw [Bool.eq_iff_iff]
 simp [Lit.sameKey]
theorem WM.look {w : World} {b : Nat} (h : WM w b wordsL) (s : ByteArray) (hs : s.size ≤ maxLen) :
  (Instr.lookup 186 (.map (some b)) (.string s) true).run Tryz.prog w = .ok (.tuple #[.agg #[], .bool (isWordL s.data.toList)]) w := by
 obtain ⟨v, ps, hrun, hv⟩ := World.ownsMap.look_ok h strKey Tryz.underlying186 (zero74 w) (zd := .agg []) (zp := []) unitElem_mk (WideMaps.keyOf_string_mk Tryz.underlying9 hs)
 obtain ⟨rfl, _⟩ := unitElem_inv hv
 rw [words_has] at hrun
 exact hrun
theorem isWord_any (s : ByteArray) (w : World) (hs : s.size ≤ maxLen) : Calls Tryz.prog 140 #[.string s] w fun e w' => e = .returned (.bool (isWordL s.data.toList)) ∧ Below w.heap.size w w' := by
 go_enter Tryz.func140, Tryz.ntmps140
 go_wp2_with (go_at_call 148; refine (words_any _).mono ?_; rintro e w' ⟨b, rfl, hW, hb, hB⟩; have hL := hW.look s hs)
 go_ret
 exact ⟨rfl, hB.alloc hB.size _⟩
end
section
open Go.RowKit Go.Proofs
theorem nameB_letter {c : UInt8} (h : letterB c = true) : nameB c = true := by unfold nameB; rw [h]; rfl
theorem run_all {p : UInt8 → Bool} : ∀ {l : Bs}, runL p l = l.length → l.all p = true
 | [], _ => rfl
 | c :: r, h => by
  unfold runL at h
  rw [List.takeWhile_cons] at h
  cases hc : p c with
  | false => rw [hc] at h; simp at h
  | true =>
   rw [hc] at h
   simp at h
   have := run_all (p := p) (l := r) h
   rw [List.all_cons, hc, this]
   rfl
theorem isName_any (s : ByteArray) (w : World) (hs : s.size ≤ maxLen) :
  Calls Tryz.prog 139 #[.string s] w fun e w' => e = .returned (.bool (isNameL s.data.toList)) ∧ Below w.heap.size w w' := by
 have HR := Lib.hid (fun w => run24_any s w hs)
 have HW := Lib.hid (fun w => isWord_any s w hs)
 unfold maxLen at hs
 by_cases h0 : s.size = 0
 ·have hl : s.data.toList = [] := List.eq_nil_of_length_eq_zero (by rw [len_toList]; exact h0)
  have hN := Lib.hid (show isNameL s.data.toList = false by rw [hl]; rfl)
  have he : (s.toList == []) = true := by rw [Lib.toList_data, hl]; rfl
  clear hl
  go_enter Tryz.func139, Tryz.ntmps139
  go_wp2
  go_ret
  exact ⟨ret_b hN.out.symm, Below.refl _ _⟩
 ·have h1 : 0 < s.size := by omega
  have g1 : (0 : Int) < s.size := by omega
  have hl : s.data.toList = s[0] :: s.data.toList.drop 1 := by
   have := drop_toList s 0 h1
   simpa using this
  have he : (s.toList == []) = false := by rw [Lib.toList_data, hl]; rfl
  have hN : isNameL s.data.toList = (letterB s[0] && (decide (runL nameB s.data.toList = s.data.toList.length) && !isWordL s.data.toList)) := by
   have key : ∀ c r, isNameL (c :: r) = (letterB c && (decide (runL nameB (c :: r) = (c :: r).length) && !isWordL (c :: r))) := by
    intro c r
    show (letterB c && (r.all nameB && !isWordL (c :: r))) = _
    cases hc : letterB c with
    | false => rfl
    | true =>
     by_cases ha : r.all nameB = true
     ·rw [ha, decide_eq_true (runL_all_such _ _ (fun x hx => by
       rcases List.mem_cons.1 hx with rfl | hx
       ·exact nameB_letter hc
       ·exact List.all_eq_true.1 ha x hx))]
     ·rw [decide_eq_false (fun e => ha (by
       have := run_all e
       rw [List.all_cons] at this
       exact (Bool.and_eq_true _ _ ▸ this).2))]
      simp only [Bool.not_eq_true] at ha
      rw [ha]
   rw [hl]
   exact key _ _
  rw [len_toList] at hN
  obtain ⟨n, hn⟩ : ∃ n, runL nameB s.data.toList = n := ⟨_, rfl⟩
  obtain ⟨b, hb⟩ : ∃ b, isWordL s.data.toList = b := ⟨_, rfl⟩
  have HR := fun w => HR.out w
  have HW := fun w => HW.out w
  rw [hn] at hN HR
  rw [hb] at hN HW
  have HR := Lib.hid HR
  have HW := Lib.hid HW
  have HL := Lib.hid (letter_any s[0])
  cases hc : letterB s[0] with
  | false =>
   rw [hc] at hN HL
   have hN := Lib.hid hN
   clear hl hn hb hc
   go_enter Tryz.func139, Tryz.ntmps139
   go_wp2_with (go_at_call 145; refine (HL.out _).mono ?_; rintro e w' ⟨rfl, rfl⟩)
   go_ret
   exact ⟨ret_b (by rw [hN.out]; rfl), Below.refl _ _⟩
  | true =>
   rw [hc] at hN HL
   by_cases hz : n = s.size
   ·have hN2 : isNameL s.data.toList = !b := by rw [hN, decide_eq_true hz]; simp
    clear hl hn hb hc hN
    have hM := Lib.hid hN2
    clear hN2
    subst hz
    go_enter Tryz.func139, Tryz.ntmps139
    go_wp2_with (first | (go_at_call 145; refine (HL.out _).mono ?_; rintro e w' ⟨rfl, rfl⟩) | (go_at_call 146; refine (HR.out _).mono ?_; rintro e w' ⟨rfl, rfl⟩) | (go_at_call 140; refine (HW.out _).mono ?_; rintro e w1 ⟨rfl, hB1⟩))
    go_ret
    exact ⟨ret_b (by rw [hM.out]), hB1⟩
   ·have hN : isNameL s.data.toList = false := by rw [hN, decide_eq_false hz]; simp
    have hN := Lib.hid hN
    have d : ((n : Int) == s.size) = false := by
     rw [beq_eq_false_iff_ne]
     omega
    have d2 : (n == s.size) = false := by simpa using hz
    clear hl hn hb hc
    go_enter Tryz.func139, Tryz.ntmps139
    go_wp2_with (first | (go_at_call 145; refine (HL.out _).mono ?_; rintro e w' ⟨rfl, rfl⟩) | (go_at_call 146; refine (HR.out _).mono ?_; rintro e w' ⟨rfl, rfl⟩))
    go_ret
    exact ⟨ret_b hN.out.symm, Below.refl _ _⟩
end
def halfM (c : UInt8) : Int := if digitB c then (c.toNat : Int) - 48 else if 97 ≤ c.toNat ∧ c.toNat ≤ 102 then (c.toNat : Int) - 87 else -1
def escapeM : Bs → UInt8 × Nat
 | _ :: c :: r =>
  if c = 110 then (10, 2) else if c = 116 then (9, 2) else if c = 92 ∨ c = 34 ∨ c = 39 then (c, 2)
  else if c = 120 then match r with
   | a :: b :: _ => if 0 ≤ halfM a ∧ 0 ≤ halfM b then (UInt8.ofNat (16 * halfM a + halfM b).toNat, 4) else (0, 0)
   | _ => (0, 0)
  else (0, 0)
 | _ => (0, 0)
def textM (q : UInt8) : Nat → Bs → Bs → Nat → Option (Bs × Nat)
 | 0, _, _, _ => none
 | _ + 1, [], _, _ => none
 | f + 1, c :: r, out, i =>
  if c = q then some (out, i + 1)
  else if c.toNat < 32 ∨ 126 < c.toNat then none
  else if c ≠ 92 then textM q f r (out ++ [c]) (i + 1)
  else match escapeM (c :: r) with
   | (_, 0) => none
   | (b, n + 1) => textM q f (r.drop n) (out ++ [b]) (i + (n + 1))
def sign3 : List Bs := [[61, 61, 61], [33, 61, 61]]
def sign2 : List Bs := [[60, 61], [38, 38], [124, 124]]
def sign1 : List UInt8 := [123, 125, 40, 41, 91, 93, 46, 59, 44, 58, 63, 60, 61, 33, 43, 45, 42, 47]
def signM (s : Bs) : Nat := if s.take 3 ∈ sign3 then 3 else if s.take 2 ∈ sign2 then 2 else if s.headD 0 ∈ sign1 then 1 else 0
def valM (n : Nat) (l : Bs) : Nat := l.foldl (fun n c => 10 * n + (c.toNat - 48)) n
def numberM (s : Bs) : Option Nat := if 15 < s.length ∨ (1 < s.length ∧ s.headD 0 = 48) then none else some (valM 0 s)
def oneM (s : Bs) : Except Int (Tok × Nat) :=
 let c := s.headD 0
 if letterB c then
  let n := runL nameB s
  .ok (⟨if isWordL (s.take n) then 2 else 1, s.take n, 0, 0, false⟩, n)
 else if digitB c then
  let k := runL digitB s
  if (s.drop k).head? = some 46 then .error 25
  else match numberM (s.take k) with
   | none => .error 24
   | some n => if runL nameB s ≠ k then .error 24 else .ok (⟨3, [], n, 0, false⟩, k)
 else if c = 34 ∨ c = 39 then
  match textM c (s.length + 1) (s.drop 1) [] 1 with
  | none => .error 22
  | some (t, n) => .ok (⟨4, t, 0, 0, false⟩, n)
 else if signM s = 0 then .error 21 else .ok (⟨5, s.take (signM s), 0, 0, false⟩, signM s)
def closeM : Bs → Nat → Option Nat
 | [], _ => none
 | [_], _ => none
 | a :: b :: r, i => if a = 42 ∧ b = 47 then some (i + 2) else closeM (b :: r) (i + 1)
def blankM (s : Bs) : Option Nat :=
 let c := s.headD 0
 if c = 32 ∨ c = 9 ∨ c = 13 ∨ c = 10 then some 1
 else match s with
  | 47 :: 47 :: r => some (2 + runL noEndB r)
  | 47 :: 42 :: r => closeM r 2
  | _ => some 0
def lexM : Nat → Bs → Nat → Bool → List Tok → List Tok × Int × Int
 | 0, _, _, _, out => (out, 0, 0)
 | _ + 1, [], _, _, out => (out, 0, 0)
 | f + 1, c :: r, line, nl, out =>
  match blankM (c :: r) with
  | none => ([], line, 23)
  | some (n + 1) => lexM f (r.drop n) (line + ((c :: r).take (n + 1)).count 10) (nl || ((c :: r).take (n + 1)).contains 10) out
  | some 0 =>
   match oneM (c :: r) with
   | .error e => ([], line, e)
   | .ok (t, k) => if out.length = 20000 then ([], line, 20) else lexM f ((c :: r).drop k) line false (out ++ [⟨t.kind, t.s, t.n, line, nl⟩])
end Go.Proofs.YtikbfoichhkeaaaGreat
