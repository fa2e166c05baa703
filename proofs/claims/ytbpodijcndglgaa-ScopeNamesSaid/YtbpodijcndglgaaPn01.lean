/- The tokens of a text, as plain functions of lists of bytes. No program. Programs as trees, as plain data. No program. Sets of blocks, what turns of them; rows of one's own. No program. Strings as lists of bytes. No program. What a tree of an operation has: which text, number, parts. No program. The document's tokens of a text, as plain functions, step by step as the document makes them. No program. -/
import Derived.Lib.Strings
import Derived.Lib.Bytealg
import Derived.Lib.Index
import Derived.WalkKit
import Derived.WalkSpells
import Derived.WalkLawsBesides
import Derived.BigQuiet
import Derived.Deep.QuietTactic
import Derived.BigGuard
import Derived.Lib.Hide
import Derived.WalkSmall
import Derived.Laws.OwnMore
import Derived.Deep.AppendLies
import Derived.Deep.Draws
import Derived.Maps.AppendAt
import Derived.Outline
set_option linter.unusedSimpArgs false
set_option linter.unusedVariables false
set_option maxRecDepth 100000
set_option maxHeartbeats 40000000
namespace Go.Proofs.Ytbpodijcndglgaa
abbrev Bs := List UInt8
def letterB (c : UInt8) : Bool := (97 ≤ c && c ≤ 122) || (65 ≤ c && c ≤ 90) || c == 95 || c == 36
def digitB (c : UInt8) : Bool := 48 ≤ c && c ≤ 57
def nameB (c : UInt8) : Bool := letterB c || digitB c
def noEndB (c : UInt8) : Bool := !(c == 10)
def runL (p : UInt8 → Bool) (l : Bs) : Nat := (l.takeWhile p).length
def wordsL : List Bs :=
 [[98, 114, 101, 97, 107], [99, 97, 115, 101], [99, 97, 116, 99, 104], [99, 111, 110, 116, 105, 110, 117, 101], [100, 101, 98, 117, 103, 103, 101, 114], [100, 101, 102, 97, 117, 108, 116], [100, 101, 108, 101, 116, 101], [100, 111], [101, 108, 115, 101], [102, 105, 110, 97, 108, 108, 121], [102, 111, 114], [102, 117, 110, 99, 116, 105, 111, 110], [105, 102], [105, 110], [105, 110, 115, 116, 97, 110, 99, 101, 111, 102], [110, 101, 119], [114, 101, 116, 117, 114, 110], [115, 119, 105, 116, 99, 104], [116, 104, 105, 115], [116, 104, 114, 111, 119], [116, 114, 121], [116, 121, 112, 101, 111, 102], [118, 97, 114], [118, 111, 105, 100], [119, 104, 105, 108, 101], [119, 105, 116, 104], [110, 117, 108, 108], [116, 114, 117, 101], [102, 97, 108, 115, 101], [117, 110, 100, 101, 102, 105, 110, 101, 100], [105, 110, 112, 117, 116]]
def isWordL (l : Bs) : Bool := wordsL.contains l
def isNameL : Bs → Bool
 | [] => false
 | c :: r => letterB c && (r.all nameB && !isWordL (c :: r))
structure Tok where
 kind : Int
 s : Bs
 n : Int
 line : Nat
 nl : Bool
def Tok.zero : Tok := ⟨0, [], 0, 0, false⟩
structure One where
 t : Tok
 len : Nat
 e : Int
structure Lexed where
 toks : List Tok
 line : Nat
 e : Int
inductive Tr where
 | mk (op : Int) (s : Bs) (n : Int) (line : Int) (l : List Tr) : Tr
namespace Tr
def op : Tr → Int | mk o _ _ _ _ => o
def s : Tr → Bs | mk _ x _ _ _ => x
def n : Tr → Int | mk _ _ x _ _ => x
def line : Tr → Int | mk _ _ _ x _ => x
def l : Tr → List Tr | mk _ _ _ _ x => x
@[simp] theorem op_mk (o : Int) (x : Bs) (k i : Int) (ts : List Tr) : (mk o x k i ts).op = o := rfl
@[simp] theorem s_mk (o : Int) (x : Bs) (k i : Int) (ts : List Tr) : (mk o x k i ts).s = x := rfl
@[simp] theorem n_mk (o : Int) (x : Bs) (k i : Int) (ts : List Tr) : (mk o x k i ts).n = k := rfl
@[simp] theorem line_mk (o : Int) (x : Bs) (k i : Int) (ts : List Tr) : (mk o x k i ts).line = i := rfl
@[simp] theorem l_mk (o : Int) (x : Bs) (k i : Int) (ts : List Tr) : (mk o x k i ts).l = ts := rfl
end Tr
mutual
def Tr.size : Tr → Nat
 | .mk _ _ _ _ l => 1 + sizes l
def sizes : List Tr → Nat
 | [] => 0
 | t :: r => t.size + sizes r
end
theorem size_pos (t : Tr) : 1 ≤ t.size := by cases t; unfold Tr.size; omega
theorem size_eq (t : Tr) : t.size = 1 + sizes t.l := by cases t; rw [Tr.size]; rfl
theorem sizes_cons (t : Tr) (r : List Tr) : sizes (t :: r) = t.size + sizes r := by rw [sizes]
theorem sizes_nil : sizes [] = 0 := by rw [sizes]
theorem size_mem : ∀ {l : List Tr} {t : Tr}, t ∈ l → t.size ≤ sizes l
 | a :: r, t, h => by
  rw [sizes_cons]
  rcases List.mem_cons.1 h with rfl | h
  ·omega
  ·have := size_mem h
   omega
theorem size_part {t x : Tr} (h : x ∈ t.l) : x.size < t.size := by
 have := size_mem h
 rw [size_eq t]
 omega
theorem sizes_app : ∀ (a b : List Tr), sizes (a ++ b) = sizes a + sizes b
 | [], b => by simp [sizes_nil]
 | t :: r, b => by rw [List.cons_append, sizes_cons, sizes_cons, sizes_app r b]; omega
theorem length_le_sizes : ∀ l : List Tr, l.length ≤ sizes l
 | [] => by simp
 | t :: r => by
  have := length_le_sizes r
  have := size_pos t
  rw [sizes_cons, List.length_cons]
  omega
theorem tree_ind {P : Tr → Prop} (h : ∀ t, (∀ u, u.size < t.size → P u) → P t) (t : Tr) : P t := by
 have key : ∀ n (t : Tr), t.size ≤ n → P t := by
  intro n
  induction n with
  | zero => intro t ht; have := size_pos t; omega
  | succ n ih => intro t ht; exact h t fun u hu => ih u (by omega)
 exact key _ t (Nat.le_refl _)
mutual
def Tr.flat : Tr → List Tr
 | .mk o s n i l => .mk o s n i l :: flats l
def flats : List Tr → List Tr
 | [] => []
 | t :: r => t.flat ++ flats r
end
theorem flat_eq (t : Tr) : t.flat = t :: flats t.l := by cases t; rw [Tr.flat]; rfl
theorem flats_cons (t : Tr) (r : List Tr) : flats (t :: r) = t.flat ++ flats r := by rw [flats]
theorem flats_nil : flats [] = [] := by rw [flats]
mutual
def Tr.levels (k : Nat) : Tr → List (Tr × Nat)
 | .mk o s n i l => (.mk o s n i l, k) :: levelsL (k + 1) l
def levelsL (k : Nat) : List Tr → List (Tr × Nat)
 | [] => []
 | t :: r => t.levels k ++ levelsL k r
end
theorem levels_eq (k : Nat) (t : Tr) : t.levels k = (t, k) :: levelsL (k + 1) t.l := by cases t; rw [Tr.levels]; rfl
theorem levelsL_cons (k : Nat) (t : Tr) (r : List Tr) : levelsL k (t :: r) = t.levels k ++ levelsL k r := by rw [levelsL]
theorem levelsL_nil (k : Nat) : levelsL k [] = [] := by rw [levelsL]
mutual
theorem levels_flat : ∀ (k : Nat) (t : Tr), (t.levels k).map (·.1) = t.flat
 | k, .mk o s n i l => by rw [Tr.levels, Tr.flat, List.map_cons, levelsL_flat (k + 1) l]
theorem levelsL_flat : ∀ (k : Nat) (l : List Tr), (levelsL k l).map (·.1) = flats l
 | k, [] => by rw [levelsL, flats]; rfl
 | k, t :: r => by rw [levelsL, flats, List.map_append, levels_flat k t, levelsL_flat k r]
end
section
open Go.RowKit Go.Proofs
theorem ret_b {a b : Bool} (h : a = b) : Ending.returned (.bool a) = .returned (.bool b) := by rw [h]
theorem blk_set {w : World} {g : Nat} {t : TypeId} {cs : Array Value} (h : w.heap[g]? = some (.cells cs t (0, 0))) (i : Nat) (u : Value) :
  (w.setCell ⟨g, i, none⟩ u).heap[g]? = some (.cells (cs.setIfInBounds i u) t (0, 0)) := by
 simp [World.setCell, Array.getElem?_modify, h]
theorem bcell {W w1 : World} (hb : Below W.heap.size W w1) : (∀ b o, b < W.heap.size → w1.cell? ⟨b, o, none⟩ = W.cell? ⟨b, o, none⟩) ∧ (∀ b o, b < W.heap.size → w1.frozen? ⟨b, o, none⟩ = W.frozen? ⟨b, o, none⟩) :=
 ⟨fun b o h => hb.cell (p := ⟨b, o, none⟩) h, fun b o h => hb.frozen (p := ⟨b, o, none⟩) h⟩
theorem heap_lt {w : World} {b : Nat} {o : Obj} (h : w.heap[b]? = some o) : b < w.heap.size := (Array.getElem?_eq_some_iff.1 h).1
def ext (F : Nat → Prop) (w w' : World) : Nat → Prop := fun i => F i ∨ (w.heap.size ≤ i ∧ i < w'.heap.size)
structure Only (F : Nat → Prop) (w w' : World) : Prop where
 os : w'.os = w.os
 tape : w'.tape = w.tape
 output : w'.output = w.output
 size : w.heap.size ≤ w'.heap.size
 block : ∀ k, k < w.heap.size → ¬ F k → w'.heap[k]? = w.heap[k]?
section
variable {F G : Nat → Prop} {w w' a b c : World}
theorem Only.refl (F : Nat → Prop) (w : World) : Only F w w := ⟨rfl, rfl, rfl, Nat.le_refl _, fun _ _ _ => rfl⟩
theorem Only.of_below (h : Below w.heap.size w w') : Only F w w' := ⟨h.os, h.tape, h.output, h.size, fun k hk _ => h.block k hk⟩
theorem Only.below {B : Nat} (h : Only F w w') (hB : B ≤ w.heap.size) (hF : ∀ i, F i → B ≤ i) : Below B w w' :=
 ⟨h.os, h.tape, h.output, h.size, fun k hk => h.block k (by omega) (fun hf => by have := hF k hf; omega)⟩
theorem Only.to_below {B : Nat} (h : Only F w w') (hB : B ≤ w.heap.size) (hF : ∀ i, F i → i < w.heap.size → B ≤ i) : Below B w w' :=
 ⟨h.os, h.tape, h.output, h.size, fun k hk => h.block k (by omega) (fun hf => by have := hF k hf (by omega); omega)⟩
theorem Only.trans (h : Only F a b) (k : Only (ext F a b) b c) : Only F a c :=
 ⟨k.os.trans h.os, k.tape.trans h.tape, k.output.trans h.output, Nat.le_trans h.size k.size, fun i hi hf => (k.block i (Nat.lt_of_lt_of_le hi h.size) (fun e => by
  rcases e with e | e
  ·exact hf e
  ·omega)).trans (h.block i hi hf)⟩
theorem Only.trans' (h : Only F a b) (k : Only F b c) : Only F a c :=
 ⟨k.os.trans h.os, k.tape.trans h.tape, k.output.trans h.output, Nat.le_trans h.size k.size, fun i hi hf => (k.block i (Nat.lt_of_lt_of_le hi h.size) hf).trans (h.block i hi hf)⟩
theorem Only.mono (h : Only F a b) (hF : ∀ i, i < a.heap.size → F i → G i) : Only G a b :=
 ⟨h.os, h.tape, h.output, h.size, fun k hk hg => h.block k hk (fun hf => hg (hF k hk hf))⟩
theorem Only.setCell (w : World) {b : Nat} (hb : F b) (i : Nat) (u : Value) : Only F w (w.setCell ⟨b, i, none⟩ u) :=
 ⟨rfl, rfl, rfl, by simp [World.setCell], fun k _ hf => Below.heap_setCell w _ u k (fun e => hf (by rw [e]; exact hb))⟩
theorem Only.grown {row : Option Nat} (hg : w.grownBy w' row) (hr : ∀ r, row = some r → F r) : Only F w w' :=
 ⟨hg.os, hg.tape, hg.output, hg.size, fun k hk hf => hg.block k hk (fun e => hf (hr k e.symm))⟩
theorem Only.alloc (w : World) (o : Obj) : Only F w (w.alloc o) := Only.of_below ((Below.refl _ w).alloc (Nat.le_refl _) o)
theorem Only.drew (h : Only F a b) : Only F a b.drew := ⟨h.os, h.tape, h.output, h.size, h.block⟩
theorem below_drewN {B : Nat} (h : Below B a w) (n : Nat) : Below B a (w.drewN n) := ⟨h.os, h.tape, h.output, h.size, h.block⟩
theorem Only.drewN (h : Only F a b) (n : Nat) : Only F a (b.drewN n) := ⟨h.os, h.tape, h.output, h.size, h.block⟩
end
def RowF (w : World) (F : Nat → Prop) (e : TypeId) (size : Nat) (v : Value) (n : Nat) (xs : List Value) : Prop := w.ownsRow 0 e size v n xs ∧ ∀ k, v.ownBlock = some k → F k
section
variable {w w' : World} {F G : Nat → Prop} {e : TypeId} {size n : Nat} {v : Value} {xs : List Value}
theorem RowF.mono (h : RowF w F e size v n xs) (hF : ∀ i, F i → G i) : RowF w G e size v n xs := ⟨h.1, fun k hk => hF k (h.2 k hk)⟩
theorem row_keep (h : w.ownsRow 0 e size v n xs) (hk : ∀ j, v.ownBlock = some j → w'.heap[j]? = w.heap[j]?) : w'.ownsRow 0 e size v n xs := by
 refine ⟨h.1, h.2.imp id fun ⟨g, cap, cur, h1, h2, h3, h4⟩ => ⟨g, cap, cur, h1, h2, ?_, h4⟩⟩
 exact (hk g (by rw [h1]; rfl)).trans h3
theorem RowF.keep (h : RowF w F e size v n xs) (hk : ∀ j, v.ownBlock = some j → w'.heap[j]? = w.heap[j]?) : RowF w' F e size v n xs := ⟨row_keep h.1 hk, h.2⟩
theorem row_blk (h : w.ownsRow 0 e size v n xs) {k : Nat} (hk : v.ownBlock = some k) : ∃ cs, w.heap[k]? = some (.cells cs e (0, 0)) := by
 rcases h.2 with ⟨rfl, -⟩ | ⟨g, cap, cur, rfl, h1, h2, -⟩
 ·simp [Value.ownBlock] at hk
 ·simp [Value.ownBlock] at hk
  subst hk
  exact ⟨cur, h2⟩
theorem row_lt (h : w.ownsRow 0 e size v n xs) {k : Nat} (hk : v.ownBlock = some k) : k < w.heap.size := by
 obtain ⟨cs, h⟩ := row_blk h hk
 exact heap_lt h
theorem row_form (h : w.ownsRow 0 e size v n xs) : (v = .slice none 0 0 ∧ n = 0) ∨ ∃ g cap, v = .slice (some ⟨g, 0, none⟩) n cap ∧ n ≤ cap ∧ cap ≤ maxLen ∧ v.ownBlock = some g := by
 rcases h.2 with ⟨h', h0⟩ | ⟨g, cap, cur, h', h1, h2, h3, h4, h5⟩
 ·exact .inl ⟨h', h0⟩
 ·exact .inr ⟨g, cap, h', h3, h4, by rw [h']; rfl⟩
theorem row_zero {base : Nat} (h : w.ownsRow base e size v n xs) : w.ownsRow 0 e size v n xs := ⟨h.1, h.2.imp id fun ⟨g, cap, cur, h1, _, h3⟩ => ⟨g, cap, cur, h1, Nat.zero_le _, h3⟩⟩
theorem row_slice (h : w.ownsRow 0 e size v n xs) : ∃ A c, v = .slice A n c ∧ n ≤ c ∧ c ≤ maxLen := by
 rcases row_form h with ⟨rfl, rfl⟩ | ⟨g, cap, rfl, h1, h2, -⟩
 ·exact ⟨none, 0, rfl, Nat.le_refl _, by simp [maxLen]⟩
 ·exact ⟨_, _, rfl, h1, h2⟩
theorem row_cell {g c : Nat} (h : w.ownsRow 0 e size (.slice (some ⟨g, 0, none⟩) n c) n xs) (j : Nat) (u : Value) (hj : xs[j]? = some u) : w.cell? ⟨g, j, none⟩ = some u := by
 have := h.cells (g := g) rfl j u hj
 have e : (⟨g, 0, none⟩ : Addr).add j = ⟨g, j, none⟩ := by unfold Addr.add; split <;> simp_all
 rwa [e] at this
end
structure App (w : World) (e : TypeId) (size n : Nat) (v : Value) (xs : List Value) (v' : Value) (w' : World) : Prop where
 own : w'.ownsRow 0 e size v' n xs
 grown : w.grownBy w' v.ownBlock
 lies : v'.ownBlock = v.ownBlock ∨ v'.ownBlock = some w.heap.size
theorem App.only {w w' : World} {e : TypeId} {size n : Nat} {v v' : Value} {xs : List Value} (h : App w e size n v xs v' w') : Only (fun k => v.ownBlock = some k) w w' := Only.grown h.grown (fun _ e => e)
theorem App.row {w w' : World} {F : Nat → Prop} {e : TypeId} {size n : Nat} {v v' : Value} {xs : List Value} (h : App w e size n v xs v' w') (hF : ∀ k, v.ownBlock = some k → F k) : RowF w' (ext F w w') e size v' n xs :=
 ⟨h.own, fun k hk => by
  have hl := row_lt h.own hk
  rcases h.lies with h | h
  ·exact .inl (hF k (h ▸ hk))
  ·rw [hk] at h
   cases h
   exact .inr ⟨Nat.le_refl _, hl⟩⟩
theorem step_app {P : Program} {ops : Array Oper} {o : Oper} {a : Act} {w : World} {K : Act → World → Prop} {Q : Exit → Act → World → Prop} {E : Prop} (hg : o.guard = none) (s x : Operand) (t : TypeId)
  (hop : o.op = Op.call { callee := Callee.builtin Builtin.append, args := #[s, x], argTypes := #[t, t] }) (v u : Value) (hs : a.eval s = v) (hx : a.eval x = u) (R : Value → World → Prop)
  (hrun : ∃ v' w', (Builtin.append_ #[t, t] o.type #[v, u]).run P w = .ok v' w' ∧ R v' w') (hK : ∀ v' w', R v' w' → K (a.put o.dst v') w') :
  if Region.wanted o (yielded ops a.tmps) = true then Oper.wp P o a w K Q else E := by
 have hw : Region.wanted o (yielded ops a.tmps) = true := by simp [Region.wanted, hg]
 rw [if_pos hw]
 obtain ⟨v', w', hr, h2⟩ := hrun
 unfold Oper.wp execOp
 simp only [hop, resolve, invoke, builtin, Sem.run_bind, Sem.run_pure, Result.andThen_ok, List.map_toArray, List.map_cons, List.map_nil, hs, hx, hr]
 exact hK _ _ h2
theorem wl_app {P : Program} {ops : Array Oper} {rest : List Oper} {o : Oper} {a : Act} {w : World} {Q : Exit → Act → World → Prop} (hg : o.guard = none) (s x : Operand) (t : TypeId)
  (hop : o.op = Op.call { callee := Callee.builtin Builtin.append, args := #[s, x], argTypes := #[t, t] }) (v u : Value) (hs : a.eval s = v) (hx : a.eval x = u) (R : Value → World → Prop)
  (hrun : ∃ v' w', (Builtin.append_ #[t, t] o.type #[v, u]).run P w = .ok v' w' ∧ R v' w') (hK : ∀ v' w', R v' w' → wpList P ops Q rest (a.put o.dst v') w') :
  wpList P ops Q (o :: rest) a w := by
 refine wpList_plain hg fun K hK' => ?_
 obtain ⟨v', w', hr, h2⟩ := hrun
 unfold Oper.wp execOp
 simp only [hop, resolve, invoke, builtin, Sem.run_bind, Sem.run_pure, Result.andThen_ok, List.map_toArray, List.map_cons, List.map_nil, hs, hx, hr]
 exact hK' _ _ (hK _ _ h2)
theorem add_mid (g j : Nat) : (⟨g, 0, none⟩ : Addr).add j = ⟨g, j, none⟩ := by unfold Addr.add; split <;> simp_all
end
section
open Go.RowKit Go.Proofs
theorem letterB_iff (c : UInt8) : letterB c = true ↔ (97 ≤ c.toNat ∧ c.toNat ≤ 122) ∨ (65 ≤ c.toNat ∧ c.toNat ≤ 90) ∨ c.toNat = 95 ∨ c.toNat = 36 := by
 simp [letterB, UInt8.le_iff_toNat_le, ← UInt8.toNat_inj]
 omega
theorem digitB_iff (c : UInt8) : digitB c = true ↔ 48 ≤ c.toNat ∧ c.toNat ≤ 57 := by
 simp [digitB, UInt8.le_iff_toNat_le]
theorem noEndB_iff (c : UInt8) : noEndB c = true ↔ c.toNat ≠ 10 := by
 simp [noEndB, ← UInt8.toNat_inj]
theorem ret_i {k : IntKind} {a b : Int} (h : a = b) : Ending.returned (.int k a) = .returned (.int k b) := by rw [h]
theorem len_toList (s : ByteArray) : s.data.toList.length = s.size := by rw [Array.length_toList]; rfl
theorem get_toList (s : ByteArray) (k : Nat) (h : k < s.size) : s.data.toList[k]? = some s[k] := by
 rw [List.getElem?_eq_getElem (by rw [len_toList]; exact h)]; rfl
theorem drop_toList (s : ByteArray) (k : Nat) (h : k < s.size) : s.data.toList.drop k = s[k] :: s.data.toList.drop (k + 1) := by
 rw [List.drop_eq_getElem_cons (by rw [len_toList]; exact h)]; rfl
theorem runL_stop (p : UInt8 → Bool) : ∀ (k : Nat) (l : Bs), (∀ c ∈ l.take k, p c = true) → (∀ c, (l.drop k).head? = some c → p c = false) → k ≤ l.length → runL p l = k
 | 0, [], _, _, _ => rfl
 | 0, c :: r, _, h, _ => by
  have := h c rfl
  simp [runL, this]
 | k + 1, [], _, _, h => by simp at h
 | k + 1, c :: r, h1, h2, h3 => by
  have hc := h1 c (by simp)
  have := runL_stop p k r (fun x hx => h1 x (by simp [hx])) (fun x hx => h2 x (by simpa using hx)) (by simpa using h3)
  unfold runL at *
  rw [List.takeWhile_cons, if_pos hc, List.length_cons, this]
theorem runL_at (p : UInt8 → Bool) (s : ByteArray) (k : Nat) (hk : k < s.size) (h : ∀ c ∈ s.data.toList.take k, p c = true) (hp : p s[k] = false) : (k : Int) = runL p s.data.toList := by
 rw [runL_stop p k _ h (fun c hc => by
  rw [drop_toList s k hk] at hc
  obtain rfl : s[k] = c := by simpa using hc
  exact hp) (by rw [len_toList]; omega)]
theorem runL_all (p : UInt8 → Bool) (s : ByteArray) (k : Nat) (hk : k ≤ s.size) (hk2 : ¬ k < s.size) (h : ∀ c ∈ s.data.toList.take k, p c = true) : (s.size : Int) = runL p s.data.toList := by
 obtain rfl : k = s.size := by omega
 rw [runL_stop p s.size _ h (fun c hc => by
  rw [List.drop_eq_nil_of_le (by rw [len_toList]; omega)] at hc
  cases hc) (by rw [len_toList]; omega)]
theorem runL_le (p : UInt8 → Bool) (l : Bs) : runL p l ≤ l.length := by
 unfold runL; exact (List.takeWhile_prefix p).length_le
theorem take_snoc (s : ByteArray) (k : Nat) (h : k < s.size) : s.data.toList.take (k + 1) = s.data.toList.take k ++ [s[k]] := by
 rw [List.take_succ_eq_append_getElem (by simpa using h)]; rfl
def bs (l : Bs) : ByteArray := ⟨l.toArray⟩
theorem bs_list (l : Bs) : (bs l).data.toList = l := by simp [bs]
theorem bs_of (s : ByteArray) : bs s.data.toList = s := by simp [bs]
theorem bs_size (l : Bs) : (bs l).size = l.length := by rw [← len_toList, bs_list]
theorem runL_all_such (p : UInt8 → Bool) (l : Bs) (h : ∀ c ∈ l, p c = true) : runL p l = l.length := by
 exact runL_stop p l.length l (fun c hc => h c (by rwa [List.take_length] at hc)) (fun c hc => by rw [List.drop_length] at hc; cases hc) (Nat.le_refl _)
def Drewn (w w' : World) : Prop := ∃ k, w' = w.drewN k
theorem Drewn.below {w w' : World} (h : Drewn w w') : Below w.heap.size w w' := by
 obtain ⟨k, rfl⟩ := h
 exact ⟨rfl, rfl, rfl, Nat.le_refl _, fun _ _ => rfl⟩
end
def shapesL : List (Int × Int × Int × Int × Int) :=
  [(1, 3, 0, 0, 0),
   (2, 0, 999999999999999, 0, 0),
   (3, 1, 0, 0, 0),
   (4, 0, 0, 0, 0),
   (5, 0, 0, 0, 0),
   (6, 0, 0, 0, 0),
   (7, 0, 0, 0, 0),
   (8, 0, 0, 0, 0),
   (9, 0, 0, 0, 0),
   (10, 4, 0, 1, 201),
   (11, 0, 0, 0, 200),
   (12, 1, 0, 1, 1),
   (13, 5, 0, 1, 1),
   (14, 0, 0, 2, 2),
   (15, 0, 0, 1, 200),
   (16, 0, 0, 1, 200),
   (17, 0, 0, 2, 2),
   (18, 2, 0, 2, 2),
   (19, 0, 0, 1, 1),
   (20, 0, 0, 1, 1),
   (21, 0, 0, 2, 2),
   (22, 0, 0, 2, 2),
   (23, 0, 0, 3, 3),
   (30, 3, 0, 0, 1),
   (31, 0, 0, 1, 1),
   (32, 0, 0, 0, 9223372036854775807),
   (33, 0, 0, 2, 3),
   (34, 0, 0, 2, 2),
   (35, 3, 0, 2, 2),
   (36, 0, 0, 0, 1),
   (37, 0, 0, 1, 1),
   (38, 3, 0, 2, 2),
   (39, 0, 0, 0, 0),
   (40, 0, 0, 0, 0),
   (41, 3, 0, 1, 201)]
def shapeIn (l : List (Int × Int × Int × Int × Int)) (op : Int) : Option (Int × Int × Int × Int) := (l.find? (fun p => decide (p.1 = op))).map (·.2)
def shapeOf (op : Int) : Option (Int × Int × Int × Int) := shapeIn shapesL.reverse op
def signsB : List Bs := [[43], [45], [42], [60], [60, 61], [61, 61, 61], [33, 61, 61]]
def allowsB (w : Int) (s : Bs) : Bool :=
 if w = 1 then true else if w = 2 then signsB.contains s else if w = 4 then (s.isEmpty || isNameL s) else if w = 5 then (isWordL s || isNameL s) else if w = 3 then isNameL s else s.isEmpty
def hasB (g op : Int) : Bool :=
 if g = 1 then decide (30 ≤ op) && decide (op ≤ 41) else if g = 2 then decide (op = 32) else if g = 3 then decide (op = 12)
 else if g = 5 then (decide (op = 13) || (decide (op = 14) || decide (op = 1))) else if g = 4 then decide (op = 1) else decide (1 ≤ op) && (decide (op ≤ 23) && !decide (op = 12))
def wantedB (op i count : Int) : Int :=
 if op = 11 then 3 else if op = 32 then 1 else if op = 17 then (if i = 0 then 5 else 0) else if op = 33 ∨ op = 34 ∨ op = 35 then (if 0 < i then 2 else 0)
 else if op = 10 ∨ op = 41 then (if i < count - 1 then 4 else 2) else if op = 38 then 2 else 0
def partsB (op count : Int) : Int → List Tr → Bool
 | _, [] => true
 | i, t :: r => hasB (wantedB op i count) t.op && partsB op count (i + 1) r
def fitsB (s : Int × Int × Int × Int) (t : Tr) : Bool :=
 allowsB s.1 t.s && (decide (0 ≤ t.n) && (decide (t.n ≤ s.2.1) && (decide (s.2.2.1 ≤ t.l.length) && (decide ((t.l.length : Int) ≤ s.2.2.2) && partsB t.op t.l.length 0 t.l))))
def soundOne (t : Tr) : Bool := match shapeOf t.op with
 | none => false
 | some s => fitsB s t
def goodB (p : Tr × Nat) : Bool := soundOne p.1 && decide (p.2 ≤ 100)
def soundT (t : Tr) : Bool := (t.levels 1).all goodB
def rightP (t : Tr) : Bool := hasB 2 t.op && soundT t
theorem partsB_get : ∀ {op count : Int} (l : List Tr) (i : Int), partsB op count i l = true ↔ ∀ (k : Nat) t, l[k]? = some t → hasB (wantedB op (i + k) count) t.op = true
 | op, count, [], i => by simp [partsB]
 | op, count, a :: r, i => by
  rw [partsB, Bool.and_eq_true, partsB_get r (i + 1)]
  constructor
  ·rintro ⟨h1, h2⟩ k t hk
   cases k with
   | zero => simp at hk; subst hk; simpa using h1
   | succ k =>
    have := h2 k t (by simpa using hk)
    rw [show i + 1 + (k : Int) = i + ((k + 1 : Nat) : Int) by omega] at this
    exact this
  ·intro h
   refine ⟨by simpa using h 0 a rfl, fun k t hk => ?_⟩
   have := h (k + 1) t (by simpa using hk)
   rw [show i + 1 + (k : Int) = i + ((k + 1 : Nat) : Int) by omega]
   exact this
def halfM (c : UInt8) : Int := if digitB c then (c.toNat : Int) - 48 else if 97 ≤ c.toNat ∧ c.toNat ≤ 102 then (c.toNat : Int) - 87 else -1
def escapeM : Bs → UInt8 × Nat
 | _ :: c :: r =>
  if c = 110 then (10, 2) else if c = 116 then (9, 2) else if c = 92 ∨ c = 34 ∨ c = 39 then (c, 2)
  else if c = 120 then match r with
   | a :: b :: _ => if 0 ≤ halfM a ∧ 0 ≤ halfM b then (UInt8.ofNat (16 * halfM a + halfM b).toNat, 4) else (0, 0)
   | _ => (0, 0)
  else (0, 0)
 | _ => (0, 0)
def textM (q : UInt8) : Nat → Bs → Bs → Nat → Option (Bs × Nat)
 | 0, _, _, _ => none
 | _ + 1, [], _, _ => none
 | f + 1, c :: r, out, i =>
  if c = q then some (out, i + 1)
  else if c.toNat < 32 ∨ 126 < c.toNat then none
  else if c ≠ 92 then textM q f r (out ++ [c]) (i + 1)
  else match escapeM (c :: r) with
   | (_, 0) => none
   | (b, n + 1) => textM q f (r.drop n) (out ++ [b]) (i + (n + 1))
def sign3 : List Bs := [[61, 61, 61], [33, 61, 61]]
def sign2 : List Bs := [[60, 61], [38, 38], [124, 124]]
def sign1 : List UInt8 := [123, 125, 40, 41, 91, 93, 46, 59, 44, 58, 63, 60, 61, 33, 43, 45, 42, 47]
def signM (s : Bs) : Nat := if s.take 3 ∈ sign3 then 3 else if s.take 2 ∈ sign2 then 2 else if s.headD 0 ∈ sign1 then 1 else 0
def valM (n : Nat) (l : Bs) : Nat := l.foldl (fun n c => 10 * n + (c.toNat - 48)) n
def numberM (s : Bs) : Option Nat := if 15 < s.length ∨ (1 < s.length ∧ s.headD 0 = 48) then none else some (valM 0 s)
def oneM (s : Bs) : Except Int (Tok × Nat) :=
 let c := s.headD 0
 if letterB c then
  let n := runL nameB s
  .ok (⟨if isWordL (s.take n) then 2 else 1, s.take n, 0, 0, false⟩, n)
 else if digitB c then
  let k := runL digitB s
  if (s.drop k).head? = some 46 then .error 25
  else match numberM (s.take k) with
   | none => .error 24
   | some n => if runL nameB s ≠ k then .error 24 else .ok (⟨3, [], n, 0, false⟩, k)
 else if c = 34 ∨ c = 39 then
  match textM c (s.length + 1) (s.drop 1) [] 1 with
  | none => .error 22
  | some (t, n) => .ok (⟨4, t, 0, 0, false⟩, n)
 else if signM s = 0 then .error 21 else .ok (⟨5, s.take (signM s), 0, 0, false⟩, signM s)
def closeM : Bs → Nat → Option Nat
 | [], _ => none
 | [_], _ => none
 | a :: b :: r, i => if a = 42 ∧ b = 47 then some (i + 2) else closeM (b :: r) (i + 1)
def blankM (s : Bs) : Option Nat :=
 let c := s.headD 0
 if c = 32 ∨ c = 9 ∨ c = 13 ∨ c = 10 then some 1
 else match s with
  | 47 :: 47 :: r => some (2 + runL noEndB r)
  | 47 :: 42 :: r => closeM r 2
  | _ => some 0
def lexM : Nat → Bs → Nat → Bool → List Tok → List Tok × Int × Int
 | 0, _, _, _, out => (out, 0, 0)
 | _ + 1, [], _, _, out => (out, 0, 0)
 | f + 1, c :: r, line, nl, out =>
  match blankM (c :: r) with
  | none => ([], line, 23)
  | some (n + 1) => lexM f (r.drop n) (line + ((c :: r).take (n + 1)).count 10) (nl || ((c :: r).take (n + 1)).contains 10) out
  | some 0 =>
   match oneM (c :: r) with
   | .error e => ([], line, e)
   | .ok (t, k) => if out.length = 20000 then ([], line, 20) else lexM f ((c :: r).drop k) line false (out ++ [⟨t.kind, t.s, t.n, line, nl⟩])
end Go.Proofs.Ytbpodijcndglgaa
