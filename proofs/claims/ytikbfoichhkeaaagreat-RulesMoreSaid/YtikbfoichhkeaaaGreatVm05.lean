/- Trees as they lie in memory. gumshoelaw03.size, Small, id. What all laws' rows share: a tree that comes in. -/
import Derived.StillTailTactics
import Derived.Test.YtikbfoichhkeaaaGreatProg
import Derived.Test.YtikbfoichhkeaaaGreatRows
import Derived.WalkKit
import Derived.ProofKit
import Derived.OpenShut
import Derived.ShutString
import Derived.ChangeOld
import Derived.Below
import Derived.Lib.SmallJoins
import Derived.Deep.Slices
import Derived.Deep.Fields
import Derived.Carry
import Derived.Test.YtikbfoichhkeaaaGreatVm01
set_option linter.unusedSimpArgs false
set_option linter.unusedVariables false
set_option maxRecDepth 100000
set_option maxHeartbeats 40000000
namespace Go.Proofs.YtikbfoichhkeaaaGreat
section
open Go.RowKit Go.Proofs
def Fine (o : Int) (s : Bs) (n : Int) : Prop := s.length ≤ maxLen ∧ (-9223372036854775808 ≤ o ∧ o ≤ 9223372036854775807) ∧ (-9223372036854775808 ≤ n ∧ n ≤ 9223372036854775807)
def nodeV (t : Tr) (v : Value) : Value := .agg #[.int .i64 t.op, .string (bs t.s), .int .i64 t.n, v, .int .i64 t.line]
mutual
def At (W : World) (n : Nat) : Tr → Value → Prop
 | .mk o s k i l, v => ∃ A cap, v = nodeV (.mk o s k i l) (.slice A l.length cap) ∧ (l.length ≤ cap ∧ cap ≤ maxLen ∧ Fine o s k) ∧ (0 < l.length → ∃ g off, A = some ⟨g, off, none⟩ ∧ g < n ∧ AtL W n g off l)
def AtL (W : World) (n g : Nat) : Nat → List Tr → Prop
 | _, [] => True
 | off, t :: r => (∃ v, At W n t (nodeV t v) ∧ W.cell? ⟨g, off, none⟩ = some (.int .i64 t.op) ∧ W.cell? ⟨g, off + 1, none⟩ = some (.string (bs t.s)) ∧ W.cell? ⟨g, off + 2, none⟩ = some (.int .i64 t.n) ∧ W.cell? ⟨g, off + 3, none⟩ = some v ∧ W.cell? ⟨g, off + 4, none⟩ = some (.int .i64 t.line)) ∧ AtL W n g (off + 5) r
end
def Row (W : World) (n : Nat) (l : List Tr) (v : Value) : Prop :=
 ∃ A cap, v = .slice A l.length cap ∧ (l.length ≤ cap ∧ cap ≤ maxLen) ∧ (0 < l.length → ∃ g off, A = some ⟨g, off, none⟩ ∧ g < n ∧ AtL W n g off l)
theorem At_iff (W : World) (n : Nat) (t : Tr) (v : Value) : At W n t v ↔ ∃ u, v = nodeV t u ∧ Row W n t.l u ∧ Fine t.op t.s t.n := by
 cases t with | mk o s k i l =>
 rw [At]
 unfold Row
 constructor
 ·rintro ⟨A, cap, rfl, ⟨h1, h2, h3⟩, h4⟩
  exact ⟨_, rfl, ⟨A, cap, rfl, ⟨h1, h2⟩, h4⟩, h3⟩
 ·rintro ⟨u, rfl, ⟨A, cap, rfl, ⟨h1, h2⟩, h4⟩, h3⟩
  exact ⟨A, cap, rfl, ⟨h1, h2, h3⟩, h4⟩
theorem AtL_nil (W : World) (n g off : Nat) : AtL W n g off [] := by rw [AtL]; trivial
theorem AtL_cons (W : World) (n g off : Nat) (t : Tr) (r : List Tr) : AtL W n g off (t :: r) ↔ (∃ v, At W n t (nodeV t v) ∧ W.cell? ⟨g, off, none⟩ = some (.int .i64 t.op) ∧ W.cell? ⟨g, off + 1, none⟩ = some (.string (bs t.s)) ∧ W.cell? ⟨g, off + 2, none⟩ = some (.int .i64 t.n) ∧ W.cell? ⟨g, off + 3, none⟩ = some v ∧ W.cell? ⟨g, off + 4, none⟩ = some (.int .i64 t.line)) ∧ AtL W n g (off + 5) r := by
 rw [AtL]
mutual
theorem At.keep : ∀ {W W' : World} {n n' : Nat} (t : Tr) {v : Value}, At W n t v → n ≤ n' → (∀ p : Addr, p.block < n → W'.cell? p = W.cell? p) → At W' n' t v
 | W, W', n, n', .mk o s k i l, v, h, hn, hk => by
  rw [At] at h ⊢
  obtain ⟨A, cap, rfl, h1, h2⟩ := h
  refine ⟨A, cap, rfl, h1, fun hl => ?_⟩
  obtain ⟨g, off, rfl, hg, ha⟩ := h2 hl
  exact ⟨g, off, rfl, by omega, AtL.keep l ha hg hn hk⟩
theorem AtL.keep : ∀ {W W' : World} {n n' g off : Nat} (l : List Tr), AtL W n g off l → g < n → n ≤ n' → (∀ p : Addr, p.block < n → W'.cell? p = W.cell? p) → AtL W' n' g off l
 | W, W', n, n', g, off, [], _, _, _, _ => AtL_nil _ _ _ _
 | W, W', n, n', g, off, t :: r, h, hg, hn, hk => by
  rw [AtL_cons] at h ⊢
  obtain ⟨⟨v, h0, h1, h2, h3, h4, h5⟩, h6⟩ := h
  exact ⟨⟨v, At.keep t h0 hn hk, (hk _ hg).trans h1, (hk _ hg).trans h2, (hk _ hg).trans h3, (hk _ hg).trans h4, (hk _ hg).trans h5⟩, AtL.keep r h6 hg hn hk⟩
end
theorem Row.keep {W W' : World} {n n' : Nat} {l : List Tr} {v : Value} (h : Row W n l v) (hn : n ≤ n') (hk : ∀ p : Addr, p.block < n → W'.cell? p = W.cell? p) : Row W' n' l v := by
 obtain ⟨A, cap, rfl, h1, h2⟩ := h
 refine ⟨A, cap, rfl, h1, fun hl => ?_⟩
 obtain ⟨g, off, rfl, hg, ha⟩ := h2 hl
 exact ⟨g, off, rfl, by omega, AtL.keep l ha hg hn hk⟩
theorem Row.below {W W' : World} {n : Nat} {l : List Tr} {v : Value} (h : Row W n l v) (hb : Below n W W') : Row W' n l v := h.keep (Nat.le_refl _) fun _ hp => hb.cell hp
theorem At.below {W W' : World} {n : Nat} {t : Tr} {v : Value} (h : At W n t v) (hb : Below n W W') : At W' n t v := At.keep t h (Nat.le_refl _) fun _ hp => hb.cell hp
theorem AtL.get : ∀ {W : World} {n g off : Nat} (l : List Tr) (k : Nat) (t : Tr), AtL W n g off l → l[k]? = some t →
  ∃ v, At W n t (nodeV t v) ∧ W.cell? ⟨g, off + k * 5, none⟩ = some (.int .i64 t.op) ∧ W.cell? ⟨g, off + k * 5 + 1, none⟩ = some (.string (bs t.s)) ∧ W.cell? ⟨g, off + k * 5 + 2, none⟩ = some (.int .i64 t.n) ∧ W.cell? ⟨g, off + k * 5 + 3, none⟩ = some v ∧ W.cell? ⟨g, off + k * 5 + 4, none⟩ = some (.int .i64 t.line)
 | W, n, g, off, [], k, t, h, hk => by simp at hk
 | W, n, g, off, a :: r, 0, t, h, hk => by
  obtain rfl : a = t := by simpa using hk
  rw [AtL_cons] at h
  simpa using h.1
 | W, n, g, off, a :: r, k + 1, t, h, hk => by
  rw [AtL_cons] at h
  have := AtL.get r k t h.2 (by simpa using hk)
  have e : off + 5 + k * 5 = off + (k + 1) * 5 := by omega
  rwa [e] at this
end
section
open Go.RowKit Go.Proofs
theorem sizes_take_succ {l : List Tr} {k : Nat} {x : Tr} (h : l[k]? = some x) : sizes (l.take (k + 1)) = sizes (l.take k) + x.size := by
 rw [List.take_add_one, h, sizes_app]
 simp [sizes_cons, sizes_nil]
theorem sizes_take_le (l : List Tr) (k : Nat) : sizes (l.take k) ≤ sizes l := by
 have := sizes_app (l.take k) (l.drop k)
 rw [List.take_append_drop] at this
 omega
def leftOf (left : Int) (n : Nat) : Int := max (left - n) (-1)
theorem leftOf_range {left : Int} {n : Nat} (h0 : 0 ≤ left) (h1 : left ≤ 1500) : -1 ≤ leftOf left n ∧ leftOf left n ≤ 1500 := by
 unfold leftOf; omega
theorem size_any (t : Tr) : ∀ (v : Value) (w : World) (left : Int), At w w.heap.size t v → 0 ≤ left → left ≤ 1500 →
  Calls Tryz.prog 23 #[v, .int .i64 left] w fun e w' => e = .returned (.int .i64 (leftOf left t.size)) ∧ Below w.heap.size w w' := by
 refine tree_ind (P := fun t => ∀ (v : Value) (w : World) (left : Int), At w w.heap.size t v → 0 ≤ left → left ≤ 1500 →
  Calls Tryz.prog 23 #[v, .int .i64 left] w fun e w' => e = .returned (.int .i64 (leftOf left t.size)) ∧ Below w.heap.size w w') ?_ t
 clear t
 intro t ih v w left ht hl0 hl1
 have IH := Lib.hid (fun u (hu : u ∈ t.l) => ih u (size_part hu))
 clear ih
 rw [At_iff] at ht
 obtain ⟨u, rfl, ⟨A, cap, rfl, hc, ha⟩, hs⟩ := ht
 have HA := Lib.hid ha
 have HZ := Lib.hid (size_eq t)
 unfold nodeV
 obtain ⟨l, el⟩ : ∃ x, t.l = x := ⟨_, rfl⟩
 obtain ⟨z, ez⟩ : ∃ x, t.size = x := ⟨_, rfl⟩
 rw [el] at HA IH HZ hc ⊢
 rw [ez] at HZ ⊢
 unfold maxLen at hc
 clear el ez ha hs
 obtain ⟨len, en⟩ : ∃ k, l.length = k := ⟨_, rfl⟩
 have HL := Lib.hid en
 rw [en] at HA hc ⊢
 clear en
 go_enter Tryz.func23, Tryz.ntmps23
 go_wp2
 obtain ⟨w2, hw2⟩ : ∃ x, (w.alloc (.cells #[.int .i64 t.op, .string (bs t.s), .int .i64 t.n, .slice A len cap, .int .i64 t.line] 24)) = x := ⟨_, rfl⟩
 obtain ⟨hsz, hbel, c1⟩ : w2.heap.size = w.heap.size + 1 ∧ Below w.heap.size w w2 ∧ w2.cell? ⟨w.heap.size, 3, none⟩ = some (.slice A len cap) := by
  subst hw2
  exact ⟨by simp, (Below.refl _ w).alloc (Nat.le_refl _) _, by go_simp⟩
 rw [hw2]
 clear hw2
 go_loopw [5, 1] (fun i y wr => ∃ k : Nat, k ≤ len ∧ i = .int .i64 k ∧ y = .int .i64 (leftOf left (1 + sizes (l.take k))) ∧ Below w2.heap.size w2 wr) (fun i _ _ => len - (intOf i).toNat)
 case atStart => exact ⟨0, Nat.zero_le _, rfl, by rw [show leftOf left (1 + sizes (l.take 0)) = left - 1 by rw [List.take_zero, sizes_nil]; unfold leftOf; omega], Below.refl _ _⟩
 case round =>
  obtain ⟨k, hk, rfl, rfl, hB⟩ := hrel
  have d1 := (hB.cell (p := ⟨w.heap.size, 3, none⟩) (by simp; omega)).trans c1
  have hbw := hbel.trans (hB.mono (by omega))
  obtain ⟨y, ey⟩ : ∃ y, leftOf left (1 + sizes (l.take k)) = y := ⟨_, rfl⟩
  have hy := leftOf_range (n := 1 + sizes (l.take k)) hl0 hl1
  have HT := Lib.hid (sizes_take_le l k)
  rw [ey] at hy ⊢
  have HY := Lib.hid ey
  clear ey
  obtain ⟨hy0, hy1⟩ := hy
  by_cases hlt : k < len
  ·by_cases hy2 : 0 ≤ y
   ·obtain ⟨ga, fa, rfl, hga, HA⟩ := HA.out (by omega)
    obtain ⟨x, ex⟩ : ∃ x, l[k]? = some x := ⟨_, List.getElem?_eq_getElem (by rw [HL.out]; exact hlt)⟩
    obtain ⟨vx, hx, x0, x1, x2, x3, x4⟩ := AtL.get l k x (AtL.keep (W' := wr) (n' := w.heap.size) l HA hga (Nat.le_refl _) fun _ hp => hbw.cell hp) ex
    have IHk := Lib.hid (IH.out x (List.mem_of_getElem? ex) _ wr y (At.keep (n' := wr.heap.size) x hx (by have := hB.size; omega) fun _ _ => rfl) hy2 hy1)
    have HS := Lib.hid (sizes_take_succ ex)
    clear HA hx ex
    go_wp2_with (go_at_call 23; refine IHk.out.mono ?_; rintro e w' ⟨rfl, hb⟩)
    go_roundw
    case rel => exact ⟨k + 1, by omega, by go_num, by rw [HS.out, ← HY.out]; unfold leftOf; congr 1; have := HY.out; unfold leftOf at this; omega, hB.trans (hb.mono hB.size)⟩
    case measure => simp [intOf]; omega
   ·have hy3 : y = -1 := by omega
    subst hy3
    go_wp2
    go_ret
    exact ⟨ret_i (by rw [HZ.out]; have := HY.out; have := HT.out; unfold leftOf at *; omega), hbw⟩
  ·obtain rfl : k = len := by omega
   go_wp2
   go_ret
   exact ⟨ret_i (by rw [HZ.out, ← HY.out, List.take_of_length_le (by rw [HL.out]; exact Nat.le_refl _)]), hbw⟩
theorem small_any (t : Tr) (v : Value) (w : World) (ht : At w w.heap.size t v) :
  Calls Tryz.prog 10 #[v] w fun e w' => e = .returned (.int .i64 (if t.size ≤ 1500 then 1 else 0)) ∧ Below w.heap.size w w' := by
 have ht' := ht
 rw [At_iff] at ht
 obtain ⟨u, rfl, -, -⟩ := ht
 have hcall : ∀ o, Calls Tryz.prog 23 #[nodeV t u, .int .i64 1500] (w.alloc o) fun e w' => e = .returned (.int .i64 (leftOf 1500 t.size)) ∧ Below (w.alloc o).heap.size (w.alloc o) w' :=
  fun o => size_any t _ _ 1500 (At.keep (n' := (w.alloc o).heap.size) t ht' (by simp) fun p hp => World.cell?_alloc_lt w o p hp) (by omega) (by omega)
 have HC := Lib.hid hcall
 unfold nodeV at HC ⊢
 clear ht' hcall
 by_cases h : t.size ≤ 1500
 ·rw [if_pos h]
  have hy : 0 ≤ leftOf 1500 t.size := by unfold leftOf; omega
  obtain ⟨y, ey⟩ : ∃ y, leftOf 1500 t.size = y := ⟨_, rfl⟩
  rw [ey] at HC hy
  clear ey h
  go_enter Tryz.func10, Tryz.ntmps10
  go_wp2_with (go_at_call 23; refine (HC.out _).mono ?_; rintro e w' ⟨rfl, hb⟩)
  go_ret
  exact ⟨rfl, ((Below.refl _ w).alloc (Nat.le_refl _) _).trans (hb.mono (by simp))⟩
 ·rw [if_neg h]
  have hy : leftOf 1500 t.size = -1 := by unfold leftOf; omega
  rw [hy] at HC
  clear hy h
  go_enter Tryz.func10, Tryz.ntmps10
  go_wp2_with (go_at_call 23; refine (HC.out _).mono ?_; rintro e w' ⟨rfl, hb⟩)
  go_ret
  exact ⟨rfl, ((Below.refl _ w).alloc (Nat.le_refl _) _).trans (hb.mono (by simp))⟩
end
section
open Go.Joins Go.ChangeShapes Go.WideShapes Go.RowKit Go.Deep
theorem ownK : ownKnob Tryz.prog.godebug = none := by kernel_rfl
theorem row_none (w : World) (n : Nat) : Row w n [] (.slice none 0 0) := ⟨none, 0, rfl, ⟨Nat.le_refl _, by decide⟩, fun h => absurd h (by simp)⟩
theorem at_lit {w : World} {n : Nat} (t : Tr) (u : Value) (h : Row w n t.l u) (hf : Fine t.op t.s t.n) : At w n t (nodeV t u) := (At_iff _ _ _ _).2 ⟨u, rfl, h, hf⟩
theorem laidOut : laidOutB Tryz.prog = true := by kernel_rfl
theorem cells24 : Tryz.prog.cellsOf 24 = 5 := by kernel_rfl
theorem cells3 : Tryz.prog.cellsOf 3 = 1 := by kernel_rfl
theorem cells2 : Tryz.prog.cellsOf 2 = 1 := by kernel_rfl
theorem cells9 : Tryz.prog.cellsOf 9 = 1 := by kernel_rfl
theorem cells22 : Tryz.prog.cellsOf 22 = 1 := by kernel_rfl
theorem add_none (g o k : Nat) : (⟨g, o, none⟩ : Addr).add k = ⟨g, o + k, none⟩ := by
 cases k with
 | zero => rfl
 | succ k => simp [Addr.add]
def Holds (W : World) (cs : List Value) : Prop := ∃ (t : Tr) (v : Value), cs = [.int .i64 t.op, .string (bs t.s), .int .i64 t.n, v, .int .i64 t.line] ∧ At W W.heap.size t (nodeV t v)
theorem row_of {H : Type} (W : World) (g : Nat) : ∀ (ds : List (DataW H)) (off : Nat), (∀ (i : Nat) (d : DataW H), ds[i]? = some d → ∃ cs, Holds W cs ∧ ∀ j, j < 5 → W.cell? ⟨g, off + i * 5 + j, none⟩ = cs[j]?) → ∃ l : List Tr, l.length = ds.length ∧ AtL W W.heap.size g off l
 | [], off, _ => ⟨[], rfl, AtL_nil _ _ _ _⟩
 | d :: ds, off, h => by
  obtain ⟨l, hl, ha⟩ := row_of W g ds (off + 5) fun i d' hd => by
   obtain ⟨cs, h1, h2⟩ := h (i + 1) d' (by simpa using hd)
   exact ⟨cs, h1, fun j hj => by have := h2 j hj; rw [show off + (i + 1) * 5 + j = off + 5 + i * 5 + j by omega] at this; exact this⟩
  obtain ⟨cs, ⟨t, v, rfl, hat⟩, h2⟩ := h 0 d rfl
  refine ⟨t :: l, by rw [List.length_cons, List.length_cons, hl], ?_⟩
  rw [AtL_cons]
  simp only [Nat.zero_mul, Nat.add_zero] at h2
  exact ⟨⟨v, hat, h2 0 (by decide), h2 1 (by decide), h2 2 (by decide), h2 3 (by decide), h2 4 (by decide)⟩, ha⟩
variable {H : Type} {enc : TypeId × Value → H} {W : World}
theorem holds_of : ∀ (fuel : Nat) (cs : List Value) (x : DataW H × List MemPlace), DataW.trod enc Tryz.prog W 0 (fun _ => true) true fuel 24 cs = some x → Holds W cs := by
 intro fuel
 induction fuel using Nat.strongRecOn with
 | ind fuel ih =>
  intro cs x h
  obtain ⟨xs, n, rfl, hxx, hlen, hxl, hf⟩ := DataW.trod_struct Tryz.underlying24 h
  rw [cells24] at hlen
  match cs, hlen with
  | [c0, c1, c2, c3, c4], _ =>
  match xs, hxl with
  | [y0, y1, y2, y3, y4], _ =>
  have k0 : DataW.trod enc Tryz.prog W 0 (fun _ => true) true n 3 [c0] = some y0 := by
   have := hf 0 _ rfl
   change DataW.trod enc Tryz.prog W 0 (fun _ => true) true n 3 (List.take (Tryz.prog.cellsOf 3) (List.drop 0 [c0, c1, c2, c3, c4])) = [y0, y1, y2, y3, y4][0]? at this
   rw [cells3] at this
   exact this
  have k1 : DataW.trod enc Tryz.prog W 0 (fun _ => true) true n 9 [c1] = some y1 := by
   have := hf 1 _ rfl
   change DataW.trod enc Tryz.prog W 0 (fun _ => true) true n 9 (List.take (Tryz.prog.cellsOf 9) (List.drop 1 [c0, c1, c2, c3, c4])) = [y0, y1, y2, y3, y4][1]? at this
   rw [cells9] at this
   exact this
  have k2 : DataW.trod enc Tryz.prog W 0 (fun _ => true) true n 2 [c2] = some y2 := by
   have := hf 2 _ rfl
   change DataW.trod enc Tryz.prog W 0 (fun _ => true) true n 2 (List.take (Tryz.prog.cellsOf 2) (List.drop 2 [c0, c1, c2, c3, c4])) = [y0, y1, y2, y3, y4][2]? at this
   rw [cells2] at this
   exact this
  have k3 : DataW.trod enc Tryz.prog W 0 (fun _ => true) true n 22 [c3] = some y3 := by
   have := hf 3 _ rfl
   change DataW.trod enc Tryz.prog W 0 (fun _ => true) true n 22 (List.take (Tryz.prog.cellsOf 22) (List.drop 3 [c0, c1, c2, c3, c4])) = [y0, y1, y2, y3, y4][3]? at this
   rw [cells22] at this
   exact this
  have k4 : DataW.trod enc Tryz.prog W 0 (fun _ => true) true n 3 [c4] = some y4 := by
   have := hf 4 _ rfl
   change DataW.trod enc Tryz.prog W 0 (fun _ => true) true n 3 (List.take (Tryz.prog.cellsOf 3) (List.drop 4 [c0, c1, c2, c3, c4])) = [y0, y1, y2, y3, y4][4]? at this
   rw [cells3] at this
   exact this
  obtain ⟨z0, e0, u0, w0⟩ := DataW.trod_int Tryz.underlying3 k0
  obtain ⟨s1, e1, u1, w1⟩ := DataW.trod_string Tryz.underlying9 k1
  obtain ⟨z2, e2, u2, w2⟩ := DataW.trod_int Tryz.underlying2 k2
  obtain ⟨z4, e4, u4, w4⟩ := DataW.trod_int Tryz.underlying3 k4
  obtain ⟨rfl⟩ := List.cons.inj e0
  obtain ⟨rfl⟩ := List.cons.inj e1
  obtain ⟨rfl⟩ := List.cons.inj e2
  obtain ⟨rfl⟩ := List.cons.inj e4
  have hfine : Fine z0 s1.data.toList z2 := by
   refine ⟨?_, ?_, ?_⟩
   ·rw [Array.length_toList]
    exact w1
   ·have := bounds_i64 w0
    omega
   ·have := bounds_i64 w2
    omega
  have hbs : bs s1.data.toList = s1 := by cases s1; rfl
  rcases DataW.trod_slice Tryz.underlying22 k3 with ⟨e3, u3⟩ | ⟨a, len, cap, elems, rest, m, rfl, e3, u3, hb, hl, hm, hel, hat, -, -⟩
  ·obtain ⟨rfl⟩ := List.cons.inj e3
   refine ⟨.mk z0 s1.data.toList z2 z4 [], .slice none 0 0, by simp [hbs], ?_⟩
   exact at_lit (.mk z0 s1.data.toList z2 z4 []) _ (row_none _ _) hfine
  ·obtain ⟨rfl⟩ := List.cons.inj e3
   rw [cells24] at hat
   have hparts : ∀ i (hi : i < len), ∃ cs, Holds W cs ∧ ∀ j, j < 5 → W.cell? (a.add (i * 5 + j)) = cs[j]? := by
    intro i hi
    have h1 := hat i hi
    have hsome : elems[i]? = some (elems[i]'(by omega)) := List.getElem?_eq_getElem (by omega)
    rw [hsome] at h1
    cases hc : W.cells? 0 (a.add (i * 5)) 5 with
    | none => rw [hc] at h1; cases h1
    | some cs' =>
     rw [hc] at h1
     obtain ⟨-, hcl, hcat⟩ := World.cells?_some hc
     refine ⟨cs', ih m (by omega) cs' _ h1, fun j hj => ?_⟩
     rw [← Go.Deep.add_add]
     exact hcat j hj
   have hspot : 0 < len → a.spot = none := by
    intro h0
    obtain ⟨cs, ⟨t, v, rfl, -⟩, hc⟩ := hparts 0 h0
    have := World.cell?_spot (hc 0 (by decide))
    simpa [Addr.add] using this
   obtain ⟨ga, oa, sa⟩ := a
   by_cases h0 : 0 < len
   ·obtain rfl : sa = none := hspot h0
    have hparts2 : ∀ (i : Nat) (d : DataW H), (elems.map (·.1))[i]? = some d → ∃ cs, Holds W cs ∧ ∀ j, j < 5 → W.cell? ⟨ga, oa + i * 5 + j, none⟩ = cs[j]? := by
     intro i d hd
     obtain ⟨hi, ei⟩ := List.getElem?_eq_some_iff.1 hd
     rw [List.getElem_map] at ei
     rw [List.length_map] at hi
     obtain ⟨cs, h1, h2⟩ := hparts i (by omega)
     refine ⟨cs, h1, fun j hj => ?_⟩
     have := h2 j hj
     rw [show oa + i * 5 + j = oa + (i * 5 + j) by omega, ← add_none]
     exact this
    obtain ⟨l, hll, hal⟩ := row_of W ga (elems.map (·.1)) oa hparts2
    rw [List.length_map, hel] at hll
    have hgl : ga < W.heap.size := by
     obtain ⟨cs, ⟨t, v, rfl, -⟩, hc⟩ := hparts2 0 ((elems[0]'(by omega)).1) (by rw [List.getElem?_map, List.getElem?_eq_getElem (by omega)]; rfl)
     have h9 := hc 0 (by decide)
     rcases Nat.lt_or_ge ga W.heap.size with h | h
     ·exact h
     ·have : W.heap[ga]? = none := Array.getElem?_eq_none h
      simp [World.cell?, this] at h9
    subst hll
    refine ⟨.mk z0 s1.data.toList z2 z4 l, .slice (some ⟨ga, oa, none⟩) l.length cap, by simp [hbs], ?_⟩
    exact at_lit (.mk z0 s1.data.toList z2 z4 l) _ ⟨_, cap, rfl, ⟨hl, hm⟩, fun _ => ⟨ga, oa, rfl, hgl, hal⟩⟩ hfine
   ·obtain rfl : len = 0 := by omega
    refine ⟨.mk z0 s1.data.toList z2 z4 [], .slice (some ⟨ga, oa, sa⟩) 0 cap, by simp [hbs], ?_⟩
    exact at_lit (.mk z0 s1.data.toList z2 z4 []) _ ⟨_, cap, rfl, ⟨hl, hm⟩, fun h => absurd h (by simp)⟩ hfine
theorem open_node {r : Reach} {b0 : Nat} {v : Value} {d : DataW H} {p : List MemPlace} (hv : Value.okWide Tryz.prog W r b0 24 v) (h : DataW.Trod enc Tryz.prog W 0 (fun _ => true) true 24 v d p) :
  ∃ t : Tr, At W W.heap.size t v := by
 obtain ⟨cs, rfl, -⟩ := okWide_struct Tryz.underlying24 hv
 obtain ⟨fuel, hf⟩ := h
 obtain ⟨t, u, e, hAt⟩ := holds_of fuel _ _ hf
 refine ⟨t, ?_⟩
 have : cs = #[.int .i64 t.op, .string (bs t.s), .int .i64 t.n, u, .int .i64 t.line] := by
  apply Array.toList_inj.1
  exact e
 rw [this]
 exact hAt
theorem node_lt {v : Value} {d : DataW H} {p : List MemPlace} (h : DataW.Trod enc Tryz.prog W 0 (fun _ => true) true 24 v d p) : ∀ x ∈ p, x.block < W.heap.size := by
 obtain ⟨m, hm⟩ := h
 exact DataW.trod_lt m _ _ _ hm
end
end Go.Proofs.YtikbfoichhkeaaaGreat
