/- heap.Own, Obj, Keys. -/
import Derived.Test.YtpbbinppikaamaaPut
namespace Go.Proofs.Ytpbbinppikaamaa
open Go.RowKit Go.Proofs Go.Maps

/-- A box of a value that is there. -/
theorem box_facts {w W : World} {a b c : Value} (hb : Below (w.alloc (.cells #[a, b, c] 32)).heap.size (w.alloc (.cells #[a, b, c] 32)) W) :
    (W.cell? ⟨w.heap.size, 0, none⟩ = some a ∧ W.cell? ⟨w.heap.size, 1, none⟩ = some b ∧ W.cell? ⟨w.heap.size, 2, none⟩ = some c) ∧
    (W.frozen? ⟨w.heap.size, 0, none⟩ = false ∧ W.frozen? ⟨w.heap.size, 1, none⟩ = false ∧ W.frozen? ⟨w.heap.size, 2, none⟩ = false) ∧ Below w.heap.size w W ∧ w.heap.size < W.heap.size := by
  have hl : w.heap.size < (w.alloc (.cells #[a, b, c] 32)).heap.size := by simp
  have hf : ∀ j, (w.alloc (.cells #[a, b, c] 32)).frozen? ⟨w.heap.size, j, none⟩ = false := fun j => by unfold World.frozen?; simp only; rw [heap_alloc_new]; simp
  refine ⟨⟨?_, ?_, ?_⟩, ⟨?_, ?_, ?_⟩, ((Below.refl _ w).alloc (Nat.le_refl _) _).trans (hb.mono (by simp)), by have := hb.size; omega⟩
  · exact (hb.cell (p := ⟨w.heap.size, 0, none⟩) hl).trans (World.cell?_alloc_new w _ _ 0)
  · exact (hb.cell (p := ⟨w.heap.size, 1, none⟩) hl).trans (World.cell?_alloc_new w _ _ 1)
  · exact (hb.cell (p := ⟨w.heap.size, 2, none⟩) hl).trans (World.cell?_alloc_new w _ _ 2)
  · exact (hb.frozen (p := ⟨w.heap.size, 0, none⟩) hl).trans (hf 0)
  · exact (hb.frozen (p := ⟨w.heap.size, 1, none⟩) hl).trans (hf 1)
  · exact (hb.frozen (p := ⟨w.heap.size, 2, none⟩) hl).trans (hf 2)
theorem set3 {w W : World} {B : Nat} (h : Below B w W) (g : Nat) (hB : B ≤ g) (a b c : Value) : Below B w (((W.setCell ⟨g, 0, none⟩ a).setCell ⟨g, 1, none⟩ b).setCell ⟨g, 2, none⟩ c) :=
  ((h.setCell (p := ⟨g, 0, none⟩) hB _).setCell (p := ⟨g, 1, none⟩) hB _).setCell (p := ⟨g, 2, none⟩) hB _
def ans (r : Option V) : Value := .tuple #[(r.getD V.zero).v, .bool r.isSome]

set_option maxHeartbeats 1000000 in
theorem Own_nil (i : Int) (s : ByteArray) (w : World) : Calls Try.prog 24 #[.pointer none, .int .i64 i, .string s] w fun e w' => e = .returned (ans none) ∧ Below w.heap.size w w' := by
  simp only [ans, V.v, V.zero, Option.getD_none, Option.isSome_none]
  go_enter Try.func24, Try.ntmps24
  go_wp2_with (go_at_call 33; (with_reducible refine (at_nil _ _).mono ?_); rintro e w' ⟨rfl, rfl⟩)
  refine bodyPost_ret (v := .tuple #[.agg #[.int .i64 0, .int .i64 0, .string ⟨#[]⟩], .bool false]) (by simp [results, Try.results24, go_sem]) rfl ⟨rfl, ?_⟩
  exact (Below.refl _ _).alloc (Nat.le_refl _) _

set_option maxHeartbeats 1000000 in
theorem Own_any {F : Nat → Prop} {b T : Nat} {L : Hp} (i : Int) (s : ByteArray) (w : World) (h : IsH w F b T L) (hs : s.size ≤ maxLen) :
    Calls Try.prog 24 #[.pointer (some ⟨b, 0, none⟩), .int .i64 i, .string s] w fun e w' => e = .returned (ans (own L i s)) ∧ Below w.heap.size w w' := by
  have hb := (Below.refl w.heap.size w).alloc (Nat.le_refl _) (.cells #[.int .i64 0, .int .i64 0, .string ⟨#[]⟩] 32)
  have h' := h.below hb
  cases ho : at? L i with
  | none =>
    have HA := Lib.hid (at_out i _ h' ho)
    have e : own L i s = none := by simp [own, ho]
    rw [e]
    simp only [ans, V.v, V.zero, Option.getD_none, Option.isSome_none]
    clear h h' ho e
    go_enter Try.func24, Try.ntmps24
    go_wp2_with (go_at_call 33; (with_reducible refine (HA.out).mono ?_); rintro e w' ⟨rfl, rfl⟩)
    refine bodyPost_ret (v := .tuple #[.agg #[.int .i64 0, .int .i64 0, .string ⟨#[]⟩], .bool false]) (by simp [results, Try.results24, go_sem]) rfl ⟨rfl, ?_⟩
    exact hb
  | some o =>
    obtain ⟨n, rfl, hn, hL⟩ := at?_some ho
    obtain ⟨⟨u, sp, hh⟩, h2, h3⟩ := h'
    obtain ⟨p, hp, hob⟩ := hh.has hL
    have HA := Lib.hid (at_in n p _ hh h2 h3 hp)
    have HG := Lib.hid (get_any p o T s _ hob hs)
    have e : own L n s = lk o.kv s := by simp [own, ho]
    rw [e]
    unfold ans
    generalize (lk o.kv s).getD V.zero = x at HG ⊢
    generalize (lk o.kv s).isSome = y at HG ⊢
    obtain ⟨xk, xn, xt⟩ := x
    simp only [V.v] at HG ⊢
    clear h hh ho e hob hp hL hb
    go_enter Try.func24, Try.ntmps24
    go_wp2_with (first
      | (go_at_call 33; (with_reducible refine (HA.out).mono ?_); rintro e w' ⟨rfl, rfl⟩)
      | (go_at_call 37; (with_reducible refine (HG.out).mono ?_); rintro e w1 ⟨rfl, hb1⟩; obtain ⟨⟨c0, c1, c2⟩, ⟨f0, f1, f2⟩, hbw, hlt⟩ := box_facts hb1))
    refine bodyPost_ret (v := .tuple #[.agg #[.int .i64 xk, .int .i64 xn, .string xt], .bool y]) (by simp [results, Try.results24, go_sem, c0, c1, c2]) rfl ⟨rfl, ?_⟩
    exact set3 hbw _ (Nat.le_refl _) _ _ _

theorem box4_facts {w W : World} {a b c d : Value} (hb : Below (w.alloc (.cells #[a, b, c, d] 30)).heap.size (w.alloc (.cells #[a, b, c, d] 30)) W) :
    (W.cell? ⟨w.heap.size, 0, none⟩ = some a ∧ W.cell? ⟨w.heap.size, 1, none⟩ = some b ∧ W.cell? ⟨w.heap.size, 2, none⟩ = some c ∧ W.cell? ⟨w.heap.size, 3, none⟩ = some d) ∧
    (W.frozen? ⟨w.heap.size, 0, none⟩ = false ∧ W.frozen? ⟨w.heap.size, 1, none⟩ = false ∧ W.frozen? ⟨w.heap.size, 2, none⟩ = false ∧ W.frozen? ⟨w.heap.size, 3, none⟩ = false) ∧ Below w.heap.size w W ∧ w.heap.size < W.heap.size := by
  have hl : w.heap.size < (w.alloc (.cells #[a, b, c, d] 30)).heap.size := by simp
  have hf : ∀ j, (w.alloc (.cells #[a, b, c, d] 30)).frozen? ⟨w.heap.size, j, none⟩ = false := fun j => by unfold World.frozen?; simp only; rw [heap_alloc_new]; simp
  refine ⟨⟨?_, ?_, ?_, ?_⟩, ⟨?_, ?_, ?_, ?_⟩, ((Below.refl _ w).alloc (Nat.le_refl _) _).trans (hb.mono (by simp)), by have := hb.size; omega⟩
  · exact (hb.cell (p := ⟨w.heap.size, 0, none⟩) hl).trans (World.cell?_alloc_new w _ _ 0)
  · exact (hb.cell (p := ⟨w.heap.size, 1, none⟩) hl).trans (World.cell?_alloc_new w _ _ 1)
  · exact (hb.cell (p := ⟨w.heap.size, 2, none⟩) hl).trans (World.cell?_alloc_new w _ _ 2)
  · exact (hb.cell (p := ⟨w.heap.size, 3, none⟩) hl).trans (World.cell?_alloc_new w _ _ 3)
  · exact (hb.frozen (p := ⟨w.heap.size, 0, none⟩) hl).trans (hf 0)
  · exact (hb.frozen (p := ⟨w.heap.size, 1, none⟩) hl).trans (hf 1)
  · exact (hb.frozen (p := ⟨w.heap.size, 2, none⟩) hl).trans (hf 2)
  · exact (hb.frozen (p := ⟨w.heap.size, 3, none⟩) hl).trans (hf 3)
def zobj : Value := .agg #[.int .i64 0, .int .i64 0, .int .i64 0, .int .i64 0]
def objV (L : Hp) (p : Int) : Value := (at? L p).elim zobj Ob.obj
def objE (L : Hp) (p : Int) : Int := (at? L p).elim 70 (fun _ => 0)
set_option maxHeartbeats 1000000 in
theorem Obj_nil (i : Int) (w : World) : Calls Try.prog 16 #[.pointer none, .int .i64 i] w fun e w' => e = .returned (.tuple #[zobj, .int .i64 1]) ∧ Below w.heap.size w w' := by
  go_enter Try.func16, Try.ntmps16
  go_wp2_with (go_at_call 33; (with_reducible refine (at_nil _ _).mono ?_); rintro e w' ⟨rfl, rfl⟩)
  refine bodyPost_ret (v := .tuple #[zobj, .int .i64 1]) (by simp [results, Try.results16, go_sem, zobj]) rfl ⟨rfl, ?_⟩
  repeat (first | exact Below.refl _ _ | refine Below.setCell ?_ (by simp) _ | refine Below.alloc ?_ (by simp) _ | refine Below.drew ?_)
set_option maxHeartbeats 1000000 in
theorem Obj_any {F : Nat → Prop} {b T : Nat} {L : Hp} (i : Int) (w : World) (h : IsH w F b T L) :
    Calls Try.prog 16 #[.pointer (some ⟨b, 0, none⟩), .int .i64 i] w fun e w' => e = .returned (.tuple #[objV L i, .int .i64 (objE L i)]) ∧ Below w.heap.size w w' := by
  have hb := (Below.refl w.heap.size w).alloc (Nat.le_refl _) (.cells #[.int .i64 0, .int .i64 0, .int .i64 0, .int .i64 0] 30)
  have h' := h.below hb
  cases ho : at? L i with
  | none =>
    have HA := Lib.hid (at_out i _ h' ho)
    simp only [objV, objE, ho, Option.elim]
    clear h h' ho
    go_enter Try.func16, Try.ntmps16
    go_wp2_with (go_at_call 33; (with_reducible refine (HA.out).mono ?_); rintro e w' ⟨rfl, rfl⟩)
    refine bodyPost_ret (v := .tuple #[zobj, .int .i64 70]) (by simp [results, Try.results16, go_sem, zobj]) rfl ⟨rfl, ?_⟩
    repeat (first | exact Below.refl _ _ | refine Below.setCell ?_ (by simp) _ | refine Below.alloc ?_ (by simp) _ | refine Below.drew ?_)
  | some o =>
    obtain ⟨n, rfl, hn, hL⟩ := at?_some ho
    obtain ⟨⟨u, sp, hh⟩, h2, h3⟩ := h'
    obtain ⟨p, hp, hob⟩ := hh.has hL
    have HA := Lib.hid (at_in n p _ hh h2 h3 hp)
    simp only [objV, objE, ho, Option.elim, Ob.obj]
    have c0 := hob.cell 0 (.int .i64 o.mark) rfl
    have c1 := hob.cell 1 (.int .i64 o.proto) rfl
    have c2 := hob.cell 2 (.int .i64 o.code) rfl
    have c3 := hob.cell 3 (.int .i64 o.frame) rfl
    have hpb : p.b < w.heap.size := h.lt _ (hh.objF p (List.mem_of_getElem? hp) _ (.inl rfl))
    obtain ⟨om, op, oc, of, okv⟩ := o
    simp only at c0 c1 c2 c3
    clear h hh ho hob hp hL hb
    go_enter Try.func16, Try.ntmps16
    go_wp2_with (go_at_call 33; (with_reducible refine (HA.out).mono ?_); rintro e w' ⟨rfl, rfl⟩)
    refine bodyPost_ret (v := .tuple #[.agg #[.int .i64 om, .int .i64 op, .int .i64 oc, .int .i64 of], .int .i64 0]) (by simp [results, Try.results16, go_sem]) rfl ⟨rfl, ?_⟩
    repeat (first | exact Below.refl _ _ | refine Below.setCell ?_ (by simp) _ | refine Below.alloc ?_ (by simp) _ | refine Below.drew ?_)
end Go.Proofs.Ytpbbinppikaamaa
