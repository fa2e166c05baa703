/- jtree.page: member, construction; leaf. -/
import Derived.Test.YtiejpenffpjmeaaDoorParts
import Derived.Test.YtiejpenffpjmeaaDoorInv
import Derived.Lib.ItoaMem
namespace Go.Proofs.YtiejpenffpjmeaaDoor
open Go.RowKit Go.Proofs

theorem bs_cat (l u : Bs) : bs l ++ bs u = bs (l ++ u) := by
  rw [← bs_of (bs l ++ bs u)]
  congr 1
theorem mixN (b k : Nat) (xs : List Tr) (ts : List Bs) (n : Nat) (v : Value) (w : World) (l : Bs) (hts : ts.length = n) (cs : Array Value) (hcs : cs = (ts.map fun t => Value.string (bs t)).toArray) (hx : Row w b xs v) (hp : PageAt w b l k) (hn : n ≤ xs.length + 1) (hn2 : n ≤ 1000)
    (hE : ∀ x ∈ xs, ExprOK x) (hk : k + sizes xs ≤ 100000) (hlen : (l ++ mixL ts (xs.map (Tr.txt k))).length ≤ 100000000) (he : Env w) :
    Calls Tryd.prog 50 #[.pointer (some ⟨b, 0, none⟩), v, .slice (some ⟨w.heap.size, 0, none⟩) n n] (w.alloc (.cells cs 9)) (Put b w (l ++ mixL ts (xs.map (Tr.txt k))) k) := by
  have hb : Below b w (w.alloc (.cells cs 9)) := (Below.refl b w).alloc (Nat.le_of_lt hp.lt) _
  exact (mix_any b k xs ts v _ _ l (hx.below hb) (hp.alloc _) (Strs.mk_ w b hp.lt ts n hts (by omega) cs hcs) (by omega) hE hk hlen (he.pg hp.1 (.of_below ((Below.refl _ w).alloc (Nat.le_refl _) _) (Nat.le_of_lt hp.lt)))).mono fun e w' h => h.from_ (Nat.le_of_lt hp.lt)

/-- A box that lies behind a page, and what it holds. -/
theorem box_new (w : World) (t : Tr) (A : Option Addr) (c : Nat) (b k : Nat) (l : Bs) (hp : PageAt w b l k) :
    ∃ W1, (w.alloc (.cells #[.int .i64 t.op, .string (bs t.s), .int .i64 t.n, .slice A t.l.length c, .int .i64 t.line] 24)) = W1 ∧ PageAt W1 b l k ∧ PG b w W1 ∧ W1.heap.size = w.heap.size + 1 ∧
      W1.heap[w.heap.size]? = some (.cells #[.int .i64 t.op, .string (bs t.s), .int .i64 t.n, .slice A t.l.length c, .int .i64 t.line] 24 (0, 0)) :=
  ⟨_, rfl, hp.alloc _, (PG.refl b w).alloc (Nat.le_of_lt hp.lt) _, by simp, heap_alloc_new w _⟩

set_option maxRecDepth 100000 in
set_option maxHeartbeats 4000000 in
theorem member_any (b k : Nat) (t a : Tr) (v : Value) (w : World) (l : Bs) (hl : t.l = [a]) (hE : ExprOK a) (hAt : At w b t v) (hp : PageAt w b l k) (hk : k + t.size ≤ 100000)
    (hlen : (l ++ (if a.op = 2 then [40] ++ (a.txt k ++ ([41, 46] ++ t.s)) else a.txt k ++ ([46] ++ t.s))).length ≤ 100000000) (he : Env w) :
    Calls Tryd.prog 52 #[.pointer (some ⟨b, 0, none⟩), v] w (Put b w (l ++ (if a.op = 2 then [40] ++ (a.txt k ++ ([41, 46] ++ t.s)) else a.txt k ++ ([46] ++ t.s))) k) := by
  rw [At_iff] at hAt
  obtain ⟨u, rfl, hrow, hfine⟩ := hAt
  obtain ⟨Ax, cx, rfl, -, -⟩ := row_at hrow
  rw [size_eq, hl] at hk
  rw [hl] at hrow
  obtain ⟨g, off, cap, e1, hg, hc1, -, ha, -⟩ := Row.cons_ hrow
  obtain ⟨rfl, rfl⟩ : Ax = some ⟨g, off, none⟩ ∧ cx = cap := by simpa [hl] using e1
  obtain ⟨W1, hW1, hp1, hg1, hz1, hbox⟩ := box_new w t (some ⟨g, off, none⟩) cx b k l hp
  obtain ⟨Av, cv, -, x0, x1, x2, x3, x4⟩ := elem_at (i := 0) ha hg (Below.refl b w) rfl
  have hgl : g < w.heap.size := by have := hp.lt; omega
  simp only [Nat.zero_mul, Nat.add_zero] at x0 x1 x2 x3 x4
  have hE1 : ∀ x ∈ [a], ExprOK x := fun x hx => by rw [List.mem_singleton.1 hx]; exact hE
  have hbl := hp.lt
  have hrow1 := hrow.below hg1.below
  have he1 := he.pg hp.1 hg1
  unfold nodeV
  rw [hl] at hW1 ⊢
  by_cases h2 : a.op = 2
  · rw [if_pos h2] at hlen ⊢
    have hlen2 := hlen
    simp only [List.length_append, List.length_cons, List.length_nil] at hlen2
    have hm := mixN b k [a] [[40], [41, 46] ++ t.s] 2 _ W1 l rfl #[.string ⟨#[40]⟩, .string (⟨#[41, 46]⟩ ++ bs t.s)] (by rw [show (⟨#[41, 46]⟩ : ByteArray) = bs [41, 46] from rfl, bs_cat]; rfl) hrow1 hp1 (by simp) (by omega) hE1 (by omega) (by simpa [mixL, mixR] using hlen) he1
    have hs : (bs t.s).size ≤ 100000000 := by rw [bs_size]; omega
    rw [← hW1, World.size_alloc] at hm
    rw [hW1] at hm
    rw [← hW1] at hm
    have HC := Lib.hid hm
    have HW := Lib.hid (And.intro hW1 hg1)
    rw [h2] at x0
    obtain ⟨R, eR⟩ : ∃ R, l ++ ([40] ++ (a.txt k ++ ([41, 46] ++ t.s))) = R := ⟨_, rfl⟩
    rw [eR]
    have HRt := Lib.hid eR
    clear hm hlen hlen2 hrow hrow1 he he1 hE hE1 hp hp1 ha hbox hW1 hg1 eR h2 hfine hl e1
    go_enter Tryd.func52, Tryd.ntmps52
    go_wp2_with (go_at_call 50; refine HC.out.mono ?_; rintro e w2 ⟨⟨v2, rfl⟩, hp2, hg2⟩; have HR := Lib.hid (And.intro hp2 hg2); clear hp2 hg2)
    refine bodyPost_ret (results_none rfl _ _ _) rfl ?_
    exact ⟨⟨_, rfl⟩, by have := HR.out.1; rw [← HRt.out]; simpa [mixL, mixR] using this, by have := HR.out.2; rw [HW.out.1] at this; exact HW.out.2.trans this⟩
  · rw [if_neg h2] at hlen ⊢
    have hlen2 := hlen
    simp only [List.length_append, List.length_cons, List.length_nil] at hlen2
    have hm := mixN b k [a] [[], [46] ++ t.s] 2 _ W1 l rfl #[.string ⟨#[]⟩, .string (⟨#[46]⟩ ++ bs t.s)] (by rw [show (⟨#[46]⟩ : ByteArray) = bs [46] from rfl, bs_cat]; rfl) hrow1 hp1 (by simp) (by omega) hE1 (by omega) (by simpa [mixL, mixR] using hlen) he1
    have hs : (bs t.s).size ≤ 100000000 := by rw [bs_size]; omega
    rw [← hW1, World.size_alloc] at hm
    rw [hW1] at hm
    rw [← hW1] at hm
    have HC := Lib.hid hm
    have HW := Lib.hid (And.intro hW1 hg1)
    have hd : (a.op == 2) = false := by simpa using h2
    obtain ⟨R, eR⟩ : ∃ R, l ++ (a.txt k ++ ([46] ++ t.s)) = R := ⟨_, rfl⟩
    rw [eR]
    have HRt := Lib.hid eR
    clear hm hlen hlen2 hrow hrow1 he he1 hE hE1 hp hp1 ha hbox hW1 hg1 eR h2 hfine hl e1
    go_enter Tryd.func52, Tryd.ntmps52
    go_wp2_with (go_at_call 50; refine HC.out.mono ?_; rintro e w2 ⟨⟨v2, rfl⟩, hp2, hg2⟩; have HR := Lib.hid (And.intro hp2 hg2); clear hp2 hg2)
    refine bodyPost_ret (results_none rfl _ _ _) rfl ?_
    exact ⟨⟨_, rfl⟩, by have := HR.out.1; rw [← HRt.out]; simpa [mixL, mixR] using this, by have := HR.out.2; rw [HW.out.1] at this; exact HW.out.2.trans this⟩
end Go.Proofs.YtiejpenffpjmeaaDoor
