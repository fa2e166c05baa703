/- jtree.page: member, construction; leaf. jtree.page: construction; leaf. jtree.leaf. -/
import Derived.Test.YtiejpenffpjmeaaDoorParts
import Derived.Test.YtiejpenffpjmeaaDoorInv
import Derived.Lib.ItoaMem
import Derived.Lib.AppendIntMem
namespace Go.Proofs.YtiejpenffpjmeaaDoor
open Go.RowKit Go.Proofs

theorem bs_cat (l u : Bs) : bs l ++ bs u = bs (l ++ u) := by
  rw [← bs_of (bs l ++ bs u)]
  congr 1
theorem mixN (b k : Nat) (xs : List Tr) (ts : List Bs) (n : Nat) (v : Value) (w : World) (l : Bs) (hts : ts.length = n) (cs : Array Value) (hcs : cs = (ts.map fun t => Value.string (bs t)).toArray) (hx : Row w b xs v) (hp : PageAt w b l k) (hn : n ≤ xs.length + 1) (hn2 : n ≤ 1000)
    (hE : ∀ x ∈ xs, ExprOK x) (hk : k + sizes xs ≤ 100000) (hlen : (l ++ mixL ts (xs.map (Tr.txt k))).length ≤ 100000000) (he : Env w) :
    Calls Tryd.prog 50 #[.pointer (some ⟨b, 0, none⟩), v, .slice (some ⟨w.heap.size, 0, none⟩) n n] (w.alloc (.cells cs 9)) (Put b w (l ++ mixL ts (xs.map (Tr.txt k))) k) := by
  have hb : Below b w (w.alloc (.cells cs 9)) := (Below.refl b w).alloc (Nat.le_of_lt hp.lt) _
  exact (mix_any b k xs ts v _ _ l (hx.below hb) (hp.alloc _) (Strs.mk_ w b hp.lt ts n hts (by omega) cs hcs) (by omega) hE hk hlen (he.pg hp.1 (.of_below ((Below.refl _ w).alloc (Nat.le_refl _) _) (Nat.le_of_lt hp.lt)))).mono fun e w' h => h.from_ (Nat.le_of_lt hp.lt)

/-- A box that lies behind a page, and what it holds. -/
theorem box_new (w : World) (t : Tr) (A : Option Addr) (c : Nat) (b k : Nat) (l : Bs) (hp : PageAt w b l k) :
    ∃ W1, (w.alloc (.cells #[.int .i64 t.op, .string (bs t.s), .int .i64 t.n, .slice A t.l.length c, .int .i64 t.line] 24)) = W1 ∧ PageAt W1 b l k ∧ PG b w W1 ∧ W1.heap.size = w.heap.size + 1 ∧
      W1.heap[w.heap.size]? = some (.cells #[.int .i64 t.op, .string (bs t.s), .int .i64 t.n, .slice A t.l.length c, .int .i64 t.line] 24 (0, 0)) :=
  ⟨_, rfl, hp.alloc _, (PG.refl b w).alloc (Nat.le_of_lt hp.lt) _, by simp, heap_alloc_new w _⟩

set_option maxRecDepth 100000 in
set_option maxHeartbeats 4000000 in
theorem member_any (b k : Nat) (t a : Tr) (v : Value) (w : World) (l : Bs) (hl : t.l = [a]) (hE : ExprOK a) (hAt : At w b t v) (hp : PageAt w b l k) (hk : k + t.size ≤ 100000)
    (hlen : (l ++ (if a.op = 2 then [40] ++ (a.txt k ++ ([41, 46] ++ t.s)) else a.txt k ++ ([46] ++ t.s))).length ≤ 100000000) (he : Env w) :
    Calls Tryd.prog 52 #[.pointer (some ⟨b, 0, none⟩), v] w (Put b w (l ++ (if a.op = 2 then [40] ++ (a.txt k ++ ([41, 46] ++ t.s)) else a.txt k ++ ([46] ++ t.s))) k) := by
  rw [At_iff] at hAt
  obtain ⟨u, rfl, hrow, hfine⟩ := hAt
  obtain ⟨Ax, cx, rfl, -, -⟩ := row_at hrow
  rw [size_eq, hl] at hk
  rw [hl] at hrow
  obtain ⟨g, off, cap, e1, hg, hc1, -, ha, -⟩ := Row.cons_ hrow
  obtain ⟨rfl, rfl⟩ : Ax = some ⟨g, off, none⟩ ∧ cx = cap := by simpa [hl] using e1
  obtain ⟨W1, hW1, hp1, hg1, hz1, hbox⟩ := box_new w t (some ⟨g, off, none⟩) cx b k l hp
  obtain ⟨Av, cv, -, x0, x1, x2, x3, x4⟩ := elem_at (i := 0) ha hg (Below.refl b w) rfl
  have hgl : g < w.heap.size := by have := hp.lt; omega
  simp only [Nat.zero_mul, Nat.add_zero] at x0 x1 x2 x3 x4
  have hE1 : ∀ x ∈ [a], ExprOK x := fun x hx => by rw [List.mem_singleton.1 hx]; exact hE
  have hbl := hp.lt
  have hrow1 := hrow.below hg1.below
  have he1 := he.pg hp.1 hg1
  unfold nodeV
  rw [hl] at hW1 ⊢
  by_cases h2 : a.op = 2
  · rw [if_pos h2] at hlen ⊢
    have hlen2 := hlen
    simp only [List.length_append, List.length_cons, List.length_nil] at hlen2
    have hm := mixN b k [a] [[40], [41, 46] ++ t.s] 2 _ W1 l rfl #[.string ⟨#[40]⟩, .string (⟨#[41, 46]⟩ ++ bs t.s)] (by rw [show (⟨#[41, 46]⟩ : ByteArray) = bs [41, 46] from rfl, bs_cat]; rfl) hrow1 hp1 (by simp) (by omega) hE1 (by omega) (by simpa [mixL, mixR] using hlen) he1
    have hs : (bs t.s).size ≤ 100000000 := by rw [bs_size]; omega
    rw [← hW1, World.size_alloc] at hm
    rw [hW1] at hm
    rw [← hW1] at hm
    have HC := Lib.hid hm
    have HW := Lib.hid (And.intro hW1 hg1)
    rw [h2] at x0
    obtain ⟨R, eR⟩ : ∃ R, l ++ ([40] ++ (a.txt k ++ ([41, 46] ++ t.s))) = R := ⟨_, rfl⟩
    rw [eR]
    have HRt := Lib.hid eR
    clear hm hlen hlen2 hrow hrow1 he he1 hE hE1 hp hp1 ha hbox hW1 hg1 eR h2 hfine hl e1
    go_enter Tryd.func52, Tryd.ntmps52
    go_wp2_with (go_at_call 50; refine HC.out.mono ?_; rintro e w2 ⟨⟨v2, rfl⟩, hp2, hg2⟩; have HR := Lib.hid (And.intro hp2 hg2); clear hp2 hg2)
    refine bodyPost_ret (results_none rfl _ _ _) rfl ?_
    exact ⟨⟨_, rfl⟩, by have := HR.out.1; rw [← HRt.out]; simpa [mixL, mixR] using this, by have := HR.out.2; rw [HW.out.1] at this; exact HW.out.2.trans this⟩
  · rw [if_neg h2] at hlen ⊢
    have hlen2 := hlen
    simp only [List.length_append, List.length_cons, List.length_nil] at hlen2
    have hm := mixN b k [a] [[], [46] ++ t.s] 2 _ W1 l rfl #[.string ⟨#[]⟩, .string (⟨#[46]⟩ ++ bs t.s)] (by rw [show (⟨#[46]⟩ : ByteArray) = bs [46] from rfl, bs_cat]; rfl) hrow1 hp1 (by simp) (by omega) hE1 (by omega) (by simpa [mixL, mixR] using hlen) he1
    have hs : (bs t.s).size ≤ 100000000 := by rw [bs_size]; omega
    rw [← hW1, World.size_alloc] at hm
    rw [hW1] at hm
    rw [← hW1] at hm
    have HC := Lib.hid hm
    have HW := Lib.hid (And.intro hW1 hg1)
    have hd : (a.op == 2) = false := by simpa using h2
    obtain ⟨R, eR⟩ : ∃ R, l ++ (a.txt k ++ ([46] ++ t.s)) = R := ⟨_, rfl⟩
    rw [eR]
    have HRt := Lib.hid eR
    clear hm hlen hlen2 hrow hrow1 he he1 hE hE1 hp hp1 ha hbox hW1 hg1 eR h2 hfine hl e1
    go_enter Tryd.func52, Tryd.ntmps52
    go_wp2_with (go_at_call 50; refine HC.out.mono ?_; rintro e w2 ⟨⟨v2, rfl⟩, hp2, hg2⟩; have HR := Lib.hid (And.intro hp2 hg2); clear hp2 hg2)
    refine bodyPost_ret (results_none rfl _ _ _) rfl ?_
    exact ⟨⟨_, rfl⟩, by have := HR.out.1; rw [← HRt.out]; simpa [mixL, mixR] using this, by have := HR.out.2; rw [HW.out.1] at this; exact HW.out.2.trans this⟩
end Go.Proofs.YtiejpenffpjmeaaDoor

namespace Go.Proofs.YtiejpenffpjmeaaDoor
open Go.RowKit Go.Proofs

theorem txt_id (k : Nat) (a : Tr) (h : a.op = 1) : a.txt k = a.s := by
  rw [txt_form k a (by omega), h]
  rfl

set_option maxRecDepth 100000 in
set_option maxHeartbeats 4000000 in
theorem construction_any (b k : Nat) (a : Tr) (xs : List Tr) (v : Value) (w : World) (l : Bs) (hx : Row w b (a :: xs) v) (hp : PageAt w b l k) (hE : ∀ y ∈ a :: xs, ExprOK y) (hk : k + sizes (a :: xs) ≤ 100000)
    (hlen : (l ++ ((if a.op = 1 then [40, 110, 101, 119, 32] ++ a.txt k else [40, 110, 101, 119, 32, 40] ++ (a.txt k ++ [41])) ++ ([40] ++ (commas (xs.map (Tr.txt k)) ++ [41, 41])))).length ≤ 100000000) (he : Env w) :
    Calls Tryd.prog 54 #[.pointer (some ⟨b, 0, none⟩), v] w (Put b w (l ++ ((if a.op = 1 then [40, 110, 101, 119, 32] ++ a.txt k else [40, 110, 101, 119, 32, 40] ++ (a.txt k ++ [41])) ++ ([40] ++ (commas (xs.map (Tr.txt k)) ++ [41, 41])))) k) := by
  obtain ⟨R, eR⟩ : ∃ R, l ++ ((if a.op = 1 then [40, 110, 101, 119, 32] ++ a.txt k else [40, 110, 101, 119, 32, 40] ++ (a.txt k ++ [41])) ++ ([40] ++ (commas (xs.map (Tr.txt k)) ++ [41, 41]))) = R := ⟨_, rfl⟩
  have hlenR := hlen
  rw [eR] at hlenR ⊢
  rw [sizes_cons] at hk
  obtain ⟨g, off, cap, rfl, hg, hc1, hc2, ha, A, c, hAc, hrow⟩ := Row.cons_ hx
  obtain ⟨Av, cv, -, x0, x1, x2, x3, x4⟩ := elem_at (i := 0) ha hg (Below.refl b w) rfl
  have hgl : g < w.heap.size := by have := hp.lt; omega
  simp only [Nat.zero_mul, Nat.add_zero] at x0 x1 x2 x3 x4
  unfold maxLen at hc2
  have hbl := hp.lt
  -- what follows the head
  have htail : ∀ (w1 : World) (M : Bs), PG b w w1 → PageAt w1 b M k → (M ++ ([40] ++ (commas (xs.map (Tr.txt k)) ++ [41]))).length ≤ 100000000 → Calls Tryd.prog 70 #[.pointer (some ⟨b, 0, none⟩), .slice A xs.length c] w1 (Put b w1 (M ++ ([40] ++ (commas (xs.map (Tr.txt k)) ++ [41]))) k) :=
    fun w1 M h h2 h3 => arguments_any b k xs _ w1 M (hrow.below h.below) h2 (fun y hy => hE y (by simp [hy])) (by omega) h3 (he.pg hp.1 h)
  have HT := Lib.hid htail
  have hrow1 : Row w b [a] (.slice (some ⟨g, off, none⟩) 1 cap) := hx.take_ (l := a :: xs) 1 (by simp)
  by_cases h1 : a.op = 1
  · rw [if_pos h1, txt_id k a h1] at eR
    have hRl : R.length = l.length + (5 + a.s.length + (1 + (commas (xs.map (Tr.txt k))).length + 2)) := by rw [← eR]; simp only [List.length_append, List.length_cons, List.length_nil]; omega
    have HC1 := Lib.hid (putTwo b k [40, 110, 101, 119, 32] a.s w l hp (by simp only [List.length_append, List.length_cons, List.length_nil]; omega))
    have HRt := Lib.hid eR
    have HRl := Lib.hid (And.intro hRl hlenR)
    rw [h1] at x0
    clear hx hp hE hk he ha hrow hrow1 hlen hlenR htail h1 eR hRl
    rcases hAc with ⟨rfl, rfl, rfl, h0⟩ | ⟨rfl, rfl, hcap⟩
    case' inl =>
      rw [h0] at HT hc1 ⊢
      clear h0
    all_goals
      go_enter Tryd.func54, Tryd.ntmps54
      go_wp2_with fail
      go_at_call 46
      refine HC1.out.mono ?_
      rintro e w1 ⟨⟨v1, rfl⟩, hp1, hg1⟩
      have HC2 := Lib.hid (HT.out w1 _ hg1 hp1 (by have := HRl.out; simp only [List.length_append, List.length_cons, List.length_nil] at this ⊢; omega))
      have HG1 := Lib.hid hg1
      clear hp1 hg1
      go_wp2_with (first
        | (go_at_call 70; refine HC2.out.mono ?_; rintro e w2 ⟨⟨v2, rfl⟩, hp2, hg2⟩; have HC3 := Lib.hid (putOne b k [41] w2 _ hp2 (by have := HRl.out; simp only [List.length_append, List.length_cons, List.length_nil] at this ⊢; omega)); have HG2 := Lib.hid hg2; clear hp2 hg2)
        | (go_at_call 46; refine HC3.out.mono ?_; rintro e w3 ⟨⟨v3, rfl⟩, hp3, hg3⟩; have HR := Lib.hid (And.intro hp3 hg3); clear hp3 hg3))
      refine bodyPost_ret (results_none rfl _ _ _) rfl ?_
      exact ⟨⟨_, rfl⟩, by have := HR.out.1; rw [← HRt.out]; simpa using this, (HG1.out.trans HG2.out).trans HR.out.2⟩
  · rw [if_neg h1] at eR
    have hRl : R.length = l.length + (6 + ((a.txt k).length + 1) + (1 + (commas (xs.map (Tr.txt k))).length + 2)) := by rw [← eR]; simp only [List.length_append, List.length_cons, List.length_nil]; omega
    have hm := mixN b k [a] [[40, 110, 101, 119, 32, 40], [41]] 2 _ w l rfl #[.string ⟨#[40, 110, 101, 119, 32, 40]⟩, .string ⟨#[41]⟩] rfl hrow1 hp (by simp) (by omega) (fun x hx => hE x (by simp [List.mem_singleton.1 hx])) (by rw [sizes_cons, sizes_nil]; omega) (by simp only [mixL, mixR, List.map_cons, List.map_nil, List.length_append, List.length_cons, List.length_nil]; omega) he
    have HC1 := Lib.hid hm
    have HRt := Lib.hid eR
    have HRl := Lib.hid (And.intro hRl hlenR)
    have hd : (a.op == 1) = false := by simpa using h1
    clear hm hx hp hE hk he ha hrow hrow1 hlen hlenR htail h1 eR hRl
    rcases hAc with ⟨rfl, rfl, rfl, h0⟩ | ⟨rfl, rfl, hcap⟩
    case' inl =>
      rw [h0] at HT hc1 ⊢
      clear h0
    all_goals
      go_enter Tryd.func54, Tryd.ntmps54
      go_wp2_with fail
      go_at_call 50
      refine HC1.out.mono ?_
      rintro e w1 ⟨⟨v1, rfl⟩, hp1, hg1⟩
      have HC2 := Lib.hid (HT.out w1 _ hg1 hp1 (by have := HRl.out; simp only [mixL, mixR, List.map_cons, List.map_nil, List.length_append, List.length_cons, List.length_nil] at this ⊢; omega))
      have HG1 := Lib.hid hg1
      clear hp1 hg1
      go_wp2_with (first
        | (go_at_call 70; refine HC2.out.mono ?_; rintro e w2 ⟨⟨v2, rfl⟩, hp2, hg2⟩; have HC3 := Lib.hid (putOne b k [41] w2 _ hp2 (by have := HRl.out; simp only [mixL, mixR, List.map_cons, List.map_nil, List.length_append, List.length_cons, List.length_nil] at this ⊢; omega)); have HG2 := Lib.hid hg2; clear hp2 hg2)
        | (go_at_call 46; refine HC3.out.mono ?_; rintro e w3 ⟨⟨v3, rfl⟩, hp3, hg3⟩; have HR := Lib.hid (And.intro hp3 hg3); clear hp3 hg3))
      refine bodyPost_ret (results_none rfl _ _ _) rfl ?_
      exact ⟨⟨_, rfl⟩, by have := HR.out.1; rw [← HRt.out]; simpa [mixL, mixR] using this, (HG1.out.trans HG2.out).trans HR.out.2⟩
end Go.Proofs.YtiejpenffpjmeaaDoor

namespace Go.Proofs.YtiejpenffpjmeaaDoor
open Go.RowKit Go.Proofs

theorem bs_lit (a : Array UInt8) : (⟨a⟩ : ByteArray) = bs a.toList := by unfold bs; simp

set_option maxHeartbeats 4000000 in
theorem leaf_any (k : Nat) (t : Tr) (v : Value) (w : World) (hAt : At w w.heap.size t v) (hg : soundOne t = true) (h1 : 1 ≤ t.op) (h2 : t.op ≤ 9) (hlen : (t.txt k).length ≤ 100000000) (he : Env w) :
    Calls Tryd.prog 55 #[v] w fun e w' => e = .returned (.string (bs (t.txt k))) ∧ Below w.heap.size w w' := by
  rw [At_iff] at hAt
  obtain ⟨u, rfl, hrow, hfine⟩ := hAt
  obtain ⟨Ax, cx, rfl, -, -⟩ := row_at hrow
  have htx := txt_form k t (by omega)
  unfold nodeV
  have hE : ∀ o, Env (w.alloc o) := fun o => he.below ((Below.refl _ w).alloc (Nat.le_refl _) _)
  obtain ⟨c, ec⟩ : ∃ c, t.op = c := ⟨_, rfl⟩
  have hcs : c = 1 ∨ c = 2 ∨ c = 3 ∨ c = 4 ∨ c = 5 ∨ c = 6 ∨ c = 7 ∨ c = 8 ∨ c = 9 := by omega
  clear h1 h2 hrow he
  rcases hcs with rfl | rfl | rfl | rfl | rfl | rfl | rfl | rfl | rfl
  · rw [ec] at htx ⊢
    have HT := Lib.hid (show t.txt k = t.s from htx)
    clear htx hfine hlen hg ec
    go_enter Tryd.func55, Tryd.ntmps55
    go_wp2
    go_ret
    exact ⟨by rw [HT.out]; rfl, (Below.refl _ w).alloc (Nat.le_refl _) _⟩
  · have hi := (inv_2 ec).1 hg
    rw [ec] at htx ⊢
    have hF := fun w (h : Env w) => Tryd.strconv_FormatInt_10 t.n (by omega) (by omega) w h
    have hit : Lib.itoa t.n = Lib.decDigits t.n.toNat := by unfold Lib.itoa; rw [if_neg (by omega)]
    have HF := Lib.hid (fun o => hF _ (hE o))
    have HT := Lib.hid (show t.txt k = Lib.itoa t.n by rw [hit]; exact htx)
    clear htx hfine hlen hg ec hF hi hit hE
    go_enter Tryd.func55, Tryd.ntmps55
    go_wp2_with (go_at_call 72; refine (HF.out _).mono ?_; rintro e w1 ⟨rfl, m, os, hw1⟩; have HB := Lib.hid (show Below w.heap.size w w1 by rw [hw1]; exact ((Below.refl _ w).alloc (Nat.le_refl _) _).trans (Lib.below_grow _ _ (by simp) _ _)); clear hw1)
    go_ret
    exact ⟨by rw [HT.out]; rfl, HB.out⟩
  · rw [ec] at htx ⊢
    have hq : t.txt k = quoteL t.s := htx
    have hql : t.s.length ≤ 200000000 := by
      rw [hq] at hlen
      have h : ∀ l : Bs, l.length ≤ (l.flatMap quoteB).length := by
        intro l
        induction l with
        | nil => simp
        | cons c r ih =>
          have : 1 ≤ (quoteB c).length := by
            unfold quoteB
            repeat (first | split | simp)
          simp only [List.flatMap_cons, List.length_append, List.length_cons]
          omega
      have := h t.s
      unfold quoteL at hlen
      simp only [List.length_append, List.length_cons, List.length_nil] at hlen
      omega
    have hQ := fun w => quote_any (bs t.s) w (by rw [bs_size]; exact hql)
    rw [bs_list, ← hq] at hQ
    have HQ := Lib.hid hQ
    clear htx hfine hlen hg ec hQ hq hql
    go_enter Tryd.func55, Tryd.ntmps55
    go_wp2_with (go_at_call 51; refine (HQ.out _).mono ?_; rintro e w1 ⟨rfl, hb⟩; have HB := Lib.hid hb; clear hb)
    go_ret
    exact ⟨rfl, ((Below.refl _ w).alloc (Nat.le_refl _) _).trans (HB.out.mono (by simp))⟩
  · rw [ec] at htx ⊢
    have HT := Lib.hid (show bs (t.txt k) = bs (form 4 t.s t.n (op0 t.l) (t.l.map (Tr.txt k))) from congrArg bs htx)
    clear htx hfine hlen hg ec
    go_enter Tryd.func55, Tryd.ntmps55
    go_wp2
    go_ret
    exact ⟨by rw [HT.out]; rfl, (Below.refl _ w).alloc (Nat.le_refl _) _⟩
  · rw [ec] at htx ⊢
    have HT := Lib.hid (show bs (t.txt k) = bs (form 5 t.s t.n (op0 t.l) (t.l.map (Tr.txt k))) from congrArg bs htx)
    clear htx hfine hlen hg ec
    go_enter Tryd.func55, Tryd.ntmps55
    go_wp2
    go_ret
    exact ⟨by rw [HT.out]; rfl, (Below.refl _ w).alloc (Nat.le_refl _) _⟩
  · rw [ec] at htx ⊢
    have HT := Lib.hid (show bs (t.txt k) = bs (form 6 t.s t.n (op0 t.l) (t.l.map (Tr.txt k))) from congrArg bs htx)
    clear htx hfine hlen hg ec
    go_enter Tryd.func55, Tryd.ntmps55
    go_wp2
    go_ret
    exact ⟨by rw [HT.out]; rfl, (Below.refl _ w).alloc (Nat.le_refl _) _⟩
  · rw [ec] at htx ⊢
    have HT := Lib.hid (show bs (t.txt k) = bs (form 7 t.s t.n (op0 t.l) (t.l.map (Tr.txt k))) from congrArg bs htx)
    clear htx hfine hlen hg ec
    go_enter Tryd.func55, Tryd.ntmps55
    go_wp2
    go_ret
    exact ⟨by rw [HT.out]; rfl, (Below.refl _ w).alloc (Nat.le_refl _) _⟩
  · rw [ec] at htx ⊢
    have HT := Lib.hid (show bs (t.txt k) = bs (form 8 t.s t.n (op0 t.l) (t.l.map (Tr.txt k))) from congrArg bs htx)
    clear htx hfine hlen hg ec
    go_enter Tryd.func55, Tryd.ntmps55
    go_wp2
    go_ret
    exact ⟨by rw [HT.out]; rfl, (Below.refl _ w).alloc (Nat.le_refl _) _⟩
  · rw [ec] at htx ⊢
    have HT := Lib.hid (show bs (t.txt k) = bs (form 9 t.s t.n (op0 t.l) (t.l.map (Tr.txt k))) from congrArg bs htx)
    clear htx hfine hlen hg ec
    go_enter Tryd.func55, Tryd.ntmps55
    go_wp2
    go_ret
    exact ⟨by rw [HT.out]; rfl, (Below.refl _ w).alloc (Nat.le_refl _) _⟩
end Go.Proofs.YtiejpenffpjmeaaDoor
