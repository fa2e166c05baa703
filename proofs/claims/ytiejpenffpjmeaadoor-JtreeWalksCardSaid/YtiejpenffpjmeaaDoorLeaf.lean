/- jtree.leaf. -/
import Derived.Test.YtiejpenffpjmeaaDoorConstr
import Derived.Lib.AppendIntMem
namespace Go.Proofs.YtiejpenffpjmeaaDoor
open Go.RowKit Go.Proofs

theorem bs_lit (a : Array UInt8) : (⟨a⟩ : ByteArray) = bs a.toList := by unfold bs; simp

set_option maxHeartbeats 4000000 in
theorem leaf_any (k : Nat) (t : Tr) (v : Value) (w : World) (hAt : At w w.heap.size t v) (hg : soundOne t = true) (h1 : 1 ≤ t.op) (h2 : t.op ≤ 9) (hlen : (t.txt k).length ≤ 100000000) (he : Env w) :
    Calls Tryd.prog 55 #[v] w fun e w' => e = .returned (.string (bs (t.txt k))) ∧ Below w.heap.size w w' := by
  rw [At_iff] at hAt
  obtain ⟨u, rfl, hrow, hfine⟩ := hAt
  obtain ⟨Ax, cx, rfl, -, -⟩ := row_at hrow
  have htx := txt_form k t (by omega)
  unfold nodeV
  have hE : ∀ o, Env (w.alloc o) := fun o => he.below ((Below.refl _ w).alloc (Nat.le_refl _) _)
  obtain ⟨c, ec⟩ : ∃ c, t.op = c := ⟨_, rfl⟩
  have hcs : c = 1 ∨ c = 2 ∨ c = 3 ∨ c = 4 ∨ c = 5 ∨ c = 6 ∨ c = 7 ∨ c = 8 ∨ c = 9 := by omega
  clear h1 h2 hrow he
  rcases hcs with rfl | rfl | rfl | rfl | rfl | rfl | rfl | rfl | rfl
  · rw [ec] at htx ⊢
    have HT := Lib.hid (show t.txt k = t.s from htx)
    clear htx hfine hlen hg ec
    go_enter Tryd.func55, Tryd.ntmps55
    go_wp2
    go_ret
    exact ⟨by rw [HT.out]; rfl, (Below.refl _ w).alloc (Nat.le_refl _) _⟩
  · have hi := (inv_2 ec).1 hg
    rw [ec] at htx ⊢
    have hF := fun w (h : Env w) => Tryd.strconv_FormatInt_10 t.n (by omega) (by omega) w h
    have hit : Lib.itoa t.n = Lib.decDigits t.n.toNat := by unfold Lib.itoa; rw [if_neg (by omega)]
    have HF := Lib.hid (fun o => hF _ (hE o))
    have HT := Lib.hid (show t.txt k = Lib.itoa t.n by rw [hit]; exact htx)
    clear htx hfine hlen hg ec hF hi hit hE
    go_enter Tryd.func55, Tryd.ntmps55
    go_wp2_with (go_at_call 72; refine (HF.out _).mono ?_; rintro e w1 ⟨rfl, m, os, hw1⟩; have HB := Lib.hid (show Below w.heap.size w w1 by rw [hw1]; exact ((Below.refl _ w).alloc (Nat.le_refl _) _).trans (Lib.below_grow _ _ (by simp) _ _)); clear hw1)
    go_ret
    exact ⟨by rw [HT.out]; rfl, HB.out⟩
  · rw [ec] at htx ⊢
    have hq : t.txt k = quoteL t.s := htx
    have hql : t.s.length ≤ 200000000 := by
      rw [hq] at hlen
      have h : ∀ l : Bs, l.length ≤ (l.flatMap quoteB).length := by
        intro l
        induction l with
        | nil => simp
        | cons c r ih =>
          have : 1 ≤ (quoteB c).length := by
            unfold quoteB
            repeat (first | split | simp)
          simp only [List.flatMap_cons, List.length_append, List.length_cons]
          omega
      have := h t.s
      unfold quoteL at hlen
      simp only [List.length_append, List.length_cons, List.length_nil] at hlen
      omega
    have hQ := fun w => quote_any (bs t.s) w (by rw [bs_size]; exact hql)
    rw [bs_list, ← hq] at hQ
    have HQ := Lib.hid hQ
    clear htx hfine hlen hg ec hQ hq hql
    go_enter Tryd.func55, Tryd.ntmps55
    go_wp2_with (go_at_call 51; refine (HQ.out _).mono ?_; rintro e w1 ⟨rfl, hb⟩; have HB := Lib.hid hb; clear hb)
    go_ret
    exact ⟨rfl, ((Below.refl _ w).alloc (Nat.le_refl _) _).trans (HB.out.mono (by simp))⟩
  · rw [ec] at htx ⊢
    have HT := Lib.hid (show bs (t.txt k) = bs (form 4 t.s t.n (op0 t.l) (t.l.map (Tr.txt k))) from congrArg bs htx)
    clear htx hfine hlen hg ec
    go_enter Tryd.func55, Tryd.ntmps55
    go_wp2
    go_ret
    exact ⟨by rw [HT.out]; rfl, (Below.refl _ w).alloc (Nat.le_refl _) _⟩
  · rw [ec] at htx ⊢
    have HT := Lib.hid (show bs (t.txt k) = bs (form 5 t.s t.n (op0 t.l) (t.l.map (Tr.txt k))) from congrArg bs htx)
    clear htx hfine hlen hg ec
    go_enter Tryd.func55, Tryd.ntmps55
    go_wp2
    go_ret
    exact ⟨by rw [HT.out]; rfl, (Below.refl _ w).alloc (Nat.le_refl _) _⟩
  · rw [ec] at htx ⊢
    have HT := Lib.hid (show bs (t.txt k) = bs (form 6 t.s t.n (op0 t.l) (t.l.map (Tr.txt k))) from congrArg bs htx)
    clear htx hfine hlen hg ec
    go_enter Tryd.func55, Tryd.ntmps55
    go_wp2
    go_ret
    exact ⟨by rw [HT.out]; rfl, (Below.refl _ w).alloc (Nat.le_refl _) _⟩
  · rw [ec] at htx ⊢
    have HT := Lib.hid (show bs (t.txt k) = bs (form 7 t.s t.n (op0 t.l) (t.l.map (Tr.txt k))) from congrArg bs htx)
    clear htx hfine hlen hg ec
    go_enter Tryd.func55, Tryd.ntmps55
    go_wp2
    go_ret
    exact ⟨by rw [HT.out]; rfl, (Below.refl _ w).alloc (Nat.le_refl _) _⟩
  · rw [ec] at htx ⊢
    have HT := Lib.hid (show bs (t.txt k) = bs (form 8 t.s t.n (op0 t.l) (t.l.map (Tr.txt k))) from congrArg bs htx)
    clear htx hfine hlen hg ec
    go_enter Tryd.func55, Tryd.ntmps55
    go_wp2
    go_ret
    exact ⟨by rw [HT.out]; rfl, (Below.refl _ w).alloc (Nat.le_refl _) _⟩
  · rw [ec] at htx ⊢
    have HT := Lib.hid (show bs (t.txt k) = bs (form 9 t.s t.n (op0 t.l) (t.l.map (Tr.txt k))) from congrArg bs htx)
    clear htx hfine hlen hg ec
    go_enter Tryd.func55, Tryd.ntmps55
    go_wp2
    go_ret
    exact ⟨by rw [HT.out]; rfl, (Below.refl _ w).alloc (Nat.le_refl _) _⟩
end Go.Proofs.YtiejpenffpjmeaaDoor
