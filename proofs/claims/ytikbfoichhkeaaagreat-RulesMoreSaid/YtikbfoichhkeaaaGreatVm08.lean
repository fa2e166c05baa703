/- Where the parts of a tree lie, and their numbers, that are given one by one. No program. -/
import Derived.Test.YtikbfoichhkeaaaGreatVm03
import Derived.Test.YtikbfoichhkeaaaGreatVm07
set_option linter.unusedSimpArgs false
set_option linter.unusedVariables false
set_option maxRecDepth 100000
set_option maxHeartbeats 40000000
namespace Go.Proofs.YtikbfoichhkeaaaGreat
section
open Go.RowKit Go.Proofs
def rowB (v : Value) : Nat := v.ownBlock.getD 0
structure Ev6 where
 b : Nat
 o : Nat
 x : Lo
 fn : Int
 loop : Bool
 no : Nat
def Ev6.ev (e : Ev6) : Ev5 := ⟨e.x.tree, e.fn, e.loop, e.no⟩
def Ev6.ad (e : Ev6) : Nat × Nat := (e.b, e.o)
mutual
def evA : Lo → Nat → Nat → Int → Bool → Nat → List Ev6
 | .mk op s n i v l, b, o, a, loop, k => ⟨b, o, .mk op s n i v l, a, loop, k⟩ :: (if isFun op then evAL l (rowB v) 0 k false (k + 1) else evAL l (rowB v) 0 a (loop || (op == 34 || op == 35)) k)
def evAL : List Lo → Nat → Nat → Int → Bool → Nat → List Ev6
 | [], _, _, _, _, _ => []
 | x :: r, b, o, a, loop, k => evA x b o a loop k ++ evAL r b (o + 5) a loop (k + nfunT x.tree)
end
theorem evA_eq (x : Lo) (b o : Nat) (a : Int) (loop : Bool) (k : Nat) : evA x b o a loop k = ⟨b, o, x, a, loop, k⟩ :: (if isFun x.op then evAL x.l (rowB x.v) 0 k false (k + 1) else evAL x.l (rowB x.v) 0 a (loop || (x.op == 34 || x.op == 35)) k) := by
 cases x; rw [evA]; rfl
theorem evAL_nil (b o : Nat) (a : Int) (loop : Bool) (k : Nat) : evAL [] b o a loop k = [] := by rw [evAL]
theorem evAL_cons (x : Lo) (r : List Lo) (b o : Nat) (a : Int) (loop : Bool) (k : Nat) : evAL (x :: r) b o a loop k = evA x b o a loop k ++ evAL r b (o + 5) a loop (k + nfunT x.tree) := by rw [evAL]
mutual
theorem evA_ev : ∀ (x : Lo) (b o : Nat) (a : Int) (loop : Bool) (k : Nat), (evA x b o a loop k).map Ev6.ev = evT x.tree a loop k
 | .mk op s n i v l, b, o, a, loop, k => by
  rw [evA, List.map_cons, Lo.tree, evT]
  by_cases hf : isFun op = true
  ·rw [if_pos hf, if_pos hf, evAL_ev l]
   rfl
  ·rw [if_neg hf, if_neg hf, evAL_ev l]
   rfl
theorem evAL_ev : ∀ (l : List Lo) (b o : Nat) (a : Int) (loop : Bool) (k : Nat), (evAL l b o a loop k).map Ev6.ev = evL (trees l) a loop k
 | [], b, o, a, loop, k => by rw [evAL, trees, evL]; rfl
 | x :: r, b, o, a, loop, k => by rw [evAL, trees, evL, List.map_append, evA_ev x, evAL_ev r]
end
mutual
def adA : Lo → Nat → Nat → List (Nat × Nat)
 | .mk _ _ _ _ v l, b, o => (b, o) :: adL l (rowB v) 0
def adL : List Lo → Nat → Nat → List (Nat × Nat)
 | [], _, _ => []
 | x :: r, b, o => adA x b o ++ adL r b (o + 5)
end
theorem adA_eq (x : Lo) (b o : Nat) : adA x b o = (b, o) :: adL x.l (rowB x.v) 0 := by cases x; rw [adA]; rfl
mutual
theorem evA_ad : ∀ (x : Lo) (b o : Nat) (a : Int) (loop : Bool) (k : Nat), (evA x b o a loop k).map Ev6.ad = adA x b o
 | .mk op s n i v l, b, o, a, loop, k => by
  rw [evA, List.map_cons, adA]
  by_cases hf : isFun op = true
  ·rw [if_pos hf, evAL_ad l]
   rfl
  ·rw [if_neg hf, evAL_ad l]
   rfl
theorem evAL_ad : ∀ (l : List Lo) (b o : Nat) (a : Int) (loop : Bool) (k : Nat), (evAL l b o a loop k).map Ev6.ad = adL l b o
 | [], b, o, a, loop, k => by rw [evAL, adL]; rfl
 | x :: r, b, o, a, loop, k => by rw [evAL, adL, List.map_append, evA_ad x, evAL_ad r]
end
mutual
theorem adA_len : ∀ (x : Lo) (b o : Nat), (adA x b o).length = x.size
 | .mk op s n i v l, b, o => by rw [adA, Lo.size, List.length_cons, adL_len l]; omega
theorem adL_len : ∀ (l : List Lo) (b o : Nat), (adL l b o).length = loSizes l
 | [], b, o => by rw [adL, loSizes]; rfl
 | x :: r, b, o => by rw [adL, loSizes, List.length_append, adA_len x, adL_len r]
end
theorem evA_len (x : Lo) (b o : Nat) (a : Int) (loop : Bool) (k : Nat) : (evA x b o a loop k).length = x.size := by
 rw [← adA_len x b o, ← evA_ad x b o a loop k, List.length_map]
mutual
def Lo.ok : Lo → Prop
 | .mk _ _ _ _ v l => (l = [] ∨ ∃ g, v.ownBlock = some g) ∧ okLo l
def okLo : List Lo → Prop
 | [] => True
 | x :: r => x.ok ∧ okLo r
end
mutual
theorem Lies.ok : ∀ {W : World} (x : Lo), Lies W x → x.ok
 | W, .mk op s n i v l, h => by
  rw [Lies] at h
  rw [Lo.ok]
  refine ⟨?_, LiesL.ok l h.2.2.2⟩
  rcases h.2.1 with ⟨h1, -⟩ | ⟨g, rfl, -⟩
  ·exact .inl h1
  ·exact .inr ⟨g, rfl⟩
theorem LiesL.ok : ∀ {W : World} (l : List Lo), LiesL W l → okLo l
 | W, [], h => by rw [okLo]; trivial
 | W, x :: r, h => by
  rw [LiesL] at h
  rw [okLo]
  exact ⟨Lies.ok x h.1, LiesL.ok r h.2⟩
end
mutual
theorem adL_mem : ∀ (l : List Lo) (g o : Nat), okLo l → ∀ p ∈ adL l g o, (p.1 = g ∧ o ≤ p.2 ∧ (p.2 - o) % 5 = 0) ∨ (p.1 ∈ blksL l ∧ p.2 % 5 = 0)
 | [], g, o, _, p, hp => by rw [adL] at hp; cases hp
 | x :: r, g, o, hok, p, hp => by
  rw [okLo] at hok
  rw [adL, List.mem_append] at hp
  rw [blksL_cons]
  rcases hp with hp | hp
  ·rcases adA_mem x g o hok.1 p hp with h | h
   ·subst h
    exact .inl ⟨rfl, Nat.le_refl _, by simp⟩
   ·exact .inr ⟨List.mem_append.2 (.inl h.1), h.2⟩
  ·rcases adL_mem r g (o + 5) hok.2 p hp with h | h
   ·exact .inl ⟨h.1, by omega, by omega⟩
   ·exact .inr ⟨List.mem_append.2 (.inr h.1), h.2⟩
theorem adA_mem : ∀ (x : Lo) (b o : Nat), x.ok → ∀ p ∈ adA x b o, p = (b, o) ∨ (p.1 ∈ x.blks ∧ p.2 % 5 = 0)
 | .mk op s n i v l, b, o, hok, p, hp => by
  rw [Lo.ok] at hok
  rw [adA] at hp
  rw [Lo.blks]
  rcases List.mem_cons.1 hp with h | hp
  ·exact .inl h
  ·refine .inr ?_
   rcases adL_mem l (rowB v) 0 hok.2 p hp with h | h
   ·rcases hok.1 with rfl | ⟨g, hg⟩
    ·rw [adL] at hp; cases hp
    ·refine ⟨List.mem_append.2 (.inl ?_), by omega⟩
     rw [h.1, rowB, hg]
     simp
   ·exact ⟨List.mem_append.2 (.inr h.1), h.2⟩
end
mutual
theorem adL_nodup : ∀ (l : List Lo) (g o : Nat), okLo l → (blksL l).Nodup → g ∉ blksL l → (adL l g o).Nodup
 | [], g, o, _, _, _ => by rw [adL]; exact List.nodup_nil
 | x :: r, g, o, hok, hn, hg => by
  rw [okLo] at hok
  rw [blksL_cons] at hn hg
  rw [List.nodup_append] at hn
  rw [List.mem_append] at hg
  rw [adL, List.nodup_append]
  refine ⟨adA_nodup x g o hok.1 hn.1 (fun h => hg (.inl h)), adL_nodup r g (o + 5) hok.2 hn.2.1 (fun h => hg (.inr h)), fun p hp q hq e => ?_⟩
  subst e
  rcases adA_mem x g o hok.1 p hp with h | h <;> rcases adL_mem r g (o + 5) hok.2 p hq with h' | h'
  ·subst h
   simp only at h'
   omega
  ·subst h
   exact hg (.inr h'.1)
  ·exact hg (.inl (h'.1 ▸ h.1))
  ·exact hn.2.2 _ h.1 _ h'.1 rfl
theorem adA_nodup : ∀ (x : Lo) (b o : Nat), x.ok → x.blks.Nodup → b ∉ x.blks → (adA x b o).Nodup
 | .mk op s n i v l, b, o, hok, hn, hb => by
  have hok0 := hok
  rw [Lo.ok] at hok
  rw [Lo.blks] at hn hb
  rw [List.nodup_append] at hn
  rw [List.mem_append] at hb
  rw [adA, List.nodup_cons]
  rcases hok.1 with rfl | ⟨g, hg⟩
  ·rw [adL]
   exact ⟨by simp, List.nodup_nil⟩
  ·have hr : rowB v = g := by rw [rowB, hg]; rfl
   rw [hg] at hn hb
   simp only [Option.toList_some, List.mem_singleton] at hn hb
   rw [hr]
   refine ⟨fun hm => ?_, adL_nodup l g 0 hok.2 hn.2.1 (fun h => hn.2.2 g rfl g h rfl)⟩
   rcases adL_mem l g 0 hok.2 _ hm with h | h
   ·exact hb (.inl h.1)
   ·exact hb (.inr h.1)
end
def I64' (n : Int) : Prop := -9223372036854775808 ≤ n ∧ n ≤ 9223372036854775807
mutual
def Stat (W : World) : Lo → Nat → Nat → Prop
 | .mk op s _ i v l, b, o => (s.length ≤ maxLen ∧ I64' op) ∧ (W.cell? ⟨b, o, none⟩ = some (.int .i64 op) ∧ W.cell? ⟨b, o + 1, none⟩ = some (.string (bs s)) ∧ W.cell? ⟨b, o + 3, none⟩ = some v ∧ W.cell? ⟨b, o + 4, none⟩ = some (.int .i64 i)) ∧
   ((l = [] ∧ v = .slice none 0 0) ∨ ∃ g, v = .slice (some ⟨g, 0, none⟩) l.length l.length) ∧ l.length ≤ maxLen ∧ StatL W l (rowB v) 0
def StatL (W : World) : List Lo → Nat → Nat → Prop
 | [], _, _ => True
 | x :: r, b, o => Stat W x b o ∧ StatL W r b (o + 5)
end
theorem Stat_eq (W : World) (x : Lo) (b o : Nat) : Stat W x b o ↔ (x.s.length ≤ maxLen ∧ I64' x.op) ∧ (W.cell? ⟨b, o, none⟩ = some (.int .i64 x.op) ∧ W.cell? ⟨b, o + 1, none⟩ = some (.string (bs x.s)) ∧ W.cell? ⟨b, o + 3, none⟩ = some x.v ∧ W.cell? ⟨b, o + 4, none⟩ = some (.int .i64 x.line)) ∧
      ((x.l = [] ∧ x.v = .slice none 0 0) ∨ ∃ g, x.v = .slice (some ⟨g, 0, none⟩) x.l.length x.l.length) ∧ x.l.length ≤ maxLen ∧ StatL W x.l (rowB x.v) 0 := by cases x; rw [Stat]; rfl
theorem StatL_get {W : World} : ∀ (l : List Lo) (b o i : Nat) (x : Lo), StatL W l b o → l[i]? = some x → Stat W x b (o + i * 5)
 | a :: r, b, o, 0, x, h, hx => by
  rw [StatL] at h
  simp at hx
  subst hx
  simpa using h.1
 | a :: r, b, o, i + 1, x, h, hx => by
  rw [StatL] at h
  rw [show o + (i + 1) * 5 = o + 5 + i * 5 by omega]
  exact StatL_get r b (o + 5) i x h.2 (by simpa using hx)
abbrev NotNum (o : Nat) : Prop := o % 5 ≠ 2
mutual
theorem Stat.keep : ∀ {W W' : World} (x : Lo) (b o : Nat), Stat W x b o → x.ok → o % 5 = 0 → (∀ g j, g = b ∨ g ∈ x.blks → NotNum j → W'.cell? ⟨g, j, none⟩ = W.cell? ⟨g, j, none⟩) → Stat W' x b o
 | W, W', .mk op s n i v l, b, o, h, hok, ho, hk => by
  rw [Lo.ok] at hok
  rw [Stat] at h ⊢
  obtain ⟨h0, ⟨h1, h2, h3, h4⟩, h5, h6, h7⟩ := h
  have key : ∀ j, NotNum j → W'.cell? ⟨b, j, none⟩ = W.cell? ⟨b, j, none⟩ := fun j hj => hk b j (.inl rfl) hj
  refine ⟨h0, ⟨(key _ (by unfold NotNum; omega)).trans h1, (key _ (by unfold NotNum; omega)).trans h2, (key _ (by unfold NotNum; omega)).trans h3, (key _ (by unfold NotNum; omega)).trans h4⟩, h5, h6, ?_⟩
  rcases hok.1 with rfl | ⟨g, hg⟩
  ·rw [StatL]; trivial
  ·refine StatL.keep l _ 0 h7 hok.2 rfl fun g' j hg' hj => hk g' j (.inr ?_) hj
   rw [Lo.blks, List.mem_append]
   rcases hg' with rfl | hg'
   ·left
    rw [rowB, hg]
    simp
   ·exact .inr hg'
theorem StatL.keep : ∀ {W W' : World} (l : List Lo) (b o : Nat), StatL W l b o → okLo l → o % 5 = 0 → (∀ g j, g = b ∨ g ∈ blksL l → NotNum j → W'.cell? ⟨g, j, none⟩ = W.cell? ⟨g, j, none⟩) → StatL W' l b o
 | W, W', [], b, o, _, _, _, _ => by rw [StatL]; trivial
 | W, W', x :: r, b, o, h, hok, ho, hk => by
  rw [okLo] at hok
  rw [StatL] at h ⊢
  rw [blksL_cons] at hk
  exact ⟨Stat.keep x b o h.1 hok.1 ho fun g j hg hj => hk g j (hg.imp id fun h => List.mem_append.2 (.inl h)) hj,
   StatL.keep r b (o + 5) h.2 hok.2 (by omega) fun g j hg hj => hk g j (hg.imp id fun h => List.mem_append.2 (.inr h)) hj⟩
end
mutual
def numsO : Lo → List Int
 | .mk _ _ n _ _ l => n :: numsOL l
def numsOL : List Lo → List Int
 | [] => []
 | x :: r => numsO x ++ numsOL r
end
theorem numsO_eq (x : Lo) : numsO x = x.n :: numsOL x.l := by cases x; rw [numsO]; rfl
mutual
theorem numsO_len : ∀ x : Lo, (numsO x).length = x.size
 | .mk op s n i v l => by rw [numsO, Lo.size, List.length_cons, numsOL_len l]; omega
theorem numsOL_len : ∀ l : List Lo, (numsOL l).length = loSizes l
 | [] => by rw [numsOL, loSizes]; rfl
 | x :: r => by rw [numsOL, loSizes, List.length_append, numsO_len x, numsOL_len r]
end
def NumsAt (W : World) (ads : List (Nat × Nat)) (ns : List Int) : Prop := ads.length = ns.length ∧ ∀ (i : Nat) (p : Nat × Nat) (n : Int), ads[i]? = some p → ns[i]? = some n → W.cell? ⟨p.1, p.2 + 2, none⟩ = some (.int .i64 n) ∧ I64' n
theorem NumsAt.app {W : World} {a b : List (Nat × Nat)} {m n : List Int} (h : NumsAt W a m) (h' : NumsAt W b n) : NumsAt W (a ++ b) (m ++ n) := by
 refine ⟨by rw [List.length_append, List.length_append, h.1, h'.1], fun i p k hp hk => ?_⟩
 by_cases hi : i < a.length
 ·rw [List.getElem?_append_left hi] at hp
  rw [List.getElem?_append_left (by rw [← h.1]; exact hi)] at hk
  exact h.2 i p k hp hk
 ·rw [List.getElem?_append_right (by omega)] at hp
  rw [List.getElem?_append_right (by rw [← h.1]; omega), ← h.1] at hk
  exact h'.2 _ p k hp hk
theorem NumsAt.left {W : World} {a b : List (Nat × Nat)} {m n : List Int} (h : NumsAt W (a ++ b) (m ++ n)) (hl : a.length = m.length) : NumsAt W a m := by
 refine ⟨hl, fun i p k hp hk => ?_⟩
 exact h.2 i p k (by rw [List.getElem?_append_left (List.getElem?_eq_some_iff.1 hp).1]; exact hp) (by rw [List.getElem?_append_left (List.getElem?_eq_some_iff.1 hk).1]; exact hk)
theorem NumsAt.right {W : World} {a b : List (Nat × Nat)} {m n : List Int} (h : NumsAt W (a ++ b) (m ++ n)) (hl : a.length = m.length) : NumsAt W b n := by
 have h1 := h.1
 rw [List.length_append, List.length_append] at h1
 refine ⟨by omega, fun i p k hp hk => ?_⟩
 exact h.2 (a.length + i) p k (by rw [List.getElem?_append_right (by omega), Nat.add_sub_cancel_left]; exact hp) (by rw [hl, List.getElem?_append_right (by omega), Nat.add_sub_cancel_left]; exact hk)
theorem NumsAt.keep {W W' : World} {a : List (Nat × Nat)} {m : List Int} (h : NumsAt W a m) (hk : ∀ p ∈ a, W'.cell? ⟨p.1, p.2 + 2, none⟩ = W.cell? ⟨p.1, p.2 + 2, none⟩) : NumsAt W' a m :=
 ⟨h.1, fun i p k hp hk' => ⟨(hk p (List.mem_of_getElem? hp)).trans (h.2 i p k hp hk').1, (h.2 i p k hp hk').2⟩⟩
mutual
def numO : Lo → List Int → Lo × List Int
 | .mk op s n i v l, [] => (.mk op s n i v l, [])
 | .mk op s _ i v l, k :: r => (.mk op s k i v (numOL l r).1, (numOL l r).2)
def numOL : List Lo → List Int → List Lo × List Int
 | [], r => ([], r)
 | t :: ts, r => ((numO t r).1 :: (numOL ts (numO t r).2).1, (numOL ts (numO t r).2).2)
end
mutual
theorem numO_tree : ∀ (x : Lo) (r : List Int), ((numO x r).1.tree, (numO x r).2) = numT x.tree r
 | .mk op s n i v l, [] => by rw [numO, Lo.tree, numT]
 | .mk op s n i v l, k :: r => by
  have := numOL_tree l r
  rw [Prod.ext_iff] at this
  simp only at this
  rw [numO, Lo.tree, Lo.tree, numT, this.1, this.2]
theorem numOL_tree : ∀ (l : List Lo) (r : List Int), (trees (numOL l r).1, (numOL l r).2) = numL (trees l) r
 | [], r => by rw [numOL, trees, numL]
 | x :: ts, r => by
  have h1 := numO_tree x r
  rw [Prod.ext_iff] at h1
  simp only at h1
  have h2 := numOL_tree ts (numO x r).2
  rw [Prod.ext_iff] at h2
  simp only at h2
  rw [numOL, trees, trees, numL, ← h1.1, ← h1.2, ← h2.1, ← h2.2]
end
mutual
theorem numO_self : ∀ (x : Lo) (r : List Int), numO x (numsO x ++ r) = (x, r)
 | .mk op s n i v l, r => by rw [numsO, List.cons_append, numO, numOL_self l r]
theorem numOL_self : ∀ (l : List Lo) (r : List Int), numOL l (numsOL l ++ r) = (l, r)
 | [], r => by rw [numsOL, numOL]; rfl
 | x :: ts, r => by rw [numsOL, List.append_assoc, numOL, numO_self x, numOL_self ts]
end
theorem split_at {ns : List Int} {k m : Nat} (h : ns.length = k + m) : ∃ a b, ns = a ++ b ∧ a.length = k ∧ b.length = m :=
 ⟨ns.take k, ns.drop k, (List.take_append_drop k ns).symm, by simp; omega, by simp; omega⟩
mutual
theorem numO_take : ∀ (x : Lo) (a b : List Int), a.length = x.size → (numO x (a ++ b)).2 = b ∧ (numO x (a ++ b)).1 = (numO x a).1
 | .mk op s n i v l, a, b, h => by
  rw [Lo.size] at h
  cases a with
  | nil => simp at h; omega
  | cons k r =>
   have := numOL_take l r b (by simp at h; omega)
   rw [List.cons_append, numO, numO, this.1, this.2]
   exact ⟨rfl, rfl⟩
theorem numOL_take : ∀ (l : List Lo) (a b : List Int), a.length = loSizes l → (numOL l (a ++ b)).2 = b ∧ (numOL l (a ++ b)).1 = (numOL l a).1
 | [], a, b, h => by
  rw [loSizes] at h
  obtain rfl := List.eq_nil_of_length_eq_zero h
  rw [List.nil_append, numOL, numOL]
  exact ⟨rfl, rfl⟩
 | x :: ts, a, b, h => by
  rw [loSizes] at h
  obtain ⟨a1, a2, rfl, h1, h2⟩ := split_at h
  have e1 := numO_take x a1 (a2 ++ b) h1
  have e2 := numO_take x a1 a2 h1
  have e3 := numOL_take ts a2 b h2
  rw [List.append_assoc, numOL, numOL, e1.1, e1.2, e2.1, e2.2, e3.1, e3.2]
  exact ⟨rfl, rfl⟩
end
theorem numO_parts (x : Lo) (ns : List Int) : (numO x ns).1.op = x.op ∧ (numO x ns).1.s = x.s ∧ (numO x ns).1.v = x.v ∧ (numO x ns).1.line = x.line := by
 cases x with
 | mk op s n i v l => cases ns <;> rw [numO] <;> exact ⟨rfl, rfl, rfl, rfl⟩
theorem numOL_len : ∀ (l : List Lo) (ns : List Int), (numOL l ns).1.length = l.length
 | [], ns => by rw [numOL]
 | x :: r, ns => by rw [numOL, List.length_cons, List.length_cons, numOL_len r]
mutual
theorem lo_of : ∀ {W : World} {S : Nat → Prop} (x : Lo) (b o : Nat) (ns : List Int), Stat W x b o → NumsAt W (adA x b o) ns → (∀ g ∈ x.blks, S g) → LoAt W S (numO x ns).1 ∧ W.cell? ⟨b, o + 2, none⟩ = some (.int .i64 (numO x ns).1.n)
 | W, S, .mk op s n i v l, b, o, [], h, hN, hS => by
  have := hN.1
  rw [adA] at this
  cases this
 | W, S, .mk op s n i v l, b, o, k :: r, h, hN, hS => by
  rw [Stat] at h
  rw [adA] at hN
  rw [Lo.blks] at hS
  obtain ⟨h0, -, h5, h6, h7⟩ := h
  have hk := hN.2 0 _ _ rfl rfl
  have hN' : NumsAt W (adL l (rowB v) 0) r := NumsAt.right (a := [(b, o)]) (m := [k]) hN rfl
  rw [numO]
  refine ⟨?_, hk.1⟩
  rw [LoAt]
  refine ⟨⟨h0.1, h0.2, hk.2⟩, ?_⟩
  have hlen := numOL_len l r
  rcases h5 with ⟨rfl, rfl⟩ | ⟨g, rfl⟩
  ·refine ⟨none, 0, by rw [hlen]; rfl, ⟨by rw [hlen]; simp, by simp [maxLen]⟩, fun hl => by rw [hlen] at hl; simp at hl⟩
  ·refine ⟨_, _, by rw [hlen], ⟨by rw [hlen]; exact Nat.le_refl _, h6⟩, fun _ => ⟨g, 0, rfl, hS g (by simp [Value.ownBlock]), ?_⟩⟩
   exact lo_ofL l g 0 r h7 hN' (fun g' hg' => hS g' (List.mem_append.2 (.inr hg')))
theorem lo_ofL : ∀ {W : World} {S : Nat → Prop} (l : List Lo) (b o : Nat) (ns : List Int), StatL W l b o → NumsAt W (adL l b o) ns → (∀ g ∈ blksL l, S g) → LoAtL W S b o (numOL l ns).1
 | W, S, [], b, o, ns, h, hN, hS => by rw [numOL]; exact LoAtL_nil _ _ _ _
 | W, S, x :: r, b, o, ns, h, hN, hS => by
  rw [StatL] at h
  rw [adL] at hN
  rw [blksL_cons] at hS
  have hl := hN.1
  rw [List.length_append, adA_len] at hl
  obtain ⟨a1, a2, rfl, e1, e2⟩ := split_at hl.symm
  have hl1 : (adA x b o).length = a1.length := by rw [adA_len, e1]
  have hN1 := hN.left hl1
  have hN2 := hN.right hl1
  have e3 := numO_take x a1 a2 e1
  obtain ⟨k1, k2⟩ := lo_of x b o a1 h.1 hN1 (fun g hg => hS g (List.mem_append.2 (.inl hg)))
  rw [numOL, e3.1, e3.2, LoAtL_cons]
  have hp := numO_parts x a1
  have hst := (Stat_eq W x b o).1 h.1
  refine ⟨⟨k1, ?_, ?_, k2, ?_, ?_⟩, lo_ofL r b (o + 5) a2 h.2 hN2 (fun g hg => hS g (List.mem_append.2 (.inr hg)))⟩
  ·rw [hp.1]; exact hst.2.1.1
  ·rw [hp.2.1]; exact hst.2.1.2.1
  ·rw [hp.2.2.1]; exact hst.2.1.2.2.1
  ·rw [hp.2.2.2]; exact hst.2.1.2.2.2
end
mutual
theorem Lies.stat : ∀ {W : World} (x : Lo) (b o : Nat), Lies W x → (W.cell? ⟨b, o, none⟩ = some (.int .i64 x.op) ∧ W.cell? ⟨b, o + 1, none⟩ = some (.string (bs x.s)) ∧ W.cell? ⟨b, o + 2, none⟩ = some (.int .i64 x.n) ∧ W.cell? ⟨b, o + 3, none⟩ = some x.v ∧ W.cell? ⟨b, o + 4, none⟩ = some (.int .i64 x.line)) → Stat W x b o ∧ NumsAt W (adA x b o) (numsO x)
 | W, .mk op s n i v l, b, o, h, ⟨c0, c1, c2, c3, c4⟩ => by
  rw [Lies] at h
  obtain ⟨h0, h1, h2, h3⟩ := h
  rw [Stat, adA, numsO]
  have key : StatL W l (rowB v) 0 ∧ NumsAt W (adL l (rowB v) 0) (numsOL l) := by
   rcases h1 with ⟨rfl, -⟩ | ⟨g, rfl, hb⟩
   ·rw [StatL, adL, numsOL]
    exact ⟨trivial, rfl, fun i p n hp => by simp at hp⟩
   ·exact LiesL.stat l g 0 [] h3 rfl (by rw [List.nil_append]; exact hb)
  refine ⟨⟨⟨h0.1, h0.2.1⟩, ⟨c0, c1, c3, c4⟩, h1.imp id (fun ⟨g, e, _⟩ => ⟨g, e⟩), h2, key.1⟩, ?_⟩
  refine NumsAt.app (a := [(b, o)]) (m := [n]) ⟨rfl, fun j p k hp hk => ?_⟩ key.2
  cases j with
  | zero =>
   simp only [List.getElem?_cons_zero, Option.some.injEq] at hp hk
   subst hp hk
   exact ⟨c2, h0.2.2⟩
  | succ j => simp at hp
theorem LiesL.stat : ∀ {W : World} (l : List Lo) (g o : Nat) (pre : List Value), LiesL W l → pre.length = o → W.heap[g]? = some (.cells (pre ++ fivesO l).toArray 24 (0, 0)) → StatL W l g o ∧ NumsAt W (adL l g o) (numsOL l)
 | W, [], g, o, pre, h, hp, hb => by
  rw [StatL, adL, numsOL]
  exact ⟨trivial, rfl, fun i p n hp => by simp at hp⟩
 | W, x :: r, g, o, pre, h, hp, hb => by
  rw [LiesL] at h
  rw [StatL, adL, numsOL]
  have key : ∀ j u, (fiveO x)[j]? = some u → W.cell? ⟨g, o + j, none⟩ = some u := fun j u hj => by
   have hj5 := (List.getElem?_eq_some_iff.1 hj).1
   rw [cell_of_row _ _ _ _ _ _ hb, ← Array.getElem?_toList, List.toList_toArray, ← hp, List.getElem?_append_right (by omega), Nat.add_sub_cancel_left, fivesO_cons, List.getElem?_append_left hj5]
   exact hj
  obtain ⟨k1, k2⟩ := Lies.stat x g o h.1 ⟨key 0 _ rfl, key 1 _ rfl, key 2 _ rfl, key 3 _ rfl, key 4 _ rfl⟩
  obtain ⟨k3, k4⟩ := LiesL.stat r g (o + 5) (pre ++ fiveO x) h.2 (by rw [List.length_append, hp]; rfl) (by rw [List.append_assoc, ← fivesO_cons]; exact hb)
  exact ⟨⟨k1, k3⟩, k2.app k4⟩
end
end
end Go.Proofs.YtikbfoichhkeaaaGreat
