/- graph.Reached: what is known amid it. -/
import Derived.Test.YtfiockconbaniaaGrKeys
import Derived.Test.YtfiockconbaniaaGrSearch
import Derived.Test.YtfiockconbaniaaGrRefR
namespace Go.Proofs.Ytfiockconbaniaa
set_option linter.unusedSimpArgs false
set_option linter.unusedVariables false
open Go.RowKit Go.Proofs Go.Maps Go.Sort Go.Shelf

abbrev marks (Ds : List Nat) : List Deferred := Ds.map fun D => { target := .collected D, args := #[] }
/-- Only marks have been taken. -/
structure Taken (Ds : List Nat) (w w' : World) : Prop where
  os : w'.os = w.os
  tape : w'.tape = w.tape
  output : w'.output = w.output
  size : w'.heap.size = w.heap.size
  block : ∀ k, k ∉ Ds → w'.heap[k]? = w.heap[k]?
theorem leaves_marks {F : Fence} {n : Nat} {P : Program} {fn : Func} {tmps : Array Value} {R : Ending → World → Prop} {u : FrameMode} (hu : u ≠ .run) : ∀ (Ds : List Nat) (w : World), Ds.Nodup → (∀ D ∈ Ds, w.heap[D]? = some (.deferred (some []))) →
    (∀ w', Taken Ds w w' → LeavesIn F n P fn tmps R [] u w') → LeavesInM F n P fn tmps R (marks Ds) u w
  | [], w, _, _, h => h w ⟨rfl, rfl, rfl, rfl, fun _ _ => rfl⟩
  | D :: r, w, hd, hD, h => by
    rw [List.nodup_cons] at hd
    refine ⟨hu, .inl ⟨D, _, rfl, run_takeDeferred (hD D List.mem_cons_self), leaves_marks hu r _ hd.2 (fun D' hD' => ?_) fun w' hw' => h w' ?_⟩⟩
    · exact (World.putObj_heap_other (fun e => hd.1 (by rw [← e]; exact hD'))).trans (hD D' (List.mem_cons_of_mem _ hD'))
    · have hgr := grownBy_putObj' w D (.deferred none)
      refine ⟨hw'.os.trans hgr.os, hw'.tape.trans hgr.tape, hw'.output.trans hgr.output, hw'.size.trans (by simp [World.putObj]), fun k hk => ?_⟩
      rw [List.mem_cons, not_or] at hk
      exact (hw'.block k hk.2).trans (World.putObj_heap_other hk.1)
/-- A queue whose own blocks are cells and maps, from lo on, none of X. -/
def IsFp (W : World) (lo : Nat) (X : Nat → Prop) (b k : Nat) (xs : List Int) : Prop :=
  ∃ F : Nat → Prop, IsF W F b k xs ∧ ∀ i, F i → lo ≤ i ∧ ¬ X i ∧ ∃ o, W.heap[i]? = some o ∧ plainO o = true
section
variable {W W' : World} {lo b k base : Nat} {X X' : Nat → Prop} {xs : List Int}
theorem IsF.shrink {F : Nat → Prop} (h : IsF W F b k xs) : ∃ F', IsF W F' b k xs ∧ ∀ i, F' i → F i ∧ ∃ o, W.heap[i]? = some o ∧ plainO o = true := by
  obtain ⟨m, A, n, c, D, h1, h2, h3, h4, h5, h6, h7, h8, h9⟩ := h
  have key : ∀ i, (i = b ∨ i = m ∨ (0 < c ∧ ∃ off, A = some ⟨i, off, none⟩)) → F i ∧ ∃ o, W.heap[i]? = some o ∧ plainO o = true := by
    rintro i (rfl | rfl | ⟨hc, off, e⟩)
    · exact ⟨h1, _, h3, rfl⟩
    · obtain ⟨es, clock, e1, -⟩ := h4
      exact ⟨h2, _, e1, rfl⟩
    · obtain ⟨g, off', cur, e1, e2, e3, -⟩ := h5.2.2.2 hc
      rw [e] at e1
      cases e1
      exact ⟨e2, _, e3, rfl⟩
  refine ⟨fun i => i = b ∨ i = m ∨ (0 < c ∧ ∃ off, A = some ⟨i, off, none⟩), ⟨m, A, n, c, D, .inl rfl, .inr (.inl rfl), h3, h4, ⟨h5.1, h5.2.1, h5.2.2.1, fun hc => ?_⟩, h6, h7, h8, fun i hi => h9 i (key i hi).1⟩, key⟩
  obtain ⟨g, off', cur, e1, e2, e3, e4⟩ := h5.2.2.2 hc
  exact ⟨g, off', cur, e1, .inr (.inr ⟨hc, off', e1⟩), e3, e4⟩
theorem IsFp.keep (h : IsFp W lo X b k xs) (hs : W.heap.size ≤ W'.heap.size) (hk : ∀ i o, lo ≤ i → W.heap[i]? = some o → plainO o = true → ¬ X i → W'.heap[i]? = some o) (hX : ∀ i, X' i → X i ∨ W.heap.size ≤ i) : IsFp W' lo X' b k xs := by
  obtain ⟨F, h1, h2⟩ := h
  refine ⟨F, h1.keep hs fun i hi => ?_, fun i hi => ?_⟩
  · obtain ⟨h3, h4, o, h5, h6⟩ := h2 i hi
    exact (hk i o h3 h5 h6 h4).trans h5.symm
  · obtain ⟨h3, h4, o, h5, h6⟩ := h2 i hi
    refine ⟨h3, fun hx => (hX i hx).elim h4 fun h => ?_, o, hk i o h3 h5 h6 h4, h6⟩
    have := (Array.getElem?_eq_some_iff.1 h5).1
    omega
theorem IsFp.it (h : IsFp W lo X b k xs) (g : ItP base W W') : IsFp W' lo X b k xs :=
  h.keep g.size (fun i o _ h1 h2 _ => (g.keep i (Array.getElem?_eq_some_iff.1 h1).1 (.inr ⟨o, h1, h2⟩)).trans h1) fun i hi => .inl hi
theorem IsFp.below (h : IsFp W lo X b k xs) (g : Below W.heap.size W W') (hX : ∀ i, X' i → X i ∨ W.heap.size ≤ i) : IsFp W' lo X' b k xs :=
  h.keep g.size (fun i o _ h1 h2 _ => (g.block i (Array.getElem?_eq_some_iff.1 h1).1).trans h1) hX
theorem IsFp.nodup (h : IsFp W lo X b k xs) : xs.Nodup := by
  obtain ⟨F, ⟨_, _, _, _, _, _, _, _, _, _, _, _, h8, _⟩, -⟩ := h
  exact h8
theorem IsFp.i64 (h : IsFp W lo X b k xs) : ∀ x ∈ xs, I64 x := by
  obtain ⟨F, ⟨_, _, _, _, _, _, _, _, _, _, _, h7, _⟩, -⟩ := h
  exact h7
theorem only_rd {F : Nat → Prop} (h : Only F W W') (hF : ∀ i, F i → lo ≤ i ∧ ¬ X i ∧ ∃ o, W.heap[i]? = some o ∧ plainO o = true) : RdP (fun i => i < lo ∨ X i) W W' :=
  ⟨h.os, h.tape, h.output, h.size, fun k hk hm => h.block k hk fun hf => by
    obtain ⟨h1, h2, o, h3, h4⟩ := hF k hf
    rcases hm with (hm | hm) | ⟨o', h5, h6⟩
    · omega
    · exact h2 hm
    · rw [h3] at h5
      cases h5
      rw [h4] at h6
      cases h6⟩
theorem pop_p {x : Int} (h : IsFp W lo X b k (x :: xs)) :
    Calls Try.prog 34 #[.pointer (some ⟨b, 0, none⟩)] W fun e W' => e = .returned (.tuple #[.int .i64 x, .bool true]) ∧ (IsFp W' lo X b k xs ∧ RdP (fun i => i < lo ∨ X i) W W') := by
  obtain ⟨F, h1, h2⟩ := h
  refine (popf_cons F b k x xs W h1).mono ?_
  rintro e W' ⟨rfl, h3, h4⟩
  obtain ⟨F', h5, h6⟩ := h3.shrink
  exact ⟨rfl, ⟨F', h5, fun i hi => ⟨(h2 i (h6 i hi).1).1, (h2 i (h6 i hi).1).2.1, (h6 i hi).2⟩⟩, only_rd h4 h2⟩
theorem pop_e (h : IsFp W lo X b k []) :
    Calls Try.prog 34 #[.pointer (some ⟨b, 0, none⟩)] W fun e W' => e = .returned (.tuple #[.int .i64 0, .bool false]) ∧ W = W' := by
  obtain ⟨F, h1, -⟩ := h
  exact popf_empty F b k W h1
theorem push_p {x : Int} (h : IsFp W lo X b k xs) (hx : I64 x) (hn : x ∉ xs) (hk : k ≤ 1000000) (hl : xs.length ≤ 1000000) (hlo : lo ≤ W.heap.size) (hX : ∀ i, X i → i < W.heap.size) :
    Calls Try.prog 33 #[.pointer (some ⟨b, 0, none⟩), .int .i64 x] W fun e W' => e = .returned (.bool true) ∧ (IsFp W' lo X b (k + 1) (xs ++ [x]) ∧ RdP (fun i => i < lo ∨ X i) W W') := by
  obtain ⟨F, h1, h2⟩ := h
  refine (pushf_new F b k x xs W hx h1 hn (by unfold maxLen; omega) (by omega)).mono ?_
  rintro e W' ⟨rfl, h3, h4⟩
  obtain ⟨F', h5, h6⟩ := h3.shrink
  refine ⟨rfl, ⟨F', h5, fun i hi => ?_⟩, only_rd h4 h2⟩
  obtain ⟨h7, h8⟩ := h6 i hi
  rcases h7 with h7 | h7
  · exact ⟨(h2 i h7).1, (h2 i h7).2.1, h8⟩
  · exact ⟨by omega, fun hx => by have := hX i hx; omega, h8⟩
end
/-- What is known at each time: what was there, the two boxes, the map, the queue. -/
structure Rs (w2 W : World) (N Bm lo Q Bq : Nat) (X : Nat → Prop) (met xs : List Int) : Prop where
  low : Below N w2 W
  bm : Boxed W Bm 65 (.map (some N))
  bq : Boxed W Bq 66 (.pointer (some ⟨Q, 0, none⟩))
  mt : MetAt W N met
  q : IsFp W lo X Q met.length xs
  x4 : X Bq
  hlo : N < lo ∧ Bm < lo ∧ lo ≤ W.heap.size
section
variable {w2 W W' : World} {N Bm lo Q Bq base : Nat} {X X' : Nat → Prop} {met xs : List Int}
theorem Rs.it (h : Rs w2 W N Bm lo Q Bq X met xs) (g : ItP base W W') (hN : N ≤ base) : Rs w2 W' N Bm lo Q Bq X met xs := by
  have hb := h.low
  refine ⟨⟨g.os.trans hb.os, g.tape.trans hb.tape, g.output.trans hb.output, Nat.le_trans hb.size g.size, fun i hi => ?_⟩, g.cells h.bm, g.cells h.bq, h.mt.keep ?_, h.q.it g, h.x4, h.hlo.1, h.hlo.2.1, Nat.le_trans h.hlo.2.2 g.size⟩
  · exact (g.keep i (by have := h.mt.lt; omega) (.inl (by omega))).trans (hb.block i hi)
  · obtain ⟨es, clock, e⟩ := h.mt.obj
    exact g.keep N h.mt.lt (.inr ⟨_, e, rfl⟩)
theorem Rs.grown (h : Rs w2 W N Bm lo Q Bq X met xs) (g : Below W.heap.size W W') (hX : ∀ i, X' i → X i ∨ W.heap.size ≤ i) (h4 : X' Bq) : Rs w2 W' N Bm lo Q Bq X' met xs :=
  have hz : N ≤ W.heap.size := by have := h.mt.lt; omega
  ⟨h.low.trans (g.mono hz), (g.block _ h.bm.lt).trans h.bm, (g.block _ h.bq.lt).trans h.bq, h.mt.keep (g.block _ h.mt.lt), h.q.below g hX, h4, h.hlo.1, h.hlo.2.1, Nat.le_trans h.hlo.2.2 g.size⟩
theorem Rs.rd {xs' : List Int} (h : Rs w2 W N Bm lo Q Bq X met xs) (g : RdP (fun i => i < lo ∨ X i) W W') (hq : IsFp W' lo X Q met.length xs') : Rs w2 W' N Bm lo Q Bq X met xs' := by
  have hb := h.low
  have hz := h.mt.lt
  have h1 := h.hlo.1
  exact ⟨⟨g.os.trans hb.os, g.tape.trans hb.tape, g.output.trans hb.output, Nat.le_trans hb.size g.size, fun i hi => (g.keep i (by omega) (.inl (.inl (by omega)))).trans (hb.block i hi)⟩,
    (g.keep _ h.bm.lt (.inl (.inl h.hlo.2.1))).trans h.bm, (g.keep _ h.bq.lt (.inl (.inr h.x4))).trans h.bq, h.mt.keep (g.keep _ hz (.inl (.inl h1))), hq, h.x4, h.hlo.1, h.hlo.2.1, Nat.le_trans h.hlo.2.2 g.size⟩
/-- A number that was not met: into the map, behind the queue. -/
theorem Rs.put {W1 W2 : World} {x : Int} (h : Rs w2 W N Bm lo Q Bq X met xs) (hm : MetAt W1 N (x :: met)) (hg : W.grownBy W1 (some N)) (hq : IsFp W2 lo X Q (met.length + 1) (xs ++ [x])) (g : RdP (fun i => i < lo ∨ X i) W1 W2) :
    Rs w2 W2 N Bm lo Q Bq X (x :: met) (xs ++ [x]) := by
  have hb := h.low
  have hz := h.mt.lt
  have h1 := h.hlo.1
  have h2 := h.hlo.2.1
  have hsz := hg.size
  obtain ⟨es, clock, hme⟩ := h.mt.obj
  have hne : some Bm ≠ some N := fun e => by
    injection e with e
    have := h.bm
    rw [Boxed, e, hme] at this
    cases this
  have hne4 : some Bq ≠ some N := fun e => by
    injection e with e
    have := h.bq
    rw [Boxed, e, hme] at this
    cases this
  have hb1 : Below N w2 W1 := hb.grown hg (by omega) (fun k e => by cases e; exact Nat.le_refl _)
  refine ⟨⟨g.os.trans hb1.os, g.tape.trans hb1.tape, g.output.trans hb1.output, Nat.le_trans hb1.size g.size, fun i hi => (g.keep i (by omega) (.inl (.inl (by omega)))).trans (hb1.block i hi)⟩, ?_, ?_, hm.keep (g.keep N (by omega) (.inl (.inl h1))), hq, h.x4, h1, h2, by have := g.size; have := h.hlo.2.2; omega⟩
  · have h3 : Boxed W1 Bm 65 (.map (some N)) := (hg.block _ h.bm.lt hne).trans h.bm
    exact (g.keep _ h3.lt (.inl (.inl h2))).trans h3
  · have h3 : Boxed W1 Bq 66 (.pointer (some ⟨Q, 0, none⟩)) := (hg.block _ h.bq.lt hne4).trans h.bq
    exact (g.keep _ h3.lt (.inl (.inr h.x4))).trans h3
/-- What the map's turn leaves of the queue. -/
theorem Rs.qput {W1 : World} (h : Rs w2 W N Bm lo Q Bq X met xs) (hg : W.grownBy W1 (some N)) : IsFp W1 lo X Q met.length xs :=
  h.q.keep hg.size (fun i o hi h1 _ _ => (hg.block i (Array.getElem?_eq_some_iff.1 h1).1 (fun e => by
    injection e with e
    have := h.hlo.1
    omega)).trans h1) fun i hi => .inl hi
end
theorem nd_len : ∀ (a l : List Int), a.Nodup → (∀ x ∈ a, x ∈ l) → a.length ≤ l.length
  | [], _, _, _ => Nat.zero_le _
  | x :: r, l, h, hs => by
    rw [List.nodup_cons] at h
    obtain ⟨s, t, rfl⟩ := List.append_of_mem (hs x List.mem_cons_self)
    have := nd_len r (s ++ t) h.2 fun y hy => by
      have h1 := hs y (List.mem_cons_of_mem _ hy)
      rw [List.mem_append, List.mem_cons] at h1
      rw [List.mem_append]
      rcases h1 with h1 | h1 | h1
      · exact .inl h1
      · exact absurd (h1 ▸ hy) h.1
      · exact .inr h1
    simp at this ⊢
    omega
/-- What is so of what was met, and what waits. -/
structure Lg (l : List Ed) (met xs : List Int) : Prop where
  zero : (0 : Int) ∈ met
  sound : ∀ x ∈ met, ReachI (prE l) x
  sub : ∀ x ∈ xs, x ∈ met
  done : ∀ x ∈ met, x ∉ xs → ∀ e ∈ l, e.fr = x → e.to ∈ met
/-- Amid a function's edges. -/
structure Md (l : List Ed) (met xs : List Int) (fn : Int) (pre : List Ed) : Prop where
  zero : (0 : Int) ∈ met
  sound : ∀ x ∈ met, ReachI (prE l) x
  sub : ∀ x ∈ xs, x ∈ met
  fnm : fn ∈ met
  done : ∀ x ∈ met, x ∉ xs → x ≠ fn → ∀ e ∈ l, e.fr = x → e.to ∈ met
  part : ∀ e ∈ pre, e.fr = fn ∧ e.to ∈ met
theorem Lg.pop {l : List Ed} {met xs : List Int} {x : Int} (h : Lg l met (x :: xs)) : Md l met xs x [] :=
  ⟨h.zero, h.sound, fun y hy => h.sub y (List.mem_cons_of_mem _ hy), h.sub x List.mem_cons_self, fun y hy hn hne => h.done y hy fun h => (List.mem_cons.1 h).elim hne hn, fun e he => by cases he⟩
theorem Md.old {l : List Ed} {met xs : List Int} {fn : Int} {pre : List Ed} (h : Md l met xs fn pre) {e : Ed} (h1 : e.fr = fn) (h2 : e.to ∈ met) : Md l met xs fn (pre ++ [e]) :=
  ⟨h.zero, h.sound, h.sub, h.fnm, h.done, fun y hy => by
    rcases List.mem_append.1 hy with hy | hy
    · exact h.part y hy
    · obtain rfl := List.mem_singleton.1 hy
      exact ⟨h1, h2⟩⟩
theorem Md.new {l : List Ed} {met xs : List Int} {fn : Int} {pre : List Ed} (h : Md l met xs fn pre) {e : Ed} (he : e ∈ l) (h1 : e.fr = fn) (h2 : e.to ∉ met) : Md l (e.to :: met) (xs ++ [e.to]) fn (pre ++ [e]) :=
  ⟨List.mem_cons_of_mem _ h.zero, fun x hx => by
    rcases List.mem_cons.1 hx with rfl | hx
    · exact .step e.fr e.to (List.mem_map.2 ⟨e, he, rfl⟩) (h.sound _ (h1 ▸ h.fnm))
    · exact h.sound x hx, fun x hx => by
    rcases List.mem_append.1 hx with hx | hx
    · exact List.mem_cons_of_mem _ (h.sub x hx)
    · obtain rfl := List.mem_singleton.1 hx
      exact List.mem_cons_self, List.mem_cons_of_mem _ h.fnm, fun x hx hn hne y hy hf => by
    rcases List.mem_cons.1 hx with rfl | hx
    · exact absurd (List.mem_append_right _ (List.mem_singleton.2 rfl)) hn
    · exact List.mem_cons_of_mem _ (h.done x hx (fun hxs => hn (List.mem_append_left _ hxs)) hne y hy hf), fun y hy => by
    rcases List.mem_append.1 hy with hy | hy
    · exact ⟨(h.part y hy).1, List.mem_cons_of_mem _ (h.part y hy).2⟩
    · obtain rfl := List.mem_singleton.1 hy
      exact ⟨h1, List.mem_cons_self⟩⟩
/-- All from a function have been gone through. -/
theorem Md.end_ {l : List Ed} {met xs : List Int} {fn : Int} {pre : List Ed} (h : Md l met xs fn pre) (hall : ∀ e ∈ l, e.fr = fn → e ∈ pre) : Lg l met xs :=
  ⟨h.zero, h.sound, h.sub, fun x hx hn e he hf => by
    by_cases hne : x = fn
    · exact (h.part e (hall e he (hf.trans hne))).2
    · exact h.done x hx hn hne e he hf⟩
theorem all_done {l : List Ed} {fn : Int} {k : Nat} (hc : CutAt l fn k k) : ∀ e ∈ l, e.fr = fn → e ∈ l.drop k := by
  intro e he hf
  obtain ⟨t, ht⟩ := List.mem_iff_getElem?.1 he
  by_cases htk : t < k
  · have := hc.low t e htk ht
    omega
  · refine List.mem_iff_getElem?.2 ⟨t - k, ?_⟩
    rw [List.getElem?_drop, show k + (t - k) = t by omega]
    exact ht
theorem all_stop {l : List Ed} {fn : Int} {k : Nat} (hc : CutAt l fn k k) (hs : l.Pairwise fun x y => x.fr ≤ y.fr) {pre : List Ed} {x : Ed} (hp : pre ++ [x] <+: l.drop k) (hx : x.fr ≠ fn) : ∀ e ∈ l, e.fr = fn → e ∈ pre := by
  intro e he hf
  obtain ⟨t, ht⟩ := List.mem_iff_getElem?.1 he
  obtain ⟨r, hr⟩ := hp
  have hget : ∀ j, (l.drop k)[j]? = l[k + j]? := fun j => List.getElem?_drop
  have hxk : l[k + pre.length]? = some x := by
    rw [← hget, ← hr, List.append_assoc, List.getElem?_append_right (Nat.le_refl _), Nat.sub_self]
    rfl
  have h1 := hc.high (k + pre.length) x (by omega) hxk
  by_cases htk : t < k
  · have := hc.low t e htk ht
    omega
  · by_cases h2 : t < k + pre.length
    · refine List.mem_iff_getElem?.2 ⟨t - k, ?_⟩
      have h3 := hget (t - k)
      rw [← hr, List.append_assoc, List.getElem?_append_left (by omega), show k + (t - k) = t by omega, ht] at h3
      exact h3
    · exfalso
      by_cases h3 : t = k + pre.length
      · rw [h3, hxk] at ht
        cases ht
        exact hx hf
      · obtain ⟨h4, h5⟩ := List.getElem?_eq_some_iff.1 hxk
        obtain ⟨h6, h7⟩ := List.getElem?_eq_some_iff.1 ht
        have := List.pairwise_iff_getElem.1 hs (k + pre.length) t h4 h6 (by omega)
        rw [h5, h7] at this
        omega
theorem Lg.reach {l : List Ed} {met : List Int} (h : Lg l met []) : IsReach (prE l) (setI met) :=
  reach_closed (up_setI met) ((mem_setI _ _).2 h.zero) (fun x hx => h.sound x ((mem_setI _ _).1 hx)) fun e he h1 => by
    obtain ⟨y, hy, rfl⟩ := List.mem_map.1 he
    exact (mem_setI _ _).2 (h.done y.fr ((mem_setI _ _).1 h1) (by simp) y hy rfl)
theorem met_len {l : List Ed} {met : List Int} (hd : met.Nodup) (hs : ∀ x ∈ met, ReachI (prE l) x) : met.length ≤ l.length + 1 := by
  have := nd_len met (0 :: (prE l).map (·.2)) hd fun x hx => reach_to (hs x hx)
  simpa using this
/-- What is left to do. -/
def muR (l : List Ed) (met xs : List Int) : Nat := 2 * outI (prE l) met + xs.length
theorem muR_new {l : List Ed} {met xs : List Int} {e : Ed} (he : e ∈ l) (h : e.to ∉ met) : muR l (e.to :: met) (xs ++ [e.to]) < muR l met xs := by
  have := outI_less (E := prE l) (l := met) (l' := e.to :: met) (fun x hx => List.mem_cons_of_mem _ hx) (e := (e.fr, e.to)) (List.mem_map.2 ⟨e, he, rfl⟩) h List.mem_cons_self
  unfold muR
  rw [List.length_append, List.length_singleton]
  omega
theorem muR_pop {l : List Ed} {met xs : List Int} {x : Int} : muR l met xs < muR l met (x :: xs) := by
  unfold muR
  rw [List.length_cons]
  omega
theorem reach_perm {l m : List Ed} (h : ∀ x, x ∈ m ↔ x ∈ l) {s : List Int} (hr : IsReach (prE m) s) : IsReach (prE l) s := by
  have key : ∀ {a b : List Ed}, (∀ x, x ∈ a → x ∈ b) → ∀ e ∈ prE a, e ∈ prE b := fun {a b} hab e he => by
    obtain ⟨y, hy, rfl⟩ := List.mem_map.1 he
    exact List.mem_map.2 ⟨y, hab y hy, rfl⟩
  exact ⟨hr.up, fun x => (hr.mem x).trans ⟨fun h1 => h1.more (key fun x hx => (h x).1 hx), fun h1 => h1.more (key fun x hx => (h x).2 hx)⟩⟩
theorem sortE_fr (l : List Ed) : (sortE l).Pairwise fun x y => x.fr ≤ y.fr := (sortE_rises l).imp fun {x y} h => by
  unfold befE at h
  omega
/-- Between two edges of a function. -/
def RdI (l : List Ed) (w2 W : World) (N Bm lo Q Bq B5 : Nat) (x : Int) (met xs : List Int) (Ds : List Nat) (pre : List Ed) : Prop :=
  ∃ met' xs', Rs w2 W N Bm lo Q Bq (fun i => i = Bq ∨ i = B5) met' xs' ∧ Md l met' xs' x pre ∧ Boxed W B5 3 (.int .i64 x) ∧ (∀ D ∈ Ds, W.heap[D]? = some (.deferred (some []))) ∧ muR l met' xs' ≤ muR l met xs
theorem RdI.it {l : List Ed} {w2 W W' : World} {N Bm lo Q Bq B5 base : Nat} {x : Int} {met xs : List Int} {Ds : List Nat} {pre : List Ed} (h : RdI l w2 W N Bm lo Q Bq B5 x met xs Ds pre) (g : ItP base W W') (hN : N ≤ base) (hD : ∀ D ∈ Ds, D < base) :
    RdI l w2 W' N Bm lo Q Bq B5 x met xs Ds pre := by
  obtain ⟨met', xs', h1, h2, h3, h4, h5⟩ := h
  refine ⟨met', xs', h1.it g hN, h2, g.cells h3, fun D hD' => ?_, h5⟩
  have e := h4 D hD'
  exact (g.keep D (Array.getElem?_eq_some_iff.1 e).1 (.inl (hD D hD'))).trans e
/-- A function's edges are through: the next one's turn. -/
theorem round_end {l : List Ed} {w2 W w10 : World} {N Bm lo Q Bq B5 D : Nat} {x : Int} {met xs : List Int} {Ds : List Nat} {pre : List Ed} {wr : World} (h : RdI l w2 W N Bm lo Q Bq B5 x met xs Ds pre)
    (hDs : Ds.Nodup ∧ ∀ D ∈ Ds, wr.heap[D]? = some (.deferred (some [])) ∧ N ≤ D) (h10 : ∀ D ∈ Ds, w10.heap[D]? = some (.deferred (some [])) ∧ D < w10.heap.size) (hD : w10.heap.size ≤ D) (hN : N ≤ w10.heap.size) (hK : W.heap[D]? = some (.deferred (some [])))
    (hall : ∀ e ∈ l, e.fr = x → e ∈ pre) :
    ∃ met' xs', Rs w2 W N Bm lo Q Bq (fun i => i = Bq) met' xs' ∧ Lg l met' xs' ∧ ((D :: Ds).Nodup ∧ ∀ D' ∈ D :: Ds, W.heap[D']? = some (.deferred (some [])) ∧ N ≤ D') ∧ muR l met' xs' ≤ muR l met xs := by
  obtain ⟨met', xs', h1, h2, h3, h4, h5⟩ := h
  refine ⟨met', xs', h1.grown (Below.refl _ _) (fun i hi => .inl (.inl hi)) rfl, h2.end_ hall, ⟨List.nodup_cons.2 ⟨fun hm => ?_, hDs.1⟩, fun D' hD' => ?_⟩, h5⟩
  · have := (h10 D hm).2
    omega
  · rcases List.mem_cons.1 hD' with rfl | hD'
    · exact ⟨hK, by omega⟩
    · exact ⟨h4 D' hD', (hDs.2 D' hD').2⟩
/-- What comes out. -/
theorem reach_out {w w2 wr w8 w9 w' : World} {N : Nat} {Ds : List Nat} {v : Value} {s : List Int} (h1 : Below w.heap.size w w2) (h2 : w2.heap.size = N) (h3 : Below N w2 wr) (hN : N < wr.heap.size) (h4 : Below wr.heap.size wr w8)
    (h5 : OwnR 1 3 IntP w8 w9 w8.heap.size v s) (h6 : Below w8.heap.size w8 w9) (h7 : Taken Ds w9 w') (hD : ∀ D ∈ Ds, N ≤ D ∧ D < wr.heap.size) : OutI w w' v s := by
  have hz1 := h1.size
  have hz4 := h4.size
  have hz6 := h6.size
  have hb9 : Below w.heap.size w w9 := ((h1.trans (h3.mono (by omega))).trans (h4.mono (by omega))).trans (h6.mono (by omega))
  have hb : Below w.heap.size w w' := ⟨h7.os.trans hb9.os, h7.tape.trans hb9.tape, h7.output.trans hb9.output, by rw [h7.size]; exact hb9.size, fun k hk => (h7.block k (fun hm => by have := (hD k hm).1; omega)).trans (hb9.block k hk)⟩
  have h8 : OwnR 1 3 IntP w8 w' w8.heap.size v s := h5.keep fun b hb => h7.block b (fun hm => by have := (hD b hm).2; have := (h5.blk hb).1; omega)
  have h9 : OwnR 1 3 IntP w w' w8.heap.size v s := h8
  exact ⟨h9.at_ IntP.cells IntP.keeps hb, hb⟩
end Go.Proofs.Ytfiockconbaniaa
