/- The document's Put: what its stores make of the memory. -/
import Derived.Test.YtpbbinppikaamaaRefMem
import Derived.Test.YtpbbinppikaamaaRefOwn
namespace Go.Proofs.Ytpbbinppikaamaa
open Go.RowKit Go.Proofs Go.Maps

theorem set_cells {α : Type} {f : α → List Value} : ∀ (l : List α) (i : Nat) (x y : α), l[i]? = some x → f y = f x → (l.set i y).flatMap f = l.flatMap f
  | [], _, _, _, h, _ => by simp at h
  | a :: r, 0, x, y, h, e => by
    obtain rfl : a = x := by simpa using h
    rw [List.set_cons_zero, List.flatMap_cons, List.flatMap_cons, e]
  | a :: r, i + 1, x, y, h, e => by
    rw [List.set_cons_succ, List.flatMap_cons, List.flatMap_cons, set_cells r i x y (by simpa using h) e]
theorem pt_new (kv : List (ByteArray × V)) (s : ByteArray) (v : V) (h : lk kv s = none) : pt kv s v = kv ++ [(s, v)] := by
  induction kv with
  | nil => rfl
  | cons a r ih =>
    obtain ⟨k, u⟩ := a
    unfold lk at h
    split at h
    · cases h
    · rename_i hk
      unfold pt
      rw [if_neg hk, ih h]
      rfl
theorem pt_step {kv : List (ByteArray × V)} {k : Nat} {x : ByteArray × V} (h : kv[k]? = some x) {s : ByteArray} (hne : x.1 ≠ s) (v : V) (hp : pt kv s v = kv.take k ++ pt (kv.drop k) s v) : pt kv s v = kv.take (k + 1) ++ pt (kv.drop (k + 1)) s v := by
  have hk := (List.getElem?_eq_some_iff.1 h).1
  have e : kv[k] = x := by
    have := List.getElem?_eq_getElem hk
    rw [h] at this
    exact (Option.some.inj this).symm
  rw [hp, List.drop_eq_getElem_cons hk, e, List.take_add_one, h]
  obtain ⟨a, b⟩ := x
  rw [pt, if_neg hne]
  simp
theorem pt_hit {kv : List (ByteArray × V)} {k : Nat} {u : V} {s : ByteArray} (h : kv[k]? = some (s, u)) (v : V) (hp : pt kv s v = kv.take k ++ pt (kv.drop k) s v) : pt kv s v = kv.set k (s, v) := by
  have hk := (List.getElem?_eq_some_iff.1 h).1
  have e : kv[k] = (s, u) := by
    have := List.getElem?_eq_getElem hk
    rw [h] at this
    exact (Option.some.inj this).symm
  rw [hp, List.drop_eq_getElem_cons hk, e, pt, if_pos rfl, List.set_eq_take_append_cons_drop, if_pos hk]

section
variable {W w3 w4 : World} {F : Nat → Prop} {b T : Nat} {ths : List TH} {v u u2 : Value} {t : TH} {g c i : Nat} {s : ByteArray} {x : V} {ob : Obj}
/-- Behind the store of a value that was there. -/
theorem RefAt.hit (h : RefAt W F b T ths v) (hi : ths[i]? = some t) {k gv cv : Nat} {o : V} (hk : t.o.kv[k]? = some (s, o)) (hvs : t.vs = .slice (some ⟨gv, 0, none⟩) t.o.kv.length cv) (hp : pt t.o.kv s x = t.o.kv.set k (s, x)) :
    RefAt (((W.setCell ⟨gv, k * 3, none⟩ (.int .i64 x.k)).setCell ⟨gv, k * 3 + 1, none⟩ (.int .i64 x.n)).setCell ⟨gv, k * 3 + 2, none⟩ (.string x.s)) (ext F W (((W.setCell ⟨gv, k * 3, none⟩ (.int .i64 x.k)).setCell ⟨gv, k * 3 + 1, none⟩ (.int .i64 x.n)).setCell ⟨gv, k * 3 + 2, none⟩ (.string x.s))) b (T + 1) (ths.set i ⟨{ t.o with kv := pt t.o.kv s x }, t.ks, t.vs⟩) v ∧
    Only F W (((W.setCell ⟨gv, k * 3, none⟩ (.int .i64 x.k)).setCell ⟨gv, k * 3 + 1, none⟩ (.int .i64 x.n)).setCell ⟨gv, k * 3 + 2, none⟩ (.string x.s)) := by
  have hth := h.th i t hi
  have hvr := hth.vs
  rw [hvs] at hvr
  have e1 := hvr.stored (k * 3) (.int .i64 x.k)
  have e2 := e1.1.stored (k * 3 + 1) (.int .i64 x.n)
  have e3 := e2.1.stored (k * 3 + 2) (.string x.s)
  have hgr := (e1.2.trans e2.2).trans e3.2
  have hgb : t.vs.ownBlock = some gv := by rw [hvs]; rfl
  have hon : Only (fun j => t.vs.ownBlock = some j) W (((W.setCell ⟨gv, k * 3, none⟩ (.int .i64 x.k)).setCell ⟨gv, k * 3 + 1, none⟩ (.int .i64 x.n)).setCell ⟨gv, k * 3 + 2, none⟩ (.string x.s)) := Only.grown hgr (fun r e => by cases e; exact hgb)
  have hlen : (pt t.o.kv s x).length = t.o.kv.length := by rw [hp, List.length_set]
  have hvals : (((valsOf t.o.kv).set (k * 3) (.int .i64 x.k)).set (k * 3 + 1) (.int .i64 x.n)).set (k * 3 + 2) (.string x.s) = valsOf (pt t.o.kv s x) := by
    have hkl := (List.getElem?_eq_some_iff.1 hk).1
    have f0 := flat_set (f := vcell) (m := 3) vcell_len t.o.kv k 0 (s, o) (s, ⟨x.k, o.n, o.s⟩) (.int .i64 x.k) (by decide) hk rfl
    rw [Nat.add_zero] at f0
    have f1 := flat_set (f := vcell) (m := 3) vcell_len (t.o.kv.set k (s, ⟨x.k, o.n, o.s⟩)) k 1 (s, ⟨x.k, o.n, o.s⟩) (s, ⟨x.k, x.n, o.s⟩) (.int .i64 x.n) (by decide) (List.getElem?_set_self hkl) rfl
    have f2 := flat_set (f := vcell) (m := 3) vcell_len ((t.o.kv.set k (s, ⟨x.k, o.n, o.s⟩)).set k (s, ⟨x.k, x.n, o.s⟩)) k 2 (s, ⟨x.k, x.n, o.s⟩) (s, x) (.string x.s) (by decide) (List.getElem?_set_self (by simpa using hkl)) rfl
    unfold valsOf
    rw [f0, f1, f2, List.set_set, List.set_set, hp]
  have hnk : ∀ j, t.ks.ownBlock = some j → t.vs.ownBlock ≠ some j := fun j hj e => by
    obtain ⟨cs, hc⟩ := row_blk hth.ks hj
    obtain ⟨cs', hc'⟩ := row_blk hth.vs e
    rw [hc] at hc'
    cases hc'
  have hnv : ∀ j, v.ownBlock = some j → t.vs.ownBlock ≠ some j := fun j hj e => by
    obtain ⟨cs, hc⟩ := row_blk h.row hj
    obtain ⟨cs', hc'⟩ := row_blk hth.vs e
    rw [hc] at hc'
    cases hc'
  have hkeys : keysOf (pt t.o.kv s x) = keysOf t.o.kv := by
    refine keys_pt_old _ _ _ ((lk_isSome _ _).2 ?_)
    exact List.mem_map.2 ⟨(s, o), List.mem_of_getElem? hk, rfl⟩
  refine h.upd hi (hon.mono (fun k _ hk => .inr (.inr hk))) ?_ ⟨?_, ?_, ?_⟩ (.inl rfl) (.inl rfl)
  · refine (congrArg (World.ownsRow _ 0 65 6 v ths.length) (set_cells (f := TH.cells) ths i t ⟨{ t.o with kv := pt t.o.kv s x }, t.ks, t.vs⟩ hi rfl)).mpr ?_
    exact row_keep h.row (fun j hj => hon.block j (row_lt h.row hj) (hnv j hj))
  · show World.ownsRow _ 0 9 1 t.ks (pt t.o.kv s x).length (strsOf (keysOf (pt t.o.kv s x)))
    rw [hlen, hkeys]
    exact row_keep hth.ks (fun j hj => hon.block j (row_lt hth.ks hj) (hnk j hj))
  · show World.ownsRow _ 0 32 3 t.vs (pt t.o.kv s x).length (valsOf (pt t.o.kv s x))
    rw [hlen, ← hvals, hvs]
    exact e3.1
  · show (pt t.o.kv s x).length ≤ T + 1
    rw [hlen]
    have := hth.small
    omega

/-- Behind the store of the list of keys. -/
structure Half (W W2 : World) (ths : List TH) (v : Value) (t : TH) (i : Nat) (s : ByteArray) (u : Value) : Prop where
  only : Only (Pb v t) W W2
  row : W2.ownsRow 0 65 6 v ths.length ((ths.flatMap TH.cells).set (i * 6 + 4) u)
  ks : W2.ownsRow 0 9 1 u (t.o.kv.length + 1) (strsOf (keysOf t.o.kv) ++ [.string s])
  vs : W2.ownsRow 0 32 3 t.vs t.o.kv.length (valsOf t.o.kv)
  lies : Lies W t.ks u
theorem RefAt.half (h : RefAt W F b T ths (.slice (some ⟨g, 0, none⟩) ths.length c)) (hi : ths[i]? = some t) (happ : App (W.alloc ob) 9 1 (t.o.kv.length + 1) t.ks (strsOf (keysOf t.o.kv) ++ [.string s]) u w3) :
    Half W (w3.setCell ⟨g, i * 6 + 4, none⟩ u) ths (.slice (some ⟨g, 0, none⟩) ths.length c) t i s u ∧ w3.cell? ⟨g, i * 6 + 4, none⟩ = some t.ks ∧ w3.frozen? ⟨g, i * 6 + 4, none⟩ = false := by
  have hth := h.th i t hi
  have hon : Only (fun j => t.ks.ownBlock = some j) W w3 := (Only.of_below ((Below.refl _ W).alloc (Nat.le_refl _) ob)).trans' happ.only
  have hgk : t.ks.ownBlock ≠ some g := fun e => by
    obtain ⟨cs, hc⟩ := row_blk hth.ks e
    obtain ⟨cs', hc'⟩ := row_blk h.row (k := g) rfl
    rw [hc] at hc'
    cases hc'
  have hvk : ∀ j, t.vs.ownBlock = some j → t.ks.ownBlock ≠ some j := fun j hj e => by
    obtain ⟨cs, hc⟩ := row_blk hth.ks e
    obtain ⟨cs', hc'⟩ := row_blk hth.vs hj
    rw [hc] at hc'
    cases hc'
  have hr3 := row_keep (w' := w3) h.row (fun j hj => by
    have e : g = j := by simpa [Value.ownBlock] using hj
    subst e
    exact hon.block g (row_lt h.row rfl) hgk)
  have hst := hr3.stored (i * 6 + 4) u
  have hv3 := row_keep (w' := w3) hth.vs (fun j hj => hon.block j (row_lt hth.vs hj) (hvk j hj))
  have hset : ∀ j, j ≠ g → (w3.setCell ⟨g, i * 6 + 4, none⟩ u).heap[j]? = w3.heap[j]? := fun j hj => Below.heap_setCell w3 _ u j (fun e => hj (by simpa using e))
  refine ⟨⟨(hon.mono (fun k _ hk => .inr (.inl hk))).trans' (Only.setCell w3 (.inl rfl) _ u), hst.1, row_keep happ.own (fun j hj => hset j (fun e => ?_)), row_keep hv3 (fun j hj => hset j (fun e => ?_)), ?_⟩, ?_, hr3.frozenAt _⟩
  · obtain ⟨cs, hc⟩ := row_blk happ.own hj
    obtain ⟨cs', hc'⟩ := row_blk hr3 (k := g) rfl
    rw [e, hc'] at hc
    cases hc
  · obtain ⟨cs, hc⟩ := row_blk hv3 hj
    obtain ⟨cs', hc'⟩ := row_blk hr3 (k := g) rfl
    rw [e, hc'] at hc
    cases hc
  · rcases happ.lies with e | e
    · exact .inl e
    · exact .inr ⟨_, e, by simp⟩
  · obtain ⟨g', c', e, -, hc, -⟩ := h.at hi
    cases e
    exact (World.cell?_of_block (hon.block g (row_lt h.row rfl) hgk)).trans (hc 4 (by decide))
/-- Behind the store of the list of values. -/
theorem RefAt.full (h : RefAt W F b T ths (.slice (some ⟨g, 0, none⟩) ths.length c)) (hi : ths[i]? = some t) {W2 : World} (hh : Half W W2 ths (.slice (some ⟨g, 0, none⟩) ths.length c) t i s u) (hlk : lk t.o.kv s = none)
    (happ : App (W2.alloc ob) 32 3 (t.o.kv.length + 1) t.vs (valsOf t.o.kv ++ [.int .i64 x.k, .int .i64 x.n, .string x.s]) u2 w4) :
    (RefAt (w4.setCell ⟨g, i * 6 + 5, none⟩ u2) (ext F W (w4.setCell ⟨g, i * 6 + 5, none⟩ u2)) b (T + 1) (ths.set i ⟨{ t.o with kv := pt t.o.kv s x }, u, u2⟩) (.slice (some ⟨g, 0, none⟩) ths.length c) ∧ Only F W (w4.setCell ⟨g, i * 6 + 5, none⟩ u2)) ∧
    w4.cell? ⟨g, i * 6 + 5, none⟩ = some t.vs ∧ w4.frozen? ⟨g, i * 6 + 5, none⟩ = false := by
  have hth := h.th i t hi
  have hon : Only (fun j => t.vs.ownBlock = some j) W2 w4 := (Only.of_below ((Below.refl _ W2).alloc (Nat.le_refl _) ob)).trans' happ.only
  have hgv : t.vs.ownBlock ≠ some g := fun e => by
    obtain ⟨cs, hc⟩ := row_blk hh.vs e
    obtain ⟨cs', hc'⟩ := row_blk hh.row (k := g) rfl
    rw [hc] at hc'
    cases hc'
  have huv : ∀ j, u.ownBlock = some j → t.vs.ownBlock ≠ some j := fun j hj e => by
    obtain ⟨cs, hc⟩ := row_blk hh.ks hj
    obtain ⟨cs', hc'⟩ := row_blk hh.vs e
    rw [hc] at hc'
    cases hc'
  have hr4 := row_keep (w' := w4) hh.row (fun j hj => by
    have e : g = j := by simpa [Value.ownBlock] using hj
    subst e
    exact hon.block g (row_lt hh.row rfl) hgv)
  have hst := hr4.stored (i * 6 + 5) u2
  have hk4 := row_keep (w' := w4) hh.ks (fun j hj => hon.block j (row_lt hh.ks hj) (huv j hj))
  have hset : ∀ j, j ≠ g → (w4.setCell ⟨g, i * 6 + 5, none⟩ u2).heap[j]? = w4.heap[j]? := fun j hj => Below.heap_setCell w4 _ u2 j (fun e => hj (by simpa using e))
  have hkv := pt_new t.o.kv s x hlk
  have hlen : (pt t.o.kv s x).length = t.o.kv.length + 1 := by rw [hkv]; simp
  have hil := (List.getElem?_eq_some_iff.1 hi).1
  have hflat : ((ths.flatMap TH.cells).set (i * 6 + 4) u).set (i * 6 + 5) u2 = (ths.set i ⟨{ t.o with kv := pt t.o.kv s x }, u, u2⟩).flatMap TH.cells := by
    have f0 := flat_set (f := TH.cells) (m := 6) th_len ths i 4 t ⟨t.o, u, t.vs⟩ u (by decide) hi rfl
    have f1 := flat_set (f := TH.cells) (m := 6) th_len (ths.set i ⟨t.o, u, t.vs⟩) i 5 ⟨t.o, u, t.vs⟩ ⟨{ t.o with kv := pt t.o.kv s x }, u, u2⟩ u2 (by decide) (List.getElem?_set_self hil) rfl
    rw [f0, f1, List.set_set]
  refine ⟨h.upd hi (hh.only.trans' ((hon.mono (fun k _ hk => .inr (.inr hk))).trans' (Only.setCell w4 (.inl rfl) _ u2))) ?_ ⟨?_, ?_, ?_⟩ hh.lies ?_, ?_, hr4.frozenAt _⟩
  · rw [← hflat]
    exact hst.1
  · show World.ownsRow _ 0 9 1 u (pt t.o.kv s x).length (strsOf (keysOf (pt t.o.kv s x)))
    rw [hlen, keys_pt_new _ _ _ hlk, show strsOf (keysOf t.o.kv ++ [s]) = strsOf (keysOf t.o.kv) ++ [.string s] by simp [strsOf]]
    refine row_keep hk4 (fun j hj => hset j (fun e => ?_))
    obtain ⟨cs, hc⟩ := row_blk hk4 hj
    obtain ⟨cs', hc'⟩ := row_blk hr4 (k := g) rfl
    rw [e, hc'] at hc
    cases hc
  · show World.ownsRow _ 0 32 3 u2 (pt t.o.kv s x).length (valsOf (pt t.o.kv s x))
    rw [hlen, show valsOf (pt t.o.kv s x) = valsOf t.o.kv ++ [.int .i64 x.k, .int .i64 x.n, .string x.s] by rw [hkv]; simp [valsOf, vcell]]
    refine row_keep happ.own (fun j hj => hset j (fun e => ?_))
    obtain ⟨cs, hc⟩ := row_blk happ.own hj
    obtain ⟨cs', hc'⟩ := row_blk hr4 (k := g) rfl
    rw [e, hc'] at hc
    cases hc
  · show (pt t.o.kv s x).length ≤ T + 1
    rw [hlen]
    have := hth.small
    omega
  · have hs := hh.only.size
    rcases happ.lies with e | e
    · exact .inl e
    · exact .inr ⟨_, e, by simp; omega⟩
  · have e1 := hh.row
    have hne : (i * 6 + 4 : Nat) ≠ i * 6 + 5 := by omega
    have e2 : ((ths.flatMap TH.cells).set (i * 6 + 4) u)[i * 6 + 5]? = some t.vs := by
      rw [List.getElem?_set_ne hne]
      exact flat_at (f := TH.cells) (m := 6) th_len ths i 5 t (by decide) hi
    exact (World.cell?_of_block (hon.block g (row_lt hh.row rfl) hgv)).trans (row_cell e1 _ _ e2)
end
end Go.Proofs.Ytpbbinppikaamaa
