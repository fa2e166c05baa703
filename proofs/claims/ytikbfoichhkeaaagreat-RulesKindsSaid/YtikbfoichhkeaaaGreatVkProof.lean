import Derived.BigQuiet
import Derived.Deep.RegionHeld3
import Derived.Test.YtikbfoichhkeaaaGreatVn51
set_option linter.unusedSimpArgs false
set_option linter.unusedVariables false
namespace Go.Proofs.YtikbfoichhkeaaaGreat
open Go.RowKit Go.Proofs
section
variable {R B : Nat} {F S S' : Nat → Prop} {a b c w w' : World}
variable {A : Option Addr} {cp : Nat} {L : List Tok} {st st' : St}
theorem RowAt.two {t u : Tr} {v x : Value} {g : Nat} {cs : Array Value} {T : TypeId} (h : TreeAt w S t v) (h' : TreeAt w S u x) (hg : w.heap[g]? = some (.cells cs T (0, 0))) (hcs : cs.toList = cellsT v ++ cellsT x) (hS : S g) : RowAt w S [t, u] (.slice (some ⟨g, 0, none⟩) 2 2) := by
  obtain ⟨x, rfl, rfl, h3⟩ := h
  obtain ⟨y, rfl, rfl, h4⟩ := h'
  exact ⟨[x, y], by rw [trees, trees, trees], _, 2, rfl, ⟨Nat.le_refl _, by simp [maxLen]⟩, fun _ => ⟨g, 0, rfl, hS, row_cells g [] [] [x, y] 0 w rfl ⟨cs, T, hg, by rw [hcs, cellsT_val, cellsT_val]; simp⟩ (fun z hz => by
    simp only [List.mem_cons, List.not_mem_nil, or_false] at hz
    rcases hz with rfl | rfl
    · exact h3
    · exact h4)⟩⟩
end
def chk1 (F : List Fn) (op n next : Int) : Option Int :=
  if isFun op then (if 1 ≤ n ∧ n < F.length ∧ (F[n.toNat]?).map Fn.mark = some next then some (next + 2) else none)
  else if op = 11 ∨ op = 15 ∨ op = 16 then (if n = next then some (next + 1) else none)
  else some next
def chkF (F : List Fn) : List Tr → Int → Option Int
  | [], next => some next
  | t :: r, next => match chk1 F t.op t.n next with
    | none => none
    | some k => chkF F r k
theorem chkF_app (F : List Fn) : ∀ (a b : List Tr) (next : Int), chkF F (a ++ b) next = match chkF F a next with
    | none => none
    | some k => chkF F b k
  | [], b, next => rfl
  | t :: r, b, next => by
    rw [List.cons_append, chkF, chkF]
    cases chk1 F t.op t.n next with
    | none => rfl
    | some k => exact chkF_app F r b k
mutual
theorem chkT_flat (F : List Fn) : ∀ (t : Tr) (next : Int), chkF F t.flat next = chkT F t next
  | .mk op s n i l, next => by
    rw [Tr.flat, chkF, chkT]
    show (match chk1 F op n next with
      | none => none
      | some k => chkF F (flats l) k) = _
    unfold chk1
    by_cases hf : isFun op = true
    · rw [if_pos hf, if_pos hf]
      by_cases h : 1 ≤ n ∧ n < F.length ∧ (F[n.toNat]?).map Fn.mark = some next
      · rw [if_pos h, if_pos h]
        exact chkL_flat F l _
      · rw [if_neg h, if_neg h]
    · rw [if_neg hf, if_neg hf]
      by_cases h : op = 11 ∨ op = 15 ∨ op = 16
      · rw [if_pos h, if_pos h]
        by_cases h2 : n = next
        · rw [if_pos h2, if_pos h2]
          exact chkL_flat F l _
        · rw [if_neg h2, if_neg h2]
      · rw [if_neg h, if_neg h]
        exact chkL_flat F l _
theorem chkL_flat (F : List Fn) : ∀ (l : List Tr) (next : Int), chkF F (flats l) next = chkL F l next
  | [], next => by rw [flats, chkL]; rfl
  | t :: r, next => by
    rw [flats, chkF_app, chkT_flat F t, chkL]
    cases chkT F t next with
    | none => rfl
    | some k => exact chkL_flat F r k
end
def RuIn (X : Cx) (r : Ru) : Prop := (0 ≤ r.x ∧ r.x < X.sets) ∧ (0 ≤ r.y ∧ r.y < X.sets) ∧ (-1 ≤ r.z ∧ r.z < X.sets) ∧ (0 ≤ r.f ∧ r.f < X.F.length) ∧ 0 ≤ r.n ∧ 0 ≤ r.m
def InS (X : Cx) (a : Int) : Prop := 0 ≤ a ∧ a < X.sets
theorem var_in {X : Cx} (hX : CxOK X) {n : Int} {j i : Nat} {f : Fn} {s : FS} (h : VarOK X n j i f s) : InS X (X.var n) := by
  have h1 := h.set hX
  obtain ⟨-, h2, h3, -, -, h4⟩ := hX.each j f s h.f h.s
  have := h.i
  unfold Cx.var
  rw [h1]
  exact ⟨by show 0 ≤ s.this - f.vars.length + i; omega, by show s.this - f.vars.length + i < X.sets; omega⟩
theorem fs_in {X : Cx} (hX : CxOK X) {a : Int} {j : Nat} {s : FS} (ha : a = (j : Int)) (h : X.fs[j]? = some s) : InS X (X.fsAt a).this ∧ InS X (X.fsAt a).ret ∧ InS X (X.fsAt a).thr := by
  have hj := (List.getElem?_eq_some_iff.1 h).1
  obtain ⟨f, hf⟩ : ∃ f, X.F[j]? = some f := ⟨_, List.getElem?_eq_getElem (by rw [← hX.len]; exact hj)⟩
  obtain ⟨h1, h2, h3, h4, h5, h6⟩ := hX.each j f s hf h
  have e : X.fsAt a = s := by unfold Cx.fsAt; rw [ha, Int.toNat_natCast, h]; rfl
  rw [e]
  unfold InS
  omega
mutual
theorem evR_in {X : Cx} (hX : CxOK X) : ∀ (t : Tr) (k : Nat) (p : Pl9), InS X p.th → (∀ e ∈ evR X t k p, PartOK X e.t) → ∀ e ∈ evR X t k p, InS X e.p.th ∧ k ≤ e.k ∧ e.k + e.t.size ≤ k + t.size
  | .mk o s n li l, k, p, hp, hok, e, he => by
    have h0 := hok ⟨.mk o s n li l, k, p⟩ (by rw [evR]; exact List.mem_cons_self)
    rw [evR] at he
    rcases List.mem_cons.1 he with rfl | he
    · exact ⟨hp, Nat.le_refl _, Nat.le_refl _⟩
    · have hth : ∀ i, InS X (withinP X o n l.length p i).th := fun i => by
        unfold withinP
        split
        · rename_i ho
          obtain ⟨j, s, hn, hs⟩ := h0.fun_ ho
          exact (fs_in hX (a := n) hn hs).2.2
        · split
          · rename_i ho
            obtain ⟨j, i', f, s, hv⟩ := h0.try_ ho
            show InS X (if i = 0 then X.var n else p.th)
            split
            · exact var_in hX hv
            · exact hp
          · split <;> exact hp
      have h1 := evRL_in hX o n l.length p hth l 0 (k + 1) (fun e he => hok e (by rw [evR]; exact List.mem_cons_of_mem _ he)) e he
      have h2 := size_eq (.mk o s n li l)
      have h3 : (Tr.mk o s n li l).l = l := rfl
      rw [h3] at h2
      exact ⟨h1.1, by omega, by omega⟩
theorem evRL_in {X : Cx} (hX : CxOK X) (o n : Int) (len : Nat) (p : Pl9) (hth : ∀ i, InS X (withinP X o n len p i).th) : ∀ (l : List Tr) (i k : Nat), (∀ e ∈ evRL X o n len p l i k, PartOK X e.t) → ∀ e ∈ evRL X o n len p l i k, InS X e.p.th ∧ k ≤ e.k ∧ e.k + e.t.size ≤ k + sizes l
  | [], _, _, _, e, he => by rw [evRL] at he; cases he
  | c :: r, i, k, hok, e, he => by
    rw [evRL] at he hok
    rw [sizes_cons]
    rcases List.mem_append.1 he with he | he
    · have := evR_in hX c k _ (hth i) (fun e he => hok e (List.mem_append_left _ he)) e he
      exact ⟨this.1, by omega, by omega⟩
    · have := evRL_in hX o n len p hth r (i + 1) (k + c.size) (fun e he => hok e (List.mem_append_right _ he)) e he
      exact ⟨this.1, by omega, by omega⟩
end
theorem setsK_in : ∀ (l : List Tr) (k : Nat) (a : Int), a ∈ setsK l k → (k : Int) ≤ a ∧ a < k + sizes l
  | [], _, _, h => by cases h
  | t :: r, k, a, h => by
    rw [setsK] at h
    rw [sizes_cons]
    have := size_pos t
    rcases List.mem_cons.1 h with rfl | h
    · omega
    · have := setsK_in r _ a h
      omega
theorem partK_in {t : Tr} {i : Nat} (k : Nat) (hi : i < t.l.length) : (k : Int) < partK t k i ∧ partK t k i + (t.part i).size ≤ k + t.size := by
  have h1 : sizes (t.l.take i) + (t.part i).size ≤ sizes t.l := by
    have h2 := sizes_take_succ (l := t.l) (k := i) (x := t.part i) (by unfold Tr.part; rw [List.getElem?_eq_getElem hi]; rfl)
    have h3 := sizes_take_le t.l (i + 1)
    omega
  have h4 := size_eq t
  unfold partK
  omega
theorem pairs_in (X : Cx) (k : Int) (hk : InS X k) : ∀ (l : List Tr) (j : Nat), (∀ q ∈ l, 0 < q.l.length) → ((j + sizes l : Nat) : Int) ≤ X.sets → ∀ r ∈ pairsR k l j, InS X r.x ∧ InS X r.y ∧ r.z = 0 ∧ r.n = 0 ∧ r.m = 0
  | [], _, _, _, r, h => by cases h
  | t :: r, j, hl, hs, x, h => by
    rw [sizes_cons] at hs
    have h1 := size_eq t
    have h2 := length_le_sizes t.l
    have h3 := hl t List.mem_cons_self
    rw [pairsR] at h
    rcases List.mem_cons.1 h with rfl | h
    · exact ⟨hk, ⟨by show (0 : Int) ≤ ((j + 1 : Nat) : Int); omega, by show ((j + 1 : Nat) : Int) < X.sets; omega⟩, rfl, rfl, rfl⟩
    · exact pairs_in X k hk r _ (fun q hq => hl q (List.mem_cons_of_mem _ hq)) (by omega) x h
theorem rule_in {X : Cx} (hX : CxOK X) (hs : 0 < X.sets) {t : Tr} {k : Nat} {p : Pl9} (hr : RuleOK X t p) (hp : PartOK X t) (hfn : ∃ (j : Nat) (s : FS), p.fn = (j : Int) ∧ X.fs[j]? = some s) (hth : InS X p.th) (hk : ((k + t.size : Nat) : Int) ≤ X.sets) (hm : t.op = 11 ∨ t.op = 15 ∨ t.op = 16 → 0 ≤ t.n) :
    ∀ r ∈ (ruleOf X t k p), InS X r.x ∧ InS X r.y ∧ (r.z = -1 ∨ InS X r.z) ∧ 0 ≤ r.n ∧ 0 ≤ r.m := by
  have hz := size_pos t
  have hkS : InS X k := ⟨by omega, by omega⟩
  have h0 : InS X 0 := ⟨Int.le_refl _, hs⟩
  obtain ⟨j, s, hj, hjs⟩ := hfn
  obtain ⟨f1, f2, f3⟩ := fs_in hX hj hjs
  have hpk : ∀ i, i < t.l.length → InS X (partK t k i) ∧ (1 < (t.part i).size → InS X (partK t k i + 1)) := fun i hi => by
    have h1 := partK_in k hi
    have h2 := size_pos (t.part i)
    unfold InS
    omega
  have hp1 : ∀ i, 0 < (t.part i).l.length → 1 < (t.part i).size := fun i hi => by
    have h1 := size_eq (t.part i)
    have h2 := length_le_sizes (t.part i).l
    omega
  have hsk : ∀ l' c', (∀ a ∈ setsK l' c', (c' : Int) ≤ a ∧ a < c' + sizes l') := fun l' c' a h => setsK_in l' c' a h
  have hall : ∀ a ∈ setsK t.l (k + 1), InS X a := fun a ha => by
    have h1 := setsK_in _ _ _ ha
    have h2 := size_eq t
    unfold InS
    omega
  have sub : ∀ x y : Int, InS X x → InS X y → ∀ r ∈ [subR x y], InS X r.x ∧ InS X r.y ∧ (r.z = -1 ∨ InS X r.z) ∧ 0 ≤ r.n ∧ 0 ≤ r.m := fun x y hx hy r h => by
    obtain rfl := List.mem_singleton.1 h
    exact ⟨hx, hy, .inr h0, Int.le_refl _, Int.le_refl _⟩
  intro r h
  unfold ruleOf at h
  by_cases ho : t.op = 1
  · rw [if_pos ho] at h
    obtain ⟨j, i, f, s, hv⟩ := hr.var_ (.inl ho)
    exact sub _ _ (var_in hX hv) hkS r h
  rw [if_neg ho] at h
  clear ho
  by_cases ho : t.op = 8
  · rw [if_pos ho] at h
    exact sub _ _ f1 hkS r h
  rw [if_neg ho] at h
  clear ho
  by_cases ho : t.op = 10
  · rw [if_pos ho] at h
    obtain ⟨j', f, hn, hf, -, hc⟩ := hr.clo_ ho
    rcases List.mem_cons.1 h with rfl | h
    · exact ⟨hkS, h0, .inr h0, by show 0 ≤ t.n; omega, Int.le_refl _⟩
    · split at h
      · rename_i hle
        obtain rfl := List.mem_singleton.1 h
        have e1 : X.varsAt t.n = f.vars := by unfold Cx.varsAt; rw [hn, Int.toNat_natCast, hf]; rfl
        have e2 : X.parsAt t.n = f.params := by unfold Cx.parsAt; rw [hn, Int.toNat_natCast, hf]; rfl
        rw [e1, e2] at hle
        obtain ⟨i, s', hi, hv⟩ := hc hle
        refine ⟨?_, h0, .inr h0, by show 0 ≤ t.n; omega, Int.le_refl _⟩
        show InS X (X.var (t.n * 1000 + idxS (X.varsAt t.n) t.s))
        rw [e1, hi, hn]
        exact var_in hX hv
      · cases h
  rw [if_neg ho] at h
  clear ho
  by_cases ho : t.op = 41
  · rw [if_pos ho] at h
    obtain ⟨j', i, f, s', hj', hf, hi, hv⟩ := hr.dec_ ho
    obtain ⟨j2, s2, hn2, -⟩ := hp.fun_ (.inl ho)
    obtain rfl := List.mem_singleton.1 h
    have e1 : X.varsAt p.fn = f.vars := by unfold Cx.varsAt; rw [hj', Int.toNat_natCast, hf]; rfl
    refine ⟨?_, h0, .inr h0, by show 0 ≤ t.n; omega, Int.le_refl _⟩
    show InS X (X.var (p.fn * 1000 + idxS (X.varsAt p.fn) t.s))
    rw [e1, hi, hj']
    exact var_in hX hv
  rw [if_neg ho] at h
  clear ho
  by_cases ho : t.op = 11
  · rw [if_pos ho] at h
    obtain ⟨-, hq⟩ := hr.obj_ ho
    rcases List.mem_cons.1 h with rfl | h
    · exact ⟨hkS, h0, .inr h0, Int.le_refl _, hm (.inl ho)⟩
    · have h1 := size_eq t
      obtain ⟨g1, g2, g3, g4, g5⟩ := pairs_in X k hkS t.l (k + 1) hq (by omega) r h
      exact ⟨g1, g2, .inr (by rw [g3]; exact h0), by omega, by omega⟩
  rw [if_neg ho] at h
  clear ho
  by_cases ho : t.op = 13
  · rw [if_pos ho] at h
    have hl := hr.one_ (.inl ho)
    obtain rfl := List.mem_singleton.1 h
    exact ⟨(hpk 0 (by omega)).1, hkS, .inr h0, Int.le_refl _, Int.le_refl _⟩
  rw [if_neg ho] at h
  clear ho
  by_cases ho : t.op = 14
  · rw [if_pos ho] at h
    have hl := hr.one_ (.inr (.inl ho))
    obtain rfl := List.mem_singleton.1 h
    exact ⟨(hpk 0 (by omega)).1, hkS, .inr h0, Int.le_refl _, Int.le_refl _⟩
  rw [if_neg ho] at h
  clear ho
  by_cases ho : t.op = 17
  · rw [if_pos ho] at h
    obtain ⟨hl, hc⟩ := hr.set_ ho
    have g1 := (hpk 1 (by omega)).1
    rcases List.mem_append.1 h with h | h
    · rcases hc with ⟨e, j', i, f, s', hv⟩ | ⟨e, e2⟩ | ⟨e, e2⟩
      · rw [if_pos e] at h
        exact sub _ _ g1 (var_in hX hv) r h
      · rw [if_neg (by omega), if_pos e] at h
        obtain rfl := List.mem_singleton.1 h
        exact ⟨(hpk 0 (by omega)).2 (hp1 0 e2), g1, .inr h0, Int.le_refl _, Int.le_refl _⟩
      · rw [if_neg (by omega), if_neg (by omega), if_pos e] at h
        obtain rfl := List.mem_singleton.1 h
        exact ⟨(hpk 0 (by omega)).2 (hp1 0 e2), g1, .inr h0, Int.le_refl _, Int.le_refl _⟩
    · exact sub _ _ g1 hkS r h
  rw [if_neg ho] at h
  clear ho
  by_cases ho : t.op = 21
  · rw [if_pos ho] at h
    have hl := hr.two_ (.inl ho)
    exact sub _ _ (hpk 1 (by omega)).1 hkS r h
  rw [if_neg ho] at h
  clear ho
  by_cases ho : t.op = 22
  · rw [if_pos ho] at h
    have hl := hr.two_ (.inr ho)
    rcases List.mem_cons.1 h with rfl | h
    · exact ⟨(hpk 0 (by omega)).1, hkS, .inr h0, Int.le_refl _, Int.le_refl _⟩
    · exact sub _ _ (hpk 1 (by omega)).1 hkS r h
  rw [if_neg ho] at h
  clear ho
  by_cases ho : t.op = 23
  · rw [if_pos ho] at h
    have hl := hr.three_ ho
    rcases List.mem_cons.1 h with rfl | h
    · exact ⟨(hpk 1 (by omega)).1, hkS, .inr h0, Int.le_refl _, Int.le_refl _⟩
    · exact sub _ _ (hpk 2 (by omega)).1 hkS r h
  rw [if_neg ho] at h
  clear ho
  by_cases ho : t.op = 15
  · rw [if_pos ho] at h
    have hl := hr.call_ (.inl ho)
    obtain rfl := List.mem_singleton.1 h
    refine ⟨(hpk 0 (by omega)).1, hkS, ?_, hth.1, hm (.inr (.inl ho))⟩
    show (if (t.part 0).op = 13 ∨ (t.part 0).op = 14 then partK t k 0 + 1 else -1) = -1 ∨ InS X (if (t.part 0).op = 13 ∨ (t.part 0).op = 14 then partK t k 0 + 1 else -1)
    split
    · rename_i hq
      exact .inr ((hpk 0 (by omega)).2 (hp1 0 (hr.mem_ ho hq)))
    · exact .inl rfl
  rw [if_neg ho] at h
  clear ho
  by_cases ho : t.op = 16
  · rw [if_pos ho] at h
    have hl := hr.call_ (.inr ho)
    obtain rfl := List.mem_singleton.1 h
    exact ⟨(hpk 0 (by omega)).1, hkS, .inr h0, hth.1, hm (.inr (.inr ho))⟩
  rw [if_neg ho] at h
  clear ho
  by_cases ho : t.op = 30
  · rw [if_pos ho] at h
    obtain ⟨j', i, f, s', hv⟩ := hr.var_ (.inr ho)
    obtain ⟨a, ha, rfl⟩ := List.mem_map.1 h
    exact sub _ _ (hall a ha) (var_in hX hv) _ (List.mem_singleton.2 rfl)
  rw [if_neg ho] at h
  clear ho
  by_cases ho : t.op = 36
  · rw [if_pos ho] at h
    obtain ⟨a, ha, rfl⟩ := List.mem_map.1 h
    exact sub _ _ (hall a ha) f2 _ (List.mem_singleton.2 rfl)
  rw [if_neg ho] at h
  clear ho
  by_cases ho : t.op = 37
  · rw [if_pos ho] at h
    have hl := hr.one_ (.inr (.inr ho))
    exact sub _ _ (hpk 0 (by omega)).1 hth r h
  rw [if_neg ho] at h
  cases h
theorem chk_marks (F : List Fn) : ∀ (l : List Tr) (next : Int) (m : Int), 0 ≤ next → chkF F l next = some m → ∀ y ∈ l, y.op = 11 ∨ y.op = 15 ∨ y.op = 16 → 0 ≤ y.n
  | [], _, _, _, _, y, hy, _ => by cases hy
  | t :: r, next, m, h0, h, y, hy, ho => by
    rw [chkF] at h
    cases hc : chk1 F t.op t.n next with
    | none => rw [hc] at h; cases h
    | some nx =>
      rw [hc] at h
      unfold chk1 at hc
      have hnx : 0 ≤ nx ∧ (t.op = 11 ∨ t.op = 15 ∨ t.op = 16 → 0 ≤ t.n) := by
        split at hc
        · rename_i hf
          have h4 := fun_four hf
          split at hc
          · cases hc
            exact ⟨by omega, fun h => by omega⟩
          · cases hc
        · split at hc
          · split at hc
            · cases hc
              exact ⟨by omega, fun _ => by omega⟩
            · cases hc
          · rename_i hn
            cases hc
            exact ⟨h0, fun h => absurd h hn⟩
      rcases List.mem_cons.1 hy with rfl | hy
      · exact hnx.2 ho
      · exact chk_marks F r nx m hnx.1 h y hy ho
theorem sys_in {t : Tr} {F : List Fn} {q : Tr} (h : SysOK t F q) : ∀ r ∈ (rulesOut (resOut t)).2.2.2.1, RuIn (cxOf F q) r := by
  obtain ⟨hb, hok, m, hm, hI⟩ := resolve_told h.res
  have hX := h.cx
  obtain ⟨X, eX⟩ : ∃ X, cxOf F q = X := ⟨_, rfl⟩
  have hXF : X.F = F := by rw [← eX]; rfl
  obtain ⟨hF0, -⟩ : 0 < F.length ∧ True := by
    refine ⟨?_, trivial⟩
    have h9 := h.res
    rw [resolve_eq] at h9
    split at h9
    · cases h9
    · split at h9
      · cases h9
      · rename_i q' w' hr
        cases h9
        obtain ⟨more, e⟩ := (resT_ok _ _ _ _ _ _ hr (by simp)).1
        rw [e]
        simp
  have hv : ∀ f ∈ F, f.vars.length ≤ 200 := fun f hf => by
    obtain ⟨i, hi⟩ := List.mem_iff_getElem?.1 hf
    exact (hI.2 i f hi).2.2.1
  have hsz : ((0 + q.size : Nat) : Int) ≤ X.sets := by
    have := (laidF_le F q.size hv).1
    rw [← eX]
    show ((0 + q.size : Nat) : Int) ≤ (laidF F q.size).2 + 9
    omega
  have hqp := size_pos q
  rw [h.out, eX]
  rw [eX] at hX
  have hfl : 0 < X.fs.length := by rw [hX.len, hXF]; exact hF0
  obtain ⟨s0, hs0⟩ : ∃ s0, X.fs[0]? = some s0 := ⟨_, List.getElem?_eq_getElem hfl⟩
  have hth := (fs_in hX (a := 0) (j := 0) rfl hs0).2.2
  have hfacts := facts_ok h.res h.right hX hXF hfl (X.fsAt 0).thr
  have hin := evR_in hX q 0 ⟨0, (X.fsAt 0).thr, false⟩ hth (fun e he => (hfacts e he).1)
  have hg : good t := good_of (by have := h.right; unfold rightP at this; rw [Bool.and_eq_true] at this; exact this.2)
  have hpl := evR_pl hX q 0 ⟨0, (X.fsAt 0).thr, false⟩ (by rw [hXF]; exact resolve_pl h.res hg) ⟨0, s0, rfl, hs0⟩ (by rw [hXF]; exact okT_flat F q hok)
  have hmk := chk_marks F q.flat 4 m (by omega) (by rw [chkT_flat]; exact hm)
  intro r hr
  simp only at hr
  unfold rulesE at hr
  obtain ⟨e, he, hr⟩ := List.mem_flatMap.1 hr
  unfold rulesAt at hr
  split at hr
  · cases hr
  · rename_i htg
    obtain ⟨r0, hr0, rfl⟩ := List.mem_map.1 hr
    obtain ⟨g1, g2, g3⟩ := hin e he
    obtain ⟨⟨j, s, hj, hjs⟩, -, hfl9⟩ := hpl e he
    obtain ⟨x1, x2, x3, x4, x5⟩ := rule_in hX (by omega) ((hfacts e he).2 (by simpa using htg)) (hfacts e he).1 ⟨j, s, hj, hjs⟩ g1 (by omega) (fun ho => hmk e.t hfl9 ho) r0 hr0
    have hjl := (List.getElem?_eq_some_iff.1 hjs).1
    have := hX.len
    refine ⟨x1, x2, ?_, ⟨?_, ?_⟩, x4, x5⟩
    · show -1 ≤ r0.z ∧ r0.z < X.sets
      unfold InS at x3
      omega
    · show 0 ≤ e.p.fn
      omega
    · show e.p.fn < X.F.length
      omega
def tgOp (t : Tr) : Prop := t.op = 1 ∨ t.op = 13 ∨ t.op = 14
theorem sound_parts {t : Tr} (h : soundOne (bareT t) = true) : partsB t.op t.l.length 0 (t.l.map bareT) = true := by
  cases hs : shapeOf t.op with
  | none =>
    unfold soundOne at h
    rw [(bare_op t).1, hs] at h
    cases h
  | some s => exact (sound_len h hs).2.2
mutual
theorem evR_tg (X : Cx) : ∀ (t : Tr) (k : Nat) (p : Pl9), (∀ y ∈ t.flat, soundOne (bareT y) = true) → (p.tg = true → tgOp t) → ∀ e ∈ evR X t k p, e.p.tg = true → tgOp e.t
  | .mk o s n li l, k, p, hs, hp, e, he, htg => by
    rw [evR] at he
    rcases List.mem_cons.1 he with rfl | he
    · exact hp htg
    · exact evRL_tg X o n l.length p l 0 (k + 1) (fun y hy => hs y (by rw [Tr.flat]; exact List.mem_cons_of_mem _ hy)) (sound_parts (hs (.mk o s n li l) (by rw [Tr.flat]; exact List.mem_cons_self))) e he htg
theorem evRL_tg (X : Cx) (o n : Int) (len : Nat) (p : Pl9) : ∀ (l : List Tr) (i k : Nat), (∀ y ∈ flats l, soundOne (bareT y) = true) → partsB o len i (l.map bareT) = true → ∀ e ∈ evRL X o n len p l i k, e.p.tg = true → tgOp e.t
  | [], _, _, _, _, e, he, _ => by rw [evRL] at he; cases he
  | c :: r, i, k, hs, hp, e, he, htg => by
    rw [evRL] at he
    rw [List.map_cons, partsB, Bool.and_eq_true, (bare_op c).1] at hp
    rcases List.mem_append.1 he with he | he
    · refine evR_tg X c k _ (fun y hy => hs y (by rw [flats]; exact List.mem_append_left _ hy)) (fun h => ?_) e he htg
      have h1 := hp.1
      unfold withinP at h
      unfold tgOp
      by_cases h4 : o = 41 ∨ o = 10
      · rw [if_pos h4] at h
        have hi : (i : Int) < len - 1 := by simpa using h
        unfold wantedB at h1
        rw [if_neg (by omega), if_neg (by omega), if_neg (by omega), if_neg (by omega), if_pos (by omega), if_pos hi] at h1
        simp [hasB] at h1
        exact .inl h1
      · rw [if_neg h4] at h
        by_cases h3 : o = 38
        · rw [if_pos h3] at h
          cases h
        · rw [if_neg h3] at h
          by_cases h7 : o = 17
          · rw [if_pos h7] at h
            have hi : i = 0 := by simpa using h
            unfold wantedB at h1
            rw [if_neg (by omega), if_neg (by omega), if_pos h7, if_pos (by omega)] at h1
            simp [hasB] at h1
            omega
          · rw [if_neg h7] at h
            cases h
    · exact evRL_tg X o n len p r (i + 1) _ (fun y hy => hs y (by rw [flats]; exact List.mem_append_right _ hy)) hp.2 e he htg
end
mutual
theorem evR_map (X : Cx) : ∀ (t : Tr) (k : Nat) (p : Pl9), (evR X t k p).map (·.t) = t.flat
  | .mk o s n li l, k, p => by rw [evR, List.map_cons, evRL_map X o n l.length p l, Tr.flat]
theorem evRL_map (X : Cx) (o n : Int) (len : Nat) (p : Pl9) : ∀ (l : List Tr) (i k : Nat), (evRL X o n len p l i k).map (·.t) = flats l
  | [], _, _ => rfl
  | c :: r, i, k => by rw [evRL, List.map_append, evR_map X c, evRL_map X o n len p r, flats]
end
def kdOf (op : Int) : Int := if op = 11 then 1 else if op = 15 then 8 else if op = 16 then 9 else 0
theorem pairs_kd (k : Int) : ∀ (l : List Tr) (j : Nat), ∀ r ∈ pairsR k l j, r.kd = 6
  | [], _, _, h => by cases h
  | t :: r, j, x, h => by
    rw [pairsR] at h
    rcases List.mem_cons.1 h with rfl | h
    · rfl
    · exact pairs_kd k r _ x h
theorem ruleOf_kd (X : Cx) (t : Tr) (k : Nat) (p : Pl9) : ∃ A B, ruleOf X t k p = A ++ B ∧ (∀ r ∈ B, 2 ≤ r.kd ∧ r.kd ≤ 7) ∧
    ((kdOf t.op = 0 ∧ A = []) ∨ ∃ r, A = [r] ∧ r.kd = kdOf t.op ∧ (r.kd = 1 ∨ r.kd = 8 ∨ r.kd = 9) ∧ r.m = t.n) ∧ (isFun t.op = true → ∃ r ∈ B, r.kd = 2) := by
  have sub : ∀ x y : Int, ∀ r ∈ [subR x y], 2 ≤ r.kd ∧ r.kd ≤ 7 := fun x y r h => by
    obtain rfl := List.mem_singleton.1 h
    exact ⟨by show (2 : Int) ≤ 3; decide, by show (3 : Int) ≤ 7; decide⟩
  have two : ∀ l : List Ru, ∀ r ∈ l, r.kd = 2 ∨ r.kd = 3 ∨ r.kd = 4 ∨ r.kd = 5 ∨ r.kd = 6 ∨ r.kd = 7 → 2 ≤ r.kd ∧ r.kd ≤ 7 := fun l r _ h => by omega
  by_cases o11 : t.op = 11
  · unfold ruleOf
    rw [if_neg (by omega), if_neg (by omega), if_neg (by omega), if_neg (by omega), if_pos o11]
    exact ⟨[⟨1, 0, k, 0, 0, 0, t.n, [], []⟩], _, rfl, fun r h => by rw [pairs_kd _ _ _ r h]; decide, .inr ⟨_, rfl, by unfold kdOf; rw [if_pos o11], .inl rfl, rfl⟩, fun h => by have := fun_four h; omega⟩
  by_cases o15 : t.op = 15
  · refine ⟨[⟨8, 0, partK t k 0, k, if (t.part 0).op = 13 ∨ (t.part 0).op = 14 then partK t k 0 + 1 else -1, p.th, t.n, [], setsK (t.l.drop 1) (k + 1 + (t.part 0).size)⟩], [], ?_, fun r h => (by cases h), .inr ⟨_, rfl, by unfold kdOf; rw [if_neg o11, if_pos o15], .inr (.inl rfl), rfl⟩, fun h => by have := fun_four h; omega⟩
    unfold ruleOf
    rw [if_neg (by omega), if_neg (by omega), if_neg (by omega), if_neg (by omega), if_neg (by omega), if_neg (by omega), if_neg (by omega), if_neg (by omega), if_neg (by omega), if_neg (by omega), if_neg (by omega), if_pos o15]
    rfl
  by_cases o16 : t.op = 16
  · refine ⟨[⟨9, 0, partK t k 0, k, 0, p.th, t.n, [], setsK (t.l.drop 1) (k + 1 + (t.part 0).size)⟩], [], ?_, fun r h => (by cases h), .inr ⟨_, rfl, by unfold kdOf; rw [if_neg o11, if_neg o15, if_pos o16], .inr (.inr rfl), rfl⟩, fun h => by have := fun_four h; omega⟩
    unfold ruleOf
    rw [if_neg (by omega), if_neg (by omega), if_neg (by omega), if_neg (by omega), if_neg (by omega), if_neg (by omega), if_neg (by omega), if_neg (by omega), if_neg (by omega), if_neg (by omega), if_neg (by omega), if_neg (by omega), if_pos o16]
    rfl
  have hk : kdOf t.op = 0 := by unfold kdOf; rw [if_neg o11, if_neg o15, if_neg o16]
  refine ⟨[], ruleOf X t k p, rfl, fun r h => ?_, .inl ⟨hk, rfl⟩, fun hf => ?_⟩
  · unfold ruleOf at h
    by_cases ho : t.op = 1
    · rw [if_pos ho] at h
      exact sub _ _ r h
    rw [if_neg ho] at h
    clear ho
    by_cases ho : t.op = 8
    · rw [if_pos ho] at h
      exact sub _ _ r h
    rw [if_neg ho] at h
    clear ho
    by_cases ho : t.op = 10
    · rw [if_pos ho] at h
      rcases List.mem_cons.1 h with rfl | h
      · exact ⟨Int.le_refl _, by show (2 : Int) ≤ 7; decide⟩
      · split at h
        · obtain rfl := List.mem_singleton.1 h
          exact ⟨Int.le_refl _, by show (2 : Int) ≤ 7; decide⟩
        · cases h
    rw [if_neg ho] at h
    clear ho
    by_cases ho : t.op = 41
    · rw [if_pos ho] at h
      obtain rfl := List.mem_singleton.1 h
      exact ⟨Int.le_refl _, by show (2 : Int) ≤ 7; decide⟩
    rw [if_neg ho, if_neg o11] at h
    clear ho
    by_cases ho : t.op = 13
    · rw [if_pos ho] at h
      obtain rfl := List.mem_singleton.1 h
      exact ⟨by show (2 : Int) ≤ 4; decide, by show (4 : Int) ≤ 7; decide⟩
    rw [if_neg ho] at h
    clear ho
    by_cases ho : t.op = 14
    · rw [if_pos ho] at h
      obtain rfl := List.mem_singleton.1 h
      exact ⟨by show (2 : Int) ≤ 5; decide, by show (5 : Int) ≤ 7; decide⟩
    rw [if_neg ho] at h
    clear ho
    by_cases ho : t.op = 17
    · rw [if_pos ho] at h
      rcases List.mem_append.1 h with h | h
      · by_cases q1 : (t.part 0).op = 1
        · rw [if_pos q1] at h
          exact sub _ _ r h
        rw [if_neg q1] at h
        by_cases q2 : (t.part 0).op = 13
        · rw [if_pos q2] at h
          obtain rfl := List.mem_singleton.1 h
          exact ⟨by show (2 : Int) ≤ 6; decide, by show (6 : Int) ≤ 7; decide⟩
        rw [if_neg q2] at h
        by_cases q3 : (t.part 0).op = 14
        · rw [if_pos q3] at h
          obtain rfl := List.mem_singleton.1 h
          exact ⟨by show (2 : Int) ≤ 7; decide, Int.le_refl _⟩
        rw [if_neg q3] at h
        cases h
      · exact sub _ _ r h
    rw [if_neg ho] at h
    clear ho
    by_cases ho : t.op = 21
    · rw [if_pos ho] at h
      exact sub _ _ r h
    rw [if_neg ho] at h
    clear ho
    by_cases ho : t.op = 22
    · rw [if_pos ho] at h
      rcases List.mem_cons.1 h with rfl | h
      · exact sub _ _ _ (List.mem_singleton.2 rfl)
      · exact sub _ _ r h
    rw [if_neg ho] at h
    clear ho
    by_cases ho : t.op = 23
    · rw [if_pos ho] at h
      rcases List.mem_cons.1 h with rfl | h
      · exact sub _ _ _ (List.mem_singleton.2 rfl)
      · exact sub _ _ r h
    rw [if_neg ho, if_neg o15, if_neg o16] at h
    clear ho
    by_cases ho : t.op = 30
    · rw [if_pos ho] at h
      obtain ⟨a, -, rfl⟩ := List.mem_map.1 h
      exact sub _ _ _ (List.mem_singleton.2 rfl)
    rw [if_neg ho] at h
    clear ho
    by_cases ho : t.op = 36
    · rw [if_pos ho] at h
      obtain ⟨a, -, rfl⟩ := List.mem_map.1 h
      exact sub _ _ _ (List.mem_singleton.2 rfl)
    rw [if_neg ho] at h
    clear ho
    by_cases ho : t.op = 37
    · rw [if_pos ho] at h
      exact sub _ _ r h
    rw [if_neg ho] at h
    cases h
  · unfold ruleOf
    rcases fun_four hf with ho | ho
    · rw [if_neg (by omega), if_neg (by omega), if_neg (by omega), if_pos ho]
      exact ⟨_, List.mem_singleton.2 rfl, rfl⟩
    · rw [if_neg (by omega), if_neg (by omega), if_pos ho]
      exact ⟨_, List.mem_cons_self, rfl⟩
def cntK (R : List Ru) (j : Int) : Nat := (R.filter fun r => r.kd == j).length
theorem cntK_app (a b : List Ru) (j : Int) : cntK (a ++ b) j = cntK a j + cntK b j := by unfold cntK; rw [List.filter_append, List.length_append]
theorem cntK_none {R : List Ru} {j : Int} (h : ∀ r ∈ R, r.kd ≠ j) : cntK R j = 0 := by
  unfold cntK
  rw [List.filter_eq_nil_iff.2 (fun r hr => by simpa using h r hr)]
  rfl
theorem cntK_mem {R : List Ru} {j : Int} {r : Ru} (h : r ∈ R) (e : r.kd = j) : 1 ≤ cntK R j := by
  unfold cntK
  exact List.length_pos_of_mem (List.mem_filter.2 ⟨h, by simpa using e⟩)
def upM : List Ru → Int → Option Int
  | [], a => some a
  | r :: l, a => if r.kd = 1 ∨ r.kd = 8 ∨ r.kd = 9 then (if a < r.m then upM l r.m else none) else upM l a
theorem upM_app : ∀ (a b : List Ru) (x y : Int), upM a x = some y → upM (a ++ b) x = upM b y
  | [], b, x, y, h => by cases h; rfl
  | r :: l, b, x, y, h => by
    have e : ∀ l' z, upM (r :: l') z = if r.kd = 1 ∨ r.kd = 8 ∨ r.kd = 9 then (if z < r.m then upM l' r.m else none) else upM l' z := fun _ _ => rfl
    rw [List.cons_append]
    rw [e] at h ⊢
    split
    · rename_i hk
      rw [if_pos hk] at h
      split
      · rename_i hl
        rw [if_pos hl] at h
        exact upM_app l b _ _ h
      · rename_i hl
        rw [if_neg hl] at h
        cases h
    · rename_i hk
      rw [if_neg hk] at h
      exact upM_app l b _ _ h
theorem upM_none : ∀ (l : List Ru) (x : Int), (∀ r ∈ l, 2 ≤ r.kd ∧ r.kd ≤ 7) → upM l x = some x
  | [], _, _ => rfl
  | r :: l, x, h => by
    have := h r List.mem_cons_self
    unfold upM
    rw [if_neg (by omega)]
    exact upM_none l x fun r hr => h r (List.mem_cons_of_mem _ hr)
theorem ev_kd (X : Cx) (e : Ev9) (F : List Fn) (htg : e.p.tg = true → tgOp e.t) (next nx : Int) (hc : chk1 F e.t.op e.t.n next = some nx) (a : Int) (ha : a < next) :
    (∃ a', upM (rulesAt X e.t e.k e.p) a = some a' ∧ a' < nx) ∧ (∀ r ∈ rulesAt X e.t e.k e.p, 1 ≤ r.kd ∧ r.kd ≤ 9) ∧
    (∀ op : Int, op = 11 ∨ op = 15 ∨ op = 16 → cntK (rulesAt X e.t e.k e.p) (kdOf op) = if e.t.op = op then 1 else 0) ∧ ((if isFun e.t.op = true then 1 else 0) ≤ cntK (rulesAt X e.t e.k e.p) 2) := by
  have hnx : next ≤ nx ∧ (kdOf e.t.op ≠ 0 → e.t.n = next ∧ nx = next + 1) := by
    unfold chk1 at hc
    split at hc
    · rename_i hf
      have h4 := fun_four hf
      split at hc
      · cases hc
        exact ⟨by omega, fun h => absurd (by unfold kdOf; rw [if_neg (by omega), if_neg (by omega), if_neg (by omega)]) h⟩
      · cases hc
    · split at hc
      · split at hc
        · rename_i hn
          cases hc
          exact ⟨by omega, fun _ => ⟨hn, rfl⟩⟩
        · cases hc
      · rename_i ho
        cases hc
        exact ⟨Int.le_refl _, fun h => absurd (by unfold kdOf; rw [if_neg (by omega), if_neg (by omega), if_neg (by omega)]) h⟩
  unfold rulesAt
  by_cases ht : e.p.tg = true
  · rw [if_pos ht]
    have h1 := htg ht
    unfold tgOp at h1
    refine ⟨⟨a, rfl, by omega⟩, fun r h => (by cases h), fun op ho => ?_, ?_⟩
    · rw [if_neg (by omega)]
      rfl
    · rw [if_neg (fun h => by have := fun_four h; omega)]
      exact Nat.zero_le _
  · rw [if_neg ht]
    obtain ⟨A, B, h1, h2, h3, h4⟩ := ruleOf_kd X e.t e.k e.p
    have hat : ∀ r : Ru, (r.at_ e.p.fn).kd = r.kd ∧ (r.at_ e.p.fn).m = r.m := fun r => ⟨rfl, rfl⟩
    rw [h1, List.map_append]
    have hB : ∀ r ∈ B.map (·.at_ e.p.fn), 2 ≤ r.kd ∧ r.kd ≤ 7 := fun r hr => by
      obtain ⟨r', hr', rfl⟩ := List.mem_map.1 hr
      exact h2 r' hr'
    have hB0 : ∀ j : Int, j = 1 ∨ j = 8 ∨ j = 9 → cntK (B.map (·.at_ e.p.fn)) j = 0 := fun j hj => cntK_none fun r hr => by have := hB r hr; omega
    have hkd : ∀ op : Int, op = 11 ∨ op = 15 ∨ op = 16 → kdOf op = 1 ∨ kdOf op = 8 ∨ kdOf op = 9 := fun op ho => by
      rcases ho with rfl | rfl | rfl <;> decide
    have hinj : ∀ op : Int, op = 11 ∨ op = 15 ∨ op = 16 → (kdOf e.t.op = kdOf op ↔ e.t.op = op) := fun op ho => by
      constructor
      · intro h
        unfold kdOf at h
        rcases ho with rfl | rfl | rfl
        all_goals
          repeat' split at h
          all_goals first | assumption | omega
      · intro h
        rw [h]
    have h2c : (if isFun e.t.op = true then 1 else 0) ≤ cntK (B.map (·.at_ e.p.fn)) 2 := by
      split
      · rename_i hf
        obtain ⟨r, hr, e2⟩ := h4 hf
        exact cntK_mem (List.mem_map_of_mem hr) e2
      · exact Nat.zero_le _
    rcases h3 with ⟨hk, rfl⟩ | ⟨r, rfl, g1, g2, g3⟩
    · refine ⟨⟨a, upM_none _ _ hB, by omega⟩, fun r hr => by have := hB r hr; omega, fun op ho => ?_, h2c⟩
      show cntK (B.map (·.at_ e.p.fn)) (kdOf op) = _
      rw [hB0 _ (hkd op ho), if_neg (fun h => by have := (hinj op ho).2 h; have := hkd op ho; omega)]
    · obtain ⟨n1, n2⟩ := hnx.2 (by rw [← g1]; omega)
      have hu : upM (List.map (·.at_ e.p.fn) [r]) a = some e.t.n := by
        show (if (r.at_ e.p.fn).kd = 1 ∨ (r.at_ e.p.fn).kd = 8 ∨ (r.at_ e.p.fn).kd = 9 then (if a < (r.at_ e.p.fn).m then some (r.at_ e.p.fn).m else none) else some a) = some e.t.n
        rw [(hat r).1, (hat r).2, if_pos g2, g3, if_pos (by omega)]
      refine ⟨⟨e.t.n, ?_, by omega⟩, fun r' hr => ?_, fun op ho => ?_, ?_⟩
      · rw [upM_app _ _ _ _ hu]
        exact upM_none _ _ hB
      · rcases List.mem_append.1 hr with hr | hr
        · obtain rfl := List.mem_singleton.1 hr
          rw [(hat r).1]
          omega
        · have := hB r' hr
          omega
      · rw [cntK_app, hB0 _ (hkd op ho)]
        show (List.filter (fun r : Ru => r.kd == kdOf op) [r.at_ e.p.fn]).length + 0 = _
        by_cases h : e.t.op = op
        · rw [if_pos h, List.filter_cons_of_pos (by rw [(hat r).1, g1, h]; simp)]
          rfl
        · rw [if_neg h, List.filter_cons_of_neg (by rw [(hat r).1, g1]; simpa using fun h9 => h ((hinj op ho).1 h9))]
          rfl
      · rw [cntK_app]
        omega
def kindsT (l : List Tr) (op : Int) : Nat := (l.filter fun t => t.op == op).length
theorem ev_all (X : Cx) (F : List Fn) : ∀ (es : List Ev9) (next m a : Int), (∀ e ∈ es, e.p.tg = true → tgOp e.t) → chkF F (es.map (·.t)) next = some m → a < next →
    (∃ a', upM (rulesE X es) a = some a') ∧ (∀ r ∈ rulesE X es, 1 ≤ r.kd ∧ r.kd ≤ 9) ∧ (∀ op : Int, op = 11 ∨ op = 15 ∨ op = 16 → cntK (rulesE X es) (kdOf op) = kindsT (es.map (·.t)) op) ∧ kindsT (es.map (·.t)) 10 + kindsT (es.map (·.t)) 41 ≤ cntK (rulesE X es) 2
  | [], next, m, a, _, _, _ => ⟨⟨a, rfl⟩, fun r h => (by cases h), fun op _ => rfl, Nat.le_refl _⟩
  | e :: r, next, m, a, htg, hc, ha => by
    rw [List.map_cons, chkF] at hc
    cases h1 : chk1 F e.t.op e.t.n next with
    | none => rw [h1] at hc; cases hc
    | some nx =>
      rw [h1] at hc
      obtain ⟨⟨a', g1, g2⟩, g3, g4, g5⟩ := ev_kd X e F (htg e List.mem_cons_self) next nx h1 a ha
      obtain ⟨⟨a2, k1⟩, k3, k4, k5⟩ := ev_all X F r nx m a' (fun e he => htg e (List.mem_cons_of_mem _ he)) hc g2
      have er : rulesE X (e :: r) = rulesAt X e.t e.k e.p ++ rulesE X r := rfl
      have ek : ∀ op, kindsT ((e :: r).map (·.t)) op = (if e.t.op = op then 1 else 0) + kindsT (r.map (·.t)) op := fun op => by
        unfold kindsT
        rw [List.map_cons, List.filter_cons]
        by_cases h : e.t.op = op
        · rw [if_pos (by simpa using h), if_pos h, List.length_cons]
          omega
        · rw [if_neg (by simpa using h), if_neg h]
          omega
      rw [er]
      refine ⟨⟨a2, by rw [upM_app _ _ _ _ g1]; exact k1⟩, fun x hx => (List.mem_append.1 hx).elim (g3 x) (k3 x), fun op ho => by rw [cntK_app, g4 op ho, k4 op ho, ek], ?_⟩
      rw [cntK_app, ek, ek]
      have h9 : (if e.t.op = 10 then 1 else 0) + (if e.t.op = 41 then 1 else 0) ≤ (if isFun e.t.op = true then 1 else 0 : Nat) := by
        by_cases hf : isFun e.t.op = true
        · rw [if_pos hf]
          split <;> split <;> omega
        · have hf' := hf
          unfold isFun at hf'
          simp at hf'
          rw [if_neg hf, if_neg (by omega), if_neg (by omega)]
          exact Nat.le_refl _
      omega
theorem kinds_bare {t : Tr} {q : Tr} (h : q.flat.map bareT = t.flat) (op : Int) : kindsT q.flat op = kindsT t.flat op := by
  rw [← h]
  unfold kindsT
  rw [List.filter_map, List.length_map]
  congr 2
  funext y
  show (y.op == op) = ((bareT y).op == op)
  rw [(bare_op y).1]
theorem sys_kd {t : Tr} {F : List Fn} {q : Tr} (h : SysOK t F q) {R : List Ru} (hR : (rulesOut (resOut t)).2.2.2.1 = R) :
    (∃ a', upM R 3 = some a') ∧ (∀ r ∈ R, 1 ≤ r.kd ∧ r.kd ≤ 9) ∧ cntK R 1 = kindsT t.flat 11 ∧ cntK R 8 = kindsT t.flat 15 ∧ cntK R 9 = kindsT t.flat 16 ∧ kindsT t.flat 10 + kindsT t.flat 41 ≤ cntK R 2 := by
  obtain ⟨hb, hok, m, hm, hI⟩ := resolve_told h.res
  have hg : good t := good_of (by have := h.right; unfold rightP at this; rw [Bool.and_eq_true] at this; exact this.2)
  have hbp : (q.flat.map bareT) = t.flat := by rw [← bare_flat, hb, right_bare h.right]
  have hsd : ∀ y ∈ q.flat, soundOne (bareT y) = true := fun y hy => hg _ (by rw [← hbp]; exact List.mem_map_of_mem hy)
  rw [h.out] at hR
  simp only at hR
  subst hR
  obtain ⟨a1, a2, a3, a4⟩ := ev_all (cxOf F q) F (evR (cxOf F q) q 0 ⟨0, ((cxOf F q).fsAt 0).thr, false⟩) 4 m 3 (fun e he => evR_tg _ q 0 _ hsd (fun h => by cases h) e he) (by rw [evR_map, chkT_flat]; exact hm) (by decide)
  rw [evR_map] at a3 a4
  refine ⟨a1, a2, ?_, ?_, ?_, ?_⟩
  · rw [← kinds_bare hbp]
    exact a3 11 (.inl rfl)
  · rw [← kinds_bare hbp]
    exact a3 15 (.inr (.inl rfl))
  · rw [← kinds_bare hbp]
    exact a3 16 (.inr (.inr rfl))
  · rw [← kinds_bare hbp, ← kinds_bare hbp]
    exact a4
theorem kindsT_cons (t : Tr) (op : Int) : kindsT t.flat op = (if t.op = op then 1 else 0) + kindsT (flats t.l) op := by
  rw [flat_eq]
  unfold kindsT
  rw [List.filter_cons]
  by_cases h : t.op = op
  · rw [if_pos (by simpa using h), if_pos h, List.length_cons]
    omega
  · rw [if_neg (by simpa using h), if_neg h]
    omega
theorem kindsT_le (t : Tr) (op : Int) : kindsT t.flat op ≤ t.size := by
  unfold kindsT
  rw [← flat_len]
  exact List.length_filter_le _ _
set_option maxRecDepth 100000 in
set_option maxHeartbeats 4000000 in
theorem kinds_law (op : Int) (t : Tr) : ∀ (v : Value) (w : World), At w w.heap.size t v → t.size ≤ 1500 →
    Calls Tryz.prog 20 #[v, .int .i64 op] w fun e w' => e = .returned (.int .i64 (kindsT t.flat op : Nat)) ∧ Below w.heap.size w w' := by
  refine tree_ind (P := fun t => ∀ (v : Value) (w : World), At w w.heap.size t v → t.size ≤ 1500 →
    Calls Tryz.prog 20 #[v, .int .i64 op] w fun e w' => e = .returned (.int .i64 (kindsT t.flat op : Nat)) ∧ Below w.heap.size w w') ?_ t
  clear t
  intro t ih v w ht hsz
  have IH := Lib.hid (fun u (hu : u ∈ t.l) => ih u (size_part hu))
  clear ih
  rw [At_iff] at ht
  obtain ⟨u, rfl, ⟨A, cap, rfl, hc, ha⟩, hs⟩ := ht
  have HA := Lib.hid ha
  have HZ := Lib.hid (size_eq t)
  have hst : sizes t.l < 1500 := by have := size_eq t; omega
  unfold nodeV
  obtain ⟨l, el⟩ : ∃ x, t.l = x := ⟨_, rfl⟩
  have HK := Lib.hid (kindsT_cons t op)
  obtain ⟨z, ez⟩ : ∃ x, kindsT t.flat op = x := ⟨_, rfl⟩
  rw [el] at HA IH HZ HK hc hst ⊢
  rw [ez] at HK ⊢
  have hz15 : z ≤ 1500 := by have := kindsT_le t op; omega
  unfold maxLen at hc
  clear ez ha hs hsz
  obtain ⟨len, en⟩ : ∃ k, l.length = k := ⟨_, rfl⟩
  have HL := Lib.hid en
  have HIL := Lib.hid el
  rw [en] at HA hc ⊢
  clear en el
  obtain ⟨q, eq⟩ : ∃ q : Nat, (if t.op = op then 1 else 0) = q := ⟨_, rfl⟩
  rw [eq] at HK
  have hq1 : q ≤ 1 := by rw [← eq]; split <;> omega
  obtain ⟨w2, hw2⟩ : ∃ x, (w.alloc (.cells #[.int .i64 t.op, .string (bs t.s), .int .i64 t.n, .slice A len cap, .int .i64 t.line] 24)) = x := ⟨_, rfl⟩
  have hbel : Below w.heap.size w w2 := by rw [← hw2]; exact (Below.refl _ w).alloc (Nat.le_refl _) _
  have hbx : w2.heap[w.heap.size]? = some (.cells #[.int .i64 t.op, .string (bs t.s), .int .i64 t.n, .slice A len cap, .int .i64 t.line] 24 (0, 0)) := by rw [← hw2]; exact heap_alloc_new w _
  have hsz : w2.heap.size = w.heap.size + 1 := by rw [← hw2]; simp
  obtain ⟨b0, b1, b2, b3, b4⟩ := (box_facts hbx).1
  have HE := Lib.hid hw2
  have HB := Lib.hid (And.intro hbel (And.intro hbx hsz))
  clear hw2 hbel hbx
  have hop : ((t.op == op) = true ∧ q = 1) ∨ ((t.op == op) = false ∧ q = 0) := by
    by_cases h : t.op = op
    · rw [if_pos h] at eq
      exact .inl ⟨by simpa using h, eq.symm⟩
    · rw [if_neg h] at eq
      exact .inr ⟨by simpa using h, eq.symm⟩
  clear eq
  rcases hop with ⟨d0, rfl⟩ | ⟨d0, rfl⟩
  all_goals
    go_enter Tryz.func20, Tryz.ntmps20
    go_upto_region 1 with fail
    rw [HE.out]
    go_wp2
    go_loopw [5, 6] (fun y i wr => ∃ (k : Nat) (s : Nat), k ≤ len ∧ i = .int .i64 k ∧ y = .int .i64 (s : Nat) ∧ RowKit.Hid (z = s + (kindsT (flats (l.drop k)) op)) ∧ Below w2.heap.size w2 wr ∧ s ≤ 1500) (fun _ i _ => len - (intOf i).toNat)
    case atStart => first | exact ⟨0, 1, Nat.zero_le _, rfl, rfl, Lib.hid (by rw [List.drop_zero]; exact HK.out), Below.refl _ _, by omega⟩ | exact ⟨0, 0, Nat.zero_le _, rfl, rfl, Lib.hid (by rw [List.drop_zero]; exact HK.out), Below.refl _ _, by omega⟩
    case round =>
      obtain ⟨k, s, hk, rfl, rfl, hzs, hB, hs15⟩ := hrel
      have d1 := (hB.cell (p := ⟨w.heap.size, 3, none⟩) (by simp; omega)).trans b3
      have hbw := HB.out.1.trans (hB.mono (by omega))
      by_cases hlt : k < len
      · have g1 : (k : Int) < len := by omega
        obtain ⟨ga, fa, rfl, hga, HA9⟩ := HA.out (by omega)
        obtain ⟨x, ex⟩ : ∃ x, l[k]? = some x := ⟨_, List.getElem?_eq_getElem (by rw [HL.out]; exact hlt)⟩
        obtain ⟨vx, hx, x0, x1, x2, x3, x4⟩ := AtL.get l k x (AtL.keep (W' := wr) (n' := w.heap.size) l HA9 hga (Nat.le_refl _) fun _ hp => hbw.cell hp) ex
        have IHk := Lib.hid (IH.out x (List.mem_of_getElem? ex) _ wr (At.keep (n' := wr.heap.size) x hx (by have := hB.size; omega) fun _ _ => rfl) (by have h1 := size_mem (List.mem_of_getElem? ex); omega))
        have hdr : kindsT (flats (l.drop k)) op = kindsT x.flat op + kindsT (flats (l.drop (k + 1))) op := by
          obtain ⟨hk9, rfl⟩ := List.getElem?_eq_some_iff.1 ex
          rw [List.drop_eq_getElem_cons hk9, flats_cons]
          unfold kindsT
          rw [List.filter_append, List.length_append]
        obtain ⟨kx, ekx⟩ : ∃ y, kindsT x.flat op = y := ⟨_, rfl⟩
        rw [ekx] at hdr IHk
        have hsum : s + kx ≤ 1500 := by have := hzs.out; omega
        have HS := Lib.hid hdr
        clear HA9 hx ex hdr ekx
        go_wp2_with (go_at_call 20; refine IHk.out.mono ?_; rintro e w' ⟨rfl, hb⟩)
        go_roundw
        case rel => exact ⟨k + 1, s + kx, by omega, by go_num, by go_num, Lib.hid (by have := hzs.out; have := HS.out; omega), hB.trans (hb.mono hB.size), hsum⟩
        case measure => simp [intOf]; omega
      · obtain rfl : k = len := by omega
        go_wp2
        go_ret
        exact ⟨ret_i (by have := hzs.out; rw [List.drop_eq_nil_of_le (by rw [HL.out]; exact Nat.le_refl _), flats_nil] at this; have h0 : kindsT [] op = 0 := rfl; omega), hbw⟩
def ArrAt (W : World) (D : Nat) (R : List Ru) : Prop := ∃ cs : Array Value, W.heap[D]? = some (.cells cs 49 (0, 0)) ∧ cs.size = 10 ∧ ∀ j, j < 10 → cs[j]? = some (.int .i64 (cntK R (j : Nat) : Nat))
theorem ArrAt.cell {W : World} {D : Nat} {R : List Ru} (h : ArrAt W D R) {j : Nat} (hj : j < 10) : W.cell? ⟨D, j, none⟩ = some (.int .i64 (cntK R (j : Nat) : Nat)) ∧ W.frozen? ⟨D, j, none⟩ = false := by
  obtain ⟨cs, h1, h2, h3⟩ := h
  exact ⟨(cell_of_row _ _ j _ _ _ h1).trans (h3 j hj), by simp [World.frozen?, h1]⟩
theorem ArrAt.same {W W' : World} {D : Nat} {R : List Ru} (h : ArrAt W D R) (hb : W'.heap[D]? = W.heap[D]?) : ArrAt W' D R := by
  obtain ⟨cs, h1, h2⟩ := h
  exact ⟨cs, hb.trans h1, h2⟩
theorem ArrAt.lt {W : World} {D : Nat} {R : List Ru} (h : ArrAt W D R) : D < W.heap.size := by
  obtain ⟨cs, h1, -⟩ := h
  exact heap_lt h1
theorem ArrAt.step {W : World} {D : Nat} {R : List Ru} (h : ArrAt W D R) {r : Ru} {j : Nat} (hr : r.kd = (j : Nat)) (hj : j < 10) : ArrAt (W.setCell ⟨D, j, none⟩ (.int .i64 ((cntK R (j : Nat) : Nat) + 1 : Int))) D (R ++ [r]) := by
  obtain ⟨cs, h1, h2, h3⟩ := h
  refine ⟨_, blk_set h1 j _, by simp [h2], fun i hi => ?_⟩
  have e : cntK (R ++ [r]) (i : Nat) = cntK R (i : Nat) + if i = j then 1 else 0 := by
    rw [cntK_app]
    unfold cntK
    by_cases hij : i = j
    · rw [if_pos hij, List.filter_cons_of_pos (by rw [hr, hij]; simp)]
      rfl
    · rw [if_neg hij, List.filter_cons_of_neg (by rw [hr]; simp; omega)]
      rfl
  rw [e, Array.getElem?_setIfInBounds]
  by_cases hij : j = i
  · subst hij
    rw [if_pos rfl, if_pos (by omega), if_pos rfl]
    rfl
  · rw [if_neg hij, if_neg (fun h => hij h.symm)]
    exact h3 i hi
theorem cntK_le (R : List Ru) (j : Int) : cntK R j ≤ R.length := List.length_filter_le _ _
theorem upM_drop {R : List Ru} {k : Nat} {r : Ru} {a m : Int} (hr : R[k]? = some r) (h : upM (R.drop k) a = some m) :
    ((r.kd = 1 ∨ r.kd = 8 ∨ r.kd = 9) ∧ a < r.m ∧ upM (R.drop (k + 1)) r.m = some m) ∨ (¬ (r.kd = 1 ∨ r.kd = 8 ∨ r.kd = 9) ∧ upM (R.drop (k + 1)) a = some m) := by
  obtain ⟨hk, e⟩ := List.getElem?_eq_some_iff.1 hr
  rw [List.drop_eq_getElem_cons hk, e, upM] at h
  split at h
  · rename_i hc
    split at h
    · rename_i hl
      exact .inl ⟨hc, hl, h⟩
    · cases h
  · rename_i hc
    exact .inr ⟨hc, h⟩
set_option maxRecDepth 100000 in
set_option maxHeartbeats 4000000 in
theorem rkinds_any (t : Tr) (v : Value) (w : World) (ht : At w w.heap.size t v) : Calls Tryz.prog 8 #[v] w fun e w' => e = .returned (.bool true) ∧ Below w.heap.size w w' := by
  obtain ⟨A, c, rfl, -, -⟩ := (TreeAt.of_at ht).form
  have hat : ∀ w', Below w.heap.size w w' → At w' w'.heap.size t (.agg #[.int .i64 t.op, .string (bs t.s), .int .i64 t.n, .slice A t.l.length c, .int .i64 t.line]) := fun w' hb => At.keep t ht hb.size fun p hp => hb.cell hp
  have HAt := Lib.hid hat
  clear hat ht
  go_enter Tryz.func8, Tryz.ntmps8
  have hal := below_alloc9 w (.cells #[.int .i64 t.op, .string (bs t.s), .int .i64 t.n, .slice A t.l.length c, .int .i64 t.line] 24)
  have hbx := heap_alloc_new w (.cells #[.int .i64 t.op, .string (bs t.s), .int .i64 t.n, .slice A t.l.length c, .int .i64 t.line] 24)
  obtain ⟨N, eN⟩ : ∃ N, w.heap.size = N := ⟨_, rfl⟩
  have H0 := Lib.hid (And.intro hal hbx)
  clear hal hbx
  go_wp2_with fail
  go_at_call 9
  refine (shown12_any _).mono ?_
  rintro e w1 ⟨rfl, hb1⟩
  have hbx1 := (hb1.block w.heap.size (by simp)).trans H0.out.2
  have hw1 : Below w.heap.size w w1 := H0.out.1.trans (hb1.mono (by simp))
  rw [eN] at hbx1
  obtain ⟨x0, x1, x2, x3, x4⟩ := (box_facts hbx1).1
  have H1 := Lib.hid (And.intro hw1 hbx1)
  clear hb1 hbx1 hw1 H0
  go_wp2_with fail
  go_at_call 10
  refine (small_any t _ w1 (HAt.out w1 H1.out.1)).mono ?_
  rintro e w2 ⟨rfl, hb2⟩
  have hbx2 := (hb2.block N (heap_lt H1.out.2)).trans H1.out.2
  have hw2 : Below w.heap.size w w2 := H1.out.1.trans (hb2.mono H1.out.1.size)
  obtain ⟨y0, y1, y2, y3, y4⟩ := (box_facts hbx2).1
  have H2 := Lib.hid (And.intro hw2 hbx2)
  clear hb2 hbx2 hw2 x0 x1 x2 x3 x4 H1
  by_cases hz : t.size ≤ 1500
  case neg =>
    rw [if_neg hz]
    go_wp2
    go_ret
    exact ⟨rfl, H2.out.1⟩
  rw [if_pos hz]
  go_wp2_with fail
  go_at_call 11
  refine (rules_any t _ w2 (fun k => k < w2.heap.size) (TreeAt.of_at (HAt.out w2 H2.out.1)) (fun _ h => h) (by omega)).mono ?_
  rintro e w3 ⟨fv, fsv, rv, B, he, hF, hS, hR, hb3⟩
  have hw3 : Below w.heap.size w w3 := H2.out.1.trans (hb3.mono H2.out.1.size)
  rcases rules_out t (by omega) with ⟨ln, er, hne, ho⟩ | ⟨F, q, hO⟩
  · rw [ho] at he hF hS hR
    obtain ⟨A2, c2, rfl⟩ := hS.form
    obtain ⟨A3, c3, rfl⟩ := hR.form
    obtain ⟨A4, c4, rfl, -, -⟩ := hF.form
    subst he
    have ee : (er != 0) = true := by simp [hne]
    have HE := Lib.hid hw3
    clear hw3 hb3 hF hS hR ho hne y0 y1 y2 y3 y4
    go_wp2
    go_ret
    exact ⟨rfl, HE.out.alloc HE.out.size _⟩
  obtain ⟨X, eX⟩ : ∃ X, cxOf F q = X := ⟨_, rfl⟩
  have hF : FunsV w3 B fv X.F := by rw [hO.out] at hF; rw [← eX]; exact hF
  have hS : SlAt 5 FsP w3 fsv X.fs := by rw [hO.out] at hS; rw [← eX]; exact hS
  have hX : CxOK X := by rw [← eX]; exact hO.cx
  have he : e = .returned (.tuple #[fv, .agg #[.int .i64 X.sets, fsv, rv], .int .i64 0, .int .i64 0]) := by rw [hO.out] at he; rw [← eX]; exact he
  obtain ⟨R, eR⟩ : ∃ R, (rulesOut (resOut t)).2.2.2.1 = R := ⟨_, rfl⟩
  obtain ⟨⟨mm0, hup⟩, hkd, k1, k8, k9, k2⟩ := sys_kd hO eR
  rw [eR] at hR
  obtain ⟨A2, c2, rfl⟩ := hS.form
  obtain ⟨A3, c3, rfl⟩ := hR.form
  obtain ⟨A4, c4, rfl, hc4, hm4⟩ := hF.form
  have hc3 := SlAt.get hR
  subst he
  obtain ⟨nr, enr⟩ : ∃ y, R.length = y := ⟨_, rfl⟩
  obtain ⟨nf, enf⟩ : ∃ y, X.fs.length = y := ⟨_, rfl⟩
  rw [enr] at hc3 hR ⊢
  rw [enf]
  obtain ⟨-, hc31, hc32, -⟩ := hc3
  have hnr : nr ≤ 9223372036854775807 := by unfold maxLen at hc32; omega
  have hal4 := below_alloc9 w3 (.cells #[.int .i64 X.sets, .slice A2 nf c2, .slice A3 nr c3] 31)
  have hbx4 := heap_alloc_new w3 (.cells #[.int .i64 X.sets, .slice A2 nf c2, .slice A3 nr c3] 31)
  obtain ⟨w4, e4⟩ : ∃ w4, w3.alloc (.cells #[.int .i64 X.sets, .slice A2 nf c2, .slice A3 nr c3] 31) = w4 := ⟨_, rfl⟩
  rw [e4] at hal4 hbx4
  obtain ⟨M, eM⟩ : ∃ y, w3.heap.size = y := ⟨_, rfl⟩
  have hR4 := hR.below RuP.keeps hal4
  have hw4 : Below w.heap.size w w4 := hw3.trans (hal4.mono hw3.size)
  have hz4 : w4.heap.size = M + 1 := by rw [← e4, World.size_alloc, eM]
  have hNM : N < M := by have := heap_lt H2.out.2; have := hb3.size; omega
  have hN4 := (hal4.block N (by omega)).trans ((hb3.block N (heap_lt H2.out.2)).trans H2.out.2)
  rw [eM] at hbx4
  have hal5 := below_alloc9 w4 (.cells #[.int .i64 0, .int .i64 0, .int .i64 0, .int .i64 0, .int .i64 0, .int .i64 0, .int .i64 0, .int .i64 0, .int .i64 0, .int .i64 0] 49)
  have hbx5 := heap_alloc_new w4 (.cells #[.int .i64 0, .int .i64 0, .int .i64 0, .int .i64 0, .int .i64 0, .int .i64 0, .int .i64 0, .int .i64 0, .int .i64 0, .int .i64 0] 49)
  obtain ⟨w5, e5⟩ : ∃ w5, w4.alloc (.cells #[.int .i64 0, .int .i64 0, .int .i64 0, .int .i64 0, .int .i64 0, .int .i64 0, .int .i64 0, .int .i64 0, .int .i64 0, .int .i64 0] 49) = w5 := ⟨_, rfl⟩
  rw [e5] at hal5 hbx5
  obtain ⟨D, eD⟩ : ∃ y, w4.heap.size = y := ⟨_, rfl⟩
  obtain rfl : D = M + 1 := by omega
  have hA5 : ArrAt w5 (M + 1) [] := by
    rw [eD] at hbx5
    refine ⟨_, hbx5, rfl, fun j hj => ?_⟩
    rcases j with _ | _ | _ | _ | _ | _ | _ | _ | _ | _ | j
    all_goals first | rfl | omega
  rw [eD] at hal5
  have hbd := hR4
  have H4 := Lib.hid (And.intro hw4 (And.intro hbx4 (And.intro hR4 (And.intro hN4 (And.intro hal5 (And.intro hA5 hup))))))
  have HKd := Lib.hid hkd
  have HC := Lib.hid (And.intro k1 (And.intro k8 (And.intro k9 k2)))
  have HE4 := Lib.hid e4
  have HE5 := Lib.hid e5
  have HN := Lib.hid enr
  clear hF hS hR hw3 hb3 hR4 hX hal4 hbx4 hw4 e4 hO eX y0 y1 y2 y3 y4 enr eR hN4 hal5 hbx5 e5 hA5 hup hkd k1 k8 k9 k2 hbd enf
  go_upto_region 5 with fail
  rw [HE4.out]
  go_upto_region 8 with fail
  rw [HE5.out]
  go_wp2_with fail
  go_loopw [9, 10] (fun la i wr => ∃ (k : Nat) (last : Int), k ≤ nr ∧ i = .int .i64 k ∧ la = .int .i64 last ∧ ArrAt wr (M + 1) (R.take k) ∧ Below (M + 1) w4 wr ∧ RowKit.Hid (upM (R.drop k) last = some mm0)) (fun _ i _ => nr - (intOf i).toNat)
  case atStart => exact ⟨0, 3, Nat.zero_le _, rfl, rfl, H4.out.2.2.2.2.2.1, H4.out.2.2.2.2.1, Lib.hid H4.out.2.2.2.2.2.2⟩
  case round =>
    obtain ⟨k, last, hk, rfl, rfl, hA, hb, hup⟩ := hrel
    have hDl := hA.lt
    have hbM := (hb.block M (by omega)).trans H4.out.2.1
    obtain ⟨p0, p1, p2⟩ := box3c hbM
    by_cases hlt : k < nr
    · have g1 : (k : Int) < nr := by omega
      have hRw : SlAt 9 RuP wr (.slice A3 nr c3) R := H4.out.2.2.1.below RuP.keeps (by rw [eD]; exact hb)
      obtain ⟨-, -, -, hget⟩ := SlAt.get hRw
      obtain ⟨g, off, r, cs, rfl, hg, hr, ⟨vl, rfl, ⟨Al, cl, rfl, -, -⟩, -⟩, hc⟩ := hget k hlt
      obtain ⟨r1, r2⟩ := HKd.out r (List.mem_of_getElem? hr)
      have hcc : ∀ j v, j < 9 → (ruV r (.slice Al r.l.length cl))[j]? = some v → wr.cell? ⟨g, off + k * 9 + j, none⟩ = some v := fun j v hj hv => (hc j hj).trans hv
      have z0 := hcc 0 _ (by decide) rfl
      have z1 := hcc 1 _ (by decide) rfl
      have z2 := hcc 2 _ (by decide) rfl
      have z3 := hcc 3 _ (by decide) rfl
      have z4 := hcc 4 _ (by decide) rfl
      have z5 := hcc 5 _ (by decide) rfl
      have z6 := hcc 6 _ (by decide) rfl
      have z7 := hcc 7 _ (by decide) rfl
      have z8 := hcc 8 _ (by decide) rfl
      rw [Nat.add_zero] at z0
      have hud := upM_drop hr hup.out
      obtain ⟨j, hj⟩ : ∃ j : Nat, r.kd = (j : Int) := ⟨r.kd.toNat, by omega⟩
      have htk : R.take (k + 1) = R.take k ++ [r] := by rw [List.take_add_one, hr]; rfl
      have hcn : cntK (R.take k) (j : Nat) ≤ k := Nat.le_trans (cntK_le _ _) (List.length_take_le _ _)
      have hst := fun W' (h : ArrAt W' (M + 1) (R.take k)) => h.step hj (by omega)
      rw [← htk] at hst
      have hjl : j < 10 := by omega
      have hj1 : 1 ≤ j := by omega
      obtain ⟨kd, f, x, y, z, n, mm, s, l⟩ := r
      simp only at z0 z1 z2 z3 z4 z5 z6 z7 z8 r1 r2 hud hj
      subst hj
      obtain ⟨ll, ell⟩ : ∃ y, l.length = y := ⟨_, rfl⟩
      rw [ell] at z8
      have hal6 := below_alloc9 wr (.cells #[.int .i64 j, .int .i64 f, .int .i64 x, .int .i64 y, .int .i64 z, .int .i64 n, .int .i64 mm, .string (bs s), .slice Al ll cl] 44)
      have hbx6 := heap_alloc_new wr (.cells #[.int .i64 j, .int .i64 f, .int .i64 x, .int .i64 y, .int .i64 z, .int .i64 n, .int .i64 mm, .string (bs s), .slice Al ll cl] 44)
      obtain ⟨w6, e6⟩ : ∃ w', wr.alloc (.cells #[.int .i64 j, .int .i64 f, .int .i64 x, .int .i64 y, .int .i64 z, .int .i64 n, .int .i64 mm, .string (bs s), .slice Al ll cl] 44) = w' := ⟨_, rfl⟩
      rw [e6] at hal6 hbx6
      obtain ⟨Z, eZ⟩ : ∃ y, wr.heap.size = y := ⟨_, rfl⟩
      rw [eZ] at hbx6
      have hA6 := hA.same (hal6.block (M + 1) hDl)
      have hst6 := hst w6 hA6
      obtain ⟨q1, q2⟩ := hA6.cell hjl
      obtain ⟨cn, ecn⟩ : ∃ y, cntK (R.take k) (j : Nat) = y := ⟨_, rfl⟩
      rw [ecn] at hcn q1 hst6
      have ho7 := Only.setCell (F := fun i => i = M + 1) w6 rfl j (.int .i64 ((cn : Int) + 1))
      have hbx7 := (ho7.block Z (heap_lt hbx6) (by omega)).trans hbx6
      have v0 := cell_of_row _ _ 0 _ _ _ hbx6
      have u0 := cell_of_row _ _ 0 _ _ _ hbx7
      have u6 := cell_of_row _ _ 6 _ _ _ hbx7
      simp at u0 u6 v0
      have HF := Lib.hid (And.intro hst6 (hb.trans ((hal6.mono (by omega)).trans (ho7.below (by have := hal6.size; omega) (fun i hi => by have hi' : i = M + 1 := hi; omega)))))
      have HE6 := Lib.hid e6
      have HZ6 := Lib.hid eZ
      have t1 : decide ((j : Int) < 1) = false := decide_eq_false (by omega)
      have t2 : decide ((9 : Int) < (j : Int)) = false := decide_eq_false (by omega)
      have hcs : (((j : Int) == 1) = true ∨ (((j : Int) == 1) = false ∧ ((j : Int) == 8) = true) ∨ (((j : Int) == 1) = false ∧ ((j : Int) == 8) = false ∧ ((j : Int) == 9) = true)) ∨ (((j : Int) == 1) = false ∧ ((j : Int) == 8) = false ∧ ((j : Int) == 9) = false) := by
        simp only [beq_iff_eq, beq_eq_false_iff_ne]
        omega
      have hcs2 : (((j : Int) == 1) = true ∨ (((j : Int) == 1) = false ∧ ((j : Int) == 8) = true) ∨ (((j : Int) == 1) = false ∧ ((j : Int) == 8) = false ∧ ((j : Int) == 9) = true)) → ((j : Int) = 1 ∨ (j : Int) = 8 ∨ (j : Int) = 9) := by
        simp only [beq_iff_eq, beq_eq_false_iff_ne]
        omega
      have hcs3 : (((j : Int) == 1) = false ∧ ((j : Int) == 8) = false ∧ ((j : Int) == 9) = false) → ¬ ((j : Int) = 1 ∨ (j : Int) = 8 ∨ (j : Int) = 9) := by
        simp only [beq_iff_eq, beq_eq_false_iff_ne]
        omega
      clear hget hr hc hcc hb hA hbM hRw hal6 hbx6 hbx7 ho7 hst6 hA6 hst htk ell hup e6 ecn eZ
      rcases hcs with hcs | hcs
      · have hmm : last < mm ∧ upM (R.drop (k + 1)) mm = some mm0 := by
          rcases hud with h | h
          · exact h.2
          · exact absurd (hcs2 hcs) h.1
        obtain ⟨hlm, hup2⟩ := hmm
        have HU := Lib.hid hup2
        have g2 : ¬ mm ≤ last := by omega
        clear hud hup2 hcs2 hcs3
        rcases hcs with d1 | ⟨d1, d8⟩ | ⟨d1, d8, d9⟩
        all_goals
          go_upto_region 13 with fail
          rw [HE6.out, HZ6.out]
          go_wp2
          go_roundw
          case rel => exact ⟨k + 1, mm, by omega, by go_num, rfl, HF.out.1, HF.out.2, Lib.hid HU.out⟩
          case measure => simp [intOf]; omega
      · have hup2 : upM (R.drop (k + 1)) last = some mm0 := by
          rcases hud with h | h
          · exact absurd h.1 (hcs3 hcs)
          · exact h.2
        have HU := Lib.hid hup2
        obtain ⟨d1, d8, d9⟩ := hcs
        clear hud hup2 hcs2 hcs3
        go_upto_region 13 with fail
        rw [HE6.out, HZ6.out]
        go_wp2
        go_roundw
        case rel => exact ⟨k + 1, last, by omega, by go_num, rfl, HF.out.1, HF.out.2, Lib.hid HU.out⟩
        case measure => simp [intOf]; omega
    · have g1 : ¬ (k : Int) < nr := by omega
      have hkr : R.take k = R := List.take_of_length_le (by rw [HN.out]; omega)
      rw [hkr] at hA
      have hwr : Below w.heap.size w wr := H4.out.1.trans (hb.mono (by have := H4.out.1.size; omega))
      have hN9 := (hb.block N (by omega)).trans H4.out.2.2.2.1
      obtain ⟨h1, h8, h9, h2⟩ := HC.out
      have c1 := (hA.cell (j := 1) (by decide)).1
      have c2 := (hA.cell (j := 2) (by decide)).1
      have c8 := (hA.cell (j := 8) (by decide)).1
      have c9 := (hA.cell (j := 9) (by decide)).1
      rw [show (((1 : Nat) : Int)) = 1 from rfl, h1] at c1
      rw [show (((8 : Nat) : Int)) = 8 from rfl, h8] at c8
      rw [show (((9 : Nat) : Int)) = 9 from rfl, h9] at c9
      rw [show (((2 : Nat) : Int)) = 2 from rfl] at c2
      have hle2 := cntK_le R 2
      have hkl := kindsT_le t 10
      have hkl2 := kindsT_le t 41
      have hkn := fun (op : Int) (w' : World) (hb' : Below wr.heap.size wr w') => kinds_law op t (.agg #[.int .i64 t.op, .string (bs t.s), .int .i64 t.n, .slice A t.l.length c, .int .i64 t.line]) w' (HAt.out w' (hwr.trans (hb'.mono hwr.size))) hz
      have h11 := hkn 11
      have h15 := hkn 15
      have h16 := hkn 16
      have h10 := hkn 10
      have h41 := hkn 41
      obtain ⟨a1, ea1⟩ : ∃ y, kindsT t.flat 11 = y := ⟨_, rfl⟩
      obtain ⟨a8, ea8⟩ : ∃ y, kindsT t.flat 15 = y := ⟨_, rfl⟩
      obtain ⟨a9, ea9⟩ : ∃ y, kindsT t.flat 16 = y := ⟨_, rfl⟩
      obtain ⟨b1, eb1⟩ : ∃ y, kindsT t.flat 10 = y := ⟨_, rfl⟩
      obtain ⟨b4, eb4⟩ : ∃ y, kindsT t.flat 41 = y := ⟨_, rfl⟩
      obtain ⟨a2, ea2⟩ : ∃ y, cntK R 2 = y := ⟨_, rfl⟩
      simp only [ea1] at h11 c1
      simp only [ea8] at h15 c8
      simp only [ea9] at h16 c9
      simp only [eb1] at h10 h2 hkl
      simp only [eb4] at h41 h2 hkl2
      simp only [ea2] at c2 h2 hle2
      have hw1 : IntKind.i64.wrap ((b1 : Int) + (b4 : Int)) = (b1 : Int) + (b4 : Int) := IntWalk.i64_in _ (by omega)
      have g2 : decide ((b1 : Int) + (b4 : Int) ≤ (a2 : Int)) = true := decide_eq_true (by omega)
      have g3 : decide (b1 + b4 ≤ a2) = true := decide_eq_true h2
      have q1 : ((a1 : Int) == (a1 : Int)) = true := by simp
      obtain ⟨n0, n1, n2, n3, n4⟩ := (box_facts hN9).1
      have hcs : ∀ w', Below wr.heap.size wr w' → (w'.cell? ⟨M + 1, 1, none⟩ = some (.int .i64 (a1 : Nat)) ∧ w'.cell? ⟨M + 1, 2, none⟩ = some (.int .i64 (a2 : Nat)) ∧ w'.cell? ⟨M + 1, 8, none⟩ = some (.int .i64 (a8 : Nat)) ∧ w'.cell? ⟨M + 1, 9, none⟩ = some (.int .i64 (a9 : Nat)) ∧ w'.cell? ⟨N, 0, none⟩ = some (.int .i64 t.op) ∧ w'.cell? ⟨N, 1, none⟩ = some (.string (bs t.s)) ∧ w'.cell? ⟨N, 2, none⟩ = some (.int .i64 t.n) ∧ w'.cell? ⟨N, 3, none⟩ = some (.slice A t.l.length c) ∧ w'.cell? ⟨N, 4, none⟩ = some (.int .i64 t.line)) := fun w' hb' => by
        obtain ⟨m0, m1, m2, m3, m4⟩ := (box_facts ((hb'.block N (by omega)).trans hN9)).1
        have hq : ∀ j v, wr.cell? ⟨M + 1, j, none⟩ = v → w'.cell? ⟨M + 1, j, none⟩ = v := fun j v h => (hb'.cell (p := ⟨M + 1, j, none⟩) hDl).trans h
        exact ⟨hq _ _ c1, hq _ _ c2, hq _ _ c8, hq _ _ c9, m0, m1, m2, m3, m4⟩
      have HSD := Lib.hid (hcs wr.drew (drew_below wr))
      have HCS := Lib.hid hcs
      have HB0 := Lib.hid (drew_below wr)
      have K11 := Lib.hid h11
      have K15 := Lib.hid h15
      have K16 := Lib.hid h16
      have K10 := Lib.hid h10
      have K41 := Lib.hid h41
      have HW := Lib.hid hwr
      clear hA hb hup hkr hN9 hbM h1 h8 h9 h2 hkn h11 h15 h16 h10 h41 hwr hcs ea1 ea8 ea9 eb1 eb4 ea2 hle2 hkl hkl2
      go_upto_region 20 with fail
      go_region_held3 (fun w' => w'.cell? ⟨M + 1, 1, none⟩ = some (.int .i64 (a1 : Nat)) ∧ w'.cell? ⟨M + 1, 2, none⟩ = some (.int .i64 (a2 : Nat)) ∧ w'.cell? ⟨M + 1, 8, none⟩ = some (.int .i64 (a8 : Nat)) ∧ w'.cell? ⟨M + 1, 9, none⟩ = some (.int .i64 (a9 : Nat)) ∧ w'.cell? ⟨N, 0, none⟩ = some (.int .i64 t.op) ∧ w'.cell? ⟨N, 1, none⟩ = some (.string (bs t.s)) ∧ w'.cell? ⟨N, 2, none⟩ = some (.int .i64 t.n) ∧ w'.cell? ⟨N, 3, none⟩ = some (.slice A t.l.length c) ∧ w'.cell? ⟨N, 4, none⟩ = some (.int .i64 t.line))
        (first | go_keep | exact HSD.out | exact HS1.out | exact HS2.out | exact HS3.out | exact HS4.out | exact HS5.out)
        (first
          | (go_at_call 20; (with_reducible refine (K11.out _ HB0.out).mono ?_); rintro e u1 ⟨rfl, hb1⟩; have HB1 := Lib.hid (HB0.out.trans (hb1.mono HB0.out.size)); have HS1 := Lib.hid (HCS.out u1 HB1.out); clear hb1 HB0 K11)
          | (go_at_call 20; (with_reducible refine (K15.out _ HB1.out).mono ?_); rintro e u2 ⟨rfl, hb2⟩; have HB2 := Lib.hid (HB1.out.trans (hb2.mono HB1.out.size)); have HS2 := Lib.hid (HCS.out u2 HB2.out); clear hb2 HB1 K15)
          | (go_at_call 20; (with_reducible refine (K16.out _ HB2.out).mono ?_); rintro e u3 ⟨rfl, hb3⟩; have HB3 := Lib.hid (HB2.out.trans (hb3.mono HB2.out.size)); have HS3 := Lib.hid (HCS.out u3 HB3.out); clear hb3 HB2 K16)
          | (go_at_call 20; (with_reducible refine (K10.out _ HB3.out).mono ?_); rintro e u4 ⟨rfl, hb4⟩; have HB4 := Lib.hid (HB3.out.trans (hb4.mono HB3.out.size)); have HS4 := Lib.hid (HCS.out u4 HB4.out); clear hb4 HB3 K10)
          | (go_at_call 20; (with_reducible refine (K41.out _ HB4.out).mono ?_); rintro e u5 ⟨rfl, hb5⟩; have HB5 := Lib.hid (HB4.out.trans (hb5.mono HB4.out.size)); have HS5 := Lib.hid (HCS.out u5 HB5.out); clear hb5 HB4 K41))
      all_goals
        go_wp2
        go_ret
        refine ⟨by first | rfl | simp, ?_⟩
        first | rw [← eN] | skip
        exact HW.out.trans (HB5.out.mono HW.out.size)
end Go.Proofs.YtikbfoichhkeaaaGreat
namespace Go.Proofs.YtikbfoichhkeaaaGreat.rulesKinds
open Go.ChangeShapes Go.WideShapes Go.ChangeAt Go.RowKit
open Go.ChangeMaps (open_string shut_string)
set_option maxRecDepth 100000 in
theorem lifted (os : Os) (started : os.Started) (H : Type) (enc : TypeId × Value → H) :
    ReturnsInHanded {} Tryz.checked os 8 .any (Rows.rulesKindsSpec.pre6 enc Tryz.prog Tryz.f8 Rows.rulesKindsRow.domain false) (Rows.rulesKindsSpec.post enc Tryz.prog Tryz.f8 false true false false) := by
  refine returnsInHanded_of_change (C := Tryz.checked) ownK started (by kernel_rfl) Tryz.func8
    (ChangeSpec.witness6 (enc := enc) (C := Tryz.checked) false ⟨#[], #[.agg #[.int .i64 0, .string ByteArray.empty, .int .i64 0, .slice none 0 0, .int .i64 0]], []⟩ 8 (by kernel_rfl) (by kernel_rfl) (by kernel_rfl) (by kernel_rfl)) ?_
  intro W base args ds gs before hval0 hW hcnd _
  have hval : ∀ (j : Nat) t v, Tryz.f8.params[j]? = some t → args[j]? = some v → Value.okWide Tryz.prog W .any base t v := hval0
  have hW' := hW
  obtain ⟨p, q, hA0, hV, rfl, hfz, hnd⟩ := hW
  have hA : DataW.TrodAll enc Tryz.prog W 0 (fun _ => true) true Tryz.f8.params.toList args.toList ds p := hA0
  rw [Tryz.params8] at hA hval
  obtain ⟨v0, vs0, d0, ds0, p0, q0, hargs, rfl, rfl, h0, r0⟩ := trodAll_cons hA
  obtain ⟨rfl, rfl, rfl⟩ := trodAll_nil r0
  obtain rfl : args = #[v0] := by cases args; simp_all
  obtain ⟨rfl, rfl⟩ := trodVars_none hV
  obtain ⟨a0, w0⟩ := open_node (hval 0 24 v0 rfl rfl) h0
  clear hA0 hval0
  simp only [List.append_nil] at hW'
  refine (rkinds_any a0 v0 W w0).mono fun e W' ⟨he, bel⟩ => ?_
  subst he
  exact ⟨_, rfl, _, _, _, [], _, [], hW', trodAll_mk1 (shut_bool Tryz.underlying4 _), (trodAll_cons_mk (Below.trod laidOut (by kernel_rfl) (of_decide_eq_true (by kernel_rfl)) h0 bel (node_lt h0)) trodAll_mk0), rfl, bel.frame _, fun h => by cases h⟩
theorem over : Rows.rulesKindsRow.holds Tryz.pinned (OpenSpec.ofChange Rows.rulesKindsSpec) :=
  OpenClaim.holds_of_wide 8 Tryz.f8 rfl rfl rfl rfl rfl rfl rfl ⟨rfl, rfl, rfl, rfl, rfl⟩ rfl rfl rfl rfl rfl (by kernel_rfl) Tryz.func8 (by kernel_rfl)
    (of_decide_eq_true (by kernel_rfl)) (by unfold Func.isWrapper; first | (rw [if_pos (by decide +kernel)]; kernel_rfl) | (rw [if_neg (by decide +kernel)]; exact ⟨rfl, rfl⟩))
    (fun os started H enc _ => lifted os started H enc)
theorem proved : Rows.RulesKindsSaid := over
#print axioms proved
end Go.Proofs.YtikbfoichhkeaaaGreat.rulesKinds
