/- Rules name sets, functions and marks that there are. No program. gumshoeref03.Flat. The law RulesRanges: its walk. The law RulesRanges: whatever the input, the call returns true and leaves what was there as it was. -/
import Derived.OwnWalk
import Derived.Deep.DeepMust
import Derived.Test.YtikbfoichhkeaaaGreatVm51
set_option linter.unusedSimpArgs false
set_option linter.unusedVariables false
namespace Go.Proofs.YtikbfoichhkeaaaGreat
open Go.RowKit Go.Proofs
def chk1 (F : List Fn) (op n next : Int) : Option Int :=
  if isFun op then (if 1 ≤ n ∧ n < F.length ∧ (F[n.toNat]?).map Fn.mark = some next then some (next + 2) else none)
  else if op = 11 ∨ op = 15 ∨ op = 16 then (if n = next then some (next + 1) else none)
  else some next
def chkF (F : List Fn) : List Tr → Int → Option Int
  | [], next => some next
  | t :: r, next => match chk1 F t.op t.n next with
    | none => none
    | some k => chkF F r k
theorem chkF_app (F : List Fn) : ∀ (a b : List Tr) (next : Int), chkF F (a ++ b) next = match chkF F a next with
    | none => none
    | some k => chkF F b k
  | [], b, next => rfl
  | t :: r, b, next => by
    rw [List.cons_append, chkF, chkF]
    cases chk1 F t.op t.n next with
    | none => rfl
    | some k => exact chkF_app F r b k
mutual
theorem chkT_flat (F : List Fn) : ∀ (t : Tr) (next : Int), chkF F t.flat next = chkT F t next
  | .mk op s n i l, next => by
    rw [Tr.flat, chkF, chkT]
    show (match chk1 F op n next with
      | none => none
      | some k => chkF F (flats l) k) = _
    unfold chk1
    by_cases hf : isFun op = true
    · rw [if_pos hf, if_pos hf]
      by_cases h : 1 ≤ n ∧ n < F.length ∧ (F[n.toNat]?).map Fn.mark = some next
      · rw [if_pos h, if_pos h]
        exact chkL_flat F l _
      · rw [if_neg h, if_neg h]
    · rw [if_neg hf, if_neg hf]
      by_cases h : op = 11 ∨ op = 15 ∨ op = 16
      · rw [if_pos h, if_pos h]
        by_cases h2 : n = next
        · rw [if_pos h2, if_pos h2]
          exact chkL_flat F l _
        · rw [if_neg h2, if_neg h2]
      · rw [if_neg h, if_neg h]
        exact chkL_flat F l _
theorem chkL_flat (F : List Fn) : ∀ (l : List Tr) (next : Int), chkF F (flats l) next = chkL F l next
  | [], next => by rw [flats, chkL]; rfl
  | t :: r, next => by
    rw [flats, chkF_app, chkT_flat F t, chkL]
    cases chkT F t next with
    | none => rfl
    | some k => exact chkL_flat F r k
end
end Go.Proofs.YtikbfoichhkeaaaGreat
namespace Go.Proofs.YtikbfoichhkeaaaGreat
def RuIn (X : Cx) (r : Ru) : Prop := (0 ≤ r.x ∧ r.x < X.sets) ∧ (0 ≤ r.y ∧ r.y < X.sets) ∧ (-1 ≤ r.z ∧ r.z < X.sets) ∧ (0 ≤ r.f ∧ r.f < X.F.length) ∧ 0 ≤ r.n ∧ 0 ≤ r.m
def InS (X : Cx) (a : Int) : Prop := 0 ≤ a ∧ a < X.sets
theorem var_in {X : Cx} (hX : CxOK X) {n : Int} {j i : Nat} {f : Fn} {s : FS} (h : VarOK X n j i f s) : InS X (X.var n) := by
  have h1 := h.set hX
  obtain ⟨-, h2, h3, -, -, h4⟩ := hX.each j f s h.f h.s
  have := h.i
  unfold Cx.var
  rw [h1]
  exact ⟨by show 0 ≤ s.this - f.vars.length + i; omega, by show s.this - f.vars.length + i < X.sets; omega⟩
theorem fs_in {X : Cx} (hX : CxOK X) {a : Int} {j : Nat} {s : FS} (ha : a = (j : Int)) (h : X.fs[j]? = some s) : InS X (X.fsAt a).this ∧ InS X (X.fsAt a).ret ∧ InS X (X.fsAt a).thr := by
  have hj := (List.getElem?_eq_some_iff.1 h).1
  obtain ⟨f, hf⟩ : ∃ f, X.F[j]? = some f := ⟨_, List.getElem?_eq_getElem (by rw [← hX.len]; exact hj)⟩
  obtain ⟨h1, h2, h3, h4, h5, h6⟩ := hX.each j f s hf h
  have e : X.fsAt a = s := by unfold Cx.fsAt; rw [ha, Int.toNat_natCast, h]; rfl
  rw [e]
  unfold InS
  omega
mutual
theorem evR_in {X : Cx} (hX : CxOK X) : ∀ (t : Tr) (k : Nat) (p : Pl9), InS X p.th → (∀ e ∈ evR X t k p, PartOK X e.t) → ∀ e ∈ evR X t k p, InS X e.p.th ∧ k ≤ e.k ∧ e.k + e.t.size ≤ k + t.size
  | .mk o s n li l, k, p, hp, hok, e, he => by
    have h0 := hok ⟨.mk o s n li l, k, p⟩ (by rw [evR]; exact List.mem_cons_self)
    rw [evR] at he
    rcases List.mem_cons.1 he with rfl | he
    · exact ⟨hp, Nat.le_refl _, Nat.le_refl _⟩
    · have hth : ∀ i, InS X (withinP X o n l.length p i).th := fun i => by
        unfold withinP
        split
        · rename_i ho
          obtain ⟨j, s, hn, hs⟩ := h0.fun_ ho
          exact (fs_in hX (a := n) hn hs).2.2
        · split
          · rename_i ho
            obtain ⟨j, i', f, s, hv⟩ := h0.try_ ho
            show InS X (if i = 0 then X.var n else p.th)
            split
            · exact var_in hX hv
            · exact hp
          · split <;> exact hp
      have h1 := evRL_in hX o n l.length p hth l 0 (k + 1) (fun e he => hok e (by rw [evR]; exact List.mem_cons_of_mem _ he)) e he
      have h2 := size_eq (.mk o s n li l)
      have h3 : (Tr.mk o s n li l).l = l := rfl
      rw [h3] at h2
      exact ⟨h1.1, by omega, by omega⟩
theorem evRL_in {X : Cx} (hX : CxOK X) (o n : Int) (len : Nat) (p : Pl9) (hth : ∀ i, InS X (withinP X o n len p i).th) : ∀ (l : List Tr) (i k : Nat), (∀ e ∈ evRL X o n len p l i k, PartOK X e.t) → ∀ e ∈ evRL X o n len p l i k, InS X e.p.th ∧ k ≤ e.k ∧ e.k + e.t.size ≤ k + sizes l
  | [], _, _, _, e, he => by rw [evRL] at he; cases he
  | c :: r, i, k, hok, e, he => by
    rw [evRL] at he hok
    rw [sizes_cons]
    rcases List.mem_append.1 he with he | he
    · have := evR_in hX c k _ (hth i) (fun e he => hok e (List.mem_append_left _ he)) e he
      exact ⟨this.1, by omega, by omega⟩
    · have := evRL_in hX o n len p hth r (i + 1) (k + c.size) (fun e he => hok e (List.mem_append_right _ he)) e he
      exact ⟨this.1, by omega, by omega⟩
end
theorem setsK_in : ∀ (l : List Tr) (k : Nat) (a : Int), a ∈ setsK l k → (k : Int) ≤ a ∧ a < k + sizes l
  | [], _, _, h => by cases h
  | t :: r, k, a, h => by
    rw [setsK] at h
    rw [sizes_cons]
    have := size_pos t
    rcases List.mem_cons.1 h with rfl | h
    · omega
    · have := setsK_in r _ a h
      omega
theorem partK_in {t : Tr} {i : Nat} (k : Nat) (hi : i < t.l.length) : (k : Int) < partK t k i ∧ partK t k i + (t.part i).size ≤ k + t.size := by
  have h1 : sizes (t.l.take i) + (t.part i).size ≤ sizes t.l := by
    have h2 := sizes_take_succ (l := t.l) (k := i) (x := t.part i) (by unfold Tr.part; rw [List.getElem?_eq_getElem hi]; rfl)
    have h3 := sizes_take_le t.l (i + 1)
    omega
  have h4 := size_eq t
  unfold partK
  omega
theorem pairs_in (X : Cx) (k : Int) (hk : InS X k) : ∀ (l : List Tr) (j : Nat), (∀ q ∈ l, 0 < q.l.length) → ((j + sizes l : Nat) : Int) ≤ X.sets → ∀ r ∈ pairsR k l j, InS X r.x ∧ InS X r.y ∧ r.z = 0 ∧ r.n = 0 ∧ r.m = 0
  | [], _, _, _, r, h => by cases h
  | t :: r, j, hl, hs, x, h => by
    rw [sizes_cons] at hs
    have h1 := size_eq t
    have h2 := length_le_sizes t.l
    have h3 := hl t List.mem_cons_self
    rw [pairsR] at h
    rcases List.mem_cons.1 h with rfl | h
    · exact ⟨hk, ⟨by show (0 : Int) ≤ ((j + 1 : Nat) : Int); omega, by show ((j + 1 : Nat) : Int) < X.sets; omega⟩, rfl, rfl, rfl⟩
    · exact pairs_in X k hk r _ (fun q hq => hl q (List.mem_cons_of_mem _ hq)) (by omega) x h
theorem rule_in {X : Cx} (hX : CxOK X) (hs : 0 < X.sets) {t : Tr} {k : Nat} {p : Pl9} (hr : RuleOK X t p) (hp : PartOK X t) (hfn : ∃ (j : Nat) (s : FS), p.fn = (j : Int) ∧ X.fs[j]? = some s) (hth : InS X p.th) (hk : ((k + t.size : Nat) : Int) ≤ X.sets) (hm : t.op = 11 ∨ t.op = 15 ∨ t.op = 16 → 0 ≤ t.n) :
    ∀ r ∈ (ruleOf X t k p), InS X r.x ∧ InS X r.y ∧ (r.z = -1 ∨ InS X r.z) ∧ 0 ≤ r.n ∧ 0 ≤ r.m := by
  have hz := size_pos t
  have hkS : InS X k := ⟨by omega, by omega⟩
  have h0 : InS X 0 := ⟨Int.le_refl _, hs⟩
  obtain ⟨j, s, hj, hjs⟩ := hfn
  obtain ⟨f1, f2, f3⟩ := fs_in hX hj hjs
  have hpk : ∀ i, i < t.l.length → InS X (partK t k i) ∧ (1 < (t.part i).size → InS X (partK t k i + 1)) := fun i hi => by
    have h1 := partK_in k hi
    have h2 := size_pos (t.part i)
    unfold InS
    omega
  have hp1 : ∀ i, 0 < (t.part i).l.length → 1 < (t.part i).size := fun i hi => by
    have h1 := size_eq (t.part i)
    have h2 := length_le_sizes (t.part i).l
    omega
  have hsk : ∀ l' c', (∀ a ∈ setsK l' c', (c' : Int) ≤ a ∧ a < c' + sizes l') := fun l' c' a h => setsK_in l' c' a h
  have hall : ∀ a ∈ setsK t.l (k + 1), InS X a := fun a ha => by
    have h1 := setsK_in _ _ _ ha
    have h2 := size_eq t
    unfold InS
    omega
  have sub : ∀ x y : Int, InS X x → InS X y → ∀ r ∈ [subR x y], InS X r.x ∧ InS X r.y ∧ (r.z = -1 ∨ InS X r.z) ∧ 0 ≤ r.n ∧ 0 ≤ r.m := fun x y hx hy r h => by
    obtain rfl := List.mem_singleton.1 h
    exact ⟨hx, hy, .inr h0, Int.le_refl _, Int.le_refl _⟩
  intro r h
  unfold ruleOf at h
  by_cases ho : t.op = 1
  · rw [if_pos ho] at h
    obtain ⟨j, i, f, s, hv⟩ := hr.var_ (.inl ho)
    exact sub _ _ (var_in hX hv) hkS r h
  rw [if_neg ho] at h
  clear ho
  by_cases ho : t.op = 8
  · rw [if_pos ho] at h
    exact sub _ _ f1 hkS r h
  rw [if_neg ho] at h
  clear ho
  by_cases ho : t.op = 10
  · rw [if_pos ho] at h
    obtain ⟨j', f, hn, hf, -, hc⟩ := hr.clo_ ho
    rcases List.mem_cons.1 h with rfl | h
    · exact ⟨hkS, h0, .inr h0, by show 0 ≤ t.n; omega, Int.le_refl _⟩
    · split at h
      · rename_i hle
        obtain rfl := List.mem_singleton.1 h
        have e1 : X.varsAt t.n = f.vars := by unfold Cx.varsAt; rw [hn, Int.toNat_natCast, hf]; rfl
        have e2 : X.parsAt t.n = f.params := by unfold Cx.parsAt; rw [hn, Int.toNat_natCast, hf]; rfl
        rw [e1, e2] at hle
        obtain ⟨i, s', hi, hv⟩ := hc hle
        refine ⟨?_, h0, .inr h0, by show 0 ≤ t.n; omega, Int.le_refl _⟩
        show InS X (X.var (t.n * 1000 + idxS (X.varsAt t.n) t.s))
        rw [e1, hi, hn]
        exact var_in hX hv
      · cases h
  rw [if_neg ho] at h
  clear ho
  by_cases ho : t.op = 41
  · rw [if_pos ho] at h
    obtain ⟨j', i, f, s', hj', hf, hi, hv⟩ := hr.dec_ ho
    obtain ⟨j2, s2, hn2, -⟩ := hp.fun_ (.inl ho)
    obtain rfl := List.mem_singleton.1 h
    have e1 : X.varsAt p.fn = f.vars := by unfold Cx.varsAt; rw [hj', Int.toNat_natCast, hf]; rfl
    refine ⟨?_, h0, .inr h0, by show 0 ≤ t.n; omega, Int.le_refl _⟩
    show InS X (X.var (p.fn * 1000 + idxS (X.varsAt p.fn) t.s))
    rw [e1, hi, hj']
    exact var_in hX hv
  rw [if_neg ho] at h
  clear ho
  by_cases ho : t.op = 11
  · rw [if_pos ho] at h
    obtain ⟨-, hq⟩ := hr.obj_ ho
    rcases List.mem_cons.1 h with rfl | h
    · exact ⟨hkS, h0, .inr h0, Int.le_refl _, hm (.inl ho)⟩
    · have h1 := size_eq t
      obtain ⟨g1, g2, g3, g4, g5⟩ := pairs_in X k hkS t.l (k + 1) hq (by omega) r h
      exact ⟨g1, g2, .inr (by rw [g3]; exact h0), by omega, by omega⟩
  rw [if_neg ho] at h
  clear ho
  by_cases ho : t.op = 13
  · rw [if_pos ho] at h
    have hl := hr.one_ (.inl ho)
    obtain rfl := List.mem_singleton.1 h
    exact ⟨(hpk 0 (by omega)).1, hkS, .inr h0, Int.le_refl _, Int.le_refl _⟩
  rw [if_neg ho] at h
  clear ho
  by_cases ho : t.op = 14
  · rw [if_pos ho] at h
    have hl := hr.one_ (.inr (.inl ho))
    obtain rfl := List.mem_singleton.1 h
    exact ⟨(hpk 0 (by omega)).1, hkS, .inr h0, Int.le_refl _, Int.le_refl _⟩
  rw [if_neg ho] at h
  clear ho
  by_cases ho : t.op = 17
  · rw [if_pos ho] at h
    obtain ⟨hl, hc⟩ := hr.set_ ho
    have g1 := (hpk 1 (by omega)).1
    rcases List.mem_append.1 h with h | h
    · rcases hc with ⟨e, j', i, f, s', hv⟩ | ⟨e, e2⟩ | ⟨e, e2⟩
      · rw [if_pos e] at h
        exact sub _ _ g1 (var_in hX hv) r h
      · rw [if_neg (by omega), if_pos e] at h
        obtain rfl := List.mem_singleton.1 h
        exact ⟨(hpk 0 (by omega)).2 (hp1 0 e2), g1, .inr h0, Int.le_refl _, Int.le_refl _⟩
      · rw [if_neg (by omega), if_neg (by omega), if_pos e] at h
        obtain rfl := List.mem_singleton.1 h
        exact ⟨(hpk 0 (by omega)).2 (hp1 0 e2), g1, .inr h0, Int.le_refl _, Int.le_refl _⟩
    · exact sub _ _ g1 hkS r h
  rw [if_neg ho] at h
  clear ho
  by_cases ho : t.op = 21
  · rw [if_pos ho] at h
    have hl := hr.two_ (.inl ho)
    exact sub _ _ (hpk 1 (by omega)).1 hkS r h
  rw [if_neg ho] at h
  clear ho
  by_cases ho : t.op = 22
  · rw [if_pos ho] at h
    have hl := hr.two_ (.inr ho)
    rcases List.mem_cons.1 h with rfl | h
    · exact ⟨(hpk 0 (by omega)).1, hkS, .inr h0, Int.le_refl _, Int.le_refl _⟩
    · exact sub _ _ (hpk 1 (by omega)).1 hkS r h
  rw [if_neg ho] at h
  clear ho
  by_cases ho : t.op = 23
  · rw [if_pos ho] at h
    have hl := hr.three_ ho
    rcases List.mem_cons.1 h with rfl | h
    · exact ⟨(hpk 1 (by omega)).1, hkS, .inr h0, Int.le_refl _, Int.le_refl _⟩
    · exact sub _ _ (hpk 2 (by omega)).1 hkS r h
  rw [if_neg ho] at h
  clear ho
  by_cases ho : t.op = 15
  · rw [if_pos ho] at h
    have hl := hr.call_ (.inl ho)
    obtain rfl := List.mem_singleton.1 h
    refine ⟨(hpk 0 (by omega)).1, hkS, ?_, hth.1, hm (.inr (.inl ho))⟩
    show (if (t.part 0).op = 13 ∨ (t.part 0).op = 14 then partK t k 0 + 1 else -1) = -1 ∨ InS X (if (t.part 0).op = 13 ∨ (t.part 0).op = 14 then partK t k 0 + 1 else -1)
    split
    · rename_i hq
      exact .inr ((hpk 0 (by omega)).2 (hp1 0 (hr.mem_ ho hq)))
    · exact .inl rfl
  rw [if_neg ho] at h
  clear ho
  by_cases ho : t.op = 16
  · rw [if_pos ho] at h
    have hl := hr.call_ (.inr ho)
    obtain rfl := List.mem_singleton.1 h
    exact ⟨(hpk 0 (by omega)).1, hkS, .inr h0, hth.1, hm (.inr (.inr ho))⟩
  rw [if_neg ho] at h
  clear ho
  by_cases ho : t.op = 30
  · rw [if_pos ho] at h
    obtain ⟨j', i, f, s', hv⟩ := hr.var_ (.inr ho)
    obtain ⟨a, ha, rfl⟩ := List.mem_map.1 h
    exact sub _ _ (hall a ha) (var_in hX hv) _ (List.mem_singleton.2 rfl)
  rw [if_neg ho] at h
  clear ho
  by_cases ho : t.op = 36
  · rw [if_pos ho] at h
    obtain ⟨a, ha, rfl⟩ := List.mem_map.1 h
    exact sub _ _ (hall a ha) f2 _ (List.mem_singleton.2 rfl)
  rw [if_neg ho] at h
  clear ho
  by_cases ho : t.op = 37
  · rw [if_pos ho] at h
    have hl := hr.one_ (.inr (.inr ho))
    exact sub _ _ (hpk 0 (by omega)).1 hth r h
  rw [if_neg ho] at h
  cases h
theorem chk_marks (F : List Fn) : ∀ (l : List Tr) (next : Int) (m : Int), 0 ≤ next → chkF F l next = some m → ∀ y ∈ l, y.op = 11 ∨ y.op = 15 ∨ y.op = 16 → 0 ≤ y.n
  | [], _, _, _, _, y, hy, _ => by cases hy
  | t :: r, next, m, h0, h, y, hy, ho => by
    rw [chkF] at h
    cases hc : chk1 F t.op t.n next with
    | none => rw [hc] at h; cases h
    | some nx =>
      rw [hc] at h
      unfold chk1 at hc
      have hnx : 0 ≤ nx ∧ (t.op = 11 ∨ t.op = 15 ∨ t.op = 16 → 0 ≤ t.n) := by
        split at hc
        · rename_i hf
          have h4 := fun_four hf
          split at hc
          · cases hc
            exact ⟨by omega, fun h => by omega⟩
          · cases hc
        · split at hc
          · split at hc
            · cases hc
              exact ⟨by omega, fun _ => by omega⟩
            · cases hc
          · rename_i hn
            cases hc
            exact ⟨h0, fun h => absurd h hn⟩
      rcases List.mem_cons.1 hy with rfl | hy
      · exact hnx.2 ho
      · exact chk_marks F r nx m hnx.1 h y hy ho
theorem sys_in {t : Tr} {F : List Fn} {q : Tr} (h : SysOK t F q) : ∀ r ∈ (rulesOut (resOut t)).2.2.2.1, RuIn (cxOf F q) r := by
  obtain ⟨hb, hok, m, hm, hI⟩ := resolve_told h.res
  have hX := h.cx
  obtain ⟨X, eX⟩ : ∃ X, cxOf F q = X := ⟨_, rfl⟩
  have hXF : X.F = F := by rw [← eX]; rfl
  obtain ⟨hF0, -⟩ : 0 < F.length ∧ True := by
    refine ⟨?_, trivial⟩
    have h9 := h.res
    rw [resolve_eq] at h9
    split at h9
    · cases h9
    · split at h9
      · cases h9
      · rename_i q' w' hr
        cases h9
        obtain ⟨more, e⟩ := (resT_ok _ _ _ _ _ _ hr (by simp)).1
        rw [e]
        simp
  have hv : ∀ f ∈ F, f.vars.length ≤ 200 := fun f hf => by
    obtain ⟨i, hi⟩ := List.mem_iff_getElem?.1 hf
    exact (hI.2 i f hi).2.2.1
  have hsz : ((0 + q.size : Nat) : Int) ≤ X.sets := by
    have := (laidF_le F q.size hv).1
    rw [← eX]
    show ((0 + q.size : Nat) : Int) ≤ (laidF F q.size).2 + 9
    omega
  have hqp := size_pos q
  rw [h.out, eX]
  rw [eX] at hX
  have hfl : 0 < X.fs.length := by rw [hX.len, hXF]; exact hF0
  obtain ⟨s0, hs0⟩ : ∃ s0, X.fs[0]? = some s0 := ⟨_, List.getElem?_eq_getElem hfl⟩
  have hth := (fs_in hX (a := 0) (j := 0) rfl hs0).2.2
  have hfacts := facts_ok h.res h.right hX hXF hfl (X.fsAt 0).thr
  have hin := evR_in hX q 0 ⟨0, (X.fsAt 0).thr, false⟩ hth (fun e he => (hfacts e he).1)
  have hg : good t := good_of (by have := h.right; unfold rightP at this; rw [Bool.and_eq_true] at this; exact this.2)
  have hpl := evR_pl hX q 0 ⟨0, (X.fsAt 0).thr, false⟩ (by rw [hXF]; exact resolve_pl h.res hg) ⟨0, s0, rfl, hs0⟩ (by rw [hXF]; exact okT_flat F q hok)
  have hmk := chk_marks F q.flat 4 m (by omega) (by rw [chkT_flat]; exact hm)
  intro r hr
  simp only at hr
  unfold rulesE at hr
  obtain ⟨e, he, hr⟩ := List.mem_flatMap.1 hr
  unfold rulesAt at hr
  split at hr
  · cases hr
  · rename_i htg
    obtain ⟨r0, hr0, rfl⟩ := List.mem_map.1 hr
    obtain ⟨g1, g2, g3⟩ := hin e he
    obtain ⟨⟨j, s, hj, hjs⟩, -, hfl9⟩ := hpl e he
    obtain ⟨x1, x2, x3, x4, x5⟩ := rule_in hX (by omega) ((hfacts e he).2 (by simpa using htg)) (hfacts e he).1 ⟨j, s, hj, hjs⟩ g1 (by omega) (fun ho => hmk e.t hfl9 ho) r0 hr0
    have hjl := (List.getElem?_eq_some_iff.1 hjs).1
    have := hX.len
    refine ⟨x1, x2, ?_, ⟨?_, ?_⟩, x4, x5⟩
    · show -1 ≤ r0.z ∧ r0.z < X.sets
      unfold InS at x3
      omega
    · show 0 ≤ e.p.fn
      omega
    · show e.p.fn < X.F.length
      omega
end Go.Proofs.YtikbfoichhkeaaaGreat
namespace Go.Proofs.YtikbfoichhkeaaaGreat
open Go.RowKit Go.Proofs
def five (p : Tr × Value) : List Value := [.int .i64 p.1.op, .string (bs p.1.s), .int .i64 p.1.n, p.2, .int .i64 p.1.line]
theorem fives_len : ∀ l : List (Tr × Value), (l.flatMap five).length = l.length * 5
  | [] => rfl
  | a :: r => by rw [List.flatMap_cons, List.length_append, fives_len r, List.length_cons]; simp [five]; omega
theorem own_row_ge {W : World} {B e size n : Nat} {v : Value} {xs : List Value} (h : W.ownsRow B e size v n xs) : ∀ r, v.ownBlock = some r → B ≤ r := fun r hr => by
  rcases h.2 with ⟨rfl, _⟩ | ⟨g, cap, cur, rfl, h1, _⟩
  · simp [Value.ownBlock] at hr
  · simp [Value.ownBlock] at hr
    omega
theorem five_one {W : World} {n : Nat} {p : Tr × Value} (h : At W n p.1 (nodeV p.1 p.2)) : ∀ u ∈ five p, u.oneCell' = true := by
  obtain ⟨u, e, ⟨A, c, hv, _⟩, _⟩ := (At_iff _ _ _ _).1 h
  unfold nodeV at e
  simp only [Value.agg.injEq, Array.mk.injEq, List.cons.injEq, and_true, true_and] at e
  rw [← e] at hv
  unfold five
  rw [hv]
  intro u hu
  simp only [List.mem_cons, List.not_mem_nil, or_false] at hu
  rcases hu with rfl | rfl | rfl | rfl | rfl <;> rfl
theorem ownsRow_low {W : World} {b b' : Nat} {e : TypeId} {s n : Nat} {v : Value} {xs : List Value} (h : W.ownsRow b e s v n xs) (hb : b' ≤ b) : W.ownsRow b' e s v n xs := by
  refine ⟨h.1, ?_⟩
  rcases h.2 with h | ⟨g, cap, cur, rfl, h1, h2⟩
  · exact .inl h
  · exact .inr ⟨g, cap, cur, rfl, by omega, h2⟩
theorem own_cells {W : World} {b : Nat} {e : TypeId} {s n : Nat} {v : Value} {xs : List Value} (h : W.ownsRow b e s v n xs) (hn : 0 < n) :
    ∃ g cap, v = .slice (some ⟨g, 0, none⟩) n cap ∧ b ≤ g ∧ ∀ j u, xs[j]? = some u → W.cell? ((⟨g, 0, none⟩ : Addr).add j) = some u := by
  rcases h.2 with ⟨-, h0⟩ | ⟨g, cap, cur, rfl, h1, h2, h3, h4, h5, h6⟩
  · omega
  · refine ⟨g, cap, rfl, h1, fun j u hu => ?_⟩
    have ha : (⟨g, 0, none⟩ : Addr).add j = ⟨g, j, none⟩ := by cases j <;> simp [Addr.add]
    rw [ha, cell_of_row _ _ _ _ _ _ h2]
    rw [← h6, List.getElem?_take] at hu
    split at hu
    · rw [← hu, Array.getElem?_toList]
    · cases hu
def Flattens (W0 : World) (n0 : Nat) (t : Tr) (w : World) (e : Ending) (w' : World) : Prop :=
  ∃ (v : Value) (ps : List (Tr × Value)), e = .returned v ∧ ps.map (·.1) = t.flat ∧ (∀ p ∈ ps, At W0 n0 p.1 (nodeV p.1 p.2)) ∧ w'.ownsRow w.heap.size 24 5 v ps.length (ps.flatMap five) ∧ Below w.heap.size w w'
theorem flats_next {l : List Tr} {k : Nat} {y : Tr} (h : l[k]? = some y) : flats (l.take (k + 1)) = flats (l.take k) ++ y.flat := by
  have key : ∀ (a b : List Tr), flats (a ++ b) = flats a ++ flats b := by
    intro a
    induction a with
    | nil => intro b; rw [flats_nil]; rfl
    | cons x r ih => intro b; rw [List.cons_append, flats_cons, flats_cons, ih, List.append_assoc]
  rw [List.take_add_one, h, key, Option.toList_some, flats_cons, flats_nil, List.append_nil]
theorem flats_take_len (l : List Tr) (k : Nat) : (flats (l.take k)).length ≤ sizes l := by
  have key : ∀ (a b : List Tr), sizes (a ++ b) = sizes a + sizes b := sizes_app
  rw [flats_len]
  have := key (l.take k) (l.drop k)
  rw [List.take_append_drop] at this
  omega
set_option maxRecDepth 100000 in
set_option maxHeartbeats 4000000 in
theorem flat_any (W0 : World) (n0 : Nat) (t : Tr) : ∀ (v : Value) (w : World), At W0 n0 t v → Below n0 W0 w → n0 ≤ w.heap.size → t.size ≤ 1000000 → Calls Tryz.prog 19 #[v] w (Flattens W0 n0 t w) := by
  induction t using tree_ind with
  | h t ih =>
  intro v w hA hW hn0 hsz
  obtain ⟨ua, rfl, hrow, -⟩ := (At_iff _ _ _ _).1 hA
  obtain ⟨A, c, rfl, hlc, hcm⟩ := row_at hrow
  have hform : ∀ k y, t.l[k]? = some y → ∃ g off, A = some ⟨g, off, none⟩ ∧ ∀ w', Below n0 W0 w' → ∃ Av cv, At W0 n0 y (nodeV y (.slice Av y.l.length cv)) ∧ w'.cell? ⟨g, off + k * 5, none⟩ = some (.int .i64 y.op) ∧ w'.cell? ⟨g, off + k * 5 + 1, none⟩ = some (.string (bs y.s)) ∧ w'.cell? ⟨g, off + k * 5 + 2, none⟩ = some (.int .i64 y.n) ∧
      w'.cell? ⟨g, off + k * 5 + 3, none⟩ = some (.slice Av y.l.length cv) ∧ w'.cell? ⟨g, off + k * 5 + 4, none⟩ = some (.int .i64 y.line) := fun k y hy => by
    obtain ⟨hk, -⟩ := List.getElem?_eq_some_iff.1 hy
    obtain ⟨A', c', e, -, h2⟩ := hrow
    cases e
    obtain ⟨g, off, rfl, hg, ha⟩ := h2 (by omega)
    refine ⟨g, off, rfl, fun w' hb => ?_⟩
    obtain ⟨Av, cv, hAv, -⟩ := elem_at ha hg (Below.refl n0 W0) hy
    obtain ⟨Av', cv', -, x0, x1, x2, x3, x4⟩ := elem_at ha hg (Below.refl n0 W0) hy
    obtain ⟨vv, hvv, c0, c1, c2, c3, c4⟩ := AtL.get t.l k y ha hy
    obtain ⟨uu, e2, ⟨A2, cp2, e3, -⟩, -⟩ := (At_iff _ _ _ _).1 hvv
    unfold nodeV at e2
    simp only [Value.agg.injEq, Array.mk.injEq, List.cons.injEq, and_true, true_and] at e2
    subst e2
    subst e3
    exact ⟨A2, cp2, hvv, (hb.cell hg).trans c0, (hb.cell hg).trans c1, (hb.cell hg).trans c2, (hb.cell hg).trans c3, (hb.cell hg).trans c4⟩
  obtain ⟨W1, eW⟩ : ∃ W, w.alloc (.cells #[.int .i64 t.op, .string (bs t.s), .int .i64 t.n, .slice A t.l.length c, .int .i64 t.line] 24) = W := ⟨_, rfl⟩
  have hb0 : Below w.heap.size w W1 := by rw [← eW]; exact (Below.refl _ w).alloc (Nat.le_refl _) _
  have hz0 : W1.heap.size = w.heap.size + 1 := by rw [← eW]; simp
  have hx : W1.heap[w.heap.size]? = some (.cells #[.int .i64 t.op, .string (bs t.s), .int .i64 t.n, .slice A t.l.length c, .int .i64 t.line] 24 (0, 0)) := by rw [← eW]; exact heap_alloc_new w _
  have hbx := fun (w' : World) (hb : Below W1.heap.size W1 w') => box_in hb hx
  have hlow := fun (w' : World) (hb : Below W1.heap.size W1 w') => (hW.trans (hb0.mono hn0)).trans (hb.mono (show n0 ≤ W1.heap.size by omega))
  unfold nodeV at hA ⊢
  unfold BoxAt at hbx
  obtain ⟨i0, hi, hi1, hi2, hi3⟩ := info_parts node_info
  have HI := Lib.hid (And.intro hi (And.intro hi1 (And.intro hi2 hi3)))
  have HW := Lib.hid (And.intro eW (And.intro hb0 (And.intro hz0 hn0)))
  have HBx := Lib.hid hbx
  have HLow := Lib.hid hlow
  have HF := Lib.hid hform
  have HLc := Lib.hid hlc
  have HA := Lib.hid (And.intro hA hsz)
  have HIH := Lib.hid ih
  clear ih
  have hsl : t.l.length ≤ 1000000 := by
    have := length_le_sizes t.l
    have := size_eq t
    omega
  obtain ⟨f0, f1, f2, f3, f4⟩ := HBx.out W1 (Below.refl _ _)
  have hstart : (W1.alloc (.cells #[.int .i64 t.op, .string (bs t.s), .int .i64 t.n, .slice A t.l.length c, .int .i64 t.line] 24)).ownsRow W1.heap.size 24 5 (.slice (some ⟨W1.heap.size, 0, none⟩) 1 1) 1 (five (t, .slice A t.l.length c)) :=
    ⟨rfl, .inr ⟨W1.heap.size, 1, _, rfl, Nat.le_refl _, heap_alloc_new W1 _, Nat.le_refl _, by unfold maxLen; decide, rfl, rfl⟩⟩
  have HSt := Lib.hid (And.intro hstart ((Below.refl _ W1).alloc (Nat.le_refl _) (.cells #[.int .i64 t.op, .string (bs t.s), .int .i64 t.n, .slice A t.l.length c, .int .i64 t.line] 24)))
  clear hi hi1 hi2 hi3 hA hrow hlc hcm hform hb0 hx hbx hlow hW hn0 hsz hstart
  go_enter Tryz.func19, Tryz.ntmps19
  go_wp2
  go_loopw [3, 4] (fun v i wr => ∃ (k : Nat) (ps : List (Tr × Value)), k ≤ t.l.length ∧ i = .int .i64 k ∧ RowKit.Hid (ps.map (·.1) = t :: flats (t.l.take k) ∧ (∀ p ∈ ps, At W0 n0 p.1 (nodeV p.1 p.2)) ∧ wr.ownsRow W1.heap.size 24 5 v ps.length (ps.flatMap five) ∧ Below W1.heap.size W1 wr)) (fun _ i _ => t.l.length - (intOf i).toNat)
  case atStart =>
    refine ⟨0, [(t, .slice A t.l.length c)], Nat.zero_le _, rfl, Lib.hid ⟨?_, fun p hp => ?_, ?_, ?_⟩⟩
    · simp [flats_nil]
    · rw [List.mem_singleton.1 hp]; exact HA.out.1
    · rw [← HW.out.2.2.1]
      exact HSt.out.1
    · exact HSt.out.2
  case round =>
    obtain ⟨k, ps, hk, rfl, HR⟩ := hrel
    clear f0 f1 f2 f3 f4
    obtain ⟨f0, f1, f2, f3, f4⟩ := HBx.out wr HR.out.2.2.2
    have hlen : ps.length = 1 + (flats (t.l.take k)).length := by
      have := congrArg List.length HR.out.1
      simp only [List.length_map, List.length_cons] at this
      omega
    by_cases hlt : k < t.l.length
    · obtain ⟨y, hy⟩ : ∃ y, t.l[k]? = some y := ⟨_, List.getElem?_eq_getElem hlt⟩
      have hym := List.mem_of_getElem? hy
      obtain ⟨g, off, hAg, hcell⟩ := HF.out k y hy
      obtain ⟨Av, cv, hyA, x0, x1, x2, x3, x4⟩ := hcell wr (HLow.out wr HR.out.2.2.2)
      have hys := size_part hym
      have hc := HIH.out y hys _ wr hyA (HLow.out wr HR.out.2.2.2) (by have := HR.out.2.2.2.size; have := HW.out.2.2; omega) (by have := HA.out.2; omega)
      unfold nodeV at hc
      subst hAg
      have hkc : k < c := by have := HLc.out; omega
      have hk15 : k ≤ 1000000 := by omega
      have hps : ps.length ≤ 1000000 := by
        have := flats_take_len t.l k
        have := size_eq t
        have := HA.out.2
        omega
      have hnext : t :: flats (t.l.take (k + 1)) = (t :: flats (t.l.take k)) ++ y.flat := by rw [flats_next hy]; rfl
      have hysz : y.size ≤ 1000000 := by have := HA.out.2; omega
      have HN := Lib.hid (And.intro hnext hysz)
      have HC := Lib.hid hc
      clear hc hnext hym hys hyA hcell hysz hlen hy
      go_wp2_with fail
      go_at_call 19
      refine HC.out.mono ?_
      rintro e w5 ⟨v5, ps5, rfl, h51, h52, h53, h54⟩
      have hl5 : ps5.length = y.size := by
        have := congrArg List.length h51
        rw [flat_len, List.length_map] at this
        exact this
      have hpos : 0 < ps5.length := by have := size_pos y; omega
      obtain ⟨g5, c5, rfl, hg5, hc5⟩ := own_cells h53 hpos
      have hown5 := rowBelow HR.out.2.2.1 h54
      have hsz5 : ps5.length ≤ 1000000 := by have := HN.out.2; omega
      have H5 := Lib.hid (And.intro h51 (And.intro h52 (And.intro (HR.out.2.2.2.trans (h54.mono HR.out.2.2.2.size)) (And.intro hown5 (And.intro hc5 (And.intro hps hsz5))))))
      clear h51 h52 h53 h54 hl5 hpos hg5 hc5 hown5 hps hsz5
      go_wp2_with (at_builtin; refine wpList_append_own _ rfl _ _ 22 rfl W1.heap.size 24 i0 (.agg #[.int .i64 0, .string ⟨#[]⟩, .int .i64 0, .slice none 0 0, .int .i64 0]) 5 64 Tryz.underlying22 HI.out.1 HI.out.2.1 HI.out.2.2.1 HI.out.2.2.2 rfl (by decide) _ _ _ rfl H5.out.2.2.2.1 ⟨g5, 0, none⟩ ps5.length c5 (ps5.flatMap five) rfl (fives_len ps5) H5.out.2.2.2.2.1 (fun u hu => by obtain ⟨p, hp, hu⟩ := List.mem_flatMap.1 hu; exact five_one (H5.out.2.1 p hp) u hu) (by have := H5.out.2.2.2.2.2; unfold maxLen; omega) (by have := H5.out.2.2.2.2.2; omega) (H5.out.2.2.1.size) ?_; intro v' w' hown hg _; have HG := Lib.hid (And.intro hown hg); clear hown hg)
      go_roundw
      case rel =>
        refine ⟨k + 1, ps ++ ps5, by omega, by simp, Lib.hid ⟨?_, fun p hp => ?_, ?_, ?_⟩⟩
        · rw [List.map_append, HR.out.1, H5.out.1, HN.out.1]
        · rcases List.mem_append.1 hp with hp | hp
          · exact HR.out.2.1 p hp
          · exact H5.out.2.1 p hp
        · rw [List.length_append, List.flatMap_append]
          exact HG.out.1
        · exact H5.out.2.2.1.grown HG.out.2 H5.out.2.2.1.size (own_row_ge H5.out.2.2.2.1)
      case measure => simp [intOf]; omega
    · obtain rfl : k = t.l.length := by omega
      clear hlen
      go_wp2
      go_ret
      refine ⟨_, ps, rfl, ?_, HR.out.2.1, ownsRow_low HR.out.2.2.1 (by have := HW.out.2.2; omega), HW.out.2.1.trans (HR.out.2.2.2.mono (by have := HW.out.2.2; omega))⟩
      rw [HR.out.1, List.take_length, flat_eq]
end Go.Proofs.YtikbfoichhkeaaaGreat
namespace Go.Proofs.YtikbfoichhkeaaaGreat
open Go.RowKit Go.Proofs
theorem laidF_at : ∀ (l : List Fn) (s : Int) (i : Nat) (f : Fn), l[i]? = some f → (laidF l s).1[i]? = some (fsOf f (laidF (l.take i) s).2)
  | [], _, _, _, h => by cases h
  | a :: r, s, 0, f, h => by
    cases h
    rfl
  | a :: r, s, i + 1, f, h => by
    show (laidF r (s + a.vars.length + 3)).1[i]? = _
    rw [laidF_at r _ i f h]
    rfl
theorem laidF_next (l : List Fn) (s : Int) (i : Nat) (f : Fn) (h : l[i]? = some f) : (laidF (l.take (i + 1)) s).2 = (laidF (l.take i) s).2 + f.vars.length + 3 := by
  have e : l.take (i + 1) = l.take i ++ [f] := by rw [List.take_add_one, h]; rfl
  rw [e, laidF_snoc]
theorem var_at {X : Cx} (hX : CxOK X) {s : Int} (hf : X.fs = (laidF X.F s).1) {i k : Nat} {f : Fn} (h : X.F[i]? = some f) (hk : k < f.vars.length) :
    VarOK X (1000 * (i : Int) + (k : Int)) i k f (fsOf f (laidF (X.F.take i) s).2) ∧ X.var (1000 * (i : Int) + (k : Int)) = (laidF (X.F.take i) s).2 + k := by
  have hv : VarOK X (1000 * (i : Int) + (k : Int)) i k f (fsOf f (laidF (X.F.take i) s).2) := ⟨rfl, hk, h, by rw [hf]; exact laidF_at _ _ _ _ h⟩
  refine ⟨hv, ?_⟩
  unfold Cx.var
  rw [hv.set hX]
  show (laidF (X.F.take i) s).2 + f.vars.length - f.vars.length + k = _
  omega
set_option maxRecDepth 100000 in
set_option maxHeartbeats 4000000 in
theorem rranges_any (t : Tr) (v : Value) (w : World) (ht : At w w.heap.size t v) : Calls Tryz.prog 6 #[v] w fun e w' => e = .returned (.bool true) ∧ Below w.heap.size w w' := by
  obtain ⟨A, c, rfl, -, -⟩ := (TreeAt.of_at ht).form
  have hat : ∀ w', Below w.heap.size w w' → At w' w'.heap.size t (.agg #[.int .i64 t.op, .string (bs t.s), .int .i64 t.n, .slice A t.l.length c, .int .i64 t.line]) := fun w' hb => At.keep t ht hb.size fun p hp => hb.cell hp
  have HAt := Lib.hid hat
  clear hat ht
  go_enter Tryz.func6, Tryz.ntmps6
  have hal := below_alloc9 w (.cells #[.int .i64 t.op, .string (bs t.s), .int .i64 t.n, .slice A t.l.length c, .int .i64 t.line] 24)
  have hbx := heap_alloc_new w (.cells #[.int .i64 t.op, .string (bs t.s), .int .i64 t.n, .slice A t.l.length c, .int .i64 t.line] 24)
  obtain ⟨N, eN⟩ : ∃ N, w.heap.size = N := ⟨_, rfl⟩
  have H0 := Lib.hid (And.intro hal hbx)
  clear hal hbx
  go_wp2_with fail
  go_at_call 9
  refine (shown12_any _).mono ?_
  rintro e w1 ⟨rfl, hb1⟩
  have hbx1 := (hb1.block w.heap.size (by simp)).trans H0.out.2
  have hw1 : Below w.heap.size w w1 := H0.out.1.trans (hb1.mono (by simp))
  rw [eN] at hbx1
  obtain ⟨x0, x1, x2, x3, x4⟩ := (box_facts hbx1).1
  have H1 := Lib.hid (And.intro hw1 hbx1)
  clear hb1 hbx1 hw1 H0
  go_wp2_with fail
  go_at_call 10
  refine (small_any t _ w1 (HAt.out w1 H1.out.1)).mono ?_
  rintro e w2 ⟨rfl, hb2⟩
  have hbx2 := (hb2.block N (heap_lt H1.out.2)).trans H1.out.2
  have hw2 : Below w.heap.size w w2 := H1.out.1.trans (hb2.mono H1.out.1.size)
  obtain ⟨y0, y1, y2, y3, y4⟩ := (box_facts hbx2).1
  have H2 := Lib.hid (And.intro hw2 hbx2)
  clear hb2 hbx2 hw2 x0 x1 x2 x3 x4 H1
  by_cases hz : t.size ≤ 1500
  case neg =>
    rw [if_neg hz]
    go_wp2
    go_ret
    exact ⟨rfl, H2.out.1⟩
  rw [if_pos hz]
  go_wp2_with fail
  go_at_call 11
  refine (rules_any t _ w2 (fun k => k < w2.heap.size) (TreeAt.of_at (HAt.out w2 H2.out.1)) (fun _ h => h) (by omega)).mono ?_
  rintro e w3 ⟨fv, fsv, rv, B, he, hF, hS, hR, hb3⟩
  have hw3 : Below w.heap.size w w3 := H2.out.1.trans (hb3.mono H2.out.1.size)
  rcases rules_out t (by omega) with ⟨ln, er, hne, ho⟩ | ⟨F, q, hO⟩
  · rw [ho] at he hF hS hR
    obtain ⟨A2, c2, rfl⟩ := hS.form
    obtain ⟨A3, c3, rfl⟩ := hR.form
    obtain ⟨A4, c4, rfl, -, -⟩ := hF.form
    subst he
    have ee : (er != 0) = true := by simp [hne]
    have hal4 := below_alloc9 w3 (.cells #[.int .i64 0, .slice A2 0 c2, .slice A3 0 c3] 31)
    have hbx4 := heap_alloc_new w3 (.cells #[.int .i64 0, .slice A2 0 c2, .slice A3 0 c3] 31)
    have hbl4 : Below w.heap.size w _ := hw3.trans (hal4.mono hw3.size)
    obtain ⟨w4, e4⟩ : ∃ w4, w3.alloc (.cells #[.int .i64 0, .slice A2 0 c2, .slice A3 0 c3] 31) = w4 := ⟨_, rfl⟩
    rw [e4] at hbx4 hbl4
    have HE4 := Lib.hid e4
    obtain ⟨p0, p1, p2⟩ := box3c hbx4
    have HE := Lib.hid hbl4
    simp only [List.length_nil]
    clear hw3 hb3 hF hS hR ho hne y0 y1 y2 y3 y4 hal4 hbx4 hbl4 e4
    go_upto_region 5 with fail
    rw [HE4.out]
    go_wp2
    go_ret
    exact ⟨by first | rfl | simp, HE.out⟩
  obtain ⟨X, eX⟩ : ∃ X, cxOf F q = X := ⟨_, rfl⟩
  have hF : FunsV w3 B fv X.F := by rw [hO.out] at hF; rw [← eX]; exact hF
  have hS : SlAt 5 FsP w3 fsv X.fs := by rw [hO.out] at hS; rw [← eX]; exact hS
  have hX : CxOK X := by rw [← eX]; exact hO.cx
  have he : e = .returned (.tuple #[fv, .agg #[.int .i64 X.sets, fsv, rv], .int .i64 0, .int .i64 0]) := by rw [hO.out] at he; rw [← eX]; exact he
  have hin : ∀ r ∈ (rulesOut (resOut t)).2.2.2.1, RuIn X r := by rw [← eX]; exact sys_in hO
  obtain ⟨R, eR⟩ : ∃ R, (rulesOut (resOut t)).2.2.2.1 = R := ⟨_, rfl⟩
  rw [eR] at hR hin
  have hsz := resolve_size hO.res
  have hXf : X.fs = (laidF X.F q.size).1 := by rw [← eX]; rfl
  have hXs : X.sets = (laidF X.F q.size).2 + 9 := by rw [← eX]; rfl
  have hfl := hX.few
  have hst : X.sets ≤ 100000 := by rw [← eX]; exact hO.few
  obtain ⟨A2, c2, e2⟩ := hS.form
  rw [hX.len] at e2
  subst e2
  obtain ⟨A3, c3, rfl⟩ := hR.form
  obtain ⟨A4, c4, rfl, hc4, hm4⟩ := hF.form
  have hc3 := SlAt.get hR
  subst he
  obtain ⟨nr, enr⟩ : ∃ y, R.length = y := ⟨_, rfl⟩
  rw [enr] at hc3 hR ⊢
  obtain ⟨-, hc31, hc32, hget⟩ := hc3
  have hnr : nr ≤ 9223372036854775807 := by unfold maxLen at hc32; omega
  have hal4 := below_alloc9 w3 (.cells #[.int .i64 X.sets, .slice A2 X.F.length c2, .slice A3 nr c3] 31)
  have hbx4 := heap_alloc_new w3 (.cells #[.int .i64 X.sets, .slice A2 X.F.length c2, .slice A3 nr c3] 31)
  obtain ⟨w4, e4⟩ : ∃ w4, w3.alloc (.cells #[.int .i64 X.sets, .slice A2 X.F.length c2, .slice A3 nr c3] 31) = w4 := ⟨_, rfl⟩
  rw [e4] at hal4 hbx4
  obtain ⟨M, eM⟩ : ∃ y, w3.heap.size = y := ⟨_, rfl⟩
  have hF4 := hF.below hal4
  have hS4 := hS.below FsP.keeps hal4
  have hR4 := hR.below RuP.keeps hal4
  have hw4 : Below w.heap.size w w4 := hw3.trans (hal4.mono hw3.size)
  have hN4 := (hal4.block N (by have := hb3.block N (heap_lt H2.out.2); have := heap_lt H2.out.2; have := hb3.size; omega)).trans ((hb3.block N (heap_lt H2.out.2)).trans H2.out.2)
  rw [eM] at hbx4
  have H4 := Lib.hid (And.intro hw4 (And.intro hbx4 (And.intro hF4 (And.intro hS4 (And.intro hR4 (And.intro hX (And.intro hin (And.intro hN4 (And.intro hXf hXs)))))))))
  have HE4 := Lib.hid e4
  have hML := heap_lt hbx4
  have hsets := hX.sets
  have HO := Lib.hid (And.intro hsz enr)
  have hqz : q.size ≤ 1500 := by omega
  clear hF hS hR hw3 hb3 hF4 hS4 hR4 hX hal4 hbx4 hw4 e4 hO eX y0 y1 y2 y3 y4 enr hget hin eR hN4 hXf hXs hsz
  have hcB : ∀ w', Below w4.heap.size w4 w' → w'.heap[M]? = some (.cells #[.int .i64 X.sets, .slice A2 X.F.length c2, .slice A3 nr c3] 31 (0, 0)) := fun w' hb => (hb.block M hML).trans H4.out.2.1
  have HCB := Lib.hid hcB
  clear hcB
  go_upto_region 5 with fail
  rw [HE4.out]
  go_wp2_with fail
  go_loopw [8] (fun i wr => ∃ (k : Nat), k ≤ nr ∧ i = .int .i64 k ∧ Below w4.heap.size w4 wr) (fun i _ => nr - (intOf i).toNat)
  case atStart => exact ⟨0, Nat.zero_le _, rfl, Below.refl _ _⟩
  case round =>
    obtain ⟨k, hk, rfl, hb⟩ := hrel
    obtain ⟨p0, p1, p2⟩ := box3c (HCB.out wr hb)
    have hMr : M < wr.heap.size := Nat.lt_of_lt_of_le hML hb.size
    by_cases hlt : k < nr
    · have g1 : (k : Int) < nr := by omega
      obtain ⟨-, -, -, hget⟩ := SlAt.get (H4.out.2.2.2.2.1.below RuP.keeps hb)
      obtain ⟨g, off, r, cs, rfl, hg, hr, ⟨vl, rfl, ⟨Al, cl, rfl, -, -⟩, -⟩, hc⟩ := hget k hlt
      have hri := H4.out.2.2.2.2.2.2.1 r (List.mem_of_getElem? hr)
      have hcc : ∀ j v, j < 9 → (ruV r (.slice Al r.l.length cl))[j]? = some v → wr.cell? ⟨g, off + k * 9 + j, none⟩ = some v := fun j v hj hv => (hc j hj).trans hv
      have z0 := hcc 0 _ (by decide) rfl
      have z1 := hcc 1 _ (by decide) rfl
      have z2 := hcc 2 _ (by decide) rfl
      have z3 := hcc 3 _ (by decide) rfl
      have z4 := hcc 4 _ (by decide) rfl
      have z5 := hcc 5 _ (by decide) rfl
      have z6 := hcc 6 _ (by decide) rfl
      have z7 := hcc 7 _ (by decide) rfl
      have z8 := hcc 8 _ (by decide) rfl
      rw [Nat.add_zero] at z0
      obtain ⟨kd, f, x, y, z, n, mm, s, l⟩ := r
      obtain ⟨⟨r1, r2⟩, ⟨r3, r4⟩, ⟨r5, r6⟩, ⟨r7, r8⟩, r9, r10⟩ := hri
      simp only at z0 z1 z2 z3 z4 z5 z6 z7 z8 r1 r2 r3 r4 r5 r6 r7 r8 r9 r10
      obtain ⟨ll, ell⟩ : ∃ y, l.length = y := ⟨_, rfl⟩
      rw [ell] at z8
      have hal5 := below_alloc9 wr (.cells #[.int .i64 kd, .int .i64 f, .int .i64 x, .int .i64 y, .int .i64 z, .int .i64 n, .int .i64 mm, .string (bs s), .slice Al ll cl] 44)
      have HB5 := Lib.hid (And.intro hb (hb.trans (hal5.mono hb.size)))
      have q1 : ¬ x < 0 := by omega
      have q2 : ¬ X.sets ≤ x := by omega
      have q3 : ¬ y < 0 := by omega
      have q4 : ¬ X.sets ≤ y := by omega
      have q5 : ¬ z < -1 := by omega
      have q6 : ¬ X.sets ≤ z := by omega
      have q7 : ¬ f < 0 := by omega
      have q8 : ¬ (X.F.length : Int) ≤ f := by omega
      have q9 : ¬ n < 0 := by omega
      have q10 : ¬ mm < 0 := by omega
      clear hget hr hc hcc hb hal5 ell
      go_wp2
      go_roundw
      case rel => exact ⟨k + 1, by omega, by go_num, HB5.out.2⟩
      case measure => simp [intOf]; omega
    · have g1 : ¬ (k : Int) < nr := by omega
      obtain ⟨n0, n1, n2, n3, n4⟩ := (box_facts ((hb.block N (heap_lt H4.out.2.2.2.2.2.2.2.1)).trans H4.out.2.2.2.2.2.2.2.1)).1
      have hwr : Below w.heap.size w wr := H4.out.1.trans (hb.mono H4.out.1.size)
      have HFl := Lib.hid (flat_any w w.heap.size t _ wr (HAt.out w (Below.refl _ _)) hwr hwr.size (by omega))
      have HB := Lib.hid (And.intro hb hwr)
      clear hb hwr
      go_wp2_with fail
      go_at_call 19
      refine HFl.out.mono ?_
      rintro e w5 ⟨lv, ps, rfl, hps, hpa, hrow, hb5⟩
      have hlp : ps.length = t.size := by
        have := congrArg List.length hps
        rw [flat_len, List.length_map] at this
        exact this
      have htp := size_pos t
      obtain ⟨gl, cl, rfl, -, -⟩ := own_cells hrow (by omega)
      rw [hlp]
      have hb45 : Below w4.heap.size w4 w5 := HB.out.1.trans (hb5.mono HB.out.1.size)
      have HB5 := Lib.hid (And.intro hb45 (hlp))
      clear hps hpa hrow hb5 hb45 hlp p0 p1 p2 n0 n1 n2 n3 n4
      obtain ⟨tz, etz⟩ : ∃ y, t.size = y := ⟨_, rfl⟩
      have hqt : q.size = tz := by have := HO.out.1; omega
      rw [etz] at htp hz ⊢
      have HT := Lib.hid (And.intro hqt etz)
      clear hqt etz
      go_wp2
      go_loopw [10, 11] (fun la i wr => ∃ (k : Nat) (last : Int), k ≤ X.F.length ∧ i = .int .i64 k ∧ la = .int .i64 last ∧ (-1 ≤ last ∧ last < (laidF (X.F.take k) q.size).2) ∧ Below w5.heap.size w5 wr) (fun _ i _ => X.F.length - (intOf i).toNat)
      case atStart => exact ⟨0, (tz : Int) - 1, Nat.zero_le _, rfl, rfl, ⟨by omega, by have := HT.out.1; show (tz : Int) - 1 < (q.size : Int); omega⟩, Below.refl _ _⟩
      case round =>
        obtain ⟨wo, ewo⟩ : ∃ wo, wo = wr := ⟨_, rfl⟩
        subst ewo
        obtain ⟨k2, last, hk2, rfl, rfl, hla, hb2⟩ := hrel
        have hb42 : Below w4.heap.size w4 wo := HB5.out.1.trans (hb2.mono HB5.out.1.size)
        by_cases hlt2 : k2 < X.F.length
        · have g2 : (k2 : Int) < X.F.length := by omega
          obtain ⟨f, hf⟩ : ∃ f, X.F[k2]? = some f := ⟨_, List.getElem?_eq_getElem hlt2⟩
          obtain ⟨gf, cf', As, cs, ev, -, -, -, m3, -, -⟩ := (H4.out.2.2.1.below hb42).get hf
          injection ev with ea eb ec
          subst ea ec
          obtain ⟨vl, evl⟩ : ∃ y, f.vars.length = y := ⟨_, rfl⟩
          have hnx := laidF_next X.F q.size k2 f hf
          have hv2 : f.vars.length ≤ 200 := (H4.out.2.2.2.2.2.1.each k2 f _ hf (by rw [H4.out.2.2.2.2.2.2.2.2.1]; exact laidF_at _ _ _ _ hf)).1
          obtain ⟨bk, ebk⟩ : ∃ y, (laidF (X.F.take k2) q.size).2 = y := ⟨_, rfl⟩
          rw [ebk] at hla hnx
          rw [evl] at hnx hv2 m3
          have hk2c : k2 < c4 := by omega
          have H6 := Lib.hid (And.intro hf (And.intro hnx (And.intro hb2 (And.intro hb42 (And.intro ebk evl)))))
          clear hnx hb2 hb42 ebk evl hf
          go_wp2
          go_loopw [10, 12] (fun la i wr => ∃ (k3 : Nat) (last : Int), k3 ≤ vl ∧ i = .int .i64 k3 ∧ la = .int .i64 last ∧ (-1 ≤ last ∧ last < bk + k3) ∧ Below wo.heap.size wo wr) (fun _ i _ => vl - (intOf i).toNat)
          case atStart => exact ⟨0, last, Nat.zero_le _, rfl, rfl, by omega, Below.refl _ _⟩
          case round =>
            obtain ⟨k3, last3, hk3, rfl, rfl, hla3, hb3⟩ := hrel
            have hb33 : Below w4.heap.size w4 wr := H6.out.2.2.2.1.trans (hb3.mono H6.out.2.2.2.1.size)
            obtain ⟨gf', cf'', As', cs', ev', -, -, -, m3', -, -⟩ := (H4.out.2.2.1.below hb33).get H6.out.1
            injection ev' with ea' eb' ec'
            injection ea' with ea'
            injection ea' with ea'
            subst ea' ec'
            rw [H6.out.2.2.2.2.2] at m3'
            obtain ⟨p0, p1, p2⟩ := box3c (HCB.out wr hb33)
            by_cases hlt3 : k3 < vl
            · have g3 : (k3 : Int) < vl := by omega
              obtain ⟨hvo, hvar⟩ := var_at H4.out.2.2.2.2.2.1 H4.out.2.2.2.2.2.2.2.2.1 H6.out.1 (k := k3) (by rw [H6.out.2.2.2.2.2]; exact hlt3)
              rw [H6.out.2.2.2.2.1] at hvar
              have hvin := var_in H4.out.2.2.2.2.2.1 hvo
              rw [hvar] at hvin
              obtain ⟨hv0, hv1⟩ := hvin
              have hw1 : IntKind.i64.wrap (1000 * (k2 : Int)) = 1000 * (k2 : Int) := IntWalk.i64_in _ (by omega)
              have hw2 : IntKind.i64.wrap (1000 * (k2 : Int) + (k3 : Int)) = 1000 * (k2 : Int) + (k3 : Int) := IntWalk.i64_in _ (by omega)
              have hVS := varset_ok (rv := .slice A3 nr c3) H4.out.2.2.2.2.2.1 (H4.out.2.2.1.below hb33) (H4.out.2.2.2.1.below FsP.keeps hb33) hvo
              rw [hvar] at hVS
              have HVS := Lib.hid hVS
              have H7 := Lib.hid (And.intro hb3 (And.intro hb33 hvar))
              obtain ⟨xv, exv⟩ : ∃ y : Int, bk + k3 = y := ⟨_, rfl⟩
              rw [exv] at HVS hv0 hv1
              have q1 : ¬ xv ≤ last3 := by omega
              have q2 : ¬ X.sets ≤ xv := by omega
              have HX := Lib.hid exv
              clear hb3 hb33 hvar hvo hVS exv
              go_wp2_with fail
              go_at_call 15
              refine HVS.out.mono ?_
              rintro e w7 ⟨rfl, hb7⟩
              clear p0 p1 p2
              obtain ⟨p0, p1, p2⟩ := box3c (HCB.out w7 (H7.out.2.1.trans (hb7.mono H7.out.2.1.size)))
              have H8 := Lib.hid (H7.out.1.trans (hb7.mono H7.out.1.size))
              clear hb7
              go_wp2
              go_roundw
              case rel => exact ⟨k3 + 1, xv, by omega, by go_num, rfl, by have := HX.out; omega, H8.out⟩
              case measure => simp [intOf]; omega
            · have g3 : ¬ (k3 : Int) < vl := by omega
              have H8 := Lib.hid (H6.out.2.2.1.trans (hb3.mono H6.out.2.2.1.size))
              clear hb3 hb33
              go_wp2
              go_roundw
              case rel => exact ⟨k2 + 1, last3, by omega, by go_num, rfl, by have := H6.out.2.1; omega, H8.out⟩
              case measure => simp [intOf]; omega
        · have g2 : ¬ (k2 : Int) < X.F.length := by omega
          obtain ⟨p0, p1, p2⟩ := box3c (HCB.out wo hb42)
          have HB6 := Lib.hid hb42
          clear hb2 hb42
          go_wp2
          go_ret
          refine ⟨by first | rfl | simp, ?_⟩
          first | rw [← eN] | skip
          exact H4.out.1.trans (HB6.out.mono H4.out.1.size)
end Go.Proofs.YtikbfoichhkeaaaGreat
namespace Go.Proofs.YtikbfoichhkeaaaGreat.rulesRanges
open Go.ChangeShapes Go.WideShapes Go.ChangeAt Go.RowKit
open Go.ChangeMaps (open_string shut_string)
set_option maxRecDepth 100000 in
theorem lifted (os : Os) (started : os.Started) (H : Type) (enc : TypeId × Value → H) :
    ReturnsInHanded {} Tryz.checked os 6 .any (Rows.rulesRangesSpec.pre6 enc Tryz.prog Tryz.f6 Rows.rulesRangesRow.domain false) (Rows.rulesRangesSpec.post enc Tryz.prog Tryz.f6 false true false false) := by
  refine returnsInHanded_of_change (C := Tryz.checked) ownK started (by kernel_rfl) Tryz.func6
    (ChangeSpec.witness6 (enc := enc) (C := Tryz.checked) false ⟨#[], #[.agg #[.int .i64 0, .string ByteArray.empty, .int .i64 0, .slice none 0 0, .int .i64 0]], []⟩ 8 (by kernel_rfl) (by kernel_rfl) (by kernel_rfl) (by kernel_rfl)) ?_
  intro W base args ds gs before hval0 hW hcnd _
  have hval : ∀ (j : Nat) t v, Tryz.f6.params[j]? = some t → args[j]? = some v → Value.okWide Tryz.prog W .any base t v := hval0
  have hW' := hW
  obtain ⟨p, q, hA0, hV, rfl, hfz, hnd⟩ := hW
  have hA : DataW.TrodAll enc Tryz.prog W 0 (fun _ => true) true Tryz.f6.params.toList args.toList ds p := hA0
  rw [Tryz.params6] at hA hval
  obtain ⟨v0, vs0, d0, ds0, p0, q0, hargs, rfl, rfl, h0, r0⟩ := trodAll_cons hA
  obtain ⟨rfl, rfl, rfl⟩ := trodAll_nil r0
  obtain rfl : args = #[v0] := by cases args; simp_all
  obtain ⟨rfl, rfl⟩ := trodVars_none hV
  obtain ⟨a0, w0⟩ := open_node (hval 0 24 v0 rfl rfl) h0
  clear hA0 hval0
  simp only [List.append_nil] at hW'
  refine (rranges_any a0 v0 W w0).mono fun e W' ⟨he, bel⟩ => ?_
  subst he
  exact ⟨_, rfl, _, _, _, [], _, [], hW', trodAll_mk1 (shut_bool Tryz.underlying4 _), (trodAll_cons_mk (Below.trod laidOut (by kernel_rfl) (of_decide_eq_true (by kernel_rfl)) h0 bel (node_lt h0)) trodAll_mk0), rfl, bel.frame _, fun h => by cases h⟩
theorem over : Rows.rulesRangesRow.holds Tryz.pinned (OpenSpec.ofChange Rows.rulesRangesSpec) :=
  OpenClaim.holds_of_wide 6 Tryz.f6 rfl rfl rfl rfl rfl rfl rfl ⟨rfl, rfl, rfl, rfl, rfl⟩ rfl rfl rfl rfl rfl (by kernel_rfl) Tryz.func6 (by kernel_rfl)
    (of_decide_eq_true (by kernel_rfl)) (by unfold Func.isWrapper; first | (rw [if_pos (by decide +kernel)]; kernel_rfl) | (rw [if_neg (by decide +kernel)]; exact ⟨rfl, rfl⟩))
    (fun os started H enc _ => lifted os started H enc)
theorem proved : Rows.RulesRangesSaid := over
#print axioms proved
end Go.Proofs.YtikbfoichhkeaaaGreat.rulesRanges
