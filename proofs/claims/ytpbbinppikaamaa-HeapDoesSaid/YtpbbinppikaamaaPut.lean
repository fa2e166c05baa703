/- heap.takes, Put. -/
import Derived.Test.YtpbbinppikaamaaHeap
namespace Go.Proofs.Ytpbbinppikaamaa
open Go.RowKit Go.Proofs Go.Maps

set_option maxHeartbeats 4000000 in
theorem right_any (k n : Int) (s : ByteArray) (w : World) : Calls Try.prog 41 #[.agg #[.int .i64 k, .int .i64 n, .string s]] w fun e w' => e = .returned (.bool (rightB k n s)) ∧ Below w.heap.size w w' := by
  go_enter Try.func41, Try.ntmps41
  go_wp2
  all_goals go_ret
  all_goals (refine ⟨ret_b ?_, ?_⟩)
  all_goals first
    | exact ((Below.refl _ _).alloc (Nat.le_refl _) _).alloc (by simp) _
    | exact ((Below.refl _ _).alloc (Nat.le_refl _) _)
    | (simp_all [rightB]; done)
    | (simp_all [rightB]; omega)
set_option maxHeartbeats 4000000 in
theorem rright_any (k n : Int) (s : ByteArray) (w : World) : Calls Try.prog 27 #[.agg #[.int .i64 k, .int .i64 n, .string s]] w fun e w' => e = .returned (.bool (rightB k n s)) ∧ Below w.heap.size w w' := by
  go_enter Try.func27, Try.ntmps27
  go_wp2
  all_goals go_ret
  all_goals (refine ⟨ret_b ?_, ?_⟩)
  all_goals first
    | exact ((Below.refl _ _).alloc (Nat.le_refl _) _)
    | (simp_all [rightB]; done)

set_option maxHeartbeats 1000000 in
theorem takes_any {F : Nat → Prop} {b T : Nat} {L : Hp} (v : V) (w : World) (h : IsH w F b T L) :
    Calls Try.prog 38 #[.pointer (some ⟨b, 0, none⟩), v.v] w fun e w' => e = .returned (.bool (okPut L v)) ∧ Below w.heap.size w w' := by
  obtain ⟨k, n, s⟩ := v
  have hb := (Below.refl w.heap.size w).alloc (Nat.le_refl _) (.cells #[.int .i64 k, .int .i64 n, .string s] 32)
  have HL := Lib.hid (fun (w' : World) (hb : Below w.heap.size w w') => len_any w' (h.below hb))
  have HR := Lib.hid (fun w => right_any k n s w)
  have HB := Lib.hid hb
  have hlen := h.2.2
  clear h hb
  simp only [V.v, okPut]
  by_cases hk : k = 5
  · subst hk
    by_cases h1 : n < 0
    · have d1 : decide (n < 0) = true := decide_eq_true h1
      have hr : (rightB 5 n s && !((5 : Int) == 5 && (decide (n < 0) || decide ((L.length : Int) ≤ n)))) = false := by simp [h1]
      rw [hr]
      clear hr
      go_enter Try.func38, Try.ntmps38
      go_wp2_with fail
      go_quiet (fail)
      go_wp2
      go_ret
      exact ⟨rfl, below_drewN HB.out _⟩
    · have d1 : decide (n < 0) = false := decide_eq_false h1
      by_cases h2 : (L.length : Int) ≤ n
      · have d2 : decide ((L.length : Int) ≤ n) = true := decide_eq_true h2
        have hr : (rightB 5 n s && !((5 : Int) == 5 && (decide (n < 0) || decide ((L.length : Int) ≤ n)))) = false := by simp [h2]
        rw [hr]
        clear hr
        go_enter Try.func38, Try.ntmps38
        go_wp2_with fail
        go_quiet ((go_at_call 15; exact Calls.quiet_of_same ((HL.out _ (below_drewN HB.out _)).mono (fun e w' h => ⟨h.1, h.2.symm⟩))))
        go_wp2
        go_ret
        exact ⟨rfl, below_drewN HB.out _⟩
      · have d2 : decide ((L.length : Int) ≤ n) = false := decide_eq_false h2
        have hr : (rightB 5 n s && !((5 : Int) == 5 && (decide (n < 0) || decide ((L.length : Int) ≤ n)))) = rightB 5 n s := by simp [h1, h2]
        rw [hr]
        clear hr
        go_enter Try.func38, Try.ntmps38
        go_wp2_with fail
        go_quiet ((go_at_call 15; exact Calls.quiet_of_same ((HL.out _ (below_drewN HB.out _)).mono (fun e w' h => ⟨h.1, h.2.symm⟩))))
        go_wp2_with (go_at_call 41; (with_reducible refine (HR.out _).mono ?_); rintro e w' ⟨rfl, hb⟩)
        go_ret
        exact ⟨rfl, (below_drewN HB.out nq).trans (hb.mono (by simp))⟩
  · have d0 : (k == 5) = false := by simpa using hk
    have hr : (rightB k n s && !(k == 5 && (decide (n < 0) || decide ((L.length : Int) ≤ n)))) = rightB k n s := by simp [hk]
    rw [hr]
    clear hr
    go_enter Try.func38, Try.ntmps38
    go_wp2_with fail
    go_quiet (fail)
    go_wp2_with (go_at_call 41; (with_reducible refine (HR.out _).mono ?_); rintro e w' ⟨rfl, hb⟩)
    go_ret
    exact ⟨rfl, (below_drewN HB.out nq).trans (hb.mono (by simp))⟩
theorem ObAt.not_blk {w : World} {T : Nat} {p : Spot} {o : Ob} (h : ObAt w T p o) {b : Nat} {cs : Array Value} {t : TypeId} (hb : w.heap[b]? = some (.cells cs t (0, 0))) (h1 : t ≠ 70) (h2 : t ≠ 9) : ¬ p.blk b := by
  rintro (rfl | e | e)
  · rw [h.head] at hb
    cases hb
    exact h1 rfl
  · exact h.mb hb e
  · obtain ⟨cs', hc⟩ := row_blk h.row e
    rw [hb] at hc
    cases hc
    exact h2 rfl
theorem ObAt.blk_apart {w : World} {T T' : Nat} {p q : Spot} {o o' : Ob} (h : ObAt w T p o) (h' : ObAt w T' q o') (ha : Apart p q) {i : Nat} (hi : q.blk i) : ¬ p.blk i := by
  rcases hi with rfl | rfl | hi
  · rintro (e | e | e)
    · exact ha.1 e.symm
    · exact h.mb h'.head e
    · obtain ⟨cs', hc⟩ := row_blk h.row e
      rw [h'.head] at hc
      cases hc
  · rintro (e | e | e)
    · exact h'.mb h.head e.symm
    · exact ha.2.1 e.symm
    · obtain ⟨cs', hc⟩ := row_blk h.row e
      exact h'.mb hc rfl
  · obtain ⟨cs', hc⟩ := row_blk h'.row hi
    rintro (rfl | rfl | e)
    · rw [h.head] at hc
      cases hc
    · exact h.mb hc rfl
    · exact ha.2.2 i e hi
theorem Apart.symm {p q : Spot} (h : Apart p q) : Apart q p := ⟨h.1.symm, h.2.1.symm, fun k h1 h2 => h.2.2 k h2 h1⟩
theorem pairwise_at {sp : List Spot} (h : sp.Pairwise Apart) {i j : Nat} {p q : Spot} (hp : sp[i]? = some p) (hq : sp[j]? = some q) (hij : i ≠ j) : Apart p q := by
  obtain ⟨h1, rfl⟩ := List.getElem?_eq_some_iff.1 hp
  obtain ⟨h2, rfl⟩ := List.getElem?_eq_some_iff.1 hq
  rcases Nat.lt_or_gt_of_ne hij with e | e
  · exact List.pairwise_iff_getElem.1 h i j h1 h2 e
  · exact (List.pairwise_iff_getElem.1 h j i h2 h1 e).symm
theorem pairwise_of {sp : List Spot} (h : ∀ (i j : Nat) (p q : Spot), sp[i]? = some p → sp[j]? = some q → i < j → Apart p q) : sp.Pairwise Apart :=
  List.pairwise_iff_getElem.2 fun i j hi hj hij => h i j _ _ (List.getElem?_eq_getElem hi) (List.getElem?_eq_getElem hj) hij

theorem HeapAt.put {w w' : World} {F : Nat → Prop} {b T : Nat} {L : Hp} {v : Value} {sp : List Spot} (h : HeapAt w F b T L v sp) {i : Nat} {p : Spot} {o : Ob} (hp : sp[i]? = some p) (ho : L[i]? = some o) {s : ByteArray} {x : V} (hP : PutAt w w' T p o s x) :
    (∃ sp', HeapAt w' (ext F w w') b (T + 1) (setO L i s x) v sp') ∧ Only F w w' := by
  obtain ⟨ks, hO, hon, hlies⟩ := hP
  have hOb := h.obj i p o hp ho
  have hpF : ∀ j, p.blk j → F j := h.objF p (List.mem_of_getElem? hp)
  have hF : Only F w w' := hon.mono (fun j _ hj => hpF j hj)
  have eL : setO L i s x = L.set i { o with kv := pt o.kv s x } := by unfold setO; rw [ho]
  have hil := (List.getElem?_eq_some_iff.1 hp).1
  have keep : ∀ {g : Nat} {cs : Array Value} {t : TypeId}, w.heap[g]? = some (.cells cs t (0, 0)) → t ≠ 70 → t ≠ 9 → w'.heap[g]? = w.heap[g]? := fun hg h1 h2 => hon.block _ (heap_lt hg) (hOb.not_blk hg h1 h2)
  have hbk : ∀ (j : Nat) (q : Spot) (oq : Ob), sp[j]? = some q → L[j]? = some oq → j ≠ i → ObAt w' (T + 1) q oq := fun j q oq hq hoq hj =>
    ((h.obj j q oq hq hoq).keep (fun k hk => hon.block k ((h.obj j q oq hq hoq).lt hk) (hOb.blk_apart (h.obj j q oq hq hoq) (pairwise_at h.apart hp hq (Ne.symm hj)) hk))).more (Nat.le_succ _)
  have hblk : ∀ j, ({ p with ks := ks } : Spot).blk j → ext F w w' j := fun j hj => by
    have hl := hO.lt hj
    rcases hj with rfl | rfl | hj
    · exact .inl (hpF _ (.inl rfl))
    · exact .inl (hpF _ (.inr (.inl rfl)))
    · rcases hlies with e | ⟨k, e, hk⟩
      · exact .inl (hpF _ (.inr (.inr (e ▸ hj))))
      · have e2 : ks.ownBlock = some j := hj
        rw [e2] at e
        cases e
        exact .inr ⟨hk, hl⟩
  refine ⟨⟨sp.set i { p with ks := ks }, ?_⟩, hF⟩
  rw [eL]
  refine ⟨(keep h.head (by decide) (by decide)).trans h.head, .inl h.mine, ?_, fun k hk => .inl (h.rowF k hk), ?_, ?_, ?_, ?_, ext_lt h.lt hF.size⟩
  · have em : (sp.set i { p with ks := ks }).map ptr = sp.map ptr := by
      rw [List.map_set]
      have : ptr { p with ks := ks } = ptr p := rfl
      rw [this]
      refine List.ext_getElem? fun j => ?_
      by_cases e : j = i
      · subst e
        rw [List.getElem?_set_self (by simpa using hil), List.getElem?_map, hp]
        rfl
      · rw [List.getElem?_set_ne (Ne.symm e)]
    rw [em, List.length_set]
    refine row_keep h.row (fun j hj => ?_)
    obtain ⟨cs, hc⟩ := row_blk h.row hj
    exact keep hc (by decide) (by decide)
  · simp [h.len]
  · intro j q oq hq hoq
    by_cases e : j = i
    · subst e
      rw [List.getElem?_set_self hil] at hq
      rw [List.getElem?_set_self (by rw [← h.len]; exact hil)] at hoq
      cases hq
      cases hoq
      exact hO
    · rw [List.getElem?_set_ne (Ne.symm e)] at hq hoq
      exact hbk j q oq hq hoq e
  · intro q hq j hj
    rcases List.mem_or_eq_of_mem_set hq with hq | rfl
    · exact .inl (h.objF q hq j hj)
    · exact hblk j hj
  · have key : ∀ (j : Nat) (q : Spot), sp[j]? = some q → j ≠ i → Apart { p with ks := ks } q := fun j q hq hj => by
      have ha := pairwise_at h.apart hp hq (Ne.symm hj)
      refine ⟨ha.1, ha.2.1, fun k hk e => ?_⟩
      rcases hlies with e' | ⟨k', e', hk'⟩
      · exact ha.2.2 k (e' ▸ hk) e
      · have e2 : ks.ownBlock = some k := hk
        rw [e2] at e'
        cases e'
        have hlt : k < w.heap.size := by
          obtain ⟨oq, hoq⟩ : ∃ oq, L[j]? = some oq := ⟨_, List.getElem?_eq_getElem (by rw [← h.len]; exact (List.getElem?_eq_some_iff.1 hq).1)⟩
          exact (h.obj j q oq hq hoq).lt (.inr (.inr e))
        omega
    refine pairwise_of fun j k q r hq hr hjk => ?_
    by_cases ej : j = i
    · subst ej
      rw [List.getElem?_set_self hil] at hq
      cases hq
      rw [List.getElem?_set_ne (by omega)] at hr
      exact key k r hr (by omega)
    · rw [List.getElem?_set_ne (Ne.symm ej)] at hq
      by_cases ek : k = i
      · subst ek
        rw [List.getElem?_set_self hil] at hr
        cases hr
        exact (key j q hq ej).symm
      · rw [List.getElem?_set_ne (Ne.symm ek)] at hr
        exact pairwise_at h.apart hq hr (by omega)
theorem IsH.put {w w' : World} {F : Nat → Prop} {b T : Nat} {L : Hp} {v : Value} {sp : List Spot} (h : HeapAt w F b T L v sp) (h2 : Wf L) (h3 : L.length ≤ 5000) {i : Nat} {p : Spot} {o : Ob} (hp : sp[i]? = some p) (ho : L[i]? = some o) {s : ByteArray} {x : V} (hP : PutAt w w' T p o s x) :
    IsH w' (ext F w w') b (T + 1) (setO L i s x) ∧ Only F w w' := by
  obtain ⟨⟨sp', h'⟩, ho⟩ := h.put hp ho hP
  exact ⟨⟨⟨v, sp', h'⟩, h2.setO _ _ _, by rw [setO_len]; exact h3⟩, ho⟩

set_option maxHeartbeats 1000000 in
theorem Put_nil (i : Int) (s : ByteArray) (v : V) (w : World) : Calls Try.prog 26 #[.pointer none, .int .i64 i, .string s, v.v] w fun e w' => e = .returned (.int .i64 1) ∧ Below w.heap.size w w' := by
  obtain ⟨k, n, t⟩ := v
  simp only [V.v]
  go_enter Try.func26, Try.ntmps26
  go_wp2_with (go_at_call 33; (with_reducible refine (at_nil _ _).mono ?_); rintro e w' ⟨rfl, rfl⟩)
  go_ret
  exact ⟨rfl, (Below.refl _ w).alloc (Nat.le_refl _) _⟩

set_option maxHeartbeats 1000000 in
theorem Put_any {F : Nat → Prop} {b T : Nat} {L : Hp} (i : Int) (s : ByteArray) (v : V) (w : World) (h : IsH w F b T L) (hs : s.size ≤ maxLen) (hT : T ≤ 1000000) :
    Calls Try.prog 26 #[.pointer (some ⟨b, 0, none⟩), .int .i64 i, .string s, v.v] w fun e w' => e = .returned (.int .i64 (putE L i v)) ∧ IsH w' (ext F w w') b (T + 1) (putL L i s v) ∧ Only F w w' := by
  have more : ∀ w', Below w.heap.size w w' → IsH w' (ext F w w') b (T + 1) L ∧ Only F w w' := fun w' hb => by
    have hk := (h.below hb).mono (G := ext F w w') (fun _ h => .inl h) (ext_lt h.lt hb.size)
    obtain ⟨⟨v, sp, hh⟩, h2⟩ := hk
    exact ⟨⟨⟨v, sp, hh.head, hh.mine, hh.row, hh.rowF, hh.len, fun i p o hp ho => (hh.obj i p o hp ho).more (Nat.le_succ _), hh.objF, hh.apart, hh.lt⟩, h2⟩, Only.of_below hb⟩
  have HM := Lib.hid more
  have HL := Lib.hid h.lt
  have hb := (Below.refl w.heap.size w).alloc (Nat.le_refl _) (valO v)
  cases ho : at? L i with
  | none =>
    have HA := Lib.hid (at_out i _ (h.below hb) ho)
    have HR := Lib.hid (And.intro (show putE L i v = 70 by simp [putE, ho]) (show putL L i s v = L by simp [putL, putE, ho]))
    obtain ⟨k, n, t⟩ := v
    simp only [V.v, valO] at HA HR ⊢
    clear h more ho hb
    go_enter Try.func26, Try.ntmps26
    go_wp2_with (go_at_call 33; (with_reducible refine (HA.out).mono ?_); rintro e w' ⟨rfl, rfl⟩)
    go_ret
    rw [HR.out.1, HR.out.2]
    exact ⟨rfl, HM.out _ ((Below.refl _ w).alloc (Nat.le_refl _) _)⟩
  | some o =>
    obtain ⟨n, rfl, hn, hL⟩ := at?_some ho
    have h' := h.below hb
    have HT := Lib.hid (takes_any v _ h')
    obtain ⟨⟨u, sp, hh⟩, h2, h3⟩ := h'
    obtain ⟨p, hp, hob⟩ := hh.has hL
    have HA := Lib.hid (at_in n p _ hh h2 h3 hp)
    have HP := Lib.hid (fun (w' : World) (hb' : Below (w.alloc (valO v)).heap.size (w.alloc (valO v)) w') => put_any p o T s v w' (hob.below hb') hs hT)
    cases hok : okPut L v with
    | false =>
      have HR := Lib.hid (And.intro (show putE L n v = 2 by simp [putE, ho, hok]) (show putL L n s v = L by simp [putL, putE, ho, hok]))
      rw [hok] at HT
      obtain ⟨k, m, t⟩ := v
      simp only [V.v, valO] at HA HT HR ⊢
      clear h more ho hb hh hp hob hok HP hn hL
      go_enter Try.func26, Try.ntmps26
      go_wp2_with (first
        | (go_at_call 33; (with_reducible refine (HA.out).mono ?_); rintro e w' ⟨rfl, rfl⟩)
        | (go_at_call 38; (with_reducible refine (HT.out).mono ?_); rintro e w' ⟨rfl, hbt⟩))
      go_ret
      rw [HR.out.1, HR.out.2]
      exact ⟨rfl, HM.out _ (((Below.refl _ w).alloc (Nat.le_refl _) _).trans (hbt.mono (by simp)))⟩
    | true =>
      have HR := Lib.hid (And.intro (show putE L n v = 0 by simp [putE, ho, hok]) (show putL L n s v = setO L n s v by simp [putL, putE, ho, hok]))
      rw [hok] at HT
      have HF := Lib.hid (fun (w1 w' : World) (hb1 : Below (w.alloc (valO v)).heap.size (w.alloc (valO v)) w1) (hP : PutAt w1 w' T p o s v) => IsH.put (hh.keep (fun i hi => hb1.block i (hh.lt i hi)) hb1.size) h2 h3 hp hL hP)
      obtain ⟨k, m, t⟩ := v
      simp only [V.v, valO] at HA HT HR HP HF ⊢
      clear h more ho hb hh hp hob hok hL HM
      go_enter Try.func26, Try.ntmps26
      go_wp2_with fail
      go_at_call 33
      (with_reducible refine (HA.out).mono ?_)
      rintro e w' ⟨rfl, rfl⟩
      go_wp2_with fail
      go_at_call 38
      (with_reducible refine (HT.out).mono ?_)
      rintro e w1 ⟨rfl, hbt⟩
      have c0 : w1.cell? ⟨w.heap.size, 0, none⟩ = some (.int .i64 k) := (hbt.cell (p := ⟨w.heap.size, 0, none⟩) (by simp)).trans (World.cell?_alloc_new w _ _ 0)
      have c1 : w1.cell? ⟨w.heap.size, 1, none⟩ = some (.int .i64 m) := (hbt.cell (p := ⟨w.heap.size, 1, none⟩) (by simp)).trans (World.cell?_alloc_new w _ _ 1)
      have c2 : w1.cell? ⟨w.heap.size, 2, none⟩ = some (.string t) := (hbt.cell (p := ⟨w.heap.size, 2, none⟩) (by simp)).trans (World.cell?_alloc_new w _ _ 2)
      go_wp2_with (go_at_call 39; (with_reducible refine (HP.out _ hbt).mono ?_); rintro e w2 ⟨rfl, hP⟩)
      go_ret
      obtain ⟨hI, hon⟩ := HF.out w1 w2 hbt hP
      rw [HR.out.1, HR.out.2]
      have hb1 : Below w.heap.size w w1 := ((Below.refl _ w).alloc (Nat.le_refl _) _).trans (hbt.mono (by simp))
      have hs1 := hb1.size
      exact ⟨rfl, hI.mono (fun j hj => hj.imp id (fun h => ⟨by omega, h.2⟩)) (ext_lt HL.out (Nat.le_trans hs1 hon.size)), (Only.of_below hb1).trans' hon⟩
end Go.Proofs.Ytpbbinppikaamaa
