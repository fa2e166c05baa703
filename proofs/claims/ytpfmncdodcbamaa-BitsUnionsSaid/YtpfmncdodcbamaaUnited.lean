/- bits.united: the set of all numbers of all sets. -/
import Derived.Test.YtpfmncdodcbamaaSets
import Derived.Test.YtpfmncdodcbamaaChosenAll
import Derived.Deep.Cut
import Derived.Deep.RegionWith
namespace Go.Proofs.Ytpfmncdodcbamaa
open Go.RowKit Go.Proofs Go.Shelf

/-- What the call's own row holds, it reads as. -/
theorem ints_of_own {w : World} {base n : Nat} {v : Value} {zs : List Int} (h : w.ownsRow base 3 1 v n (zs.map (Value.int .i64))) (hz : ∀ z ∈ zs, I64 z) (hn : zs.length ≤ 281474976710656) :
    ∃ A c, v = .slice A n c ∧ Ints w w.heap.size A n c zs := by
  have hl : zs.length = n := by have := h.1; simp at this; exact this
  rcases h.2 with ⟨rfl, rfl⟩ | ⟨g, cap, cur, rfl, hb, hg, hc1, hc2, _⟩
  · obtain rfl : zs = [] := List.eq_nil_of_length_eq_zero hl
    exact ⟨none, 0, rfl, Ints.nil_⟩
  · refine ⟨_, cap, rfl, hl, hc1, ⟨by omega, by unfold maxLen at hc2; omega⟩, hz, fun _ => ⟨_, rfl, (Array.getElem?_eq_some_iff.1 hg).1, fun j z hj => ?_⟩⟩
    exact h.cells (g := g) rfl j _ (by rw [List.getElem?_map, hj]; rfl)

section
variable {P : Program} (w : World)
/-- 'append(nil, l...)': a row of the call's own. -/
theorem run_append_copy (t ty e : TypeId) (i : TypeInfo) (z : Value) (ht : P.underlying t = some (.slice e)) (hi : P.info? e = some i) (hz : i.zero = some z)
    (hsize : i.size = 1) (hby : i.bytes = 8) (hzs : z.cells.size = 1) (B : Nat) (A : Option Addr) (m c : Nat) (zs : List Int) (hr : Ints w B A m c zs) (hm : m ≤ 17592186044416) :
    ∃ v' w', (Builtin.append_ #[t, t] ty #[.slice none 0 0, .slice A m c]).run P w = .ok v' w' ∧ w'.ownsRow w.heap.size e 1 v' m (zs.map (Value.int .i64)) ∧ w.grownBy w' none := by
  rcases A with _ | ad
  · have hm0 : m = 0 := by
      rcases Nat.eq_zero_or_pos m with h0 | h0
      · exact h0
      · obtain ⟨ad, h, _⟩ := hr.2.2.2.2 h0
        cases h
    subst hm0
    obtain rfl : zs = [] := List.eq_nil_of_length_eq_zero hr.1
    refine ⟨.slice none 0 0, w, ?_, World.ownsRow_nil _ _ _ _, World.grownBy.refl w _⟩
    simp [Builtin.append_, run_underlying ht, sizeOf, typeInfo, hi, Builtin.lenOf, Builtin.firstCells]
  · have hcells : ∀ j u, (zs.map (Value.int .i64))[j]? = some u → w.cell? (ad.add j) = some u := by
      intro j u hu
      rw [List.getElem?_map] at hu
      rcases Nat.eq_zero_or_pos m with h0 | h0
      · subst h0
        obtain rfl : zs = [] := List.eq_nil_of_length_eq_zero hr.1
        simp at hu
      · obtain ⟨ad', h, _, hc⟩ := hr.2.2.2.2 h0
        injection h with h
        subst h
        obtain ⟨q, hq, rfl⟩ := Option.map_eq_some_iff.1 hu
        exact hc j q hq
    obtain ⟨v', w', hrun, h2, h3, _, _⟩ := run_append_own_at (P := P) w w.heap.size t ty e i z 1 8 ht hi hz hsize hby hzs (by decide) (.slice none 0 0) 0 [] (World.ownsRow_nil _ _ _ _) ad m c (zs.map (Value.int .i64)) (by simp [hr.1]) hcells
      (fun u hu => by obtain ⟨q, _, rfl⟩ := List.mem_map.1 hu; simp [Value.oneCell']) (by unfold maxLen; omega) (by omega) (Nat.le_refl _)
    exact ⟨v', w', hrun, by simpa using h2, h3⟩

theorem wpList_append_copy {ops : Array Oper} {rest : List Oper} {o : Oper} {a : Act} {Q : Exit → Act → World → Prop} (hgd : o.guard = none) (x : Operand) (t : TypeId)
    (ho : o.op = .call { callee := .builtin .append, args := #[.const (.slice none 0 0), x], argTypes := #[t, t] })
    (e : TypeId) (i : TypeInfo) (z : Value) (ht : P.underlying t = some (.slice e)) (hi : P.info? e = some i) (hz : i.zero = some z)
    (hsize : i.size = 1) (hby : i.bytes = 8) (hzs : z.cells.size = 1) (B : Nat) (A : Option Addr) (m c : Nat) (zs : List Int) (hx : a.eval x = .slice A m c) (hr : Ints w B A m c zs) (hm : m ≤ 17592186044416)
    (h : ∀ v' w', w'.ownsRow w.heap.size e 1 v' m (zs.map (Value.int .i64)) → w.grownBy w' none → wpList P ops Q rest (a.put o.dst v') w') : wpList P ops Q (o :: rest) a w :=
  wpList_plain hgd fun K hK => by
    obtain ⟨v', w', hrun, h2, h3⟩ := run_append_copy (P := P) w t o.type e i z ht hi hz hsize hby hzs B A m c zs hr hm
    have hs : a.eval (.const (.slice none 0 0)) = .slice none 0 0 := rfl
    unfold Oper.wp execOp
    simp only [ho, resolve, invoke, builtin, Sem.run_bind, Sem.run_pure, Result.andThen_ok, List.map_toArray, List.map_cons, List.map_nil, hs, hx, hrun]
    exact hK _ _ (h v' w' h2 h3)
end

set_option maxHeartbeats 400000 in
theorem united_zero (A : Option Addr) (c : Nat) (w : World) : Calls Try.prog 30 #[.slice A 0 c] w fun e w' => e = .returned (.slice none 0 0) ∧ w = w' := by
  go_enter Try.func30, Try.ntmps30
  go_wp2
  go_ret
  exact ⟨rfl, rfl⟩

set_option maxHeartbeats 400000 in
theorem united_one (ad : Addr) (c : Nat) (A' : Option Addr) (n' c' B : Nat) (zs : List Int) (w : World) (hc : w.cell? ad = some (.slice A' n' c')) (hi : Ints w B A' n' c' zs) (hn : n' ≤ 17592186044416) :
    Calls Try.prog 30 #[.slice (some ad) 1 c] w fun e w' => ∃ v, e = .returned v ∧ w'.ownsRow w.heap.size 3 1 v n' (zs.map (Value.int .i64)) ∧ Below w.heap.size w w' := by
  obtain ⟨i0, hi0, hz0, hz1, hz2⟩ := info_parts info3
  have HI := Lib.hid (And.intro hi0 (And.intro hz0 (And.intro hz1 hz2)))
  clear hi0 hz0 hz1 hz2
  go_enter Try.func30, Try.ntmps30
  go_wp2_with (at_builtin; refine wpList_append_copy _ rfl _ 22 rfl 3 i0 (.int .i64 0) Try.underlying22 HI.out.1 HI.out.2.1 HI.out.2.2.1 HI.out.2.2.2 rfl B A' n' c' zs rfl hi hn ?_; intro v' w2 hown hgrow)
  go_ret
  exact ⟨v', rfl, hown, (Below.refl _ w).grown hgrow (Nat.le_refl _) (fun k e => by cases e)⟩

set_option maxHeartbeats 1000000 in
theorem united_any (k : Nat) : ∀ (A : Option Addr) (n c : Nat) (zss : List (List Int)) (w : World), n ≤ k → Mat w w.heap.size A n c zss → zss.all isSet = true →
    Calls Try.prog 30 #[.slice A n c] w fun e w' => ∃ A' n' c' r, e = .returned (.slice A' n' c') ∧ Ints w' w'.heap.size A' n' c' r ∧ UniOf r zss ∧ Below w.heap.size w w' := by
  induction k with
  | zero =>
    intro A n c zss w hk hm _
    obtain rfl : n = 0 := by omega
    obtain rfl : zss = [] := List.eq_nil_of_length_eq_zero hm.1
    refine (united_zero A c w).mono ?_
    rintro e w' ⟨rfl, rfl⟩
    exact ⟨none, 0, 0, [], rfl, Ints.nil_, ⟨rfl, by simp⟩, Below.refl _ _⟩
  | succ k ih =>
    intro A n c zss w hk hm hs
    rcases Nat.lt_or_ge n 2 with h2 | h2
    · rcases Nat.eq_zero_or_pos n with h0 | h0
      · subst h0
        obtain rfl : zss = [] := List.eq_nil_of_length_eq_zero hm.1
        refine (united_zero A c w).mono ?_
        rintro e w' ⟨rfl, rfl⟩
        exact ⟨none, 0, 0, [], rfl, Ints.nil_, ⟨rfl, by simp⟩, Below.refl _ _⟩
      · obtain rfl : n = 1 := by omega
        obtain ⟨ad, zs, A', n', c', rfl, hb, hz, hc, hi⟩ := hm.at_ (k := 0) (by omega)
        rw [add_zero_] at hc
        obtain rfl : zss = [zs] := by
          match zss, hm.1, hz with
          | [y], _, hz => simp at hz; rw [hz]
        simp at hs
        have hl := isSet_len hs
        refine (united_one ad c A' n' c' _ zs w hc hi (by have := hi.1; omega)).mono ?_
        rintro e w' ⟨v, rfl, hown, hbl⟩
        obtain ⟨A2, c2, rfl, hi2⟩ := ints_of_own hown (isSet_I64 hs) (by omega)
        exact ⟨A2, n', c2, zs, rfl, hi2, ⟨hs, by simp⟩, hbl⟩
    · have hn := hm.2.2.1.1
      have hnc := hm.2.1
      have hc := hm.2.2.1.2
      obtain ⟨ad, _, _, _, _, rfl, _⟩ := hm.at_ (k := 0) (by omega)
      have hcn : ¬ c = n / 2 := by omega
      have hm1 := hm.head_ (k := n / 2) (by omega) c (by omega) (by omega)
      have hm2 := hm.cut (k := n / 2) (by omega)
      rw [if_neg hcn] at hm2
      have hs1 : (zss.take (n / 2)).all isSet = true := by
        rw [List.all_eq_true] at hs ⊢
        exact fun x hx => hs x (List.mem_of_mem_take hx)
      have hs2 : (zss.drop (n / 2)).all isSet = true := by
        rw [List.all_eq_true] at hs ⊢
        exact fun x hx => hs x (List.mem_of_mem_drop hx)
      have H1 := Lib.hid (fun (W : World) (hb : Below w.heap.size w W) => ih (some ad) (n / 2) c (zss.take (n / 2)) W (by omega) ((hm1.below hb).more hb.size) hs1)
      have H2 := Lib.hid (fun (W : World) (hb : Below w.heap.size w W) => ih (some (ad.add (n / 2))) (n - n / 2) (c - n / 2) (zss.drop (n / 2)) W (by omega) ((hm2.below hb).more hb.size) hs2)
      have HM := Lib.hid hm
      have HS := Lib.hid hs
      clear ih hm hm1 hm2 hs hs1 hs2
      have hi0 : ((n : Int) == 0) = false := by simp; omega
      have hi1 : ((n : Int) == 1) = false := by simp; omega
      go_enter Try.func30, Try.ntmps30
      go_wp2
      go_cut [4, 5] from 6 (fun s4 s5 wc => ∃ A1 n1 c1 r1 A2 n2 c2 r2, s4 = .slice A1 n1 c1 ∧ s5 = .slice A2 n2 c2 ∧ Ints wc wc.heap.size A1 n1 c1 r1 ∧ Ints wc wc.heap.size A2 n2 c2 r2 ∧ UniOf r1 (zss.take (n / 2)) ∧ UniOf r2 (zss.drop (n / 2)) ∧ Below w.heap.size w wc)
      case first =>
        go_region_with (first
          | (go_at_call 30; (with_reducible refine (H1.out _ (by first | exact (Below.refl _ _).drew | assumption)).mono ?_); rintro e w' ⟨A1, n1, c1, r1, rfl, hr1, hu1, hb1⟩; have HR1 := Lib.hid (And.intro hr1 hu1); clear hr1 hu1; (try have hd : Below w.heap.size w w' := (Below.refl _ w).drew.trans hb1))
          | (go_at_call 30; (with_reducible refine (H2.out _ (by first | exact (Below.refl _ _).drew | assumption)).mono ?_); rintro e w' ⟨A2, n2, c2, r2, rfl, hr2, hu2, hb2⟩; have HR2 := Lib.hid (And.intro hr2 hu2); clear hr2 hu2; (try have hd : Below w.heap.size w w' := (Below.refl _ w).drew.trans hb2)))
        all_goals
          go_wp2
          go_meet
          case rel => exact ⟨A1, n1, c1, r1, A2, n2, c2, r2, rfl, rfl, (HR1.out.1.below hb2).more hb2.size, HR2.out.1, HR1.out.2, HR2.out.2, hd.trans (hb2.mono hd.size)⟩
      case rest =>
        obtain ⟨A1, n1, c1, r1, A2, n2, c2, r2, rfl, rfl, hr1, hr2, hu1, hu2, hbl⟩ := hcut
        have HC := Lib.hid (callsIn_wide.1 (chosen40_in 3 (by omega) A1 A2 n1 c1 n2 c2 r1 r2 wc hr1 hr2 (mrg_len hu1.1 hu2.1)))
        have HU := Lib.hid (hu1.join hu2)
        clear hr1 hr2 hu1 hu2
        go_wp2_with (go_at_call 33; (with_reducible refine (HC.out).mono ?_); rintro e w' ⟨v, rfl, hown, hb2⟩)
        go_ret
        obtain ⟨A3, c3, rfl, hi3⟩ := ints_of_own hown (isSet_I64 HU.out.1) (by have := isSet_len HU.out.1; omega)
        exact ⟨A3, _, c3, _, rfl, hi3, HU.out, hbl.trans (hb2.mono hbl.size)⟩
end Go.Proofs.Ytpfmncdodcbamaa
