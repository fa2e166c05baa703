/- gumshoeref07's Own, Get. -/
import Derived.Test.YtpbbinppikaamaaRef
import Derived.Deep.LoopGhost
namespace Go.Proofs.Ytpbbinppikaamaa
open Go.RowKit Go.Proofs Go.Maps

theorem lk_drop {kv : List (ByteArray × V)} {k : Nat} {x : ByteArray × V} (h : kv[k]? = some x) (s : ByteArray) : lk (kv.drop k) s = if x.1 = s then some x.2 else lk (kv.drop (k + 1)) s := by
  have hk := (List.getElem?_eq_some_iff.1 h).1
  rw [List.drop_eq_getElem_cons hk]
  have e : kv[k] = x := by
    have := List.getElem?_eq_getElem hk
    rw [h] at this
    exact (Option.some.inj this).symm
  rw [e]
  obtain ⟨a, b⟩ := x
  rfl
theorem ROwn_none {F : Nat → Prop} {b T : Nat} {L : Hp} (i : Int) (s : ByteArray) (w : World) (h : IsR w F b T L) (ho : at? L i = none) :
    Calls Try.prog 32 #[.pointer (some ⟨b, 0, none⟩), .int .i64 i, .string s] w fun e w' => e = .returned (ans (own L i s)) ∧ Below w.heap.size w w' := by
  have hb := (Below.refl w.heap.size w).alloc (Nat.le_refl _) (.cells #[.int .i64 0, .int .i64 0, .string ⟨#[]⟩] 32)
  have HI := Lib.hid (Is_any i _ (h.below hb))
  have eb : isB L i = false := by simp [isB, ho]
  rw [eb] at HI
  have e : own L i s = none := by simp [own, ho]
  rw [e]
  simp only [ans, V.v, V.zero, Option.getD_none, Option.isSome_none]
  clear h ho eb e
  go_enter Try.func32, Try.ntmps32
  go_wp2_with (go_at_call 34; (with_reducible refine (HI.out).mono ?_); rintro e w' ⟨rfl, rfl⟩)
  refine bodyPost_ret (v := .tuple #[.agg #[.int .i64 0, .int .i64 0, .string ⟨#[]⟩], .bool false]) (by simp [results, Try.results32, go_sem]) rfl ⟨rfl, ?_⟩
  repeat (first | exact Below.refl _ _ | refine Below.setCell ?_ (by simp) _ | refine Below.alloc ?_ (by simp) _ | refine Below.drew ?_)
/-- What a walk over an object's keys asks. -/
theorem own_facts {w : World} {F : Nat → Prop} {b T : Nat} {ths : List TH} {v : Value} (hr : RefAt w F b T ths v) {n : Nat} {t : TH} (ht : ths[n]? = some t) :
    ∃ g c A ck B cv, v = .slice (some ⟨g, 0, none⟩) ths.length c ∧ w.cell? ⟨b, 0, none⟩ = some (.slice (some ⟨g, 0, none⟩) ths.length c) ∧ ths.length ≤ c ∧ c ≤ 9223372036854775807 ∧ n < ths.length ∧ F g ∧
      w.cell? ⟨g, n * 6 + 4, none⟩ = some (.slice A t.o.kv.length ck) ∧ w.cell? ⟨g, n * 6 + 5, none⟩ = some (.slice B t.o.kv.length cv) ∧ w.cell? ⟨g, n * 6 + 1, none⟩ = some (.int .i64 t.o.proto) ∧ t.o.kv.length ≤ ck ∧ ck ≤ 9223372036854775807 ∧ t.o.kv.length ≤ cv ∧ cv ≤ 9223372036854775807 ∧
      t.ks = .slice A t.o.kv.length ck ∧ t.vs = .slice B t.o.kv.length cv ∧
      ∀ (k : Nat) (x : ByteArray × V), t.o.kv[k]? = some x → ∃ gk gv, A = some ⟨gk, 0, none⟩ ∧ B = some ⟨gv, 0, none⟩ ∧ F gk ∧ F gv ∧ w.cell? ⟨gk, k, none⟩ = some (.string x.1) ∧ w.cell? ⟨gv, k * 3, none⟩ = some (.int .i64 x.2.k) ∧ w.cell? ⟨gv, k * 3 + 1, none⟩ = some (.int .i64 x.2.n) ∧ w.cell? ⟨gv, k * 3 + 2, none⟩ = some (.string x.2.s) := by
  obtain ⟨g, c, rfl, hFg, hc, -⟩ := hr.at ht
  obtain ⟨A', c', e, c0, hc1, hc2⟩ := hr.form
  cases e
  have hth := hr.th n t ht
  obtain ⟨A, ck, ek, hk1, hk2⟩ := row_slice hth.ks
  obtain ⟨B, cv, ev, hv1, hv2⟩ := row_slice hth.vs
  refine ⟨g, c, A, ck, B, cv, rfl, c0, hc1, hc2, (List.getElem?_eq_some_iff.1 ht).1, hFg, by rw [← ek]; exact hc 4 (by decide), by rw [← ev]; exact hc 5 (by decide), hc 1 (by decide), hk1, hk2, hv1, hv2, ek, ev, fun k x hx => ?_⟩
  have hkl := (List.getElem?_eq_some_iff.1 hx).1
  have hrk := hth.ks
  have hrv := hth.vs
  have hFk : ∀ j, t.ks.ownBlock = some j → F j := fun j hj => hr.thF t (List.mem_of_getElem? ht) j (.inl hj)
  have hFv : ∀ j, t.vs.ownBlock = some j → F j := fun j hj => hr.thF t (List.mem_of_getElem? ht) j (.inr hj)
  rcases row_form hrk with ⟨-, h0⟩ | ⟨gk, ck', e1, -, -, hgk⟩
  · omega
  rcases row_form hrv with ⟨-, h0⟩ | ⟨gv, cv', e2, -, -, hgv⟩
  · omega
  rw [ek] at e1
  rw [ev] at e2
  cases e1
  cases e2
  have hFk' := hFk gk hgk
  have hFv' := hFv gv hgv
  rw [ek] at hrk
  rw [ev] at hrv
  have hv : ∀ j, j < 3 → w.cell? ⟨gv, k * 3 + j, none⟩ = (vcell x)[j]? := fun j hj => by
    have e := flat_at (f := vcell) (m := 3) vcell_len t.o.kv k j x hj hx
    have hj' : j < (vcell x).length := hj
    rw [List.getElem?_eq_getElem hj'] at e ⊢
    exact row_cell hrv _ _ e
  exact ⟨gk, gv, rfl, rfl, hFk', hFv', row_cell hrk k _ (by simp [strsOf, keysOf, hx]), hv 0 (by decide), hv 1 (by decide), hv 2 (by decide)⟩

set_option maxHeartbeats 2000000 in
theorem ROwn_some {F : Nat → Prop} {b T : Nat} {L : Hp} (n : Nat) (o : Ob) (s : ByteArray) (w : World) (h : IsR w F b T L) (hL : L[n]? = some o) :
    Calls Try.prog 32 #[.pointer (some ⟨b, 0, none⟩), .int .i64 n, .string s] w fun e w' => e = .returned (ans (lk o.kv s)) ∧ Below w.heap.size w w' := by
  have hb := (Below.refl w.heap.size w).alloc (Nat.le_refl _) (.cells #[.int .i64 0, .int .i64 0, .string ⟨#[]⟩] 32)
  have h' := h.below hb
  have hlt := h.lt
  have HI := Lib.hid (Is_any (n : Int) _ h')
  have eb : isB L n = true := by simp [isB, at?_nat, hL]
  rw [eb] at HI
  obtain ⟨⟨v, ths, hr, rfl⟩, -⟩ := h'
  obtain ⟨t, ht, rfl⟩ := ths_at hL
  obtain ⟨g, c, A, ck, B, cv, rfl, c0, hc1, hc2, hn, hFg, c4, c5, -, hk1, hk2, hv1, hv2, -, -, hx⟩ := own_facts hr ht
  have hgl := hlt g hFg
  have hbl := hlt b hr.mine
  have hn' : (n : Int) < (ths.length : Int) := by omega
  have HX := Lib.hid (fun (k : Nat) (x : ByteArray × V) (h : t.o.kv[k]? = some x) => (by
    obtain ⟨gk, gv, e1, e2, h1, h2, h3⟩ := hx k x h
    exact ⟨gk, gv, e1, e2, hlt gk h1, hlt gv h2, h3⟩ : ∃ gk gv, A = some ⟨gk, 0, none⟩ ∧ B = some ⟨gv, 0, none⟩ ∧ gk < w.heap.size ∧ gv < w.heap.size ∧ (w.alloc (.cells #[.int .i64 0, .int .i64 0, .string ⟨#[]⟩] 32)).cell? ⟨gk, k, none⟩ = some (.string x.1) ∧ (w.alloc (.cells #[.int .i64 0, .int .i64 0, .string ⟨#[]⟩] 32)).cell? ⟨gv, k * 3, none⟩ = some (.int .i64 x.2.k) ∧ (w.alloc (.cells #[.int .i64 0, .int .i64 0, .string ⟨#[]⟩] 32)).cell? ⟨gv, k * 3 + 1, none⟩ = some (.int .i64 x.2.n) ∧ (w.alloc (.cells #[.int .i64 0, .int .i64 0, .string ⟨#[]⟩] 32)).cell? ⟨gv, k * 3 + 2, none⟩ = some (.string x.2.s)))
  generalize t.o.kv = kv at c4 c5 hk1 hk2 hv1 hv2 HX ⊢
  obtain ⟨m, hm⟩ : ∃ m, kv.length = m := ⟨_, rfl⟩
  have HM := Lib.hid hm
  rw [hm] at c4 c5 hk1 hv1
  clear hx hr ht hL h eb hb hm
  go_enter Try.func32, Try.ntmps32
  go_wp2_with (go_at_call 34; (with_reducible refine (HI.out).mono ?_); rintro e w' ⟨rfl, rfl⟩)
  go_loopg [9] m (fun gn i wr => ∃ k : Nat, k ≤ m ∧ gn = m - k ∧ i = .int .i64 k ∧ wr = w.alloc (.cells #[.int .i64 0, .int .i64 0, .string ⟨#[]⟩] 32) ∧ lk kv s = lk (kv.drop k) s)
  case atStart => exact ⟨0, Nat.zero_le _, rfl, rfl, rfl, rfl⟩
  case round =>
    obtain ⟨k, hk, rfl, rfl, rfl, hlk⟩ := hrel
    by_cases hkm : k < m
    · obtain ⟨x, hxk⟩ : ∃ x, kv[k]? = some x := ⟨_, List.getElem?_eq_getElem (by rw [HM.out]; exact hkm)⟩
      obtain ⟨gk, gv, rfl, rfl, hg1, hg2, d0, e0, e1, e2⟩ := HX.out k x hxk
      have hst := lk_drop hxk s
      obtain ⟨xk, xv⟩ := x
      obtain ⟨vk, vn, vs⟩ := xv
      simp only at d0 e0 e1 e2 hst
      have hkm' : (k : Int) < (m : Int) := by omega
      clear hxk
      by_cases hxs : xk = s
      · subst hxs
        have HE := Lib.hid (show lk kv xk = some ⟨vk, vn, vs⟩ by rw [hlk, hst, if_pos rfl])
        clear hst hlk
        go_wp2
        refine bodyPost_ret (v := .tuple #[.agg #[.int .i64 vk, .int .i64 vn, .string vs], .bool true]) (by simp [results, Try.results32, go_sem]) rfl ⟨?_, ?_⟩
        · rw [HE.out]
          rfl
        · repeat (first | exact Below.refl _ _ | refine Below.setCell ?_ (by simp) _ | refine Below.alloc ?_ (by simp) _ | refine Below.drew ?_)
      · have dx := str_ne hxs
        have HE := Lib.hid (show lk kv s = lk (kv.drop (k + 1)) s by rw [hlk, hst, if_neg hxs])
        clear hst hlk hxs
        go_wp2
        go_roundg (m - (k + 1))
        case measure => omega
        case rel => exact ⟨k + 1, by omega, rfl, by go_num, rfl, HE.out⟩
    · obtain rfl : k = m := by omega
      have HE := Lib.hid (show lk kv s = none by rw [hlk, List.drop_eq_nil_of_le (by rw [HM.out]; exact Nat.le_refl _)]; rfl)
      have hend : ¬ (k : Int) < (k : Int) := by omega
      clear hlk
      go_wp2
      refine bodyPost_ret (v := .tuple #[.agg #[.int .i64 0, .int .i64 0, .string ⟨#[]⟩], .bool false]) (by simp [results, Try.results32, go_sem]) rfl ⟨?_, ?_⟩
      · rw [HE.out]
        rfl
      · repeat (first | exact Below.refl _ _ | refine Below.setCell ?_ (by simp) _ | refine Below.alloc ?_ (by simp) _ | refine Below.drew ?_)
theorem ROwn_any {F : Nat → Prop} {b T : Nat} {L : Hp} (i : Int) (s : ByteArray) (w : World) (h : IsR w F b T L) :
    Calls Try.prog 32 #[.pointer (some ⟨b, 0, none⟩), .int .i64 i, .string s] w fun e w' => e = .returned (ans (own L i s)) ∧ Below w.heap.size w w' := by
  cases ho : at? L i with
  | none => exact ROwn_none i s w h ho
  | some o =>
    obtain ⟨n, rfl, hn, hL⟩ := at?_some ho
    have e : own L n s = lk o.kv s := by simp [own, ho]
    rw [e]
    exact ROwn_some n o s w h hL
end Go.Proofs.Ytpbbinppikaamaa
