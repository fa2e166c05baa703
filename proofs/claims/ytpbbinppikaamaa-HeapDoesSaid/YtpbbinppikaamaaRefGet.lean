/- gumshoeref07's Get. -/
import Derived.Test.YtpbbinppikaamaaRefOwn
import Derived.Test.YtpbbinppikaamaaGet
namespace Go.Proofs.Ytpbbinppikaamaa
open Go.RowKit Go.Proofs Go.Maps

theorem get_step {L : Hp} (hw : Wf L) {q : Int} {o : Ob} (h : at? L q = some o) (s : ByteArray) : get L q s = match lk o.kv s with
    | some v => some v
    | none => get L o.proto s := by
  unfold get
  rw [chain_step hw h]
  obtain ⟨n, rfl, hn, hL⟩ := at?_some h
  simp only [Int.toNat_natCast, getL, hL, Option.elim]
  cases lk o.kv s <;> rfl
theorem get_none {L : Hp} {q : Int} (h : at? L q = none) (s : ByteArray) : get L q s = none := by
  unfold get
  rw [chain_none h]
  rfl
set_option maxHeartbeats 4000000 in
theorem RGet_any {F : Nat → Prop} {b T : Nat} {L : Hp} (p : Int) (s : ByteArray) (w : World) (h : IsR w F b T L) :
    Calls Try.prog 31 #[.pointer (some ⟨b, 0, none⟩), .int .i64 p, .string s] w fun e w' => e = .returned (ans (get L p s)) ∧ Below w.heap.size w w' := by
  have HH := Lib.hid h
  have hbl : b < w.heap.size := h.lt b (by obtain ⟨⟨v, ths, hr, -⟩, -⟩ := h; exact hr.mine)
  clear h
  go_enter Try.func31, Try.ntmps31
  go_wp2
  go_loopg [1] (p + 1).toNat (fun gn i wr => ∃ q : Int, gn = (q + 1).toNat ∧ i = .int .i64 q ∧ Below (w.alloc (.cells #[.int .i64 0, .int .i64 0, .string ⟨#[]⟩] 32)).heap.size (w.alloc (.cells #[.int .i64 0, .int .i64 0, .string ⟨#[]⟩] 32)) wr ∧ get L p s = get L q s)
  case atStart => exact ⟨p, rfl, rfl, Below.refl _ _, rfl⟩
  case round =>
    obtain ⟨q, rfl, rfl, hB, hg⟩ := hrel
    obtain ⟨⟨c0, c1, c2⟩, ⟨f0, f1, f2⟩, hbw, hlt⟩ := box_facts hB
    have hR := HH.out.below hbw
    cases ho : at? L q with
    | none =>
      have HE := Lib.hid (show get L p s = none by rw [hg, get_none ho])
      have hq := at?_none ho
      obtain ⟨⟨v, ths, hr, e⟩, -⟩ := hR
      obtain ⟨A, c, rfl, d0, -⟩ := hr.form
      rw [show ths.length = L.length by rw [e]; simp] at d0
      have HB := Lib.hid (And.intro hbw hlt)
      clear hr e hg ho hB hbw
      by_cases h0 : 0 ≤ q
      · have hq2 : ¬ q < (L.length : Int) := by omega
        have hq3 : decide (0 ≤ q) = true := decide_eq_true h0
        go_wp2
        refine bodyPost_ret (v := .tuple #[.agg #[.int .i64 0, .int .i64 0, .string ⟨#[]⟩], .bool false]) (by simp [results, Try.results31, go_sem, c0, c1, c2]) rfl ⟨?_, ?_⟩
        · rw [HE.out]
          rfl
        · exact set3 HB.out.1 _ (Nat.le_refl _) _ _ _
      · have hq3 : decide (0 ≤ q) = false := decide_eq_false h0
        go_wp2
        refine bodyPost_ret (v := .tuple #[.agg #[.int .i64 0, .int .i64 0, .string ⟨#[]⟩], .bool false]) (by simp [results, Try.results31, go_sem, c0, c1, c2]) rfl ⟨?_, ?_⟩
        · rw [HE.out]
          rfl
        · exact set3 HB.out.1 _ (Nat.le_refl _) _ _ _
    | some o =>
      have hgs := get_step HH.out.2.1 ho s
      obtain ⟨n, rfl, hn, hL⟩ := at?_some ho
      have hpr := HH.out.2.1 n o hL
      have HO := Lib.hid (ROwn_some n o s _ hR hL)
      obtain ⟨⟨v, ths, hr, e⟩, -⟩ := hR
      rw [e] at hL
      obtain ⟨t, ht, rfl⟩ := ths_at hL
      obtain ⟨g, c, A, ck, B, cv, rfl, d0, hc1, hc2, hn1, hFg, -, -, d1, -⟩ := own_facts hr ht
      rw [show ths.length = L.length by rw [e]; simp] at d0 hc1 hn1
      have hgl : g < w.heap.size := HH.out.lt g hFg
      have HB := Lib.hid (And.intro hB (And.intro hbw hlt))
      have hn' : (n : Int) < (L.length : Int) := by omega
      cases hlk : lk t.o.kv s with
      | some x =>
        rw [hlk] at hgs HO
        have HE := Lib.hid (show get L p s = some x by rw [hg, hgs])
        obtain ⟨xk, xn, xs⟩ := x
        simp only [ans, V.v, Option.getD_some, Option.isSome_some] at HO
        clear hr e hg hgs ht hL hlk hB hbw ho
        go_wp2_with (go_at_call 32; (with_reducible refine (HO.out).mono ?_); rintro e w2 ⟨rfl, hb2⟩; obtain ⟨⟨c0', c1', c2'⟩, ⟨f0', f1', f2'⟩, hbw', hlt'⟩ := box_facts (HB.out.1.trans (hb2.mono HB.out.1.size)); have hvb : VBox w2 w.heap.size V.zero := ((HB.out.1.trans (hb2.mono HB.out.1.size)).block w.heap.size (by simp)).trans (heap_alloc_new w _); have HV := Lib.hid hvb; clear hvb)
        have hX : VBox (((((w2.setCell ⟨w.heap.size, 0, none⟩ (.int .i64 xk)).setCell ⟨w.heap.size, 1, none⟩ (.int .i64 xn)).setCell ⟨w.heap.size, 2, none⟩ (.string xs)).alloc (.cells #[.int .i64 xk, .int .i64 xn, .string xs] 32))) w.heap.size ⟨xk, xn, xs⟩ := (Below.heap_alloc _ _ _ (by simpa using hlt')).trans (vbox_set HV.out ⟨xk, xn, xs⟩)
        obtain ⟨⟨t0, t1, t2⟩, -⟩ := vbox_cells hX
        refine bodyPost_ret (v := .tuple #[.agg #[.int .i64 xk, .int .i64 xn, .string xs], .bool true]) (by simp [results, Try.results31, go_sem, t0, t1, t2]) rfl ⟨?_, ?_⟩
        · rw [HE.out]
          rfl
        · exact (set3 hbw' _ (Nat.le_refl _) _ _ _).alloc (by simp; omega) _
      | none =>
        rw [hlk] at hgs HO
        have HE := Lib.hid (show get L p s = get L t.o.proto s by rw [hg, hgs])
        simp only [ans, V.v, V.zero, Option.getD_none, Option.isSome_none] at HO
        generalize t.o.proto = pr at d1 HE hpr
        clear hr e hg hgs ht hL hlk hB hbw ho
        go_wp2_with (go_at_call 32; (with_reducible refine (HO.out).mono ?_); rintro e w2 ⟨rfl, hb2⟩; have hb3 := hb2.trans ((below_box w2 (.cells #[.int .i64 0, .int .i64 0, .string ⟨#[]⟩] 32)).mono hb2.size); have HB2 := Lib.hid (HB.out.1.trans (hb3.mono HB.out.1.size)); have d0' : (w2.alloc (.cells #[.int .i64 0, .int .i64 0, .string ⟨#[]⟩] 32)).cell? ⟨b, 0, none⟩ = some (.slice (some ⟨g, 0, none⟩) L.length c) := (hb3.cell (p := ⟨b, 0, none⟩) (show b < wr.heap.size by have := HB.out.2.2; omega)).trans d0; have d1' : (w2.alloc (.cells #[.int .i64 0, .int .i64 0, .string ⟨#[]⟩] 32)).cell? ⟨g, n * 6 + 1, none⟩ = some (.int .i64 pr) := (hb3.cell (p := ⟨g, n * 6 + 1, none⟩) (show g < wr.heap.size by have := HB.out.2.2; omega)).trans d1)
        go_roundg (pr + 1).toNat
        case measure => omega
        case rel => exact ⟨pr, rfl, rfl, HB2.out, HE.out⟩
end Go.Proofs.Ytpbbinppikaamaa
