/- gumshoeref07's Put, whole. -/
import Derived.Test.YtpbbinppikaamaaRefPut
namespace Go.Proofs.Ytpbbinppikaamaa
open Go.RowKit Go.Proofs Go.Maps

theorem IsR.more {w : World} {F : Nat → Prop} {b T : Nat} {L : Hp} (h : IsR w F b T L) : IsR w F b (T + 1) L := by
  obtain ⟨⟨v, ths, hh, e⟩, h2⟩ := h
  exact ⟨⟨v, ths, ⟨hh.head, hh.mine, hh.row, hh.rowF, fun i t ht => (hh.th i t ht).more (Nat.le_succ _), hh.thF, hh.apart, hh.lt⟩, e⟩, h2⟩
set_option maxHeartbeats 1000000 in
theorem RPut_any {F : Nat → Prop} {b T : Nat} {L : Hp} (i : Int) (s : ByteArray) (v : V) (w : World) (h : IsR w F b T L) (hT : T ≤ 1000000) :
    Calls Try.prog 30 #[.pointer (some ⟨b, 0, none⟩), .int .i64 i, .string s, v.v] w fun e w' => e = .returned (.int .i64 (putE L i v)) ∧ IsR w' (ext F w w') b (T + 1) (putL L i s v) ∧ Only F w w' := by
  have more : ∀ w', Below w.heap.size w w' → IsR w' (ext F w w') b (T + 1) L ∧ Only F w w' := fun w' hb =>
    ⟨((h.below hb).more).mono (G := ext F w w') (fun _ h => .inl h) (ext_lt h.lt hb.size), Only.of_below hb⟩
  have HM := Lib.hid more
  cases ho : at? L i with
  | none =>
    have hb := (Below.refl w.heap.size w).alloc (Nat.le_refl _) (valO v)
    have HA := Lib.hid (Is_any i _ (h.below hb))
    rw [show isB L i = false by simp [isB, ho]] at HA
    have HR := Lib.hid (And.intro (show putE L i v = 70 by simp [putE, ho]) (show putL L i s v = L by simp [putL, putE, ho]))
    obtain ⟨k, n, t⟩ := v
    simp only [V.v, valO] at HA HR ⊢
    clear h more ho hb
    go_enter Try.func30, Try.ntmps30
    go_wp2_with (go_at_call 34; (with_reducible refine (HA.out).mono ?_); rintro e w' ⟨rfl, rfl⟩)
    go_ret
    rw [HR.out.1, HR.out.2]
    exact ⟨rfl, HM.out _ ((Below.refl _ w).alloc (Nat.le_refl _) _)⟩
  | some o =>
    obtain ⟨n, rfl, hn, hL⟩ := at?_some ho
    cases hok : okPut L v with
    | true =>
      rw [show putE L n v = 0 by simp [putE, ho, hok], show putL L n s v = setO L n s v by simp [putL, putE, ho, hok]]
      obtain ⟨k, m, t⟩ := v
      exact (rput_in n o s k m t w h hL hT hok).mono (fun e w' h => h)
    | false =>
      have hb := (Below.refl w.heap.size w).alloc (Nat.le_refl _) (valO v)
      have HI := Lib.hid (Is_any (n : Int) _ (h.below hb))
      rw [show isB L n = true by simp [isB, ho]] at HI
      have HR := Lib.hid (And.intro (show putE L n v = 2 by simp [putE, ho, hok]) (show putL L n s v = L by simp [putL, putE, ho, hok]))
      obtain ⟨k, m, t⟩ := v
      have HT := Lib.hid (fun w => rright_any k m t w)
      simp only [V.v, valO] at HI HR HT hb ⊢
      have hlt := h.lt
      obtain ⟨⟨u, ths, hh, eL⟩, -⟩ := h
      obtain ⟨A, c, rfl, c0, -⟩ := hh.form
      have hbl : b < w.heap.size := hlt b hh.mine
      have hlen : ths.length = L.length := by rw [eL]; simp
      rw [hlen] at c0
      have HC := Lib.hid (fun (W : World) (hW : Below w.heap.size w W) => ((World.cell?_of_block (a := ⟨b, 0, none⟩) (hW.block b hbl)).trans c0 : W.cell? ⟨b, 0, none⟩ = some (.slice A L.length c)))
      have hcase : rightB k m t = false ∨ (rightB k m t = true ∧ k = 5 ∧ m < 0) ∨ (rightB k m t = true ∧ k = 5 ∧ ¬ m < 0 ∧ (L.length : Int) ≤ m) := by
        cases hr : rightB k m t with
        | false => exact .inl rfl
        | true =>
          unfold okPut at hok
          rw [hr] at hok
          simp at hok
          obtain ⟨h5, hc⟩ := hok
          by_cases hm : m < 0
          · exact .inr (.inl ⟨rfl, h5, hm⟩)
          · exact .inr (.inr ⟨rfl, h5, hm, hc (by omega)⟩)
      clear more ho hb hh hok hL eL hlen c0
      rcases hcase with hr | ⟨hr, rfl, hm⟩ | ⟨hr, rfl, hm, hm2⟩
      · rw [hr] at HT
        clear hr
        go_enter Try.func30, Try.ntmps30
        go_wp2_with fail
        go_at_call 34
        refine (HI.out).mono ?_
        rintro e w' ⟨rfl, rfl⟩
        go_wp2_with fail
        go_at_call 27
        refine (HT.out _).mono ?_
        rintro e W0 ⟨rfl, hb0⟩
        obtain ⟨⟨a0, a1, a2⟩, -, hbw, hltb⟩ := box_facts hb0
        have HB := Lib.hid hbw
        clear hb0 hbw
        go_wp2_with fail
        go_quiet (fail)
        go_wp2
        go_ret
        rw [HR.out.1, HR.out.2]
        exact ⟨rfl, HM.out _ (below_drewN HB.out _)⟩
      · rw [hr] at HT
        have d1 : decide (m < 0) = true := decide_eq_true hm
        clear hr
        go_enter Try.func30, Try.ntmps30
        go_wp2_with fail
        go_at_call 34
        refine (HI.out).mono ?_
        rintro e w' ⟨rfl, rfl⟩
        go_wp2_with fail
        go_at_call 27
        refine (HT.out _).mono ?_
        rintro e W0 ⟨rfl, hb0⟩
        obtain ⟨⟨a0, a1, a2⟩, -, hbw, hltb⟩ := box_facts hb0
        have HB := Lib.hid hbw
        clear hb0 hbw
        go_wp2_with fail
        go_quiet (fail)
        go_wp2
        go_ret
        rw [HR.out.1, HR.out.2]
        exact ⟨rfl, HM.out _ (below_drewN HB.out _)⟩
      · rw [hr] at HT
        have d1 : decide (m < 0) = false := decide_eq_false hm
        have d2 : decide ((L.length : Int) ≤ m) = true := decide_eq_true hm2
        clear hr
        go_enter Try.func30, Try.ntmps30
        go_wp2_with fail
        go_at_call 34
        refine (HI.out).mono ?_
        rintro e w' ⟨rfl, rfl⟩
        go_wp2_with fail
        go_at_call 27
        refine (HT.out _).mono ?_
        rintro e W0 ⟨rfl, hb0⟩
        obtain ⟨⟨a0, a1, a2⟩, -, hbw, hltb⟩ := box_facts hb0
        have c0 := HC.out W0 hbw
        have HB := Lib.hid hbw
        clear hb0 hbw
        go_wp2_with fail
        go_quiet (fail)
        go_wp2
        go_ret
        rw [HR.out.1, HR.out.2]
        exact ⟨rfl, HM.out _ (below_drewN HB.out _)⟩
end Go.Proofs.Ytpbbinppikaamaa
