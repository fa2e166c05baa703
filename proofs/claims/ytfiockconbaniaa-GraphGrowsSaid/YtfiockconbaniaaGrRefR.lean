/- gumshoeref15.Reached. -/
import Derived.Test.YtfiockconbaniaaGrRefE
import Derived.Deep.LoopGhost
namespace Go.Proofs.Ytfiockconbaniaa
set_option linter.unusedSimpArgs false
set_option linter.unusedVariables false
open Go.RowKit Go.Proofs

theorem up_len : ∀ (a l : List Int), upI a → (∀ x ∈ a, x ∈ l) → a.length ≤ l.length
  | [], _, _, _ => Nat.zero_le _
  | x :: r, l, h, hs => by
    rw [upI, List.pairwise_cons] at h
    obtain ⟨s, t, rfl⟩ := List.append_of_mem (hs x List.mem_cons_self)
    have := up_len r (s ++ t) h.2 fun y hy => by
      have h1 := hs y (List.mem_cons_of_mem _ hy)
      have h2 := h.1 y hy
      rw [List.mem_append, List.mem_cons] at h1
      rw [List.mem_append]
      rcases h1 with h1 | h1 | h1
      · exact .inl h1
      · omega
      · exact .inr h1
    simp at this ⊢
    omega
abbrev prE (l : List Ed) : List (Int × Int) := l.map fun e => (e.fr, e.to)
/-- A set on its way. -/
structure RI (E : List (Int × Int)) (cur : List Int) : Prop where
  up : upI cur
  zero : (0 : Int) ∈ cur
  sound : ∀ x ∈ cur, ReachI E x
theorem RI.start (E : List (Int × Int)) : RI E [0] := ⟨by simp [upI], by simp, fun x hx => by
  obtain rfl := List.mem_singleton.1 hx
  exact .zero⟩
theorem reach_to {E : List (Int × Int)} {x : Int} (h : ReachI E x) : x ∈ 0 :: E.map (·.2) := by
  cases h with
  | zero => exact List.mem_cons_self
  | step a b he _ => exact List.mem_cons_of_mem _ (List.mem_map.2 ⟨_, he, rfl⟩)
theorem RI.len {E : List (Int × Int)} {cur : List Int} (h : RI E cur) : cur.length ≤ E.length + 1 := by
  have := up_len cur (0 :: E.map (·.2)) h.up fun x hx => reach_to (h.sound x hx)
  simpa using this
theorem RI.ins {E : List (Int × Int)} {cur : List Int} (h : RI E cur) {e : Int × Int} (he : e ∈ E) (h1 : e.1 ∈ cur) : RI E (insI e.2 cur) :=
  ⟨up_insI _ _ h.up, (mem_insI _ _ _).2 (.inr h.zero), fun x hx => by
    rcases (mem_insI _ _ _).1 hx with rfl | hx
    · exact .step e.1 e.2 he (h.sound _ h1)
    · exact h.sound x hx⟩
/-- Amid a pass. -/
structure Pass (E : List (Int × Int)) (cur0 : List Int) (k : Nat) (cur : List Int) (more : Bool) : Prop where
  ri : RI E cur
  no : more = false → cur = cur0 ∧ ∀ e ∈ E.take k, e.1 ∈ cur → e.2 ∈ cur
  yes : more = true → outI E cur < outI E cur0
theorem Pass.start {E : List (Int × Int)} {cur : List Int} (h : RI E cur) : Pass E cur 0 cur false := ⟨h, fun _ => ⟨rfl, fun e he => by simp at he⟩, fun h => by cases h⟩
theorem Pass.next {E : List (Int × Int)} {cur0 cur : List Int} {k : Nat} {more : Bool} (h : Pass E cur0 k cur more) {e : Int × Int} (he : E[k]? = some e) (hc : ¬ (e.1 ∈ cur ∧ e.2 ∉ cur)) : Pass E cur0 (k + 1) cur more :=
  ⟨h.ri, fun hm => ⟨(h.no hm).1, fun x hx hx1 => by
    rw [take_at he, List.mem_append, List.mem_singleton] at hx
    rcases hx with hx | rfl
    · exact (h.no hm).2 x hx hx1
    · exact Classical.byContradiction fun h2 => hc ⟨hx1, h2⟩⟩, h.yes⟩
theorem Pass.put {E : List (Int × Int)} {cur0 cur : List Int} {k : Nat} {more : Bool} (h : Pass E cur0 k cur more) {e : Int × Int} (he : E[k]? = some e) (h1 : e.1 ∈ cur) (h2 : e.2 ∉ cur) : Pass E cur0 (k + 1) (insI e.2 cur) true :=
  ⟨h.ri.ins (List.mem_of_getElem? he) h1, fun hm => (by cases hm), fun _ => by
    have h3 := outI_less (E := E) (l := cur) (l' := insI e.2 cur) (fun x hx => (mem_insI _ _ _).2 (.inr hx)) (List.mem_of_getElem? he) h2 ((mem_insI _ _ _).2 (.inl rfl))
    cases hm : more with
    | true => have := h.yes hm; omega
    | false => rw [← (h.no hm).1]; exact h3⟩
theorem Pass.done {E : List (Int × Int)} {cur0 cur : List Int} (h : Pass E cur0 E.length cur false) : IsReach E cur :=
  reach_closed h.ri.up h.ri.zero h.ri.sound fun e he h1 => (h.no rfl).2 e (by rwa [List.take_length]) h1
/-- What edges reach, as the document reckons it. -/
theorem reach_exists_len {E : List (Int × Int)} {cur : List Int} (h : RI E cur) (hE : E.length ≤ 1000) : cur.length ≤ 100000 := by
  have := h.len
  omega
set_option maxHeartbeats 4000000 in
theorem rreached_any (A : Option Addr) (n c : Nat) (l : List Ed) (w : World) (hr : Edges9 w (.slice A n c) l) (hn : n ≤ 1000) :
    Calls Try.prog 16 #[.slice A n c] w fun e w' => ∃ v, e = .returned v ∧ ∃ cur, OutI w w' v cur ∧ IsReach (prE l) cur := by
  obtain ⟨hnl, hnc, hcm, -⟩ := SlAt.get hr
  have hcx : c ≤ 9223372036854775807 := hcm
  have HL := Lib.hid hnl.symm
  obtain ⟨E, hE⟩ : ∃ E, prE l = E := ⟨_, rfl⟩
  have HEl := Lib.hid (show E.length ≤ 1000 by rw [← hE, List.length_map]; omega)
  have HE := Lib.hid hE
  rw [hE]
  clear hnl hcm hE
  go_enter Try.func16, Try.ntmps16
  go_wp2
  go_loopg [3, 4] (E.length + 1) (fun gn s3 s4 wr => ∃ (cur : List Int) (more : Bool), s4 = .bool more ∧ RowKit.Hid (OutI w wr s3 cur ∧ RI E cur ∧ (more = false → IsReach E cur) ∧ outI E cur + (if more then 1 else 0) ≤ gn))
  case atStart =>
    refine ⟨[0], true, rfl, Lib.hid ⟨⟨?_, (Below.refl _ w).alloc (Nat.le_refl _) _⟩, RI.start E, fun h => (by cases h), ?_⟩⟩
    · exact (OwnR.lit IntP.cells (w0 := w) w [.int .i64 0] 0 ⟨rfl, by unfold I64; omega⟩).at_ IntP.cells IntP.keeps ((Below.refl _ w).alloc (Nat.le_refl _) _)
    · have : outI E [0] ≤ E.length := List.length_filter_le _ _
      simp; omega
  case round =>
    obtain ⟨cur, more, rfl, HH⟩ := hrel
    obtain ⟨A3, c3, rfl⟩ := HH.out.1.at_.form
    cases more with
    | false =>
      go_wp2
      go_ret
      exact ⟨_, rfl, cur, HH.out.1, by simpa using HH.out.2.2.1⟩
    | true =>
      go_wp2
      go_loopw [3, 4, 5] (fun s3 s4 i wq => ∃ (k : Nat) (cur' : List Int) (more' : Bool), k ≤ n ∧ i = .int .i64 k ∧ s4 = .bool more' ∧ RowKit.Hid (OutI w wq s3 cur' ∧ Pass E cur k cur' more')) (fun _ _ i _ => n - (intOf i).toNat)
      case atStart => exact ⟨0, cur, false, Nat.zero_le _, rfl, rfl, Lib.hid ⟨HH.out.1, Pass.start HH.out.2.1⟩⟩
      case round =>
        obtain ⟨k, cur', more', hk, rfl, rfl, HP⟩ := hrel
        obtain ⟨A4, c4, rfl⟩ := HP.out.1.at_.form
        by_cases hlt : k < n
        · obtain ⟨g, off, f, rfl, hg, hz, ⟨hb1, hb2, hb3⟩, hc0, hc1, hc2⟩ := ed_get hr k hlt
          have x0 := (HP.out.1.below.cell (p := ⟨g, off + k * 3, none⟩) hg).trans hc0
          have x2 := (HP.out.1.below.cell (p := ⟨g, off + k * 3 + 2, none⟩) hg).trans hc2
          have H1 := Lib.hid (has_any A4 _ c4 cur' f.fr wr HP.out.1.at_)
          have H2 := Lib.hid (has_any A4 _ c4 cur' f.to wr HP.out.1.at_)
          have HW := Lib.hid (with_any A4 _ c4 cur' f.to wr HP.out.1.at_ hb3 HP.out.2.ri.up (reach_exists_len HP.out.2.ri HEl.out))
          have HZ := Lib.hid (show E[k]? = some (f.fr, f.to) by rw [← HE.out, List.getElem?_map, hz]; rfl)
          clear hz
          by_cases m1 : f.fr ∈ cur'
          · by_cases m2 : f.to ∈ cur'
            · have HM := Lib.hid (And.intro m1 m2)
              rw [decide_eq_true m1] at H1
              rw [decide_eq_true m2] at H2
              clear m1 m2 HW
              go_wp2_with fail
              go_at_call 23
              (with_reducible refine (H1.out).mono ?_)
              rintro e w' ⟨rfl, rfl⟩
              go_wp2_with fail
              go_at_call 23
              (with_reducible refine (H2.out).mono ?_)
              rintro e w' ⟨rfl, rfl⟩
              go_wp2
              go_roundw
              case rel => exact ⟨k + 1, cur', more', by omega, by go_num, rfl, Lib.hid ⟨HP.out.1, HP.out.2.next HZ.out (fun h => h.2 HM.out.2)⟩⟩
              case measure => simp [intOf]; omega
            · have HM := Lib.hid (And.intro m1 m2)
              rw [decide_eq_true m1] at H1
              rw [decide_eq_false m2] at H2
              clear m1 m2
              go_wp2_with fail
              go_at_call 23
              (with_reducible refine (H1.out).mono ?_)
              rintro e w' ⟨rfl, rfl⟩
              go_wp2_with fail
              go_at_call 23
              (with_reducible refine (H2.out).mono ?_)
              rintro e w' ⟨rfl, rfl⟩
              go_wp2_with fail
              go_at_call 39
              (with_reducible refine (HW.out).mono ?_)
              rintro e w7 ⟨v7, rfl, h1, h2⟩
              have M7 := Lib.hid (And.intro h1 h2)
              clear h1 h2
              go_wp2
              go_roundw
              case rel => exact ⟨k + 1, insI f.to cur', true, by omega, by go_num, rfl, Lib.hid ⟨⟨M7.out.1.at_ IntP.cells IntP.keeps M7.out.2, HP.out.1.below.trans (M7.out.2.mono HP.out.1.below.size)⟩, HP.out.2.put HZ.out HM.out.1 HM.out.2⟩⟩
              case measure => simp [intOf]; omega
          · have HM := Lib.hid m1
            rw [decide_eq_false m1] at H1
            obtain ⟨b2, hb2'⟩ : ∃ b, decide (f.to ∈ cur') = b := ⟨_, rfl⟩
            rw [hb2'] at H2
            clear m1 HW hb2'
            go_wp2_with fail
            go_at_call 23
            (with_reducible refine (H1.out).mono ?_)
            rintro e w' ⟨rfl, rfl⟩
            go_wp2_with fail
            go_at_call 23
            (with_reducible refine (H2.out).mono ?_)
            rintro e w' ⟨rfl, rfl⟩
            go_wp2
            go_roundw
            case rel => exact ⟨k + 1, cur', more', by omega, by go_num, rfl, Lib.hid ⟨HP.out.1, HP.out.2.next HZ.out (fun h => HM.out h.1)⟩⟩
            case measure => simp [intOf]; omega
        · obtain rfl : k = n := by omega
          go_wp2
          go_roundg (outI E cur' + (if more' then 1 else 0))
          case measure =>
            have h1 := HH.out.2.2.2
            simp at h1
            cases more' with
            | true => have := HP.out.2.yes rfl; simp; omega
            | false => rw [(HP.out.2.no rfl).1]; simp; omega
          case rel =>
            refine ⟨cur', more', rfl, Lib.hid ⟨HP.out.1, HP.out.2.ri, fun hm => ?_, Nat.le_refl _⟩⟩
            subst hm
            have h2 := HP.out.2
            have h3 : E.length = k := by rw [← HE.out, List.length_map]; exact HL.out
            rw [← h3] at h2
            exact h2.done
end Go.Proofs.Ytfiockconbaniaa
