/- Texts read back: statements; unlike trees have unlike texts. No program. -/
import Derived.Test.YtiejpenffpjmeaaDoorRead3
namespace Go.Proofs.YtiejpenffpjmeaaDoor
set_option linter.unusedSimpArgs false
set_option linter.unusedVariables false

/-! ### how texts begin -/
def sane (t : Tr) : Prop := ∀ y ∈ t.flat, soundOne y = true
theorem sane_part : ∀ {l : List Tr} {y : Tr}, y ∈ l → ∀ z ∈ y.flat, z ∈ flats l
  | a :: r, y, h, z, hz => by
    rw [flats_cons, List.mem_append]
    rcases List.mem_cons.1 h with rfl | h
    · exact .inl hz
    · exact .inr (sane_part h z hz)
theorem sane.part {t y : Tr} (h : sane t) (hy : y ∈ t.l) : sane y := fun z hz => h z (by rw [flat_eq]; exact List.mem_cons_of_mem _ (sane_part hy z hz))
theorem sane.self {t : Tr} (h : sane t) : soundOne t = true := h t (by rw [flat_eq]; exact List.mem_cons_self)

theorem front_word {w : Bs} (h0 : w ≠ []) (h1 : ∀ c ∈ w, nameB c = true) (h2 : w ∉ kwL) : Front w := .inr ⟨w, [], by simp, h0, h1, h2, fun c q h => by cases h⟩
theorem front_p (q : Bs) : Front (40 :: q) := .inl ⟨q, .inr rfl⟩
theorem front_q (s q : Bs) : Front (quoteL s ++ q) := .inl ⟨s.flatMap quoteB ++ 34 :: q, .inl (quote_split s q)⟩
theorem isE_iff (t : Tr) : isE t ↔ 1 ≤ t.op ∧ t.op ≤ 23 ∧ t.op ≠ 12 := by
  unfold isE hasB
  simp
theorem isS_iff (t : Tr) : isS t ↔ 30 ≤ t.op ∧ t.op ≤ 41 := by
  unfold isS hasB
  simp

theorem front_txt (k : Nat) (t : Tr) : sane t → 1 ≤ t.op → t.op ≤ 23 → Front (t.txt k) := by
  induction t using tree_ind with
  | h t ih =>
    intro hs h1 h2
    have hg := hs.self
    have ih' : ∀ a, a ∈ t.l → isE a → Front (a.txt k) := fun a ha he => ih a (size_part ha) (hs.part ha) ((isE_iff a).1 he).1 ((isE_iff a).1 he).2.1
    obtain ⟨o, s, n, i, l⟩ := t
    simp only [Tr.op_mk] at h1 h2
    rw [txt_mk k (o := o) (by omega)]
    have : o = 1 ∨ o = 2 ∨ o = 3 ∨ o = 4 ∨ o = 5 ∨ o = 6 ∨ o = 7 ∨ o = 8 ∨ o = 9 ∨ o = 10 ∨ o = 11 ∨ o = 12 ∨ o = 13 ∨ o = 14 ∨ o = 15 ∨ o = 16 ∨ o = 17 ∨ o = 18 ∨ o = 19 ∨ o = 20 ∨ o = 21 ∨ o = 22 ∨ o = 23 := by omega
    rcases this with rfl | rfl | rfl | rfl | rfl | rfl | rfl | rfl | rfl | rfl | rfl | rfl | rfl | rfl | rfl | rfl | rfl | rfl | rfl | rfl | rfl | rfl | rfl
    · have := name_of ((inv_1 rfl).1 hg).1
      exact front_word this.1 this.2.1 this.2.2.1
    · have := dec_of n.toNat
      exact front_word this.1 this.2.1 this.2.2.1
    · have := front_q s []
      rw [List.append_nil] at this
      exact this
    · exact front_word (w := [116, 114, 117, 101]) (by decide) (by decide) (by decide)
    · exact front_word (w := [102, 97, 108, 115, 101]) (by decide) (by decide) (by decide)
    · exact front_word (w := [110, 117, 108, 108]) (by decide) (by decide) (by decide)
    · exact front_word (w := [117, 110, 100, 101, 102, 105, 110, 101, 100]) (by decide) (by decide) (by decide)
    · exact front_word (w := [116, 104, 105, 115]) (by decide) (by decide) (by decide)
    · exact front_word (w := [105, 110, 112, 117, 116]) (by decide) (by decide) (by decide)
    · exact front_p _
    · exact front_p _
    · exact front_q _ _
    · obtain ⟨hw, -, a, rfl, ha⟩ := (inv_13 rfl).1 hg
      show Front (if a.op = 2 then [40] ++ (a.txt k ++ ([41, 46] ++ s)) else a.txt k ++ ([46] ++ s))
      split
      · exact front_p _
      · exact (ih' a (by simp) ha).app (ends_lit (by decide))
    · obtain ⟨-, -, a, b, rfl, ha, hb⟩ := (inv_14 rfl).1 hg
      exact (ih' a (by simp) ha).app (ends_lit (by decide))
    · obtain ⟨-, -, -, a, r, rfl, ha⟩ := (inv_15 rfl).1 hg
      exact (ih' a (by simp) (ha a (by simp))).app (ends_lit (by decide))
    · show Front ((if op0 l = 1 then [40, 110, 101, 119, 32] ++ at_ (l.map (Tr.txt k)) 0 else [40, 110, 101, 119, 32, 40] ++ (at_ (l.map (Tr.txt k)) 0 ++ [41])) ++ ([40] ++ (commas ((l.map (Tr.txt k)).drop 1) ++ [41, 41])))
      split <;> exact front_p _
    · exact front_p _
    · exact front_p _
    · exact front_p _
    · exact front_p _
    · exact front_p _
    · exact front_p _
    · exact front_p _

/-! ### statements -/
theorem run_lit {w : Bs} {c : UInt8} {q : Bs} (h : (w.all nameB && !(nameB c || c == 58)) = true) : runR (w ++ c :: q) = w ∧ pastR (w ++ c :: q) = c :: q := by
  rw [Bool.and_eq_true, List.all_eq_true, Bool.not_eq_true'] at h
  exact run_app h.1 (ends_lit h.2)
theorem s_30n {k : Nat} {s : Bs} {i : Int} (h : isNameL s = true) : SOK k (.mk 30 s 0 i []) := by
  refine ⟨1, fun F r hF => ?_⟩
  obtain ⟨f, rfl, hf⟩ := succ_of (c := 0) hF
  rw [txt_mk k (o := 30) (by decide), norm0]
  have e : form (Int.toNat 30) s 0 (op0 []) (([] : List Tr).map (Tr.txt k)) ++ 10 :: r = [118, 97, 114] ++ 32 :: (s ++ 59 :: 10 :: r) := by
    show ([118, 97, 114, 32] ++ (s ++ ([] ++ [59]))) ++ 10 :: r = _
    simp
  obtain ⟨h1, h2⟩ := run_lit (w := [118, 97, 114]) (c := 32) (q := s ++ 59 :: 10 :: r) (by decide)
  obtain ⟨h3, h4⟩ := run_app (w := s) (r := 59 :: 10 :: r) (name_of h).2.1 (ends_lit (by decide))
  rw [e, rdS, if_neg (by simp), h1, h2, if_pos (by rfl), show (32 :: (s ++ 59 :: 10 :: r)).drop 1 = s ++ 59 :: 10 :: r from rfl, h3, h4, show (59 :: 10 :: r : Bs) = [59] ++ 10 :: r from rfl, pre_app]
theorem s_30 {k : Nat} {s : Bs} {i : Int} {a : Tr} (h : isNameL s = true) (ha : XOK k a) : SOK k (.mk 30 s 0 i [a]) := by
  obtain ⟨c, hc⟩ := ha
  refine ⟨c + 1, fun F r hF => ?_⟩
  obtain ⟨f, rfl, hf⟩ := succ_of hF
  rw [txt_mk k (o := 30) (by decide), norm1]
  have e : form (Int.toNat 30) s 0 (op0 [a]) ([a].map (Tr.txt k)) ++ 10 :: r = [118, 97, 114] ++ 32 :: (s ++ 32 :: 61 :: 32 :: (a.txt k ++ ([59] ++ 10 :: r))) := by
    show ([118, 97, 114, 32] ++ (s ++ (([32, 61, 32] ++ a.txt k) ++ [59]))) ++ 10 :: r = _
    simp
  obtain ⟨h1, h2⟩ := run_lit (w := [118, 97, 114]) (c := 32) (q := s ++ 32 :: 61 :: 32 :: (a.txt k ++ ([59] ++ 10 :: r))) (by decide)
  obtain ⟨h3, h4⟩ := run_app (w := s) (r := 32 :: 61 :: 32 :: (a.txt k ++ ([59] ++ 10 :: r))) (name_of h).2.1 (ends_lit (by decide))
  rw [e, rdS, if_neg (by simp), h1, h2, if_pos (by rfl), show (32 :: (s ++ 32 :: 61 :: 32 :: (a.txt k ++ ([59] ++ 10 :: r)))).drop 1 = s ++ 32 :: 61 :: 32 :: (a.txt k ++ ([59] ++ 10 :: r)) from rfl, h3, h4,
    pre_none (p := [59]) (by simp [List.isPrefixOf])]
  dsimp only
  rw [show (32 :: 61 :: 32 :: (a.txt k ++ ([59] ++ 10 :: r)) : Bs) = [32, 61, 32] ++ (a.txt k ++ ([59] ++ 10 :: r)) from rfl, pre_app, Option.bind_some,
    hc f _ hf (by exact ends_lit (by decide)) (by exact noTail_lit (by decide)), Option.bind_some, pre_app, Option.bind_some]
theorem s_31 {k : Nat} {i : Int} {a : Tr} (ha : XOK k a) (hf : Front (a.txt k)) : SOK k (.mk 31 [] 0 i [a]) := by
  obtain ⟨c, hc⟩ := ha
  refine ⟨c + 1, fun F r hF => ?_⟩
  obtain ⟨f, rfl, hf'⟩ := succ_of hF
  rw [txt_mk k (o := 31) (by decide), norm1]
  have e : form (Int.toNat 31) [] 0 (op0 [a]) ([a].map (Tr.txt k)) ++ 10 :: r = a.txt k ++ ([59] ++ 10 :: r) := by
    show (a.txt k ++ [59]) ++ 10 :: r = _
    simp
  have hF2 : Front (a.txt k ++ ([59] ++ 10 :: r)) := hf.app (ends_lit (by decide))
  rw [e, rdS, if_neg (hF2.head 123 (by decide)), if_neg (hF2.ne (by decide)), if_neg (hF2.ne (by decide)), if_neg (hF2.ne (by decide)), if_neg (hF2.ne (by decide)), if_neg (hF2.ne (by decide)), if_neg (hF2.ne (by decide)), if_neg (hF2.ne (by decide)), if_neg (hF2.ne (by decide)), if_neg (hF2.ne (by decide)), if_neg (hF2.ne (by decide)),
    hc f _ hf' (by exact ends_lit (by decide)) (by exact noTail_lit (by decide)), Option.bind_some, pre_app, Option.bind_some]
theorem s_33a {k : Nat} {i : Int} {a b : Tr} (ha : XOK k a) (hb : BOK k b) : SOK k (.mk 33 [] 0 i [a, b]) := by
  obtain ⟨c, hc⟩ := ha
  obtain ⟨d, hd⟩ := hb
  refine ⟨c + d + 1, fun F r hF => ?_⟩
  obtain ⟨f, rfl, hf⟩ := succ_of hF
  rw [txt_mk k (o := 33) (by decide), norm2]
  have e : form (Int.toNat 33) [] 0 (op0 [a, b]) ([a, b].map (Tr.txt k)) ++ 10 :: r = [105, 102] ++ 32 :: (40 :: (a.txt k ++ ([41, 32] ++ (b.txt k ++ 10 :: r)))) := by
    show ([105, 102, 32, 40] ++ (a.txt k ++ ([41, 32] ++ (b.txt k ++ (if 2 < [a.txt k, b.txt k].length then [32, 101, 108, 115, 101, 32] ++ at_ [a.txt k, b.txt k] 2 else []))))) ++ 10 :: r = _
    simp
  obtain ⟨h1, h2⟩ := run_lit (w := [105, 102]) (c := 32) (q := 40 :: (a.txt k ++ ([41, 32] ++ (b.txt k ++ 10 :: r)))) (by decide)
  rw [e, rdS, if_neg (by simp), h1, h2, if_neg (by decide), if_pos (by rfl),
    show (32 :: 40 :: (a.txt k ++ ([41, 32] ++ (b.txt k ++ 10 :: r))) : Bs) = [32, 40] ++ (a.txt k ++ ([41, 32] ++ (b.txt k ++ 10 :: r))) from rfl, pre_app, Option.bind_some,
    hc f _ (by omega) (by exact ends_lit (by decide)) (by exact noTail_lit (by decide)), Option.bind_some, pre_app, Option.bind_some, hd f _ (by omega), Option.bind_some]
  simp only [pre_none (p := [32, 101, 108, 115, 101, 32]) (b := 10 :: r) (by simp [List.isPrefixOf])]
theorem s_33b {k : Nat} {i : Int} {a b x : Tr} (ha : XOK k a) (hb : BOK k b) (hx : BOK k x) : SOK k (.mk 33 [] 0 i [a, b, x]) := by
  obtain ⟨c, hc⟩ := ha
  obtain ⟨d, hd⟩ := hb
  obtain ⟨g, hg⟩ := hx
  refine ⟨c + d + g + 1, fun F r hF => ?_⟩
  obtain ⟨f, rfl, hf⟩ := succ_of hF
  rw [txt_mk k (o := 33) (by decide), norm3]
  have e : form (Int.toNat 33) [] 0 (op0 [a, b, x]) ([a, b, x].map (Tr.txt k)) ++ 10 :: r = [105, 102] ++ 32 :: (40 :: (a.txt k ++ ([41, 32] ++ (b.txt k ++ ([32, 101, 108, 115, 101, 32] ++ (x.txt k ++ 10 :: r)))))) := by
    show ([105, 102, 32, 40] ++ (a.txt k ++ ([41, 32] ++ (b.txt k ++ (if 2 < [a.txt k, b.txt k, x.txt k].length then [32, 101, 108, 115, 101, 32] ++ at_ [a.txt k, b.txt k, x.txt k] 2 else []))))) ++ 10 :: r = _
    rw [if_pos (by simp), show at_ [a.txt k, b.txt k, x.txt k] 2 = x.txt k from rfl]
    simp
  obtain ⟨h1, h2⟩ := run_lit (w := [105, 102]) (c := 32) (q := 40 :: (a.txt k ++ ([41, 32] ++ (b.txt k ++ ([32, 101, 108, 115, 101, 32] ++ (x.txt k ++ 10 :: r)))))) (by decide)
  rw [e, rdS, if_neg (by simp), h1, h2, if_neg (by decide), if_pos (by rfl),
    show (32 :: 40 :: (a.txt k ++ ([41, 32] ++ (b.txt k ++ ([32, 101, 108, 115, 101, 32] ++ (x.txt k ++ 10 :: r))))) : Bs) = [32, 40] ++ (a.txt k ++ ([41, 32] ++ (b.txt k ++ ([32, 101, 108, 115, 101, 32] ++ (x.txt k ++ 10 :: r))))) from rfl, pre_app, Option.bind_some,
    hc f _ (by omega) (by exact ends_lit (by decide)) (by exact noTail_lit (by decide)), Option.bind_some, pre_app, Option.bind_some, hd f _ (by omega), Option.bind_some]
  simp only [pre_app]
  rw [hg f _ (by omega), Option.bind_some]
theorem s_34 {k : Nat} {i : Int} {a b : Tr} (ha : XOK k a) (hb : BOK k b) : SOK k (.mk 34 [] 0 i [a, b]) := by
  obtain ⟨c, hc⟩ := ha
  obtain ⟨d, hd⟩ := hb
  refine ⟨c + d + 1, fun F r hF => ?_⟩
  obtain ⟨f, rfl, hf⟩ := succ_of hF
  rw [txt_mk k (o := 34) (by decide), norm2]
  have e : form (Int.toNat 34) [] 0 (op0 [a, b]) ([a, b].map (Tr.txt k)) ++ 10 :: r = [119, 104, 105, 108, 101] ++ 32 :: (40 :: (a.txt k ++ ([41, 32] ++ (b.txt k ++ 10 :: r)))) := by
    show ([119, 104, 105, 108, 101, 32, 40] ++ (a.txt k ++ ([41, 32] ++ b.txt k))) ++ 10 :: r = _
    simp
  obtain ⟨h1, h2⟩ := run_lit (w := [119, 104, 105, 108, 101]) (c := 32) (q := 40 :: (a.txt k ++ ([41, 32] ++ (b.txt k ++ 10 :: r)))) (by decide)
  rw [e, rdS, if_neg (by simp), h1, h2, if_neg (by decide), if_neg (by decide), if_pos (by rfl),
    show (32 :: 40 :: (a.txt k ++ ([41, 32] ++ (b.txt k ++ 10 :: r))) : Bs) = [32, 40] ++ (a.txt k ++ ([41, 32] ++ (b.txt k ++ 10 :: r))) from rfl, pre_app, Option.bind_some,
    hc f _ (by omega) (by exact ends_lit (by decide)) (by exact noTail_lit (by decide)), Option.bind_some, pre_app, Option.bind_some, hd f _ (by omega), Option.bind_some]
theorem s_35 {k : Nat} {s : Bs} {i : Int} {a b : Tr} (h : isNameL s = true) (ha : XOK k a) (hb : BOK k b) : SOK k (.mk 35 s 0 i [a, b]) := by
  obtain ⟨c, hc⟩ := ha
  obtain ⟨d, hd⟩ := hb
  refine ⟨c + d + 1, fun F r hF => ?_⟩
  obtain ⟨f, rfl, hf⟩ := succ_of hF
  rw [txt_mk k (o := 35) (by decide), norm2]
  obtain ⟨R, hR⟩ : ∃ R, R = a.txt k ++ ([41, 32] ++ (b.txt k ++ 10 :: r)) := ⟨_, rfl⟩
  have e : form (Int.toNat 35) s 0 (op0 [a, b]) ([a, b].map (Tr.txt k)) ++ 10 :: r = [102, 111, 114] ++ 32 :: (40 :: 118 :: 97 :: 114 :: 32 :: (s ++ 32 :: (105 :: 110 :: 32 :: R))) := by
    rw [hR]
    show ([102, 111, 114, 32, 40, 118, 97, 114, 32] ++ (s ++ ([32, 105, 110, 32] ++ (a.txt k ++ ([41, 32] ++ b.txt k))))) ++ 10 :: r = _
    simp
  obtain ⟨h1, h2⟩ := run_lit (w := [102, 111, 114]) (c := 32) (q := 40 :: 118 :: 97 :: 114 :: 32 :: (s ++ 32 :: (105 :: 110 :: 32 :: R))) (by decide)
  obtain ⟨h3, h4⟩ := run_app (w := s) (r := 32 :: (105 :: 110 :: 32 :: R)) (name_of h).2.1 (ends_lit (by decide))
  rw [e, rdS, if_neg (by simp), h1, h2, if_neg (by decide), if_neg (by decide), if_neg (by decide), if_pos (by rfl),
    show (32 :: 40 :: 118 :: 97 :: 114 :: 32 :: (s ++ 32 :: (105 :: 110 :: 32 :: R)) : Bs) = [32, 40, 118, 97, 114, 32] ++ (s ++ 32 :: (105 :: 110 :: 32 :: R)) from rfl, pre_app, Option.bind_some, h3, h4,
    show (32 :: (105 :: 110 :: 32 :: R) : Bs) = [32, 105, 110, 32] ++ R from rfl, pre_app, Option.bind_some, hR,
    hc f _ (by omega) (by exact ends_lit (by decide)) (by exact noTail_lit (by decide)), Option.bind_some, pre_app, Option.bind_some, hd f _ (by omega), Option.bind_some]
theorem s_36n {k : Nat} {i : Int} : SOK k (.mk 36 [] 0 i []) := by
  refine ⟨1, fun F r hF => ?_⟩
  obtain ⟨f, rfl, hf⟩ := succ_of (c := 0) hF
  rw [txt_mk k (o := 36) (by decide), norm0]
  obtain ⟨h1, h2⟩ := run_lit (w := [114, 101, 116, 117, 114, 110]) (c := 59) (q := 10 :: r) (by decide)
  rw [show form (Int.toNat 36) [] 0 (op0 []) (([] : List Tr).map (Tr.txt k)) ++ 10 :: r = [114, 101, 116, 117, 114, 110] ++ 59 :: 10 :: r from rfl, rdS, if_neg (by simp), h1, h2, if_neg (by decide), if_neg (by decide), if_neg (by decide), if_neg (by decide), if_pos (by rfl),
    show (59 :: 10 :: r : Bs) = [59] ++ 10 :: r from rfl, pre_app]
theorem s_36 {k : Nat} {i : Int} {a : Tr} (ha : XOK k a) : SOK k (.mk 36 [] 0 i [a]) := by
  obtain ⟨c, hc⟩ := ha
  refine ⟨c + 1, fun F r hF => ?_⟩
  obtain ⟨f, rfl, hf⟩ := succ_of hF
  rw [txt_mk k (o := 36) (by decide), norm1]
  have e : form (Int.toNat 36) [] 0 (op0 [a]) ([a].map (Tr.txt k)) ++ 10 :: r = [114, 101, 116, 117, 114, 110] ++ 32 :: (a.txt k ++ ([59] ++ 10 :: r)) := by
    show ([114, 101, 116, 117, 114, 110] ++ (([32] ++ a.txt k) ++ [59])) ++ 10 :: r = _
    simp
  obtain ⟨h1, h2⟩ := run_lit (w := [114, 101, 116, 117, 114, 110]) (c := 32) (q := a.txt k ++ ([59] ++ 10 :: r)) (by decide)
  rw [e, rdS, if_neg (by simp), h1, h2, if_neg (by decide), if_neg (by decide), if_neg (by decide), if_neg (by decide), if_pos (by rfl), pre_none (p := [59]) (by simp [List.isPrefixOf])]
  dsimp only
  rw [show (32 :: (a.txt k ++ ([59] ++ 10 :: r)) : Bs) = [32] ++ (a.txt k ++ ([59] ++ 10 :: r)) from rfl, pre_app, Option.bind_some,
    hc f _ hf (by exact ends_lit (by decide)) (by exact noTail_lit (by decide)), Option.bind_some, pre_app, Option.bind_some]
theorem s_37 {k : Nat} {i : Int} {a : Tr} (ha : XOK k a) : SOK k (.mk 37 [] 0 i [a]) := by
  obtain ⟨c, hc⟩ := ha
  refine ⟨c + 1, fun F r hF => ?_⟩
  obtain ⟨f, rfl, hf⟩ := succ_of hF
  rw [txt_mk k (o := 37) (by decide), norm1]
  have e : form (Int.toNat 37) [] 0 (op0 [a]) ([a].map (Tr.txt k)) ++ 10 :: r = [116, 104, 114, 111, 119] ++ 32 :: (a.txt k ++ ([59] ++ 10 :: r)) := by
    show ([116, 104, 114, 111, 119, 32] ++ (a.txt k ++ [59])) ++ 10 :: r = _
    simp
  obtain ⟨h1, h2⟩ := run_lit (w := [116, 104, 114, 111, 119]) (c := 32) (q := a.txt k ++ ([59] ++ 10 :: r)) (by decide)
  rw [e, rdS, if_neg (by simp), h1, h2, if_neg (by decide), if_neg (by decide), if_neg (by decide), if_neg (by decide), if_neg (by decide), if_pos (by rfl),
    show (32 :: (a.txt k ++ ([59] ++ 10 :: r)) : Bs) = [32] ++ (a.txt k ++ ([59] ++ 10 :: r)) from rfl, pre_app, Option.bind_some,
    hc f _ hf (by exact ends_lit (by decide)) (by exact noTail_lit (by decide)), Option.bind_some, pre_app, Option.bind_some]
theorem s_38 {k : Nat} {s : Bs} {i : Int} {a b : Tr} (h : isNameL s = true) (ha : BOK k a) (hb : BOK k b) : SOK k (.mk 38 s 0 i [a, b]) := by
  obtain ⟨c, hc⟩ := ha
  obtain ⟨d, hd⟩ := hb
  refine ⟨c + d + 1, fun F r hF => ?_⟩
  obtain ⟨f, rfl, hf⟩ := succ_of hF
  rw [txt_mk k (o := 38) (by decide), norm2]
  obtain ⟨R, hR⟩ : ∃ R, R = b.txt k ++ 10 :: r := ⟨_, rfl⟩
  have e : form (Int.toNat 38) s 0 (op0 [a, b]) ([a, b].map (Tr.txt k)) ++ 10 :: r = [116, 114, 121] ++ 32 :: (a.txt k ++ ([32, 99, 97, 116, 99, 104, 32, 40] ++ (s ++ 41 :: 32 :: R))) := by
    rw [hR]
    show ([116, 114, 121, 32] ++ (a.txt k ++ ([32, 99, 97, 116, 99, 104, 32, 40] ++ (s ++ ([41, 32] ++ b.txt k))))) ++ 10 :: r = _
    simp
  obtain ⟨h1, h2⟩ := run_lit (w := [116, 114, 121]) (c := 32) (q := a.txt k ++ ([32, 99, 97, 116, 99, 104, 32, 40] ++ (s ++ 41 :: 32 :: R))) (by decide)
  obtain ⟨h3, h4⟩ := run_app (w := s) (r := 41 :: 32 :: R) (name_of h).2.1 (ends_lit (by decide))
  rw [e, rdS, if_neg (by simp), h1, h2, if_neg (by decide), if_neg (by decide), if_neg (by decide), if_neg (by decide), if_neg (by decide), if_neg (by decide), if_pos (by rfl),
    show (32 :: (a.txt k ++ ([32, 99, 97, 116, 99, 104, 32, 40] ++ (s ++ 41 :: 32 :: R))) : Bs) = [32] ++ (a.txt k ++ ([32, 99, 97, 116, 99, 104, 32, 40] ++ (s ++ 41 :: 32 :: R))) from rfl, pre_app, Option.bind_some,
    hc f _ (by omega), Option.bind_some, pre_app, Option.bind_some, h3, h4, show (41 :: 32 :: R : Bs) = [41, 32] ++ R from rfl, pre_app, Option.bind_some, hR, hd f _ (by omega), Option.bind_some]
theorem s_39 {k : Nat} {i : Int} : SOK k (.mk 39 [] 0 i []) := by
  refine ⟨1, fun F r hF => ?_⟩
  obtain ⟨f, rfl, hf⟩ := succ_of (c := 0) hF
  rw [txt_mk k (o := 39) (by decide), norm0]
  obtain ⟨h1, h2⟩ := run_lit (w := [98, 114, 101, 97, 107]) (c := 59) (q := 10 :: r) (by decide)
  rw [show form (Int.toNat 39) [] 0 (op0 []) (([] : List Tr).map (Tr.txt k)) ++ 10 :: r = [98, 114, 101, 97, 107] ++ 59 :: 10 :: r from rfl, rdS, if_neg (by simp), h1, h2, if_neg (by decide), if_neg (by decide), if_neg (by decide), if_neg (by decide), if_neg (by decide), if_neg (by decide), if_neg (by decide), if_pos (by rfl),
    show (59 :: 10 :: r : Bs) = [59] ++ 10 :: r from rfl, pre_app, Option.bind_some]
theorem s_40 {k : Nat} {i : Int} : SOK k (.mk 40 [] 0 i []) := by
  refine ⟨1, fun F r hF => ?_⟩
  obtain ⟨f, rfl, hf⟩ := succ_of (c := 0) hF
  rw [txt_mk k (o := 40) (by decide), norm0]
  obtain ⟨h1, h2⟩ := run_lit (w := [99, 111, 110, 116, 105, 110, 117, 101]) (c := 59) (q := 10 :: r) (by decide)
  rw [show form (Int.toNat 40) [] 0 (op0 []) (([] : List Tr).map (Tr.txt k)) ++ 10 :: r = [99, 111, 110, 116, 105, 110, 117, 101] ++ 59 :: 10 :: r from rfl, rdS, if_neg (by simp), h1, h2, if_neg (by decide), if_neg (by decide), if_neg (by decide), if_neg (by decide), if_neg (by decide), if_neg (by decide), if_neg (by decide), if_neg (by decide), if_pos (by rfl),
    show (59 :: 10 :: r : Bs) = [59] ++ 10 :: r from rfl, pre_app, Option.bind_some]
theorem s_41 {k : Nat} {s : Bs} {i : Int} {l : List Tr} (h : isNameL s = true) (hl : FOK k l) : SOK k (.mk 41 s 0 i l) := by
  obtain ⟨c, hc⟩ := hl
  refine ⟨c + 1, fun F r hF => ?_⟩
  obtain ⟨f, rfl, hf⟩ := succ_of hF
  rw [txt_mk k (o := 41) (by decide), norm_mk]
  have hq : funcB (l.map (Tr.txt k)) ++ 10 :: r = 40 :: ((commas (l.map (Tr.txt k)).dropLast ++ ([41, 32] ++ (l.map (Tr.txt k)).getLastD [])) ++ 10 :: r) := by simp [funcB]
  have e : form (Int.toNat 41) s 0 (op0 l) (l.map (Tr.txt k)) ++ 10 :: r = funW ++ 32 :: (s ++ (funcB (l.map (Tr.txt k)) ++ 10 :: r)) := by
    show ([102, 117, 110, 99, 116, 105, 111, 110, 32] ++ (s ++ funcB (l.map (Tr.txt k)))) ++ 10 :: r = _
    simp [funW]
  obtain ⟨h1, h2⟩ := run_lit (w := funW) (c := 32) (q := s ++ (funcB (l.map (Tr.txt k)) ++ 10 :: r)) (by decide)
  obtain ⟨h3, h4⟩ := run_app (w := s) (r := funcB (l.map (Tr.txt k)) ++ 10 :: r) (name_of h).2.1 (by rw [hq]; exact ends_lit (by decide))
  rw [e, rdS, if_neg (by simp [funW]), h1, h2, if_neg (by decide), if_neg (by decide), if_neg (by decide), if_neg (by decide), if_neg (by decide), if_neg (by decide), if_neg (by decide), if_neg (by decide), if_neg (by decide), if_pos (by rfl),
    show (32 :: (s ++ (funcB (l.map (Tr.txt k)) ++ 10 :: r)) : Bs) = [32] ++ (s ++ (funcB (l.map (Tr.txt k)) ++ 10 :: r)) from rfl, pre_app, Option.bind_some, h3, h4, hc f _ hf, Option.bind_some]
end Go.Proofs.YtiejpenffpjmeaaDoor
