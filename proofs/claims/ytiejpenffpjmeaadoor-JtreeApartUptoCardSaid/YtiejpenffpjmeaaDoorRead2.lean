/- Texts read back: each expression, each statement. No program. -/
import Derived.Test.YtiejpenffpjmeaaDoorRead
namespace Go.Proofs.YtiejpenffpjmeaaDoor
set_option linter.unusedSimpArgs false
set_option linter.unusedVariables false

def EOK (k : Nat) (t : Tr) : Prop := ∃ c, ∀ F r, c ≤ F → Ends r → (t.op = 12 → NoTail r) → ∃ g, F ≤ g + c ∧ rdE F k (t.txt k ++ r) = post g k t.norm r
def XOK (k : Nat) (t : Tr) : Prop := ∃ c, ∀ F r, c ≤ F → Ends r → NoTail r → rdE F k (t.txt k ++ r) = some (t.norm, r)
def AOK (k : Nat) (l : List Tr) (cl : UInt8) : Prop := ∃ c, ∀ F r, c ≤ F → rdA F k cl (commas (l.map (Tr.txt k)) ++ cl :: r) = some (norms l, r)
def BOK (k : Nat) (t : Tr) : Prop := ∃ c, ∀ F r, c ≤ F → rdB F k (t.txt k ++ r) = some (t.norm, r)
def SOK (k : Nat) (t : Tr) : Prop := ∃ c, ∀ F r, c ≤ F → rdS F k (t.txt k ++ 10 :: r) = some (t.norm, 10 :: r)
def LOK (k : Nat) (l : List Tr) : Prop := ∃ c, ∀ F e, c ≤ F → (e = [] ∨ preR (indentB k) e = none) → rdL F k (linesL k (l.map (Tr.txt k)) ++ e) = some (norms l, e)
def FOK (k : Nat) (l : List Tr) : Prop := ∃ c, ∀ F r, c ≤ F → rdF F k (funcB (l.map (Tr.txt k)) ++ r) = some (norms l, r)

theorem ends_lit {c : UInt8} {r : Bs} (h : (nameB c || c == 58) = false) : Ends (c :: r) := by
  rw [Bool.or_eq_false_iff] at h
  exact ends_cons ⟨h.1, by simpa using h.2⟩
theorem noTail_lit {c : UInt8} {r : Bs} (h : (c == 46 || (c == 91 || c == 40)) = false) : NoTail (c :: r) := by
  simp only [Bool.or_eq_false_iff, beq_eq_false_iff_ne] at h
  exact ⟨by simpa using h.1, by simpa using h.2.1, by simpa using h.2.2⟩
theorem post_stop {f k : Nat} {x : Tr} {r : Bs} (h : NoTail r) : post (f + 1) k x r = some (x, r) := by
  rw [post, if_neg h.1, if_neg h.2.1, if_neg h.2.2]
theorem EOK.x {k : Nat} {t : Tr} : EOK k t → XOK k t := fun ⟨c, h⟩ => ⟨c + 1, fun F r hF hr hn => by
  obtain ⟨g, hg, e⟩ := h F r (by omega) hr (fun _ => hn)
  obtain ⟨g, rfl⟩ : ∃ m, g = m + 1 := ⟨g - 1, by omega⟩
  rw [e, post_stop hn]⟩

/-! ### the reader's steps -/
theorem rdE_paren (f k : Nat) (b : Bs) : rdE (f + 1) k (40 :: b) = rdP f k b := by rw [rdE]; simp
theorem nameB_of {c : UInt8} (h : nameB c = true) : c ≠ 34 ∧ c ≠ 40 := ⟨by rintro rfl; exact absurd h (by decide), by rintro rfl; exact absurd h (by decide)⟩
theorem rdE_word (f k : Nat) {w r : Bs} (h0 : w ≠ []) (h : ∀ c ∈ w, nameB c = true) (hr : Ends r) : rdE (f + 1) k (w ++ r) = post f k (wordT w) r := by
  obtain ⟨c, q, rfl⟩ := List.exists_cons_of_ne_nil h0
  have := nameB_of (h c List.mem_cons_self)
  rw [rdE, if_neg (by simpa using this.1), if_neg (by simpa using this.2), (run_app h hr).1, (run_app h hr).2]
theorem quote_split (s r : Bs) : quoteL s ++ r = 34 :: (s.flatMap quoteB ++ 34 :: r) := by simp [quoteL]
theorem drop_quote (s r : Bs) : (34 :: (s.flatMap quoteB ++ 34 :: r)).drop (1 + ((s.flatMap quoteB).length + 1)) = r := by
  rw [Nat.add_comm 1, List.drop_succ_cons, show (s.flatMap quoteB).length + 1 = (s.flatMap quoteB ++ [34]).length by simp, show s.flatMap quoteB ++ 34 :: r = (s.flatMap quoteB ++ [34]) ++ r by simp, List.drop_left]
theorem rdE_str (f k : Nat) (s r : Bs) (h : preR [58, 32] r = none) : rdE (f + 1) k (quoteL s ++ r) = post f k (.mk 3 s 0 0 []) r := by
  rw [quote_split, rdE, if_pos (by rfl), show (34 :: (s.flatMap quoteB ++ 34 :: r)).drop 1 = s.flatMap quoteB ++ 34 :: r from rfl, quoted_back, Option.bind_some]
  simp only [drop_quote, h]
theorem rdE_pair (f k : Nat) (s r : Bs) : rdE (f + 1) k (quoteL s ++ ([58, 32] ++ r)) = (rdE f k r).bind fun x => post f k (.mk 12 s 0 0 [x.1]) x.2 := by
  rw [quote_split, rdE, if_pos (by rfl), show (34 :: (s.flatMap quoteB ++ 34 :: ([58, 32] ++ r))).drop 1 = s.flatMap quoteB ++ 34 :: ([58, 32] ++ r) from rfl, quoted_back, Option.bind_some]
  simp only [drop_quote, pre_app]
theorem ends_pre {r : Bs} (h : Ends r) : preR [58, 32] r = none := by
  refine pre_none ?_
  cases r with
  | nil => rfl
  | cons c q => simp [List.isPrefixOf, Ne.symm (h c q rfl).2]
theorem rdP_obj (f k : Nat) (b : Bs) : rdP (f + 1) k (123 :: b) = (rdA f k 125 b).bind fun y => (preR [41] y.2).bind fun q => post f k (.mk 11 [] 0 0 y.1) q := by rw [rdP]; simp
theorem rdP_not (f k : Nat) (b : Bs) : rdP (f + 1) k (33 :: b) = (rdE f k b).bind fun y => (preR [41] y.2).bind fun q => post f k (.mk 19 [] 0 0 [y.1]) q := by rw [rdP]; simp
theorem rdP_neg (f k : Nat) (b : Bs) : rdP (f + 1) k (45 :: b) = (rdE f k b).bind fun y => (preR [41] y.2).bind fun q => post f k (.mk 20 [] 0 0 [y.1]) q := by rw [rdP]; simp
def funW : Bs := [102, 117, 110, 99, 116, 105, 111, 110]
def newW : Bs := [110, 101, 119]
theorem funW_all : ∀ c ∈ funW, nameB c = true := by decide
theorem newW_all : ∀ c ∈ newW, nameB c = true := by decide
theorem rdP_fun1 (f k : Nat) {s q : Bs} (hs : ∀ c ∈ s, nameB c = true) (hq : Ends q) :
    rdP (f + 1) k (funW ++ 32 :: (s ++ q)) = (rdF f k q).bind fun y => (preR [41] y.2).bind fun p => post f k (.mk 10 s 0 0 y.1) p := by
  obtain ⟨h1, h2⟩ := run_app (w := funW) (r := 32 :: (s ++ q)) funW_all (ends_lit (by decide))
  obtain ⟨h3, h4⟩ := run_app hs hq
  rw [rdP, h1, h2, if_neg (by simp [funW]), if_neg (by simp [funW]), if_neg (by simp [funW]), if_pos (by rfl), if_pos (by rfl), show (32 :: (s ++ q)).drop 1 = s ++ q from rfl, h3, h4]
theorem rdP_fun0 (f k : Nat) (q : Bs) : rdP (f + 1) k (funW ++ 40 :: q) = (rdF f k (40 :: q)).bind fun y => (preR [41] y.2).bind fun p => post f k (.mk 10 [] 0 0 y.1) p := by
  obtain ⟨h1, h2⟩ := run_app (w := funW) (r := 40 :: q) funW_all (ends_lit (by decide))
  rw [rdP, h1, h2, if_neg (by simp [funW]), if_neg (by simp [funW]), if_neg (by simp [funW]), if_pos (by rfl), if_neg (by simp)]
theorem rdP_new1 (f k : Nat) (q : Bs) : rdP (f + 1) k (newW ++ 32 :: 40 :: q) =
    (rdE f k q).bind fun x => (preR [41, 40] x.2).bind fun q => (rdA f k 41 q).bind fun y => (preR [41] y.2).bind fun q => post f k (.mk 16 [] 0 0 (x.1 :: y.1)) q := by
  obtain ⟨h1, h2⟩ := run_app (w := newW) (r := 32 :: 40 :: q) newW_all (ends_lit (by decide))
  rw [rdP, h1, h2, if_neg (by simp [newW]), if_neg (by simp [newW]), if_neg (by simp [newW]), if_neg (by decide), if_pos (by rfl), if_pos (by rfl)]
  rfl
theorem rdP_new0 (f k : Nat) {s q : Bs} (h0 : s ≠ []) (hs : ∀ c ∈ s, nameB c = true) : rdP (f + 1) k (newW ++ 32 :: (s ++ 40 :: q)) =
    (rdA f k 41 q).bind fun y => (preR [41] y.2).bind fun q => post f k (.mk 16 [] 0 0 (.mk 1 s 0 0 [] :: y.1)) q := by
  obtain ⟨h1, h2⟩ := run_app (w := newW) (r := 32 :: (s ++ 40 :: q)) newW_all (ends_lit (by decide))
  obtain ⟨h3, h4⟩ := run_app (w := s) (r := 40 :: q) hs (ends_lit (by decide))
  obtain ⟨c, p, rfl⟩ := List.exists_cons_of_ne_nil h0
  rw [rdP, h1, h2, if_neg (by simp [newW]), if_neg (by simp [newW]), if_neg (by simp [newW]), if_neg (by decide), if_pos (by rfl)]
  rw [if_neg (by simpa using (nameB_of (hs c List.mem_cons_self)).2), show (32 :: (c :: p ++ 40 :: q)).drop 1 = c :: p ++ 40 :: q from rfl, h3, h4, show (40 :: q : Bs) = [40] ++ q from rfl, pre_app, Option.bind_some]
theorem rdP_e (f k : Nat) {b : Bs} (hb : Front b) : rdP (f + 1) k b = (rdE f k b).bind fun x =>
      match preR [41, 46] x.2 with
      | some q => post f k (.mk 13 (runR q) 0 0 [x.1]) (pastR q)
      | none => (rdE f k (((x.2.drop 1).dropWhile noSp).drop 1)).bind fun y =>
          if (x.2.drop 1).takeWhile noSp = [63] then
            (preR [32, 58, 32] y.2).bind fun q => (rdE f k q).bind fun z => (preR [41] z.2).bind fun q => post f k (.mk 23 [] 0 0 [x.1, y.1, z.1]) q
          else (preR [41] y.2).bind fun q => post f k (signT ((x.2.drop 1).takeWhile noSp) x.1 y.1) q := by
  rw [rdP, if_neg (hb.head 123 (by decide)), if_neg (hb.head 33 (by decide)), if_neg (hb.head 45 (by decide)), if_neg (hb.ne (by decide)), if_neg (hb.ne (by decide))]
  rfl
theorem post_dot (f k : Nat) (x : Tr) {s r : Bs} (hs : ∀ c ∈ s, nameB c = true) (hr : Ends r) : post (f + 1) k x (46 :: (s ++ r)) = post f k (.mk 13 s 0 0 [x]) r := by
  obtain ⟨h1, h2⟩ := run_app hs hr
  rw [post, if_pos (by rfl), show (46 :: (s ++ r)).drop 1 = s ++ r from rfl, h1, h2]
theorem post_idx (f k : Nat) (x : Tr) (r : Bs) : post (f + 1) k x (91 :: r) = (rdE f k r).bind fun y => (preR [93] y.2).bind fun q => post f k (.mk 14 [] 0 0 [x, y.1]) q := by rw [post]; simp
theorem post_call (f k : Nat) (x : Tr) (r : Bs) : post (f + 1) k x (40 :: r) = (rdA f k 41 r).bind fun y => post f k (.mk 15 [] 0 0 (x :: y.1)) y.2 := by rw [post]; simp

/-! ### lists -/
theorem norms_cons (a : Tr) (l : List Tr) : norms (a :: l) = a.norm :: norms l := by rw [norms]
theorem norms_nil : norms [] = [] := by rw [norms]
theorem norms_app (a b : List Tr) : norms (a ++ b) = norms a ++ norms b := by rw [norms_map, norms_map, norms_map, List.map_append]
theorem aok (k : Nat) (cl : UInt8) (hc : cl = 41 ∨ cl = 125) : ∀ l : List Tr, (∀ x ∈ l, XOK k x ∧ Front (x.txt k)) → AOK k l cl
  | [], _ => ⟨1, fun F r hF => by
    obtain ⟨F, rfl⟩ : ∃ m, F = m + 1 := ⟨F - 1, by omega⟩
    show rdA (F + 1) k cl (cl :: r) = _
    rw [rdA, if_pos (by rfl), norms_nil]
    rfl⟩
  | [a], h => by
    obtain ⟨⟨c, hx⟩, hf⟩ := h a List.mem_cons_self
    refine ⟨c + 1, fun F r hF => ?_⟩
    obtain ⟨F, rfl⟩ : ∃ m, F = m + 1 := ⟨F - 1, by omega⟩
    have hE : Ends (cl :: r) := by rcases hc with rfl | rfl <;> exact ends_lit (by decide)
    have hN : NoTail (cl :: r) := by rcases hc with rfl | rfl <;> exact noTail_lit (by decide)
    show rdA (F + 1) k cl (a.txt k ++ cl :: r) = _
    rw [rdA, if_neg ((hf.app hE).head cl (by rcases hc with rfl | rfl <;> decide)), hx F _ (by omega) hE hN, Option.bind_some]
    have h1 : preR [44, 32] (cl :: r) = none := pre_none (by rcases hc with rfl | rfl <;> simp [List.isPrefixOf])
    simp only [h1]
    rw [show (cl :: r : Bs) = [cl] ++ r from rfl, pre_app, norms_cons, norms_nil]
    rfl
  | a :: b :: l, h => by
    obtain ⟨⟨c, hx⟩, hf⟩ := h a List.mem_cons_self
    obtain ⟨d, hd⟩ := aok k cl hc (b :: l) fun x hx => h x (List.mem_cons_of_mem _ hx)
    refine ⟨c + d + 1, fun F r hF => ?_⟩
    obtain ⟨F, rfl⟩ : ∃ m, F = m + 1 := ⟨F - 1, by omega⟩
    have e : commas ((a :: b :: l).map (Tr.txt k)) ++ cl :: r = a.txt k ++ ([44, 32] ++ (commas ((b :: l).map (Tr.txt k)) ++ cl :: r)) := by
      show (a.txt k ++ ([44, 32] ++ commas ((b :: l).map (Tr.txt k)))) ++ cl :: r = _
      simp
    have hE : Ends ([44, 32] ++ (commas ((b :: l).map (Tr.txt k)) ++ cl :: r)) := ends_lit (by decide)
    rw [e, rdA, if_neg ((hf.app hE).head cl (by rcases hc with rfl | rfl <;> decide)), hx F _ (by omega) hE (noTail_lit (by decide)), Option.bind_some]
    simp only [pre_app]
    rw [hd F r (by omega), norms_cons a]
    rfl
theorem indent_no (k : Nat) (r : Bs) : preR (indentB (k + 1)) (indentB k ++ 125 :: r) = none := by
  refine pre_none ?_
  cases h : (indentB (k + 1)).isPrefixOf (indentB k ++ 125 :: r) with
  | false => rfl
  | true =>
    obtain ⟨q, hq⟩ := List.isPrefixOf_iff_prefix.1 h
    have h1 : (indentB (k + 1) ++ q)[2 * k]? = some 32 := by
      rw [List.getElem?_append_left (by simp [indentB] <;> omega)]
      simp [indentB]
    have h2 : (indentB k ++ 125 :: r)[2 * k]? = some 125 := by
      rw [List.getElem?_append_right (by simp [indentB])]
      simp [indentB]
    rw [hq, h2] at h1
    exact absurd h1 (by decide)
theorem lok (k : Nat) : ∀ l : List Tr, (∀ x ∈ l, SOK k x) → LOK k l
  | [], _ => ⟨1, fun F e hF he => by
    obtain ⟨F, rfl⟩ : ∃ m, F = m + 1 := ⟨F - 1, by omega⟩
    show rdL (F + 1) k e = _
    rw [rdL, norms_nil]
    rcases he with rfl | he
    · rw [if_pos (by rfl)]
    · by_cases h : e = []
      · rw [if_pos h]
      · rw [if_neg h, he]⟩
  | a :: l, h => by
    obtain ⟨c, hx⟩ := h a List.mem_cons_self
    obtain ⟨d, hd⟩ := lok k l fun x hx => h x (List.mem_cons_of_mem _ hx)
    refine ⟨c + d + 1, fun F e hF he => ?_⟩
    obtain ⟨F, rfl⟩ : ∃ m, F = m + 1 := ⟨F - 1, by omega⟩
    have e' : linesL k ((a :: l).map (Tr.txt k)) ++ e = indentB k ++ (a.txt k ++ 10 :: (linesL k (l.map (Tr.txt k)) ++ e)) := by simp [linesL]
    rw [e', rdL, if_neg (by simp), pre_app]
    dsimp only
    rw [hx F _ (by omega), Option.bind_some, show (10 :: (linesL k (l.map (Tr.txt k)) ++ e) : Bs) = [10] ++ (linesL k (l.map (Tr.txt k)) ++ e) from rfl, pre_app, Option.bind_some, hd F e (by omega) he, norms_cons]
    rfl
theorem bok (k : Nat) (i : Int) (l : List Tr) (h : ∀ x ∈ l, SOK (k + 1) x) : BOK k (.mk 32 [] 0 i l) := by
  obtain ⟨c, hc⟩ := lok (k + 1) l h
  refine ⟨c + 1, fun F r hF => ?_⟩
  obtain ⟨F, rfl⟩ : ∃ m, F = m + 1 := ⟨F - 1, by omega⟩
  rw [txt_block k _ rfl, norm_mk]
  have e : ([123, 10] ++ (linesL (k + 1) ((Tr.mk 32 [] 0 i l).l.map (Tr.txt (k + 1))) ++ (indentB k ++ [125]))) ++ r = [123, 10] ++ (linesL (k + 1) (l.map (Tr.txt (k + 1))) ++ (indentB k ++ 125 :: r)) := by simp
  rw [e, rdB, pre_app, Option.bind_some, hc F _ (by omega) (.inr (indent_no k r)), Option.bind_some, show indentB k ++ 125 :: r = (indentB k ++ [125]) ++ r by simp, pre_app, Option.bind_some]
theorem bok_s {k : Nat} {t : Tr} (h : BOK k t) (ht : t.op = 32) : SOK k t := by
  obtain ⟨c, hc⟩ := h
  refine ⟨c + 1, fun F r hF => ?_⟩
  obtain ⟨F, rfl⟩ : ∃ m, F = m + 1 := ⟨F - 1, by omega⟩
  have := hc F (10 :: r) (by omega)
  rw [txt_block k t ht] at this ⊢
  rw [rdS, if_pos (by simp)]
  exact this
theorem last_snoc {α : Type} (l : List α) (a d : α) : (l ++ [a]).getLastD d = a := by
  rw [List.getLastD_eq_getLast?]
  simp
theorem fok (k : Nat) (xs : List Tr) (b : Tr) (h : ∀ x ∈ xs, XOK k x ∧ Front (x.txt k)) (hb : BOK k b) : FOK k (xs ++ [b]) := by
  obtain ⟨c, hc⟩ := aok k 41 (.inl rfl) xs h
  obtain ⟨d, hd⟩ := hb
  refine ⟨c + d + 1, fun F r hF => ?_⟩
  obtain ⟨F, rfl⟩ : ∃ m, F = m + 1 := ⟨F - 1, by omega⟩
  have e : funcB ((xs ++ [b]).map (Tr.txt k)) ++ r = [40] ++ (commas (xs.map (Tr.txt k)) ++ 41 :: ([32] ++ (b.txt k ++ r))) := by
    unfold funcB
    rw [List.map_append, show [b].map (Tr.txt k) = [b.txt k] from rfl, List.dropLast_concat, last_snoc]
    simp
  rw [e, rdF, pre_app, Option.bind_some, hc F _ (by omega), Option.bind_some, pre_app, Option.bind_some, hd F r (by omega), Option.bind_some, norms_app, norms_cons, norms_nil]
end Go.Proofs.YtiejpenffpjmeaaDoor
