/- Texts read back: unlike trees have unlike texts. No program. -/
import Derived.Test.YtiejpenffpjmeaaDoorInv
import Derived.Test.YtiejpenffpjmeaaDoorText
namespace Go.Proofs.YtiejpenffpjmeaaDoor
set_option linter.unusedSimpArgs false
set_option linter.unusedVariables false

/-! ### quotes -/
theorem u8_ne {a b : UInt8} (h : a.toNat ≠ b.toNat) : a ≠ b := fun e => h (by rw [e])
theorem pre2_no {a b c : UInt8} {r : Bs} (h : c ≠ a) : ([a, b] : Bs).isPrefixOf (c :: r) = false := by
  simp [List.isPrefixOf, Ne.symm h]
theorem esc_no {c : UInt8} {r : Bs} (h : c ≠ 92) : longestL (c :: r) [[92, 92], [92, 34], [92, 39]] = [] := by
  simp [longestL, Ne.symm h]
theorem said_plain {c : UInt8} {r : Bs} (h1 : c ≠ 92) (h2 : plainB c = true) : saidL (c :: r) = (c, 1) := by
  unfold saidL
  rw [pre2_no h1, pre2_no h1, esc_no h1, pre2_no h1]
  simp [h1, h2]
theorem said_n (r : Bs) : saidL (92 :: 110 :: r) = (10, 2) := by
  unfold saidL
  rw [if_pos (by simp [List.isPrefixOf])]
theorem said_t (r : Bs) : saidL (92 :: 116 :: r) = (9, 2) := by
  unfold saidL
  rw [if_neg (by simp [List.isPrefixOf]), if_pos (by simp [List.isPrefixOf])]
theorem said_esc (c : UInt8) (r : Bs) (h : c = 34 ∨ c = 92) : saidL (92 :: c :: r) = (c, 2) := by
  unfold saidL
  rcases h with rfl | rfl
  · rw [if_neg (by simp [List.isPrefixOf]), if_neg (by simp [List.isPrefixOf]), if_pos (by simp [longestL])]
    rfl
  · rw [if_neg (by simp [List.isPrefixOf]), if_neg (by simp [List.isPrefixOf]), if_pos (by simp [longestL])]
    rfl
theorem ix_hexD : ∀ k : Fin 16, Lib.indexByte hexDigitsL (hexD k.val) = (k.val : Int) := by decide
theorem said_hex (c : UInt8) (r : Bs) : saidL (92 :: 120 :: hexD (c.toNat / 16) :: hexD (c.toNat % 16) :: r) = (c, 4) := by
  have hlt : c.toNat < 256 := c.toNat_lt
  unfold saidL
  rw [if_neg (by simp [List.isPrefixOf]), if_neg (by simp [List.isPrefixOf]), if_neg (by simp [longestL]), if_pos (by simp [List.isPrefixOf])]
  have e1 : Lib.indexByte hexDigitsL (hexD (c.toNat / 16)) = ((c.toNat / 16 : Nat) : Int) := ix_hexD ⟨c.toNat / 16, by omega⟩
  have e2 : Lib.indexByte hexDigitsL (hexD (c.toNat % 16)) = ((c.toNat % 16 : Nat) : Int) := ix_hexD ⟨c.toNat % 16, by omega⟩
  unfold hexL
  simp only [e1, e2]
  rw [if_neg (by omega)]
  have : 16 * ((c.toNat / 16 : Nat) : Int).toNat + ((c.toNat % 16 : Nat) : Int).toNat = c.toNat := by omega
  rw [this, UInt8.ofNat_toNat]
/-- What a byte within quotes says. -/
theorem said_quoted (c : UInt8) (r : Bs) : saidL (quoteB c ++ r) = (c, (quoteB c).length) ∧ (quoteB c ++ r).head? ≠ some 34 ∧ quoteB c ≠ [] := by
  unfold quoteB
  by_cases h1 : c.toNat = 10
  · rw [if_pos h1]
    obtain rfl : c = 10 := UInt8.toNat_inj.1 h1
    exact ⟨said_n r, by simp, by simp⟩
  · rw [if_neg h1]
    by_cases h2 : c.toNat = 9
    · rw [if_pos h2]
      obtain rfl : c = 9 := UInt8.toNat_inj.1 h2
      exact ⟨said_t r, by simp, by simp⟩
    · rw [if_neg h2]
      by_cases h3 : c.toNat = 34 ∨ c.toNat = 92
      · rw [if_pos h3]
        exact ⟨said_esc c r (h3.imp (fun h => UInt8.toNat_inj.1 h) (fun h => UInt8.toNat_inj.1 h)), by simp, by simp⟩
      · rw [if_neg h3]
        have n34 : c ≠ 34 := u8_ne (fun h => h3 (.inl h))
        have n92 : c ≠ 92 := u8_ne (fun h => h3 (.inr h))
        cases hp : plainB c with
        | true =>
          rw [if_pos rfl]
          exact ⟨said_plain n92 hp, by simp [n34], by simp⟩
        | false =>
          rw [if_neg (by simp)]
          exact ⟨said_hex c r, by simp, by simp⟩
theorem quoted_close (q : UInt8) (r : Bs) : quotedL q (q :: r) = some ([], 1) := by rw [quotedL, if_pos rfl]
theorem quoted_more {q c : UInt8} {r : Bs} (h : c ≠ q) (hs : (saidL (c :: r)).2 ≠ 0) :
    quotedL q (c :: r) = (quotedL q ((c :: r).drop (saidL (c :: r)).2)).map fun o => ((saidL (c :: r)).1 :: o.1, (saidL (c :: r)).2 + o.2) := by
  rw [quotedL, if_neg h]
  split
  · rename_i b hb; rw [hb] at hs; exact absurd rfl hs
  · rename_i b n hb; rw [hb]; simp
theorem quoted_back (z : Bs) : ∀ l : Bs, quotedL 34 (l.flatMap quoteB ++ 34 :: z) = some (l, (l.flatMap quoteB).length + 1)
  | [] => by
    show quotedL 34 (34 :: z) = some ([], 1)
    exact quoted_close 34 z
  | c :: r => by
    obtain ⟨h1, h2, h3⟩ := said_quoted c (r.flatMap quoteB ++ 34 :: z)
    rw [List.flatMap_cons, List.append_assoc]
    obtain ⟨x, y, hx⟩ := List.exists_cons_of_ne_nil h3
    have hlen : (quoteB c).length ≠ 0 := by rw [hx]; simp
    have e : quoteB c ++ (r.flatMap quoteB ++ 34 :: z) = x :: (y ++ (r.flatMap quoteB ++ 34 :: z)) := by rw [hx]; rfl
    rw [e] at h1 h2 ⊢
    have hx34 : x ≠ 34 := fun he => h2 (by rw [he]; rfl)
    rw [quoted_more hx34 (by rw [h1]; exact hlen), h1]
    have hd : (x :: (y ++ (r.flatMap quoteB ++ 34 :: z))).drop (quoteB c).length = r.flatMap quoteB ++ 34 :: z := by
      rw [← e, List.drop_left]
    rw [hd, quoted_back z r]
    simp
    omega

/-! ### digits -/
theorem valL_snoc (l : Bs) (c : UInt8) : valL (l ++ [c]) = valL l * 10 + (c.toNat - 48) := by
  unfold valL
  rw [List.foldl_append]
  rfl
theorem ofNat48 {m : Nat} (h : m < 10) : (UInt8.ofNat (48 + m)).toNat = 48 + m := by
  rw [UInt8.toNat_ofNat_of_lt' (by show 48 + m < 256; omega)]
theorem digit_of {m : Nat} (h : m < 10) : digitB (UInt8.ofNat (48 + m)) = true := by
  have := ofNat48 h
  unfold digitB
  simp only [Bool.and_eq_true, decide_eq_true_eq, UInt8.le_iff_toNat_le, this]
  exact ⟨by show 48 ≤ 48 + m; omega, by show 48 + m ≤ 57; omega⟩
theorem dec_val (n : Nat) : valL (Lib.decDigits n) = n := by
  induction n using Nat.strongRecOn with
  | _ n ih =>
    by_cases h : n < 10
    · rw [Lib.decDigits, dif_pos h]
      show 0 * 10 + ((UInt8.ofNat (48 + n)).toNat - 48) = n
      rw [ofNat48 h]
      omega
    · rw [Lib.decDigits, dif_neg h, valL_snoc, ih (n / 10) (by omega), ofNat48 (by omega)]
      omega
theorem dec_all (n : Nat) : (∀ c ∈ Lib.decDigits n, digitB c = true) ∧ Lib.decDigits n ≠ [] := by
  induction n using Nat.strongRecOn with
  | _ n ih =>
    by_cases h : n < 10
    · rw [Lib.decDigits, dif_pos h]
      refine ⟨fun c hc => ?_, by simp⟩
      obtain rfl : c = UInt8.ofNat (48 + n) := by simpa using hc
      exact digit_of h
    · rw [Lib.decDigits, dif_neg h]
      refine ⟨fun c hc => ?_, by simp⟩
      rcases List.mem_append.1 hc with hc | hc
      · exact (ih (n / 10) (by omega)).1 c hc
      · obtain rfl : c = UInt8.ofNat (48 + n % 10) := by simpa using hc
        exact digit_of (by omega)
theorem digit_letter {c : UInt8} (h : letterB c = true) : digitB c = false := by
  unfold letterB at h
  unfold digitB
  simp only [Bool.or_eq_true, Bool.and_eq_true, decide_eq_true_eq, UInt8.le_iff_toNat_le, beq_iff_eq] at h
  rw [Bool.and_eq_false_iff]
  simp only [decide_eq_false_iff_not, UInt8.le_iff_toNat_le]
  have e1 : (97 : UInt8).toNat = 97 := rfl
  have e2 : (65 : UInt8).toNat = 65 := rfl
  have e3 : (57 : UInt8).toNat = 57 := rfl
  rcases h with ((⟨h, -⟩ | ⟨h, -⟩) | rfl) | rfl
  · right; omega
  · right; omega
  · right; decide
  · left; decide

/-! ### runs, fronts -/
def runR (b : Bs) : Bs := b.takeWhile nameB
def pastR (b : Bs) : Bs := b.dropWhile nameB
/-- No further byte of a run. -/
def Ends (r : Bs) : Prop := ∀ c q, r = c :: q → nameB c = false ∧ c ≠ 58
def NoTail (r : Bs) : Prop := r.head? ≠ some 46 ∧ r.head? ≠ some 91 ∧ r.head? ≠ some 40
theorem run_app : ∀ {w r : Bs}, (∀ c ∈ w, nameB c = true) → Ends r → runR (w ++ r) = w ∧ pastR (w ++ r) = r
  | [], [], _, _ => ⟨rfl, rfl⟩
  | [], c :: q, _, hr => by
    have := (hr c q rfl).1
    simp [runR, pastR, this]
  | a :: w, r, h, hr => by
    have h1 := h a List.mem_cons_self
    have h2 := run_app (w := w) (r := r) (fun c hc => h c (List.mem_cons_of_mem _ hc)) hr
    simp only [runR, pastR] at h2 ⊢
    simp [h1, h2.1, h2.2]
theorem ends_cons {c : UInt8} {r : Bs} (h : nameB c = false ∧ c ≠ 58) : Ends (c :: r) := by
  intro d q e
  obtain ⟨rfl, -⟩ := List.cons.inj e
  exact h
theorem ends_app {q r : Bs} (hq : Ends q) (hr : Ends r) : Ends (q ++ r) := by
  cases q with
  | nil => exact hr
  | cons c q => exact ends_cons (hq c q rfl)

def preR (p b : Bs) : Option Bs := if p.isPrefixOf b then some (b.drop p.length) else none
theorem pre_app (p r : Bs) : preR p (p ++ r) = some r := by
  unfold preR
  rw [if_pos (List.isPrefixOf_iff_prefix.2 ⟨r, rfl⟩)]
  simp
theorem pre_none {p b : Bs} (h : p.isPrefixOf b = false) : preR p b = none := by unfold preR; rw [h]; rfl

def kwL : List Bs := [[118, 97, 114], [105, 102], [119, 104, 105, 108, 101], [102, 111, 114], [114, 101, 116, 117, 114, 110], [116, 104, 114, 111, 119], [116, 114, 121], [98, 114, 101, 97, 107], [99, 111, 110, 116, 105, 110, 117, 101], [102, 117, 110, 99, 116, 105, 111, 110], [110, 101, 119]]
/-- How an expression's text begins. -/
def Front (b : Bs) : Prop := (∃ q, b = 34 :: q ∨ b = 40 :: q) ∨ ∃ w q, b = w ++ q ∧ w ≠ [] ∧ (∀ c ∈ w, nameB c = true) ∧ w ∉ kwL ∧ Ends q
theorem Front.app {b r : Bs} (h : Front b) (hr : Ends r) : Front (b ++ r) := by
  rcases h with ⟨q, h⟩ | ⟨w, q, rfl, h1, h2, h3, h4⟩
  · exact .inl ⟨q ++ r, by rcases h with rfl | rfl <;> simp⟩
  · exact .inr ⟨w, q ++ r, by simp, h1, h2, h3, ends_app h4 hr⟩
theorem Front.head {b : Bs} (h : Front b) (c : UInt8) (hc : c ≠ 34 ∧ c ≠ 40 ∧ nameB c = false) : b.head? ≠ some c := by
  rcases h with ⟨q, h⟩ | ⟨w, q, rfl, h1, h2, h3, h4⟩
  · rcases h with rfl | rfl
    · simpa using Ne.symm hc.1
    · simpa using Ne.symm hc.2.1
  · cases w with
    | nil => exact absurd rfl h1
    | cons a w =>
      have := h2 a List.mem_cons_self
      simp
      rintro rfl
      rw [hc.2.2] at this
      exact absurd this (by simp)
theorem Front.run {b : Bs} (h : Front b) : runR b ∉ kwL := by
  rcases h with ⟨q, h⟩ | ⟨w, q, rfl, h1, h2, h3, h4⟩
  · rcases h with rfl | rfl
    · simp [runR, show nameB 34 = false by decide]; decide
    · simp [runR, show nameB 40 = false by decide]; decide
  · rw [(run_app h2 h4).1]
    exact h3
theorem Front.ne {b : Bs} (h : Front b) {w : Bs} (hw : w ∈ kwL) : runR b ≠ w := fun e => h.run (e ▸ hw)

/-! ### the reader -/
def wordT (w : Bs) : Tr :=
  if digitB (w.headD 0) then .mk 2 [] (valL w) 0 []
  else if w = [116, 114, 117, 101] then .mk 4 [] 0 0 []
  else if w = [102, 97, 108, 115, 101] then .mk 5 [] 0 0 []
  else if w = [110, 117, 108, 108] then .mk 6 [] 0 0 []
  else if w = [117, 110, 100, 101, 102, 105, 110, 101, 100] then .mk 7 [] 0 0 []
  else if w = [116, 104, 105, 115] then .mk 8 [] 0 0 []
  else if w = [105, 110, 112, 117, 116] then .mk 9 [] 0 0 []
  else .mk 1 w 0 0 []
def signT (s : Bs) (a b : Tr) : Tr :=
  if s = [61] then .mk 17 [] 0 0 [a, b] else if s = [38, 38] then .mk 21 [] 0 0 [a, b] else if s = [124, 124] then .mk 22 [] 0 0 [a, b] else .mk 18 s 0 0 [a, b]
def noSp (c : UInt8) : Bool := !(c == 32)
mutual
def rdE : Nat → Nat → Bs → Option (Tr × Bs)
  | 0, _, _ => none
  | f + 1, k, b =>
    if b.head? = some 34 then
      (quotedL 34 (b.drop 1)).bind fun o =>
        match preR [58, 32] (b.drop (1 + o.2)) with
        | some q => (rdE f k q).bind fun x => post f k (.mk 12 o.1 0 0 [x.1]) x.2
        | none => post f k (.mk 3 o.1 0 0 []) (b.drop (1 + o.2))
    else if b.head? = some 40 then rdP f k (b.drop 1)
    else post f k (wordT (runR b)) (pastR b)
def rdP : Nat → Nat → Bs → Option (Tr × Bs)
  | 0, _, _ => none
  | f + 1, k, b =>
    if b.head? = some 123 then (rdA f k 125 (b.drop 1)).bind fun y => (preR [41] y.2).bind fun q => post f k (.mk 11 [] 0 0 y.1) q
    else if b.head? = some 33 then (rdE f k (b.drop 1)).bind fun y => (preR [41] y.2).bind fun q => post f k (.mk 19 [] 0 0 [y.1]) q
    else if b.head? = some 45 then (rdE f k (b.drop 1)).bind fun y => (preR [41] y.2).bind fun q => post f k (.mk 20 [] 0 0 [y.1]) q
    else if runR b = [102, 117, 110, 99, 116, 105, 111, 110] then
      if (pastR b).head? = some 32 then (rdF f k (pastR ((pastR b).drop 1))).bind fun y => (preR [41] y.2).bind fun q => post f k (.mk 10 (runR ((pastR b).drop 1)) 0 0 y.1) q
      else (rdF f k (pastR b)).bind fun y => (preR [41] y.2).bind fun q => post f k (.mk 10 [] 0 0 y.1) q
    else if runR b = [110, 101, 119] then
      if ((pastR b).drop 1).head? = some 40 then
        (rdE f k ((pastR b).drop 2)).bind fun x => (preR [41, 40] x.2).bind fun q => (rdA f k 41 q).bind fun y => (preR [41] y.2).bind fun q => post f k (.mk 16 [] 0 0 (x.1 :: y.1)) q
      else (preR [40] (pastR ((pastR b).drop 1))).bind fun q => (rdA f k 41 q).bind fun y => (preR [41] y.2).bind fun q => post f k (.mk 16 [] 0 0 (.mk 1 (runR ((pastR b).drop 1)) 0 0 [] :: y.1)) q
    else (rdE f k b).bind fun x =>
      match preR [41, 46] x.2 with
      | some q => post f k (.mk 13 (runR q) 0 0 [x.1]) (pastR q)
      | none => (rdE f k (((x.2.drop 1).dropWhile noSp).drop 1)).bind fun y =>
          if (x.2.drop 1).takeWhile noSp = [63] then
            (preR [32, 58, 32] y.2).bind fun q => (rdE f k q).bind fun z => (preR [41] z.2).bind fun q => post f k (.mk 23 [] 0 0 [x.1, y.1, z.1]) q
          else (preR [41] y.2).bind fun q => post f k (signT ((x.2.drop 1).takeWhile noSp) x.1 y.1) q
def post : Nat → Nat → Tr → Bs → Option (Tr × Bs)
  | 0, _, _, _ => none
  | f + 1, k, x, b =>
    if b.head? = some 46 then post f k (.mk 13 (runR (b.drop 1)) 0 0 [x]) (pastR (b.drop 1))
    else if b.head? = some 91 then (rdE f k (b.drop 1)).bind fun y => (preR [93] y.2).bind fun q => post f k (.mk 14 [] 0 0 [x, y.1]) q
    else if b.head? = some 40 then (rdA f k 41 (b.drop 1)).bind fun y => post f k (.mk 15 [] 0 0 (x :: y.1)) y.2
    else some (x, b)
def rdA : Nat → Nat → UInt8 → Bs → Option (List Tr × Bs)
  | 0, _, _, _ => none
  | f + 1, k, c, b =>
    if b.head? = some c then some ([], b.drop 1)
    else (rdE f k b).bind fun x =>
      match preR [44, 32] x.2 with
      | some q => (rdA f k c q).bind fun y => some (x.1 :: y.1, y.2)
      | none => (preR [c] x.2).bind fun q => some ([x.1], q)
def rdF : Nat → Nat → Bs → Option (List Tr × Bs)
  | 0, _, _ => none
  | f + 1, k, b => (preR [40] b).bind fun q => (rdA f k 41 q).bind fun y => (preR [32] y.2).bind fun q => (rdB f k q).bind fun z => some (y.1 ++ [z.1], z.2)
def rdB : Nat → Nat → Bs → Option (Tr × Bs)
  | 0, _, _ => none
  | f + 1, k, b => (preR [123, 10] b).bind fun q => (rdL f (k + 1) q).bind fun y => (preR (indentB k ++ [125]) y.2).bind fun q => some (.mk 32 [] 0 0 y.1, q)
def rdL : Nat → Nat → Bs → Option (List Tr × Bs)
  | 0, _, _ => none
  | f + 1, k, b =>
    if b = [] then some ([], b)
    else match preR (indentB k) b with
      | none => some ([], b)
      | some q => (rdS f k q).bind fun x => (preR [10] x.2).bind fun q => (rdL f k q).bind fun y => some (x.1 :: y.1, y.2)
def rdS : Nat → Nat → Bs → Option (Tr × Bs)
  | 0, _, _ => none
  | f + 1, k, b =>
    if b.head? = some 123 then rdB f k b
    else if runR b = [118, 97, 114] then
      match preR [59] (pastR ((pastR b).drop 1)) with
      | some q => some (.mk 30 (runR ((pastR b).drop 1)) 0 0 [], q)
      | none => (preR [32, 61, 32] (pastR ((pastR b).drop 1))).bind fun q => (rdE f k q).bind fun x => (preR [59] x.2).bind fun q => some (.mk 30 (runR ((pastR b).drop 1)) 0 0 [x.1], q)
    else if runR b = [105, 102] then
      (preR [32, 40] (pastR b)).bind fun q => (rdE f k q).bind fun x => (preR [41, 32] x.2).bind fun q => (rdB f k q).bind fun y =>
        match preR [32, 101, 108, 115, 101, 32] y.2 with
        | some q => (rdB f k q).bind fun z => some (.mk 33 [] 0 0 [x.1, y.1, z.1], z.2)
        | none => some (.mk 33 [] 0 0 [x.1, y.1], y.2)
    else if runR b = [119, 104, 105, 108, 101] then
      (preR [32, 40] (pastR b)).bind fun q => (rdE f k q).bind fun x => (preR [41, 32] x.2).bind fun q => (rdB f k q).bind fun y => some (.mk 34 [] 0 0 [x.1, y.1], y.2)
    else if runR b = [102, 111, 114] then
      (preR [32, 40, 118, 97, 114, 32] (pastR b)).bind fun q => (preR [32, 105, 110, 32] (pastR q)).bind fun p => (rdE f k p).bind fun x => (preR [41, 32] x.2).bind fun p => (rdB f k p).bind fun y => some (.mk 35 (runR q) 0 0 [x.1, y.1], y.2)
    else if runR b = [114, 101, 116, 117, 114, 110] then
      match preR [59] (pastR b) with
      | some q => some (.mk 36 [] 0 0 [], q)
      | none => (preR [32] (pastR b)).bind fun q => (rdE f k q).bind fun x => (preR [59] x.2).bind fun q => some (.mk 36 [] 0 0 [x.1], q)
    else if runR b = [116, 104, 114, 111, 119] then
      (preR [32] (pastR b)).bind fun q => (rdE f k q).bind fun x => (preR [59] x.2).bind fun q => some (.mk 37 [] 0 0 [x.1], q)
    else if runR b = [116, 114, 121] then
      (preR [32] (pastR b)).bind fun q => (rdB f k q).bind fun x => (preR [32, 99, 97, 116, 99, 104, 32, 40] x.2).bind fun q => (preR [41, 32] (pastR q)).bind fun p => (rdB f k p).bind fun y => some (.mk 38 (runR q) 0 0 [x.1, y.1], y.2)
    else if runR b = [98, 114, 101, 97, 107] then (preR [59] (pastR b)).bind fun q => some (.mk 39 [] 0 0 [], q)
    else if runR b = [99, 111, 110, 116, 105, 110, 117, 101] then (preR [59] (pastR b)).bind fun q => some (.mk 40 [] 0 0 [], q)
    else if runR b = [102, 117, 110, 99, 116, 105, 111, 110] then
      (preR [32] (pastR b)).bind fun q => (rdF f k (pastR q)).bind fun y => some (.mk 41 (runR q) 0 0 y.1, y.2)
    else (rdE f k b).bind fun x => (preR [59] x.2).bind fun q => some (.mk 31 [] 0 0 [x.1], q)
end
end Go.Proofs.YtiejpenffpjmeaaDoor
