/- Codes are told apart by their texts. No program. -/
import Derived.Test.YtconnhphkbgbkaaDoorCdModel
namespace Go.Proofs.YtconnhphkbgbkaaDoor

theorem u8_ne {a b : UInt8} (h : a.toNat ≠ b.toNat) : a ≠ b := fun e => h (by rw [e])
theorem pre2_no {a b c : UInt8} {r : Bs} (h : c ≠ a) : ([a, b] : Bs).isPrefixOf (c :: r) = false := by
  simp [List.isPrefixOf, Ne.symm h]
theorem esc_no {c : UInt8} {r : Bs} (h : c ≠ 92) : longestL (c :: r) [[92, 92], [92, 34], [92, 39]] = [] := by
  simp [longestL, Ne.symm h]
theorem said_plain {c : UInt8} {r : Bs} (h1 : c ≠ 92) (h2 : plainB c = true) : saidL (c :: r) = (c, 1) := by
  unfold saidL
  rw [pre2_no h1, pre2_no h1, esc_no h1, pre2_no h1]
  simp [h1, h2]
theorem said_n (r : Bs) : saidL (92 :: 110 :: r) = (10, 2) := by
  unfold saidL
  rw [if_pos (by simp [List.isPrefixOf])]
theorem said_t (r : Bs) : saidL (92 :: 116 :: r) = (9, 2) := by
  unfold saidL
  rw [if_neg (by simp [List.isPrefixOf]), if_pos (by simp [List.isPrefixOf])]
theorem said_esc (c : UInt8) (r : Bs) (h : c = 34 ∨ c = 92) : saidL (92 :: c :: r) = (c, 2) := by
  unfold saidL
  rcases h with rfl | rfl
  · rw [if_neg (by simp [List.isPrefixOf]), if_neg (by simp [List.isPrefixOf]), if_pos (by simp [longestL])]
    rfl
  · rw [if_neg (by simp [List.isPrefixOf]), if_neg (by simp [List.isPrefixOf]), if_pos (by simp [longestL])]
    rfl
theorem ix_hexD : ∀ k : Fin 16, Lib.indexByte hexDigitsL (hexD k.val) = (k.val : Int) := by decide
theorem said_hex (c : UInt8) (r : Bs) : saidL (92 :: 120 :: hexD (c.toNat / 16) :: hexD (c.toNat % 16) :: r) = (c, 4) := by
  have hlt : c.toNat < 256 := c.toNat_lt
  unfold saidL
  rw [if_neg (by simp [List.isPrefixOf]), if_neg (by simp [List.isPrefixOf]), if_neg (by simp [longestL]), if_pos (by simp [List.isPrefixOf])]
  have e1 : Lib.indexByte hexDigitsL (hexD (c.toNat / 16)) = ((c.toNat / 16 : Nat) : Int) := ix_hexD ⟨c.toNat / 16, by omega⟩
  have e2 : Lib.indexByte hexDigitsL (hexD (c.toNat % 16)) = ((c.toNat % 16 : Nat) : Int) := ix_hexD ⟨c.toNat % 16, by omega⟩
  unfold hexL
  simp only [e1, e2]
  rw [if_neg (by omega)]
  have : 16 * ((c.toNat / 16 : Nat) : Int).toNat + ((c.toNat % 16 : Nat) : Int).toNat = c.toNat := by omega
  rw [this, UInt8.ofNat_toNat]
/-- What a byte within quotes says. -/
theorem said_quoted (c : UInt8) (r : Bs) : saidL (quoteB c ++ r) = (c, (quoteB c).length) ∧ (quoteB c ++ r).head? ≠ some 34 ∧ quoteB c ≠ [] := by
  unfold quoteB
  by_cases h1 : c.toNat = 10
  · rw [if_pos h1]
    obtain rfl : c = 10 := UInt8.toNat_inj.1 h1
    exact ⟨said_n r, by simp, by simp⟩
  · rw [if_neg h1]
    by_cases h2 : c.toNat = 9
    · rw [if_pos h2]
      obtain rfl : c = 9 := UInt8.toNat_inj.1 h2
      exact ⟨said_t r, by simp, by simp⟩
    · rw [if_neg h2]
      by_cases h3 : c.toNat = 34 ∨ c.toNat = 92
      · rw [if_pos h3]
        exact ⟨said_esc c r (h3.imp (fun h => UInt8.toNat_inj.1 h) (fun h => UInt8.toNat_inj.1 h)), by simp, by simp⟩
      · rw [if_neg h3]
        have n34 : c ≠ 34 := u8_ne (fun h => h3 (.inl h))
        have n92 : c ≠ 92 := u8_ne (fun h => h3 (.inr h))
        cases hp : plainB c with
        | true =>
          rw [if_pos rfl]
          exact ⟨said_plain n92 hp, by simp [n34], by simp⟩
        | false =>
          rw [if_neg (by simp)]
          exact ⟨said_hex c r, by simp, by simp⟩
theorem quoted_close (q : UInt8) (r : Bs) : quotedL q (q :: r) = some ([], 1) := by rw [quotedL, if_pos rfl]
theorem quoted_more {q c : UInt8} {r : Bs} (h : c ≠ q) (hs : (saidL (c :: r)).2 ≠ 0) :
    quotedL q (c :: r) = (quotedL q ((c :: r).drop (saidL (c :: r)).2)).map fun o => ((saidL (c :: r)).1 :: o.1, (saidL (c :: r)).2 + o.2) := by
  rw [quotedL, if_neg h]
  split
  · rename_i b hb; rw [hb] at hs; exact absurd rfl hs
  · rename_i b n hb; rw [hb]; simp
theorem quoted_back (z : Bs) : ∀ l : Bs, quotedL 34 (l.flatMap quoteB ++ 34 :: z) = some (l, (l.flatMap quoteB).length + 1)
  | [] => by
    show quotedL 34 (34 :: z) = some ([], 1)
    exact quoted_close 34 z
  | c :: r => by
    obtain ⟨h1, h2, h3⟩ := said_quoted c (r.flatMap quoteB ++ 34 :: z)
    rw [List.flatMap_cons, List.append_assoc]
    obtain ⟨x, y, hx⟩ := List.exists_cons_of_ne_nil h3
    have hlen : (quoteB c).length ≠ 0 := by rw [hx]; simp
    have e : quoteB c ++ (r.flatMap quoteB ++ 34 :: z) = x :: (y ++ (r.flatMap quoteB ++ 34 :: z)) := by rw [hx]; rfl
    rw [e] at h1 h2 ⊢
    have hx34 : x ≠ 34 := fun he => h2 (by rw [he]; rfl)
    rw [quoted_more hx34 (by rw [h1]; exact hlen), h1]
    have hd : (x :: (y ++ (r.flatMap quoteB ++ 34 :: z))).drop (quoteB c).length = r.flatMap quoteB ++ 34 :: z := by
      rw [← e, List.drop_left]
    rw [hd, quoted_back z r]
    simp
    omega

/-! ### digits -/
theorem valL_snoc (l : Bs) (c : UInt8) : valL (l ++ [c]) = valL l * 10 + (c.toNat - 48) := by
  unfold valL
  rw [List.foldl_append]
  rfl
theorem ofNat48 {m : Nat} (h : m < 10) : (UInt8.ofNat (48 + m)).toNat = 48 + m := by
  rw [UInt8.toNat_ofNat_of_lt' (by show 48 + m < 256; omega)]
theorem digit_of {m : Nat} (h : m < 10) : digitB (UInt8.ofNat (48 + m)) = true := by
  have := ofNat48 h
  unfold digitB
  simp only [Bool.and_eq_true, decide_eq_true_eq, UInt8.le_iff_toNat_le, this]
  exact ⟨by show 48 ≤ 48 + m; omega, by show 48 + m ≤ 57; omega⟩
theorem dec_val (n : Nat) : valL (Lib.decDigits n) = n := by
  induction n using Nat.strongRecOn with
  | _ n ih =>
    by_cases h : n < 10
    · rw [Lib.decDigits, dif_pos h]
      show 0 * 10 + ((UInt8.ofNat (48 + n)).toNat - 48) = n
      rw [ofNat48 h]
      omega
    · rw [Lib.decDigits, dif_neg h, valL_snoc, ih (n / 10) (by omega), ofNat48 (by omega)]
      omega
theorem dec_all (n : Nat) : (∀ c ∈ Lib.decDigits n, digitB c = true) ∧ Lib.decDigits n ≠ [] := by
  induction n using Nat.strongRecOn with
  | _ n ih =>
    by_cases h : n < 10
    · rw [Lib.decDigits, dif_pos h]
      refine ⟨fun c hc => ?_, by simp⟩
      obtain rfl : c = UInt8.ofNat (48 + n) := by simpa using hc
      exact digit_of h
    · rw [Lib.decDigits, dif_neg h]
      refine ⟨fun c hc => ?_, by simp⟩
      rcases List.mem_append.1 hc with hc | hc
      · exact (ih (n / 10) (by omega)).1 c hc
      · obtain rfl : c = UInt8.ofNat (48 + n % 10) := by simpa using hc
        exact digit_of (by omega)

/-- A number's digits: no blank, no line's end, no quote, no p; at least one. -/
def numC (c : UInt8) : Prop := c ≠ 32 ∧ c ≠ 10 ∧ c ≠ 34 ∧ c ≠ 112
theorem digit_numC {c : UInt8} (h : digitB c = true) : numC c := by
  rw [digitB_iff] at h
  refine ⟨fun e => ?_, fun e => ?_, fun e => ?_, fun e => ?_⟩ <;> (rw [e] at h; revert h; decide)
theorem itoa_numC (n : Int) : (∀ c ∈ Lib.itoa n, numC c) ∧ Lib.itoa n ≠ [] := by
  unfold Lib.itoa
  split
  · refine ⟨fun c hc => ?_, by simp⟩
    rcases List.mem_cons.1 hc with rfl | hc
    · exact ⟨by decide, by decide, by decide, by decide⟩
    · exact digit_numC ((dec_all _).1 c hc)
  · exact ⟨fun c hc => digit_numC ((dec_all _).1 c hc), (dec_all _).2⟩
theorem dec_inj {a b : Nat} (h : Lib.decDigits a = Lib.decDigits b) : a = b := by rw [← dec_val a, ← dec_val b, h]
theorem itoa_inj {a b : Int} (h : Lib.itoa a = Lib.itoa b) : a = b := by
  unfold Lib.itoa at h
  have no : ∀ k m, (45 : UInt8) :: Lib.decDigits k ≠ Lib.decDigits m := fun k m e => by
    have := (dec_all m).1 45 (by rw [← e]; simp)
    revert this
    decide
  split at h <;> split at h
  · have := dec_inj (List.cons.inj h).2
    omega
  · exact (no _ _ h).elim
  · exact (no _ _ h.symm).elim
  · have := dec_inj h
    omega
theorem split_at {s : UInt8} : ∀ {a b r r' : Bs}, (∀ c ∈ a, c ≠ s) → (∀ c ∈ b, c ≠ s) → a ++ s :: r = b ++ s :: r' → a = b ∧ r = r'
  | [], [], r, r', _, _, h => ⟨rfl, (List.cons.inj h).2⟩
  | [], c :: b, r, r', _, h2, h => (h2 c List.mem_cons_self (List.cons.inj h).1.symm).elim
  | c :: a, [], r, r', h1, _, h => (h1 c List.mem_cons_self (List.cons.inj h).1).elim
  | c :: a, d :: b, r, r', h1, h2, h => by
    obtain ⟨e, h⟩ := List.cons.inj h
    obtain ⟨e1, e2⟩ := split_at (fun x hx => h1 x (List.mem_cons_of_mem _ hx)) (fun x hx => h2 x (List.mem_cons_of_mem _ hx)) h
    exact ⟨by rw [e, e1], e2⟩
theorem spaced_cons (n : Int) (l : List Int) (r : Bs) : spaced (n :: l) ++ r = Lib.itoa n ++ 32 :: (spaced l ++ r) := by simp [spaced]
theorem itoa_head (n : Int) (r : Bs) : ∃ c t, Lib.itoa n ++ r = c :: t ∧ numC c := by
  obtain ⟨h1, h2⟩ := itoa_numC n
  cases e : Lib.itoa n with
  | nil => exact (h2 e).elim
  | cons c t => exact ⟨c, t ++ r, rfl, h1 c (by rw [e]; simp)⟩
theorem spaced_inj : ∀ {l m : List Int} {r r' : Bs}, spaced l ++ 34 :: r = spaced m ++ 34 :: r' → l = m ∧ r = r'
  | [], [], r, r', h => ⟨rfl, (List.cons.inj h).2⟩
  | [], n :: m, r, r', h => by
    rw [spaced_cons] at h
    obtain ⟨c, t, e, hc⟩ := itoa_head n (32 :: (spaced m ++ 34 :: r'))
    rw [e] at h
    exact (hc.2.2.1 (List.cons.inj h).1.symm).elim
  | n :: l, [], r, r', h => by
    rw [spaced_cons] at h
    obtain ⟨c, t, e, hc⟩ := itoa_head n (32 :: (spaced l ++ 34 :: r))
    rw [e] at h
    exact (hc.2.2.1 (List.cons.inj h).1).elim
  | n :: l, m :: k, r, r', h => by
    rw [spaced_cons, spaced_cons] at h
    obtain ⟨e1, e2⟩ := split_at (fun c hc => ((itoa_numC n).1 c hc).1) (fun c hc => ((itoa_numC m).1 c hc).1) h
    obtain ⟨e3, e4⟩ := spaced_inj e2
    exact ⟨by rw [itoa_inj e1, e3], e4⟩
theorem quote_inj {s t r r' : Bs} (h : s.flatMap quoteB ++ 34 :: r = t.flatMap quoteB ++ 34 :: r') : s = t ∧ r = r' := by
  have h1 := quoted_back r s
  rw [h, quoted_back r' t] at h1
  have h2 := Option.some.inj h1
  obtain rfl : t = s := congrArg Prod.fst h2
  exact ⟨rfl, (List.cons.inj (List.append_cancel_left h)).2⟩
theorem insT_form (x : Ins) (r : Bs) : insT x ++ r = spaced ([x.op, x.d, x.a, x.b, x.c, x.n] ++ x.l) ++ 34 :: (x.s.data.toList.flatMap quoteB ++ 34 :: (10 :: r)) := by
  unfold insT quoteL
  simp
theorem insT_inj {x y : Ins} {r r' : Bs} (h : insT x ++ r = insT y ++ r') : x = y ∧ r = r' := by
  rw [insT_form, insT_form] at h
  obtain ⟨e1, e2⟩ := spaced_inj h
  obtain ⟨e3, e4⟩ := quote_inj e2
  have e5 : x.s = y.s := by
    have : bs x.s.data.toList = bs y.s.data.toList := by rw [e3]
    rwa [bs_of, bs_of] at this
  simp only [List.cons_append, List.nil_append, List.cons.injEq] at e1
  obtain ⟨a1, a2, a3, a4, a5, a6, a7⟩ := e1
  refine ⟨?_, (List.cons.inj e4).2⟩
  cases x
  cases y
  simp_all
theorem insT_head (x : Ins) (r : Bs) : ∃ c t, insT x ++ r = c :: t ∧ c ≠ 112 := by
  rw [insT_form, List.cons_append, spaced_cons]
  obtain ⟨c, t, e, hc⟩ := itoa_head x.op (32 :: (spaced ([x.d, x.a, x.b, x.c, x.n] ++ x.l) ++ 34 :: (x.s.data.toList.flatMap quoteB ++ 34 :: (10 :: r))))
  exact ⟨c, t, e, hc.2.2.2⟩
/-- Nothing, or a proc's beginning. -/
def NoLine (r : Bs) : Prop := ∀ c t, r = c :: t → c = 112
theorem lines_inj : ∀ {a b : List Ins} {r r' : Bs}, NoLine r → NoLine r' → a.flatMap insT ++ r = b.flatMap insT ++ r' → a = b ∧ r = r'
  | [], [], r, r', _, _, h => ⟨rfl, h⟩
  | [], y :: b, r, r', h1, _, h => by
    rw [List.flatMap_cons, List.append_assoc] at h
    obtain ⟨c, t, e, hc⟩ := insT_head y (b.flatMap insT ++ r')
    rw [e] at h
    exact (hc (h1 c t h)).elim
  | x :: a, [], r, r', _, h2, h => by
    rw [List.flatMap_cons, List.append_assoc] at h
    obtain ⟨c, t, e, hc⟩ := insT_head x (a.flatMap insT ++ r)
    rw [e] at h
    exact (hc (h2 c t h.symm)).elim
  | x :: a, y :: b, r, r', h1, h2, h => by
    rw [List.flatMap_cons, List.flatMap_cons, List.append_assoc, List.append_assoc] at h
    obtain ⟨e1, e2⟩ := insT_inj h
    obtain ⟨e3, e4⟩ := lines_inj h1 h2 e2
    exact ⟨by rw [e1, e3], e4⟩
theorem procT_form (p : Proc) (r : Bs) : procT p ++ r = 112 :: 114 :: 111 :: 99 :: 32 :: (Lib.itoa p.regs ++ 10 :: (p.ins.flatMap insT ++ r)) := by simp [procT]
theorem code_noLine (l : List Proc) : NoLine (codeT l) := by
  intro c t h
  cases l with
  | nil => cases h
  | cons p r =>
    rw [show codeT (p :: r) = procT p ++ codeT r by simp [codeT], procT_form] at h
    exact (List.cons.inj h).1.symm
theorem codeT_inj : ∀ {l m : List Proc}, codeT l = codeT m → l = m
  | [], [], _ => rfl
  | [], p :: m, h => by
    rw [show codeT (p :: m) = procT p ++ codeT m by simp [codeT], procT_form] at h
    cases h
  | p :: l, [], h => by
    rw [show codeT (p :: l) = procT p ++ codeT l by simp [codeT], procT_form] at h
    cases h
  | p :: l, q :: m, h => by
    rw [show codeT (p :: l) = procT p ++ codeT l by simp [codeT], show codeT (q :: m) = procT q ++ codeT m by simp [codeT], procT_form, procT_form] at h
    simp only [List.cons.injEq, true_and] at h
    obtain ⟨e1, e2⟩ := split_at (fun c hc => ((itoa_numC p.regs).1 c hc).2.1) (fun c hc => ((itoa_numC q.regs).1 c hc).2.1) h
    obtain ⟨e3, e4⟩ := lines_inj (code_noLine l) (code_noLine m) e2
    rw [codeT_inj e4]
    congr 1
    cases p
    cases q
    simp only at e1 e3
    rw [itoa_inj e1, e3]
end Go.Proofs.YtconnhphkbgbkaaDoor
