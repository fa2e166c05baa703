/- The law HeapChains' walk. -/
import Derived.Test.YtpbbinppikaamaaLawTwo
import Derived.Test.YtpbbinppikaamaaLawOrder
namespace Go.Proofs.Ytpbbinppikaamaa
open Go.RowKit Go.Proofs Go.Maps

theorem len_sub : ∀ (a b : List ByteArray), a.Nodup → (∀ x ∈ a, x ∈ b) → a.length ≤ b.length
  | [], _, _, _ => Nat.zero_le _
  | k :: r, b, hn, hs => by
    rw [List.nodup_cons] at hn
    obtain ⟨s, t, rfl⟩ := List.append_of_mem (hs k List.mem_cons_self)
    have h := len_sub r (s ++ t) hn.2 (fun x hx => by
      have hxb := hs x (List.mem_cons_of_mem _ hx)
      have hne : x ≠ k := fun e => hn.1 (e ▸ hx)
      simp at hxb ⊢
      rcases hxb with h | h | h
      · exact .inl h
      · exact absurd h hne
      · exact .inr h)
    simp at h ⊢
    omega
theorem mem_addL (acc l : List ByteArray) (s : ByteArray) : s ∈ addL acc l ↔ s ∈ acc ∨ s ∈ l := by
  induction l generalizing acc with
  | nil => simp [addL]
  | cons k r ih =>
    simp only [addL]
    split
    · rename_i hk
      rw [any_mem] at hk
      rw [ih]
      constructor
      · rintro (h | h)
        · exact .inl h
        · exact .inr (List.mem_cons_of_mem _ h)
      · rintro (h | h)
        · exact .inl h
        · rcases List.mem_cons.1 h with rfl | h
          · exact .inl hk
          · exact .inr h
    · rw [ih]
      simp
      constructor
      · rintro ((h | h) | h)
        · exact .inl h
        · exact .inr (.inl h)
        · exact .inr (.inr h)
      · rintro (h | h | h)
        · exact .inl (.inl h)
        · exact .inl (.inr h)
        · exact .inr h
theorem mem_allL (L : Hp) (s : ByteArray) : ∀ (idx : List Nat) (acc : List ByteArray), s ∈ allL L acc idx ↔ s ∈ acc ∨ ∃ i ∈ idx, s ∈ keysOf ((L[i]?).elim [] (·.kv))
  | [], _ => by simp [allL]
  | _ :: r, _ => by
    simp only [allL]
    rw [mem_allL L s r, mem_addL]
    simp [or_assoc]
theorem nodup_allL (L : Hp) : ∀ (idx : List Nat) (acc : List ByteArray), acc.Nodup → (allL L acc idx).Nodup
  | [], _, h => h
  | _ :: r, _, h => nodup_allL L r _ (nodup_addL _ _ h)
theorem getL_some (L : Hp) (s : ByteArray) : ∀ (idx : List Nat), (∃ i ∈ idx, s ∈ keysOf ((L[i]?).elim [] (·.kv))) → ∃ v, getL L s idx = some v
  | [], h => by simp at h
  | i :: r, h => by
    unfold getL
    cases e : lk ((L[i]?).elim [] (·.kv)) s with
    | some v => exact ⟨v, rfl⟩
    | none =>
      refine getL_some L s r ?_
      obtain ⟨j, hj, hs⟩ := h
      rcases List.mem_cons.1 hj with rfl | hj
      · have := (lk_isSome _ s).2 hs
        rw [e] at this
        cases this
      · exact ⟨j, hj, hs⟩
theorem get_all (L : Hp) (p : Int) (s : ByteArray) (h : s ∈ all L p) : ∃ v, get L p s = some v := by
  rcases (mem_allL L s _ _).1 h with h | h
  · simp at h
  · exact getL_some L s _ h
theorem all_grows {L : Hp} (hw : Wf L) {p : Nat} {o : Ob} (h : L[p]? = some o) : (all L o.proto).length ≤ (all L p).length := by
  refine len_sub _ _ (nodup_allL L _ _ (by simp)) (fun x hx => ?_)
  rcases (mem_allL L x _ _).1 hx with hx | ⟨i, hi, hs⟩
  · simp at hx
  · exact (mem_allL L x _ _).2 (.inr ⟨i, by rw [chain_some hw h]; exact List.mem_cons_of_mem _ hi, hs⟩)
theorem IsH.keyb {w : World} {F : Nat → Prop} {b T : Nat} {L : Hp} (h : IsH w F b T L) {i : Nat} {o : Ob} (ho : L[i]? = some o) : (∀ s ∈ keysOf o.kv, s.size ≤ maxLen) ∧ o.kv.length ≤ T := by
  obtain ⟨⟨v, sp, hh⟩, -⟩ := h
  obtain ⟨p, -, hob⟩ := hh.has ho
  exact ⟨hob.keyb, hob.small⟩
theorem IsH.allb {w : World} {F : Nat → Prop} {b T : Nat} {L : Hp} (h : IsH w F b T L) (p : Int) : ∀ s ∈ all L p, s.size ≤ maxLen := fun s hs => by
  rcases (mem_allL L s _ _).1 hs with h' | ⟨i, hi, h'⟩
  · simp at h'
  · cases e : L[i]? with
    | none => rw [e] at h'; simp [keysOf] at h'
    | some o =>
      rw [e] at h'
      exact (h.keyb e).1 s h'
theorem allL_len {w : World} {F : Nat → Prop} {b T : Nat} {L : Hp} (h : IsH w F b T L) : ∀ (idx : List Nat) (acc : List ByteArray), (allL L acc idx).length ≤ acc.length + idx.length * T
  | [], acc => by simp [allL]
  | i :: r, acc => by
    have h1 := allL_len h r (addL acc (keysOf ((L[i]?).elim [] (·.kv))))
    have h2 := addL_len acc (keysOf ((L[i]?).elim [] (·.kv)))
    have h3 : (keysOf ((L[i]?).elim [] (·.kv))).length ≤ T := by
      cases e : L[i]? with
      | none => simp [keysOf]
      | some o =>
        rw [keysOf_len]
        exact (h.keyb e).2
    simp only [allL, List.length_cons, Nat.add_mul, Nat.one_mul]
    omega
theorem IsH.all_len {w : World} {F : Nat → Prop} {b T : Nat} {L : Hp} (h : IsH w F b T L) (p : Int) : (all L p).length ≤ L.length * T := by
  have h1 := allL_len h (chain L p) []
  have h2 := Nat.mul_le_mul_right T (chain_len L p)
  simp at h1
  unfold all
  omega
theorem allocL_len (L : Hp) (a b c d : Int) : (allocL L a b c d).length ≤ L.length + 1 := by
  unfold allocL
  split <;> simp

/-- The law's state behind its acts. -/
def Fin (w1 : World) (B : Nat) (W : World) (F : Nat → Prop) (T : Nat) (L : Hp) : Prop := St w1 W F B T L [] ∧ T ≤ 62 ∧ L.length ≤ 64

set_option maxRecDepth 100000 in
set_option maxHeartbeats 8000000 in
theorem chains_walk (A : Option Addr) (len cap : Nat) (l : List Ac) (w : World) (hl : ActsAt w A len cap l) : Calls Try.prog 7 #[.slice A len cap] w fun e w' => e = .returned (.bool true) ∧ Below w.heap.size w w' := by
  have HS := Lib.hid (shown_any w)
  have HN := Lib.hid (fun w => New_any w)
  have HAc := Lib.hid hl
  have hlc := hl.2.1
  have hcm : cap ≤ 9223372036854775807 := hl.2.2.1
  clear hl
  go_enter Try.func7, Try.ntmps7
  go_wp2_with fail
  go_at_call 11
  refine (HS.out).mono ?_
  rintro e w1 ⟨rfl, hb0⟩
  have HB := Lib.hid hb0
  clear hb0 HS
  go_wp2_with fail
  go_at_call 12
  refine (HN.out _).mono ?_
  rintro e w2 ⟨B, rfl, hI, hB⟩
  have S0 := Lib.hid (St.start hI hB)
  clear hI hB HN
  go_wp2
  go_loopg [5] len (fun gn i wr => ∃ (k : Nat) (F : Nat → Prop) (T : Nat) (L : Hp), k ≤ len ∧ k ≤ 60 ∧ gn = len - k ∧ i = .int .i64 k ∧ St w1 wr F B T L [] ∧ T ≤ 2 + k ∧ L.length ≤ 4 + k)
  case atStart => exact ⟨0, _, 2, new0, by omega, by omega, rfl, rfl, S0.out, by omega, Nat.le_refl _⟩
  case round =>
    obtain ⟨k, F, T, L, hk, hk60, rfl, rfl, hS, hT, hLl⟩ := hrel
    by_cases hlt : k < len ∧ k < 60
    · obtain ⟨h1, h2⟩ := hlt
      obtain ⟨x, hx⟩ : ∃ x, l[k]? = some x := ⟨_, List.getElem?_eq_getElem (by rw [HAc.out.1]; exact h1)⟩
      obtain ⟨g, off, rfl, -⟩ := HAc.out.2.2.2.1 (by omega)
      have hbw : Below w.heap.size w wr := HB.out.trans (hS.below.mono HB.out.size)
      obtain ⟨⟨a0, a1, a2, a3, a4, a5⟩, ⟨a6, a7, a8, a9⟩, hkey, hdo⟩ := act_cells HAc.out hbw hx
      have hlt1 : (k : Int) < (len : Int) := by omega
      have hlt2 : (k : Int) < 60 := by omega
      have S := Lib.hid hS
      have HK := Lib.hid (And.intro hT hLl)
      clear hS hT hLl hx hbw
      obtain ⟨xd, xp, xm, xr, xc, xf, xkey, xv⟩ := x
      obtain ⟨vk, vn, vs⟩ := xv
      simp only at a0 a1 a2 a3 a4 a5 a6 a7 a8 a9 hkey hdo
      cases hkd : ((IntKind.u64.wrap xd).tmod 3 == 0) with
      | true =>
        have HC := Lib.hid (Alloc_any xm xr xc xf wr S.out.heap)
        go_wp2_with fail
        go_at_call 23
        refine (HC.out).mono ?_
        rintro e w4 ⟨rfl, hI, ho⟩
        have HZ := Lib.hid (S.out.turn hI ho)
        clear hI ho
        go_wp2
        go_roundg (len - (k + 1))
        case measure => omega
        case rel => exact ⟨k + 1, _, T, _, by omega, by omega, rfl, by go_num, HZ.out, by have := HK.out.1; omega, by have := HK.out.2; have := allocL_len L xm xr xc xf; omega⟩
      | false =>
        have HC := Lib.hid (Put_any xp xkey ⟨vk, vn, vs⟩ wr.drew (T := T) (S.out.heap.keep (w' := wr.drew) (fun _ _ => rfl) (Nat.le_refl _)) hkey (by have := HK.out.1; omega))
        simp only [V.v] at HC
        go_wp2_with fail
        go_still_tail 16, (by kernel_rfl)
        change wpList _ _ _ _ _ wr.drew
        go_wp2_with fail
        go_at_call 26
        refine (HC.out).mono ?_
        rintro e w4 ⟨rfl, hI, ho⟩
        have HZ := Lib.hid (S.out.turn (W' := w4) hI ⟨ho.os, ho.tape, ho.output, ho.size, ho.block⟩)
        clear hI ho
        go_wp2
        go_roundg (len - (k + 1))
        case measure => omega
        case rel => exact ⟨k + 1, _, T + 1, _, by omega, by omega, rfl, by go_num, HZ.out, by have := HK.out.1; omega, by rw [putL_len]; have := HK.out.2; omega⟩
    · have HF := Lib.hid (⟨hS, by omega, by omega⟩ : Fin w1 B wr F T L)
      have hend : (¬ (k : Int) < (len : Int)) ∨ ((k : Int) < (len : Int) ∧ ¬ (k : Int) < 60) := by
        by_cases h1 : k < len
        · exact .inr ⟨by omega, fun h => hlt ⟨h1, by omega⟩⟩
        · exact .inl (by omega)
      clear hS hT hLl hlt
      obtain ⟨W0, hW0⟩ : ∃ x, x = wr := ⟨_, rfl⟩
      subst hW0
      rcases hend with hend | ⟨hend, hend2⟩
      all_goals
        go_wp2
        go_loopg [6] L.length (fun gn i wx => ∃ (p : Nat), p ≤ L.length ∧ gn = L.length - p ∧ i = .int .i64 p ∧ Fin w1 B wx F T L)
        case atStart => exact ⟨0, Nat.zero_le _, rfl, rfl, HF.out⟩
        case round =>
          obtain ⟨p, hp, rfl, rfl, hF⟩ := hrel
          obtain ⟨W1, hW1⟩ : ∃ x, x = wr := ⟨_, rfl⟩
          subst hW1
          have HL := Lib.hid (len_any _ hF.1.heap)
          by_cases hpl : p < L.length
          · obtain ⟨o, ho⟩ : ∃ o, L[p]? = some o := ⟨_, List.getElem?_eq_getElem hpl⟩
            have hpr := hF.1.heap.2.1 p o ho
            have hp64 : p ≤ 64 := by have := hF.2.2; omega
            have hTL : L.length * T ≤ 64 * 62 := Nat.mul_le_mul hF.2.2 hF.2.1
            have HO := Lib.hid (Obj_any (p : Int) _ hF.1.heap)
            rw [show objV L (p : Int) = o.obj by simp [objV, at?_nat, ho], show objE L (p : Int) = 0 by simp [objE, at?_nat, ho]] at HO
            have HAL := Lib.hid (And.intro (hF.1.heap.allb (p : Int)) (And.intro (get_all L (p : Int)) (And.intro (all_grows hF.1.heap.2.1 ho) (Nat.le_trans (hF.1.heap.all_len (p : Int)) hTL))))
            have HFF := Lib.hid hF
            obtain ⟨om, op, oc, of, okv⟩ := o
            simp only [Ob.obj] at HO HAL hpr
            have hpl' : (p : Int) < (L.length : Int) := by omega
            have d1 : decide ((p : Int) ≤ op) = false := decide_eq_false (by omega)
            have d2 : decide (op < -1) = false := decide_eq_false (by omega)
            clear hF ho
            go_wp2_with fail
            go_at_call 15
            refine (HL.out).mono ?_
            rintro e w' ⟨rfl, rfl⟩
            go_wp2_with fail
            go_at_call 16
            refine (HO.out).mono ?_
            rintro e W2 ⟨rfl, hb⟩
            have S2 := Lib.hid ((HFF.out.1.move hb).move (below_box W2 (.cells #[.int .i64 om, .int .i64 op, .int .i64 oc, .int .i64 of] 30)))
            have HA := Lib.hid (All_any (p : Int) _ S2.out.heap (Nat.le_trans hTL (by decide)))
            have b1 : (W2.alloc (.cells #[.int .i64 om, .int .i64 op, .int .i64 oc, .int .i64 of] 30)).cell? ⟨W2.heap.size, 1, none⟩ = some (.int .i64 op) := World.cell?_alloc_new W2 _ _ 1
            clear hb HO HL
            go_wp2_with fail
            go_at_call 21
            refine (HA.out).mono ?_
            rintro e W3 ⟨v, rfl, hv, hb⟩
            have S3 := Lib.hid (S2.out.move hb)
            have hl3 : W2.heap.size < W3.heap.size := by have := hb.size; simp at this; omega
            have e1 : W3.cell? ⟨W2.heap.size, 1, none⟩ = some (.int .i64 op) := (hb.cell (p := ⟨W2.heap.size, 1, none⟩) (by simp)).trans b1
            have hsr := SRead.strs hv
            clear b1 hb hv HA S2
            generalize all L (p : Int) = al at hsr HAL
            obtain ⟨A3, c3, rfl, hn3⟩ := hsr.form
            obtain ⟨n3, en3⟩ : ∃ n, al.length = n := ⟨_, rfl⟩
            have hn3m : n3 ≤ 64 * 62 := by rw [← en3]; exact HAL.out.2.2.2
            rw [en3] at hn3 hsr ⊢
            have HSR := Lib.hid (And.intro hsr en3)
            clear hsr en3
            go_wp2
            go_loopg [10] n3 (fun gn i wx => ∃ (j : Nat), j ≤ n3 ∧ gn = n3 - j ∧ i = .int .i64 j ∧ St w1 wx F B T L [] ∧ Below W3.heap.size W3 wx)
            case atStart => exact ⟨0, Nat.zero_le _, rfl, rfl, S3.out, Below.refl _ _⟩
            case round =>
              obtain ⟨j, hj, rfl, rfl, hS4, hB4⟩ := hrel
              have e4 : wr.cell? ⟨W2.heap.size, 1, none⟩ = some (.int .i64 op) := (hB4.cell (p := ⟨W2.heap.size, 1, none⟩) hl3).trans e1
              have HS4 := Lib.hid (And.intro hS4 hB4)
              by_cases hjn : j < n3
              · obtain ⟨gA, y, rfl, hy, cy0⟩ := HSR.out.1.at (k := j) (by rw [HSR.out.2]; exact hjn)
                have cy : wr.cell? ⟨gA, j, none⟩ = some (.string y) := (hB4.cell (p := ⟨gA, j, none⟩) (World.block_lt_of_cell? _ _ cy0)).trans cy0
                have hym := List.mem_of_getElem? hy
                obtain ⟨vg, hvg⟩ := HAL.out.2.1 y hym
                have HG := Lib.hid (Get_any (p : Int) y wr hS4.heap (HAL.out.1 y hym))
                rw [hvg] at HG
                obtain ⟨gk, gn, gs⟩ := vg
                simp only [ans, V.v, Option.getD_some, Option.isSome_some] at HG
                have hjn' : (j : Int) < (n3 : Int) := by omega
                clear hS4 hB4 hy cy0 hym hvg
                go_wp2_with fail
                go_at_call 25
                refine (HG.out).mono ?_
                rintro e W5 ⟨rfl, hb⟩
                have HZ := Lib.hid (And.intro ((HS4.out.1.move hb).move (below_box W5 (.cells #[.int .i64 gk, .int .i64 gn, .string gs] 32))) ((HS4.out.2.trans (hb.mono HS4.out.2.size)).trans ((below_box W5 (.cells #[.int .i64 gk, .int .i64 gn, .string gs] 32)).mono (by have := HS4.out.2.size; have := hb.size; omega))))
                clear hb
                go_wp2
                go_roundg (n3 - (j + 1))
                case measure => omega
                case rel => exact ⟨j + 1, by omega, rfl, by go_num, HZ.out⟩
              · obtain rfl : j = n3 := by omega
                have hend2 : ¬ (j : Int) < (j : Int) := by omega
                clear hS4 hB4
                by_cases h0 : 0 ≤ op
                · have d3 : decide (0 ≤ op) = true := decide_eq_true h0
                  have HA2 := Lib.hid (All_any op _ HS4.out.1.heap (Nat.le_trans hTL (by decide)))
                  go_wp2_with fail
                  go_at_call 21
                  refine (HA2.out).mono ?_
                  rintro e W5 ⟨v5, rfl, hv, hb⟩
                  obtain ⟨A5, c5, rfl, -⟩ := (SRead.strs hv).form
                  have hle := HAL.out.2.2.1
                  rw [HSR.out.2] at hle
                  have HZ := Lib.hid (HS4.out.1.move hb)
                  have d5 : decide (j < (all L op).length) = false := decide_eq_false (by omega)
                  have d6 : ¬ (j : Int) < ((all L op).length : Int) := by omega
                  clear hv hb hle
                  go_wp2
                  go_roundg (L.length - (p + 1))
                  case measure => omega
                  case rel => exact ⟨p + 1, by omega, rfl, by go_num, HZ.out, HFF.out.2⟩
                · have d3 : decide (0 ≤ op) = false := decide_eq_false h0
                  go_wp2
                  go_roundg (L.length - (p + 1))
                  case measure => omega
                  case rel => exact ⟨p + 1, by omega, rfl, by go_num, HS4.out.1, HFF.out.2⟩
          · obtain rfl : p = L.length := by omega
            have HFF := Lib.hid hF
            have hend3 : ¬ (L.length : Int) < (L.length : Int) := by omega
            clear hF
            go_wp2_with fail
            go_at_call 15
            refine (HL.out).mono ?_
            rintro e w' ⟨rfl, rfl⟩
            go_wp2
            go_ret
            exact ⟨rfl, HB.out.trans (HFF.out.1.below.mono HB.out.size)⟩

end Go.Proofs.Ytpbbinppikaamaa
