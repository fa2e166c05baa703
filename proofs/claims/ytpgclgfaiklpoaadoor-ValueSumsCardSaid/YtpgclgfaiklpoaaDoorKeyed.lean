/- Numbers and their keys: value.digits, value.keyed. -/
import Derived.Test.YtpgclgfaiklpoaaDoorVal
import Derived.Laws.RangeString
import Derived.Laws.RangeAny
import Derived.WalkMore
import Derived.Deep.DeepMust
namespace Go.Proofs.YtpgclgfaiklpoaaDoor
open Go.RowKit Go.Proofs

theorem below_grow (w : World) (k : Nat) (os : Array Obj) : Below w.heap.size w (Sort.grow (w.drewN k) os) :=
  ⟨rfl, rfl, rfl, by simp [Sort.grow], fun i hi => by
    show (w.heap ++ os)[i]? = _
    rw [Array.getElem?_append_left hi]⟩
def kb (l : Bs) : ByteArray := ⟨l.toArray⟩
set_option maxHeartbeats 1000000 in
theorem digits_any (n : Int) (hn : I64 n) (w : World) (hE : Env w) : Calls Tryd.prog 29 #[.int .i64 n] w fun e w' => e = .returned (.string (kb (Lib.itoa n))) ∧ Below w.heap.size w w' := by
  have H := Lib.hid (Tryd.strconv_FormatInt_10 n hn.1 hn.2 w hE.1)
  go_enter Tryd.func29, Tryd.ntmps29
  go_wp2_with (go_at_call 37; refine H.out.mono ?_; rintro e w' ⟨rfl, k, os, rfl⟩)
  go_ret
  exact ⟨rfl, below_grow _ _ _⟩

theorem width_pos (s : ByteArray) (pos : Nat) (h : pos < s.size) : 1 ≤ (Utf8.decode s pos).2 := by
  by_cases ha : (s[pos]'h).toNat < 128
  · rw [decode_ascii s pos h ha]
    exact Nat.le_refl _
  · exact (decode_high s pos h (by omega)).2
/-- What comes next in a text. -/
theorem next_at (s : ByteArray) (p : Nat) (hp : p < s.size) (w : World) : ∃ (q r : Int) (wd : Nat), (∀ ty, (Instr.next (.pointer (some ⟨w.heap.size, 0, none⟩)) true ty).run Tryd.prog (w.iter s p) = .ok (.tuple #[.bool true, .int .i64 q, .int .i32 r]) (w.iter s (p + wd))) ∧ 1 ≤ wd ∧ 0 ≤ r ∧ r ≤ 2147483647 ∧ 0 ≤ q ∧ q ≤ s.size :=
  ⟨p, ((Utf8.decode s p).1 : Nat), _, fun ty => run_next_any w s p ty hp, width_pos s p hp, by omega, by have := decode_le s p; omega, by omega, by omega⟩
theorem below_iter (w : World) (s : ByteArray) (p : Nat) : Below w.heap.size w (w.iter s p) := (Below.refl _ _).alloc (Nat.le_refl _) _

theorem wrap_i64 (x : Int) : I64 (wrap64 x) := by unfold I64 wrap64; omega
theorem not_same {l : Bs} {s : ByteArray} (h : l ≠ s.data.toList) : ((kb l).toList == s.toList) = false := by
  rw [ByteArray.toList_eq, ByteArray.toList_eq]
  simpa [kb] using h
theorem is_same {l : Bs} {s : ByteArray} (h : l = s.data.toList) : ((kb l).toList == s.toList) = true := by
  rw [ByteArray.toList_eq, ByteArray.toList_eq]
  simpa [kb] using h

set_option maxRecDepth 100000 in
set_option maxHeartbeats 4000000 in
theorem keyed_not (s : ByteArray) (w : World) (hE : Env w) (hno : ∀ n, I64 n → Lib.itoa n ≠ s.data.toList) :
    Calls Tryd.prog 31 #[.string s] w fun e w' => e = .returned (.int .i64 0) ∧ Below w.heap.size w w' := by
  have HD := Lib.hid (fun (x : Int) (p : Nat) => digits_any (wrap64 x) (wrap_i64 x) (w.iter s p) (hE.kept (below_iter w s p)))
  have HN := Lib.hid (fun (x : Int) => not_same (hno (wrap64 x) (wrap_i64 x)))
  clear hno hE
  go_enter Tryd.func31, Tryd.ntmps31
  go_wp2
  go_step3
  go_wp2
  go_step3
  go_wp2
  go_loopw [3, 4] (fun n sg w' => ∃ (p : Nat) (a b : Int), w' = w.iter s p ∧ n = .int .i64 a ∧ sg = .int .i64 b ∧ I64 a ∧ I64 b) (fun _ _ w' => s.size - w'.iterPos w.heap.size)
  case atStart => exact ⟨0, 0, 1, rfl, rfl, rfl, ⟨by omega, by omega⟩, ⟨by omega, by omega⟩⟩
  case round =>
    obtain ⟨p, a, b, rfl, rfl, rfl, ha, hb⟩ := hrel
    obtain ⟨a1, a2⟩ := ha
    obtain ⟨b1, b2⟩ := hb
    have hN := HN.out (a * b)
    by_cases hp : p < s.size
    · obtain ⟨q, r, wd, hnx, hwd, r0, r1, q0, q1⟩ := next_at s p hp w
      by_cases hA : q = 0 ∧ r = 45
      · have e1 : (q == 0) = true := by simp [hA.1]
        have e2 : (r == 45) = true := by simp [hA.2]
        clear hA
        go_wp2
        go_roundw
        case rel => exact ⟨p + wd, a, -1, rfl, rfl, rfl, ⟨a1, a2⟩, ⟨by omega, by omega⟩⟩
        case measure =>
          simp
          omega
      by_cases hB : q < 20 ∧ 48 ≤ r ∧ r ≤ 57
      · obtain ⟨h1, h2, h3⟩ := hB
        have e1 : decide (q < 20) = true := by simpa using h1
        have e2 : decide (48 ≤ r) = true := by simpa using h2
        have e3 : decide (r ≤ 57) = true := by simpa using h3
        have e4 : (r == 45) = false := by simp; omega
        clear hA
        cases e5 : (q == 0)
        all_goals
          go_wp2
          go_roundw
          case rel => exact ⟨p + wd, _, b, rfl, rfl, rfl, wrap_i64 _, ⟨b1, b2⟩⟩
          case measure =>
            simp
            omega
      · have e6 : (q == 0) = true → (r == 45) = false := fun h => by
          simp at h
          simp
          exact fun h2 => hA ⟨h, h2⟩
        clear hA
        by_cases h1 : q < 20
        · have e1 : decide (q < 20) = true := by simpa using h1
          by_cases h2 : 48 ≤ r
          · have h3 : ¬ r ≤ 57 := fun h => hB ⟨h1, h2, h⟩
            have e2 : decide (48 ≤ r) = true := by simpa using h2
            have e3 : decide (r ≤ 57) = false := by simpa using h3
            clear hB
            cases e5 : (q == 0)
            case' true => have e7 := e6 e5
            all_goals
              clear e6
              go_wp2_with (go_at_call 29; refine (HD.out (a * b) (p + wd)).mono ?_; rintro e w' ⟨rfl, hb⟩)
              rw [Exit.noGoto_ret]
              go_ret
              exact ⟨rfl, (below_iter w s (p + wd)).trans (hb.mono (by simp [World.iter]))⟩
          · have e2 : decide (48 ≤ r) = false := by simpa using h2
            clear hB
            cases e5 : (q == 0)
            case' true => have e7 := e6 e5
            all_goals
              clear e6
              go_wp2_with (go_at_call 29; refine (HD.out (a * b) (p + wd)).mono ?_; rintro e w' ⟨rfl, hb⟩)
              rw [Exit.noGoto_ret]
              go_ret
              exact ⟨rfl, (below_iter w s (p + wd)).trans (hb.mono (by simp [World.iter]))⟩
        · have e1 : decide (q < 20) = false := by simpa using h1
          clear hB
          cases e5 : (q == 0)
          case' true => have e7 := e6 e5
          all_goals
            clear e6
            go_wp2_with (go_at_call 29; refine (HD.out (a * b) (p + wd)).mono ?_; rintro e w' ⟨rfl, hb⟩)
            rw [Exit.noGoto_ret]
            go_ret
            exact ⟨rfl, (below_iter w s (p + wd)).trans (hb.mono (by simp [World.iter]))⟩
    · have hnx : ∀ ty, (Instr.next (.pointer (some ⟨w.heap.size, 0, none⟩)) true ty).run Tryd.prog (w.iter s p) = _ := fun ty => run_next_end w s p ty hp
      go_wp2_with (go_at_call 29; refine (HD.out (a * b) p).mono ?_; rintro e w' ⟨rfl, hb⟩)
      rw [Exit.noGoto_ret]
      go_ret
      exact ⟨rfl, (below_iter w s p).trans (hb.mono (by simp [World.iter]))⟩

/-- A numeral's parts: is there a sign, and the digits. -/
theorem itoa_parts (n : Int) (h : I64 n) : (0 ≤ n ∧ Lib.itoa n = Lib.decDigits n.toNat ∧ n.toNat ≤ 9223372036854775807) ∨ (n < 0 ∧ Lib.itoa n = 45 :: Lib.decDigits n.natAbs ∧ n.natAbs ≤ 9223372036854775808) := by
  obtain ⟨h1, h2⟩ := h
  unfold Lib.itoa
  by_cases hn : n < 0
  · exact .inr ⟨hn, by rw [if_pos hn], by omega⟩
  · exact .inl ⟨by omega, by rw [if_neg hn], by omega⟩
theorem at_list {s : ByteArray} {l : Bs} (h : s.data.toList = l) (k : Nat) (hk : k < s.size) : ∃ hk' : k < l.length, s[k] = l[k] := by
  subst h
  exact ⟨by simpa using hk, by simp; rfl⟩
theorem next_digit (s : ByteArray) (p : Nat) (c : UInt8) (hp : p < s.size) (hc : s[p] = c) (h : c.toNat < 128) (w : World) : ∀ ty, (Instr.next (.pointer (some ⟨w.heap.size, 0, none⟩)) true ty).run Tryd.prog (w.iter s p) = .ok (.tuple #[.bool true, .int .i64 p, .int .i32 c.toNat]) (w.iter s (p + 1)) := by
  subst hc
  exact fun ty => run_next_ascii w s p ty hp h

/-- What the loop has gathered: of the digits l, behind a sign of m bytes. -/
def Gath (l : Bs) (k : Nat) (a : Int) : Prop := a = wrap64 (valL (l.take k) : Int)
theorem gath_succ {l : Bs} {k : Nat} {a : Int} (h : Gath l k a) (hk : k < l.length) (hl : valL l ≤ 9223372036854775808) (hd : Digs l) :
    I64 a ∧ I64 (a * 10) ∧ Gath l (k + 1) (wrap64 (a * 10 + ((l[k].toNat : Int) - 48))) := by
  have h1 := valL_take_succ l k hk
  have h2 := valL_take_le l (k + 1)
  have h3 := hd l[k] (List.getElem_mem hk)
  unfold Gath at h ⊢
  unfold I64
  have e : wrap64 (valL (l.take k) : Int) = valL (l.take k) := by unfold wrap64; omega
  rw [e] at h
  subst h
  refine ⟨⟨by omega, by omega⟩, ⟨by omega, by omega⟩, ?_⟩
  congr 1
  omega

set_option maxRecDepth 100000 in
set_option maxHeartbeats 4000000 in
theorem keyed_pos (u : Nat) (s : ByteArray) (w : World) (hE : Env w) (hu : u ≤ 9223372036854775807) (hs : s.data.toList = Lib.decDigits u) (hi : Lib.itoa u = Lib.decDigits u) :
    Calls Tryd.prog 31 #[.string s] w fun e w' => e = .returned (.int .i64 u) ∧ Below w.heap.size w w' := by
  have HD := Lib.hid (fun (p : Nat) => digits_any u ⟨by omega, by omega⟩ (w.iter s p) (hE.kept (below_iter w s p)))
  have HS := Lib.hid (is_same (l := Lib.itoa u) (s := s) (by rw [hi, hs]))
  have hlen := dec_len u (by omega)
  have hsz : s.size = (Lib.decDigits u).length := by rw [← hs]; simp
  have HU := Lib.hid (And.intro (show valL (Lib.decDigits u) ≤ 9223372036854775808 by rw [dec_val]; omega) (dec_digs u))
  have hs20 : s.size ≤ 20 := by omega
  have HL := Lib.hid hs
  have HV := Lib.hid hu
  have HZ := Lib.hid hsz
  clear hE hi hs hlen hu hsz
  go_enter Tryd.func31, Tryd.ntmps31
  go_wp2
  go_step3
  go_wp2
  go_step3
  go_wp2
  go_loopw [3, 4] (fun n sg w' => ∃ (p : Nat) (a : Int), w' = w.iter s p ∧ n = .int .i64 a ∧ sg = .int .i64 1 ∧ p ≤ s.size ∧ Gath (Lib.decDigits u) p a) (fun _ _ w' => s.size - w'.iterPos w.heap.size)
  case atStart => exact ⟨0, 0, rfl, rfl, rfl, by omega, by simp [Gath, valL, valF, wrap64]⟩
  case round =>
    obtain ⟨p, a, rfl, rfl, rfl, hp0, hg⟩ := hrel
    by_cases hp : p < s.size
    · obtain ⟨hk, hc⟩ := at_list HL.out p hp
      obtain ⟨⟨a1, a2⟩, ⟨a3, a4⟩, hg'⟩ := gath_succ hg hk HU.out.1 HU.out.2
      have hdig := HU.out.2 _ (List.getElem_mem hk)
      have hn0 := next_digit s p _ hp hc (by omega) w
      obtain ⟨r, hr⟩ : ∃ r : Int, r = ((Lib.decDigits u)[p].toNat : Int) := ⟨_, rfl⟩
      obtain ⟨q, hq⟩ : ∃ q : Int, q = (p : Int) := ⟨_, rfl⟩
      rw [← hr] at hg'
      have hnx : ∀ ty, (Instr.next (.pointer (some ⟨w.heap.size, 0, none⟩)) true ty).run Tryd.prog (w.iter s p) = .ok (.tuple #[.bool true, .int .i64 q, .int .i32 r]) (w.iter s (p + 1)) := by rw [hr, hq]; exact hn0
      have HG := Lib.hid hg'
      have e1 : decide (q < 20) = true := by simp; omega
      have e2 : decide (48 ≤ r) = true := by simp; omega
      have e3 : decide (r ≤ 57) = true := by simp; omega
      have e4 : (r == 45) = false := by simp; omega
      have r1 : 48 ≤ r := by omega
      have r2 : r ≤ 57 := by omega
      clear hg' hg hn0 hdig hr hq hc hk
      cases e5 : (q == 0)
      all_goals
        go_wp2
        go_roundw
        case rel => exact ⟨p + 1, _, rfl, rfl, rfl, by omega, HG.out⟩
        case measure =>
          simp
          omega
    · have hnx : ∀ ty, (Instr.next (.pointer (some ⟨w.heap.size, 0, none⟩)) true ty).run Tryd.prog (w.iter s p) = _ := fun ty => run_next_end w s p ty hp
      have ha : a = u := by
        have := HZ.out
        have := HV.out
        unfold Gath at hg
        rw [List.take_of_length_le (by omega), dec_val] at hg
        rw [hg]
        unfold wrap64
        omega
      have hw : wrap64 a = u := by
        have := HV.out
        rw [ha]
        unfold wrap64
        omega
      clear ha hg
      have hsame := HS.out
      go_wp2_with (go_at_call 29; refine (HD.out p).mono ?_; rintro e w' ⟨rfl, hb⟩)
      rw [Exit.noGoto_ret]
      go_ret
      exact ⟨rfl, (below_iter w s p).trans (hb.mono (by simp [World.iter]))⟩

set_option maxRecDepth 100000 in
set_option maxHeartbeats 4000000 in
theorem keyed_neg (u : Nat) (s : ByteArray) (w : World) (hE : Env w) (h1 : 1 ≤ u) (hu : u ≤ 9223372036854775808) (hs : s.data.toList = 45 :: Lib.decDigits u) (hi : Lib.itoa (-(u : Int)) = 45 :: Lib.decDigits u) :
    Calls Tryd.prog 31 #[.string s] w fun e w' => e = .returned (.int .i64 (-(u : Int))) ∧ Below w.heap.size w w' := by
  have HD := Lib.hid (fun (p : Nat) => digits_any (-(u : Int)) ⟨by omega, by omega⟩ (w.iter s p) (hE.kept (below_iter w s p)))
  have HS := Lib.hid (is_same (l := Lib.itoa (-(u : Int))) (s := s) (by rw [hi, hs]))
  have hlen := dec_len u (by omega)
  have hsz : s.size = (Lib.decDigits u).length + 1 := by
    have : s.data.toList.length = s.size := by simp
    rw [← this, hs]
    rfl
  have HU := Lib.hid (And.intro (show valL (Lib.decDigits u) ≤ 9223372036854775808 by rw [dec_val]; omega) (dec_digs u))
  have hs20 : s.size ≤ 20 := by omega
  have hs1 : 0 < s.size := by omega
  have HL := Lib.hid hs
  have HV := Lib.hid hu
  have HZ := Lib.hid hsz
  clear hE hi hs hlen hu hsz h1
  go_enter Tryd.func31, Tryd.ntmps31
  go_wp2
  go_step3
  go_wp2
  go_step3
  go_wp2
  go_loopw [3, 4] (fun n sg w' => ∃ (p : Nat) (a b : Int), w' = w.iter s p ∧ n = .int .i64 a ∧ sg = .int .i64 b ∧ p ≤ s.size ∧ ((p = 0 ∧ a = 0) ∨ ∃ k, p = k + 1 ∧ b = -1 ∧ Gath (Lib.decDigits u) k a)) (fun _ _ w' => s.size - w'.iterPos w.heap.size)
  case atStart => exact ⟨0, 0, 1, rfl, rfl, rfl, by omega, .inl ⟨rfl, rfl⟩⟩
  case round =>
    obtain ⟨p, a, b, rfl, rfl, rfl, hp0, hst⟩ := hrel
    rcases hst with ⟨rfl, rfl⟩ | ⟨k, rfl, rfl, hg⟩
    · obtain ⟨hk, hc⟩ := at_list HL.out 0 hs1
      have hnx0 := next_digit s 0 45 hs1 hc (by decide) w
      have hnx : ∀ ty, (Instr.next (.pointer (some ⟨w.heap.size, 0, none⟩)) true ty).run Tryd.prog (w.iter s 0) = .ok (.tuple #[.bool true, .int .i64 0, .int .i32 45]) (w.iter s (0 + 1)) := hnx0
      clear hnx0 hc hk
      go_wp2
      go_roundw
      case rel => exact ⟨0 + 1, 0, -1, rfl, rfl, rfl, by omega, .inr ⟨0, rfl, rfl, by simp [Gath, valL, valF, wrap64]⟩⟩
      case measure =>
        simp
        omega
    · by_cases hp : k + 1 < s.size
      · obtain ⟨hk1, hc⟩ := at_list HL.out (k + 1) hp
        have hk : k < (Lib.decDigits u).length := by simpa using hk1
        obtain ⟨⟨a1, a2⟩, ⟨a3, a4⟩, hg'⟩ := gath_succ hg hk HU.out.1 HU.out.2
        have hdig := HU.out.2 _ (List.getElem_mem hk)
        have hn0 := next_digit s (k + 1) (Lib.decDigits u)[k] hp hc (by omega) w
        obtain ⟨r, hr⟩ : ∃ r : Int, r = ((Lib.decDigits u)[k].toNat : Int) := ⟨_, rfl⟩
        obtain ⟨q, hq⟩ : ∃ q : Int, q = ((k + 1 : Nat) : Int) := ⟨_, rfl⟩
        rw [← hr] at hg'
        have hnx : ∀ ty, (Instr.next (.pointer (some ⟨w.heap.size, 0, none⟩)) true ty).run Tryd.prog (w.iter s (k + 1)) = .ok (.tuple #[.bool true, .int .i64 q, .int .i32 r]) (w.iter s (k + 1 + 1)) := by rw [hr, hq]; exact hn0
        have HG := Lib.hid hg'
        have e1 : decide (q < 20) = true := by simp; omega
        have e2 : decide (48 ≤ r) = true := by simp; omega
        have e3 : decide (r ≤ 57) = true := by simp; omega
        have e5 : (q == 0) = false := by simp; omega
        have r1 : 48 ≤ r := by omega
        have r2 : r ≤ 57 := by omega
        clear hg' hg hn0 hdig hr hq hc hk hk1
        go_wp2
        go_roundw
        case rel => exact ⟨k + 1 + 1, _, -1, rfl, rfl, rfl, by omega, .inr ⟨k + 1, rfl, rfl, HG.out⟩⟩
        case measure =>
          simp
          omega
      · have hnx : ∀ ty, (Instr.next (.pointer (some ⟨w.heap.size, 0, none⟩)) true ty).run Tryd.prog (w.iter s (k + 1)) = _ := fun ty => run_next_end w s (k + 1) ty hp
        have hw : wrap64 (a * -1) = -(u : Int) := by
          have := HZ.out
          have := HV.out
          unfold Gath at hg
          rw [List.take_of_length_le (by omega), dec_val] at hg
          rw [hg]
          unfold wrap64
          omega
        have hw' : wrap64 (-a) = -(u : Int) := by
          rw [← hw]
          congr 1
          omega
        have hsame := HS.out
        clear hg
        go_wp2_with (go_at_call 29; refine (HD.out (k + 1)).mono ?_; rintro e w' ⟨rfl, hb⟩)
        rw [Exit.noGoto_ret]
        go_ret
        exact ⟨rfl, (below_iter w s (k + 1)).trans (hb.mono (by simp [World.iter]))⟩

/-- value.keyed: the number whose key a text is; 0, if there is none. -/
theorem keyed_any (s : ByteArray) (w : World) (hE : Env w) :
    Calls Tryd.prog 31 #[.string s] w fun e w' => e = .returned (.int .i64 (numL s.data.toList)) ∧ Below w.heap.size w w' := by
  by_cases h : ∃ n, I64 n ∧ Lib.itoa n = s.data.toList
  · obtain ⟨n, hn, hi⟩ := h
    have e := numL_itoa n hn
    rw [hi] at e
    rw [e]
    rcases itoa_parts n hn with ⟨h1, h2, h3⟩ | ⟨h1, h2, h3⟩
    · obtain ⟨u, rfl⟩ : ∃ u : Nat, n = (u : Int) := ⟨n.toNat, by omega⟩
      simp only [Int.toNat_natCast] at h2 h3
      exact keyed_pos u s w hE h3 (by rw [← hi, h2]) h2
    · obtain ⟨u, rfl⟩ : ∃ u : Nat, n = -(u : Int) := ⟨n.natAbs, by omega⟩
      simp only [Int.natAbs_neg, Int.natAbs_natCast] at h2 h3
      exact keyed_neg u s w hE (by omega) h3 (by rw [← hi, h2]) h2
  · rw [numL_none _ (fun n hn hi => h ⟨n, hn, hi⟩)]
    exact keyed_not s w hE (fun n hn hi => h ⟨n, hn, hi⟩)
end Go.Proofs.YtpgclgfaiklpoaaDoor
