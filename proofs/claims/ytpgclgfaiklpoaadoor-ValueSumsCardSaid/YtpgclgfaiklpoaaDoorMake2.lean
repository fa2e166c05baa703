/- What each sign makes of two values: texts, orders, sameness. -/
import Derived.Test.YtpgclgfaiklpoaaDoorMake
namespace Go.Proofs.YtpgclgfaiklpoaaDoor
open Go.RowKit Go.Proofs

theorem J.key_size (j : J) (h : j.ok) : j.key.size ≤ 281474976710656 := by
  rcases j with _ | _ | (_ | _) | n | s | n
  case num =>
    have := (itoa_len n h).2
    show (kb _).size ≤ _
    rw [kb_size]
    omega
  case text => exact h
  all_goals simp [J.key, ByteArray.size]
set_option maxRecDepth 100000 in
set_option maxHeartbeats 4000000 in
theorem sum_text (a b : J) (ha : a.ok) (hb : b.ok) (w : World) (hE : Env w) (hyes : (a.isText || b.isText) = true) : Calls Tryd.prog 38 #[a.v, b.v] w fun e w' => e = .returned (J.text (a.key ++ b.key)).v ∧ Below w.heap.size w w' := by
  obtain ⟨k, n, s, hv, hk⟩ := a.shape2
  obtain ⟨k', n', s', hv', hk'⟩ := b.shape2
  have hsum : ¬ 9223372036854775807 < a.key.size + b.key.size := by
    have := a.key_size ha
    have := b.key_size hb
    omega
  have HE := Lib.hid (fun (w' : World) (hb : Below w.heap.size w w') => hE.kept hb)
  have HA := Lib.hid (fun w hE => key_any a ha w hE)
  have HA' := Lib.hid (fun w hE => key_any b hb w hE)
  have HM := Lib.hid (fun w => text_any (a.key ++ b.key) w)
  have HB := Lib.hid (three_box w (boxO k n s) (boxO k' n' s') zeroO).drew
  have HR := Lib.hid (res_mk w (boxO k n s) (boxO k' n' s'))
  have HS := Lib.hid (six_mk3 w k n s k' n' s')
  rw [hv] at HA ⊢
  rw [hv'] at HA' ⊢
  rw [← hk, ← hk'] at hyes
  simp only [J.v] at HM ⊢
  generalize a.key = x at HA HM hsum ⊢
  generalize b.key = y at HA' HM hsum ⊢
  clear hv hv' ha hb hE hk hk'
  have n1 : ¬ w.heap.size = w.heap.size + 1 + 1 := by omega
  have n2 : ¬ w.heap.size + 1 + 1 = w.heap.size := by omega
  have hte : (k == 4) = true ∨ (k == 4) = false ∧ (k' == 4) = true := by
    revert hyes
    cases (k == 4) <;> cases (k' == 4) <;> simp
  clear hyes
  rcases hte with e1 | ⟨e1, e2⟩
  all_goals
    go_enter Tryd.func38, Tryd.ntmps38
    go_wp2_with fail
    obtain ⟨⟨a0, a1, a2⟩, ⟨b0, b1, b2⟩⟩ := HS.out
    have HD1 := Lib.hid (HA.out _ (HE.out _ HB.out))
    go_region_held3 (fun w' => (w'.cell? ⟨w.heap.size, 0, none⟩ = some (.int .i64 k) ∧ w'.cell? ⟨w.heap.size, 1, none⟩ = some (.int .i64 n) ∧ w'.cell? ⟨w.heap.size, 2, none⟩ = some (.string s)) ∧ (w'.cell? ⟨w.heap.size + 1, 0, none⟩ = some (.int .i64 k') ∧ w'.cell? ⟨w.heap.size + 1, 1, none⟩ = some (.int .i64 n') ∧ w'.cell? ⟨w.heap.size + 1, 2, none⟩ = some (.string s')))
      (first | go_keep | exact HS3.out | exact HS2.out | exact HS1.out)
      (first
        | (go_at_call 14; refine (HD1.out).mono ?_; rintro e w1 ⟨rfl, hb1⟩; obtain ⟨HB1, HS1, HR1⟩ := stepD HB.out HS.out HR.out hb1; clear hb1 HD1; have HD2 := Lib.hid (HA'.out _ (HE.out _ HB1.out)))
        | (go_at_call 14; refine (HD2.out).mono ?_; rintro e w2 ⟨rfl, hb2⟩; obtain ⟨HB2, HS2, HR2⟩ := stepD HB1.out HS1.out HR1.out hb2; clear hb2 HD2)
        | (go_at_call 33; refine (HM.out _).mono ?_; rintro e w3 ⟨rfl, hb3⟩; obtain ⟨HB3, HS3, HR3⟩ := stepD HB2.out HS2.out HR2.out hb3; clear hb3; obtain ⟨⟨x0, x1, x2⟩, ⟨y0, y1, y2⟩⟩ := HS3.out; obtain ⟨⟨r0, r1, r2⟩, ⟨f0, f1, f2⟩⟩ := HR3.out))
    go_wp2
    exact bodyPost_ret (v := .agg #[.int .i64 4, .int .i64 0, .string (x ++ y)]) (by simp [results, Tryd.results38, go_sem, r0, r1, r2]) rfl ⟨rfl, set3 HB3.out _ (by omega) _ _ _⟩
set_option maxRecDepth 100000 in
set_option maxHeartbeats 4000000 in
theorem lt_any (a b : J) (ha : a.ok) (hb : b.ok) (w : World) (hE : Env w) : Calls Tryd.prog 41 #[a.v, b.v] w fun e w' => e = .returned (J.bool (decide (ordJ a b < 0))).v ∧ Below w.heap.size w w' := by
  obtain ⟨k, n, s, hv⟩ := a.shape
  obtain ⟨k', n', s', hv'⟩ := b.shape
  have HE := Lib.hid (fun (w' : World) (hb : Below w.heap.size w w') => hE.kept hb)
  have HA := Lib.hid (fun w hE => order_any a b ha hb w hE)
  have HM := Lib.hid (fun w => truth_any (decide (ordJ a b < 0)) w)
  have HB := Lib.hid (three_box w (boxO k n s) (boxO k' n' s') zeroO)
  have HR := Lib.hid (res_mk w (boxO k n s) (boxO k' n' s'))
  have HS := Lib.hid (six_mk3 w k n s k' n' s')
  rw [hv, hv'] at HA ⊢
  generalize ordJ a b = x at HA HM ⊢
  clear hv hv' ha hb hE
  cases hx : decide (x < 0)
  all_goals
    rw [hx] at HM
    simp only [J.v] at HM ⊢
    go_enter Tryd.func41, Tryd.ntmps41
    go_wp2_with fail
    go_at_call 42
    refine (HA.out _ (HE.out _ HB.out)).mono ?_
    rintro e w1 ⟨rfl, hb1⟩
    obtain ⟨HB1, HS1, HR1⟩ := stepD HB.out HS.out HR.out hb1
    clear hb1
    go_wp2_with fail
    go_at_call 28
    refine (HM.out _).mono ?_
    rintro e w2 ⟨rfl, hb2⟩
    obtain ⟨HB2, HS2, HR2⟩ := stepD HB1.out HS1.out HR1.out hb2
    clear hb2
    obtain ⟨⟨r0, r1, r2⟩, ⟨f0, f1, f2⟩⟩ := HR2.out
    go_wp2
  · exact bodyPost_ret (v := .agg #[.int .i64 2, .int .i64 0, .string ⟨#[]⟩]) (by simp [results, Tryd.results41, go_sem, r0, r1, r2]) rfl ⟨rfl, set3 HB2.out _ (by omega) _ _ _⟩
  · exact bodyPost_ret (v := .agg #[.int .i64 2, .int .i64 1, .string ⟨#[]⟩]) (by simp [results, Tryd.results41, go_sem, r0, r1, r2]) rfl ⟨rfl, set3 HB2.out _ (by omega) _ _ _⟩
set_option maxRecDepth 100000 in
set_option maxHeartbeats 4000000 in
theorem le_any (a b : J) (ha : a.ok) (hb : b.ok) (w : World) (hE : Env w) : Calls Tryd.prog 43 #[a.v, b.v] w fun e w' => e = .returned (J.bool (decide (ordJ a b ≤ 0))).v ∧ Below w.heap.size w w' := by
  obtain ⟨k, n, s, hv⟩ := a.shape
  obtain ⟨k', n', s', hv'⟩ := b.shape
  have HE := Lib.hid (fun (w' : World) (hb : Below w.heap.size w w') => hE.kept hb)
  have HA := Lib.hid (fun w hE => order_any a b ha hb w hE)
  have HM := Lib.hid (fun w => truth_any (decide (ordJ a b ≤ 0)) w)
  have HB := Lib.hid (three_box w (boxO k n s) (boxO k' n' s') zeroO)
  have HR := Lib.hid (res_mk w (boxO k n s) (boxO k' n' s'))
  have HS := Lib.hid (six_mk3 w k n s k' n' s')
  rw [hv, hv'] at HA ⊢
  generalize ordJ a b = x at HA HM ⊢
  clear hv hv' ha hb hE
  cases hx : decide (x ≤ 0)
  all_goals
    rw [hx] at HM
    simp only [J.v] at HM ⊢
    go_enter Tryd.func43, Tryd.ntmps43
    go_wp2_with fail
    go_at_call 42
    refine (HA.out _ (HE.out _ HB.out)).mono ?_
    rintro e w1 ⟨rfl, hb1⟩
    obtain ⟨HB1, HS1, HR1⟩ := stepD HB.out HS.out HR.out hb1
    clear hb1
    go_wp2_with fail
    go_at_call 28
    refine (HM.out _).mono ?_
    rintro e w2 ⟨rfl, hb2⟩
    obtain ⟨HB2, HS2, HR2⟩ := stepD HB1.out HS1.out HR1.out hb2
    clear hb2
    obtain ⟨⟨r0, r1, r2⟩, ⟨f0, f1, f2⟩⟩ := HR2.out
    go_wp2
  · exact bodyPost_ret (v := .agg #[.int .i64 2, .int .i64 0, .string ⟨#[]⟩]) (by simp [results, Tryd.results43, go_sem, r0, r1, r2]) rfl ⟨rfl, set3 HB2.out _ (by omega) _ _ _⟩
  · exact bodyPost_ret (v := .agg #[.int .i64 2, .int .i64 1, .string ⟨#[]⟩]) (by simp [results, Tryd.results43, go_sem, r0, r1, r2]) rfl ⟨rfl, set3 HB2.out _ (by omega) _ _ _⟩

/-- A value's parts. -/
def J.k : J → Int
  | .undef => 0
  | .null => 1
  | .bool _ => 2
  | .num _ => 3
  | .text _ => 4
  | .ref _ => 5
def J.n : J → Int
  | .bool true => 1
  | .num n => n
  | .ref n => n
  | _ => 0
def J.s : J → ByteArray
  | .text s => s
  | _ => ⟨#[]⟩
theorem J.v_eq (j : J) : j.v = .agg #[.int .i64 j.k, .int .i64 j.n, .string j.s] := by
  rcases j with _ | _ | (_ | _) | n | s | n
  all_goals rfl
/-- Are two values' parts alike. -/
def sameP (k n : Int) (s : ByteArray) (k' n' : Int) (s' : ByteArray) : Bool := k == k' && n == n' && s.toList == s'.toList
def sameJ (a b : J) : Bool := sameP a.k a.n a.s b.k b.n b.s
theorem sameP_cases (k n : Int) (s : ByteArray) (k' n' : Int) (s' : ByteArray) :
    (k = k' ∧ n = n' ∧ s.toList = s'.toList ∧ sameP k n s k' n' s' = true) ∨ (k = k' ∧ n = n' ∧ ¬ s.toList = s'.toList ∧ sameP k n s k' n' s' = false) ∨ (k = k' ∧ ¬ n = n' ∧ sameP k n s k' n' s' = false) ∨ (¬ k = k' ∧ sameP k n s k' n' s' = false) := by
  by_cases h1 : k = k' <;> by_cases h2 : n = n' <;> by_cases h3 : s.toList = s'.toList <;> simp [sameP, h1, h2, h3]
set_option maxRecDepth 100000 in
set_option maxHeartbeats 4000000 in
theorem eq_any (a b : J) (w : World) : Calls Tryd.prog 44 #[a.v, b.v] w fun e w' => e = .returned (J.bool (sameJ a b)).v ∧ Below w.heap.size w w' := by
  rw [J.v_eq a, J.v_eq b]
  unfold sameJ
  generalize a.k = k
  generalize a.n = n
  generalize a.s = s
  generalize b.k = k'
  generalize b.n = n'
  generalize b.s = s'
  rcases sameP_cases k n s k' n' s' with ⟨rfl, rfl, e, es⟩ | ⟨rfl, rfl, e, es⟩ | ⟨rfl, e, es⟩ | ⟨e, es⟩
  · rw [es]
    have HM := Lib.hid (fun w => truth_any (true) w)
    have HB := Lib.hid (three_box w (boxO k n s) (boxO k n s') zeroO)
    have HR := Lib.hid (res_mk w (boxO k n s) (boxO k n s'))
    simp only [J.v] at HM ⊢
    clear es
    go_enter Tryd.func44, Tryd.ntmps44
    go_wp2_with fail
    go_at_call 28
    refine (HM.out _).mono ?_
    rintro e w2 ⟨rfl, hb2⟩
    have HB2 := Lib.hid (HB.out.trans (hb2.mono HB.out.size))
    obtain ⟨⟨r0, r1, r2⟩, ⟨f0, f1, f2⟩⟩ := HR.out.below hb2
    clear hb2
    go_wp2
    exact bodyPost_ret (v := .agg #[.int .i64 2, .int .i64 1, .string ⟨#[]⟩]) (by simp [results, Tryd.results44, go_sem, r0, r1, r2]) rfl ⟨rfl, set3 HB2.out _ (by omega) _ _ _⟩
  · rw [es]
    have HM := Lib.hid (fun w => truth_any (false) w)
    have HB := Lib.hid (three_box w (boxO k n s) (boxO k n s') zeroO)
    have HR := Lib.hid (res_mk w (boxO k n s) (boxO k n s'))
    simp only [J.v] at HM ⊢
    clear es
    go_enter Tryd.func44, Tryd.ntmps44
    go_wp2_with fail
    go_at_call 28
    refine (HM.out _).mono ?_
    rintro e w2 ⟨rfl, hb2⟩
    have HB2 := Lib.hid (HB.out.trans (hb2.mono HB.out.size))
    obtain ⟨⟨r0, r1, r2⟩, ⟨f0, f1, f2⟩⟩ := HR.out.below hb2
    clear hb2
    go_wp2
    exact bodyPost_ret (v := .agg #[.int .i64 2, .int .i64 0, .string ⟨#[]⟩]) (by simp [results, Tryd.results44, go_sem, r0, r1, r2]) rfl ⟨rfl, set3 HB2.out _ (by omega) _ _ _⟩
  · rw [es]
    have HM := Lib.hid (fun w => truth_any (false) w)
    have HB := Lib.hid (three_box w (boxO k n s) (boxO k n' s') zeroO)
    have HR := Lib.hid (res_mk w (boxO k n s) (boxO k n' s'))
    simp only [J.v] at HM ⊢
    clear es
    go_enter Tryd.func44, Tryd.ntmps44
    go_wp2_with fail
    go_at_call 28
    refine (HM.out _).mono ?_
    rintro e w2 ⟨rfl, hb2⟩
    have HB2 := Lib.hid (HB.out.trans (hb2.mono HB.out.size))
    obtain ⟨⟨r0, r1, r2⟩, ⟨f0, f1, f2⟩⟩ := HR.out.below hb2
    clear hb2
    go_wp2
    exact bodyPost_ret (v := .agg #[.int .i64 2, .int .i64 0, .string ⟨#[]⟩]) (by simp [results, Tryd.results44, go_sem, r0, r1, r2]) rfl ⟨rfl, set3 HB2.out _ (by omega) _ _ _⟩
  · rw [es]
    have HM := Lib.hid (fun w => truth_any (false) w)
    have HB := Lib.hid (three_box w (boxO k n s) (boxO k' n' s') zeroO)
    have HR := Lib.hid (res_mk w (boxO k n s) (boxO k' n' s'))
    simp only [J.v] at HM ⊢
    clear es
    go_enter Tryd.func44, Tryd.ntmps44
    go_wp2_with fail
    go_at_call 28
    refine (HM.out _).mono ?_
    rintro e w2 ⟨rfl, hb2⟩
    have HB2 := Lib.hid (HB.out.trans (hb2.mono HB.out.size))
    obtain ⟨⟨r0, r1, r2⟩, ⟨f0, f1, f2⟩⟩ := HR.out.below hb2
    clear hb2
    go_wp2
    exact bodyPost_ret (v := .agg #[.int .i64 2, .int .i64 0, .string ⟨#[]⟩]) (by simp [results, Tryd.results44, go_sem, r0, r1, r2]) rfl ⟨rfl, set3 HB2.out _ (by omega) _ _ _⟩
set_option maxRecDepth 100000 in
set_option maxHeartbeats 4000000 in
theorem ne_any (a b : J) (w : World) : Calls Tryd.prog 45 #[a.v, b.v] w fun e w' => e = .returned (J.bool (!sameJ a b)).v ∧ Below w.heap.size w w' := by
  rw [J.v_eq a, J.v_eq b]
  unfold sameJ
  generalize a.k = k
  generalize a.n = n
  generalize a.s = s
  generalize b.k = k'
  generalize b.n = n'
  generalize b.s = s'
  rcases sameP_cases k n s k' n' s' with ⟨rfl, rfl, e, es⟩ | ⟨rfl, rfl, e, es⟩ | ⟨rfl, e, es⟩ | ⟨e, es⟩
  · rw [es]
    have HM := Lib.hid (fun w => truth_any (!true) w)
    have HB := Lib.hid (three_box w (boxO k n s) (boxO k n s') zeroO)
    have HR := Lib.hid (res_mk w (boxO k n s) (boxO k n s'))
    simp only [J.v, Bool.not_true] at HM ⊢
    clear es
    go_enter Tryd.func45, Tryd.ntmps45
    go_wp2_with fail
    go_at_call 28
    refine (HM.out _).mono ?_
    rintro e w2 ⟨rfl, hb2⟩
    have HB2 := Lib.hid (HB.out.trans (hb2.mono HB.out.size))
    obtain ⟨⟨r0, r1, r2⟩, ⟨f0, f1, f2⟩⟩ := HR.out.below hb2
    clear hb2
    go_wp2
    exact bodyPost_ret (v := .agg #[.int .i64 2, .int .i64 0, .string ⟨#[]⟩]) (by simp [results, Tryd.results45, go_sem, r0, r1, r2]) rfl ⟨rfl, set3 HB2.out _ (by omega) _ _ _⟩
  · rw [es]
    have HM := Lib.hid (fun w => truth_any (!false) w)
    have HB := Lib.hid (three_box w (boxO k n s) (boxO k n s') zeroO)
    have HR := Lib.hid (res_mk w (boxO k n s) (boxO k n s'))
    simp only [J.v, Bool.not_false] at HM ⊢
    clear es
    go_enter Tryd.func45, Tryd.ntmps45
    go_wp2_with fail
    go_at_call 28
    refine (HM.out _).mono ?_
    rintro e w2 ⟨rfl, hb2⟩
    have HB2 := Lib.hid (HB.out.trans (hb2.mono HB.out.size))
    obtain ⟨⟨r0, r1, r2⟩, ⟨f0, f1, f2⟩⟩ := HR.out.below hb2
    clear hb2
    go_wp2
    exact bodyPost_ret (v := .agg #[.int .i64 2, .int .i64 1, .string ⟨#[]⟩]) (by simp [results, Tryd.results45, go_sem, r0, r1, r2]) rfl ⟨rfl, set3 HB2.out _ (by omega) _ _ _⟩
  · rw [es]
    have HM := Lib.hid (fun w => truth_any (!false) w)
    have HB := Lib.hid (three_box w (boxO k n s) (boxO k n' s') zeroO)
    have HR := Lib.hid (res_mk w (boxO k n s) (boxO k n' s'))
    simp only [J.v, Bool.not_false] at HM ⊢
    clear es
    go_enter Tryd.func45, Tryd.ntmps45
    go_wp2_with fail
    go_at_call 28
    refine (HM.out _).mono ?_
    rintro e w2 ⟨rfl, hb2⟩
    have HB2 := Lib.hid (HB.out.trans (hb2.mono HB.out.size))
    obtain ⟨⟨r0, r1, r2⟩, ⟨f0, f1, f2⟩⟩ := HR.out.below hb2
    clear hb2
    go_wp2
    exact bodyPost_ret (v := .agg #[.int .i64 2, .int .i64 1, .string ⟨#[]⟩]) (by simp [results, Tryd.results45, go_sem, r0, r1, r2]) rfl ⟨rfl, set3 HB2.out _ (by omega) _ _ _⟩
  · rw [es]
    have HM := Lib.hid (fun w => truth_any (!false) w)
    have HB := Lib.hid (three_box w (boxO k n s) (boxO k' n' s') zeroO)
    have HR := Lib.hid (res_mk w (boxO k n s) (boxO k' n' s'))
    simp only [J.v, Bool.not_false] at HM ⊢
    clear es
    go_enter Tryd.func45, Tryd.ntmps45
    go_wp2_with fail
    go_at_call 28
    refine (HM.out _).mono ?_
    rintro e w2 ⟨rfl, hb2⟩
    have HB2 := Lib.hid (HB.out.trans (hb2.mono HB.out.size))
    obtain ⟨⟨r0, r1, r2⟩, ⟨f0, f1, f2⟩⟩ := HR.out.below hb2
    clear hb2
    go_wp2
    exact bodyPost_ret (v := .agg #[.int .i64 2, .int .i64 1, .string ⟨#[]⟩]) (by simp [results, Tryd.results45, go_sem, r0, r1, r2]) rfl ⟨rfl, set3 HB2.out _ (by omega) _ _ _⟩
end Go.Proofs.YtpgclgfaiklpoaaDoor
