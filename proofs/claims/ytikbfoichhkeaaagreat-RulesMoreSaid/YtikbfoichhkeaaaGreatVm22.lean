/- The document's tokens: sign. -/
import Derived.Test.YtikbfoichhkeaaaGreatVm21
set_option linter.unusedSimpArgs false
set_option linter.unusedVariables false
set_option maxRecDepth 100000
set_option maxHeartbeats 40000000
namespace Go.Proofs.YtikbfoichhkeaaaGreat
section
open Go.RowKit Go.Proofs
theorem ext_take (s : ByteArray) (k : Nat) : (s.extract 0 k).data.toList = s.data.toList.take k := by
 rw [← Lib.toList_data, Lib.extract_toList]
 simp
theorem ext_takeT (s : ByteArray) (k : Nat) : (s.extract 0 k).toList = s.data.toList.take k := by rw [Lib.toList_data, ext_take]
theorem ext_eqb (s : ByteArray) (k : Nat) (l : List UInt8) : ((s.extract 0 k).toList == l) = decide (s.data.toList.take k = l) := by
 rw [ext_takeT, Bool.eq_iff_iff]
 simp
theorem head_of (s : ByteArray) (h0 : 0 < s.size) : s.data.toList.headD 0 = s[0] := by
 have := get_toList s 0 h0
 cases hc : s.data.toList with
 | nil => rw [hc] at this; simp at this
 | cons a r => rw [hc] at this; simpa using this
theorem take_ne {s : ByteArray} {k : Nat} {l : List UInt8} (h : s.size < k) (hl : l.length = k) : s.data.toList.take k ≠ l := fun e => by
 have := congrArg List.length e
 rw [List.length_take, len_toList, hl] at this
 omega
section
variable (s : ByteArray) (w : World) (h0 : 0 < s.size) (hs : s.size ≤ 9223372036854775807)
include h0 hs in
theorem sign_3a (h3 : 3 ≤ s.size) (e : s.data.toList.take 3 = [61, 61, 61]) : Calls Tryz.prog 122 #[.string s] w fun e w' => e = .returned (.int .i64 3) ∧ w = w' := by
 have g0 : (0 : Int) < s.size := by omega
 have f1 : (3 : Int) ≤ s.size := by omega
 have q1 : ((s.extract 0 3).toList == [61, 61, 61]) = true := by rw [ext_eqb]; simpa using e
 clear e
 go_enter Tryz.func122, Tryz.ntmps122
 go_wp2
 all_goals first
  | (go_ret; exact ⟨rfl, rfl⟩)
  | (exfalso; omega)
  | (exfalso; simp_all)
include h0 hs in
theorem sign_3b (h3 : 3 ≤ s.size) (e1 : s.data.toList.take 3 ≠ [61, 61, 61]) (e : s.data.toList.take 3 = [33, 61, 61]) : Calls Tryz.prog 122 #[.string s] w fun e w' => e = .returned (.int .i64 3) ∧ w = w' := by
 have g0 : (0 : Int) < s.size := by omega
 have f1 : (3 : Int) ≤ s.size := by omega
 have q0 : ((s.extract 0 3).toList == [61, 61, 61]) = false := by rw [ext_eqb]; simpa using e1
 have q1 : ((s.extract 0 3).toList == [33, 61, 61]) = true := by rw [ext_eqb]; simpa using e
 clear e e1
 go_enter Tryz.func122, Tryz.ntmps122
 go_wp2
 all_goals first
  | (go_ret; exact ⟨rfl, rfl⟩)
  | (exfalso; omega)
  | (exfalso; simp_all)
include h0 hs in
theorem sign_2b0 (h3 : 3 ≤ s.size) (n0 : s.data.toList.take 3 ≠ [61, 61, 61]) (n1 : s.data.toList.take 3 ≠ [33, 61, 61])  (e : s.data.toList.take 2 = [60, 61]) : Calls Tryz.prog 122 #[.string s] w fun e w' => e = .returned (.int .i64 2) ∧ w = w' := by
 have g0 : (0 : Int) < s.size := by omega
 have f1 : (3 : Int) ≤ s.size := by omega
 have r0 : ((s.extract 0 3).toList == [61, 61, 61]) = false := by rw [ext_eqb]; simpa using n0
 have r1 : ((s.extract 0 3).toList == [33, 61, 61]) = false := by rw [ext_eqb]; simpa using n1
 have f2 : (2 : Int) ≤ s.size := by omega
 have t0 : ((s.extract 0 2).toList == [60, 61]) = true := by rw [ext_eqb]; simpa using e
 clear e n0 n1
 go_enter Tryz.func122, Tryz.ntmps122
 go_wp2
 all_goals first
  | (go_ret; exact ⟨rfl, rfl⟩)
  | (exfalso; omega)
  | (exfalso; simp_all)
include h0 hs in
theorem sign_2b1 (h3 : 3 ≤ s.size) (n0 : s.data.toList.take 3 ≠ [61, 61, 61]) (n1 : s.data.toList.take 3 ≠ [33, 61, 61]) (m0 : s.data.toList.take 2 ≠ [60, 61]) (e : s.data.toList.take 2 = [38, 38]) : Calls Tryz.prog 122 #[.string s] w fun e w' => e = .returned (.int .i64 2) ∧ w = w' := by
 have g0 : (0 : Int) < s.size := by omega
 have f1 : (3 : Int) ≤ s.size := by omega
 have r0 : ((s.extract 0 3).toList == [61, 61, 61]) = false := by rw [ext_eqb]; simpa using n0
 have r1 : ((s.extract 0 3).toList == [33, 61, 61]) = false := by rw [ext_eqb]; simpa using n1
 have f2 : (2 : Int) ≤ s.size := by omega
 have t0 : ((s.extract 0 2).toList == [60, 61]) = false := by rw [ext_eqb]; simpa using m0
 have t1 : ((s.extract 0 2).toList == [38, 38]) = true := by rw [ext_eqb]; simpa using e
 clear e n0 n1 m0
 go_enter Tryz.func122, Tryz.ntmps122
 go_wp2
 all_goals first
  | (go_ret; exact ⟨rfl, rfl⟩)
  | (exfalso; omega)
  | (exfalso; simp_all)
include h0 hs in
theorem sign_2b2 (h3 : 3 ≤ s.size) (n0 : s.data.toList.take 3 ≠ [61, 61, 61]) (n1 : s.data.toList.take 3 ≠ [33, 61, 61]) (m0 : s.data.toList.take 2 ≠ [60, 61]) (m1 : s.data.toList.take 2 ≠ [38, 38]) (e : s.data.toList.take 2 = [124, 124]) : Calls Tryz.prog 122 #[.string s] w fun e w' => e = .returned (.int .i64 2) ∧ w = w' := by
 have g0 : (0 : Int) < s.size := by omega
 have f1 : (3 : Int) ≤ s.size := by omega
 have r0 : ((s.extract 0 3).toList == [61, 61, 61]) = false := by rw [ext_eqb]; simpa using n0
 have r1 : ((s.extract 0 3).toList == [33, 61, 61]) = false := by rw [ext_eqb]; simpa using n1
 have f2 : (2 : Int) ≤ s.size := by omega
 have t0 : ((s.extract 0 2).toList == [60, 61]) = false := by rw [ext_eqb]; simpa using m0
 have t1 : ((s.extract 0 2).toList == [38, 38]) = false := by rw [ext_eqb]; simpa using m1
 have t2 : ((s.extract 0 2).toList == [124, 124]) = true := by rw [ext_eqb]; simpa using e
 clear e n0 n1 m0 m1
 go_enter Tryz.func122, Tryz.ntmps122
 go_wp2
 all_goals first
  | (go_ret; exact ⟨rfl, rfl⟩)
  | (exfalso; omega)
  | (exfalso; simp_all)
include h0 hs in
theorem sign_2s0 (h3 : s.size < 3) (h2 : 2 ≤ s.size)  (e : s.data.toList.take 2 = [60, 61]) : Calls Tryz.prog 122 #[.string s] w fun e w' => e = .returned (.int .i64 2) ∧ w = w' := by
 have g0 : (0 : Int) < s.size := by omega
 have f1 : ¬ (3 : Int) ≤ s.size := by omega
 have f2 : (2 : Int) ≤ s.size := by omega
 have t0 : ((s.extract 0 2).toList == [60, 61]) = true := by rw [ext_eqb]; simpa using e
 clear e
 go_enter Tryz.func122, Tryz.ntmps122
 go_wp2
 all_goals first
  | (go_ret; exact ⟨rfl, rfl⟩)
  | (exfalso; omega)
  | (exfalso; simp_all)
include h0 hs in
theorem sign_2s1 (h3 : s.size < 3) (h2 : 2 ≤ s.size) (m0 : s.data.toList.take 2 ≠ [60, 61]) (e : s.data.toList.take 2 = [38, 38]) : Calls Tryz.prog 122 #[.string s] w fun e w' => e = .returned (.int .i64 2) ∧ w = w' := by
 have g0 : (0 : Int) < s.size := by omega
 have f1 : ¬ (3 : Int) ≤ s.size := by omega
 have f2 : (2 : Int) ≤ s.size := by omega
 have t0 : ((s.extract 0 2).toList == [60, 61]) = false := by rw [ext_eqb]; simpa using m0
 have t1 : ((s.extract 0 2).toList == [38, 38]) = true := by rw [ext_eqb]; simpa using e
 clear e  m0
 go_enter Tryz.func122, Tryz.ntmps122
 go_wp2
 all_goals first
  | (go_ret; exact ⟨rfl, rfl⟩)
  | (exfalso; omega)
  | (exfalso; simp_all)
include h0 hs in
theorem sign_2s2 (h3 : s.size < 3) (h2 : 2 ≤ s.size) (m0 : s.data.toList.take 2 ≠ [60, 61]) (m1 : s.data.toList.take 2 ≠ [38, 38]) (e : s.data.toList.take 2 = [124, 124]) : Calls Tryz.prog 122 #[.string s] w fun e w' => e = .returned (.int .i64 2) ∧ w = w' := by
 have g0 : (0 : Int) < s.size := by omega
 have f1 : ¬ (3 : Int) ≤ s.size := by omega
 have f2 : (2 : Int) ≤ s.size := by omega
 have t0 : ((s.extract 0 2).toList == [60, 61]) = false := by rw [ext_eqb]; simpa using m0
 have t1 : ((s.extract 0 2).toList == [38, 38]) = false := by rw [ext_eqb]; simpa using m1
 have t2 : ((s.extract 0 2).toList == [124, 124]) = true := by rw [ext_eqb]; simpa using e
 clear e  m0 m1
 go_enter Tryz.func122, Tryz.ntmps122
 go_wp2
 all_goals first
  | (go_ret; exact ⟨rfl, rfl⟩)
  | (exfalso; omega)
  | (exfalso; simp_all)
include h0 hs in
theorem sign_1b (h3 : 3 ≤ s.size) (n0 : s.data.toList.take 3 ≠ [61, 61, 61]) (n1 : s.data.toList.take 3 ≠ [33, 61, 61]) (m0 : s.data.toList.take 2 ≠ [60, 61]) (m1 : s.data.toList.take 2 ≠ [38, 38]) (m2 : s.data.toList.take 2 ≠ [124, 124]) (k : Nat) (hk : k ∈ [123, 125, 40, 41, 91, 93, 46, 59, 44, 58, 63, 60, 61, 33, 43, 45, 42, 47]) (e : s[0].toNat = k) : Calls Tryz.prog 122 #[.string s] w fun e w' => e = .returned (.int .i64 1) ∧ w = w' := by
 have g0 : (0 : Int) < s.size := by omega
 have f1 : (3 : Int) ≤ s.size := by omega
 have r0 : ((s.extract 0 3).toList == [61, 61, 61]) = false := by rw [ext_eqb]; simpa using n0
 have r1 : ((s.extract 0 3).toList == [33, 61, 61]) = false := by rw [ext_eqb]; simpa using n1
 have f2 : (2 : Int) ≤ s.size := by omega
 have t0 : ((s.extract 0 2).toList == [60, 61]) = false := by rw [ext_eqb]; simpa using m0
 have t1 : ((s.extract 0 2).toList == [38, 38]) = false := by rw [ext_eqb]; simpa using m1
 have t2 : ((s.extract 0 2).toList == [124, 124]) = false := by rw [ext_eqb]; simpa using m2
 clear n0 n1 m0 m1 m2
 have e' : (s[0].toNat : Int) = (k : Int) := by omega
 clear e
 simp only [List.mem_cons, List.not_mem_nil, or_false] at hk
 rcases hk with rfl | rfl | rfl | rfl | rfl | rfl | rfl | rfl | rfl | rfl | rfl | rfl | rfl | rfl | rfl | rfl | rfl | rfl
 all_goals
  simp only [Int.cast_ofNat_Int] at e'
  go_enter Tryz.func122, Tryz.ntmps122
  go_wp2
  go_ret
  exact ⟨rfl, rfl⟩
include h0 hs in
theorem sign_0b (h3 : 3 ≤ s.size) (n0 : s.data.toList.take 3 ≠ [61, 61, 61]) (n1 : s.data.toList.take 3 ≠ [33, 61, 61]) (m0 : s.data.toList.take 2 ≠ [60, 61]) (m1 : s.data.toList.take 2 ≠ [38, 38]) (m2 : s.data.toList.take 2 ≠ [124, 124]) (z123 : s[0].toNat ≠ 123) (z125 : s[0].toNat ≠ 125) (z40 : s[0].toNat ≠ 40) (z41 : s[0].toNat ≠ 41) (z91 : s[0].toNat ≠ 91) (z93 : s[0].toNat ≠ 93) (z46 : s[0].toNat ≠ 46) (z59 : s[0].toNat ≠ 59) (z44 : s[0].toNat ≠ 44) (z58 : s[0].toNat ≠ 58) (z63 : s[0].toNat ≠ 63) (z60 : s[0].toNat ≠ 60) (z61 : s[0].toNat ≠ 61) (z33 : s[0].toNat ≠ 33) (z43 : s[0].toNat ≠ 43) (z45 : s[0].toNat ≠ 45) (z42 : s[0].toNat ≠ 42) (z47 : s[0].toNat ≠ 47) : Calls Tryz.prog 122 #[.string s] w fun e w' => e = .returned (.int .i64 0) ∧ w = w' := by
 have g0 : (0 : Int) < s.size := by omega
 have f1 : (3 : Int) ≤ s.size := by omega
 have r0 : ((s.extract 0 3).toList == [61, 61, 61]) = false := by rw [ext_eqb]; simpa using n0
 have r1 : ((s.extract 0 3).toList == [33, 61, 61]) = false := by rw [ext_eqb]; simpa using n1
 have f2 : (2 : Int) ≤ s.size := by omega
 have t0 : ((s.extract 0 2).toList == [60, 61]) = false := by rw [ext_eqb]; simpa using m0
 have t1 : ((s.extract 0 2).toList == [38, 38]) = false := by rw [ext_eqb]; simpa using m1
 have t2 : ((s.extract 0 2).toList == [124, 124]) = false := by rw [ext_eqb]; simpa using m2
 have y123 : ((s[0].toNat : Int) == 123) = false := by rw [beq_eq_false_iff_ne]; omega
 have y125 : ((s[0].toNat : Int) == 125) = false := by rw [beq_eq_false_iff_ne]; omega
 have y40 : ((s[0].toNat : Int) == 40) = false := by rw [beq_eq_false_iff_ne]; omega
 have y41 : ((s[0].toNat : Int) == 41) = false := by rw [beq_eq_false_iff_ne]; omega
 have y91 : ((s[0].toNat : Int) == 91) = false := by rw [beq_eq_false_iff_ne]; omega
 have y93 : ((s[0].toNat : Int) == 93) = false := by rw [beq_eq_false_iff_ne]; omega
 have y46 : ((s[0].toNat : Int) == 46) = false := by rw [beq_eq_false_iff_ne]; omega
 have y59 : ((s[0].toNat : Int) == 59) = false := by rw [beq_eq_false_iff_ne]; omega
 have y44 : ((s[0].toNat : Int) == 44) = false := by rw [beq_eq_false_iff_ne]; omega
 have y58 : ((s[0].toNat : Int) == 58) = false := by rw [beq_eq_false_iff_ne]; omega
 have y63 : ((s[0].toNat : Int) == 63) = false := by rw [beq_eq_false_iff_ne]; omega
 have y60 : ((s[0].toNat : Int) == 60) = false := by rw [beq_eq_false_iff_ne]; omega
 have y61 : ((s[0].toNat : Int) == 61) = false := by rw [beq_eq_false_iff_ne]; omega
 have y33 : ((s[0].toNat : Int) == 33) = false := by rw [beq_eq_false_iff_ne]; omega
 have y43 : ((s[0].toNat : Int) == 43) = false := by rw [beq_eq_false_iff_ne]; omega
 have y45 : ((s[0].toNat : Int) == 45) = false := by rw [beq_eq_false_iff_ne]; omega
 have y42 : ((s[0].toNat : Int) == 42) = false := by rw [beq_eq_false_iff_ne]; omega
 have y47 : ((s[0].toNat : Int) == 47) = false := by rw [beq_eq_false_iff_ne]; omega
 clear n0 n1 m0 m1 m2 z123 z125 z40 z41 z91 z93 z46 z59 z44 z58 z63 z60 z61 z33 z43 z45 z42 z47
 go_enter Tryz.func122, Tryz.ntmps122
 go_wp2
 all_goals first
  | (go_ret; exact ⟨rfl, rfl⟩)
  | (exfalso; omega)
  | (exfalso; simp_all)
include h0 hs in
theorem sign_1s (h3 : s.size < 3) (h2 : 2 ≤ s.size) (m0 : s.data.toList.take 2 ≠ [60, 61]) (m1 : s.data.toList.take 2 ≠ [38, 38]) (m2 : s.data.toList.take 2 ≠ [124, 124]) (k : Nat) (hk : k ∈ [123, 125, 40, 41, 91, 93, 46, 59, 44, 58, 63, 60, 61, 33, 43, 45, 42, 47]) (e : s[0].toNat = k) : Calls Tryz.prog 122 #[.string s] w fun e w' => e = .returned (.int .i64 1) ∧ w = w' := by
 have g0 : (0 : Int) < s.size := by omega
 have f1 : ¬ (3 : Int) ≤ s.size := by omega
 have f2 : (2 : Int) ≤ s.size := by omega
 have t0 : ((s.extract 0 2).toList == [60, 61]) = false := by rw [ext_eqb]; simpa using m0
 have t1 : ((s.extract 0 2).toList == [38, 38]) = false := by rw [ext_eqb]; simpa using m1
 have t2 : ((s.extract 0 2).toList == [124, 124]) = false := by rw [ext_eqb]; simpa using m2
 clear  m0 m1 m2
 have e' : (s[0].toNat : Int) = (k : Int) := by omega
 clear e
 simp only [List.mem_cons, List.not_mem_nil, or_false] at hk
 rcases hk with rfl | rfl | rfl | rfl | rfl | rfl | rfl | rfl | rfl | rfl | rfl | rfl | rfl | rfl | rfl | rfl | rfl | rfl
 all_goals
  simp only [Int.cast_ofNat_Int] at e'
  go_enter Tryz.func122, Tryz.ntmps122
  go_wp2
  go_ret
  exact ⟨rfl, rfl⟩
include h0 hs in
theorem sign_0s (h3 : s.size < 3) (h2 : 2 ≤ s.size) (m0 : s.data.toList.take 2 ≠ [60, 61]) (m1 : s.data.toList.take 2 ≠ [38, 38]) (m2 : s.data.toList.take 2 ≠ [124, 124]) (z123 : s[0].toNat ≠ 123) (z125 : s[0].toNat ≠ 125) (z40 : s[0].toNat ≠ 40) (z41 : s[0].toNat ≠ 41) (z91 : s[0].toNat ≠ 91) (z93 : s[0].toNat ≠ 93) (z46 : s[0].toNat ≠ 46) (z59 : s[0].toNat ≠ 59) (z44 : s[0].toNat ≠ 44) (z58 : s[0].toNat ≠ 58) (z63 : s[0].toNat ≠ 63) (z60 : s[0].toNat ≠ 60) (z61 : s[0].toNat ≠ 61) (z33 : s[0].toNat ≠ 33) (z43 : s[0].toNat ≠ 43) (z45 : s[0].toNat ≠ 45) (z42 : s[0].toNat ≠ 42) (z47 : s[0].toNat ≠ 47) : Calls Tryz.prog 122 #[.string s] w fun e w' => e = .returned (.int .i64 0) ∧ w = w' := by
 have g0 : (0 : Int) < s.size := by omega
 have f1 : ¬ (3 : Int) ≤ s.size := by omega
 have f2 : (2 : Int) ≤ s.size := by omega
 have t0 : ((s.extract 0 2).toList == [60, 61]) = false := by rw [ext_eqb]; simpa using m0
 have t1 : ((s.extract 0 2).toList == [38, 38]) = false := by rw [ext_eqb]; simpa using m1
 have t2 : ((s.extract 0 2).toList == [124, 124]) = false := by rw [ext_eqb]; simpa using m2
 have y123 : ((s[0].toNat : Int) == 123) = false := by rw [beq_eq_false_iff_ne]; omega
 have y125 : ((s[0].toNat : Int) == 125) = false := by rw [beq_eq_false_iff_ne]; omega
 have y40 : ((s[0].toNat : Int) == 40) = false := by rw [beq_eq_false_iff_ne]; omega
 have y41 : ((s[0].toNat : Int) == 41) = false := by rw [beq_eq_false_iff_ne]; omega
 have y91 : ((s[0].toNat : Int) == 91) = false := by rw [beq_eq_false_iff_ne]; omega
 have y93 : ((s[0].toNat : Int) == 93) = false := by rw [beq_eq_false_iff_ne]; omega
 have y46 : ((s[0].toNat : Int) == 46) = false := by rw [beq_eq_false_iff_ne]; omega
 have y59 : ((s[0].toNat : Int) == 59) = false := by rw [beq_eq_false_iff_ne]; omega
 have y44 : ((s[0].toNat : Int) == 44) = false := by rw [beq_eq_false_iff_ne]; omega
 have y58 : ((s[0].toNat : Int) == 58) = false := by rw [beq_eq_false_iff_ne]; omega
 have y63 : ((s[0].toNat : Int) == 63) = false := by rw [beq_eq_false_iff_ne]; omega
 have y60 : ((s[0].toNat : Int) == 60) = false := by rw [beq_eq_false_iff_ne]; omega
 have y61 : ((s[0].toNat : Int) == 61) = false := by rw [beq_eq_false_iff_ne]; omega
 have y33 : ((s[0].toNat : Int) == 33) = false := by rw [beq_eq_false_iff_ne]; omega
 have y43 : ((s[0].toNat : Int) == 43) = false := by rw [beq_eq_false_iff_ne]; omega
 have y45 : ((s[0].toNat : Int) == 45) = false := by rw [beq_eq_false_iff_ne]; omega
 have y42 : ((s[0].toNat : Int) == 42) = false := by rw [beq_eq_false_iff_ne]; omega
 have y47 : ((s[0].toNat : Int) == 47) = false := by rw [beq_eq_false_iff_ne]; omega
 clear  m0 m1 m2 z123 z125 z40 z41 z91 z93 z46 z59 z44 z58 z63 z60 z61 z33 z43 z45 z42 z47
 go_enter Tryz.func122, Tryz.ntmps122
 go_wp2
 all_goals first
  | (go_ret; exact ⟨rfl, rfl⟩)
  | (exfalso; omega)
  | (exfalso; simp_all)
include h0 hs in
theorem sign_1o (h2 : s.size < 2) (k : Nat) (hk : k ∈ [123, 125, 40, 41, 91, 93, 46, 59, 44, 58, 63, 60, 61, 33, 43, 45, 42, 47]) (e : s[0].toNat = k) : Calls Tryz.prog 122 #[.string s] w fun e w' => e = .returned (.int .i64 1) ∧ w = w' := by
 have g0 : (0 : Int) < s.size := by omega
 have f1 : ¬ (3 : Int) ≤ s.size := by omega
 have f2 : ¬ (2 : Int) ≤ s.size := by omega
 have e' : (s[0].toNat : Int) = (k : Int) := by omega
 clear e
 simp only [List.mem_cons, List.not_mem_nil, or_false] at hk
 rcases hk with rfl | rfl | rfl | rfl | rfl | rfl | rfl | rfl | rfl | rfl | rfl | rfl | rfl | rfl | rfl | rfl | rfl | rfl
 all_goals
  simp only [Int.cast_ofNat_Int] at e'
  go_enter Tryz.func122, Tryz.ntmps122
  go_wp2
  go_ret
  exact ⟨rfl, rfl⟩
include h0 hs in
theorem sign_0o (h2 : s.size < 2) (z123 : s[0].toNat ≠ 123) (z125 : s[0].toNat ≠ 125) (z40 : s[0].toNat ≠ 40) (z41 : s[0].toNat ≠ 41) (z91 : s[0].toNat ≠ 91) (z93 : s[0].toNat ≠ 93) (z46 : s[0].toNat ≠ 46) (z59 : s[0].toNat ≠ 59) (z44 : s[0].toNat ≠ 44) (z58 : s[0].toNat ≠ 58) (z63 : s[0].toNat ≠ 63) (z60 : s[0].toNat ≠ 60) (z61 : s[0].toNat ≠ 61) (z33 : s[0].toNat ≠ 33) (z43 : s[0].toNat ≠ 43) (z45 : s[0].toNat ≠ 45) (z42 : s[0].toNat ≠ 42) (z47 : s[0].toNat ≠ 47) : Calls Tryz.prog 122 #[.string s] w fun e w' => e = .returned (.int .i64 0) ∧ w = w' := by
 have g0 : (0 : Int) < s.size := by omega
 have f1 : ¬ (3 : Int) ≤ s.size := by omega
 have f2 : ¬ (2 : Int) ≤ s.size := by omega
 have y123 : ((s[0].toNat : Int) == 123) = false := by rw [beq_eq_false_iff_ne]; omega
 have y125 : ((s[0].toNat : Int) == 125) = false := by rw [beq_eq_false_iff_ne]; omega
 have y40 : ((s[0].toNat : Int) == 40) = false := by rw [beq_eq_false_iff_ne]; omega
 have y41 : ((s[0].toNat : Int) == 41) = false := by rw [beq_eq_false_iff_ne]; omega
 have y91 : ((s[0].toNat : Int) == 91) = false := by rw [beq_eq_false_iff_ne]; omega
 have y93 : ((s[0].toNat : Int) == 93) = false := by rw [beq_eq_false_iff_ne]; omega
 have y46 : ((s[0].toNat : Int) == 46) = false := by rw [beq_eq_false_iff_ne]; omega
 have y59 : ((s[0].toNat : Int) == 59) = false := by rw [beq_eq_false_iff_ne]; omega
 have y44 : ((s[0].toNat : Int) == 44) = false := by rw [beq_eq_false_iff_ne]; omega
 have y58 : ((s[0].toNat : Int) == 58) = false := by rw [beq_eq_false_iff_ne]; omega
 have y63 : ((s[0].toNat : Int) == 63) = false := by rw [beq_eq_false_iff_ne]; omega
 have y60 : ((s[0].toNat : Int) == 60) = false := by rw [beq_eq_false_iff_ne]; omega
 have y61 : ((s[0].toNat : Int) == 61) = false := by rw [beq_eq_false_iff_ne]; omega
 have y33 : ((s[0].toNat : Int) == 33) = false := by rw [beq_eq_false_iff_ne]; omega
 have y43 : ((s[0].toNat : Int) == 43) = false := by rw [beq_eq_false_iff_ne]; omega
 have y45 : ((s[0].toNat : Int) == 45) = false := by rw [beq_eq_false_iff_ne]; omega
 have y42 : ((s[0].toNat : Int) == 42) = false := by rw [beq_eq_false_iff_ne]; omega
 have y47 : ((s[0].toNat : Int) == 47) = false := by rw [beq_eq_false_iff_ne]; omega
 clear  z123 z125 z40 z41 z91 z93 z46 z59 z44 z58 z63 z60 z61 z33 z43 z45 z42 z47
 go_enter Tryz.func122, Tryz.ntmps122
 go_wp2
 all_goals first
  | (go_ret; exact ⟨rfl, rfl⟩)
  | (exfalso; omega)
  | (exfalso; simp_all)
end
theorem sign1_iff (c : UInt8) : c ∈ sign1 ↔ c.toNat ∈ [123, 125, 40, 41, 91, 93, 46, 59, 44, 58, 63, 60, 61, 33, 43, 45, 42, 47] := by
 unfold sign1
 simp only [List.mem_cons, List.not_mem_nil, or_false, ← UInt8.toNat_inj]
 rfl
theorem sign_any (s : ByteArray) (w : World) (h0 : 0 < s.size) (hs : s.size ≤ maxLen) :
  Calls Tryz.prog 122 #[.string s] w fun e w' => e = .returned (.int .i64 (signM s.data.toList)) ∧ w = w' := by
 unfold maxLen at hs
 have hs : s.size ≤ 9223372036854775807 := by omega
 have hc := head_of s h0
 unfold signM
 rw [hc]
 have z0 : s[0] ∉ sign1 → ∀ v, v ∈ [123, 125, 40, 41, 91, 93, 46, 59, 44, 58, 63, 60, 61, 33, 43, 45, 42, 47] → s[0].toNat ≠ v := fun hm v hv e => hm ((sign1_iff _).2 (e ▸ hv))
 by_cases h3 : 3 ≤ s.size
 ·by_cases a0 : s.data.toList.take 3 = [61, 61, 61]
  ·rw [if_pos (by rw [a0]; decide)]; exact sign_3a s w h0 hs h3 a0
  by_cases a1 : s.data.toList.take 3 = [33, 61, 61]
  ·rw [if_pos (by rw [a1]; decide)]; exact sign_3b s w h0 hs h3 a0 a1
  rw [if_neg (show ¬ s.data.toList.take 3 ∈ sign3 by unfold sign3; simp [a0, a1])]
  by_cases b0 : s.data.toList.take 2 = [60, 61]
  ·rw [if_pos (by rw [b0]; decide)]; exact sign_2b0 s w h0 hs h3 a0 a1 b0
  by_cases b1 : s.data.toList.take 2 = [38, 38]
  ·rw [if_pos (by rw [b1]; decide)]; exact sign_2b1 s w h0 hs h3 a0 a1 b0 b1
  by_cases b2 : s.data.toList.take 2 = [124, 124]
  ·rw [if_pos (by rw [b2]; decide)]; exact sign_2b2 s w h0 hs h3 a0 a1 b0 b1 b2
  rw [if_neg (show ¬ s.data.toList.take 2 ∈ sign2 by unfold sign2; simp [b0, b1, b2])]
  by_cases hm : s[0] ∈ sign1
  ·rw [if_pos hm]; exact sign_1b s w h0 hs h3 a0 a1 b0 b1 b2 _ ((sign1_iff _).1 hm) rfl
  ·rw [if_neg hm]; have z := z0 hm; exact sign_0b s w h0 hs h3 a0 a1 b0 b1 b2 (z 123 (by decide)) (z 125 (by decide)) (z 40 (by decide)) (z 41 (by decide)) (z 91 (by decide)) (z 93 (by decide)) (z 46 (by decide)) (z 59 (by decide)) (z 44 (by decide)) (z 58 (by decide)) (z 63 (by decide)) (z 60 (by decide)) (z 61 (by decide)) (z 33 (by decide)) (z 43 (by decide)) (z 45 (by decide)) (z 42 (by decide)) (z 47 (by decide))
 ·have h3' : s.size < 3 := by omega
  rw [if_neg (show ¬ s.data.toList.take 3 ∈ sign3 by unfold sign3; simp [take_ne h3' (l := [61, 61, 61]) rfl, take_ne h3' (l := [33, 61, 61]) rfl])]
  by_cases h2 : 2 ≤ s.size
  ·by_cases b0 : s.data.toList.take 2 = [60, 61]
   ·rw [if_pos (by rw [b0]; decide)]; exact sign_2s0 s w h0 hs h3' h2 b0
   by_cases b1 : s.data.toList.take 2 = [38, 38]
   ·rw [if_pos (by rw [b1]; decide)]; exact sign_2s1 s w h0 hs h3' h2 b0 b1
   by_cases b2 : s.data.toList.take 2 = [124, 124]
   ·rw [if_pos (by rw [b2]; decide)]; exact sign_2s2 s w h0 hs h3' h2 b0 b1 b2
   rw [if_neg (show ¬ s.data.toList.take 2 ∈ sign2 by unfold sign2; simp [b0, b1, b2])]
   by_cases hm : s[0] ∈ sign1
   ·rw [if_pos hm]; exact sign_1s s w h0 hs h3' h2 b0 b1 b2 _ ((sign1_iff _).1 hm) rfl
   ·rw [if_neg hm]; have z := z0 hm; exact sign_0s s w h0 hs h3' h2 b0 b1 b2 (z 123 (by decide)) (z 125 (by decide)) (z 40 (by decide)) (z 41 (by decide)) (z 91 (by decide)) (z 93 (by decide)) (z 46 (by decide)) (z 59 (by decide)) (z 44 (by decide)) (z 58 (by decide)) (z 63 (by decide)) (z 60 (by decide)) (z 61 (by decide)) (z 33 (by decide)) (z 43 (by decide)) (z 45 (by decide)) (z 42 (by decide)) (z 47 (by decide))
  ·have h2' : s.size < 2 := by omega
   rw [if_neg (show ¬ s.data.toList.take 2 ∈ sign2 by unfold sign2; simp [take_ne h2' (l := [60, 61]) rfl, take_ne h2' (l := [38, 38]) rfl, take_ne h2' (l := [124, 124]) rfl])]
   by_cases hm : s[0] ∈ sign1
   ·rw [if_pos hm]; exact sign_1o s w h0 hs h2' _ ((sign1_iff _).1 hm) rfl
   ·rw [if_neg hm]; have z := z0 hm; exact sign_0o s w h0 hs h2' (z 123 (by decide)) (z 125 (by decide)) (z 40 (by decide)) (z 41 (by decide)) (z 91 (by decide)) (z 93 (by decide)) (z 46 (by decide)) (z 59 (by decide)) (z 44 (by decide)) (z 58 (by decide)) (z 63 (by decide)) (z 60 (by decide)) (z 61 (by decide)) (z 33 (by decide)) (z 43 (by decide)) (z 45 (by decide)) (z 42 (by decide)) (z 47 (by decide))
end
end Go.Proofs.YtikbfoichhkeaaaGreat
