/- gumshoeref09.names, has, reg; gumshoeref06.Right. -/
import Derived.Test.YtconnhphkbgbkaaGreatDoorCdVal
import Derived.Test.YtconnhphkbgbkaaGreatDoorCdDem
namespace Go.Proofs.YtconnhphkbgbkaaGreatDoor
open Go.RowKit Go.Proofs

/-- Which fields an operation names, as the document's answer says it. -/
def nmL : List (Int × ByteArray) := [(1, ⟨#[68, 97, 78, 83]⟩), (2, ⟨#[68, 118]⟩), (3, ⟨#[65, 118]⟩), (4, ⟨#[68]⟩), (5, ⟨#[68]⟩), (26, ⟨#[68]⟩), (6, ⟨#[68, 109]⟩), (7, ⟨#[68, 102]⟩), (8, ⟨#[68, 65, 83]⟩), (9, ⟨#[65, 83, 66]⟩), (10, ⟨#[68, 65, 66]⟩), (11, ⟨#[65, 66, 67]⟩), (12, ⟨#[68, 65, 98, 76, 109]⟩), (13, ⟨#[68, 65, 76, 109]⟩), (14, ⟨#[68, 65, 66, 115]⟩), (15, ⟨#[68, 65]⟩), (16, ⟨#[68, 65]⟩), (17, ⟨#[68, 65]⟩), (24, ⟨#[68, 65]⟩), (18, ⟨#[106]⟩), (19, ⟨#[65, 106]⟩), (20, ⟨#[114]⟩), (21, ⟨#[65]⟩), (22, ⟨#[68, 106]⟩), (23, ⟨#[]⟩), (25, ⟨#[68, 65, 106]⟩)]
def nm (op : Int) : ByteArray := ((nmL.find? fun p => decide (p.1 = op)).map (·.2)).getD ⟨#[45]⟩
set_option maxRecDepth 100000 in
set_option maxHeartbeats 8000000 in
theorem names_any (op : Int) (w : World) : Calls Tryz.prog 56 #[.int .i64 op] w fun e w' => e = .returned (.string (nm op)) ∧ w = w' := by
  by_cases h1 : op = 1
  · subst h1
    have HN := Lib.hid (show nm 1 = ⟨#[68, 97, 78, 83]⟩ by rfl)
    rw [HN.out]
    go_enter Tryz.func56, Tryz.ntmps56
    go_wp2
    go_ret
    exact ⟨rfl, rfl⟩
  by_cases h2 : op = 2
  · subst h2
    have HN := Lib.hid (show nm 2 = ⟨#[68, 118]⟩ by rfl)
    rw [HN.out]
    go_enter Tryz.func56, Tryz.ntmps56
    go_wp2
    go_ret
    exact ⟨rfl, rfl⟩
  by_cases h3 : op = 3
  · subst h3
    have HN := Lib.hid (show nm 3 = ⟨#[65, 118]⟩ by rfl)
    rw [HN.out]
    go_enter Tryz.func56, Tryz.ntmps56
    go_wp2
    go_ret
    exact ⟨rfl, rfl⟩
  by_cases h4 : op = 4
  · subst h4
    have HN := Lib.hid (show nm 4 = ⟨#[68]⟩ by rfl)
    rw [HN.out]
    go_enter Tryz.func56, Tryz.ntmps56
    go_wp2
    go_ret
    exact ⟨rfl, rfl⟩
  by_cases h5 : op = 5
  · subst h5
    have HN := Lib.hid (show nm 5 = ⟨#[68]⟩ by rfl)
    rw [HN.out]
    go_enter Tryz.func56, Tryz.ntmps56
    go_wp2
    go_ret
    exact ⟨rfl, rfl⟩
  by_cases h26 : op = 26
  · subst h26
    have HN := Lib.hid (show nm 26 = ⟨#[68]⟩ by rfl)
    rw [HN.out]
    go_enter Tryz.func56, Tryz.ntmps56
    go_wp2
    go_ret
    exact ⟨rfl, rfl⟩
  by_cases h6 : op = 6
  · subst h6
    have HN := Lib.hid (show nm 6 = ⟨#[68, 109]⟩ by rfl)
    rw [HN.out]
    go_enter Tryz.func56, Tryz.ntmps56
    go_wp2
    go_ret
    exact ⟨rfl, rfl⟩
  by_cases h7 : op = 7
  · subst h7
    have HN := Lib.hid (show nm 7 = ⟨#[68, 102]⟩ by rfl)
    rw [HN.out]
    go_enter Tryz.func56, Tryz.ntmps56
    go_wp2
    go_ret
    exact ⟨rfl, rfl⟩
  by_cases h8 : op = 8
  · subst h8
    have HN := Lib.hid (show nm 8 = ⟨#[68, 65, 83]⟩ by rfl)
    rw [HN.out]
    go_enter Tryz.func56, Tryz.ntmps56
    go_wp2
    go_ret
    exact ⟨rfl, rfl⟩
  by_cases h9 : op = 9
  · subst h9
    have HN := Lib.hid (show nm 9 = ⟨#[65, 83, 66]⟩ by rfl)
    rw [HN.out]
    go_enter Tryz.func56, Tryz.ntmps56
    go_wp2
    go_ret
    exact ⟨rfl, rfl⟩
  by_cases h10 : op = 10
  · subst h10
    have HN := Lib.hid (show nm 10 = ⟨#[68, 65, 66]⟩ by rfl)
    rw [HN.out]
    go_enter Tryz.func56, Tryz.ntmps56
    go_wp2
    go_ret
    exact ⟨rfl, rfl⟩
  by_cases h11 : op = 11
  · subst h11
    have HN := Lib.hid (show nm 11 = ⟨#[65, 66, 67]⟩ by rfl)
    rw [HN.out]
    go_enter Tryz.func56, Tryz.ntmps56
    go_wp2
    go_ret
    exact ⟨rfl, rfl⟩
  by_cases h12 : op = 12
  · subst h12
    have HN := Lib.hid (show nm 12 = ⟨#[68, 65, 98, 76, 109]⟩ by rfl)
    rw [HN.out]
    go_enter Tryz.func56, Tryz.ntmps56
    go_wp2
    go_ret
    exact ⟨rfl, rfl⟩
  by_cases h13 : op = 13
  · subst h13
    have HN := Lib.hid (show nm 13 = ⟨#[68, 65, 76, 109]⟩ by rfl)
    rw [HN.out]
    go_enter Tryz.func56, Tryz.ntmps56
    go_wp2
    go_ret
    exact ⟨rfl, rfl⟩
  by_cases h14 : op = 14
  · subst h14
    have HN := Lib.hid (show nm 14 = ⟨#[68, 65, 66, 115]⟩ by rfl)
    rw [HN.out]
    go_enter Tryz.func56, Tryz.ntmps56
    go_wp2
    go_ret
    exact ⟨rfl, rfl⟩
  by_cases h15 : op = 15
  · subst h15
    have HN := Lib.hid (show nm 15 = ⟨#[68, 65]⟩ by rfl)
    rw [HN.out]
    go_enter Tryz.func56, Tryz.ntmps56
    go_wp2
    go_ret
    exact ⟨rfl, rfl⟩
  by_cases h16 : op = 16
  · subst h16
    have HN := Lib.hid (show nm 16 = ⟨#[68, 65]⟩ by rfl)
    rw [HN.out]
    go_enter Tryz.func56, Tryz.ntmps56
    go_wp2
    go_ret
    exact ⟨rfl, rfl⟩
  by_cases h17 : op = 17
  · subst h17
    have HN := Lib.hid (show nm 17 = ⟨#[68, 65]⟩ by rfl)
    rw [HN.out]
    go_enter Tryz.func56, Tryz.ntmps56
    go_wp2
    go_ret
    exact ⟨rfl, rfl⟩
  by_cases h24 : op = 24
  · subst h24
    have HN := Lib.hid (show nm 24 = ⟨#[68, 65]⟩ by rfl)
    rw [HN.out]
    go_enter Tryz.func56, Tryz.ntmps56
    go_wp2
    go_ret
    exact ⟨rfl, rfl⟩
  by_cases h18 : op = 18
  · subst h18
    have HN := Lib.hid (show nm 18 = ⟨#[106]⟩ by rfl)
    rw [HN.out]
    go_enter Tryz.func56, Tryz.ntmps56
    go_wp2
    go_ret
    exact ⟨rfl, rfl⟩
  by_cases h19 : op = 19
  · subst h19
    have HN := Lib.hid (show nm 19 = ⟨#[65, 106]⟩ by rfl)
    rw [HN.out]
    go_enter Tryz.func56, Tryz.ntmps56
    go_wp2
    go_ret
    exact ⟨rfl, rfl⟩
  by_cases h20 : op = 20
  · subst h20
    have HN := Lib.hid (show nm 20 = ⟨#[114]⟩ by rfl)
    rw [HN.out]
    go_enter Tryz.func56, Tryz.ntmps56
    go_wp2
    go_ret
    exact ⟨rfl, rfl⟩
  by_cases h21 : op = 21
  · subst h21
    have HN := Lib.hid (show nm 21 = ⟨#[65]⟩ by rfl)
    rw [HN.out]
    go_enter Tryz.func56, Tryz.ntmps56
    go_wp2
    go_ret
    exact ⟨rfl, rfl⟩
  by_cases h22 : op = 22
  · subst h22
    have HN := Lib.hid (show nm 22 = ⟨#[68, 106]⟩ by rfl)
    rw [HN.out]
    go_enter Tryz.func56, Tryz.ntmps56
    go_wp2
    go_ret
    exact ⟨rfl, rfl⟩
  by_cases h23 : op = 23
  · subst h23
    have HN := Lib.hid (show nm 23 = ⟨#[]⟩ by rfl)
    rw [HN.out]
    go_enter Tryz.func56, Tryz.ntmps56
    go_wp2
    go_ret
    exact ⟨rfl, rfl⟩
  by_cases h25 : op = 25
  · subst h25
    have HN := Lib.hid (show nm 25 = ⟨#[68, 65, 106]⟩ by rfl)
    rw [HN.out]
    go_enter Tryz.func56, Tryz.ntmps56
    go_wp2
    go_ret
    exact ⟨rfl, rfl⟩
  have HN := Lib.hid (show nm op = ⟨#[45]⟩ by
    unfold nm nmL
    simp only [List.find?, decide_eq_false (fun h : (1 : Int) = op => h1 h.symm), decide_eq_false (fun h : (2 : Int) = op => h2 h.symm), decide_eq_false (fun h : (3 : Int) = op => h3 h.symm), decide_eq_false (fun h : (4 : Int) = op => h4 h.symm), decide_eq_false (fun h : (5 : Int) = op => h5 h.symm), decide_eq_false (fun h : (26 : Int) = op => h26 h.symm), decide_eq_false (fun h : (6 : Int) = op => h6 h.symm), decide_eq_false (fun h : (7 : Int) = op => h7 h.symm), decide_eq_false (fun h : (8 : Int) = op => h8 h.symm), decide_eq_false (fun h : (9 : Int) = op => h9 h.symm), decide_eq_false (fun h : (10 : Int) = op => h10 h.symm), decide_eq_false (fun h : (11 : Int) = op => h11 h.symm), decide_eq_false (fun h : (12 : Int) = op => h12 h.symm), decide_eq_false (fun h : (13 : Int) = op => h13 h.symm), decide_eq_false (fun h : (14 : Int) = op => h14 h.symm), decide_eq_false (fun h : (15 : Int) = op => h15 h.symm), decide_eq_false (fun h : (16 : Int) = op => h16 h.symm), decide_eq_false (fun h : (17 : Int) = op => h17 h.symm), decide_eq_false (fun h : (24 : Int) = op => h24 h.symm), decide_eq_false (fun h : (18 : Int) = op => h18 h.symm), decide_eq_false (fun h : (19 : Int) = op => h19 h.symm), decide_eq_false (fun h : (20 : Int) = op => h20 h.symm), decide_eq_false (fun h : (21 : Int) = op => h21 h.symm), decide_eq_false (fun h : (22 : Int) = op => h22 h.symm), decide_eq_false (fun h : (23 : Int) = op => h23 h.symm), decide_eq_false (fun h : (25 : Int) = op => h25 h.symm)]
    rfl)
  have e1 : (op == 1) = false := by rw [beq_eq_false_iff_ne]; exact h1
  have e2 : (op == 2) = false := by rw [beq_eq_false_iff_ne]; exact h2
  have e3 : (op == 3) = false := by rw [beq_eq_false_iff_ne]; exact h3
  have e4 : (op == 4) = false := by rw [beq_eq_false_iff_ne]; exact h4
  have e5 : (op == 5) = false := by rw [beq_eq_false_iff_ne]; exact h5
  have e26 : (op == 26) = false := by rw [beq_eq_false_iff_ne]; exact h26
  have e6 : (op == 6) = false := by rw [beq_eq_false_iff_ne]; exact h6
  have e7 : (op == 7) = false := by rw [beq_eq_false_iff_ne]; exact h7
  have e8 : (op == 8) = false := by rw [beq_eq_false_iff_ne]; exact h8
  have e9 : (op == 9) = false := by rw [beq_eq_false_iff_ne]; exact h9
  have e10 : (op == 10) = false := by rw [beq_eq_false_iff_ne]; exact h10
  have e11 : (op == 11) = false := by rw [beq_eq_false_iff_ne]; exact h11
  have e12 : (op == 12) = false := by rw [beq_eq_false_iff_ne]; exact h12
  have e13 : (op == 13) = false := by rw [beq_eq_false_iff_ne]; exact h13
  have e14 : (op == 14) = false := by rw [beq_eq_false_iff_ne]; exact h14
  have e15 : (op == 15) = false := by rw [beq_eq_false_iff_ne]; exact h15
  have e16 : (op == 16) = false := by rw [beq_eq_false_iff_ne]; exact h16
  have e17 : (op == 17) = false := by rw [beq_eq_false_iff_ne]; exact h17
  have e24 : (op == 24) = false := by rw [beq_eq_false_iff_ne]; exact h24
  have e18 : (op == 18) = false := by rw [beq_eq_false_iff_ne]; exact h18
  have e19 : (op == 19) = false := by rw [beq_eq_false_iff_ne]; exact h19
  have e20 : (op == 20) = false := by rw [beq_eq_false_iff_ne]; exact h20
  have e21 : (op == 21) = false := by rw [beq_eq_false_iff_ne]; exact h21
  have e22 : (op == 22) = false := by rw [beq_eq_false_iff_ne]; exact h22
  have e23 : (op == 23) = false := by rw [beq_eq_false_iff_ne]; exact h23
  have e25 : (op == 25) = false := by rw [beq_eq_false_iff_ne]; exact h25
  rw [HN.out]
  clear h1 h2 h3 h4 h5 h26 h6 h7 h8 h9 h10 h11 h12 h13 h14 h15 h16 h17 h24 h18 h19 h20 h21 h22 h23 h25
  go_enter Tryz.func56, Tryz.ntmps56
  go_wp2
  go_ret
  exact ⟨rfl, rfl⟩
def hasN (s : ByteArray) (c : UInt8) : Bool := s.data.toList.contains c
set_option maxRecDepth 100000 in
set_option maxHeartbeats 2000000 in
theorem has_any (s : ByteArray) (c : UInt8) (n : Int) (hn : (c.toNat : Int) = n) (hs : s.size ≤ 100) (w : World) : Calls Tryz.prog 58 #[.string s, .int .u8 n] w fun e w' => e = .returned (.bool (hasN s c)) ∧ w = w' := by
  subst hn
  go_enter Tryz.func58, Tryz.ntmps58
  go_wp2
  go_loopw [5] (fun i wr => ∃ k : Nat, k ≤ s.size ∧ i = .int .i64 k ∧ (∀ x ∈ s.data.toList.take k, x ≠ c) ∧ w = wr) (fun i _ => s.size - (intOf i).toNat)
  case atStart => exact ⟨0, Nat.zero_le _, rfl, by simp, rfl⟩
  case round =>
    obtain ⟨k, hk, rfl, hall, rfl⟩ := hrel
    have HA := Lib.hid hall
    clear hall
    by_cases hlt : k < s.size
    · have g1 : (k : Int) < s.size := by omega
      have HT := Lib.hid (take_snoc s k hlt)
      have HG := Lib.hid (get_toList s k hlt)
      by_cases hc : s[k] = c
      · have q : ((s[k].toNat : Int) == c.toNat) = true := by rw [hc]; simp
        have HR := Lib.hid (show hasN s c = true by
          unfold hasN
          rw [List.contains_iff_mem, ← hc]
          exact List.mem_of_getElem? HG.out)
        clear hc
        go_wp2
        go_ret
        exact ⟨ret_b HR.out.symm, rfl⟩
      · have q : ((s[k].toNat : Int) == c.toNat) = false := by
          rw [beq_eq_false_iff_ne]
          intro h
          exact hc (UInt8.toNat_inj.1 (by omega))
        have HR := Lib.hid (show ∀ x ∈ s.data.toList.take (k + 1), x ≠ c by
          intro x hx
          rw [HT.out] at hx
          rcases List.mem_append.1 hx with h | h
          · exact HA.out x h
          · obtain rfl : x = s[k] := by simpa using h
            exact hc)
        clear hc
        go_wp2
        go_roundw
        case rel => exact ⟨k + 1, by omega, by go_num, HR.out, by first | rfl | trivial⟩
        case measure => simp [intOf]; omega
    · have g1 : ¬ (k : Int) < s.size := by omega
      have HR := Lib.hid (show hasN s c = false by
        unfold hasN
        rw [← Bool.not_eq_true, List.contains_iff_mem]
        intro h
        have := HA.out c (by rw [List.take_of_length_le (by rw [len_toList]; omega)]; exact h)
        exact this rfl)
      go_wp2
      go_ret
      exact ⟨ret_b HR.out.symm, rfl⟩
def regB (n : Int) (named : Bool) (regs : Int) : Bool := if named then decide (0 ≤ n) && decide (n < regs) else decide (n = 0)
set_option maxHeartbeats 2000000 in
theorem reg_any (n : Int) (named : Bool) (regs : Int) (w : World) : Calls Tryz.prog 57 #[.int .i64 n, .bool named, .int .i64 regs] w fun e w' => e = .returned (.bool (regB n named regs)) ∧ w = w' := by
  cases named
  · go_enter Tryz.func57, Tryz.ntmps57
    go_wp2
    go_ret
    exact ⟨ret_b (by unfold regB; rw [if_neg (by simp)]; rfl), rfl⟩
  · by_cases h : 0 ≤ n
    · go_enter Tryz.func57, Tryz.ntmps57
      go_wp2
      go_ret
      exact ⟨ret_b (by unfold regB; rw [if_pos rfl]; simp [h]), rfl⟩
    · go_enter Tryz.func57, Tryz.ntmps57
      go_wp2
      go_ret
      exact ⟨ret_b (by unfold regB; rw [if_pos rfl]; simp; omega), rfl⟩
set_option maxHeartbeats 4000000 in
theorem rvright_any (k n : Int) (s : ByteArray) (w : World) : Calls Tryz.prog 59 #[.agg #[.int .i64 k, .int .i64 n, .string s]] w fun e w' => e = .returned (.bool (vrightB k n s)) ∧ Below w.heap.size w w' := by
  go_enter Tryz.func59, Tryz.ntmps59
  go_wp2
  all_goals go_ret
  all_goals (refine ⟨ret_b ?_, ?_⟩)
  all_goals first
    | exact ((Below.refl _ _).alloc (Nat.le_refl _) _)
    | (simp_all [vrightB]; done)
end Go.Proofs.YtconnhphkbgbkaaGreatDoor
