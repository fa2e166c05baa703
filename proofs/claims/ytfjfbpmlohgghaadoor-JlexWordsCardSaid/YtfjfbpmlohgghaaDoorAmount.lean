/- jlex.amount: the number that digits write. -/
import Derived.Test.YtfjfbpmlohgghaaDoorSign
import Derived.Lib.ParseIntB
namespace Go.Proofs.YtfjfbpmlohgghaaDoor
open Go.RowKit Go.Proofs

/-- The library's three variables are what a start lays. -/
def Env (w : World) : Prop := (∃ m : Int, w.cell? ⟨0, 0, none⟩ = some (.int .i64 m)) ∧ (∃ tp p, w.cell? ⟨1, 0, none⟩ = some (.iface tp p)) ∧ (∃ tp p, w.cell? ⟨2, 0, none⟩ = some (.iface tp p))
theorem Env.size {w : World} (h : Env w) : 3 ≤ w.heap.size := by
  obtain ⟨_, _, t, p, h⟩ := h
  have := World.block_lt_of_cell? _ _ h
  exact this
theorem Env.below {w w' : World} {B : Nat} (h : Env w) (hB : 3 ≤ B) (hb : Below B w w') : Env w' := by
  obtain ⟨⟨m, h0⟩, ⟨t, p, h1⟩, ⟨t', p', h2⟩⟩ := h
  exact ⟨⟨m, (hb.cell (p := ⟨0, 0, none⟩) (by show 0 < B; omega)).trans h0⟩, ⟨t, p, (hb.cell (p := ⟨1, 0, none⟩) (by show 1 < B; omega)).trans h1⟩, ⟨t', p', (hb.cell (p := ⟨2, 0, none⟩) (by show 2 < B; omega)).trans h2⟩⟩
theorem Env.kept {w w' : World} (h : Env w) (hb : Below w.heap.size w w') : Env w' := h.below h.size hb

theorem valM {M : Nat} : ∀ (l : Bs) (acc : Nat), (∀ c ∈ l, digitB c = true) → (Lib.parseUintM M acc l = .ok (l.foldl (fun n c => n * 10 + (c.toNat - 48)) acc) ∧ (l.foldl (fun n c => n * 10 + (c.toNat - 48)) acc ≤ M ∨ l = [])) ∨ (Lib.parseUintM M acc l = .range ∧ (M < l.foldl (fun n c => n * 10 + (c.toNat - 48)) acc ∨ 18446744073709551616 ≤ l.foldl (fun n c => n * 10 + (c.toNat - 48)) acc))
  | [], acc, _ => .inl ⟨rfl, .inr rfl⟩
  | c :: r, acc, h => by
    have hc := (digitB_iff c).1 (h c (by simp))
    have mono : ∀ (l : Bs) (a b : Nat), a ≤ b → a ≤ l.foldl (fun n c => n * 10 + (c.toNat - 48)) b := by
      intro l
      induction l with
      | nil => intro a b h; exact h
      | cons x r ih => intro a b h; exact ih a _ (by show a ≤ b * 10 + (x.toNat - 48); omega)
    rw [List.foldl_cons]
    unfold Lib.parseUintM
    rw [if_pos hc]
    by_cases h1 : 1844674407370955162 ≤ acc
    · rw [if_pos h1]
      exact .inr ⟨rfl, .inr (mono r _ _ (by omega))⟩
    · rw [if_neg h1]
      by_cases h2 : M < acc * 10 + (c.toNat - 48)
      · rw [if_pos h2]
        exact .inr ⟨rfl, .inl (mono r _ _ h2)⟩
      · rw [if_neg h2]
        rcases valM r (acc * 10 + (c.toNat - 48)) (fun x hx => h x (by simp [hx])) with ⟨h3, h4⟩ | h3
        · refine .inl ⟨h3, .inl ?_⟩
          rcases h4 with h4 | rfl
          · exact h4
          · simp; omega
        · exact .inr h3
/-- ParseInt at digits: the number, or that it is too great. -/
theorem parse_digits (l : Bs) (h0 : l ≠ []) (h : ∀ c ∈ l, digitB c = true) :
    (Lib.parseIntB 64 l = .ok (valL l : Int) ∧ valL l < 9223372036854775808) ∨ (Lib.parseIntB 64 l = .range ∧ 9223372036854775808 ≤ valL l) := by
  obtain ⟨c, r, rfl⟩ := List.exists_cons_of_ne_nil h0
  have hc := (digitB_iff c).1 (h c (by simp))
  have e1 : ¬ (c.toNat = 43 ∨ c.toNat = 45) := by omega
  have e2 : ¬ c.toNat = 45 := by omega
  unfold Lib.parseIntB
  simp only [if_neg e1]
  have hu : Lib.parseUintB 64 (c :: r) = Lib.parseUintM (2 ^ 64 - 1) 0 (c :: r) := by unfold Lib.parseUintB; rw [if_neg (by simp)]
  rw [hu]
  rcases valM (M := 2 ^ 64 - 1) (c :: r) 0 h with ⟨h3, h4⟩ | ⟨h3, h4⟩
  · rw [h3]
    simp only [e2, not_false_eq_true, true_and, false_and, if_false]
    by_cases hv : 2 ^ (64 - 1) ≤ (c :: r).foldl (fun n c => n * 10 + (c.toNat - 48)) 0
    · rw [if_pos hv]
      exact .inr ⟨rfl, hv⟩
    · rw [if_neg hv]
      exact .inl ⟨rfl, by unfold valL; omega⟩
  · rw [h3]
    refine .inr ⟨rfl, ?_⟩
    unfold valL
    omega

set_option maxRecDepth 100000 in
set_option maxHeartbeats 1000000 in
theorem amount_zero (s : ByteArray) (w : World) (hs : s.size ≤ maxLen) (h1 : 1 < s.size) (h : s[0].toNat = 48) :
    Calls Tryd.prog 48 #[.string s] w fun e w' => e = .returned (.tuple #[.int .i64 0, .bool false]) ∧ Below w.heap.size w w' := by
  unfold maxLen at hs
  have g1 : (1 : Int) < s.size := by omega
  have g0 : 0 < s.size := by omega
  have e1 : ((s[0].toNat : Int) == 48) = true := by simp; omega
  clear h
  go_enter Tryd.func48, Tryd.ntmps48
  go_wp2
  go_ret2
  exact ⟨rfl, Below.refl _ _⟩

/-- What ParseInt answers at digits. -/
theorem parse_ok (s : ByteArray) (v : Int) (hs : s.size ≤ 1000000) (h : Lib.parseIntB 64 s.data.toList = .ok v) (w : World) :
    Calls Tryd.prog 56 #[.string s, .int .i64 10, .int .i64 64] w fun e w' => e = .returned (.tuple #[.int .i64 v, .nilIface]) ∧ Below w.heap.size w w' :=
  (Tryd.strconv_ParseInt_10_at64_ok s (by omega) v h w).mono fun e w' hh => ⟨hh.1, by
    rcases hh.2 with rfl | ⟨t, rfl⟩
    · exact Below.refl _ _
    · exact Lib.bytesWorld_below _ _ _⟩
theorem parse_range (s : ByteArray) (hs : s.size ≤ 1000000) (h : Lib.parseIntB 64 s.data.toList = .range) (w : World) (hE : Env w) :
    Calls Tryd.prog 56 #[.string s, .int .i64 10, .int .i64 64] w fun e w' => ∃ (N : Nat) (v : Int), e = .returned (.tuple #[.int .i64 v, .iface 80 (.pointer (some ⟨N, 0, none⟩))]) ∧ Below w.heap.size w w' := by
  obtain ⟨_, _, ⟨tp, p, h2⟩⟩ := hE
  exact (Tryd.strconv_ParseInt_10_at64_range s (by omega) h (.iface tp p) w h2 (.inr ⟨tp, p, rfl⟩)).mono fun e w' ⟨N, hh⟩ => ⟨N, _, hh.1, hh.2.2.2⟩

set_option maxRecDepth 100000 in
set_option maxHeartbeats 1000000 in
theorem amount_range (s : ByteArray) (w : World) (hE : Env w) (hs : s.size ≤ 1000000) (h1 : ¬ 1 < s.size ∨ ∃ h : 0 < s.size, s[0].toNat ≠ 48) (hp : Lib.parseIntB 64 s.data.toList = .range) :
    Calls Tryd.prog 48 #[.string s] w fun e w' => e = .returned (.tuple #[.int .i64 0, .bool false]) ∧ Below w.heap.size w w' := by
  have HP := Lib.hid (parse_range s hs hp w hE)
  clear hp
  by_cases hz : 1 < s.size
  · have g0 : 0 < s.size := by omega
    have e1 : ((s[0].toNat : Int) == 48) = false := by
      rcases h1 with h1 | ⟨_, h1⟩
      · omega
      · simp; omega
    have g1 : (1 : Int) < s.size := by omega
    clear h1
    go_enter Tryd.func48, Tryd.ntmps48
    go_wp2_with (go_at_call 56; refine HP.out.mono ?_; rintro e w' ⟨N, v, rfl, hb⟩)
    go_ret2
    exact ⟨rfl, hb⟩
  · clear h1
    go_enter Tryd.func48, Tryd.ntmps48
    go_wp2_with (go_at_call 56; refine HP.out.mono ?_; rintro e w' ⟨N, v, rfl, hb⟩)
    go_ret2
    exact ⟨rfl, hb⟩

set_option maxRecDepth 100000 in
set_option maxHeartbeats 1000000 in
theorem amount_big (s : ByteArray) (w : World) (hs : s.size ≤ 1000000) (h1 : ¬ 1 < s.size ∨ ∃ h : 0 < s.size, s[0].toNat ≠ 48) (v : Nat) (hp : Lib.parseIntB 64 s.data.toList = .ok (v : Int)) (hv : 999999999999999 < v) :
    Calls Tryd.prog 48 #[.string s] w fun e w' => e = .returned (.tuple #[.int .i64 0, .bool false]) ∧ Below w.heap.size w w' := by
  have HP := Lib.hid (parse_ok s _ hs hp w)
  have e2 : (999999999999999 : Int) < v := by omega
  clear hp
  by_cases hz : 1 < s.size
  · have g0 : 0 < s.size := by omega
    have e1 : ((s[0].toNat : Int) == 48) = false := by
      rcases h1 with h1 | ⟨_, h1⟩
      · omega
      · simp; omega
    have g1 : (1 : Int) < s.size := by omega
    clear h1
    go_enter Tryd.func48, Tryd.ntmps48
    go_wp2_with (go_at_call 56; refine HP.out.mono ?_; rintro e w' ⟨rfl, hb⟩)
    go_ret2
    exact ⟨rfl, hb⟩
  · clear h1
    go_enter Tryd.func48, Tryd.ntmps48
    go_wp2_with (go_at_call 56; refine HP.out.mono ?_; rintro e w' ⟨rfl, hb⟩)
    go_ret2
    exact ⟨rfl, hb⟩

set_option maxRecDepth 100000 in
set_option maxHeartbeats 1000000 in
theorem amount_ok (s : ByteArray) (w : World) (hs : s.size ≤ 1000000) (h1 : ¬ 1 < s.size ∨ ∃ h : 0 < s.size, s[0].toNat ≠ 48) (v : Nat) (hp : Lib.parseIntB 64 s.data.toList = .ok (v : Int)) (hv : v ≤ 999999999999999) :
    Calls Tryd.prog 48 #[.string s] w fun e w' => e = .returned (.tuple #[.int .i64 v, .bool true]) ∧ Below w.heap.size w w' := by
  have HP := Lib.hid (parse_ok s _ hs hp w)
  have e2 : (v : Int) ≤ 999999999999999 := by omega
  clear hp
  by_cases hz : 1 < s.size
  · have g0 : 0 < s.size := by omega
    have e1 : ((s[0].toNat : Int) == 48) = false := by
      rcases h1 with h1 | ⟨_, h1⟩
      · omega
      · simp; omega
    have g1 : (1 : Int) < s.size := by omega
    clear h1
    go_enter Tryd.func48, Tryd.ntmps48
    go_wp2_with (go_at_call 56; refine HP.out.mono ?_; rintro e w' ⟨rfl, hb⟩)
    go_ret2
    exact ⟨rfl, hb⟩
  · clear h1
    go_enter Tryd.func48, Tryd.ntmps48
    go_wp2_with (go_at_call 56; refine HP.out.mono ?_; rintro e w' ⟨rfl, hb⟩)
    go_ret2
    exact ⟨rfl, hb⟩

/-- What jlex.amount hands back. -/
def amV (o : Option Nat) : Value := match o with
  | none => .tuple #[.int .i64 0, .bool false]
  | some v => .tuple #[.int .i64 v, .bool true]
theorem amount_any (s : ByteArray) (w : World) (hE : Env w) (hs : s.size ≤ 1000000) (h0 : 0 < s.size) (hd : ∀ c ∈ s.data.toList, digitB c = true) :
    Calls Tryd.prog 48 #[.string s] w fun e w' => e = .returned (amV (amountL s.data.toList)) ∧ Below w.heap.size w w' := by
  by_cases hz : 1 < s.size ∧ s[0].toNat = 48
  · have e : amountL s.data.toList = none := by
      unfold amountL
      rw [len_toList, getD_at s 0 h0, if_pos]
      simp [hz.1, ← UInt8.toNat_inj, hz.2]
    rw [e]
    exact amount_zero s w (by unfold maxLen; omega) hz.1 hz.2
  · have e : amountL s.data.toList = if valL s.data.toList ≤ 999999999999999 then some (valL s.data.toList) else none := by
      unfold amountL
      rw [len_toList, getD_at s 0 h0, if_neg]
      simp [← UInt8.toNat_inj]
      intro h1 h2
      exact hz ⟨h1, h2⟩
    have h1 : ¬ 1 < s.size ∨ ∃ h : 0 < s.size, s[0].toNat ≠ 48 := by
      by_cases h : 1 < s.size
      · exact .inr ⟨h0, fun h2 => hz ⟨h, h2⟩⟩
      · exact .inl h
    have hne : s.data.toList ≠ [] := fun h => by
      have := len_toList s
      rw [h] at this
      simp at this
      omega
    rw [e]
    rcases parse_digits _ hne hd with ⟨hp, _⟩ | ⟨hp, hv⟩
    · by_cases hv : valL s.data.toList ≤ 999999999999999
      · rw [if_pos hv]
        exact amount_ok s w hs h1 _ hp hv
      · rw [if_neg hv]
        exact amount_big s w hs h1 _ hp (by omega)
    · rw [if_neg (by omega)]
      exact amount_range s w hE hs h1 hp
end Go.Proofs.YtfjfbpmlohgghaaDoor
