/- Strings as lists of bytes. No program. -/
import Derived.Test.YtconnhphkbgbkaaGreatDoorMem
import Derived.Outline
import Derived.Test.YtconnhphkbgbkaaGreatDoorPlain
namespace Go.Proofs.YtconnhphkbgbkaaGreatDoor
open Go.RowKit Go.Proofs

theorem letterB_iff (c : UInt8) : letterB c = true ↔ (97 ≤ c.toNat ∧ c.toNat ≤ 122) ∨ (65 ≤ c.toNat ∧ c.toNat ≤ 90) ∨ c.toNat = 95 ∨ c.toNat = 36 := by
  simp [letterB, UInt8.le_iff_toNat_le, ← UInt8.toNat_inj]
  omega
theorem digitB_iff (c : UInt8) : digitB c = true ↔ 48 ≤ c.toNat ∧ c.toNat ≤ 57 := by
  simp [digitB, UInt8.le_iff_toNat_le]
theorem plainB_iff (c : UInt8) : plainB c = true ↔ 32 ≤ c.toNat ∧ c.toNat ≤ 126 := by
  simp [plainB, UInt8.le_iff_toNat_le]
theorem noEndB_iff (c : UInt8) : noEndB c = true ↔ c.toNat ≠ 10 := by
  simp [noEndB, ← UInt8.toNat_inj]

theorem ret_i {k : IntKind} {a b : Int} (h : a = b) : Ending.returned (.int k a) = .returned (.int k b) := by rw [h]
theorem len_toList (s : ByteArray) : s.data.toList.length = s.size := by rw [Array.length_toList]; rfl
theorem get_toList (s : ByteArray) (k : Nat) (h : k < s.size) : s.data.toList[k]? = some s[k] := by
  rw [List.getElem?_eq_getElem (by rw [len_toList]; exact h)]; rfl
theorem drop_toList (s : ByteArray) (k : Nat) (h : k < s.size) : s.data.toList.drop k = s[k] :: s.data.toList.drop (k + 1) := by
  rw [List.drop_eq_getElem_cons (by rw [len_toList]; exact h)]; rfl
theorem takeWhile_split (p : UInt8 → Bool) (l : Bs) : l.takeWhile p ++ l.drop (l.takeWhile p).length = l := by
  induction l with
  | nil => rfl
  | cons c r ih =>
    rw [List.takeWhile_cons]
    cases h : p c with
    | true => simpa using ih
    | false => simp
/-- The first k are such ones, the next one is not: so many. -/
theorem runL_stop (p : UInt8 → Bool) : ∀ (k : Nat) (l : Bs), (∀ c ∈ l.take k, p c = true) → (∀ c, (l.drop k).head? = some c → p c = false) → k ≤ l.length → runL p l = k
  | 0, [], _, _, _ => rfl
  | 0, c :: r, _, h, _ => by
    have := h c rfl
    simp [runL, this]
  | k + 1, [], _, _, h => by simp at h
  | k + 1, c :: r, h1, h2, h3 => by
    have hc := h1 c (by simp)
    have := runL_stop p k r (fun x hx => h1 x (by simp [hx])) (fun x hx => h2 x (by simpa using hx)) (by simpa using h3)
    unfold runL at *
    rw [List.takeWhile_cons, if_pos hc, List.length_cons, this]
theorem runL_at (p : UInt8 → Bool) (s : ByteArray) (k : Nat) (hk : k < s.size) (h : ∀ c ∈ s.data.toList.take k, p c = true) (hp : p s[k] = false) : (k : Int) = runL p s.data.toList := by
  rw [runL_stop p k _ h (fun c hc => by
    rw [drop_toList s k hk] at hc
    obtain rfl : s[k] = c := by simpa using hc
    exact hp) (by rw [len_toList]; omega)]
theorem runL_all (p : UInt8 → Bool) (s : ByteArray) (k : Nat) (hk : k ≤ s.size) (hk2 : ¬ k < s.size) (h : ∀ c ∈ s.data.toList.take k, p c = true) : (s.size : Int) = runL p s.data.toList := by
  obtain rfl : k = s.size := by omega
  rw [runL_stop p s.size _ h (fun c hc => by
    rw [List.drop_eq_nil_of_le (by rw [len_toList]; omega)] at hc
    cases hc) (by rw [len_toList]; omega)]
theorem runL_le (p : UInt8 → Bool) (l : Bs) : runL p l ≤ l.length := by
  unfold runL; exact (List.takeWhile_prefix p).length_le
theorem take_snoc (s : ByteArray) (k : Nat) (h : k < s.size) : s.data.toList.take (k + 1) = s.data.toList.take k ++ [s[k]] := by
  rw [List.take_succ_eq_append_getElem (by simpa using h)]; rfl

def bs (l : Bs) : ByteArray := ⟨l.toArray⟩
theorem bs_list (l : Bs) : (bs l).data.toList = l := by simp [bs]
theorem bs_of (s : ByteArray) : bs s.data.toList = s := by simp [bs]
theorem bs_size (l : Bs) : (bs l).size = l.length := by rw [← len_toList, bs_list]

theorem ret_s {a b : ByteArray} (h : a = b) : Ending.returned (.string a) = .returned (.string b) := by rw [h]
theorem runL_all_such (p : UInt8 → Bool) (l : Bs) (h : ∀ c ∈ l, p c = true) : runL p l = l.length := by
  exact runL_stop p l.length l (fun c hc => h c (by rwa [List.take_length] at hc)) (fun c hc => by rw [List.drop_length] at hc; cases hc) (Nat.le_refl _)
/-- But for draws the world is as it was. -/
def Drewn (w w' : World) : Prop := ∃ k, w' = w.drewN k
theorem Drewn.below {w w' : World} (h : Drewn w w') : Below w.heap.size w w' := by
  obtain ⟨k, rfl⟩ := h
  exact ⟨rfl, rfl, rfl, Nat.le_refl _, fun _ _ => rfl⟩
end Go.Proofs.YtconnhphkbgbkaaGreatDoor
