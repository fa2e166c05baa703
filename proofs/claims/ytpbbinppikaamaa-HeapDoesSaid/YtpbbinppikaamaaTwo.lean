/- The heap of two laws. -/
import Derived.Test.YtpbbinppikaamaaLawNone
namespace Go.Proofs.Ytpbbinppikaamaa
open Go.RowKit Go.Proofs Go.Maps

/-- The heap of two laws: an object, and one ahead of it. -/
def L5 : Hp := new0 ++ [⟨0, 0, 0, 0, []⟩]
def L6 (k4 k5 : List (ByteArray × V)) : Hp := new0 ++ [⟨0, 0, 0, 0, k4⟩, ⟨0, 4, 0, 0, k5⟩]
theorem alloc5 : allocL new0 0 0 0 0 = L5 ∧ allocV new0 0 = 4 ∧ allocE new0 0 = 0 := ⟨rfl, rfl, rfl⟩
theorem alloc6 : allocL L5 0 4 0 0 = L6 [] [] ∧ allocV L5 4 = 5 ∧ allocE L5 4 = 0 := ⟨rfl, rfl, rfl⟩
theorem chain5 (k4 k5 : List (ByteArray × V)) : chain (L6 k4 k5) 5 = [5, 4, 0] := rfl
theorem chain4 (k4 k5 : List (ByteArray × V)) : chain (L6 k4 k5) 4 = [4, 0] := rfl
theorem get5 (k4 k5 : List (ByteArray × V)) (s : ByteArray) : get (L6 k4 k5) 5 s = match lk k5 s with
    | some v => some v
    | none => lk k4 s := by
  unfold get
  rw [chain5]
  show (match lk k5 s with
    | some v => some v
    | none => match lk k4 s with
      | some v => some v
      | none => none) = _
  cases lk k5 s with
  | some v => rfl
  | none => cases lk k4 s <;> rfl
theorem get4 (k4 k5 : List (ByteArray × V)) (s : ByteArray) : get (L6 k4 k5) 4 s = lk k4 s := by
  unfold get
  rw [chain4]
  show (match lk k4 s with
    | some v => some v
    | none => none) = _
  cases lk k4 s <;> rfl
theorem own4 (k4 k5 : List (ByteArray × V)) (s : ByteArray) : own (L6 k4 k5) 4 s = lk k4 s := rfl
theorem own5 (k4 k5 : List (ByteArray × V)) (s : ByteArray) : own (L6 k4 k5) 5 s = lk k5 s := rfl
theorem keys4 (k4 k5 : List (ByteArray × V)) : keys (L6 k4 k5) 4 = keysOf k4 := rfl
theorem all5 (k4 k5 : List (ByteArray × V)) : all (L6 k4 k5) 5 = addL (addL [] (keysOf k5)) (keysOf k4) := by
  unfold all
  rw [chain5]
  rfl
theorem emptyS : (⟨#[]⟩ : ByteArray).toList = [] := by rw [ByteArray.toList_eq]
theorem put4 (k4 k5 : List (ByteArray × V)) (s : ByteArray) (v : V) (h : okPut (L6 [] []) v = true) : putE (L6 k4 k5) 4 v = 0 ∧ putL (L6 k4 k5) 4 s v = L6 (pt k4 s v) k5 := by
  have e : okPut (L6 k4 k5) v = true := h
  have e0 : putE (L6 k4 k5) 4 v = 0 := by
    unfold putE
    rw [if_neg (by rw [show at? (L6 k4 k5) 4 = some ⟨0, 0, 0, 0, k4⟩ from rfl]; simp), if_pos e]
  refine ⟨e0, ?_⟩
  unfold putL
  rw [if_pos e0]
  rfl
theorem put5 (k4 k5 : List (ByteArray × V)) (s : ByteArray) (v : V) (h : okPut (L6 [] []) v = true) : putE (L6 k4 k5) 5 v = 0 ∧ putL (L6 k4 k5) 5 s v = L6 k4 (pt k5 s v) := by
  have e : okPut (L6 k4 k5) v = true := h
  have e0 : putE (L6 k4 k5) 5 v = 0 := by
    unfold putE
    rw [if_neg (by rw [show at? (L6 k4 k5) 5 = some ⟨0, 4, 0, 0, k5⟩ from rfl]; simp), if_pos e]
  refine ⟨e0, ?_⟩
  unfold putL
  rw [if_pos e0]
  rfl
theorem okNum (a : Int) : okPut (L6 [] []) ⟨3, a, ⟨#[]⟩⟩ = true := by simp [okPut, rightB]

end Go.Proofs.Ytpbbinppikaamaa
