/- Heaps as lists: objects, keys, values; what acts tell. No program. -/
import Derived.Test.YtpbbinppikaamaaMem
namespace Go.Proofs.Ytpbbinppikaamaa
open Go.RowKit Go.Proofs

/-- A value, whatever it is. -/
structure V where
  k : Int
  n : Int
  s : ByteArray
deriving DecidableEq
def V.v (x : V) : Value := .agg #[.int .i64 x.k, .int .i64 x.n, .string x.s]
def V.zero : V := ⟨0, 0, ⟨#[]⟩⟩
/-- May it be. -/
def rightB (k n : Int) (s : ByteArray) : Bool :=
  if k = 0 ∨ k = 1 then n == 0 && s.toList.isEmpty
  else if k = 2 then (n == 0 || n == 1) && s.toList.isEmpty
  else if k = 3 ∨ k = 5 then s.toList.isEmpty
  else if k = 4 then n == 0 else false
/-- An object. -/
structure Ob where
  mark : Int
  proto : Int
  code : Int
  frame : Int
  kv : List (ByteArray × V)
def lk : List (ByteArray × V) → ByteArray → Option V
  | [], _ => none
  | (k, v) :: r, s => if k = s then some v else lk r s
def pt : List (ByteArray × V) → ByteArray → V → List (ByteArray × V)
  | [], s, v => [(s, v)]
  | (k, u) :: r, s, v => if k = s then (k, v) :: r else (k, u) :: pt r s v
theorem lk_pt_same (l : List (ByteArray × V)) (s : ByteArray) (v : V) : lk (pt l s v) s = some v := by
  induction l with
  | nil => simp [pt, lk]
  | cons a r ih =>
    obtain ⟨k, u⟩ := a
    unfold pt
    split
    · rename_i h; simp [lk, h]
    · rename_i h; simp [lk, h, ih]
theorem lk_pt_other (l : List (ByteArray × V)) (s t : ByteArray) (v : V) (h : t ≠ s) : lk (pt l s v) t = lk l t := by
  induction l with
  | nil => simp [pt, lk, h.symm]
  | cons a r ih =>
    obtain ⟨k, u⟩ := a
    unfold pt
    split
    · rename_i e; subst e; simp [lk, h.symm]
    · simp [lk, ih]
def keysOf (l : List (ByteArray × V)) : List ByteArray := l.map (·.1)
theorem lk_isSome (l : List (ByteArray × V)) (s : ByteArray) : (lk l s).isSome = true ↔ s ∈ keysOf l := by
  induction l with
  | nil => simp [lk, keysOf]
  | cons a r ih =>
    obtain ⟨k, u⟩ := a
    unfold lk
    split
    · rename_i h; subst h; simp [keysOf]
    · rename_i h
      rw [ih]
      simp [keysOf, Ne.symm h]
theorem keys_pt_old (l : List (ByteArray × V)) (s : ByteArray) (v : V) (h : (lk l s).isSome = true) : keysOf (pt l s v) = keysOf l := by
  induction l with
  | nil => simp [lk] at h
  | cons a r ih =>
    obtain ⟨k, u⟩ := a
    unfold pt
    split
    · rfl
    · rename_i hk
      rw [lk, if_neg hk] at h
      show k :: keysOf _ = k :: keysOf _
      rw [ih h]
theorem keys_pt_new (l : List (ByteArray × V)) (s : ByteArray) (v : V) (h : lk l s = none) : keysOf (pt l s v) = keysOf l ++ [s] := by
  induction l with
  | nil => rfl
  | cons a r ih =>
    obtain ⟨k, u⟩ := a
    unfold lk at h
    split at h
    · cases h
    · rename_i hk
      unfold pt
      rw [if_neg hk]
      show k :: keysOf _ = k :: (keysOf _ ++ _)
      rw [ih h]
theorem pt_len_old (l : List (ByteArray × V)) (s : ByteArray) (v : V) (h : (lk l s).isSome = true) : (pt l s v).length = l.length := by
  have := congrArg List.length (keys_pt_old l s v h)
  simpa [keysOf] using this
theorem pt_len_new (l : List (ByteArray × V)) (s : ByteArray) (v : V) (h : lk l s = none) : (pt l s v).length = l.length + 1 := by
  have := congrArg List.length (keys_pt_new l s v h)
  simpa [keysOf] using this

abbrev Hp := List Ob
def at? (L : Hp) (p : Int) : Option Ob := if p < 0 then none else L[p.toNat]?
theorem at?_nat (L : Hp) (p : Nat) : at? L (p : Int) = L[p]? := by
  unfold at?
  rw [if_neg (by omega)]
  simp
theorem at?_some {L : Hp} {p : Int} {o : Ob} (h : at? L p = some o) : ∃ n : Nat, p = n ∧ n < L.length ∧ L[n]? = some o := by
  unfold at? at h
  split at h
  · cases h
  · refine ⟨p.toNat, by omega, ?_, h⟩
    exact (List.getElem?_eq_some_iff.1 h).1
theorem at?_none {L : Hp} {p : Int} (h : at? L p = none) : p < 0 ∨ (L.length : Int) ≤ p := by
  unfold at? at h
  split at h
  · exact .inl (by assumption)
  · have := List.getElem?_eq_none_iff.1 h
    omega
theorem at?_out {L : Hp} {p : Int} (h : p < 0 ∨ (L.length : Int) ≤ p) : at? L p = none := by
  unfold at?
  split
  · rfl
  · rw [List.getElem?_eq_none_iff]
    omega
/-- What is behind an object was there ahead of it. -/
def Wf (L : Hp) : Prop := ∀ (i : Nat) (o : Ob), L[i]? = some o → -1 ≤ o.proto ∧ o.proto < i

/-- The objects of a chain. -/
def chainF (L : Hp) : Nat → Int → List Nat
  | 0, _ => []
  | f + 1, p => match at? L p with
    | none => []
    | some o => p.toNat :: chainF L f o.proto
def chain (L : Hp) (p : Int) : List Nat := chainF L (p + 1).toNat p
theorem chainF_more (L : Hp) (hw : Wf L) : ∀ (f g : Nat) (p : Int), (p + 1).toNat ≤ f → (p + 1).toNat ≤ g → chainF L f p = chainF L g p
  | 0, 0, _, _, _ => rfl
  | 0, g + 1, p, hf, _ => by
    unfold chainF
    rw [at?_out (.inl (by omega))]
  | f + 1, 0, p, _, hg => by
    unfold chainF
    rw [at?_out (.inl (by omega))]
  | f + 1, g + 1, p, hf, hg => by
    unfold chainF
    cases h : at? L p with
    | none => rfl
    | some o =>
      obtain ⟨n, rfl, h1, h2⟩ := at?_some h
      have := hw n o h2
      simp only
      rw [chainF_more L hw f g o.proto (by omega) (by omega)]
theorem chain_none {L : Hp} {p : Int} (h : at? L p = none) : chain L p = [] := by
  unfold chain
  cases (p + 1).toNat with
  | zero => rfl
  | succ f => unfold chainF; rw [h]
theorem chain_some {L : Hp} (hw : Wf L) {p : Nat} {o : Ob} (h : L[p]? = some o) : chain L p = p :: chain L o.proto := by
  have h' := hw p o h
  have e : ((p : Int) + 1).toNat = p + 1 := by omega
  unfold chain
  rw [e]
  conv => lhs; unfold chainF
  rw [at?_nat, h]
  simp only
  rw [chainF_more L hw p (o.proto + 1).toNat o.proto (by omega) (by omega)]
  simp
theorem chain_lt {L : Hp} : ∀ (f : Nat) (p : Int), ∀ i ∈ chainF L f p, i < L.length
  | 0, _, i, hi => by simp [chainF] at hi
  | f + 1, p, i, hi => by
    unfold chainF at hi
    cases h : at? L p with
    | none => rw [h] at hi; simp at hi
    | some o =>
      obtain ⟨n, rfl, h1, h2⟩ := at?_some h
      rw [h] at hi
      rcases List.mem_cons.1 hi with rfl | hi
      · simpa using h1
      · exact chain_lt f _ i hi

/-- The first value that is there. -/
def getL (L : Hp) (s : ByteArray) : List Nat → Option V
  | [] => none
  | i :: r => match lk ((L[i]?).elim [] (·.kv)) s with
    | some v => some v
    | none => getL L s r
def get (L : Hp) (p : Int) (s : ByteArray) : Option V := getL L s (chain L p)
def own (L : Hp) (p : Int) (s : ByteArray) : Option V := (at? L p).elim none (fun o => lk o.kv s)
/-- Keys that are none of those there, behind them. -/
def addL : List ByteArray → List ByteArray → List ByteArray
  | acc, [] => acc
  | acc, k :: r => if acc.any (fun x => decide (x = k)) = true then addL acc r else addL (acc ++ [k]) r
theorem any_mem (acc : List ByteArray) (k : ByteArray) : acc.any (fun x => decide (x = k)) = true ↔ k ∈ acc := by
  rw [List.any_eq_true]
  constructor
  · rintro ⟨x, hx, e⟩
    rwa [← of_decide_eq_true e]
  · intro h
    exact ⟨k, h, by simp⟩
def allL (L : Hp) : List ByteArray → List Nat → List ByteArray
  | acc, [] => acc
  | acc, i :: r => allL L (addL acc (keysOf ((L[i]?).elim [] (·.kv)))) r
def all (L : Hp) (p : Int) : List ByteArray := allL L [] (chain L p)
def keys (L : Hp) (p : Int) : List ByteArray := (at? L p).elim [] (fun o => keysOf o.kv)
def Ob.obj (o : Ob) : Value := .agg #[.int .i64 o.mark, .int .i64 o.proto, .int .i64 o.code, .int .i64 o.frame]

/-- What may be put. -/
def okPut (L : Hp) (v : V) : Bool := rightB v.k v.n v.s && !(v.k == 5 && (decide (v.n < 0) || decide ((L.length : Int) ≤ v.n)))
def putE (L : Hp) (p : Int) (v : V) : Int := if at? L p = none then 70 else if okPut L v = true then 0 else 2
def setO (L : Hp) (n : Nat) (s : ByteArray) (v : V) : Hp := match L[n]? with
  | some o => L.set n { o with kv := pt o.kv s v }
  | none => L
def putL (L : Hp) (p : Int) (s : ByteArray) (v : V) : Hp := if putE L p v = 0 then setO L p.toNat s v else L
/-- May an object be behind it; is there room. -/
def allocE (L : Hp) (p : Int) : Int := if p ≠ -1 ∧ at? L p = none then 2 else if 5000 ≤ L.length then 71 else 0
def allocL (L : Hp) (m p c f : Int) : Hp := if allocE L p = 0 then L ++ [⟨m, p, c, f, []⟩] else L
def allocV (L : Hp) (p : Int) : Int := if allocE L p = 0 then L.length else 0
theorem setO_len (L : Hp) (n : Nat) (s : ByteArray) (v : V) : (setO L n s v).length = L.length := by
  unfold setO
  split <;> simp
theorem putL_len (L : Hp) (p : Int) (s : ByteArray) (v : V) : (putL L p s v).length = L.length := by
  unfold putL
  split
  · exact setO_len _ _ _ _
  · rfl
theorem setO_proto (L : Hp) (n : Nat) (s : ByteArray) (v : V) (i : Nat) : ((setO L n s v)[i]?).map (·.proto) = (L[i]?).map (·.proto) := by
  unfold setO
  cases h : L[n]? with
  | none => rfl
  | some o =>
    simp only
    by_cases e : i = n
    · subst e
      have := (List.getElem?_eq_some_iff.1 h).1
      rw [List.getElem?_set_self this, h]
      rfl
    · rw [List.getElem?_set_ne (Ne.symm e)]
theorem Wf.setO {L : Hp} (h : Wf L) (n : Nat) (s : ByteArray) (v : V) : Wf (setO L n s v) := fun i o hi => by
  have e := setO_proto L n s v i
  rw [hi] at e
  cases hL : L[i]? with
  | none => rw [hL] at e; simp at e
  | some o' =>
    rw [hL] at e
    have := h i o' hL
    simp at e
    omega
theorem Wf.putL {L : Hp} (h : Wf L) (p : Int) (s : ByteArray) (v : V) : Wf (putL L p s v) := by
  unfold Ytpbbinppikaamaa.putL
  split
  · exact h.setO _ _ _
  · exact h
theorem allocE_zero {L : Hp} {p : Int} (h : allocE L p = 0) : -1 ≤ p ∧ p < L.length ∧ L.length < 5000 := by
  unfold allocE at h
  split at h
  · cases h
  · rename_i h1
    split at h
    · cases h
    · refine ⟨?_, ?_, by omega⟩
      · by_cases e : p = -1
        · omega
        · cases hp : at? L p with
          | none => exact absurd ⟨e, hp⟩ h1
          | some o => obtain ⟨n, rfl, _⟩ := at?_some hp; omega
      · by_cases e : p = -1
        · omega
        · cases hp : at? L p with
          | none => exact absurd ⟨e, hp⟩ h1
          | some o => obtain ⟨n, rfl, _⟩ := at?_some hp; omega
theorem Wf.allocL {L : Hp} (h : Wf L) (m p c f : Int) : Wf (allocL L m p c f) := by
  unfold Ytpbbinppikaamaa.allocL
  split
  · rename_i e
    have := allocE_zero e
    intro i o hi
    by_cases hl : i < L.length
    · rw [List.getElem?_append_left hl] at hi
      exact h i o hi
    · rw [List.getElem?_append_right (by omega)] at hi
      have hl' := (List.getElem?_eq_some_iff.1 hi).1
      simp at hl'
      obtain rfl : i = L.length := by omega
      simp at hi
      subst hi
      exact ⟨this.1, this.2.1⟩
  · exact h
/-- A heap as it is at first. -/
def callB : ByteArray := ⟨#[99, 97, 108, 108]⟩
def applyB : ByteArray := ⟨#[97, 112, 112, 108, 121]⟩
def new0 : Hp := [⟨0, -1, 0, 0, []⟩, ⟨1, 0, 0, 0, [(callB, ⟨5, 2, ⟨#[]⟩⟩), (applyB, ⟨5, 3, ⟨#[]⟩⟩)]⟩, ⟨2, 1, -1, 0, []⟩, ⟨3, 1, -2, 0, []⟩]
theorem wf_new0 : Wf new0 := by
  intro i o h
  match i, h with
  | 0, h => simp [new0] at h; subst h; decide
  | 1, h => simp [new0] at h; subst h; decide
  | 2, h => simp [new0] at h; subst h; decide
  | 3, h => simp [new0] at h; subst h; decide
  | n + 4, h => simp [new0] at h
end Go.Proofs.Ytpbbinppikaamaa
