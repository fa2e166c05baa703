/- What is right stays so with more room. No program. -/
import Derived.Test.YtconnhphkbgbkaaDoorCdModel
namespace Go.Proofs.YtconnhphkbgbkaaDoor

def Room.le (R S : Room) : Prop := R.regs ≤ S.regs ∧ R.places ≤ S.places ∧ R.procs ≤ S.procs
theorem ok_mono {R S : Room} (h : R.le S) (m : Dm) (x : Ins) (ho : m.ok x R = true) : m.ok x S = true := by
  obtain ⟨h1, h2, h3⟩ := h
  cases m with
  | reg least f =>
    simp only [Dm.ok, decide_eq_true_eq] at ho ⊢
    omega
  | num k =>
    cases k <;> simp only [Dm.ok, Knd.ok, decide_eq_true_eq] at ho ⊢ <;> omega
  | args =>
    simp only [Dm.ok, List.all_eq_true, decide_eq_true_eq] at ho ⊢
    intro n hn
    have := ho n hn
    omega
  | _ => exact ho
theorem fits_mono {R S : Room} (h : R.le S) : ∀ (ds : List Dm) (x : Ins), fitsB R ds x = true → fitsB S ds x = true
  | [], _, hf => hf
  | m :: r, x, hf => by
    simp only [fitsB, Bool.and_eq_true] at hf ⊢
    exact ⟨ok_mono h m x hf.1, fits_mono h r _ hf.2⟩
theorem insB_mono {R S : Room} (h : R.le S) {x : Ins} (hi : insB R x = true) : insB S x = true := by
  unfold insB at hi ⊢
  cases hd : dms x.op with
  | none => rw [hd] at hi; cases hi
  | some ds =>
    rw [hd] at hi
    exact fits_mono h ds x hi
theorem right_parts {l : List Proc} (h : rightC l = true) : l ≠ [] ∧ (∀ p ∈ l, missB p = false) ∧ ∀ p ∈ l, ∀ x ∈ p.ins, insB (roomOf p l.length) x = true := by
  unfold rightC at h
  simp only [Bool.and_eq_true, Bool.not_eq_true', List.isEmpty_eq_false_iff] at h
  obtain ⟨h0, h1, h2⟩ := h
  refine ⟨h0, fun p hp => ?_, fun p hp x hx => ?_⟩
  · rw [List.any_eq_false] at h1
    exact Bool.eq_false_iff.2 (h1 p hp)
  · rw [List.all_eq_true] at h2
    exact h2 (p, x) (List.mem_flatMap.2 ⟨p, hp, List.mem_map.2 ⟨x, hx, rfl⟩⟩)
theorem right_of {l : List Proc} (h0 : l ≠ []) (h1 : ∀ p ∈ l, missB p = false) (h2 : ∀ p ∈ l, ∀ x ∈ p.ins, insB (roomOf p l.length) x = true) : rightC l = true := by
  unfold rightC
  simp only [Bool.and_eq_true, Bool.not_eq_true', List.isEmpty_eq_false_iff]
  refine ⟨h0, ?_, ?_⟩
  · rw [List.any_eq_false]
    exact fun p hp => by rw [h1 p hp]; simp
  · rw [List.all_eq_true]
    rintro ⟨p, x⟩ hq
    obtain ⟨p', hp, hx⟩ := List.mem_flatMap.1 hq
    obtain ⟨x', hx', e⟩ := List.mem_map.1 hx
    cases e
    exact h2 _ hp _ hx'
/-- Two right codes behind each other. -/
theorem right_append {a b : List Proc} (ha : rightC a = true) (hb : rightC b = true) : rightC (a ++ b) = true := by
  obtain ⟨a0, a1, a2⟩ := right_parts ha
  obtain ⟨b0, b1, b2⟩ := right_parts hb
  refine right_of (by simp [a0]) (fun p hp => ?_) fun p hp x hx => ?_
  · rcases List.mem_append.1 hp with h | h
    · exact a1 p h
    · exact b1 p h
  · rw [List.length_append]
    rcases List.mem_append.1 hp with h | h
    · exact insB_mono (R := roomOf p a.length) (S := roomOf p (a.length + b.length)) ⟨Int.le_refl _, Int.le_refl _, by simp only [roomOf]; omega⟩ (a2 p h x hx)
    · exact insB_mono (R := roomOf p b.length) (S := roomOf p (a.length + b.length)) ⟨Int.le_refl _, Int.le_refl _, by simp only [roomOf]; omega⟩ (b2 p h x hx)
/-- More registers. -/
theorem right_more {p : Proc} {r : List Proc} {n : Int} (h : rightC (p :: r) = true) (h0 : 0 ≤ n) (h1 : p.regs + n ≤ 60000) : rightC (⟨p.regs + n, p.ins⟩ :: r) = true := by
  obtain ⟨a0, a1, a2⟩ := right_parts h
  refine right_of (by simp) (fun q hq => ?_) fun q hq x hx => ?_
  · rcases List.mem_cons.1 hq with e | hq
    · subst e
      have := a1 p (by simp)
      unfold missB lastOp at this ⊢
      rw [decide_eq_false_iff_not] at this ⊢
      simp only at this ⊢
      omega
    · exact a1 q (by simp [hq])
  · rcases List.mem_cons.1 hq with e | hq
    · subst e
      exact insB_mono (R := roomOf p (p :: r).length) (S := roomOf ⟨p.regs + n, p.ins⟩ ((⟨p.regs + n, p.ins⟩ : Proc) :: r).length) ⟨by simp only [roomOf]; omega, Int.le_refl _, by simp [roomOf]⟩ (a2 p (by simp) x hx)
    · have := a2 q (by simp [hq]) x hx
      simpa using this
/-- Behind the end. -/
theorem right_less (p : Proc) (r : List Proc) (x : Ins) (hx : x.op ≠ 20) : rightC (⟨p.regs, p.ins ++ [x]⟩ :: r) = false := by
  have h : missB ⟨p.regs, p.ins ++ [x]⟩ = true := by
    unfold missB lastOp
    rw [decide_eq_true_iff]
    simp [hx]
  unfold rightC
  simp [h]
end Go.Proofs.YtconnhphkbgbkaaDoor
