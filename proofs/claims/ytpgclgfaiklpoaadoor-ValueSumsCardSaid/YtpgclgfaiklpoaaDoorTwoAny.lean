/- value.Two: what a sign makes of two values, whatever the sign. -/
import Derived.Test.YtpgclgfaiklpoaaDoorTwo
import Derived.Test.YtpgclgfaiklpoaaDoorSignsL
namespace Go.Proofs.YtpgclgfaiklpoaaDoor
open Go.RowKit Go.Proofs

theorem two_any (s : ByteArray) (a b : J) (ha : a.ok) (hb : b.ok) (w : World) (hE : Env w) (hs : s.size ≤ 281474976710656) : Calls Tryd.prog 24 #[.string s, a.v, b.v] w fun e w' => e = .returned (twoV s.data.toList a b) ∧ Below w.heap.size w w' := by
  have of : ∀ l : Bs, s.data.toList = l → s = ⟨l.toArray⟩ := fun l h => by subst h; rfl
  rcases sign_cases s.data.toList with h | h | h | h | h | h | h | h
  · unfold twoV
    rw [make_none _ _ _ h]
    exact two_none s a b w hs h
  · rw [of _ h]
    cases ht : a.isText || b.isText with
    | true =>
      have e : twoV [43] a b = okV (.text (a.key ++ b.key)) := by simp [twoV, makeJ, ht]
      exact (two_38 a b _ w hE (fun w hE => sum_text a b ha hb w hE ht)).mono fun e' w' hh => ⟨by rw [hh.1]; exact congrArg _ e.symm, hh.2⟩
    | false =>
      have e : twoV [43] a b = okV (.num (wrap64 (a.nr + b.nr))) := by simp [twoV, makeJ, ht]
      exact (two_38 a b _ w hE (fun w hE => sum_num a b ha hb w hE ht)).mono fun e' w' hh => ⟨by rw [hh.1]; exact congrArg _ e.symm, hh.2⟩
  · rw [of _ h]
    exact two_39 a b _ w hE (fun w hE => sub_any a b ha hb w hE)
  · rw [of _ h]
    exact two_40 a b _ w hE (fun w hE => mul_any a b ha hb w hE)
  · rw [of _ h]
    exact two_41 a b _ w hE (fun w hE => lt_any a b ha hb w hE)
  · rw [of _ h]
    exact two_43 a b _ w hE (fun w hE => le_any a b ha hb w hE)
  · rw [of _ h]
    exact two_44 a b _ w hE (fun w _ => eq_any a b w)
  · rw [of _ h]
    exact two_45 a b _ w hE (fun w _ => ne_any a b w)
end Go.Proofs.YtpgclgfaiklpoaaDoor
