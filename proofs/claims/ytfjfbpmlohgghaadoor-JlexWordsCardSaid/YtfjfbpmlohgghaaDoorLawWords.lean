/- The law's walk: words, names and quotes are those of the plain ones. -/
import Derived.Test.YtfjfbpmlohgghaaDoorRefs
import Derived.Test.YtfjfbpmlohgghaaDoorRefQuote
namespace Go.Proofs.YtfjfbpmlohgghaaDoor
open Go.RowKit Go.Proofs

set_option maxRecDepth 100000 in
set_option maxHeartbeats 4000000 in
theorem words_walk (s : ByteArray) (w : World) (hs : s.size ≤ maxLen) (hE : Env w) :
    Calls Tryd.prog 3 #[.string s] w fun e w' => e = .returned (.bool true) ∧ Below w.heap.size w w' := by
  obtain ⟨T, hT⟩ : ∃ T, s.extract 0 (min s.size 3000) = T := ⟨_, rfl⟩
  have hz : T.size = min s.size 3000 := by rw [← hT]; exact ext0_size s _ (by omega)
  have HC : ∀ w, Calls Tryd.prog 16 #[.string s] w fun e w' => e = .returned (.string T) ∧ w = w' := fun w => by
    have := cut_any s w hs
    rwa [hT] at this
  have HW := fun w => isWord_any s w hs
  have HW2 := fun w => risWord_any s w
  have HN := fun w => isName_any s w hs
  have HN2 := fun w => risName_any s w hs
  have HQ := fun w => quote_any T w (by omega)
  have HQ2 := fun w => rquote_any T w (by omega)
  obtain ⟨b, hb⟩ : ∃ b, isWordL s.data.toList = b := ⟨_, rfl⟩
  obtain ⟨c, hc⟩ : ∃ c, isNameL s.data.toList = c := ⟨_, rfl⟩
  obtain ⟨q, hq⟩ : ∃ q, bs (quoteL T.data.toList) = q := ⟨_, rfl⟩
  rw [hb] at HW HW2
  rw [hc] at HN HN2
  rw [hq] at HQ HQ2
  have HS := Lib.hid (shown_any w hE)
  have HC := Lib.hid HC
  have HW := Lib.hid HW
  have HW2 := Lib.hid HW2
  have HN := Lib.hid HN
  have HN2 := Lib.hid HN2
  have HQ := Lib.hid HQ
  have HQ2 := Lib.hid HQ2
  clear hT hz hb hc hq
  go_enter Tryd.func3, Tryd.ntmps3
  go_wp2_with (first
    | (go_at_call 10; refine HS.out.mono ?_; rintro e w1 ⟨rfl, hB1⟩)
    | (go_at_call 11; refine (HW.out _).mono ?_; rintro e w2 ⟨rfl, hb2⟩; have hB2 := hB1.trans (hb2.mono hB1.size))
    | (go_at_call 12; refine (HW2.out _).mono ?_; rintro e w' ⟨rfl, rfl⟩)
    | (go_at_call 13; refine (HN.out _).mono ?_; rintro e w3 ⟨rfl, hb3⟩; have hB3 := hB2.trans (hb3.mono hB2.size))
    | (go_at_call 14; refine (HN2.out _).mono ?_; rintro e w' ⟨rfl, rfl⟩)
    | (go_at_call 16; refine (HC.out _).mono ?_; rintro e w' ⟨rfl, rfl⟩)
    | (go_at_call 15; refine (HQ.out _).mono ?_; rintro e w4 ⟨rfl, hb4⟩; have hB4 := hB3.trans (hb4.mono hB3.size))
    | (go_at_call 17; refine (HQ2.out _).mono ?_; rintro e w5 ⟨rfl, hb5⟩; have hB5 := hB4.trans (hb5.mono hB4.size)))
  go_ret
  exact ⟨ret_b (by simp), hB5⟩
end Go.Proofs.YtfjfbpmlohgghaaDoor
