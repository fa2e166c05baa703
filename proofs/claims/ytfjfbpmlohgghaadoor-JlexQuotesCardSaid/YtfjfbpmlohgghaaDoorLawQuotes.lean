/- The law's walk: a quoted text is one token, that says it. -/
import Derived.Test.YtfjfbpmlohgghaaDoorShown
import Derived.Test.YtfjfbpmlohgghaaDoorMathQ
namespace Go.Proofs.YtfjfbpmlohgghaaDoor
open Go.RowKit Go.Proofs

theorem quoteL_len (l : Bs) : (quoteL l).length ≤ 2 + 4 * l.length := by
  have := flat_len l
  unfold quoteL
  simp only [List.length_cons, List.length_append, List.length_nil]
  omega

set_option maxRecDepth 100000 in
set_option maxHeartbeats 4000000 in
theorem quotes_walk (s : ByteArray) (w : World) (hs : s.size ≤ maxLen) (hE : Env w) : Calls Tryd.prog 4 #[.string s] w fun e w' => e = .returned (.bool true) ∧ Below w.heap.size w w' := by
  obtain ⟨t, ht⟩ : ∃ t, s.extract 0 (min s.size 3000) = t := ⟨_, rfl⟩
  have htl : t.size ≤ 3000 := by rw [← ht, ext0_size s _ (by omega)]; omega
  have HC : ∀ w, Calls Tryd.prog 16 #[.string s] w fun e w' => e = .returned (.string t) ∧ w = w' := fun w => by
    have := cut_any s w hs
    rwa [ht] at this
  have HC2 : ∀ w, Calls Tryd.prog 16 #[.string s] w fun e w' => e = .returned (.string t) ∧ w' = w := fun w => (HC w).mono fun _ _ h => ⟨h.1, h.2.symm⟩
  have HQ := fun w => quote_any t w (by omega)
  have hql := quoteL_len t.data.toList
  rw [len_toList] at hql
  have HL := fun w (hE : Env w) => lex_any (bs (quoteL t.data.toList)) w (by rw [bs_size]; omega) hE
  rw [bs_list, lex_quote] at HL
  have HS := Lib.hid (shown_any w hE)
  have HC := Lib.hid HC
  have HC2 := Lib.hid HC2
  have HQ := Lib.hid HQ
  have HL := Lib.hid HL
  have HT := Lib.hid (bs_of t)
  clear ht htl hql
  go_enter Tryd.func4, Tryd.ntmps4
  go_wp2_with (first | (go_at_call 10; refine HS.out.mono ?_; rintro e w1 ⟨rfl, hB1⟩) | (go_at_call 16; refine (HC.out _).mono ?_; rintro e w' ⟨rfl, rfl⟩) | (go_at_call 15; refine (HQ.out _).mono ?_; rintro e w2 ⟨rfl, hB2⟩))
  go_at_call 18
  have hE2 := (hE.kept hB1).kept hB2
  refine (HL.out _ hE2).mono ?_
  intro e w3 hp
  obtain ⟨g, cap, rfl, hB3, hcap, hg, hlt, hcells⟩ := lex_some hp (by simp)
  have k0 : w3.cell? ⟨g, 0, none⟩ = some (.int .i64 4) := hcells 0 _ rfl
  have k1 : w3.cell? ⟨g, 1, none⟩ = some (.string t) := by rw [hcells 1 _ rfl, HT.out]
  have k3 : w3.cell? ⟨g, 3, none⟩ = some (.int .i64 1) := hcells 3 _ rfl
  have k4 : w3.cell? ⟨g, 4, none⟩ = some (.bool false) := hcells 4 _ rfl
  clear hcells hp
  go_wp2_with fail
  go_quiet ((go_at_call 16; exact Calls.quiet_of_same (HC2.out _)))
  go_wp2
  go_ret
  exact ⟨rfl, (((hB1.trans (hB2.mono hB1.size)).trans (hB3.mono (hB1.trans (hB2.mono hB1.size)).size)).trans ((Drewn.below ⟨_, rfl⟩ : Below w3.heap.size w3 (w3.drewN nq)).mono ((hB1.trans (hB2.mono hB1.size)).trans (hB3.mono (hB1.trans (hB2.mono hB1.size)).size)).size))⟩
end Go.Proofs.YtfjfbpmlohgghaaDoor
