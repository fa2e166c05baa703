/- gumshoelaw02.shown: some tokens are known, and what is none; gumshoelaw02.cut. -/
import Derived.Test.YtfjfbpmlohgghaaDoorLex
import Derived.KernelRfl
namespace Go.Proofs.YtfjfbpmlohgghaaDoor
open Go.RowKit Go.Proofs

theorem lexE_shown : lexE [120, 32, 61, 32, 39, 97, 92, 110, 39, 32, 47, 47, 32, 99] = ⟨[⟨1, [120], 0, 1, false⟩, ⟨5, [61], 0, 1, false⟩, ⟨4, [97, 10], 0, 1, false⟩], 0, 0⟩ := by kernel_rfl
theorem lexE_float : lexE [10, 49, 46, 53] = ⟨[], 2, 25⟩ := by kernel_rfl
theorem word_while : isWordL [119, 104, 105, 108, 101] = true := by kernel_rfl

/-- What Lex hands back: a slice of so many tokens. -/
theorem lex_slice {w : World} {o : Lexed} {e : Ending} {W' : World} (h : LexPost w o e W') :
    ∃ A cap, e = .returned (.tuple #[.slice A o.toks.length cap, .int .i64 o.line, .int .i64 o.e]) ∧ Below w.heap.size w W' := by
  obtain ⟨v, rfl, hrow, hB⟩ := h
  rcases hrow.2 with ⟨rfl, h0⟩ | ⟨g, cap, cur, rfl, _⟩
  · exact ⟨none, 0, by rw [h0], hB⟩
  · exact ⟨_, cap, rfl, hB⟩
/-- A row of tokens that is not nil. -/
theorem lex_some {w : World} {o : Lexed} {e : Ending} {W' : World} (h : LexPost w o e W') (ho : 0 < o.toks.length) :
    ∃ g cap, e = .returned (.tuple #[.slice (some ⟨g, 0, none⟩) o.toks.length cap, .int .i64 o.line, .int .i64 o.e]) ∧ Below w.heap.size w W' ∧ o.toks.length ≤ cap ∧ w.heap.size ≤ g ∧ g < W'.heap.size ∧
      (∀ j u, (toksC o.toks)[j]? = some u → W'.cell? ⟨g, j, none⟩ = some u) := by
  obtain ⟨v, rfl, hrow, hB⟩ := h
  rcases hrow.2 with ⟨rfl, h0⟩ | ⟨g, cap, cur, rfl, h1, h2, h3, h4, h5, h6⟩
  · omega
  · refine ⟨g, cap, rfl, hB, h3, h1, (Array.getElem?_eq_some_iff.1 h2).1, fun j u hj => ?_⟩
    have := hrow.cells (g := g) rfl j u hj
    have e : (⟨g, 0, none⟩ : Addr).add j = ⟨g, j, none⟩ := by unfold Addr.add; split <;> simp_all
    rwa [e] at this

set_option maxRecDepth 100000 in
set_option maxHeartbeats 2000000 in
theorem shown_any (w : World) (hE : Env w) : Calls Tryd.prog 10 #[] w fun e w' => e = .returned (.bool true) ∧ Below w.heap.size w w' := by
  have H1 := lex_any ⟨#[120, 32, 61, 32, 39, 97, 92, 110, 39, 32, 47, 47, 32, 99]⟩ w (by decide) hE
  rw [show (⟨#[120, 32, 61, 32, 39, 97, 92, 110, 39, 32, 47, 47, 32, 99]⟩ : ByteArray).data.toList = [120, 32, 61, 32, 39, 97, 92, 110, 39, 32, 47, 47, 32, 99] from rfl, lexE_shown] at H1
  have H2 := fun w (hE : Env w) => lex_any ⟨#[10, 49, 46, 53]⟩ w (by decide) hE
  rw [show (⟨#[10, 49, 46, 53]⟩ : ByteArray).data.toList = [10, 49, 46, 53] from rfl, lexE_float] at H2
  have H3 := fun w => isWord_any ⟨#[119, 104, 105, 108, 101]⟩ w (by unfold maxLen; decide)
  rw [show (⟨#[119, 104, 105, 108, 101]⟩ : ByteArray).data.toList = [119, 104, 105, 108, 101] from rfl, word_while] at H3
  have H1 := Lib.hid H1
  have H2 := Lib.hid H2
  have H3 := Lib.hid H3
  go_enter Tryd.func10, Tryd.ntmps10
  go_wp2_with fail
  go_at_call 18
  refine H1.out.mono ?_
  intro e w1 hp
  obtain ⟨g, cap, rfl, hB1, hcap, hg, hlt, hcells⟩ := lex_some hp (by decide)
  have hE1 := hE.kept hB1
  have HC := Lib.hid hcells
  clear hcells hp
  go_wp2_with fail
  go_at_call 18
  refine (H2.out _ hE1).mono ?_
  intro e w2 hp
  obtain ⟨A2, cap2, rfl, hB2⟩ := lex_slice hp
  have k10 : w2.cell? ⟨g, 10, none⟩ = some (.int .i64 4) := (hB2.cell (p := ⟨g, 10, none⟩) hlt).trans (HC.out 10 _ rfl)
  have k11 : w2.cell? ⟨g, 11, none⟩ = some (.string ⟨#[97, 10]⟩) := (hB2.cell (p := ⟨g, 11, none⟩) hlt).trans (HC.out 11 _ rfl)
  go_wp2_with (go_at_call 11; refine (H3.out _).mono ?_; rintro e w3 ⟨rfl, hB3⟩)
  go_ret
  exact ⟨rfl, (hB1.trans (hB2.mono hB1.size)).trans (hB3.mono (by have := hB1.size; have := hB2.size; omega))⟩

set_option maxHeartbeats 1000000 in
/-- A text's first three thousand bytes. -/
theorem cut_any (s : ByteArray) (w : World) (hs : s.size ≤ maxLen) : Calls Tryd.prog 16 #[.string s] w fun e w' => e = .returned (.string (s.extract 0 (min s.size 3000))) ∧ w = w' := by
  unfold maxLen at hs
  go_enter Tryd.func16, Tryd.ntmps16
  go_wp2
  go_ret
  exact ⟨ret_s (by rw [show (min (s.size : Int) 3000).toNat = min s.size 3000 by omega]), rfl⟩
end Go.Proofs.YtfjfbpmlohgghaaDoor
