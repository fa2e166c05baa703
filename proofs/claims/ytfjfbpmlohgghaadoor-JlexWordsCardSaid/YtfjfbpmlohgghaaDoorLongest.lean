/- jlex.longest: the longest one of some signs with which a text begins. -/
import Derived.Test.YtfjfbpmlohgghaaDoorRun
import Derived.Test.YtfjfbpmlohgghaaDoorShelf
import Derived.Laws.OwnMore
import Derived.Deep.AppendLies
namespace Go.Proofs.YtfjfbpmlohgghaaDoor
open Go.RowKit Go.Proofs

/-- A text out of a list of bytes. -/
def bs (l : Bs) : ByteArray := ⟨l.toArray⟩
theorem bs_list (l : Bs) : (bs l).data.toList = l := by simp [bs]
theorem bs_of (s : ByteArray) : bs s.data.toList = s := by simp [bs]
theorem bs_size (l : Bs) : (bs l).size = l.length := by rw [← len_toList, bs_list]

theorem ret_s {a b : ByteArray} (h : a = b) : Ending.returned (.string a) = .returned (.string b) := by rw [h]
def stepL (s : Bs) (best t : Bs) : Bs := if decide (best.length < t.length) && t.isPrefixOf s then t else best
theorem longestL_eq (s : Bs) (ts : List Bs) : longestL s ts = ts.foldl (stepL s) [] := rfl
theorem fold_snoc (s : Bs) (ts : List ByteArray) (k : Nat) (t : ByteArray) (h : ts[k]? = some t) :
    ((ts.take (k + 1)).map (·.data.toList)).foldl (stepL s) [] = stepL s (((ts.take k).map (·.data.toList)).foldl (stepL s) []) t.data.toList := by
  obtain ⟨hk, rfl⟩ := List.getElem?_eq_some_iff.1 h
  rw [List.take_succ_eq_append_getElem hk, List.map_append, List.foldl_append]
  rfl
theorem stepL_small (s : Bs) {a b : ByteArray} (h : ¬ a.size < b.size) : stepL s a.data.toList b.data.toList = a.data.toList := by
  unfold stepL
  rw [len_toList, len_toList]
  simp [h]
theorem stepL_yes (s : Bs) {a b : ByteArray} (h : a.size < b.size) (hp : Lib.hasPrefix s b.data.toList = true) : stepL s a.data.toList b.data.toList = b.data.toList := by
  unfold stepL Lib.hasPrefix at *
  rw [len_toList, len_toList, if_pos (by simp [h, hp])]
theorem stepL_no (s : Bs) {a b : ByteArray} (hp : Lib.hasPrefix s b.data.toList = false) : stepL s a.data.toList b.data.toList = a.data.toList := by
  unfold stepL Lib.hasPrefix at *
  rw [hp]
  simp

set_option maxHeartbeats 1000000 in
theorem longest_any (s : ByteArray) (ad : Addr) (n c : Nat) (ts : List ByteArray) (w : World) (hn : ts.length = n) (hn2 : n ≤ 1000) (hts : ∀ t ∈ ts, t.size ≤ 1000)
    (hc : ∀ (j : Nat) (t : ByteArray), ts[j]? = some t → w.cell? (ad.add j) = some (.string t)) :
    Calls Tryd.prog 45 #[.string s, .slice (some ad) n c] w fun e w' => e = .returned (.string (bs (longestL s.data.toList (ts.map (·.data.toList))))) ∧ w = w' := by
  have HN := Lib.hid (And.intro hn (And.intro hts hc))
  have HP := Lib.hid (Tryd.strings_HasPrefix s)
  clear hn hts hc
  go_enter Tryd.func45, Tryd.ntmps45
  go_wp2
  go_loop [5, 10] (fun b i => ∃ (k : Nat) (t : ByteArray), k ≤ n ∧ i = .int .i64 k ∧ b = .string t ∧ t.size ≤ 1000 ∧ t.data.toList = ((ts.take k).map (·.data.toList)).foldl (stepL s.data.toList) []) (fun _ i => n - (intOf i).toNat)
  case atStart => exact ⟨0, _, Nat.zero_le _, rfl, rfl, by decide, by simp⟩
  case round =>
    obtain ⟨k, b, hk, rfl, rfl, hb, hf⟩ := hrel
    have HF := Lib.hid hf
    clear hf
    by_cases hlt : k < n
    · obtain ⟨t, ht⟩ : ∃ t, ts[k]? = some t := ⟨_, List.getElem?_eq_getElem (by have := HN.out.1; omega)⟩
      have hcell := HN.out.2.2 k t ht
      have hts := HN.out.2.1 t (List.mem_of_getElem? ht)
      have HS := Lib.hid (fold_snoc s.data.toList ts k t ht)
      clear ht
      by_cases hz : b.size < t.size
      · cases hp : Lib.hasPrefix s.data.toList t.data.toList with
        | true =>
          have HQ := HP.out t
          rw [hp] at HQ
          have HQ := Lib.hid HQ
          have HH := Lib.hid hp
          clear hp
          go_wp2_with (go_at_call 43; refine (HQ.out _).mono ?_; rintro e w' ⟨rfl, rfl⟩)
          go_round
          case rel => exact ⟨k + 1, t, by omega, by go_num, rfl, hts, by rw [HS.out, ← HF.out, stepL_yes _ hz HH.out]⟩
          case measure => simp [intOf]; omega
        | false =>
          have HQ := HP.out t
          rw [hp] at HQ
          have HQ := Lib.hid HQ
          have HH := Lib.hid hp
          clear hp
          go_wp2_with (go_at_call 43; refine (HQ.out _).mono ?_; rintro e w' ⟨rfl, rfl⟩)
          go_round
          case rel => exact ⟨k + 1, b, by omega, by go_num, rfl, hb, by rw [HS.out, ← HF.out, stepL_no _ HH.out]⟩
          case measure => simp [intOf]; omega
      · go_wp2
        go_round
        case rel => exact ⟨k + 1, b, by omega, by go_num, rfl, hb, by rw [HS.out, ← HF.out, stepL_small _ hz]⟩
        case measure => simp [intOf]; omega
    · go_wp2
      go_ret
      exact ⟨ret_s (by rw [longestL_eq, ← bs_of b, HF.out, List.take_of_length_le (by have := HN.out.1; omega)]), rfl⟩
end Go.Proofs.YtfjfbpmlohgghaaDoor
