/- gumshoeref07.Same. -/
import Derived.Test.YtpbbinppikaamaaShown
namespace Go.Proofs.Ytpbbinppikaamaa
open Go.RowKit Go.Proofs Go.Maps

/-- A slice that reads as these strings. -/
def SRead (W : World) (v : Value) (l : List ByteArray) : Prop :=
  (l = [] ∧ v = .slice none 0 0) ∨ ∃ g c, v = .slice (some ⟨g, 0, none⟩) l.length c ∧ g < W.heap.size ∧ l.length ≤ c ∧ ∀ (j : Nat) (x : ByteArray), l[j]? = some x → W.cell? ⟨g, j, none⟩ = some (.string x)
theorem SRead.keep {W W' : World} {v : Value} {l : List ByteArray} (h : SRead W v l) (hb : ∀ g, g < W.heap.size → v.ownBlock = some g → W'.heap[g]? = W.heap[g]?) (hs : W.heap.size ≤ W'.heap.size) : SRead W' v l := by
  rcases h with h | ⟨g, c, rfl, h1, h2, h3⟩
  · exact .inl h
  · exact .inr ⟨g, c, rfl, by omega, h2, fun j x hj => (World.cell?_of_block (hb g h1 rfl)).trans (h3 j x hj)⟩
theorem SRead.below {W W' : World} {v : Value} {l : List ByteArray} (h : SRead W v l) (hb : Below W.heap.size W W') : SRead W' v l := h.keep (fun g hg _ => hb.block g hg) hb.size
theorem SRead.of {W : World} {base n : Nat} {v : Value} {l : List ByteArray} (h : W.ownsRow base 9 1 v n (strsOf l)) (hn : n = l.length) : SRead W v l := by
  subst hn
  have h0 := row_zero h
  rcases row_form h0 with ⟨rfl, h1⟩ | ⟨g, c, rfl, h1, -, hg⟩
  · exact .inl ⟨List.eq_nil_of_length_eq_zero h1, rfl⟩
  · exact .inr ⟨g, c, rfl, row_lt h0 hg, h1, fun j x hj => row_cell h0 j _ (by simp [strsOf, hj])⟩
theorem SRead.strs {W : World} {base : Nat} {v : Value} {l : List ByteArray} (h : Strs W base v l) : SRead W v l := .of h rfl
theorem SRead.form {W : World} {v : Value} {l : List ByteArray} (h : SRead W v l) : ∃ A c, v = .slice A l.length c ∧ l.length ≤ c := by
  rcases h with ⟨rfl, rfl⟩ | ⟨g, c, rfl, -, h, -⟩
  · exact ⟨none, 0, rfl, Nat.le_refl _⟩
  · exact ⟨_, _, rfl, h⟩
theorem SRead.at {W : World} {A : Option Addr} {n c : Nat} {l : List ByteArray} (h : SRead W (.slice A n c) l) {k : Nat} (hk : k < l.length) : ∃ g x, A = some ⟨g, 0, none⟩ ∧ l[k]? = some x ∧ W.cell? ⟨g, k, none⟩ = some (.string x) := by
  rcases h with ⟨rfl, -⟩ | ⟨g, c', e, h1, h2, h3⟩
  · simp at hk
  · cases e
    exact ⟨g, l[k], rfl, List.getElem?_eq_getElem hk, h3 k _ (List.getElem?_eq_getElem hk)⟩
theorem take_eq {a b : List ByteArray} {k : Nat} {x y : ByteArray} (hx : a[k]? = some x) (hy : b[k]? = some y) (h : a.take k = b.take k) (e : x = y) : a.take (k + 1) = b.take (k + 1) := by
  rw [List.take_add_one, List.take_add_one, hx, hy, h, e]
theorem str_ne {a b : ByteArray} (h : a ≠ b) : (a.toList == b.toList) = false := by
  rw [beq_eq_false_iff_ne, ByteArray.toList_eq, ByteArray.toList_eq]
  intro e
  apply h
  cases a with
  | mk d =>
    cases b with
    | mk d' =>
      have : d = d' := Array.toList_inj.1 e
      rw [this]

set_option maxRecDepth 100000 in
set_option maxHeartbeats 2000000 in
theorem same_any (u v : Value) (a b : List ByteArray) (w : World) (ha : SRead w u a) (hb : SRead w v b) (hla : a.length ≤ 1000000) (hlb : b.length ≤ 1000000) :
    Calls Try.prog 18 #[u, v] w fun e w' => e = .returned (.bool (decide (a = b))) ∧ Below w.heap.size w w' := by
  obtain ⟨A, ca, rfl, ha1⟩ := ha.form
  obtain ⟨B, cb, rfl, hb1⟩ := hb.form
  by_cases hl : a.length = b.length
  · obtain ⟨n, hn⟩ : ∃ n, a.length = n := ⟨_, rfl⟩
    have hn2 : b.length = n := by omega
    have HA := Lib.hid ha
    have HB := Lib.hid hb
    have HL := Lib.hid (And.intro hn hn2)
    rw [hn] at ha1 hla ⊢
    rw [hn2] at hb1 hlb ⊢
    clear ha hb hl hn hn2
    have dn : ((n : Int) != (n : Int)) = false := by simp
    go_enter Try.func18, Try.ntmps18
    go_wp2
    go_loopw [5] (fun i wr => ∃ k : Nat, k ≤ n ∧ i = .int .i64 k ∧ a.take k = b.take k ∧ Below w.heap.size w wr) (fun i _ => n - (intOf i).toNat)
    case atStart => exact ⟨0, Nat.zero_le _, rfl, rfl, Below.refl _ _⟩
    case round =>
      obtain ⟨k, hk, rfl, hpre, hB⟩ := hrel
      have HP := Lib.hid hpre
      clear hpre
      by_cases hlt : k < n
      · obtain ⟨ga, x, rfl, hx, cx0⟩ := HA.out.at (k := k) (by rw [HL.out.1]; exact hlt)
        obtain ⟨gb, y, rfl, hy, cy0⟩ := HB.out.at (k := k) (by rw [HL.out.2]; exact hlt)
        have cx : wr.cell? ⟨ga, k, none⟩ = some (.string x) := (hB.cell (p := ⟨ga, k, none⟩) (World.block_lt_of_cell? _ _ cx0)).trans cx0
        have cy : wr.cell? ⟨gb, k, none⟩ = some (.string y) := (hB.cell (p := ⟨gb, k, none⟩) (World.block_lt_of_cell? _ _ cy0)).trans cy0
        have hlt' : (k : Int) < (n : Int) := by omega
        by_cases h2 : x = y
        · subst h2
          have HE := Lib.hid (take_eq hx hy HP.out rfl)
          clear hx hy cx0 cy0
          go_wp2_with fail
          go_quiet (fail)
          go_wp2
          go_roundw
          case rel => exact ⟨k + 1, by omega, by go_num, HE.out, below_drewN hB _⟩
          case measure => simp [intOf]; omega
        · have d2 := str_ne h2
          have d2' : (!x.toList == y.toList) = true := by rw [d2]; rfl
          have HN := Lib.hid (show decide (a = b) = false from decide_eq_false (fun e => h2 (by rw [e, hy] at hx; cases hx; rfl)))
          clear h2 hx hy cx0 cy0
          go_wp2_with fail
          go_quiet (fail)
          go_wp2
          go_ret
          exact ⟨ret_b (by rw [HN.out]), below_drewN hB _⟩
      · obtain rfl : k = n := by omega
        have HE := Lib.hid (show decide (a = b) = true from decide_eq_true (by
          have h := HP.out
          rwa [List.take_of_length_le (by rw [HL.out.1]; exact Nat.le_refl _), List.take_of_length_le (by rw [HL.out.2]; exact Nat.le_refl _)] at h))
        go_wp2
        go_ret
        exact ⟨ret_b (by rw [HE.out]), hB⟩
  · have dn : ((a.length : Int) != (b.length : Int)) = true := by simp; omega
    have HN := Lib.hid (show decide (a = b) = false from decide_eq_false (fun e => hl (by rw [e])))
    clear ha hb hl
    go_enter Try.func18, Try.ntmps18
    go_wp2
    go_ret
    exact ⟨ret_b (by rw [HN.out]), Below.refl _ _⟩
end Go.Proofs.Ytpbbinppikaamaa
