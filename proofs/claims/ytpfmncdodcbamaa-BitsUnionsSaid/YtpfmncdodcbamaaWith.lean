/- The document's own answers: With, All, Parts. -/
import Derived.Test.YtpfmncdodcbamaaRefs
import Derived.Test.YtpfmncdodcbamaaUnited
namespace Go.Proofs.Ytpfmncdodcbamaa
open Go.RowKit Go.Proofs

/-- x put into a list ahead of the first number above it, unless that is done. -/
def wl (x : Int) : Bool → List Int → List Int
  | true, [] => []
  | false, [] => [x]
  | true, z :: r => z :: wl x true r
  | false, z :: r => if x < z then x :: z :: wl x true r else z :: wl x false r
theorem wl_true (x : Int) : ∀ l, wl x true l = l
  | [] => rfl
  | z :: r => by rw [wl, wl_true x r]
theorem wl_mem (x : Int) : ∀ l y, y ∈ wl x false l ↔ y = x ∨ y ∈ l
  | [], y => by simp [wl]
  | z :: r, y => by
    rw [wl]
    by_cases h : x < z
    · rw [if_pos h, wl_true]; simp
    · rw [if_neg h]; simp only [List.mem_cons, wl_mem x r y]; constructor
      · rintro (h | h | h) <;> simp [h]
      · rintro (h | h | h) <;> simp [h]
theorem wl_rises (x : Int) : ∀ l, l.Pairwise (· < ·) → x ∉ l → (wl x false l).Pairwise (· < ·)
  | [], _, _ => by simp [wl]
  | z :: r, h, hx => by
    rw [List.pairwise_cons] at h
    rw [wl]
    by_cases hlt : x < z
    · rw [if_pos hlt, wl_true, List.pairwise_cons, List.pairwise_cons]
      refine ⟨fun y hy => ?_, h⟩
      rcases List.mem_cons.1 hy with rfl | hy
      · exact hlt
      · have := h.1 y hy; omega
    · rw [if_neg hlt, List.pairwise_cons]
      refine ⟨fun y hy => ?_, wl_rises x r h.2 (fun hm => hx (List.mem_cons_of_mem _ hm))⟩
      rcases (wl_mem x r y).1 hy with rfl | hy
      · have : y ≠ z := fun e => hx (by rw [e]; exact List.mem_cons_self)
        omega
      · exact h.1 y hy
/-- A set with a number. -/
def withL (l : List Int) (x : Int) : List Int := wl x (hasB l x) l
theorem hasB_iff (l : List Int) (x : Int) : hasB l x = true ↔ x ∈ l := by simp [hasB]
theorem withL_set {l : List Int} {x : Int} (h : isSet l = true) (hx : 0 ≤ x ∧ x ≤ 1073741824) : isSet (withL l x) = true ∧ ∀ y, y ∈ withL l x ↔ y ∈ l ∨ y = x := by
  unfold withL
  cases hb : hasB l x with
  | true =>
    rw [wl_true]
    have := (hasB_iff l x).1 hb
    refine ⟨h, fun y => ⟨.inl, ?_⟩⟩
    rintro (h | rfl)
    · exact h
    · exact this
  | false =>
    have hx' : x ∉ l := fun hm => by rw [(hasB_iff l x).2 hm] at hb; cases hb
    rw [isSet_iff] at h ⊢
    refine ⟨⟨wl_rises x l h.1 hx', fun y hy => ?_⟩, fun y => (wl_mem x l y).trans Or.comm⟩
    rcases (wl_mem x l y).1 hy with rfl | hy
    · exact hx
    · exact h.2 y hy

theorem own_snoc {w : World} {base n : Nat} {v : Value} {out : List Int} {z : Int} (h : w.ownsRow base 3 1 v (n + 1) (out.map (Value.int .i64) ++ [.int .i64 z])) (hn : out.length = n) :
    w.ownsRow base 3 1 v (out ++ [z]).length ((out ++ [z]).map (Value.int .i64)) := by
  simpa [hn] using h

set_option maxHeartbeats 2000000 in
theorem with_any (A : Option Addr) (n c : Nat) (l : List Int) (x : Int) (w : World) (hr : Ints w w.heap.size A n c l) (hn : n ≤ 4398046511104) :
    Calls Try.prog 31 #[.slice A n c, .int .i64 x] w fun e w' => ∃ v, e = .returned v ∧ w'.ownsRow w.heap.size 3 1 v (withL l x).length ((withL l x).map (Value.int .i64)) ∧ Below w.heap.size w w' := by
  obtain ⟨i0, hi, hz0, hz1, hz2⟩ := info_parts info3
  have HI := Lib.hid (And.intro hi (And.intro hz0 (And.intro hz1 hz2)))
  clear hi hz0 hz1 hz2
  have HL := Lib.hid hr.1
  have HH := Lib.hid (refHas_any A n c _ l x w hr)
  go_enter Try.func31, Try.ntmps31
  go_wp2_with (go_at_call 17; (with_reducible refine (HH.out).mono ?_); rintro e w' ⟨rfl, rfl⟩)
  go_loopw [5, 6, 7] (fun s5 s6 s7 wr => ∃ (k : Nat) (d : Bool) (out : List Int), k ≤ n ∧ s7 = .int .i64 k ∧ s6 = .bool d ∧ out ++ wl x d (l.drop k) = withL l x ∧ out.length ≤ 2 * k ∧
      wr.ownsRow w.heap.size 3 1 s5 out.length (out.map (Value.int .i64)) ∧ Below w.heap.size w wr) (fun _ _ s7 _ => n - (intOf s7).toNat)
  case atStart => exact ⟨0, hasB l x, [], Nat.zero_le _, rfl, rfl, by simp [withL], by simp, World.ownsRow_nil _ _ _ _, Below.refl _ _⟩
  case round =>
    obtain ⟨k, d, out, hk, rfl, rfl, hs, hol, hown, hbl⟩ := hrel
    have HS := Lib.hid hs
    clear hs
    have hsz := hbl.size
    by_cases hlt : k < n
    · obtain ⟨ad, z, rfl, had, hz, _, hc0⟩ := hr.at_ hlt
      have HD := Lib.hid (drop_at hz)
      have hc : wr.cell? (ad.add k) = some (.int .i64 z) := (hbl.cell (p := ad.add k) (by rw [add_block]; exact had)).trans hc0
      have hadl : (ad.add k).block < wr.heap.size := by rw [add_block]; omega
      have hcA := fun o => (World.cell?_alloc_lt wr o (ad.add k) hadl).trans hc
      clear hz
      cases d with
      | true =>
        go_wp2_with (at_builtin; refine wpList_append_own _ rfl (.tmp 31) (.tmp 36) 22 rfl w.heap.size 3 i0 (.int .i64 0) 1 8 Try.underlying22 HI.out.1 HI.out.2.1 HI.out.2.2.1 HI.out.2.2.2 rfl (by decide) _ _ _ rfl (hown.alloc _) ⟨wr.heap.size, 0, none⟩ 1 1 [.int .i64 z] rfl rfl (cell_one_new _ _ _) (by simp [Value.oneCell']) (by unfold maxLen; omega) (by omega) (by simp; omega) ?_; intro v1 w1 hown1 hg1 _)
        have hb1 : Below w.heap.size w w1 := (hbl.alloc hbl.size _).grown hg1 (by simp; omega) (fun j e => (hown.lt j e).1)
        have ho1 := own_snoc hown1 rfl
        go_roundw
        case rel => exact ⟨k + 1, true, out ++ [z], by omega, by go_num, rfl, by rw [← HS.out, HD.out, wl]; simp, by simp; omega, ho1, hb1⟩
        case measure => simp [intOf]; omega
      | false =>
        by_cases hxz : x < z
        · go_wp2_with (first
            | (at_builtin; refine wpList_append_own _ rfl (.tmp 27) (.tmp 29) 22 rfl w.heap.size 3 i0 (.int .i64 0) 1 8 Try.underlying22 HI.out.1 HI.out.2.1 HI.out.2.2.1 HI.out.2.2.2 rfl (by decide) _ _ _ rfl (hown.alloc _) ⟨wr.heap.size, 0, none⟩ 1 1 [.int .i64 x] rfl rfl (cell_one_new _ _ _) (by simp [Value.oneCell']) (by unfold maxLen; omega) (by omega) (by simp; omega) ?_; intro v1 w1 hown1 hg1 _; have hb1 : Below w.heap.size w w1 := (hbl.alloc hbl.size _).grown hg1 (by simp; omega) (fun j e => (hown.lt j e).1); have hsz1 := hb1.size; have hc1 : w1.cell? (ad.add k) = some (.int .i64 z) := (hb1.cell (p := ad.add k) (by rw [add_block]; exact had)).trans hc0; have hadl1 : (ad.add k).block < w1.heap.size := by (rw [add_block]; omega))
            | (at_builtin; refine wpList_append_own _ rfl (.tmp 31) (.tmp 36) 22 rfl w.heap.size 3 i0 (.int .i64 0) 1 8 Try.underlying22 HI.out.1 HI.out.2.1 HI.out.2.2.1 HI.out.2.2.2 rfl (by decide) _ _ _ rfl (hown1.alloc _) ⟨w1.heap.size, 0, none⟩ 1 1 [.int .i64 z] rfl rfl (cell_one_new _ _ _) (by simp [Value.oneCell']) (by unfold maxLen; omega) (by omega) (by simp; omega) ?_; intro v2 w2 hown2 hg2 _))
          have hb2 : Below w.heap.size w w2 := (hb1.alloc hb1.size _).grown hg2 (by simp; omega) (fun j e => (hown1.lt j e).1)
          have ho2 : w2.ownsRow w.heap.size 3 1 v2 (out ++ [x, z]).length ((out ++ [x, z]).map (Value.int .i64)) := by simpa using hown2
          go_roundw
          case rel => exact ⟨k + 1, true, out ++ [x, z], by omega, by go_num, rfl, by rw [← HS.out, HD.out, wl, if_pos hxz]; simp, by simp; omega, ho2, hb2⟩
          case measure => simp [intOf]; omega
        · go_wp2_with (at_builtin; refine wpList_append_own _ rfl (.tmp 31) (.tmp 36) 22 rfl w.heap.size 3 i0 (.int .i64 0) 1 8 Try.underlying22 HI.out.1 HI.out.2.1 HI.out.2.2.1 HI.out.2.2.2 rfl (by decide) _ _ _ rfl (hown.alloc _) ⟨wr.heap.size, 0, none⟩ 1 1 [.int .i64 z] rfl rfl (cell_one_new _ _ _) (by simp [Value.oneCell']) (by unfold maxLen; omega) (by omega) (by simp; omega) ?_; intro v1 w1 hown1 hg1 _)
          have hb1 : Below w.heap.size w w1 := (hbl.alloc hbl.size _).grown hg1 (by simp; omega) (fun j e => (hown.lt j e).1)
          have ho1 := own_snoc hown1 rfl
          go_roundw
          case rel => exact ⟨k + 1, false, out ++ [z], by omega, by go_num, rfl, by rw [← HS.out, HD.out, wl, if_neg hxz]; simp, by simp; omega, ho1, hb1⟩
          case measure => simp [intOf]; omega
    · cases d with
      | true =>
        go_wp2
        go_ret
        have e : out = withL l x := by rw [← HS.out, drop_nil_of HL.out hlt]; simp [wl]
        exact ⟨_, rfl, by rw [← e]; exact hown, hbl⟩
      | false =>
        go_wp2_with (at_builtin; refine wpList_append_own _ rfl (.tmp 40) (.tmp 42) 22 rfl w.heap.size 3 i0 (.int .i64 0) 1 8 Try.underlying22 HI.out.1 HI.out.2.1 HI.out.2.2.1 HI.out.2.2.2 rfl (by decide) _ _ _ rfl (hown.alloc _) ⟨wr.heap.size, 0, none⟩ 1 1 [.int .i64 x] rfl rfl (cell_one_new _ _ _) (by simp [Value.oneCell']) (by unfold maxLen; omega) (by omega) (by simp; omega) ?_; intro v1 w1 hown1 hg1 _)
        have hb1 : Below w.heap.size w w1 := (hbl.alloc hbl.size _).grown hg1 (by simp; omega) (fun j e => (hown.lt j e).1)
        have ho1 := own_snoc hown1 rfl
        go_ret
        have e : out ++ [x] = withL l x := by rw [← HS.out, drop_nil_of HL.out hlt]; simp [wl]
        exact ⟨_, rfl, by rw [← e]; exact ho1, hb1⟩
end Go.Proofs.Ytpfmncdodcbamaa
