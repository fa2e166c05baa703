/- bits.Within at any lists; the document's own Parts. -/
import Derived.Test.YtpfmncdodcbamaaWithin
namespace Go.Proofs.Ytpfmncdodcbamaa
open Go.RowKit Go.Proofs Go.Shelf

def WithinSays (a b : List Int) (e : Ending) : Prop :=
  if isSet a && isSet b then e = .returned (.tuple #[.bool (subB a b), .int .i64 0]) else e = .returned (.tuple #[.bool false, .int .i64 2])
theorem WithinSays.yes {a b : List Int} {e : Ending} (h : WithinSays a b e) (hs : (isSet a && isSet b) = true) : e = .returned (.tuple #[.bool (subB a b), .int .i64 0]) := by
  unfold WithinSays at h; rwa [if_pos hs] at h
theorem WithinSays.no {a b : List Int} {e : Ending} (h : WithinSays a b e) (hs : (isSet a && isSet b) = false) : e = .returned (.tuple #[.bool false, .int .i64 2]) := by
  unfold WithinSays at h; rwa [if_neg (by rw [hs]; simp)] at h
theorem PartSays.yes {p : Bool → Bool → Bool} {a b : List Int} {e : Ending} {w' : World} (h : PartSays p a b e w') (hs : (isSet a && isSet b) = true) :
    ∃ A2 n2 c2, e = .returned (.tuple #[.slice A2 n2 c2, .int .i64 0]) ∧ Ints w' w'.heap.size A2 n2 c2 (sel p (mrg a b)) := by
  unfold PartSays at h; rw [if_pos hs] at h
  obtain ⟨A2, c2, h1, h2⟩ := h
  exact ⟨A2, _, c2, h1, h2⟩
theorem PartSays.no {p : Bool → Bool → Bool} {a b : List Int} {e : Ending} {w' : World} (h : PartSays p a b e w') (hs : (isSet a && isSet b) = false) : e = .returned (.tuple #[.slice none 0 0, .int .i64 2]) := by
  unfold PartSays at h; rwa [if_neg (by rw [hs]; simp)] at h

set_option maxHeartbeats 1000000 in
theorem within_any (A A' : Option Addr) (n c n' c' : Nat) (a b : List Int) (w : World) (hr : Ints w w.heap.size A n c a) (hr' : Ints w w.heap.size A' n' c' b) :
    Calls Try.prog 23 #[.slice A n c, .slice A' n' c'] w fun e w' => WithinSays a b e ∧ Below w.heap.size w w' := by
  cases hs : isSet a && isSet b with
  | true =>
    have hab : isSet a = true ∧ isSet b = true := by simpa using hs
    refine (callsIn_wide.1 (within_in 3 (by omega) A A' n c n' c' a b w hr hr' hab.1 hab.2)).mono ?_
    rintro e w' ⟨rfl, hb⟩
    refine ⟨?_, hb⟩
    unfold WithinSays
    rw [hs]
    rfl
  | false =>
    have HA := Lib.hid (allRight_any _ 2 2 _ [a, b] _ (mat2 (t := 22) hr hr'))
    have hall : [a, b].all isSet = (isSet a && isSet b) := by simp
    rw [hall, hs] at HA
    have HS := Lib.hid hs
    clear hs hall
    go_enter Try.func23, Try.ntmps23
    go_wp2
    go_step3
    go_wp2_with (go_at_call 29; (with_reducible refine (HA.out).mono ?_); rintro e w' ⟨rfl, rfl⟩)
    rw [Exit.noGoto_ret]
    go_ret2
    refine ⟨?_, below1 _ _⟩
    unfold WithinSays
    rw [HS.out]
    rfl

/-- The numbers of a that are in b, or are not. -/
def partL (a b : List Int) (i : Bool) : List Int := a.filter (fun x => hasB b x == i)
theorem partL_snoc_hit (l b : List Int) (i : Bool) (x : Int) (h : hasB b x = i) : partL (l ++ [x]) b i = partL l b i ++ [x] := by simp [partL, h]
theorem partL_snoc_miss (l b : List Int) (i : Bool) (x : Int) (h : hasB b x ≠ i) : partL (l ++ [x]) b i = partL l b i := by simp [partL, h]

set_option maxHeartbeats 1000000 in
theorem parts_any (A A' : Option Addr) (n c n' c' : Nat) (a b : List Int) (i : Bool) (w : World) (hr : Ints w w.heap.size A n c a) (hr' : Ints w w.heap.size A' n' c' b) (hn : n ≤ 4398046511104) :
    Calls Try.prog 24 #[.slice A n c, .slice A' n' c', .bool i] w fun e w' => ∃ v, e = .returned v ∧ w'.ownsRow w.heap.size 3 1 v (partL a b i).length ((partL a b i).map (Value.int .i64)) ∧ Below w.heap.size w w' := by
  obtain ⟨i0, hi, hz0, hz1, hz2⟩ := info_parts info3
  have HI := Lib.hid (And.intro hi (And.intro hz0 (And.intro hz1 hz2)))
  clear hi hz0 hz1 hz2
  have HL := Lib.hid hr.1
  go_enter Try.func24, Try.ntmps24
  go_wp2
  go_loopw [7, 8] (fun s7 s8 wr => ∃ k : Nat, k ≤ n ∧ s8 = .int .i64 k ∧ wr.ownsRow w.heap.size 3 1 s7 (partL (a.take k) b i).length ((partL (a.take k) b i).map (Value.int .i64)) ∧ Below w.heap.size w wr) (fun _ s8 _ => n - (intOf s8).toNat)
  case atStart => exact ⟨0, Nat.zero_le _, rfl, World.ownsRow_nil _ _ _ _, Below.refl _ _⟩
  case round =>
    obtain ⟨k, hk, rfl, hown, hbl⟩ := hrel
    have hsz := hbl.size
    by_cases hlt : k < n
    · obtain ⟨ad, z, rfl, had, hz, _, hc0⟩ := hr.at_ hlt
      have hc : wr.cell? (ad.add k) = some (.int .i64 z) := (hbl.cell (p := ad.add k) (by rw [add_block]; exact had)).trans hc0
      have htk : a.take (k + 1) = a.take k ++ [z] := by rw [List.take_add_one, hz]; rfl
      have HT := Lib.hid htk
      have HH := Lib.hid (refHas_any A' n' c' _ b z wr (hr'.below hbl))
      have hpl : (partL (a.take k) b i).length ≤ k := by
        unfold partL
        exact Nat.le_trans (List.length_filter_le _ _) (List.length_take_le _ _)
      clear htk hz hc0
      cases hb : hasB b z == i with
      | true =>
        have hbi : hasB b z = i := by simpa using hb
        have HP := Lib.hid (partL_snoc_hit (a.take k) b i z hbi)
        have hbb : (hasB b z == i) = true := hb
        clear hbi hb
        generalize hasB b z = q at HH hbb
        go_wp2_with (first | (go_at_call 17; (with_reducible refine (HH.out).mono ?_); rintro e w' ⟨rfl, rfl⟩) | (at_builtin; refine wpList_append_own _ rfl _ _ 22 rfl w.heap.size 3 i0 (.int .i64 0) 1 8 Try.underlying22 HI.out.1 HI.out.2.1 HI.out.2.2.1 HI.out.2.2.2 rfl (by decide) _ _ _ rfl (hown.alloc _) ⟨wr.heap.size, 0, none⟩ 1 1 [.int .i64 z] rfl rfl (cell_one_new _ _ _) (by simp [Value.oneCell']) (by unfold maxLen; omega) (by omega) (by simp; omega) ?_; intro v1 w1 hown1 hg1 _))
        have hb1 : Below w.heap.size w w1 := (hbl.alloc hbl.size _).grown hg1 (by simp; omega) (fun j e => (hown.lt j e).1)
        have ho1 := own_snoc hown1 rfl
        go_roundw
        case rel => exact ⟨k + 1, by omega, by go_num, by rw [HT.out, HP.out]; exact ho1, hb1⟩
        case measure => simp [intOf]; omega
      | false =>
        have hbi : hasB b z ≠ i := by simpa using hb
        have HP := Lib.hid (partL_snoc_miss (a.take k) b i z hbi)
        have hbb : (hasB b z == i) = false := hb
        clear hbi hb
        generalize hasB b z = q at HH hbb
        go_wp2_with (go_at_call 17; (with_reducible refine (HH.out).mono ?_); rintro e w' ⟨rfl, rfl⟩)
        go_roundw
        case rel => exact ⟨k + 1, by omega, by go_num, by rw [HT.out, HP.out]; exact hown, hbl⟩
        case measure => simp [intOf]; omega
    · go_wp2
      go_ret
      have e : a.take k = a := List.take_of_length_le (by have := HL.out; omega)
      rw [e] at hown
      exact ⟨_, rfl, hown, hbl⟩

theorem part_minus {a b : List Int} (ha : isSet a = true) (hb : isSet b = true) : sel pMinus (mrg a b) = partL a b false := by
  obtain ⟨h1, h2⟩ := sel_set ha hb pMinus
  refine set_ext h1 (isSet_sub ha List.filter_sublist) (fun x => ?_)
  rw [h2 x]
  simp only [partL, List.mem_filter, pMinus]
  have := hasB_iff b x
  cases hh : hasB b x with
  | true => rw [hh] at this; simp [this.1 rfl]
  | false =>
    have hn : x ∉ b := fun h => by rw [this.2 h] at hh; cases hh
    simp [hn]
theorem part_meet {a b : List Int} (ha : isSet a = true) (hb : isSet b = true) : sel pMeet (mrg a b) = partL a b true := by
  obtain ⟨h1, h2⟩ := sel_set ha hb pMeet
  refine set_ext h1 (isSet_sub ha List.filter_sublist) (fun x => ?_)
  rw [h2 x]
  simp only [partL, List.mem_filter, pMeet]
  have := hasB_iff b x
  cases hh : hasB b x with
  | true => rw [hh] at this; simp [this.1 rfl]
  | false =>
    have hn : x ∉ b := fun h => by rw [this.2 h] at hh; cases hh
    simp [hn]
theorem sub_part (a b : List Int) : subB a b = decide ((partL a b false).length = 0) := by
  rw [Bool.eq_iff_iff]
  simp [subB, partL, List.all_eq_true, List.filter_eq_nil_iff]
theorem part_I64 {a b : List Int} {i : Bool} (h : ∀ z ∈ a, I64 z) : ∀ z ∈ partL a b i, I64 z := fun z hz => h z (List.mem_filter.1 hz).1
end Go.Proofs.Ytpfmncdodcbamaa
