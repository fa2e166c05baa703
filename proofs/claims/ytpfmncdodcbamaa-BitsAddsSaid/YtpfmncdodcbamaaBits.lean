/- bits.Union, Add, Minus, Meet; the document's own Parts, Add. -/
import Derived.Test.YtpfmncdodcbamaaAll
import Derived.Test.YtpfmncdodcbamaaLeast
import Derived.Test.YtpfmncdodcbamaaChosenMinus
import Derived.Test.YtpfmncdodcbamaaChosenMeet
namespace Go.Proofs.Ytpfmncdodcbamaa
open Go.RowKit Go.Proofs Go.Shelf

theorem add_lit (b j : Nat) : (⟨b, 0, none⟩ : Addr).add j = ⟨b, j, none⟩ := by unfold Addr.add; split <;> simp_all

theorem mat1 {w : World} {A : Option Addr} {n c t : Nat} {a : List Int} (h : Ints w w.heap.size A n c a) :
    Mat (w.alloc (.cells #[.slice A n c] t)) (w.heap.size + 1) (some ⟨w.heap.size, 0, none⟩) 1 1 [a] := by
  refine ⟨rfl, Nat.le_refl _, ⟨by omega, by omega⟩, fun _ => ⟨_, rfl, Nat.lt_succ_self _, fun j zs hj => ?_⟩⟩
  match j, hj with
  | 0, hj =>
    simp at hj
    subst hj
    exact ⟨A, n, c, by rw [add_lit, cell_of_row _ _ _ _ _ _ (heap_alloc_new w _)]; rfl, (h.alloc (Nat.le_refl _) _).more (by omega)⟩
theorem mat2 {w : World} {A A' : Option Addr} {n c n' c' t : Nat} {a b : List Int} (h : Ints w w.heap.size A n c a) (h' : Ints w w.heap.size A' n' c' b) :
    Mat (w.alloc (.cells #[.slice A n c, .slice A' n' c'] t)) (w.heap.size + 1) (some ⟨w.heap.size, 0, none⟩) 2 2 [a, b] := by
  refine ⟨rfl, Nat.le_refl _, ⟨by omega, by omega⟩, fun _ => ⟨_, rfl, Nat.lt_succ_self _, fun j zs hj => ?_⟩⟩
  match j, hj with
  | 0, hj =>
    simp at hj
    subst hj
    exact ⟨A, n, c, by rw [add_lit, cell_of_row _ _ _ _ _ _ (heap_alloc_new w _)]; rfl, (h.alloc (Nat.le_refl _) _).more (by omega)⟩
  | 1, hj =>
    simp at hj
    subst hj
    exact ⟨A', n', c', by rw [add_lit, cell_of_row _ _ _ _ _ _ (heap_alloc_new w _)]; rfl, (h'.alloc (Nat.le_refl _) _).more (by omega)⟩
theorem mat3 {w : World} {A A' A2 : Option Addr} {n c n' c' n2 c2 t : Nat} {a b d : List Int} (h : Ints w w.heap.size A n c a) (h' : Ints w w.heap.size A' n' c' b) (h2 : Ints w w.heap.size A2 n2 c2 d) :
    Mat (w.alloc (.cells #[.slice A n c, .slice A' n' c', .slice A2 n2 c2] t)) (w.heap.size + 1) (some ⟨w.heap.size, 0, none⟩) 3 3 [a, b, d] := by
  refine ⟨rfl, Nat.le_refl _, ⟨by omega, by omega⟩, fun _ => ⟨_, rfl, Nat.lt_succ_self _, fun j zs hj => ?_⟩⟩
  match j, hj with
  | 0, hj =>
    simp at hj
    subst hj
    exact ⟨A, n, c, by rw [add_lit, cell_of_row _ _ _ _ _ _ (heap_alloc_new w _)]; rfl, (h.alloc (Nat.le_refl _) _).more (by omega)⟩
  | 1, hj =>
    simp at hj
    subst hj
    exact ⟨A', n', c', by rw [add_lit, cell_of_row _ _ _ _ _ _ (heap_alloc_new w _)]; rfl, (h'.alloc (Nat.le_refl _) _).more (by omega)⟩
  | 2, hj =>
    simp at hj
    subst hj
    exact ⟨A2, n2, c2, by rw [add_lit, cell_of_row _ _ _ _ _ _ (heap_alloc_new w _)]; rfl, (h2.alloc (Nat.le_refl _) _).more (by omega)⟩
theorem below1 (w : World) (o : Obj) : Below w.heap.size w (w.alloc o) := (Below.refl _ w).alloc (Nat.le_refl _) o
theorem ints_new (w : World) (x : Int) (hx : I64 x) : Ints (w.alloc (.cells #[.int .i64 x] 3)) (w.heap.size + 1) (some ⟨w.heap.size, 0, none⟩) 1 1 [x] := by
  refine ⟨rfl, Nat.le_refl _, ⟨by omega, by omega⟩, by simpa using hx, fun _ => ⟨_, rfl, Nat.lt_succ_self _, fun j z hj => ?_⟩⟩
  match j, hj with
  | 0, hj =>
    simp at hj
    subst hj
    rw [add_lit, cell_of_row _ _ _ _ _ _ (heap_alloc_new w _)]
    rfl

/-- What bits.Union answers. -/
def UnionSays (zss : List (List Int)) (e : Ending) (w' : World) : Prop :=
  if zss.all isSet then ∃ A2 n2 c2 r, e = .returned (.tuple #[.slice A2 n2 c2, .int .i64 0]) ∧ Ints w' w'.heap.size A2 n2 c2 r ∧ UniOf r zss else e = .returned (.tuple #[.slice none 0 0, .int .i64 2])
theorem UnionSays.yes {zss : List (List Int)} {e : Ending} {w' : World} (h : UnionSays zss e w') (hs : zss.all isSet = true) : ∃ A2 n2 c2 r, e = .returned (.tuple #[.slice A2 n2 c2, .int .i64 0]) ∧ Ints w' w'.heap.size A2 n2 c2 r ∧ UniOf r zss := by
  unfold UnionSays at h; rwa [if_pos hs] at h
theorem UnionSays.no {zss : List (List Int)} {e : Ending} {w' : World} (h : UnionSays zss e w') (hs : zss.all isSet = false) : e = .returned (.tuple #[.slice none 0 0, .int .i64 2]) := by
  unfold UnionSays at h; rwa [if_neg (by rw [hs]; simp)] at h

set_option maxHeartbeats 400000 in
theorem union_any (A : Option Addr) (n c : Nat) (zss : List (List Int)) (w : World) (hr : Mat w w.heap.size A n c zss) :
    Calls Try.prog 19 #[.slice A n c] w fun e w' => UnionSays zss e w' ∧ Below w.heap.size w w' := by
  have HA := Lib.hid (allRight_any A n c _ zss w hr)
  cases hs : zss.all isSet with
  | false =>
    rw [hs] at HA
    have HS := Lib.hid hs
    clear hs
    go_enter Try.func19, Try.ntmps19
    go_wp2_with (go_at_call 29; (with_reducible refine (HA.out).mono ?_); rintro e w' ⟨rfl, rfl⟩)
    go_ret2
    refine ⟨?_, Below.refl _ _⟩
    unfold UnionSays
    rw [HS.out]
    rfl
  | true =>
    have HU := Lib.hid (united_any n A n c zss w (Nat.le_refl _) hr hs)
    rw [hs] at HA
    have HS := Lib.hid hs
    clear hs
    go_enter Try.func19, Try.ntmps19
    go_wp2_with (first | (go_at_call 29; (with_reducible refine (HA.out).mono ?_); rintro e w' ⟨rfl, rfl⟩) | (go_at_call 30; (with_reducible refine (HU.out).mono ?_); rintro e w' ⟨A', n', c', r, rfl, hi, hu, hb⟩))
    go_ret2
    refine ⟨?_, hb⟩
    unfold UnionSays
    rw [HS.out]
    exact ⟨A', n', c', r, rfl, hi, hu⟩

/-- What bits.Minus and bits.Meet answer. -/
def PartSays (p : Bool → Bool → Bool) (a b : List Int) (e : Ending) (w' : World) : Prop :=
  if isSet a && isSet b then ∃ A2 c2, e = .returned (.tuple #[.slice A2 (sel p (mrg a b)).length c2, .int .i64 0]) ∧ Ints w' w'.heap.size A2 (sel p (mrg a b)).length c2 (sel p (mrg a b)) else e = .returned (.tuple #[.slice none 0 0, .int .i64 2])

set_option maxHeartbeats 400000 in
theorem minus_any (A A' : Option Addr) (n c n' c' : Nat) (a b : List Int) (w : World) (hr : Ints w w.heap.size A n c a) (hr' : Ints w w.heap.size A' n' c' b) :
    Calls Try.prog 21 #[.slice A n c, .slice A' n' c'] w fun e w' => PartSays pMinus a b e w' ∧ Below w.heap.size w w' := by
  have HA := Lib.hid (allRight_any _ 2 2 _ [a, b] _ (mat2 (t := 22) hr hr'))
  have hall : [a, b].all isSet = (isSet a && isSet b) := by simp
  rw [hall] at HA
  have hW := below1 w (.cells #[.slice A n c, .slice A' n' c'] 22)
  cases hs : isSet a && isSet b with
  | false =>
    rw [hs] at HA
    have HS := Lib.hid hs
    clear hs hall hW
    go_enter Try.func21, Try.ntmps21
    go_wp2_with (go_at_call 29; (with_reducible refine (HA.out).mono ?_); rintro e w' ⟨rfl, rfl⟩)
    go_ret2
    refine ⟨?_, below1 _ _⟩
    unfold PartSays
    rw [HS.out]
    rfl
  | true =>
    have hab : isSet a = true ∧ isSet b = true := by simpa using hs
    have hset := (sel_set hab.1 hab.2 pMinus).1
    rw [hs] at HA
    have HS := Lib.hid hs
    have HC := Lib.hid (callsIn_wide.1 (chosen34_in 3 (by omega) A A' n c n' c' a b (w.alloc (.cells #[.slice A n c, .slice A' n' c'] 22)) ((hr.below hW).more hW.size) ((hr'.below hW).more hW.size) (mrg_len hab.1 hab.2)))
    have HT := Lib.hid hset
    clear hs hall hab hset hW
    go_enter Try.func21, Try.ntmps21
    go_wp2_with (first | (go_at_call 29; (with_reducible refine (HA.out).mono ?_); rintro e w' ⟨rfl, rfl⟩) | (go_at_call 33; (with_reducible refine (HC.out).mono ?_); rintro e w' ⟨v, rfl, hown, hb⟩))
    obtain ⟨A3, c3, rfl, hi3⟩ := ints_of_own hown (isSet_I64 HT.out) (by have := isSet_len HT.out; omega)
    go_ret2
    refine ⟨?_, (below1 w _).trans (hb.mono (by simp))⟩
    unfold PartSays
    rw [HS.out]
    exact ⟨A3, c3, rfl, hi3⟩

set_option maxHeartbeats 400000 in
theorem meet_any (A A' : Option Addr) (n c n' c' : Nat) (a b : List Int) (w : World) (hr : Ints w w.heap.size A n c a) (hr' : Ints w w.heap.size A' n' c' b) :
    Calls Try.prog 22 #[.slice A n c, .slice A' n' c'] w fun e w' => PartSays pMeet a b e w' ∧ Below w.heap.size w w' := by
  have HA := Lib.hid (allRight_any _ 2 2 _ [a, b] _ (mat2 (t := 22) hr hr'))
  have hall : [a, b].all isSet = (isSet a && isSet b) := by simp
  rw [hall] at HA
  have hW := below1 w (.cells #[.slice A n c, .slice A' n' c'] 22)
  cases hs : isSet a && isSet b with
  | false =>
    rw [hs] at HA
    have HS := Lib.hid hs
    clear hs hall hW
    go_enter Try.func22, Try.ntmps22
    go_wp2_with (go_at_call 29; (with_reducible refine (HA.out).mono ?_); rintro e w' ⟨rfl, rfl⟩)
    go_ret2
    refine ⟨?_, below1 _ _⟩
    unfold PartSays
    rw [HS.out]
    rfl
  | true =>
    have hab : isSet a = true ∧ isSet b = true := by simpa using hs
    have hset := (sel_set hab.1 hab.2 pMeet).1
    rw [hs] at HA
    have HS := Lib.hid hs
    have HC := Lib.hid (callsIn_wide.1 (chosen35_in 3 (by omega) A A' n c n' c' a b (w.alloc (.cells #[.slice A n c, .slice A' n' c'] 22)) ((hr.below hW).more hW.size) ((hr'.below hW).more hW.size) (mrg_len hab.1 hab.2)))
    have HT := Lib.hid hset
    clear hs hall hab hset hW
    go_enter Try.func22, Try.ntmps22
    go_wp2_with (first | (go_at_call 29; (with_reducible refine (HA.out).mono ?_); rintro e w' ⟨rfl, rfl⟩) | (go_at_call 33; (with_reducible refine (HC.out).mono ?_); rintro e w' ⟨v, rfl, hown, hb⟩))
    obtain ⟨A3, c3, rfl, hi3⟩ := ints_of_own hown (isSet_I64 HT.out) (by have := isSet_len HT.out; omega)
    go_ret2
    refine ⟨?_, (below1 w _).trans (hb.mono (by simp))⟩
    unfold PartSays
    rw [HS.out]
    exact ⟨A3, c3, rfl, hi3⟩

/-- What Add answers. -/
def AddSays (l : List Int) (x : Int) (e : Ending) (w' : World) : Prop :=
  if isSet l && isSet [x] then ∃ A2 n2 c2 r, e = .returned (.tuple #[.slice A2 n2 c2, .bool (!hasB l x), .int .i64 0]) ∧ Ints w' w'.heap.size A2 n2 c2 r ∧ UniOf r [l, [x]] else e = .returned (.tuple #[.slice none 0 0, .bool false, .int .i64 2])
theorem uni_len {l r : List Int} {x : Int} (hl : isSet l = true) (hx : isSet [x] = true) (h : UniOf r [l, [x]]) : decide (l.length < r.length) = !hasB l x := by
  have hx' : 0 ≤ x ∧ x ≤ 1073741824 := by simpa using ((isSet_iff [x]).1 hx).2 x (by simp)
  obtain ⟨h1, h2⟩ := withL_set (x := x) hl hx'
  have e : r = withL l x := set_ext h.1 h1 (fun y => by rw [h.2 y, h2 y]; simp)
  subst e
  cases hb : hasB l x with
  | true => simp [withL, hb, wl_true]
  | false =>
    have : ∀ l, (wl x false l).length = l.length + 1 := by
      intro l
      induction l with
      | nil => rfl
      | cons z r ih =>
        rw [wl]
        by_cases hlt : x < z
        · rw [if_pos hlt, wl_true]; simp
        · rw [if_neg hlt]; simp [ih]
    simp [withL, hb, this]

set_option maxHeartbeats 1000000 in
theorem add_any (A : Option Addr) (n c : Nat) (l : List Int) (x : Int) (w : World) (hx : I64 x) (hr : Ints w w.heap.size A n c l) :
    Calls Try.prog 12 #[.slice A n c, .int .i64 x] w fun e w' => AddSays l x e w' ∧ Below w.heap.size w w' := by
  obtain ⟨w1, hw1⟩ : ∃ w1, w1 = w.alloc (.cells #[.int .i64 x] 3) := ⟨_, rfl⟩
  have hb1 : Below w.heap.size w w1 := by rw [hw1]; exact below1 w _
  have hx1 : Ints w1 w1.heap.size (some ⟨w.heap.size, 0, none⟩) 1 1 [x] := by rw [hw1]; simpa using ints_new w x hx
  have hr1 : Ints w1 w1.heap.size A n c l := (hr.below hb1).more hb1.size
  have hall : [l, [x]].all isSet = (isSet l && isSet [x]) := by simp
  have HA := Lib.hid (allRight_any _ 2 2 _ [l, [x]] _ (mat2 (t := 22) hr1 hx1))
  rw [hall] at HA
  have hW := below1 w1 (.cells #[.slice A n c, .slice (some ⟨w.heap.size, 0, none⟩) 1 1] 22)
  cases hs : isSet l && isSet [x] with
  | false =>
    rw [hs, hw1] at HA
    simp only [World.size_alloc] at HA
    have HS := Lib.hid hs
    clear hs hall hW hr1 hx1 hb1 hw1
    go_enter Try.func12, Try.ntmps12
    go_wp2_with (go_at_call 29; (with_reducible refine (HA.out).mono ?_); rintro e w' ⟨rfl, rfl⟩)
    go_ret3
    refine ⟨?_, (below1 w _).alloc (by simp) _⟩
    unfold AddSays
    rw [HS.out]
    rfl
  | true =>
    have hab : isSet l = true ∧ isSet [x] = true := by simpa using hs
    rw [hs, hw1] at HA
    simp only [World.size_alloc] at HA
    have HS := Lib.hid (And.intro hs hab)
    have HU := Lib.hid (united_any 2 _ 2 2 [l, [x]] _ (Nat.le_refl _) (by
      have := mat2 (t := 22) ((hr1.below hW).more hW.size) ((hx1.below hW).more hW.size)
      exact this.more (by simp)) (by rw [hall, hs]))
    have HB := Lib.hid (hb1.trans (hW.mono hb1.size))
    have HL := Lib.hid hr.1
    rw [hw1] at HU HB
    simp only [World.size_alloc] at HU
    clear hs hall hab hW hr1 hx1 hb1 hw1
    go_enter Try.func12, Try.ntmps12
    go_wp2_with (first | (go_at_call 29; (with_reducible refine (HA.out).mono ?_); rintro e w' ⟨rfl, rfl⟩) | (go_at_call 30; (with_reducible refine (HU.out).mono ?_); rintro e w' ⟨A', n', c', r, rfl, hi, hu, hb⟩))
    go_ret3
    have hd := uni_len HS.out.2.1 HS.out.2.2 hu
    rw [HL.out, hi.1] at hd
    have hb' := hb.mono (B' := w.heap.size) (by omega)
    refine ⟨?_, (HB.out.alloc HB.out.size _).trans hb'⟩
    unfold AddSays
    rw [HS.out.1]
    refine ⟨A', n', c', r, ?_, hi, hu⟩
    rw [← hd]
    simp
end Go.Proofs.Ytpfmncdodcbamaa
