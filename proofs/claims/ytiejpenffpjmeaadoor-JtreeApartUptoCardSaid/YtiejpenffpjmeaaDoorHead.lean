/- The laws' head: three known texts. -/
import Derived.Test.YtiejpenffpjmeaaDoorShown
namespace Go.Proofs.YtiejpenffpjmeaaDoor
set_option linter.unusedSimpArgs false
set_option linter.unusedVariables false
open Go.RowKit Go.Proofs

theorem id_any (s : ByteArray) (w : World) : Calls Tryd.prog 25 #[.string s] w fun e w' => e = .returned (.agg #[.int .i64 1, .string s, .int .i64 0, .slice none 0 0, .int .i64 0]) ∧ Below w.heap.size w w' := by
  go_enter Tryd.func25, Tryd.ntmps25
  go_wp2
  refine bodyPost_ret (v := .agg #[.int .i64 1, .string s, .int .i64 0, .slice none 0 0, .int .i64 0]) (by simp [results, Tryd.results25, go_sem]) rfl ⟨rfl, ?_⟩
  exact (Below.refl _ w).alloc (Nat.le_refl _) _

/-- A tree's five cells. -/
def five (p : Tr × Value) : List Value := [.int .i64 p.1.op, .string (bs p.1.s), .int .i64 p.1.n, p.2, .int .i64 p.1.line]
theorem fives_len : ∀ l : List (Tr × Value), (l.flatMap five).length = l.length * 5
  | [] => rfl
  | a :: r => by rw [List.flatMap_cons, List.length_append, fives_len r, List.length_cons]; simp [five]; omega
theorem atL_lit (W : World) (n g : Nat) (all : List (Tr × Value)) (hg : ∃ f, W.heap[g]? = some (.cells (all.flatMap five).toArray 24 f)) (h : ∀ p ∈ all, At W n p.1 (nodeV p.1 p.2)) :
    ∀ (suf pre : List (Tr × Value)), all = pre ++ suf → AtL W n g (pre.length * 5) (suf.map (·.1))
  | [], pre, e => AtL_nil _ _ _ _
  | a :: r, pre, e => by
    rw [List.map_cons, AtL_cons]
    obtain ⟨f, hf⟩ := hg
    have hc : ∀ j v, (five a)[j]? = some v → j < 5 → W.cell? ⟨g, pre.length * 5 + j, none⟩ = some v := by
      intro j v hv hj
      refine cell_of_row W g _ _ _ _ hf |>.trans ?_
      rw [List.getElem?_toArray, e, List.flatMap_append, List.flatMap_cons, List.getElem?_append_right (by rw [fives_len]; omega), fives_len, Nat.add_sub_cancel_left, List.getElem?_append_left (by simp [five]; omega)]
      exact hv
    refine ⟨⟨a.2, h a (by rw [e]; simp), hc 0 _ rfl (by decide), hc 1 _ rfl (by decide), hc 2 _ rfl (by decide), hc 3 _ rfl (by decide), hc 4 _ rfl (by decide)⟩, ?_⟩
    have := atL_lit W n g all ⟨f, hf⟩ h r (pre ++ [a]) (by rw [e]; simp)
    rw [List.length_append, List.length_singleton, Nat.add_mul] at this
    exact this
/-- A row that is just made. -/
theorem row_lit (w : World) (all : List (Tr × Value)) (cs : Array Value) (hcs : (all.flatMap five).toArray = cs) (k : Nat) (hk : all.length = k) (hm : k ≤ 1000) (h : ∀ p ∈ all, At w w.heap.size p.1 (nodeV p.1 p.2)) (xs : List Tr) (hx : all.map (·.1) = xs) :
    Row (w.alloc (.cells cs 24)) (w.alloc (.cells cs 24)).heap.size xs (.slice (some ⟨w.heap.size, 0, none⟩) k k) := by
  subst hcs hk hx
  have hb : Below w.heap.size w (w.alloc (.cells (all.flatMap five).toArray 24)) := (Below.refl _ w).alloc (Nat.le_refl _) _
  refine ⟨_, all.length, by rw [List.length_map], ⟨by rw [List.length_map]; omega, by unfold maxLen; omega⟩, fun _ => ⟨w.heap.size, 0, rfl, by simp, ?_⟩⟩
  exact atL_lit _ _ _ all ⟨_, heap_alloc_new w _⟩ (fun p hp => At.keep p.1 (h p hp) (by simp) fun q hq => hb.cell hq) all [] rfl
theorem row_none (w : World) (n : Nat) : Row w n [] (.slice none 0 0) := ⟨none, 0, rfl, ⟨Nat.le_refl _, by decide⟩, fun h => absurd h (by simp)⟩
theorem at_lit {w : World} {n : Nat} (t : Tr) (u : Value) (h : Row w n t.l u) (hf : Fine t.op t.s t.n) : At w n t (nodeV t u) := (At_iff _ _ _ _).2 ⟨u, rfl, h, hf⟩

def tA : Tr := .mk 1 [97] 0 0 []
def tN : Tr := .mk 2 [] 1 0 []
def tM : Tr := .mk 20 [] 0 0 [tN]
def tB : Tr := .mk 18 [43] 0 0 [tA, tM]
def tP : Tr := .mk 13 [112] 0 0 [tA]
def tO : Tr := .mk 11 [] 0 0 []
def tS : Tr := .mk 17 [] 0 0 [tP, tO]
def tX : Tr := .mk 31 [] 0 0 [tS]
def tK : Tr := .mk 32 [] 0 0 [tX]
def tZ : Tr := .mk 0 [] 0 0 []
theorem fine_by (o : Int) (s : Bs) (n : Int) (h1 : s.length ≤ 1000) (h2 : -9223372036854775808 ≤ o ∧ o ≤ 9223372036854775807) (h3 : -9223372036854775808 ≤ n ∧ n ≤ 9223372036854775807) : Fine o s n := ⟨by unfold maxLen; omega, h2, h3⟩

theorem le_by {a b c : Nat} (h : b = a) (h2 : a ≤ c) : b ≤ c := h ▸ h2

theorem shown_1 (w : World) (he : Env w) (h1 : 1 ≤ w.heap.size) :
    Calls Tryd.prog 18 #[.agg #[.int .i64 18, .string ⟨#[43]⟩, .int .i64 0, .slice (some ⟨w.heap.size + 1, 0, none⟩) 2 2, .int .i64 0]]
      ((w.alloc (.cells #[.int .i64 2, .string ⟨#[]⟩, .int .i64 1, .slice none 0 0, .int .i64 0] 24)).alloc (.cells #[.int .i64 1, .string ⟨#[97]⟩, .int .i64 0, .slice none 0 0, .int .i64 0, .int .i64 20, .string ⟨#[]⟩, .int .i64 0, .slice (some ⟨w.heap.size, 0, none⟩) 1 1, .int .i64 0] 24))
      fun e w' => e = .returned (.tuple #[.string ⟨#[40, 97, 32, 43, 32, 40, 45, 49, 41, 41]⟩, .int .i64 0]) ∧ Below w.heap.size w w' := by
  have r1 := row_lit w [(tN, .slice none 0 0)] #[.int .i64 2, .string ⟨#[]⟩, .int .i64 1, .slice none 0 0, .int .i64 0] rfl 1 rfl (by decide) (fun p hp => by rw [List.mem_singleton.1 hp]; exact at_lit tN _ (row_none _ _) (fine_by _ _ _ (by decide) (by decide) (by decide))) [tN] rfl
  have hb1 : Below w.heap.size w (w.alloc (.cells #[.int .i64 2, .string ⟨#[]⟩, .int .i64 1, .slice none 0 0, .int .i64 0] 24)) := (Below.refl _ w).alloc (Nat.le_refl _) _
  have hz1 : (w.alloc (.cells #[.int .i64 2, .string ⟨#[]⟩, .int .i64 1, .slice none 0 0, .int .i64 0] 24)).heap.size = w.heap.size + 1 := by simp
  obtain ⟨w1, e1⟩ : ∃ x, w.alloc (.cells #[.int .i64 2, .string ⟨#[]⟩, .int .i64 1, .slice none 0 0, .int .i64 0] 24) = x := ⟨_, rfl⟩
  rw [e1] at r1 hb1 hz1 ⊢
  have r2 := row_lit w1 [(tA, .slice none 0 0), (tM, .slice (some ⟨w.heap.size, 0, none⟩) 1 1)] #[.int .i64 1, .string ⟨#[97]⟩, .int .i64 0, .slice none 0 0, .int .i64 0, .int .i64 20, .string ⟨#[]⟩, .int .i64 0, .slice (some ⟨w.heap.size, 0, none⟩) 1 1, .int .i64 0] rfl 2 rfl (by decide)
    (fun p hp => by
      simp only [List.mem_cons, List.not_mem_nil, or_false] at hp
      rcases hp with rfl | rfl
      · exact at_lit tA _ (row_none _ _) (fine_by _ _ _ (by decide) (by decide) (by decide))
      · exact at_lit tM _ r1 (fine_by _ _ _ (by decide) (by decide) (by decide))) [tA, tM] rfl
  have hb2 := (Below.refl _ w1).alloc (Nat.le_refl _) (.cells #[.int .i64 1, .string ⟨#[97]⟩, .int .i64 0, .slice none 0 0, .int .i64 0, .int .i64 20, .string ⟨#[]⟩, .int .i64 0, .slice (some ⟨w.heap.size, 0, none⟩) 1 1, .int .i64 0] 24)
  obtain ⟨w2, e2⟩ : ∃ x, w1.alloc (.cells #[.int .i64 1, .string ⟨#[97]⟩, .int .i64 0, .slice none 0 0, .int .i64 0, .int .i64 20, .string ⟨#[]⟩, .int .i64 0, .slice (some ⟨w.heap.size, 0, none⟩) 1 1, .int .i64 0] 24) = x := ⟨_, rfl⟩
  rw [e2] at r2 hb2 ⊢
  rw [hz1] at r2
  have hbb : Below w.heap.size w w2 := hb1.trans (hb2.mono (by omega))
  have hfin := showE_any tB _ w2 (at_lit tB _ r2 (fine_by _ _ _ (by decide) (by decide) (by decide))) (le_by (a := 4) (by kernel_rfl) (by decide)) (fun _ => le_by (a := 10) (by kernel_rfl) (by decide)) (he.below hbb)
  refine hfin.mono ?_
  rintro e w3 ⟨rfl, hb3⟩
  exact ⟨by kernel_rfl, hbb.trans (hb3.mono hbb.size)⟩

theorem shown_2 (w : World) (he : Env w) (h1 : 1 ≤ w.heap.size) :
    Calls Tryd.prog 16 #[.agg #[.int .i64 32, .string ⟨#[]⟩, .int .i64 0, .slice (some ⟨w.heap.size + 3, 0, none⟩) 1 1, .int .i64 0]] ((((w.alloc (.cells #[.int .i64 1, .string ⟨#[97]⟩, .int .i64 0, .slice none 0 0, .int .i64 0] 24)).alloc (.cells #[.int .i64 13, .string ⟨#[112]⟩, .int .i64 0, .slice (some ⟨w.heap.size, 0, none⟩) 1 1, .int .i64 0, .int .i64 11, .string ⟨#[]⟩, .int .i64 0, .slice none 0 0, .int .i64 0] 24)).alloc (.cells #[.int .i64 17, .string ⟨#[]⟩, .int .i64 0, .slice (some ⟨w.heap.size + 1, 0, none⟩) 2 2, .int .i64 0] 24)).alloc (.cells #[.int .i64 31, .string ⟨#[]⟩, .int .i64 0, .slice (some ⟨w.heap.size + 2, 0, none⟩) 1 1, .int .i64 0] 24))
      fun e w' => e = .returned (.tuple #[.string ⟨#[40, 97, 46, 112, 32, 61, 32, 40, 123, 125, 41, 41, 59, 10]⟩, .int .i64 0]) ∧ Below w.heap.size w w' := by
  have r1 := row_lit w [(tA, .slice none 0 0)] #[.int .i64 1, .string ⟨#[97]⟩, .int .i64 0, .slice none 0 0, .int .i64 0] rfl 1 rfl (by decide)
    (fun p hp => by
      simp only [List.mem_cons, List.not_mem_nil, or_false] at hp
      subst hp
      exact at_lit tA _ (row_none _ _) (fine_by _ _ _ (by decide) (by decide) (by decide))) [tA] rfl
  have hb1 := (Below.refl _ w).alloc (Nat.le_refl _) (.cells #[.int .i64 1, .string ⟨#[97]⟩, .int .i64 0, .slice none 0 0, .int .i64 0] 24)
  have hz1 : (w.alloc (.cells #[.int .i64 1, .string ⟨#[97]⟩, .int .i64 0, .slice none 0 0, .int .i64 0] 24)).heap.size = w.heap.size + 1 := by simp
  obtain ⟨w1, e1⟩ : ∃ x, w.alloc (.cells #[.int .i64 1, .string ⟨#[97]⟩, .int .i64 0, .slice none 0 0, .int .i64 0] 24) = x := ⟨_, rfl⟩
  rw [e1] at r1 hb1 hz1 ⊢
  have r2 := row_lit w1 [(tP, .slice (some ⟨w.heap.size, 0, none⟩) 1 1), (tO, .slice none 0 0)] #[.int .i64 13, .string ⟨#[112]⟩, .int .i64 0, .slice (some ⟨w.heap.size, 0, none⟩) 1 1, .int .i64 0, .int .i64 11, .string ⟨#[]⟩, .int .i64 0, .slice none 0 0, .int .i64 0] rfl 2 rfl (by decide)
    (fun p hp => by
      simp only [List.mem_cons, List.not_mem_nil, or_false] at hp
      rcases hp with rfl | rfl
      · exact at_lit tP _ (r1) (fine_by _ _ _ (by decide) (by decide) (by decide))
      · exact at_lit tO _ (row_none _ _) (fine_by _ _ _ (by decide) (by decide) (by decide))) [tP, tO] rfl
  have hb2 := (Below.refl _ w1).alloc (Nat.le_refl _) (.cells #[.int .i64 13, .string ⟨#[112]⟩, .int .i64 0, .slice (some ⟨w.heap.size, 0, none⟩) 1 1, .int .i64 0, .int .i64 11, .string ⟨#[]⟩, .int .i64 0, .slice none 0 0, .int .i64 0] 24)
  have hz2 : (w1.alloc (.cells #[.int .i64 13, .string ⟨#[112]⟩, .int .i64 0, .slice (some ⟨w.heap.size, 0, none⟩) 1 1, .int .i64 0, .int .i64 11, .string ⟨#[]⟩, .int .i64 0, .slice none 0 0, .int .i64 0] 24)).heap.size = w1.heap.size + 1 := by simp
  obtain ⟨w2, e2⟩ : ∃ x, w1.alloc (.cells #[.int .i64 13, .string ⟨#[112]⟩, .int .i64 0, .slice (some ⟨w.heap.size, 0, none⟩) 1 1, .int .i64 0, .int .i64 11, .string ⟨#[]⟩, .int .i64 0, .slice none 0 0, .int .i64 0] 24) = x := ⟨_, rfl⟩
  rw [e2] at r2 hb2 hz2 ⊢
  rw [hz1] at hz2
  rw [show w1.heap.size = w.heap.size + 1 by omega] at r2
  have r3 := row_lit w2 [(tS, .slice (some ⟨w.heap.size + 1, 0, none⟩) 2 2)] #[.int .i64 17, .string ⟨#[]⟩, .int .i64 0, .slice (some ⟨w.heap.size + 1, 0, none⟩) 2 2, .int .i64 0] rfl 1 rfl (by decide)
    (fun p hp => by
      simp only [List.mem_cons, List.not_mem_nil, or_false] at hp
      subst hp
      exact at_lit tS _ (r2) (fine_by _ _ _ (by decide) (by decide) (by decide))) [tS] rfl
  have hb3 := (Below.refl _ w2).alloc (Nat.le_refl _) (.cells #[.int .i64 17, .string ⟨#[]⟩, .int .i64 0, .slice (some ⟨w.heap.size + 1, 0, none⟩) 2 2, .int .i64 0] 24)
  have hz3 : (w2.alloc (.cells #[.int .i64 17, .string ⟨#[]⟩, .int .i64 0, .slice (some ⟨w.heap.size + 1, 0, none⟩) 2 2, .int .i64 0] 24)).heap.size = w2.heap.size + 1 := by simp
  obtain ⟨w3, e3⟩ : ∃ x, w2.alloc (.cells #[.int .i64 17, .string ⟨#[]⟩, .int .i64 0, .slice (some ⟨w.heap.size + 1, 0, none⟩) 2 2, .int .i64 0] 24) = x := ⟨_, rfl⟩
  rw [e3] at r3 hb3 hz3 ⊢
  rw [hz2] at hz3
  rw [show w2.heap.size = w.heap.size + 2 by omega] at r3
  have r4 := row_lit w3 [(tX, .slice (some ⟨w.heap.size + 2, 0, none⟩) 1 1)] #[.int .i64 31, .string ⟨#[]⟩, .int .i64 0, .slice (some ⟨w.heap.size + 2, 0, none⟩) 1 1, .int .i64 0] rfl 1 rfl (by decide)
    (fun p hp => by
      simp only [List.mem_cons, List.not_mem_nil, or_false] at hp
      subst hp
      exact at_lit tX _ (r3) (fine_by _ _ _ (by decide) (by decide) (by decide))) [tX] rfl
  have hb4 := (Below.refl _ w3).alloc (Nat.le_refl _) (.cells #[.int .i64 31, .string ⟨#[]⟩, .int .i64 0, .slice (some ⟨w.heap.size + 2, 0, none⟩) 1 1, .int .i64 0] 24)
  have hz4 : (w3.alloc (.cells #[.int .i64 31, .string ⟨#[]⟩, .int .i64 0, .slice (some ⟨w.heap.size + 2, 0, none⟩) 1 1, .int .i64 0] 24)).heap.size = w3.heap.size + 1 := by simp
  obtain ⟨w4, e4⟩ : ∃ x, w3.alloc (.cells #[.int .i64 31, .string ⟨#[]⟩, .int .i64 0, .slice (some ⟨w.heap.size + 2, 0, none⟩) 1 1, .int .i64 0] 24) = x := ⟨_, rfl⟩
  rw [e4] at r4 hb4 hz4 ⊢
  rw [hz3] at hz4
  rw [show w3.heap.size = w.heap.size + 3 by omega] at r4
  have hbb : Below w.heap.size w w4 := ((hb1.trans (hb2.mono (by omega))).trans (hb3.mono (by omega))).trans (hb4.mono (by omega))
  have hfin := show_any tK _ w4 (at_lit tK _ r4 (fine_by _ _ _ (by decide) (by decide) (by decide))) (le_by (a := 6) (by kernel_rfl) (by decide)) (fun _ => le_by (a := 14) (by kernel_rfl) (by decide)) (he.below hbb)
  refine hfin.mono ?_
  rintro e w5 ⟨rfl, hb5⟩
  exact ⟨by kernel_rfl, hbb.trans (hb5.mono hbb.size)⟩

theorem shown_3 (w : World) (he : Env w) (h1 : 1 ≤ w.heap.size) :
    Calls Tryd.prog 18 #[.agg #[.int .i64 0, .string ⟨#[]⟩, .int .i64 0, .slice none 0 0, .int .i64 0]] w
      fun e w' => e = .returned (.tuple #[.string ⟨#[]⟩, .int .i64 30]) ∧ Below w.heap.size w w' := by
  have hfin := showE_any tZ _ w (at_lit tZ _ (row_none _ _) (fine_by _ _ _ (by decide) (by decide) (by decide))) (le_by (a := 1) (by kernel_rfl) (by decide)) (fun h => absurd h (by rw [show rightE tZ = false by kernel_rfl]; decide)) he
  refine hfin.mono ?_
  rintro e w5 ⟨rfl, hb5⟩
  exact ⟨by kernel_rfl, hb5⟩

set_option maxRecDepth 100000 in
set_option maxHeartbeats 4000000 in
theorem shown_any (w : World) (he : Env w) (h1 : 1 ≤ w.heap.size) : Calls Tryd.prog 10 #[] w fun e w' => e = .returned (.bool true) ∧ Below w.heap.size w w' := by
  have HI := Lib.hid id_any
  have HE := Lib.hid (And.intro he h1)
  clear he h1
  go_enter Tryd.func10, Tryd.ntmps10
  go_wp2_with fail
  go_at_call 25
  refine (HI.out _ _).mono ?_
  rintro e w1 ⟨rfl, hb1⟩
  have HB1 := Lib.hid hb1
  have hc1 := shown_1 w1 (HE.out.1.below hb1) (Nat.le_trans HE.out.2 hb1.size)
  clear hb1
  have HC1 := Lib.hid hc1
  clear hc1
  go_wp2_with fail
  go_at_call 18
  refine HC1.out.mono ?_
  rintro e w2 ⟨rfl, hb2⟩
  have HB2 := Lib.hid (HB1.out.trans (hb2.mono HB1.out.size))
  clear hb2
  go_wp2_with fail
  go_at_call 25
  refine (HI.out _ _).mono ?_
  rintro e w3 ⟨rfl, hb3⟩
  have HB3 := Lib.hid (HB2.out.trans (hb3.mono HB2.out.size))
  clear hb3
  have HC2 := Lib.hid (shown_2 w3 (HE.out.1.below HB3.out) (Nat.le_trans HE.out.2 HB3.out.size))
  go_wp2_with fail
  go_at_call 16
  refine HC2.out.mono ?_
  rintro e w4 ⟨rfl, hb4⟩
  have HB4 := Lib.hid (HB3.out.trans (hb4.mono HB3.out.size))
  clear hb4
  have HC3 := Lib.hid (shown_3 w4 (HE.out.1.below HB4.out) (Nat.le_trans HE.out.2 HB4.out.size))
  go_wp2_with fail
  go_at_call 18
  refine HC3.out.mono ?_
  rintro e w5 ⟨rfl, hb5⟩
  have HB5 := Lib.hid (HB4.out.trans (hb5.mono HB4.out.size))
  clear hb5
  go_wp2
  go_ret
  exact ⟨by first | rfl | simp, HB5.out⟩
end Go.Proofs.YtiejpenffpjmeaaDoor
