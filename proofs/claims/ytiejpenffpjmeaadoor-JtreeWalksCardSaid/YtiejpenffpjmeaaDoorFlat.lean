/- gumshoeref03.Flat. -/
import Derived.Test.YtiejpenffpjmeaaDoorLevels
import Derived.Test.YtiejpenffpjmeaaDoorList
import Derived.Test.YtiejpenffpjmeaaDoorHead
import Derived.Test.YtiejpenffpjmeaaDoorLawSames
import Derived.Deep.DeepMust
namespace Go.Proofs.YtiejpenffpjmeaaDoor
set_option linter.unusedSimpArgs false
set_option linter.unusedVariables false
open Go.RowKit Go.Proofs

theorem five_one {W : World} {n : Nat} {p : Tr × Value} (h : At W n p.1 (nodeV p.1 p.2)) : ∀ u ∈ five p, u.oneCell' = true := by
  obtain ⟨u, e, ⟨A, c, hv, _⟩, _⟩ := (At_iff _ _ _ _).1 h
  unfold nodeV at e
  simp only [Value.agg.injEq, Array.mk.injEq, List.cons.injEq, and_true, true_and] at e
  rw [← e] at hv
  unfold five
  rw [hv]
  intro u hu
  simp only [List.mem_cons, List.not_mem_nil, or_false] at hu
  rcases hu with rfl | rfl | rfl | rfl | rfl <;> rfl
theorem ownsRow_low {W : World} {b b' : Nat} {e : TypeId} {s n : Nat} {v : Value} {xs : List Value} (h : W.ownsRow b e s v n xs) (hb : b' ≤ b) : W.ownsRow b' e s v n xs := by
  refine ⟨h.1, ?_⟩
  rcases h.2 with h | ⟨g, cap, cur, rfl, h1, h2⟩
  · exact .inl h
  · exact .inr ⟨g, cap, cur, rfl, by omega, h2⟩
/-- A row of one's own that is not empty. -/
theorem own_cells {W : World} {b : Nat} {e : TypeId} {s n : Nat} {v : Value} {xs : List Value} (h : W.ownsRow b e s v n xs) (hn : 0 < n) :
    ∃ g cap, v = .slice (some ⟨g, 0, none⟩) n cap ∧ b ≤ g ∧ ∀ j u, xs[j]? = some u → W.cell? ((⟨g, 0, none⟩ : Addr).add j) = some u := by
  rcases h.2 with ⟨-, h0⟩ | ⟨g, cap, cur, rfl, h1, h2, h3, h4, h5, h6⟩
  · omega
  · refine ⟨g, cap, rfl, h1, fun j u hu => ?_⟩
    have ha : (⟨g, 0, none⟩ : Addr).add j = ⟨g, j, none⟩ := by cases j <;> simp [Addr.add]
    rw [ha, cell_of_row _ _ _ _ _ _ h2]
    rw [← h6, List.getElem?_take] at hu
    split at hu
    · rw [← hu, Array.getElem?_toList]
    · cases hu

/-- What Flat hands back: the parts, one by one, as they lie in the world that they came in with. -/
def Flattens (W0 : World) (n0 : Nat) (t : Tr) (w : World) (e : Ending) (w' : World) : Prop :=
  ∃ (v : Value) (ps : List (Tr × Value)), e = .returned v ∧ ps.map (·.1) = t.flat ∧ (∀ p ∈ ps, At W0 n0 p.1 (nodeV p.1 p.2)) ∧ w'.ownsRow w.heap.size 24 5 v ps.length (ps.flatMap five) ∧ Below w.heap.size w w'

theorem flats_next {l : List Tr} {k : Nat} {y : Tr} (h : l[k]? = some y) : flats (l.take (k + 1)) = flats (l.take k) ++ y.flat := by
  have key : ∀ (a b : List Tr), flats (a ++ b) = flats a ++ flats b := by
    intro a
    induction a with
    | nil => intro b; rw [flats_nil]; rfl
    | cons x r ih => intro b; rw [List.cons_append, flats_cons, flats_cons, ih, List.append_assoc]
  rw [List.take_add_one, h, key, Option.toList_some, flats_cons, flats_nil, List.append_nil]
theorem flats_take_len (l : List Tr) (k : Nat) : (flats (l.take k)).length ≤ sizes l := by
  have key : ∀ (a b : List Tr), sizes (a ++ b) = sizes a + sizes b := sizes_app
  rw [flats_len]
  have := key (l.take k) (l.drop k)
  rw [List.take_append_drop] at this
  omega

set_option maxRecDepth 100000 in
set_option maxHeartbeats 4000000 in
theorem flat_any (W0 : World) (n0 : Nat) (t : Tr) : ∀ (v : Value) (w : World), At W0 n0 t v → Below n0 W0 w → n0 ≤ w.heap.size → t.size ≤ 1000000 → Calls Tryd.prog 22 #[v] w (Flattens W0 n0 t w) := by
  induction t using tree_ind with
  | h t ih =>
  intro v w hA hW hn0 hsz
  obtain ⟨ua, rfl, hrow, -⟩ := (At_iff _ _ _ _).1 hA
  obtain ⟨A, c, rfl, hlc, hcm⟩ := row_at hrow
  have hform : ∀ k y, t.l[k]? = some y → ∃ g off, A = some ⟨g, off, none⟩ ∧ ∀ w', Below n0 W0 w' → ∃ Av cv, At W0 n0 y (nodeV y (.slice Av y.l.length cv)) ∧ w'.cell? ⟨g, off + k * 5, none⟩ = some (.int .i64 y.op) ∧ w'.cell? ⟨g, off + k * 5 + 1, none⟩ = some (.string (bs y.s)) ∧ w'.cell? ⟨g, off + k * 5 + 2, none⟩ = some (.int .i64 y.n) ∧
      w'.cell? ⟨g, off + k * 5 + 3, none⟩ = some (.slice Av y.l.length cv) ∧ w'.cell? ⟨g, off + k * 5 + 4, none⟩ = some (.int .i64 y.line) := fun k y hy => by
    obtain ⟨hk, -⟩ := List.getElem?_eq_some_iff.1 hy
    obtain ⟨A', c', e, -, h2⟩ := hrow
    cases e
    obtain ⟨g, off, rfl, hg, ha⟩ := h2 (by omega)
    refine ⟨g, off, rfl, fun w' hb => ?_⟩
    obtain ⟨Av, cv, hAv, -⟩ := elem_at ha hg (Below.refl n0 W0) hy
    obtain ⟨Av', cv', -, x0, x1, x2, x3, x4⟩ := elem_at ha hg (Below.refl n0 W0) hy
    obtain ⟨vv, hvv, c0, c1, c2, c3, c4⟩ := AtL.get t.l k y ha hy
    obtain ⟨uu, e2, ⟨A2, cp2, e3, -⟩, -⟩ := (At_iff _ _ _ _).1 hvv
    unfold nodeV at e2
    simp only [Value.agg.injEq, Array.mk.injEq, List.cons.injEq, and_true, true_and] at e2
    subst e2
    subst e3
    exact ⟨A2, cp2, hvv, (hb.cell hg).trans c0, (hb.cell hg).trans c1, (hb.cell hg).trans c2, (hb.cell hg).trans c3, (hb.cell hg).trans c4⟩
  obtain ⟨W1, eW⟩ : ∃ W, w.alloc (.cells #[.int .i64 t.op, .string (bs t.s), .int .i64 t.n, .slice A t.l.length c, .int .i64 t.line] 24) = W := ⟨_, rfl⟩
  have hb0 : Below w.heap.size w W1 := by rw [← eW]; exact (Below.refl _ w).alloc (Nat.le_refl _) _
  have hz0 : W1.heap.size = w.heap.size + 1 := by rw [← eW]; simp
  have hx : W1.heap[w.heap.size]? = some (.cells #[.int .i64 t.op, .string (bs t.s), .int .i64 t.n, .slice A t.l.length c, .int .i64 t.line] 24 (0, 0)) := by rw [← eW]; exact heap_alloc_new w _
  have hbx := fun (w' : World) (hb : Below W1.heap.size W1 w') => box_in hb hx
  have hlow := fun (w' : World) (hb : Below W1.heap.size W1 w') => (hW.trans (hb0.mono hn0)).trans (hb.mono (show n0 ≤ W1.heap.size by omega))
  unfold nodeV at hA ⊢
  unfold BoxAt at hbx
  obtain ⟨i0, hi, hi1, hi2, hi3⟩ := info_parts info24
  have HI := Lib.hid (And.intro hi (And.intro hi1 (And.intro hi2 hi3)))
  have HW := Lib.hid (And.intro eW (And.intro hb0 (And.intro hz0 hn0)))
  have HBx := Lib.hid hbx
  have HLow := Lib.hid hlow
  have HF := Lib.hid hform
  have HLc := Lib.hid hlc
  have HA := Lib.hid (And.intro hA hsz)
  have HIH := Lib.hid ih
  clear ih
  have hsl : t.l.length ≤ 1000000 := by
    have := length_le_sizes t.l
    have := size_eq t
    omega
  obtain ⟨f0, f1, f2, f3, f4⟩ := HBx.out W1 (Below.refl _ _)
  have hstart : (W1.alloc (.cells #[.int .i64 t.op, .string (bs t.s), .int .i64 t.n, .slice A t.l.length c, .int .i64 t.line] 24)).ownsRow W1.heap.size 24 5 (.slice (some ⟨W1.heap.size, 0, none⟩) 1 1) 1 (five (t, .slice A t.l.length c)) :=
    ⟨rfl, .inr ⟨W1.heap.size, 1, _, rfl, Nat.le_refl _, heap_alloc_new W1 _, Nat.le_refl _, by unfold maxLen; decide, rfl, rfl⟩⟩
  have HSt := Lib.hid (And.intro hstart ((Below.refl _ W1).alloc (Nat.le_refl _) (.cells #[.int .i64 t.op, .string (bs t.s), .int .i64 t.n, .slice A t.l.length c, .int .i64 t.line] 24)))
  clear hi hi1 hi2 hi3 hA hrow hlc hcm hform hb0 hx hbx hlow hW hn0 hsz hstart
  go_enter Tryd.func22, Tryd.ntmps22
  go_wp2
  go_loopw [3, 4] (fun v i wr => ∃ (k : Nat) (ps : List (Tr × Value)), k ≤ t.l.length ∧ i = .int .i64 k ∧ RowKit.Hid (ps.map (·.1) = t :: flats (t.l.take k) ∧ (∀ p ∈ ps, At W0 n0 p.1 (nodeV p.1 p.2)) ∧ wr.ownsRow W1.heap.size 24 5 v ps.length (ps.flatMap five) ∧ Below W1.heap.size W1 wr)) (fun _ i _ => t.l.length - (intOf i).toNat)
  case atStart =>
    refine ⟨0, [(t, .slice A t.l.length c)], Nat.zero_le _, rfl, Lib.hid ⟨?_, fun p hp => ?_, ?_, ?_⟩⟩
    · simp [flats_nil]
    · rw [List.mem_singleton.1 hp]; exact HA.out.1
    · rw [← HW.out.2.2.1]
      exact HSt.out.1
    · exact HSt.out.2
  case round =>
    obtain ⟨k, ps, hk, rfl, HR⟩ := hrel
    clear f0 f1 f2 f3 f4
    obtain ⟨f0, f1, f2, f3, f4⟩ := HBx.out wr HR.out.2.2.2
    have hlen : ps.length = 1 + (flats (t.l.take k)).length := by
      have := congrArg List.length HR.out.1
      simp only [List.length_map, List.length_cons] at this
      omega
    by_cases hlt : k < t.l.length
    · obtain ⟨y, hy⟩ : ∃ y, t.l[k]? = some y := ⟨_, List.getElem?_eq_getElem hlt⟩
      have hym := List.mem_of_getElem? hy
      obtain ⟨g, off, hAg, hcell⟩ := HF.out k y hy
      obtain ⟨Av, cv, hyA, x0, x1, x2, x3, x4⟩ := hcell wr (HLow.out wr HR.out.2.2.2)
      have hys := size_part hym
      have hc := HIH.out y hys _ wr hyA (HLow.out wr HR.out.2.2.2) (by have := HR.out.2.2.2.size; have := HW.out.2.2; omega) (by have := HA.out.2; omega)
      unfold nodeV at hc
      subst hAg
      have hkc : k < c := by have := HLc.out; omega
      have hk15 : k ≤ 1000000 := by omega
      have hps : ps.length ≤ 1000000 := by
        have := flats_take_len t.l k
        have := size_eq t
        have := HA.out.2
        omega
      have hnext : t :: flats (t.l.take (k + 1)) = (t :: flats (t.l.take k)) ++ y.flat := by rw [flats_next hy]; rfl
      have hysz : y.size ≤ 1000000 := by have := HA.out.2; omega
      have HN := Lib.hid (And.intro hnext hysz)
      have HC := Lib.hid hc
      clear hc hnext hym hys hyA hcell hysz hlen hy
      go_wp2_with fail
      go_at_call 22
      refine HC.out.mono ?_
      rintro e w5 ⟨v5, ps5, rfl, h51, h52, h53, h54⟩
      have hl5 : ps5.length = y.size := by
        have := congrArg List.length h51
        rw [flat_len, List.length_map] at this
        exact this
      have hpos : 0 < ps5.length := by have := size_pos y; omega
      obtain ⟨g5, c5, rfl, hg5, hc5⟩ := own_cells h53 hpos
      have hown5 := ownsRow_below HR.out.2.2.1 h54
      have hsz5 : ps5.length ≤ 1000000 := by have := HN.out.2; omega
      have H5 := Lib.hid (And.intro h51 (And.intro h52 (And.intro (HR.out.2.2.2.trans (h54.mono HR.out.2.2.2.size)) (And.intro hown5 (And.intro hc5 (And.intro hps hsz5))))))
      clear h51 h52 h53 h54 hl5 hpos hg5 hc5 hown5 hps hsz5
      go_wp2_with (at_builtin; refine wpList_append_own _ rfl _ _ 22 rfl W1.heap.size 24 i0 (.agg #[.int .i64 0, .string ⟨#[]⟩, .int .i64 0, .slice none 0 0, .int .i64 0]) 5 64 Tryd.underlying22 HI.out.1 HI.out.2.1 HI.out.2.2.1 HI.out.2.2.2 rfl (by decide) _ _ _ rfl H5.out.2.2.2.1 ⟨g5, 0, none⟩ ps5.length c5 (ps5.flatMap five) rfl (fives_len ps5) H5.out.2.2.2.2.1 (fun u hu => by obtain ⟨p, hp, hu⟩ := List.mem_flatMap.1 hu; exact five_one (H5.out.2.1 p hp) u hu) (by have := H5.out.2.2.2.2.2; unfold maxLen; omega) (by have := H5.out.2.2.2.2.2; omega) (H5.out.2.2.1.size) ?_; intro v' w' hown hg _; have HG := Lib.hid (And.intro hown hg); clear hown hg)
      go_roundw
      case rel =>
        refine ⟨k + 1, ps ++ ps5, by omega, by simp, Lib.hid ⟨?_, fun p hp => ?_, ?_, ?_⟩⟩
        · rw [List.map_append, HR.out.1, H5.out.1, HN.out.1]
        · rcases List.mem_append.1 hp with hp | hp
          · exact HR.out.2.1 p hp
          · exact H5.out.2.1 p hp
        · rw [List.length_append, List.flatMap_append]
          exact HG.out.1
        · exact H5.out.2.2.1.grown HG.out.2 H5.out.2.2.1.size (own_row_ge H5.out.2.2.2.1)
      case measure => simp [intOf]; omega
    · obtain rfl : k = t.l.length := by omega
      clear hlen
      go_wp2
      go_ret
      refine ⟨_, ps, rfl, ?_, HR.out.2.1, ownsRow_low HR.out.2.2.1 (by have := HW.out.2.2; omega), HW.out.2.1.trans (HR.out.2.2.2.mono (by have := HW.out.2.2; omega))⟩
      rw [HR.out.1, List.take_length, flat_eq]
end Go.Proofs.YtiejpenffpjmeaaDoor
