/- jlex.words: the map of words; jlex.IsWord. -/
import Derived.Test.YtiejpenffpjmeaaDoorRun
import Derived.Maps.Own
import Derived.Maps.OwnSet
import Derived.Maps.OwnIn
namespace Go.Proofs.YtiejpenffpjmeaaDoor
open Go.RowKit Go.Proofs Go.Maps

theorem strKey : Keyed Tryd.prog 9 := string_keyed Tryd.underlying9
theorem zero74 (w : World) : (zeroValue 74).run Tryd.prog w = .ok (.agg #[]) w := by kernel_rfl

/-- Block b is a map that has just these words. -/
def WM (w : World) (b : Nat) (acc : List Bs) : Prop :=
  w.ownsMap (H := Unit) Tryd.prog 9 unitElem b acc.length (setOf (.agg []) (acc.map Lit.string))

theorem WM.kept {w w' : World} {b : Nat} {acc : List Bs} {row : Option Nat} (h : WM w b acc) (hg : w.grownBy w' row) (hne : some b ≠ row) : WM w' b acc := World.ownsMap.kept h hg hne
theorem WM.below {w w' : World} {B b : Nat} {acc : List Bs} (h : WM w b acc) (hb : b < B) (hg : Below B w w') : WM w' b acc := by
  obtain ⟨es, clock, h1, h2⟩ := h
  exact ⟨es, clock, (hg.block b hb).trans h1, h2⟩
theorem WM.lt {w : World} {b : Nat} {acc : List Bs} (h : WM w b acc) : b < w.heap.size := World.ownsMap.lt h

/-- One word more. -/
theorem WM.put {w0 w : World} {B b : Nat} {acc : List Bs} (h : WM w b acc ∧ Below B w0 w) (hn : decide (acc.length < 100) = true) (hBb : B ≤ b) (s : ByteArray) (hs : decide (s.size ≤ 100) = true) :
    ∃ w', (Instr.mapUpdate 76 (.map (some b)) (.string s) (.agg #[])).run Tryd.prog w = .ok () w' ∧ (WM w' b (acc ++ [s.data.toList]) ∧ Below B w0 w') := by
  have hn := of_decide_eq_true hn
  have hs := of_decide_eq_true hs
  obtain ⟨w', hrun, r1, r2⟩ := World.ownsMap.update h.1 strKey Tryd.underlying76 (by unfold maxLen; omega) (WideMaps.keyOf_string_mk Tryd.underlying9 (s := s) (by unfold maxLen; omega)) unitElem_mk
  refine ⟨w', hrun, ?_, h.2.trans ?_⟩
  · unfold WM
    rw [List.map_append, List.length_append, List.map_singleton, setOf_snoc]
    exact r1
  · exact ⟨r2.os, r2.tape, r2.output, r2.size, fun i hi => r2.block i (by have := World.ownsMap.lt h.1; omega) (fun e => by cases e; omega)⟩

set_option maxRecDepth 100000 in
set_option maxHeartbeats 4000000 in
theorem words_any (w : World) : Calls Tryd.prog 82 #[] w fun e w' => ∃ b, e = .returned (.map (some b)) ∧ WM w' b wordsL ∧ w.heap.size ≤ b ∧ Below w.heap.size w w' := by
  have hmm := @run_makeMap Tryd.prog
  have H0 : WM (w.alloc (.map #[] 0)) w.heap.size [] ∧ Below w.heap.size w (w.alloc (.map #[] 0)) := ⟨World.ownsMap_made w _ _ _, (Below.refl _ w).alloc (Nat.le_refl _) _⟩
  obtain ⟨w1, e1, H1⟩ := WM.put H0 rfl (Nat.le_refl _) ⟨#[98, 114, 101, 97, 107]⟩ rfl
  clear H0
  obtain ⟨w2, e2, H2⟩ := WM.put H1 rfl (Nat.le_refl _) ⟨#[99, 97, 115, 101]⟩ rfl
  clear H1
  obtain ⟨w3, e3, H3⟩ := WM.put H2 rfl (Nat.le_refl _) ⟨#[99, 97, 116, 99, 104]⟩ rfl
  clear H2
  obtain ⟨w4, e4, H4⟩ := WM.put H3 rfl (Nat.le_refl _) ⟨#[99, 111, 110, 116, 105, 110, 117, 101]⟩ rfl
  clear H3
  obtain ⟨w5, e5, H5⟩ := WM.put H4 rfl (Nat.le_refl _) ⟨#[100, 101, 98, 117, 103, 103, 101, 114]⟩ rfl
  clear H4
  obtain ⟨w6, e6, H6⟩ := WM.put H5 rfl (Nat.le_refl _) ⟨#[100, 101, 102, 97, 117, 108, 116]⟩ rfl
  clear H5
  obtain ⟨w7, e7, H7⟩ := WM.put H6 rfl (Nat.le_refl _) ⟨#[100, 101, 108, 101, 116, 101]⟩ rfl
  clear H6
  obtain ⟨w8, e8, H8⟩ := WM.put H7 rfl (Nat.le_refl _) ⟨#[100, 111]⟩ rfl
  clear H7
  obtain ⟨w9, e9, H9⟩ := WM.put H8 rfl (Nat.le_refl _) ⟨#[101, 108, 115, 101]⟩ rfl
  clear H8
  obtain ⟨w10, e10, H10⟩ := WM.put H9 rfl (Nat.le_refl _) ⟨#[102, 105, 110, 97, 108, 108, 121]⟩ rfl
  clear H9
  obtain ⟨w11, e11, H11⟩ := WM.put H10 rfl (Nat.le_refl _) ⟨#[102, 111, 114]⟩ rfl
  clear H10
  obtain ⟨w12, e12, H12⟩ := WM.put H11 rfl (Nat.le_refl _) ⟨#[102, 117, 110, 99, 116, 105, 111, 110]⟩ rfl
  clear H11
  obtain ⟨w13, e13, H13⟩ := WM.put H12 rfl (Nat.le_refl _) ⟨#[105, 102]⟩ rfl
  clear H12
  obtain ⟨w14, e14, H14⟩ := WM.put H13 rfl (Nat.le_refl _) ⟨#[105, 110]⟩ rfl
  clear H13
  obtain ⟨w15, e15, H15⟩ := WM.put H14 rfl (Nat.le_refl _) ⟨#[105, 110, 115, 116, 97, 110, 99, 101, 111, 102]⟩ rfl
  clear H14
  obtain ⟨w16, e16, H16⟩ := WM.put H15 rfl (Nat.le_refl _) ⟨#[110, 101, 119]⟩ rfl
  clear H15
  obtain ⟨w17, e17, H17⟩ := WM.put H16 rfl (Nat.le_refl _) ⟨#[114, 101, 116, 117, 114, 110]⟩ rfl
  clear H16
  obtain ⟨w18, e18, H18⟩ := WM.put H17 rfl (Nat.le_refl _) ⟨#[115, 119, 105, 116, 99, 104]⟩ rfl
  clear H17
  obtain ⟨w19, e19, H19⟩ := WM.put H18 rfl (Nat.le_refl _) ⟨#[116, 104, 105, 115]⟩ rfl
  clear H18
  obtain ⟨w20, e20, H20⟩ := WM.put H19 rfl (Nat.le_refl _) ⟨#[116, 104, 114, 111, 119]⟩ rfl
  clear H19
  obtain ⟨w21, e21, H21⟩ := WM.put H20 rfl (Nat.le_refl _) ⟨#[116, 114, 121]⟩ rfl
  clear H20
  obtain ⟨w22, e22, H22⟩ := WM.put H21 rfl (Nat.le_refl _) ⟨#[116, 121, 112, 101, 111, 102]⟩ rfl
  clear H21
  obtain ⟨w23, e23, H23⟩ := WM.put H22 rfl (Nat.le_refl _) ⟨#[118, 97, 114]⟩ rfl
  clear H22
  obtain ⟨w24, e24, H24⟩ := WM.put H23 rfl (Nat.le_refl _) ⟨#[118, 111, 105, 100]⟩ rfl
  clear H23
  obtain ⟨w25, e25, H25⟩ := WM.put H24 rfl (Nat.le_refl _) ⟨#[119, 104, 105, 108, 101]⟩ rfl
  clear H24
  obtain ⟨w26, e26, H26⟩ := WM.put H25 rfl (Nat.le_refl _) ⟨#[119, 105, 116, 104]⟩ rfl
  clear H25
  obtain ⟨w27, e27, H27⟩ := WM.put H26 rfl (Nat.le_refl _) ⟨#[110, 117, 108, 108]⟩ rfl
  clear H26
  obtain ⟨w28, e28, H28⟩ := WM.put H27 rfl (Nat.le_refl _) ⟨#[116, 114, 117, 101]⟩ rfl
  clear H27
  obtain ⟨w29, e29, H29⟩ := WM.put H28 rfl (Nat.le_refl _) ⟨#[102, 97, 108, 115, 101]⟩ rfl
  clear H28
  obtain ⟨w30, e30, H30⟩ := WM.put H29 rfl (Nat.le_refl _) ⟨#[117, 110, 100, 101, 102, 105, 110, 101, 100]⟩ rfl
  clear H29
  obtain ⟨w31, e31, H31⟩ := WM.put H30 rfl (Nat.le_refl _) ⟨#[105, 110, 112, 117, 116]⟩ rfl
  clear H30
  have H := Lib.hid H31
  clear H31
  go_enter Tryd.func82, Tryd.ntmps82
  go_wp2
  go_ret
  exact ⟨_, rfl, H.out.1, Nat.le_refl _, H.out.2⟩

theorem words_has (l : Bs) : Maps.has (setOf (H := Unit) (.agg []) (wordsL.map Lit.string)) (.string l) = isWordL l := by
  rw [has_setOf _ _ _ (fun x hx => by
    obtain ⟨y, _, rfl⟩ := List.mem_map.1 hx
    exact strKey.key (WideMaps.keyOf_string_mk (s := ⟨#[]⟩) Tryd.underlying9 (by unfold maxLen; decide)) |> fun _ => trivial)]
  unfold isWordL
  rw [List.any_map]
  rw [Bool.eq_iff_iff]
  simp [Lit.sameKey]

/-- Is a text a word: the map is asked. -/
theorem WM.look {w : World} {b : Nat} (h : WM w b wordsL) (s : ByteArray) (hs : s.size ≤ maxLen) :
    (Instr.lookup 76 (.map (some b)) (.string s) true).run Tryd.prog w = .ok (.tuple #[.agg #[], .bool (isWordL s.data.toList)]) w := by
  obtain ⟨v, ps, hrun, hv⟩ := World.ownsMap.look_ok h strKey Tryd.underlying76 (zero74 w) (zd := .agg []) (zp := []) unitElem_mk (WideMaps.keyOf_string_mk Tryd.underlying9 hs)
  obtain ⟨rfl, _⟩ := unitElem_inv hv
  rw [words_has] at hrun
  exact hrun

set_option maxHeartbeats 1000000 in
theorem isWord_any (s : ByteArray) (w : World) (hs : s.size ≤ maxLen) : Calls Tryd.prog 76 #[.string s] w fun e w' => e = .returned (.bool (isWordL s.data.toList)) ∧ Below w.heap.size w w' := by
  go_enter Tryd.func76, Tryd.ntmps76
  go_wp2_with (go_at_call 82; refine (words_any _).mono ?_; rintro e w' ⟨b, rfl, hW, hb, hB⟩; have hL := hW.look s hs)
  go_ret
  exact ⟨rfl, hB.alloc hB.size _⟩
end Go.Proofs.YtiejpenffpjmeaaDoor
