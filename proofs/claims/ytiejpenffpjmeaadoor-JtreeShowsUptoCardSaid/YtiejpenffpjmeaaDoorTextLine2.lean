/- gumshoeref03.text. gumshoeref03.text: objects. gumshoeref03.line. gumshoeref03.line. -/
import Derived.Test.YtiejpenffpjmeaaDoorTextCall
import Derived.Test.YtiejpenffpjmeaaDoorTextFun
import Derived.Test.YtiejpenffpjmeaaDoorRefObj
namespace Go.Proofs.YtiejpenffpjmeaaDoor
set_option linter.unusedSimpArgs false
set_option linter.unusedVariables false
open Go.RowKit Go.Proofs

theorem strsL_app : ∀ (a b : List Tr), strsL (a ++ b) = strsL a + strsL b
  | [], b => by simp [strsL_nil]
  | t :: r, b => by rw [List.cons_append, strsL_cons, strsL_cons, strsL_app r b]; omega
def TextOK (op : Int) : Prop := ∀ (k : Nat) (t : Tr) (A : Option Addr) (c : Nat) (w : World), t.op = op → Bnd k t → soundOne t = true → At w w.heap.size t (nodeV t (.slice A t.l.length c)) → (∀ y ∈ t.l, isE y → TxtE k y) → (∀ y ∈ t.l, y.op = 32 → ∀ z ∈ y.l, TxtS (k + 1) z) →
  Calls Tryd.prog 34 #[nodeV t (.slice A t.l.length c), .string (bs (indentB k))] w (Gives (t.txt k) w)

set_option maxRecDepth 100000 in
set_option maxHeartbeats 4000000 in
theorem ttx_1 : TextOK 1 := by
  intro k t A c w e hB hg hA hE hS
  obtain ⟨-, -, -⟩ := (inv_1 e).1 hg
  obtain ⟨W1, hr⟩ : ∃ W, TIn k t A c w W := ⟨_, t_in k t A c w hA⟩
  have hbx := box_in (Below.refl _ _) hr.box
  have HX := Lib.hid (fun w' (hb : Below W1.heap.size W1 w') => box_in hb hr.box)
  have HR := Lib.hid hr
  have hW := hr.world
  have hsz := hB.str
  have HOp := Lib.hid e
  have HT := Lib.hid (show bs (t.txt k) = bs t.s by rw [txt_form k t (by rw [e]; decide), e]; rfl)
  unfold BoxAt at hbx
  rw [e] at hbx
  rw [e] at hW
  obtain ⟨f0, f1, f2, f3, f4⟩ := hbx
  unfold nodeV
  rw [e]
  clear hA hE hS hg hr hB e
  go_enter Tryd.func34, Tryd.ntmps34
  go_wp2
  go_ret
  exact ⟨by rw [HT.out]; rfl, HR.out.low⟩

set_option maxRecDepth 100000 in
set_option maxHeartbeats 4000000 in
theorem ttx_2 : TextOK 2 := by
  intro k t A c w e hB hg hA hE hS
  obtain ⟨-, hn0, hn1, -⟩ := (inv_2 e).1 hg
  obtain ⟨W1, hr⟩ : ∃ W, TIn k t A c w W := ⟨_, t_in k t A c w hA⟩
  have hbx := box_in (Below.refl _ _) hr.box
  have HX := Lib.hid (fun w' (hb : Below W1.heap.size W1 w') => box_in hb hr.box)
  have HR := Lib.hid hr
  have hW := hr.world
  have hsz := hB.str
  have HOp := Lib.hid e
  obtain ⟨m, hm⟩ : ∃ m : Nat, t.n = m := ⟨t.n.toNat, by omega⟩
  have HT := Lib.hid (show bs (t.txt k) = bs (Lib.decDigits m) by rw [txt_form k t (by rw [e]; decide), e, hm]; rfl)
  have HC := Lib.hid (num_any m (by omega) W1)
  unfold BoxAt at hbx
  rw [e] at hbx
  rw [e] at hW
  obtain ⟨f0, f1, f2, f3, f4⟩ := hbx
  unfold nodeV
  rw [e]
  rw [hm] at f2 hW ⊢
  clear hA hE hS hg hr hB e hm hn0 hn1
  go_enter Tryd.func34, Tryd.ntmps34
  go_wp2_with (go_at_call 56; refine HC.out.mono ?_; rintro e w1 ⟨rfl, hb⟩; have HB1 := Lib.hid hb; clear hb)
  go_ret
  exact ⟨by rw [HT.out]; rfl, HR.out.low.trans (HB1.out.mono HR.out.low.size)⟩

set_option maxRecDepth 100000 in
set_option maxHeartbeats 4000000 in
theorem ttx_3 : TextOK 3 := by
  intro k t A c w e hB hg hA hE hS
  obtain ⟨-, -⟩ := (inv_3 e).1 hg
  obtain ⟨W1, hr⟩ : ∃ W, TIn k t A c w W := ⟨_, t_in k t A c w hA⟩
  have hbx := box_in (Below.refl _ _) hr.box
  have HX := Lib.hid (fun w' (hb : Below W1.heap.size W1 w') => box_in hb hr.box)
  have HR := Lib.hid hr
  have hW := hr.world
  have hsz := hB.str
  have HOp := Lib.hid e
  have HT := Lib.hid (show bs (t.txt k) = bs (quoteL t.s) by rw [txt_form k t (by rw [e]; decide), e]; rfl)
  have hq := rquote_any (bs t.s) W1 (by omega)
  rw [bs_list] at hq
  have HC := Lib.hid hq
  unfold BoxAt at hbx
  rw [e] at hbx
  rw [e] at hW
  obtain ⟨f0, f1, f2, f3, f4⟩ := hbx
  unfold nodeV
  rw [e]
  clear hA hE hS hg hr hB e hq
  go_enter Tryd.func34, Tryd.ntmps34
  go_wp2_with (go_at_call 57; refine HC.out.mono ?_; rintro e w1 ⟨rfl, hb⟩; have HB1 := Lib.hid hb; clear hb)
  go_ret
  exact ⟨by rw [HT.out]; rfl, HR.out.low.trans (HB1.out.mono HR.out.low.size)⟩

set_option maxRecDepth 100000 in
set_option maxHeartbeats 4000000 in
theorem ttx_4 : TextOK 4 := by
  intro k t A c w e hB hg hA hE hS
  obtain ⟨-, -, -⟩ := (inv_4 e).1 hg
  obtain ⟨W1, hr⟩ : ∃ W, TIn k t A c w W := ⟨_, t_in k t A c w hA⟩
  have hbx := box_in (Below.refl _ _) hr.box
  have HX := Lib.hid (fun w' (hb : Below W1.heap.size W1 w') => box_in hb hr.box)
  have HR := Lib.hid hr
  have hW := hr.world
  have hsz := hB.str
  have HOp := Lib.hid e
  have HT := Lib.hid (show bs (t.txt k) = bs [116, 114, 117, 101] by rw [txt_form k t (by rw [e]; decide), e]; rfl)
  unfold BoxAt at hbx
  rw [e] at hbx
  rw [e] at hW
  obtain ⟨f0, f1, f2, f3, f4⟩ := hbx
  unfold nodeV
  rw [e]
  clear hA hE hS hg hr hB e
  go_enter Tryd.func34, Tryd.ntmps34
  go_wp2
  go_ret
  exact ⟨by rw [HT.out]; rfl, HR.out.low⟩

set_option maxRecDepth 100000 in
set_option maxHeartbeats 4000000 in
theorem ttx_5 : TextOK 5 := by
  intro k t A c w e hB hg hA hE hS
  obtain ⟨-, -, -⟩ := (inv_5 e).1 hg
  obtain ⟨W1, hr⟩ : ∃ W, TIn k t A c w W := ⟨_, t_in k t A c w hA⟩
  have hbx := box_in (Below.refl _ _) hr.box
  have HX := Lib.hid (fun w' (hb : Below W1.heap.size W1 w') => box_in hb hr.box)
  have HR := Lib.hid hr
  have hW := hr.world
  have hsz := hB.str
  have HOp := Lib.hid e
  have HT := Lib.hid (show bs (t.txt k) = bs [102, 97, 108, 115, 101] by rw [txt_form k t (by rw [e]; decide), e]; rfl)
  unfold BoxAt at hbx
  rw [e] at hbx
  rw [e] at hW
  obtain ⟨f0, f1, f2, f3, f4⟩ := hbx
  unfold nodeV
  rw [e]
  clear hA hE hS hg hr hB e
  go_enter Tryd.func34, Tryd.ntmps34
  go_wp2
  go_ret
  exact ⟨by rw [HT.out]; rfl, HR.out.low⟩

set_option maxRecDepth 100000 in
set_option maxHeartbeats 4000000 in
theorem ttx_6 : TextOK 6 := by
  intro k t A c w e hB hg hA hE hS
  obtain ⟨-, -, -⟩ := (inv_6 e).1 hg
  obtain ⟨W1, hr⟩ : ∃ W, TIn k t A c w W := ⟨_, t_in k t A c w hA⟩
  have hbx := box_in (Below.refl _ _) hr.box
  have HX := Lib.hid (fun w' (hb : Below W1.heap.size W1 w') => box_in hb hr.box)
  have HR := Lib.hid hr
  have hW := hr.world
  have hsz := hB.str
  have HOp := Lib.hid e
  have HT := Lib.hid (show bs (t.txt k) = bs [110, 117, 108, 108] by rw [txt_form k t (by rw [e]; decide), e]; rfl)
  unfold BoxAt at hbx
  rw [e] at hbx
  rw [e] at hW
  obtain ⟨f0, f1, f2, f3, f4⟩ := hbx
  unfold nodeV
  rw [e]
  clear hA hE hS hg hr hB e
  go_enter Tryd.func34, Tryd.ntmps34
  go_wp2
  go_ret
  exact ⟨by rw [HT.out]; rfl, HR.out.low⟩

set_option maxRecDepth 100000 in
set_option maxHeartbeats 4000000 in
theorem ttx_7 : TextOK 7 := by
  intro k t A c w e hB hg hA hE hS
  obtain ⟨-, -, -⟩ := (inv_7 e).1 hg
  obtain ⟨W1, hr⟩ : ∃ W, TIn k t A c w W := ⟨_, t_in k t A c w hA⟩
  have hbx := box_in (Below.refl _ _) hr.box
  have HX := Lib.hid (fun w' (hb : Below W1.heap.size W1 w') => box_in hb hr.box)
  have HR := Lib.hid hr
  have hW := hr.world
  have hsz := hB.str
  have HOp := Lib.hid e
  have HT := Lib.hid (show bs (t.txt k) = bs [117, 110, 100, 101, 102, 105, 110, 101, 100] by rw [txt_form k t (by rw [e]; decide), e]; rfl)
  unfold BoxAt at hbx
  rw [e] at hbx
  rw [e] at hW
  obtain ⟨f0, f1, f2, f3, f4⟩ := hbx
  unfold nodeV
  rw [e]
  clear hA hE hS hg hr hB e
  go_enter Tryd.func34, Tryd.ntmps34
  go_wp2
  go_ret
  exact ⟨by rw [HT.out]; rfl, HR.out.low⟩

set_option maxRecDepth 100000 in
set_option maxHeartbeats 4000000 in
theorem ttx_8 : TextOK 8 := by
  intro k t A c w e hB hg hA hE hS
  obtain ⟨-, -, -⟩ := (inv_8 e).1 hg
  obtain ⟨W1, hr⟩ : ∃ W, TIn k t A c w W := ⟨_, t_in k t A c w hA⟩
  have hbx := box_in (Below.refl _ _) hr.box
  have HX := Lib.hid (fun w' (hb : Below W1.heap.size W1 w') => box_in hb hr.box)
  have HR := Lib.hid hr
  have hW := hr.world
  have hsz := hB.str
  have HOp := Lib.hid e
  have HT := Lib.hid (show bs (t.txt k) = bs [116, 104, 105, 115] by rw [txt_form k t (by rw [e]; decide), e]; rfl)
  unfold BoxAt at hbx
  rw [e] at hbx
  rw [e] at hW
  obtain ⟨f0, f1, f2, f3, f4⟩ := hbx
  unfold nodeV
  rw [e]
  clear hA hE hS hg hr hB e
  go_enter Tryd.func34, Tryd.ntmps34
  go_wp2
  go_ret
  exact ⟨by rw [HT.out]; rfl, HR.out.low⟩

set_option maxRecDepth 100000 in
set_option maxHeartbeats 4000000 in
theorem ttx_9 : TextOK 9 := by
  intro k t A c w e hB hg hA hE hS
  obtain ⟨-, -, -⟩ := (inv_9 e).1 hg
  obtain ⟨W1, hr⟩ : ∃ W, TIn k t A c w W := ⟨_, t_in k t A c w hA⟩
  have hbx := box_in (Below.refl _ _) hr.box
  have HX := Lib.hid (fun w' (hb : Below W1.heap.size W1 w') => box_in hb hr.box)
  have HR := Lib.hid hr
  have hW := hr.world
  have hsz := hB.str
  have HOp := Lib.hid e
  have HT := Lib.hid (show bs (t.txt k) = bs [105, 110, 112, 117, 116] by rw [txt_form k t (by rw [e]; decide), e]; rfl)
  unfold BoxAt at hbx
  rw [e] at hbx
  rw [e] at hW
  obtain ⟨f0, f1, f2, f3, f4⟩ := hbx
  unfold nodeV
  rw [e]
  clear hA hE hS hg hr hB e
  go_enter Tryd.func34, Tryd.ntmps34
  go_wp2
  go_ret
  exact ⟨by rw [HT.out]; rfl, HR.out.low⟩

set_option maxRecDepth 100000 in
set_option maxHeartbeats 4000000 in
theorem ttx_13 : TextOK 13 := by
  intro k t A c w e hB hg hA hE hS
  obtain ⟨W1, hr⟩ : ∃ W, TIn k t A c w W := ⟨_, t_in k t A c w hA⟩
  have hbx := box_in (Below.refl _ _) hr.box
  have HX := Lib.hid (fun w' (hb : Below W1.heap.size W1 w') => box_in hb hr.box)
  have HR := Lib.hid hr
  have hW := hr.world
  have hsz := hB.str
  have HOp := Lib.hid e
  have hc := tmo_13 k t A c W1 e hB hg (At.keep t hA hr.low.size fun p hp => hr.low.cell hp) hE
  unfold Gives nodeV at hc
  rw [e] at hc
  obtain ⟨T, hT⟩ : ∃ T, bs (t.txt k) = T := ⟨_, rfl⟩
  unfold Gives
  rw [hT] at hc ⊢
  have HC := Lib.hid hc
  unfold BoxAt at hbx
  rw [e] at hbx
  rw [e] at hW
  obtain ⟨f0, f1, f2, f3, f4⟩ := hbx
  unfold nodeV
  rw [e]
  clear hA hE hS hg hr hB e hc hT
  go_enter Tryd.func34, Tryd.ntmps34
  go_wp2_with (go_at_call 59; refine HC.out.mono ?_; rintro e w1 ⟨rfl, hb⟩; have HB1 := Lib.hid hb; clear hb)
  go_ret
  exact ⟨rfl, HR.out.low.trans (HB1.out.mono HR.out.low.size)⟩

set_option maxRecDepth 100000 in
set_option maxHeartbeats 4000000 in
theorem ttx_14 : TextOK 14 := by
  intro k t A c w e hB hg hA hE hS
  obtain ⟨W1, hr⟩ : ∃ W, TIn k t A c w W := ⟨_, t_in k t A c w hA⟩
  have hbx := box_in (Below.refl _ _) hr.box
  have HX := Lib.hid (fun w' (hb : Below W1.heap.size W1 w') => box_in hb hr.box)
  have HR := Lib.hid hr
  have hW := hr.world
  have hsz := hB.str
  have HOp := Lib.hid e
  have hc := tmo_14 k t A c W1 e hB hg (At.keep t hA hr.low.size fun p hp => hr.low.cell hp) hE
  unfold Gives nodeV at hc
  rw [e] at hc
  obtain ⟨T, hT⟩ : ∃ T, bs (t.txt k) = T := ⟨_, rfl⟩
  unfold Gives
  rw [hT] at hc ⊢
  have HC := Lib.hid hc
  unfold BoxAt at hbx
  rw [e] at hbx
  rw [e] at hW
  obtain ⟨f0, f1, f2, f3, f4⟩ := hbx
  unfold nodeV
  rw [e]
  clear hA hE hS hg hr hB e hc hT
  go_enter Tryd.func34, Tryd.ntmps34
  go_wp2_with (go_at_call 59; refine HC.out.mono ?_; rintro e w1 ⟨rfl, hb⟩; have HB1 := Lib.hid hb; clear hb)
  go_ret
  exact ⟨rfl, HR.out.low.trans (HB1.out.mono HR.out.low.size)⟩

set_option maxRecDepth 100000 in
set_option maxHeartbeats 4000000 in
theorem ttx_15 : TextOK 15 := by
  intro k t A c w e hB hg hA hE hS
  obtain ⟨W1, hr⟩ : ∃ W, TIn k t A c w W := ⟨_, t_in k t A c w hA⟩
  have hbx := box_in (Below.refl _ _) hr.box
  have HX := Lib.hid (fun w' (hb : Below W1.heap.size W1 w') => box_in hb hr.box)
  have HR := Lib.hid hr
  have hW := hr.world
  have hsz := hB.str
  have HOp := Lib.hid e
  have hc := tmo_15 k t A c W1 e hB hg (At.keep t hA hr.low.size fun p hp => hr.low.cell hp) hE
  unfold Gives nodeV at hc
  rw [e] at hc
  obtain ⟨T, hT⟩ : ∃ T, bs (t.txt k) = T := ⟨_, rfl⟩
  unfold Gives
  rw [hT] at hc ⊢
  have HC := Lib.hid hc
  unfold BoxAt at hbx
  rw [e] at hbx
  rw [e] at hW
  obtain ⟨f0, f1, f2, f3, f4⟩ := hbx
  unfold nodeV
  rw [e]
  clear hA hE hS hg hr hB e hc hT
  go_enter Tryd.func34, Tryd.ntmps34
  go_wp2_with (go_at_call 59; refine HC.out.mono ?_; rintro e w1 ⟨rfl, hb⟩; have HB1 := Lib.hid hb; clear hb)
  go_ret
  exact ⟨rfl, HR.out.low.trans (HB1.out.mono HR.out.low.size)⟩

set_option maxRecDepth 100000 in
set_option maxHeartbeats 4000000 in
theorem ttx_16 : TextOK 16 := by
  intro k t A c w e hB hg hA hE hS
  obtain ⟨W1, hr⟩ : ∃ W, TIn k t A c w W := ⟨_, t_in k t A c w hA⟩
  have hbx := box_in (Below.refl _ _) hr.box
  have HX := Lib.hid (fun w' (hb : Below W1.heap.size W1 w') => box_in hb hr.box)
  have HR := Lib.hid hr
  have hW := hr.world
  have hsz := hB.str
  have HOp := Lib.hid e
  have hc := tmo_16 k t A c W1 e hB hg (At.keep t hA hr.low.size fun p hp => hr.low.cell hp) hE
  unfold Gives nodeV at hc
  rw [e] at hc
  obtain ⟨T, hT⟩ : ∃ T, bs (t.txt k) = T := ⟨_, rfl⟩
  unfold Gives
  rw [hT] at hc ⊢
  have HC := Lib.hid hc
  unfold BoxAt at hbx
  rw [e] at hbx
  rw [e] at hW
  obtain ⟨f0, f1, f2, f3, f4⟩ := hbx
  unfold nodeV
  rw [e]
  clear hA hE hS hg hr hB e hc hT
  go_enter Tryd.func34, Tryd.ntmps34
  go_wp2_with (go_at_call 59; refine HC.out.mono ?_; rintro e w1 ⟨rfl, hb⟩; have HB1 := Lib.hid hb; clear hb)
  go_ret
  exact ⟨rfl, HR.out.low.trans (HB1.out.mono HR.out.low.size)⟩

set_option maxRecDepth 100000 in
set_option maxHeartbeats 4000000 in
theorem ttx_17 : TextOK 17 := by
  intro k t A c w e hB hg hA hE hS
  obtain ⟨W1, hr⟩ : ∃ W, TIn k t A c w W := ⟨_, t_in k t A c w hA⟩
  have hbx := box_in (Below.refl _ _) hr.box
  have HX := Lib.hid (fun w' (hb : Below W1.heap.size W1 w') => box_in hb hr.box)
  have HR := Lib.hid hr
  have hW := hr.world
  have hsz := hB.str
  have HOp := Lib.hid e
  have hc := tmo_17 k t A c W1 e hB hg (At.keep t hA hr.low.size fun p hp => hr.low.cell hp) hE
  unfold Gives nodeV at hc
  rw [e] at hc
  obtain ⟨T, hT⟩ : ∃ T, bs (t.txt k) = T := ⟨_, rfl⟩
  unfold Gives
  rw [hT] at hc ⊢
  have HC := Lib.hid hc
  unfold BoxAt at hbx
  rw [e] at hbx
  rw [e] at hW
  obtain ⟨f0, f1, f2, f3, f4⟩ := hbx
  unfold nodeV
  rw [e]
  clear hA hE hS hg hr hB e hc hT
  go_enter Tryd.func34, Tryd.ntmps34
  go_wp2_with (go_at_call 59; refine HC.out.mono ?_; rintro e w1 ⟨rfl, hb⟩; have HB1 := Lib.hid hb; clear hb)
  go_ret
  exact ⟨rfl, HR.out.low.trans (HB1.out.mono HR.out.low.size)⟩

set_option maxRecDepth 100000 in
set_option maxHeartbeats 4000000 in
theorem ttx_18 : TextOK 18 := by
  intro k t A c w e hB hg hA hE hS
  obtain ⟨W1, hr⟩ : ∃ W, TIn k t A c w W := ⟨_, t_in k t A c w hA⟩
  have hbx := box_in (Below.refl _ _) hr.box
  have HX := Lib.hid (fun w' (hb : Below W1.heap.size W1 w') => box_in hb hr.box)
  have HR := Lib.hid hr
  have hW := hr.world
  have hsz := hB.str
  have HOp := Lib.hid e
  have hc := tmo_18 k t A c W1 e hB hg (At.keep t hA hr.low.size fun p hp => hr.low.cell hp) hE
  unfold Gives nodeV at hc
  rw [e] at hc
  obtain ⟨T, hT⟩ : ∃ T, bs (t.txt k) = T := ⟨_, rfl⟩
  unfold Gives
  rw [hT] at hc ⊢
  have HC := Lib.hid hc
  unfold BoxAt at hbx
  rw [e] at hbx
  rw [e] at hW
  obtain ⟨f0, f1, f2, f3, f4⟩ := hbx
  unfold nodeV
  rw [e]
  clear hA hE hS hg hr hB e hc hT
  go_enter Tryd.func34, Tryd.ntmps34
  go_wp2_with (go_at_call 59; refine HC.out.mono ?_; rintro e w1 ⟨rfl, hb⟩; have HB1 := Lib.hid hb; clear hb)
  go_ret
  exact ⟨rfl, HR.out.low.trans (HB1.out.mono HR.out.low.size)⟩

set_option maxRecDepth 100000 in
set_option maxHeartbeats 4000000 in
theorem ttx_19 : TextOK 19 := by
  intro k t A c w e hB hg hA hE hS
  obtain ⟨W1, hr⟩ : ∃ W, TIn k t A c w W := ⟨_, t_in k t A c w hA⟩
  have hbx := box_in (Below.refl _ _) hr.box
  have HX := Lib.hid (fun w' (hb : Below W1.heap.size W1 w') => box_in hb hr.box)
  have HR := Lib.hid hr
  have hW := hr.world
  have hsz := hB.str
  have HOp := Lib.hid e
  have hc := tmo_19 k t A c W1 e hB hg (At.keep t hA hr.low.size fun p hp => hr.low.cell hp) hE
  unfold Gives nodeV at hc
  rw [e] at hc
  obtain ⟨T, hT⟩ : ∃ T, bs (t.txt k) = T := ⟨_, rfl⟩
  unfold Gives
  rw [hT] at hc ⊢
  have HC := Lib.hid hc
  unfold BoxAt at hbx
  rw [e] at hbx
  rw [e] at hW
  obtain ⟨f0, f1, f2, f3, f4⟩ := hbx
  unfold nodeV
  rw [e]
  clear hA hE hS hg hr hB e hc hT
  go_enter Tryd.func34, Tryd.ntmps34
  go_wp2_with (go_at_call 59; refine HC.out.mono ?_; rintro e w1 ⟨rfl, hb⟩; have HB1 := Lib.hid hb; clear hb)
  go_ret
  exact ⟨rfl, HR.out.low.trans (HB1.out.mono HR.out.low.size)⟩

set_option maxRecDepth 100000 in
set_option maxHeartbeats 4000000 in
theorem ttx_20 : TextOK 20 := by
  intro k t A c w e hB hg hA hE hS
  obtain ⟨W1, hr⟩ : ∃ W, TIn k t A c w W := ⟨_, t_in k t A c w hA⟩
  have hbx := box_in (Below.refl _ _) hr.box
  have HX := Lib.hid (fun w' (hb : Below W1.heap.size W1 w') => box_in hb hr.box)
  have HR := Lib.hid hr
  have hW := hr.world
  have hsz := hB.str
  have HOp := Lib.hid e
  have hc := tmo_20 k t A c W1 e hB hg (At.keep t hA hr.low.size fun p hp => hr.low.cell hp) hE
  unfold Gives nodeV at hc
  rw [e] at hc
  obtain ⟨T, hT⟩ : ∃ T, bs (t.txt k) = T := ⟨_, rfl⟩
  unfold Gives
  rw [hT] at hc ⊢
  have HC := Lib.hid hc
  unfold BoxAt at hbx
  rw [e] at hbx
  rw [e] at hW
  obtain ⟨f0, f1, f2, f3, f4⟩ := hbx
  unfold nodeV
  rw [e]
  clear hA hE hS hg hr hB e hc hT
  go_enter Tryd.func34, Tryd.ntmps34
  go_wp2_with (go_at_call 59; refine HC.out.mono ?_; rintro e w1 ⟨rfl, hb⟩; have HB1 := Lib.hid hb; clear hb)
  go_ret
  exact ⟨rfl, HR.out.low.trans (HB1.out.mono HR.out.low.size)⟩

set_option maxRecDepth 100000 in
set_option maxHeartbeats 4000000 in
theorem ttx_21 : TextOK 21 := by
  intro k t A c w e hB hg hA hE hS
  obtain ⟨W1, hr⟩ : ∃ W, TIn k t A c w W := ⟨_, t_in k t A c w hA⟩
  have hbx := box_in (Below.refl _ _) hr.box
  have HX := Lib.hid (fun w' (hb : Below W1.heap.size W1 w') => box_in hb hr.box)
  have HR := Lib.hid hr
  have hW := hr.world
  have hsz := hB.str
  have HOp := Lib.hid e
  have hc := tmo_21 k t A c W1 e hB hg (At.keep t hA hr.low.size fun p hp => hr.low.cell hp) hE
  unfold Gives nodeV at hc
  rw [e] at hc
  obtain ⟨T, hT⟩ : ∃ T, bs (t.txt k) = T := ⟨_, rfl⟩
  unfold Gives
  rw [hT] at hc ⊢
  have HC := Lib.hid hc
  unfold BoxAt at hbx
  rw [e] at hbx
  rw [e] at hW
  obtain ⟨f0, f1, f2, f3, f4⟩ := hbx
  unfold nodeV
  rw [e]
  clear hA hE hS hg hr hB e hc hT
  go_enter Tryd.func34, Tryd.ntmps34
  go_wp2_with (go_at_call 59; refine HC.out.mono ?_; rintro e w1 ⟨rfl, hb⟩; have HB1 := Lib.hid hb; clear hb)
  go_ret
  exact ⟨rfl, HR.out.low.trans (HB1.out.mono HR.out.low.size)⟩

set_option maxRecDepth 100000 in
set_option maxHeartbeats 4000000 in
theorem ttx_22 : TextOK 22 := by
  intro k t A c w e hB hg hA hE hS
  obtain ⟨W1, hr⟩ : ∃ W, TIn k t A c w W := ⟨_, t_in k t A c w hA⟩
  have hbx := box_in (Below.refl _ _) hr.box
  have HX := Lib.hid (fun w' (hb : Below W1.heap.size W1 w') => box_in hb hr.box)
  have HR := Lib.hid hr
  have hW := hr.world
  have hsz := hB.str
  have HOp := Lib.hid e
  have hc := tmo_22 k t A c W1 e hB hg (At.keep t hA hr.low.size fun p hp => hr.low.cell hp) hE
  unfold Gives nodeV at hc
  rw [e] at hc
  obtain ⟨T, hT⟩ : ∃ T, bs (t.txt k) = T := ⟨_, rfl⟩
  unfold Gives
  rw [hT] at hc ⊢
  have HC := Lib.hid hc
  unfold BoxAt at hbx
  rw [e] at hbx
  rw [e] at hW
  obtain ⟨f0, f1, f2, f3, f4⟩ := hbx
  unfold nodeV
  rw [e]
  clear hA hE hS hg hr hB e hc hT
  go_enter Tryd.func34, Tryd.ntmps34
  go_wp2_with (go_at_call 59; refine HC.out.mono ?_; rintro e w1 ⟨rfl, hb⟩; have HB1 := Lib.hid hb; clear hb)
  go_ret
  exact ⟨rfl, HR.out.low.trans (HB1.out.mono HR.out.low.size)⟩

set_option maxRecDepth 100000 in
set_option maxHeartbeats 4000000 in
theorem ttx_23 : TextOK 23 := by
  intro k t A c w e hB hg hA hE hS
  obtain ⟨W1, hr⟩ : ∃ W, TIn k t A c w W := ⟨_, t_in k t A c w hA⟩
  have hbx := box_in (Below.refl _ _) hr.box
  have HX := Lib.hid (fun w' (hb : Below W1.heap.size W1 w') => box_in hb hr.box)
  have HR := Lib.hid hr
  have hW := hr.world
  have hsz := hB.str
  have HOp := Lib.hid e
  have hc := tmo_23 k t A c W1 e hB hg (At.keep t hA hr.low.size fun p hp => hr.low.cell hp) hE
  unfold Gives nodeV at hc
  rw [e] at hc
  obtain ⟨T, hT⟩ : ∃ T, bs (t.txt k) = T := ⟨_, rfl⟩
  unfold Gives
  rw [hT] at hc ⊢
  have HC := Lib.hid hc
  unfold BoxAt at hbx
  rw [e] at hbx
  rw [e] at hW
  obtain ⟨f0, f1, f2, f3, f4⟩ := hbx
  unfold nodeV
  rw [e]
  clear hA hE hS hg hr hB e hc hT
  go_enter Tryd.func34, Tryd.ntmps34
  go_wp2_with (go_at_call 59; refine HC.out.mono ?_; rintro e w1 ⟨rfl, hb⟩; have HB1 := Lib.hid hb; clear hb)
  go_ret
  exact ⟨rfl, HR.out.low.trans (HB1.out.mono HR.out.low.size)⟩

set_option maxRecDepth 100000 in
set_option maxHeartbeats 4000000 in
theorem ttx_10 : TextOK 10 := by
  intro k t A c w e hB hg hA hE hS
  obtain ⟨-, -, hle, xs, b, hl0, hx, hb1⟩ := (inv_10 e).1 hg
  obtain ⟨W1, hr⟩ : ∃ W, TIn k t A c w W := ⟨_, t_in k t A c w hA⟩
  have hbx := box_in (Below.refl _ _) hr.box
  have HX := Lib.hid (fun w' (hb : Below W1.heap.size W1 w') => box_in hb hr.box)
  have HR := Lib.hid hr
  have hW := hr.world
  have hsz := hB.str
  have HOp := Lib.hid e
  have mb : b ∈ t.l := by rw [hl0]; simp
  have mx : ∀ y ∈ xs, y ∈ t.l := fun y hy => by rw [hl0]; simp [hy]
  have hss : sizes xs ≤ t.size ∧ strsL xs ≤ t.strs := by
    have h1 := size_eq t
    have h2 := strs_eq t
    rw [hl0, sizes_app] at h1
    rw [hl0, strsL_app] at h2
    omega
  have hlx : t.l.length = xs.length + 1 := by rw [hl0]; simp
  have hc := fun w' (hb : Below W1.heap.size W1 w') => tbody_any k t.l xs b _ w' hl0 (hr.row.keep hb.size fun p hp => hb.cell hp) hb1 (hB.part mb) (fun y hy => hE y (mx y hy) (by unfold isE; rw [hx y hy]; rfl)) (hS b mb hb1) (by omega) (hB.lens xs mx hss.1 hss.2)
  obtain ⟨F, hF, hFz⟩ : ∃ F, bs (funcB (t.l.map (Tr.txt k))) = F ∧ F.size ≤ 200000000 := ⟨_, rfl, by
    rw [bs_size]
    have h1 := func_len (t.l.map (Tr.txt k))
    have h2 := hB.lens t.l (fun y hy => hy) (by have := size_eq t; omega) (by have := strs_eq t; omega)
    rw [List.length_map] at h1
    omega⟩
  unfold Gives at hc
  simp only [hF] at hc
  have HC := Lib.hid hc
  by_cases hs : t.s = []
  · have d1 : ((bs t.s).toList == []) = true := by rw [hs, Lib.toList_data, bs_list]; rfl
    have HT := Lib.hid (show bs (t.txt k) = bs [40, 102, 117, 110, 99, 116, 105, 111, 110] ++ F ++ bs [41] by
      rw [txt_form k t (by rw [e]; decide), e, ← hF]
      show bs ([40, 102, 117, 110, 99, 116, 105, 111, 110] ++ ((if t.s = [] then [] else [32] ++ t.s) ++ (funcB (t.l.map (Tr.txt k)) ++ [41]))) = _
      rw [if_pos hs]
      rw [List.nil_append]
      simp only [bs_two, ByteArray.append_assoc])
    unfold BoxAt at hbx
    rw [e] at hbx
    rw [e] at hW
    obtain ⟨f0, f1, f2, f3, f4⟩ := hbx
    unfold nodeV
    rw [e]
    clear hA hE hS hg hr hB e hc hF hs hl0 hx hb1 mb mx hss hle hlx
    have q2 : ¬ (9223372036854775807 < 9 + F.size) := by omega
    have q3 : ¬ (9223372036854775807 < 9 + F.size + 1) := by omega
    have q4 : ¬ (9223372036854775807 < 10 + (bs t.s).size) := by omega
    have q5 : ¬ (9223372036854775807 < 10 + (bs t.s).size + F.size) := by omega
    have q6 : ¬ (9223372036854775807 < 10 + (bs t.s).size + F.size + 1) := by omega
    go_enter Tryd.func34, Tryd.ntmps34
    have HC1 := Lib.hid (HC.out W1 (Below.refl _ _))
    go_wp2_with (go_at_call 58; refine HC1.out.mono ?_; rintro e w1 ⟨rfl, hb⟩; have HB1 := Lib.hid hb; clear hb)
    go_ret
    exact ⟨by rw [HT.out]; rfl, HR.out.low.trans (HB1.out.mono HR.out.low.size)⟩
  · have d1 : ((bs t.s).toList == []) = false := by rw [Lib.toList_data, bs_list, beq_eq_false_iff_ne]; exact hs
    have HT := Lib.hid (show bs (t.txt k) = bs [40, 102, 117, 110, 99, 116, 105, 111, 110, 32] ++ bs t.s ++ F ++ bs [41] by
      rw [txt_form k t (by rw [e]; decide), e, ← hF]
      show bs ([40, 102, 117, 110, 99, 116, 105, 111, 110] ++ ((if t.s = [] then [] else [32] ++ t.s) ++ (funcB (t.l.map (Tr.txt k)) ++ [41]))) = _
      rw [if_neg hs]
      rw [show ([40, 102, 117, 110, 99, 116, 105, 111, 110, 32] : Bs) = [40, 102, 117, 110, 99, 116, 105, 111, 110] ++ [32] from rfl]
      simp only [bs_two, ByteArray.append_assoc])
    unfold BoxAt at hbx
    rw [e] at hbx
    rw [e] at hW
    obtain ⟨f0, f1, f2, f3, f4⟩ := hbx
    unfold nodeV
    rw [e]
    clear hA hE hS hg hr hB e hc hF hs hl0 hx hb1 mb mx hss hle hlx
    have q2 : ¬ (9223372036854775807 < 9 + F.size) := by omega
    have q3 : ¬ (9223372036854775807 < 9 + F.size + 1) := by omega
    have q4 : ¬ (9223372036854775807 < 10 + (bs t.s).size) := by omega
    have q5 : ¬ (9223372036854775807 < 10 + (bs t.s).size + F.size) := by omega
    have q6 : ¬ (9223372036854775807 < 10 + (bs t.s).size + F.size + 1) := by omega
    go_enter Tryd.func34, Tryd.ntmps34
    go_wp2_with fail
    have hdr : Below W1.heap.size W1 W1.drew := (Below.refl _ _).drew
    have HD1 := Lib.hid (HC.out _ hdr)
    have HDr := Lib.hid hdr
    clear hdr
    go_region_held3 (fun w' => w'.cell? ⟨w.heap.size, 1, none⟩ = some (.string (bs t.s)) ∧ w'.cell? ⟨w.heap.size, 3, none⟩ = some (.slice A t.l.length c))
      (first | go_keep | (exact And.intro (HX.out _ HB1.out).2.1 (HX.out _ HB1.out).2.2.2.1))
      (first | (go_at_call 58; refine HD1.out.mono ?_; rintro e w1 ⟨rfl, hb⟩; have HB1 := Lib.hid (HDr.out.trans (hb.mono HDr.out.size)); clear hb HD1))
    go_wp2
    go_ret
    exact ⟨by rw [HT.out]; rfl, HR.out.low.trans (HB1.out.mono HR.out.low.size)⟩
end Go.Proofs.YtiejpenffpjmeaaDoor

namespace Go.Proofs.YtiejpenffpjmeaaDoor
set_option linter.unusedSimpArgs false
set_option linter.unusedVariables false
open Go.RowKit Go.Proofs

set_option maxRecDepth 100000 in
set_option maxHeartbeats 8000000 in
theorem ttx_11 (k : Nat) (t : Tr) (A : Option Addr) (c : Nat) (w : World) (e : t.op = 11) (hB : Bnd k t) (hg : good t) (hA : At w w.heap.size t (nodeV t (.slice A t.l.length c))) (hE : ∀ y ∈ t.l, ∀ z ∈ y.l, isE z → TxtE k z) :
    Calls Tryd.prog 34 #[nodeV t (.slice A t.l.length c), .string (bs (indentB k))] w (Gives (t.txt k) w) := by
  obtain ⟨-, -, hle, hop⟩ := (inv_11 e).1 hg.self
  obtain ⟨W1, hr⟩ : ∃ W, TIn k t A c w W := ⟨_, t_in k t A c w hA⟩
  have hbx := box_in (Below.refl _ _) hr.box
  have HX := Lib.hid (fun w' (hb : Below W1.heap.size W1 w') => box_in hb hr.box)
  have HR := Lib.hid hr
  have hW := hr.world
  have HOp := Lib.hid e
  have HF := Lib.hid (row_parts hr.row)
  have hlens := hB.lens t.l (fun y hy => hy) (by have := size_eq t; omega) (by have := strs_eq t; omega)
  have HRd := Lib.hid (fun (j : Nat) (y : Tr) (hy : t.l[j]? = some y) => show ∃ a K Y, y.l = [a] ∧ bs (quoteL y.s) = K ∧ K.size ≤ 50000000 ∧ bs (a.txt k) = Y ∧ Y.size ≤ 60000000 ∧ bs (y.txt k) = K ++ bs [58, 32] ++ Y ∧ (bs y.s).size ≤ 10000000 ∧ TxtE k a by
    have hym := List.mem_of_getElem? hy
    have ho := hop y hym
    obtain ⟨-, a, hl, ha⟩ := (inv_12 ho).1 (hg.part hym).self
    have hBy := hB.part hym
    have hBa := hBy.part (show a ∈ y.l by rw [hl]; simp)
    refine ⟨a, _, _, hl, rfl, ?_, rfl, by rw [bs_size]; exact hBa.len, ?_, hBy.str, hE y hym a (by rw [hl]; simp) ha⟩
    · rw [bs_size]
      have h1 := quote_len y.s
      have h2 := hBy.str
      rw [bs_size] at h2
      omega
    · rw [txt_form k y (by rw [ho]; decide), ho, hl]
      show bs (quoteL y.s ++ ([58, 32] ++ a.txt k)) = _
      simp only [bs_two, ByteArray.append_assoc])
  have HT := Lib.hid (show bs (t.txt k) = bs ([40, 123] ++ commas (t.l.map (Tr.txt k))) ++ bs [125, 41] by
    rw [txt_form k t (by rw [e]; decide), e]
    show bs ([40, 123] ++ (commas (t.l.map (Tr.txt k)) ++ [125, 41])) = _
    simp only [bs_two, ByteArray.append_assoc])
  have HBd := Lib.hid hlens
  unfold BoxAt at hbx
  rw [e] at hbx
  rw [e] at hW
  obtain ⟨f0, f1, f2, f3, f4⟩ := hbx
  unfold nodeV
  rw [e]
  clear hA hE hg hr hB e hop hlens
  go_enter Tryd.func34, Tryd.ntmps34
  go_wp2
  go_loopw [5, 6] (fun s i wr => ∃ j : Nat, j ≤ t.l.length ∧ i = .int .i64 j ∧ s = .string (bs ([40, 123] ++ commas ((t.l.take j).map (Tr.txt k)))) ∧ RowKit.Hid (Below W1.heap.size W1 wr)) (fun _ i _ => t.l.length - (intOf i).toNat)
  case atStart => exact ⟨0, Nat.zero_le _, rfl, rfl, Lib.hid (Below.refl _ _)⟩
  case round =>
    obtain ⟨j, hj, rfl, rfl, HRr⟩ := hrel
    clear f0 f1 f2 f3 f4
    have hbx := HX.out wr HRr.out
    unfold BoxAt at hbx
    rw [HOp.out] at hbx
    obtain ⟨f0, f1, f2, f3, f4⟩ := hbx
    have hpz : ([40, 123] ++ commas ((t.l.take j).map (Tr.txt k))).length ≤ 61000000 := by
      have h1 := commas_len ((t.l.take j).map (Tr.txt k))
      have h2 := lens_take (t.l.map (Tr.txt k)) j
      rw [← List.map_take] at h2
      have := HBd.out
      rw [List.length_map, List.length_take] at h1
      rw [List.length_append]
      have h3 : ([40, 123] : Bs).length = 2 := rfl
      omega
    obtain ⟨Q, hQ⟩ : ∃ Q, bs ([40, 123] ++ commas ((t.l.take j).map (Tr.txt k))) = Q := ⟨_, rfl⟩
    have hQz : Q.size ≤ 61000000 := by rw [← hQ, bs_size]; exact hpz
    by_cases hlt : j < t.l.length
    · obtain ⟨y, hy⟩ : ∃ y, t.l[j]? = some y := ⟨_, List.getElem?_eq_getElem hlt⟩
      obtain ⟨g, off, hAg, hcell⟩ := HF.out j y hy
      subst hAg
      obtain ⟨a, K, Y, hyl, hK, hKz, hY, hYz, hyt, hys, hTa⟩ := HRd.out j y hy
      have hlen1 : y.l.length = 1 := by rw [hyl]; rfl
      have HN := Lib.hid (show bs ([40, 123] ++ commas ((t.l.take (j + 1)).map (Tr.txt k))) = if j = 0 then Q ++ K ++ bs [58, 32] ++ Y else Q ++ bs [44, 32] ++ K ++ bs [58, 32] ++ Y by
        rw [take_next hy, ← hQ]
        by_cases h0 : j = 0
        · subst h0
          rw [if_pos rfl]
          show bs ([40, 123] ++ y.txt k) = bs ([40, 123] ++ []) ++ K ++ bs [58, 32] ++ Y
          rw [bs_two, hyt, List.append_nil]
          simp only [ByteArray.append_assoc]
        · rw [if_neg h0, commas_snoc _ _ (by intro h; have := congrArg List.length h; rw [List.length_map, List.length_take, List.length_nil] at this; omega)]
          simp only [bs_two, hyt, ByteArray.append_assoc])
      have hfacts : ∀ w', Below W1.heap.size W1 w' → ∃ Av cv g2 off2 Aa ca, (w'.cell? ⟨w.heap.size, 3, none⟩ = some (.slice (some ⟨g, off, none⟩) t.l.length c) ∧ w'.cell? ⟨g, off + j * 5 + 1, none⟩ = some (.string (bs y.s)) ∧ w'.cell? ⟨g, off + j * 5 + 3, none⟩ = some (.slice Av y.l.length cv)) ∧ Av = some ⟨g2, off2, none⟩ ∧
          (w'.cell? ⟨g2, off2, none⟩ = some (.int .i64 a.op) ∧ w'.cell? ⟨g2, off2 + 1, none⟩ = some (.string (bs a.s)) ∧ w'.cell? ⟨g2, off2 + 2, none⟩ = some (.int .i64 a.n) ∧ w'.cell? ⟨g2, off2 + 3, none⟩ = some (.slice Aa a.l.length ca) ∧ w'.cell? ⟨g2, off2 + 4, none⟩ = some (.int .i64 a.line)) ∧
          Calls Tryd.prog 34 #[.agg #[.int .i64 a.op, .string (bs a.s), .int .i64 a.n, .slice Aa a.l.length ca, .int .i64 a.line], .string (bs (indentB k))] w' fun e w'' => e = .returned (.string Y) ∧ Below w'.heap.size w' w'' := fun w' hb => by
        obtain ⟨Av, cv, hyA, x0, x1, x2, x3, x4⟩ := hcell w' hb
        obtain ⟨g2, off2, Aa, ca, rfl, hcv, hg2, hAa, z0, z1, z2, z3, z4⟩ := one_part hyA hyl
        have hb3 := (HX.out w' hb).2.2.2.1
        have hc := hTa _ w' hAa
        unfold Gives nodeV at hc
        rw [hY] at hc
        exact ⟨_, cv, g2, off2, Aa, ca, ⟨hb3, x1, x3⟩, rfl, ⟨z0, z1, z2, z3, z4⟩, hc⟩
      obtain ⟨Av, cv, g2, off2, Aa, ca, ⟨b3, x1, x3⟩, rfl, ⟨z0, z1, z2, z3, z4⟩, -⟩ := hfacts wr HRr.out
      have hkeep : ∀ w', Below wr.heap.size wr w' → (w'.cell? ⟨w.heap.size, 3, none⟩ = some (.slice (some ⟨g, off, none⟩) t.l.length c) ∧ w'.cell? ⟨g, off + j * 5 + 1, none⟩ = some (.string (bs y.s)) ∧ w'.cell? ⟨g, off + j * 5 + 3, none⟩ = some (.slice (some ⟨g2, off2, none⟩) y.l.length cv)) ∧
          (w'.cell? ⟨g2, off2, none⟩ = some (.int .i64 a.op) ∧ w'.cell? ⟨g2, off2 + 1, none⟩ = some (.string (bs a.s)) ∧ w'.cell? ⟨g2, off2 + 2, none⟩ = some (.int .i64 a.n) ∧ w'.cell? ⟨g2, off2 + 3, none⟩ = some (.slice Aa a.l.length ca) ∧ w'.cell? ⟨g2, off2 + 4, none⟩ = some (.int .i64 a.line)) ∧
          Calls Tryd.prog 34 #[.agg #[.int .i64 a.op, .string (bs a.s), .int .i64 a.n, .slice Aa a.l.length ca, .int .i64 a.line], .string (bs (indentB k))] w' fun e w'' => e = .returned (.string Y) ∧ Below w'.heap.size w' w'' := fun w' hb => by
        have hb1 : Below W1.heap.size W1 w' := HRr.out.trans (hb.mono HRr.out.size)
        obtain ⟨Av', cv', g2', off2', Aa', ca', ⟨b3', x1', x3'⟩, rfl, ⟨z0', z1', z2', z3', z4'⟩, hc'⟩ := hfacts w' hb1
        have lt : ∀ {p : Addr} {v : Value}, wr.cell? p = some v → w'.cell? p = some v := fun h => (hb.cell (by obtain ⟨o, ho, -⟩ := cells_of_cell h; exact (Array.getElem?_eq_some_iff.1 ho).1)).trans h
        have e3 := (lt x3).symm.trans x3'
        simp only [Option.some.injEq, Value.slice.injEq, Addr.mk.injEq, and_true, true_and] at e3
        obtain ⟨⟨rfl, rfl⟩, rfl⟩ := e3
        have e4 := (lt z3).symm.trans z3'
        simp only [Option.some.injEq, Value.slice.injEq, true_and] at e4
        obtain ⟨rfl, rfl⟩ := e4
        exact ⟨⟨b3', x1', x3'⟩, ⟨z0', z1', z2', z3', z4'⟩, hc'⟩
      have hqc : ∀ w', Calls Tryd.prog 57 #[.string (bs y.s)] w' fun e w'' => e = .returned (.string K) ∧ Below w'.heap.size w' w'' := fun w' => by
        have := rquote_any (bs y.s) w' (by omega)
        rw [bs_list, hK] at this
        exact this
      have HQc := Lib.hid hqc
      have HKp := Lib.hid hkeep
      rw [hQ]
      have i0 : (0 : Int) ≤ (j : Int) := by omega
      have i1 : (j : Int) < (t.l.length : Int) := by omega
      have i2 : (0 : Int) < (y.l.length : Int) := by omega
      have i3 : 0 < y.l.length := by omega
      have q1 : ¬ (9223372036854775807 < Q.size + 2) := by omega
      have q2 : ¬ (9223372036854775807 < Q.size + K.size) := by omega
      have q3 : ¬ (9223372036854775807 < Q.size + K.size + 2) := by omega
      have q4 : ¬ (9223372036854775807 < Q.size + K.size + 2 + Y.size) := by omega
      have q5 : ¬ (9223372036854775807 < Q.size + 2 + K.size) := by omega
      have q6 : ¬ (9223372036854775807 < Q.size + 2 + K.size + 2) := by omega
      have q7 : ¬ (9223372036854775807 < Q.size + 2 + K.size + 2 + Y.size) := by omega
      clear hpz hQ hy hcell hyl hK hY hyt hTa hfacts hkeep hqc hlen1
      have hdr : Below wr.heap.size wr wr.drew := (Below.refl _ _).drew
      have HDr := Lib.hid hdr
      have HD1 := Lib.hid (HQc.out wr.drew)
      clear hdr
      by_cases h0 : j = 0
      · have hj0 : ¬ 0 < j := by omega
        have HJ := Lib.hid h0
        clear h0
        go_wp2_with fail
        go_region_held3 (fun w' => (w'.cell? ⟨w.heap.size, 3, none⟩ = some (.slice (some ⟨g, off, none⟩) t.l.length c) ∧ w'.cell? ⟨g, off + j * 5 + 1, none⟩ = some (.string (bs y.s)) ∧ w'.cell? ⟨g, off + j * 5 + 3, none⟩ = some (.slice (some ⟨g2, off2, none⟩) y.l.length cv)) ∧
            (w'.cell? ⟨g2, off2, none⟩ = some (.int .i64 a.op) ∧ w'.cell? ⟨g2, off2 + 1, none⟩ = some (.string (bs a.s)) ∧ w'.cell? ⟨g2, off2 + 2, none⟩ = some (.int .i64 a.n) ∧ w'.cell? ⟨g2, off2 + 3, none⟩ = some (.slice Aa a.l.length ca) ∧ w'.cell? ⟨g2, off2 + 4, none⟩ = some (.int .i64 a.line)))
          (first | go_keep | (exact And.intro (HKp.out _ HB2.out).1 (HKp.out _ HB2.out).2.1) | (exact And.intro (HKp.out _ HB1.out).1 (HKp.out _ HB1.out).2.1))
          (first
            | (go_at_call 57; refine HD1.out.mono ?_; rintro e w1 ⟨rfl, hb⟩; have HB1 := Lib.hid (HDr.out.trans (hb.mono HDr.out.size)); have HD2 := Lib.hid (HKp.out w1 HB1.out).2.2; clear hb HD1)
            | (go_at_call 34; refine HD2.out.mono ?_; rintro e w2 ⟨rfl, hb⟩; have HB2 := Lib.hid (HB1.out.trans (hb.mono HB1.out.size)); clear hb HD2))
        go_wp2
        go_roundw
        case rel => exact ⟨j + 1, by omega, by simp, congrArg Value.string (by rw [HN.out, if_pos HJ.out]; rfl), Lib.hid (HRr.out.trans (HB2.out.mono HRr.out.size))⟩
        case measure => simp [intOf]; omega
      · have hj0 : 0 < j := by omega
        have HJ := Lib.hid h0
        clear h0
        go_wp2_with fail
        go_region_held3 (fun w' => (w'.cell? ⟨w.heap.size, 3, none⟩ = some (.slice (some ⟨g, off, none⟩) t.l.length c) ∧ w'.cell? ⟨g, off + j * 5 + 1, none⟩ = some (.string (bs y.s)) ∧ w'.cell? ⟨g, off + j * 5 + 3, none⟩ = some (.slice (some ⟨g2, off2, none⟩) y.l.length cv)) ∧
            (w'.cell? ⟨g2, off2, none⟩ = some (.int .i64 a.op) ∧ w'.cell? ⟨g2, off2 + 1, none⟩ = some (.string (bs a.s)) ∧ w'.cell? ⟨g2, off2 + 2, none⟩ = some (.int .i64 a.n) ∧ w'.cell? ⟨g2, off2 + 3, none⟩ = some (.slice Aa a.l.length ca) ∧ w'.cell? ⟨g2, off2 + 4, none⟩ = some (.int .i64 a.line)))
          (first | go_keep | (exact And.intro (HKp.out _ HB2.out).1 (HKp.out _ HB2.out).2.1) | (exact And.intro (HKp.out _ HB1.out).1 (HKp.out _ HB1.out).2.1))
          (first
            | (go_at_call 57; refine HD1.out.mono ?_; rintro e w1 ⟨rfl, hb⟩; have HB1 := Lib.hid (HDr.out.trans (hb.mono HDr.out.size)); have HD2 := Lib.hid (HKp.out w1 HB1.out).2.2; clear hb HD1)
            | (go_at_call 34; refine HD2.out.mono ?_; rintro e w2 ⟨rfl, hb⟩; have HB2 := Lib.hid (HB1.out.trans (hb.mono HB1.out.size)); clear hb HD2))
        go_wp2
        go_roundw
        case rel => exact ⟨j + 1, by omega, by simp, congrArg Value.string (by rw [HN.out, if_neg HJ.out]; rfl), Lib.hid (HRr.out.trans (HB2.out.mono HRr.out.size))⟩
        case measure => simp [intOf]; omega
    · obtain rfl : j = t.l.length := by omega
      have HQ := Lib.hid (show bs ([40, 123] ++ commas (t.l.map (Tr.txt k))) = Q by rw [← hQ, List.take_length])
      rw [hQ]
      clear hQ hpz
      go_wp2
      go_ret
      exact ⟨by rw [HT.out, HQ.out]; rfl, HR.out.low.trans (HRr.out.mono HR.out.low.size)⟩
end Go.Proofs.YtiejpenffpjmeaaDoor

namespace Go.Proofs.YtiejpenffpjmeaaDoor
set_option linter.unusedSimpArgs false
set_option linter.unusedVariables false
open Go.RowKit Go.Proofs

def WithinOK (k : Nat) (y : Tr) : Prop := ∀ (v : Value) (w : World), At w w.heap.size y v → Calls Tryd.prog 69 #[v, .string (bs (indentB k))] w (Gives (y.txt k) w)
def LineOK (op : Int) : Prop := ∀ (k : Nat) (t : Tr) (A : Option Addr) (c : Nat) (w : World), t.op = op → Bnd k t → soundOne t = true → At w w.heap.size t (nodeV t (.slice A t.l.length c)) → (∀ y ∈ t.l, isE y → TxtE k y ∧ y.txt k ≠ []) → (∀ y ∈ t.l, y.op = 32 → WithinOK k y) →
  Calls Tryd.prog 47 #[nodeV t (.slice A t.l.length c), .string (bs (indentB k))] w (Gives (t.txt k) w)

set_option maxRecDepth 100000 in
set_option maxHeartbeats 4000000 in
theorem tln_30 : LineOK 30 := by
  intro k t A c w e hB hg hA hE hWi
  obtain ⟨-, -, hl0 | ⟨a, hl0, ea⟩⟩ := (inv_30 e).1 hg
  · obtain ⟨W1, hr⟩ : ∃ W, TIn k t A c w W := ⟨_, t_in k t A c w hA⟩
    have hk : t.l.length = 0 := by rw [hl0]; rfl
    have hbx := box_in (Below.refl _ _) hr.box
    have HX := Lib.hid (fun w' (hb : Below W1.heap.size W1 w') => box_in hb hr.box)
    have HR := Lib.hid hr
    have hW := hr.world
    have hsz := hB.str
    have HOp := Lib.hid (And.intro e hk)
    unfold BoxAt at hbx
    rw [e, hk] at hbx
    rw [e, hk] at hW
    obtain ⟨f0, f1, f2, f3, f4⟩ := hbx
    have HT := Lib.hid (show bs (t.txt k) = bs [118, 97, 114, 32] ++ bs t.s ++ bs [59] by
      rw [txt_form k t (by rw [e]; decide), e, hl0]
      show bs ([118, 97, 114, 32] ++ (t.s ++ [59])) = _
      simp only [bs_two, ByteArray.append_assoc, List.append_nil])
    unfold nodeV
    rw [e, hk]
    clear hA hE hWi hg hr hB hk hl0 e
    go_enter Tryd.func47, Tryd.ntmps47
    go_wp2
    go_ret
    exact ⟨by rw [HT.out]; rfl, HR.out.low⟩
  · obtain ⟨W1, hr⟩ : ∃ W, TIn k t A c w W := ⟨_, t_in k t A c w hA⟩
    have hk : t.l.length = 1 := by rw [hl0]; rfl
    have hbx := box_in (Below.refl _ _) hr.box
    have HX := Lib.hid (fun w' (hb : Below W1.heap.size W1 w') => box_in hb hr.box)
    have HR := Lib.hid hr
    have hW := hr.world
    obtain ⟨A0, off, rfl, hlc, hEl⟩ := row_elem hr.row (by omega)
    have m0 : a ∈ t.l := by rw [hl0]; simp
    obtain ⟨Y0, hY0, hYz0⟩ := txt_part (hB.part m0)
    have hc0 := fun w' (hb : Below W1.heap.size W1 w') => hEl w' hb 0 a (by rw [hl0]; rfl)
    have hT0 := hE a m0 ea
    have hne0 : (Y0.toList == []) = false := by rw [← hY0, Lib.toList_data, bs_list, beq_eq_false_iff_ne]; exact hT0.2
    have hT0 := hT0.1
    have HC0 := Lib.hid (fun w' v (hA : At w' w'.heap.size a v) => (by have := hT0 v w' hA; unfold Gives at this; rw [hY0] at this; exact this : Calls Tryd.prog 34 #[v, .string (bs (indentB k))] w' fun e w'' => e = .returned (.string Y0) ∧ Below w'.heap.size w' w''))
    have hsz := hB.str
    have HLs := Lib.hid (And.intro hc0 trivial)
    have HOp := Lib.hid (And.intro e hk)
    unfold BoxAt at hbx
    rw [e, hk] at hbx
    rw [e, hk] at hW
    rw [hk] at hlc
    obtain ⟨f0, f1, f2, f3, f4⟩ := hbx
    have HT := Lib.hid (show bs (t.txt k) = bs [118, 97, 114, 32] ++ bs t.s ++ bs [32, 61, 32] ++ Y0 ++ bs [59] by
      rw [txt_form k t (by rw [e]; decide), e, hl0, ← hY0]
      show bs ([118, 97, 114, 32] ++ (t.s ++ (([32, 61, 32] ++ a.txt k) ++ [59]))) = _
      simp only [bs_two, ByteArray.append_assoc, List.append_nil])
    obtain ⟨Av0, cv0, hAt, x0, x1, x2, x3, x4⟩ := HLs.out.1 W1 (Below.refl _ _)
    have z0 : W1.cell? ⟨A0, off, none⟩ = some (.int .i64 a.op) := x0
    have z1 : W1.cell? ⟨A0, off + 1, none⟩ = some (.string (bs a.s)) := x1
    have z2 : W1.cell? ⟨A0, off + 2, none⟩ = some (.int .i64 a.n) := x2
    have z3 : W1.cell? ⟨A0, off + 3, none⟩ = some (.slice Av0 a.l.length cv0) := x3
    have z4 : W1.cell? ⟨A0, off + 4, none⟩ = some (.int .i64 a.line) := x4
    have y1 := x1
    have y2 := x2
    have y3 := x3
    have y4 := x4
    clear x0 x1 x2 x3 x4
    have hq := HC0.out W1 _ hAt
    unfold nodeV at hq
    have HQ0 := Lib.hid hq
    clear hq hAt
    unfold nodeV
    rw [e, hk]
    clear hA hE hWi hg hr hB hk hl0 e hEl hT0 hY0 hc0 ea m0
    go_enter Tryd.func47, Tryd.ntmps47
    go_wp2_with fail
    go_at_call 34
    refine HQ0.out.mono ?_
    rintro e w1 ⟨rfl, hb⟩
    have HB1 := Lib.hid hb
    clear hb f0 f1 f2 f3 f4 z0 z1 z2 z3 z4 y1 y2 y3 y4
    have hbx := HX.out w1 HB1.out
    unfold BoxAt at hbx
    rw [HOp.out.1, HOp.out.2] at hbx
    obtain ⟨f0, f1, f2, f3, f4⟩ := hbx
    go_wp2
    go_ret
    exact ⟨by rw [HT.out]; rfl, HR.out.low.trans (HB1.out.mono HR.out.low.size)⟩

set_option maxRecDepth 100000 in
set_option maxHeartbeats 4000000 in
theorem tln_31 : LineOK 31 := by
  intro k t A c w e hB hg hA hE hWi
  obtain ⟨-, -, a, hl0, ea⟩ := (inv_31 e).1 hg
  obtain ⟨W1, hr⟩ : ∃ W, TIn k t A c w W := ⟨_, t_in k t A c w hA⟩
  have hk : t.l.length = 1 := by rw [hl0]; rfl
  have hbx := box_in (Below.refl _ _) hr.box
  have HX := Lib.hid (fun w' (hb : Below W1.heap.size W1 w') => box_in hb hr.box)
  have HR := Lib.hid hr
  have hW := hr.world
  obtain ⟨A0, off, rfl, hlc, hEl⟩ := row_elem hr.row (by omega)
  have m0 : a ∈ t.l := by rw [hl0]; simp
  obtain ⟨Y0, hY0, hYz0⟩ := txt_part (hB.part m0)
  have hc0 := fun w' (hb : Below W1.heap.size W1 w') => hEl w' hb 0 a (by rw [hl0]; rfl)
  have hT0 := hE a m0 ea
  have hne0 : (Y0.toList == []) = false := by rw [← hY0, Lib.toList_data, bs_list, beq_eq_false_iff_ne]; exact hT0.2
  have hT0 := hT0.1
  have HC0 := Lib.hid (fun w' v (hA : At w' w'.heap.size a v) => (by have := hT0 v w' hA; unfold Gives at this; rw [hY0] at this; exact this : Calls Tryd.prog 34 #[v, .string (bs (indentB k))] w' fun e w'' => e = .returned (.string Y0) ∧ Below w'.heap.size w' w''))
  have hsz := hB.str
  have HLs := Lib.hid (And.intro hc0 trivial)
  have HOp := Lib.hid (And.intro e hk)
  unfold BoxAt at hbx
  rw [e, hk] at hbx
  rw [e, hk] at hW
  rw [hk] at hlc
  obtain ⟨f0, f1, f2, f3, f4⟩ := hbx
  have HT := Lib.hid (show bs (t.txt k) = Y0 ++ bs [59] by
    rw [txt_form k t (by rw [e]; decide), e, hl0, ← hY0]
    show bs (a.txt k ++ ([59])) = _
    simp only [bs_two, ByteArray.append_assoc, List.append_nil])
  obtain ⟨Av0, cv0, hAt, x0, x1, x2, x3, x4⟩ := HLs.out.1 W1 (Below.refl _ _)
  have z0 : W1.cell? ⟨A0, off, none⟩ = some (.int .i64 a.op) := x0
  have z1 : W1.cell? ⟨A0, off + 1, none⟩ = some (.string (bs a.s)) := x1
  have z2 : W1.cell? ⟨A0, off + 2, none⟩ = some (.int .i64 a.n) := x2
  have z3 : W1.cell? ⟨A0, off + 3, none⟩ = some (.slice Av0 a.l.length cv0) := x3
  have z4 : W1.cell? ⟨A0, off + 4, none⟩ = some (.int .i64 a.line) := x4
  have y1 := x1
  have y2 := x2
  have y3 := x3
  have y4 := x4
  clear x0 x1 x2 x3 x4
  have hq := HC0.out W1 _ hAt
  unfold nodeV at hq
  have HQ0 := Lib.hid hq
  clear hq hAt
  unfold nodeV
  rw [e, hk]
  clear hA hE hWi hg hr hB hk hl0 e hEl hT0 hY0 hc0 ea m0
  go_enter Tryd.func47, Tryd.ntmps47
  go_wp2_with fail
  go_at_call 34
  refine HQ0.out.mono ?_
  rintro e w1 ⟨rfl, hb⟩
  have HB1 := Lib.hid hb
  clear hb f0 f1 f2 f3 f4 z0 z1 z2 z3 z4 y1 y2 y3 y4
  have hbx := HX.out w1 HB1.out
  unfold BoxAt at hbx
  rw [HOp.out.1, HOp.out.2] at hbx
  obtain ⟨f0, f1, f2, f3, f4⟩ := hbx
  go_wp2
  go_ret
  exact ⟨by rw [HT.out]; rfl, HR.out.low.trans (HB1.out.mono HR.out.low.size)⟩

set_option maxRecDepth 100000 in
set_option maxHeartbeats 4000000 in
theorem tln_36 : LineOK 36 := by
  intro k t A c w e hB hg hA hE hWi
  obtain ⟨-, -, hl0 | ⟨a, hl0, ea⟩⟩ := (inv_36 e).1 hg
  · obtain ⟨W1, hr⟩ : ∃ W, TIn k t A c w W := ⟨_, t_in k t A c w hA⟩
    have hk : t.l.length = 0 := by rw [hl0]; rfl
    have hbx := box_in (Below.refl _ _) hr.box
    have HX := Lib.hid (fun w' (hb : Below W1.heap.size W1 w') => box_in hb hr.box)
    have HR := Lib.hid hr
    have hW := hr.world
    have hsz := hB.str
    have HOp := Lib.hid (And.intro e hk)
    unfold BoxAt at hbx
    rw [e, hk] at hbx
    rw [e, hk] at hW
    obtain ⟨f0, f1, f2, f3, f4⟩ := hbx
    have HT := Lib.hid (show bs (t.txt k) = bs [114, 101, 116, 117, 114, 110, 59] by
      rw [txt_form k t (by rw [e]; decide), e, hl0]
      show bs ([114, 101, 116, 117, 114, 110] ++ ([] ++ [59])) = _
      rfl)
    unfold nodeV
    rw [e, hk]
    clear hA hE hWi hg hr hB hk hl0 e
    go_enter Tryd.func47, Tryd.ntmps47
    go_wp2
    go_ret
    exact ⟨by rw [HT.out]; rfl, HR.out.low⟩
  · obtain ⟨W1, hr⟩ : ∃ W, TIn k t A c w W := ⟨_, t_in k t A c w hA⟩
    have hk : t.l.length = 1 := by rw [hl0]; rfl
    have hbx := box_in (Below.refl _ _) hr.box
    have HX := Lib.hid (fun w' (hb : Below W1.heap.size W1 w') => box_in hb hr.box)
    have HR := Lib.hid hr
    have hW := hr.world
    obtain ⟨A0, off, rfl, hlc, hEl⟩ := row_elem hr.row (by omega)
    have m0 : a ∈ t.l := by rw [hl0]; simp
    obtain ⟨Y0, hY0, hYz0⟩ := txt_part (hB.part m0)
    have hc0 := fun w' (hb : Below W1.heap.size W1 w') => hEl w' hb 0 a (by rw [hl0]; rfl)
    have hT0 := hE a m0 ea
    have hne0 : (Y0.toList == []) = false := by rw [← hY0, Lib.toList_data, bs_list, beq_eq_false_iff_ne]; exact hT0.2
    have hT0 := hT0.1
    have HC0 := Lib.hid (fun w' v (hA : At w' w'.heap.size a v) => (by have := hT0 v w' hA; unfold Gives at this; rw [hY0] at this; exact this : Calls Tryd.prog 34 #[v, .string (bs (indentB k))] w' fun e w'' => e = .returned (.string Y0) ∧ Below w'.heap.size w' w''))
    have hsz := hB.str
    have HLs := Lib.hid (And.intro hc0 trivial)
    have HOp := Lib.hid (And.intro e hk)
    unfold BoxAt at hbx
    rw [e, hk] at hbx
    rw [e, hk] at hW
    rw [hk] at hlc
    obtain ⟨f0, f1, f2, f3, f4⟩ := hbx
    have HT := Lib.hid (show bs (t.txt k) = bs [114, 101, 116, 117, 114, 110, 32] ++ Y0 ++ bs [59] by
      rw [txt_form k t (by rw [e]; decide), e, hl0, ← hY0]
      show bs (([114, 101, 116, 117, 114, 110] ++ (([32] ++ a.txt k) ++ [59]))) = _
      rw [show ([114, 101, 116, 117, 114, 110, 32] : Bs) = [114, 101, 116, 117, 114, 110] ++ [32] from rfl]
      simp only [bs_two, ByteArray.append_assoc, List.append_nil])
    obtain ⟨Av0, cv0, hAt, x0, x1, x2, x3, x4⟩ := HLs.out.1 W1 (Below.refl _ _)
    have z0 : W1.cell? ⟨A0, off, none⟩ = some (.int .i64 a.op) := x0
    have z1 : W1.cell? ⟨A0, off + 1, none⟩ = some (.string (bs a.s)) := x1
    have z2 : W1.cell? ⟨A0, off + 2, none⟩ = some (.int .i64 a.n) := x2
    have z3 : W1.cell? ⟨A0, off + 3, none⟩ = some (.slice Av0 a.l.length cv0) := x3
    have z4 : W1.cell? ⟨A0, off + 4, none⟩ = some (.int .i64 a.line) := x4
    have y1 := x1
    have y2 := x2
    have y3 := x3
    have y4 := x4
    clear x0 x1 x2 x3 x4
    have hq := HC0.out W1 _ hAt
    unfold nodeV at hq
    have HQ0 := Lib.hid hq
    clear hq hAt
    unfold nodeV
    rw [e, hk]
    clear hA hE hWi hg hr hB hk hl0 e hEl hT0 hY0 hc0 ea m0
    go_enter Tryd.func47, Tryd.ntmps47
    go_wp2_with fail
    go_at_call 34
    refine HQ0.out.mono ?_
    rintro e w1 ⟨rfl, hb⟩
    have HB1 := Lib.hid hb
    clear hb f0 f1 f2 f3 f4 z0 z1 z2 z3 z4 y1 y2 y3 y4
    have hbx := HX.out w1 HB1.out
    unfold BoxAt at hbx
    rw [HOp.out.1, HOp.out.2] at hbx
    obtain ⟨f0, f1, f2, f3, f4⟩ := hbx
    go_wp2
    go_ret
    exact ⟨by rw [HT.out]; rfl, HR.out.low.trans (HB1.out.mono HR.out.low.size)⟩

set_option maxRecDepth 100000 in
set_option maxHeartbeats 4000000 in
theorem tln_37 : LineOK 37 := by
  intro k t A c w e hB hg hA hE hWi
  obtain ⟨-, -, a, hl0, ea⟩ := (inv_37 e).1 hg
  obtain ⟨W1, hr⟩ : ∃ W, TIn k t A c w W := ⟨_, t_in k t A c w hA⟩
  have hk : t.l.length = 1 := by rw [hl0]; rfl
  have hbx := box_in (Below.refl _ _) hr.box
  have HX := Lib.hid (fun w' (hb : Below W1.heap.size W1 w') => box_in hb hr.box)
  have HR := Lib.hid hr
  have hW := hr.world
  obtain ⟨A0, off, rfl, hlc, hEl⟩ := row_elem hr.row (by omega)
  have m0 : a ∈ t.l := by rw [hl0]; simp
  obtain ⟨Y0, hY0, hYz0⟩ := txt_part (hB.part m0)
  have hc0 := fun w' (hb : Below W1.heap.size W1 w') => hEl w' hb 0 a (by rw [hl0]; rfl)
  have hT0 := hE a m0 ea
  have hne0 : (Y0.toList == []) = false := by rw [← hY0, Lib.toList_data, bs_list, beq_eq_false_iff_ne]; exact hT0.2
  have hT0 := hT0.1
  have HC0 := Lib.hid (fun w' v (hA : At w' w'.heap.size a v) => (by have := hT0 v w' hA; unfold Gives at this; rw [hY0] at this; exact this : Calls Tryd.prog 34 #[v, .string (bs (indentB k))] w' fun e w'' => e = .returned (.string Y0) ∧ Below w'.heap.size w' w''))
  have hsz := hB.str
  have HLs := Lib.hid (And.intro hc0 trivial)
  have HOp := Lib.hid (And.intro e hk)
  unfold BoxAt at hbx
  rw [e, hk] at hbx
  rw [e, hk] at hW
  rw [hk] at hlc
  obtain ⟨f0, f1, f2, f3, f4⟩ := hbx
  have HT := Lib.hid (show bs (t.txt k) = bs [116, 104, 114, 111, 119, 32] ++ Y0 ++ bs [59] by
    rw [txt_form k t (by rw [e]; decide), e, hl0, ← hY0]
    show bs ([116, 104, 114, 111, 119, 32] ++ (a.txt k ++ ([59]))) = _
    simp only [bs_two, ByteArray.append_assoc, List.append_nil])
  obtain ⟨Av0, cv0, hAt, x0, x1, x2, x3, x4⟩ := HLs.out.1 W1 (Below.refl _ _)
  have z0 : W1.cell? ⟨A0, off, none⟩ = some (.int .i64 a.op) := x0
  have z1 : W1.cell? ⟨A0, off + 1, none⟩ = some (.string (bs a.s)) := x1
  have z2 : W1.cell? ⟨A0, off + 2, none⟩ = some (.int .i64 a.n) := x2
  have z3 : W1.cell? ⟨A0, off + 3, none⟩ = some (.slice Av0 a.l.length cv0) := x3
  have z4 : W1.cell? ⟨A0, off + 4, none⟩ = some (.int .i64 a.line) := x4
  have y1 := x1
  have y2 := x2
  have y3 := x3
  have y4 := x4
  clear x0 x1 x2 x3 x4
  have hq := HC0.out W1 _ hAt
  unfold nodeV at hq
  have HQ0 := Lib.hid hq
  clear hq hAt
  unfold nodeV
  rw [e, hk]
  clear hA hE hWi hg hr hB hk hl0 e hEl hT0 hY0 hc0 ea m0
  go_enter Tryd.func47, Tryd.ntmps47
  go_wp2_with fail
  go_at_call 34
  refine HQ0.out.mono ?_
  rintro e w1 ⟨rfl, hb⟩
  have HB1 := Lib.hid hb
  clear hb f0 f1 f2 f3 f4 z0 z1 z2 z3 z4 y1 y2 y3 y4
  have hbx := HX.out w1 HB1.out
  unfold BoxAt at hbx
  rw [HOp.out.1, HOp.out.2] at hbx
  obtain ⟨f0, f1, f2, f3, f4⟩ := hbx
  go_wp2
  go_ret
  exact ⟨by rw [HT.out]; rfl, HR.out.low.trans (HB1.out.mono HR.out.low.size)⟩

set_option maxRecDepth 100000 in
set_option maxHeartbeats 4000000 in
theorem tln_39 : LineOK 39 := by
  intro k t A c w e hB hg hA hE hWi
  obtain ⟨-, -, hl0⟩ := (inv_39 e).1 hg
  obtain ⟨W1, hr⟩ : ∃ W, TIn k t A c w W := ⟨_, t_in k t A c w hA⟩
  have hk : t.l.length = 0 := by rw [hl0]; rfl
  have hbx := box_in (Below.refl _ _) hr.box
  have HX := Lib.hid (fun w' (hb : Below W1.heap.size W1 w') => box_in hb hr.box)
  have HR := Lib.hid hr
  have hW := hr.world
  have hsz := hB.str
  have HOp := Lib.hid (And.intro e hk)
  unfold BoxAt at hbx
  rw [e, hk] at hbx
  rw [e, hk] at hW
  obtain ⟨f0, f1, f2, f3, f4⟩ := hbx
  have HT := Lib.hid (show bs (t.txt k) = bs [98, 114, 101, 97, 107, 59] by
    rw [txt_form k t (by rw [e]; decide), e, hl0]
    show bs ([98, 114, 101, 97, 107, 59]) = _
    rfl)
  unfold nodeV
  rw [e, hk]
  clear hA hE hWi hg hr hB hk hl0 e
  go_enter Tryd.func47, Tryd.ntmps47
  go_wp2
  go_ret
  exact ⟨by rw [HT.out]; rfl, HR.out.low⟩

set_option maxRecDepth 100000 in
set_option maxHeartbeats 4000000 in
theorem tln_40 : LineOK 40 := by
  intro k t A c w e hB hg hA hE hWi
  obtain ⟨-, -, hl0⟩ := (inv_40 e).1 hg
  obtain ⟨W1, hr⟩ : ∃ W, TIn k t A c w W := ⟨_, t_in k t A c w hA⟩
  have hk : t.l.length = 0 := by rw [hl0]; rfl
  have hbx := box_in (Below.refl _ _) hr.box
  have HX := Lib.hid (fun w' (hb : Below W1.heap.size W1 w') => box_in hb hr.box)
  have HR := Lib.hid hr
  have hW := hr.world
  have hsz := hB.str
  have HOp := Lib.hid (And.intro e hk)
  unfold BoxAt at hbx
  rw [e, hk] at hbx
  rw [e, hk] at hW
  obtain ⟨f0, f1, f2, f3, f4⟩ := hbx
  have HT := Lib.hid (show bs (t.txt k) = bs [99, 111, 110, 116, 105, 110, 117, 101, 59] by
    rw [txt_form k t (by rw [e]; decide), e, hl0]
    show bs ([99, 111, 110, 116, 105, 110, 117, 101, 59]) = _
    rfl)
  unfold nodeV
  rw [e, hk]
  clear hA hE hWi hg hr hB hk hl0 e
  go_enter Tryd.func47, Tryd.ntmps47
  go_wp2
  go_ret
  exact ⟨by rw [HT.out]; rfl, HR.out.low⟩

set_option maxRecDepth 100000 in
set_option maxHeartbeats 4000000 in
theorem tln_34 : LineOK 34 := by
  intro k t A c w e hB hg hA hE hWi
  obtain ⟨-, -, a, b, hl0, ea, eb⟩ := (inv_34 e).1 hg
  obtain ⟨W1, hr⟩ : ∃ W, TIn k t A c w W := ⟨_, t_in k t A c w hA⟩
  have hk : t.l.length = 2 := by rw [hl0]; rfl
  have hbx := box_in (Below.refl _ _) hr.box
  have HX := Lib.hid (fun w' (hb : Below W1.heap.size W1 w') => box_in hb hr.box)
  have HR := Lib.hid hr
  have hW := hr.world
  obtain ⟨A0, off, rfl, hlc, hEl⟩ := row_elem hr.row (by omega)
  have m0 : a ∈ t.l := by rw [hl0]; simp
  obtain ⟨Y0, hY0, hYz0⟩ := txt_part (hB.part m0)
  have hc0 := fun w' (hb : Below W1.heap.size W1 w') => hEl w' hb 0 a (by rw [hl0]; rfl)
  have hT0 := hE a m0 ea
  have hne0 : (Y0.toList == []) = false := by rw [← hY0, Lib.toList_data, bs_list, beq_eq_false_iff_ne]; exact hT0.2
  have hT0 := hT0.1
  have HC0 := Lib.hid (fun w' v (hA : At w' w'.heap.size a v) => (by have := hT0 v w' hA; unfold Gives at this; rw [hY0] at this; exact this : Calls Tryd.prog 34 #[v, .string (bs (indentB k))] w' fun e w'' => e = .returned (.string Y0) ∧ Below w'.heap.size w' w''))
  have m1 : b ∈ t.l := by rw [hl0]; simp
  obtain ⟨Y1, hY1, hYz1⟩ := txt_part (hB.part m1)
  have hc1 := fun w' (hb : Below W1.heap.size W1 w') => hEl w' hb 1 b (by rw [hl0]; rfl)
  have hT1 := hWi b m1 eb
  have HC1 := Lib.hid (fun w' v (hA : At w' w'.heap.size b v) => (by have := hT1 v w' hA; unfold Gives at this; rw [hY1] at this; exact this : Calls Tryd.prog 69 #[v, .string (bs (indentB k))] w' fun e w'' => e = .returned (.string Y1) ∧ Below w'.heap.size w' w''))
  have hsz := hB.str
  have HLs := Lib.hid (And.intro hc0 hc1)
  have HOp := Lib.hid (And.intro e hk)
  unfold BoxAt at hbx
  rw [e, hk] at hbx
  rw [e, hk] at hW
  rw [hk] at hlc
  obtain ⟨f0, f1, f2, f3, f4⟩ := hbx
  have HT := Lib.hid (show bs (t.txt k) = bs [119, 104, 105, 108, 101, 32, 40] ++ Y0 ++ bs [41, 32] ++ Y1 by
    rw [txt_form k t (by rw [e]; decide), e, hl0, ← hY0, ← hY1]
    show bs ([119, 104, 105, 108, 101, 32, 40] ++ (a.txt k ++ ([41, 32] ++ (b.txt k)))) = _
    simp only [bs_two, ByteArray.append_assoc, List.append_nil])
  obtain ⟨Av0, cv0, hAt, x0, x1, x2, x3, x4⟩ := HLs.out.1 W1 (Below.refl _ _)
  have z0 : W1.cell? ⟨A0, off, none⟩ = some (.int .i64 a.op) := x0
  have z1 : W1.cell? ⟨A0, off + 1, none⟩ = some (.string (bs a.s)) := x1
  have z2 : W1.cell? ⟨A0, off + 2, none⟩ = some (.int .i64 a.n) := x2
  have z3 : W1.cell? ⟨A0, off + 3, none⟩ = some (.slice Av0 a.l.length cv0) := x3
  have z4 : W1.cell? ⟨A0, off + 4, none⟩ = some (.int .i64 a.line) := x4
  have y1 := x1
  have y2 := x2
  have y3 := x3
  have y4 := x4
  clear x0 x1 x2 x3 x4
  have hq := HC0.out W1 _ hAt
  unfold nodeV at hq
  have HQ0 := Lib.hid hq
  clear hq hAt
  unfold nodeV
  rw [e, hk]
  clear hA hE hWi hg hr hB hk hl0 e hEl hT0 hY0 hc0 ea m0 hT1 hY1 hc1 eb m1
  go_enter Tryd.func47, Tryd.ntmps47
  go_wp2_with fail
  go_at_call 34
  refine HQ0.out.mono ?_
  rintro e w1 ⟨rfl, hb⟩
  have HB1 := Lib.hid hb
  clear hb f0 f1 f2 f3 f4 z0 z1 z2 z3 z4 y1 y2 y3 y4
  have hbx := HX.out w1 HB1.out
  unfold BoxAt at hbx
  rw [HOp.out.1, HOp.out.2] at hbx
  obtain ⟨f0, f1, f2, f3, f4⟩ := hbx
  obtain ⟨Av1, cv1, hAt, x0, x1, x2, x3, x4⟩ := HLs.out.2 w1 HB1.out
  have z0 : w1.cell? ⟨A0, off + 5, none⟩ = some (.int .i64 b.op) := x0
  have z1 : w1.cell? ⟨A0, off + 6, none⟩ = some (.string (bs b.s)) := x1
  have z2 : w1.cell? ⟨A0, off + 7, none⟩ = some (.int .i64 b.n) := x2
  have z3 : w1.cell? ⟨A0, off + 8, none⟩ = some (.slice Av1 b.l.length cv1) := x3
  have z4 : w1.cell? ⟨A0, off + 9, none⟩ = some (.int .i64 b.line) := x4
  have y1 : w1.cell? ⟨A0, off + 5 + 1, none⟩ = some (.string (bs b.s)) := x1
  have y2 : w1.cell? ⟨A0, off + 5 + 2, none⟩ = some (.int .i64 b.n) := x2
  have y3 : w1.cell? ⟨A0, off + 5 + 3, none⟩ = some (.slice Av1 b.l.length cv1) := x3
  have y4 : w1.cell? ⟨A0, off + 5 + 4, none⟩ = some (.int .i64 b.line) := x4
  clear x0 x1 x2 x3 x4
  have hq := HC1.out w1 _ hAt
  unfold nodeV at hq
  have HQ1 := Lib.hid hq
  clear hq hAt
  go_wp2_with fail
  go_at_call 69
  refine HQ1.out.mono ?_
  rintro e w2 ⟨rfl, hb⟩
  have HB2 := Lib.hid (HB1.out.trans (hb.mono HB1.out.size))
  clear hb f0 f1 f2 f3 f4 z0 z1 z2 z3 z4 y1 y2 y3 y4
  have hbx := HX.out w2 HB2.out
  unfold BoxAt at hbx
  rw [HOp.out.1, HOp.out.2] at hbx
  obtain ⟨f0, f1, f2, f3, f4⟩ := hbx
  go_wp2
  go_ret
  exact ⟨by rw [HT.out]; rfl, HR.out.low.trans (HB2.out.mono HR.out.low.size)⟩

set_option maxRecDepth 100000 in
set_option maxHeartbeats 4000000 in
theorem tln_33 : LineOK 33 := by
  intro k t A c w e hB hg hA hE hWi
  obtain ⟨-, -, ⟨a, b, hl0, ea, eb⟩ | ⟨a, b, d, hl0, ea, eb, ed⟩⟩ := (inv_33 e).1 hg
  · obtain ⟨W1, hr⟩ : ∃ W, TIn k t A c w W := ⟨_, t_in k t A c w hA⟩
    have hk : t.l.length = 2 := by rw [hl0]; rfl
    have hbx := box_in (Below.refl _ _) hr.box
    have HX := Lib.hid (fun w' (hb : Below W1.heap.size W1 w') => box_in hb hr.box)
    have HR := Lib.hid hr
    have hW := hr.world
    obtain ⟨A0, off, rfl, hlc, hEl⟩ := row_elem hr.row (by omega)
    have m0 : a ∈ t.l := by rw [hl0]; simp
    obtain ⟨Y0, hY0, hYz0⟩ := txt_part (hB.part m0)
    have hc0 := fun w' (hb : Below W1.heap.size W1 w') => hEl w' hb 0 a (by rw [hl0]; rfl)
    have hT0 := hE a m0 ea
    have hne0 : (Y0.toList == []) = false := by rw [← hY0, Lib.toList_data, bs_list, beq_eq_false_iff_ne]; exact hT0.2
    have hT0 := hT0.1
    have HC0 := Lib.hid (fun w' v (hA : At w' w'.heap.size a v) => (by have := hT0 v w' hA; unfold Gives at this; rw [hY0] at this; exact this : Calls Tryd.prog 34 #[v, .string (bs (indentB k))] w' fun e w'' => e = .returned (.string Y0) ∧ Below w'.heap.size w' w''))
    have m1 : b ∈ t.l := by rw [hl0]; simp
    obtain ⟨Y1, hY1, hYz1⟩ := txt_part (hB.part m1)
    have hc1 := fun w' (hb : Below W1.heap.size W1 w') => hEl w' hb 1 b (by rw [hl0]; rfl)
    have hT1 := hWi b m1 eb
    have HC1 := Lib.hid (fun w' v (hA : At w' w'.heap.size b v) => (by have := hT1 v w' hA; unfold Gives at this; rw [hY1] at this; exact this : Calls Tryd.prog 69 #[v, .string (bs (indentB k))] w' fun e w'' => e = .returned (.string Y1) ∧ Below w'.heap.size w' w''))
    have hsz := hB.str
    have HLs := Lib.hid (And.intro hc0 hc1)
    have HOp := Lib.hid (And.intro e hk)
    unfold BoxAt at hbx
    rw [e, hk] at hbx
    rw [e, hk] at hW
    rw [hk] at hlc
    obtain ⟨f0, f1, f2, f3, f4⟩ := hbx
    have HT := Lib.hid (show bs (t.txt k) = bs [105, 102, 32, 40] ++ Y0 ++ bs [41, 32] ++ Y1 by
      rw [txt_form k t (by rw [e]; decide), e, hl0, ← hY0, ← hY1]
      show bs ([105, 102, 32, 40] ++ (a.txt k ++ ([41, 32] ++ (b.txt k ++ [])))) = _
      simp only [bs_two, ByteArray.append_assoc, List.append_nil])
    obtain ⟨Av0, cv0, hAt, x0, x1, x2, x3, x4⟩ := HLs.out.1 W1 (Below.refl _ _)
    have z0 : W1.cell? ⟨A0, off, none⟩ = some (.int .i64 a.op) := x0
    have z1 : W1.cell? ⟨A0, off + 1, none⟩ = some (.string (bs a.s)) := x1
    have z2 : W1.cell? ⟨A0, off + 2, none⟩ = some (.int .i64 a.n) := x2
    have z3 : W1.cell? ⟨A0, off + 3, none⟩ = some (.slice Av0 a.l.length cv0) := x3
    have z4 : W1.cell? ⟨A0, off + 4, none⟩ = some (.int .i64 a.line) := x4
    have y1 := x1
    have y2 := x2
    have y3 := x3
    have y4 := x4
    clear x0 x1 x2 x3 x4
    have hq := HC0.out W1 _ hAt
    unfold nodeV at hq
    have HQ0 := Lib.hid hq
    clear hq hAt
    unfold nodeV
    rw [e, hk]
    clear hA hE hWi hg hr hB hk hl0 e hEl hT0 hY0 hc0 ea m0 hT1 hY1 hc1 eb m1
    go_enter Tryd.func47, Tryd.ntmps47
    go_wp2_with fail
    go_at_call 34
    refine HQ0.out.mono ?_
    rintro e w1 ⟨rfl, hb⟩
    have HB1 := Lib.hid hb
    clear hb f0 f1 f2 f3 f4 z0 z1 z2 z3 z4 y1 y2 y3 y4
    have hbx := HX.out w1 HB1.out
    unfold BoxAt at hbx
    rw [HOp.out.1, HOp.out.2] at hbx
    obtain ⟨f0, f1, f2, f3, f4⟩ := hbx
    obtain ⟨Av1, cv1, hAt, x0, x1, x2, x3, x4⟩ := HLs.out.2 w1 HB1.out
    have z0 : w1.cell? ⟨A0, off + 5, none⟩ = some (.int .i64 b.op) := x0
    have z1 : w1.cell? ⟨A0, off + 6, none⟩ = some (.string (bs b.s)) := x1
    have z2 : w1.cell? ⟨A0, off + 7, none⟩ = some (.int .i64 b.n) := x2
    have z3 : w1.cell? ⟨A0, off + 8, none⟩ = some (.slice Av1 b.l.length cv1) := x3
    have z4 : w1.cell? ⟨A0, off + 9, none⟩ = some (.int .i64 b.line) := x4
    have y1 : w1.cell? ⟨A0, off + 5 + 1, none⟩ = some (.string (bs b.s)) := x1
    have y2 : w1.cell? ⟨A0, off + 5 + 2, none⟩ = some (.int .i64 b.n) := x2
    have y3 : w1.cell? ⟨A0, off + 5 + 3, none⟩ = some (.slice Av1 b.l.length cv1) := x3
    have y4 : w1.cell? ⟨A0, off + 5 + 4, none⟩ = some (.int .i64 b.line) := x4
    clear x0 x1 x2 x3 x4
    have hq := HC1.out w1 _ hAt
    unfold nodeV at hq
    have HQ1 := Lib.hid hq
    clear hq hAt
    go_wp2_with fail
    go_at_call 69
    refine HQ1.out.mono ?_
    rintro e w2 ⟨rfl, hb⟩
    have HB2 := Lib.hid (HB1.out.trans (hb.mono HB1.out.size))
    clear hb f0 f1 f2 f3 f4 z0 z1 z2 z3 z4 y1 y2 y3 y4
    have hbx := HX.out w2 HB2.out
    unfold BoxAt at hbx
    rw [HOp.out.1, HOp.out.2] at hbx
    obtain ⟨f0, f1, f2, f3, f4⟩ := hbx
    go_wp2
    go_ret
    exact ⟨by rw [HT.out]; rfl, HR.out.low.trans (HB2.out.mono HR.out.low.size)⟩
  · obtain ⟨W1, hr⟩ : ∃ W, TIn k t A c w W := ⟨_, t_in k t A c w hA⟩
    have hk : t.l.length = 3 := by rw [hl0]; rfl
    have hbx := box_in (Below.refl _ _) hr.box
    have HX := Lib.hid (fun w' (hb : Below W1.heap.size W1 w') => box_in hb hr.box)
    have HR := Lib.hid hr
    have hW := hr.world
    obtain ⟨A0, off, rfl, hlc, hEl⟩ := row_elem hr.row (by omega)
    have m0 : a ∈ t.l := by rw [hl0]; simp
    obtain ⟨Y0, hY0, hYz0⟩ := txt_part (hB.part m0)
    have hc0 := fun w' (hb : Below W1.heap.size W1 w') => hEl w' hb 0 a (by rw [hl0]; rfl)
    have hT0 := hE a m0 ea
    have hne0 : (Y0.toList == []) = false := by rw [← hY0, Lib.toList_data, bs_list, beq_eq_false_iff_ne]; exact hT0.2
    have hT0 := hT0.1
    have HC0 := Lib.hid (fun w' v (hA : At w' w'.heap.size a v) => (by have := hT0 v w' hA; unfold Gives at this; rw [hY0] at this; exact this : Calls Tryd.prog 34 #[v, .string (bs (indentB k))] w' fun e w'' => e = .returned (.string Y0) ∧ Below w'.heap.size w' w''))
    have m1 : b ∈ t.l := by rw [hl0]; simp
    obtain ⟨Y1, hY1, hYz1⟩ := txt_part (hB.part m1)
    have hc1 := fun w' (hb : Below W1.heap.size W1 w') => hEl w' hb 1 b (by rw [hl0]; rfl)
    have hT1 := hWi b m1 eb
    have HC1 := Lib.hid (fun w' v (hA : At w' w'.heap.size b v) => (by have := hT1 v w' hA; unfold Gives at this; rw [hY1] at this; exact this : Calls Tryd.prog 69 #[v, .string (bs (indentB k))] w' fun e w'' => e = .returned (.string Y1) ∧ Below w'.heap.size w' w''))
    have m2 : d ∈ t.l := by rw [hl0]; simp
    obtain ⟨Y2, hY2, hYz2⟩ := txt_part (hB.part m2)
    have hc2 := fun w' (hb : Below W1.heap.size W1 w') => hEl w' hb 2 d (by rw [hl0]; rfl)
    have hT2 := hWi d m2 ed
    have HC2 := Lib.hid (fun w' v (hA : At w' w'.heap.size d v) => (by have := hT2 v w' hA; unfold Gives at this; rw [hY2] at this; exact this : Calls Tryd.prog 69 #[v, .string (bs (indentB k))] w' fun e w'' => e = .returned (.string Y2) ∧ Below w'.heap.size w' w''))
    have hsz := hB.str
    have HLs := Lib.hid (And.intro hc0 (And.intro hc1 hc2))
    have HOp := Lib.hid (And.intro e hk)
    unfold BoxAt at hbx
    rw [e, hk] at hbx
    rw [e, hk] at hW
    rw [hk] at hlc
    obtain ⟨f0, f1, f2, f3, f4⟩ := hbx
    have HT := Lib.hid (show bs (t.txt k) = bs [105, 102, 32, 40] ++ Y0 ++ bs [41, 32] ++ Y1 ++ bs [32, 101, 108, 115, 101, 32] ++ Y2 by
      rw [txt_form k t (by rw [e]; decide), e, hl0, ← hY0, ← hY1, ← hY2]
      show bs ([105, 102, 32, 40] ++ (a.txt k ++ ([41, 32] ++ (b.txt k ++ ([32, 101, 108, 115, 101, 32] ++ d.txt k))))) = _
      simp only [bs_two, ByteArray.append_assoc, List.append_nil])
    obtain ⟨Av0, cv0, hAt, x0, x1, x2, x3, x4⟩ := HLs.out.1 W1 (Below.refl _ _)
    have z0 : W1.cell? ⟨A0, off, none⟩ = some (.int .i64 a.op) := x0
    have z1 : W1.cell? ⟨A0, off + 1, none⟩ = some (.string (bs a.s)) := x1
    have z2 : W1.cell? ⟨A0, off + 2, none⟩ = some (.int .i64 a.n) := x2
    have z3 : W1.cell? ⟨A0, off + 3, none⟩ = some (.slice Av0 a.l.length cv0) := x3
    have z4 : W1.cell? ⟨A0, off + 4, none⟩ = some (.int .i64 a.line) := x4
    have y1 := x1
    have y2 := x2
    have y3 := x3
    have y4 := x4
    clear x0 x1 x2 x3 x4
    have hq := HC0.out W1 _ hAt
    unfold nodeV at hq
    have HQ0 := Lib.hid hq
    clear hq hAt
    unfold nodeV
    rw [e, hk]
    clear hA hE hWi hg hr hB hk hl0 e hEl hT0 hY0 hc0 ea m0 hT1 hY1 hc1 eb m1 hT2 hY2 hc2 ed m2
    go_enter Tryd.func47, Tryd.ntmps47
    go_wp2_with fail
    go_at_call 34
    refine HQ0.out.mono ?_
    rintro e w1 ⟨rfl, hb⟩
    have HB1 := Lib.hid hb
    clear hb f0 f1 f2 f3 f4 z0 z1 z2 z3 z4 y1 y2 y3 y4
    have hbx := HX.out w1 HB1.out
    unfold BoxAt at hbx
    rw [HOp.out.1, HOp.out.2] at hbx
    obtain ⟨f0, f1, f2, f3, f4⟩ := hbx
    obtain ⟨Av1, cv1, hAt, x0, x1, x2, x3, x4⟩ := HLs.out.2.1 w1 HB1.out
    have z0 : w1.cell? ⟨A0, off + 5, none⟩ = some (.int .i64 b.op) := x0
    have z1 : w1.cell? ⟨A0, off + 6, none⟩ = some (.string (bs b.s)) := x1
    have z2 : w1.cell? ⟨A0, off + 7, none⟩ = some (.int .i64 b.n) := x2
    have z3 : w1.cell? ⟨A0, off + 8, none⟩ = some (.slice Av1 b.l.length cv1) := x3
    have z4 : w1.cell? ⟨A0, off + 9, none⟩ = some (.int .i64 b.line) := x4
    have y1 : w1.cell? ⟨A0, off + 5 + 1, none⟩ = some (.string (bs b.s)) := x1
    have y2 : w1.cell? ⟨A0, off + 5 + 2, none⟩ = some (.int .i64 b.n) := x2
    have y3 : w1.cell? ⟨A0, off + 5 + 3, none⟩ = some (.slice Av1 b.l.length cv1) := x3
    have y4 : w1.cell? ⟨A0, off + 5 + 4, none⟩ = some (.int .i64 b.line) := x4
    clear x0 x1 x2 x3 x4
    have hq := HC1.out w1 _ hAt
    unfold nodeV at hq
    have HQ1 := Lib.hid hq
    clear hq hAt
    go_wp2_with fail
    go_at_call 69
    refine HQ1.out.mono ?_
    rintro e w2 ⟨rfl, hb⟩
    have HB2 := Lib.hid (HB1.out.trans (hb.mono HB1.out.size))
    clear hb f0 f1 f2 f3 f4 z0 z1 z2 z3 z4 y1 y2 y3 y4
    have hbx := HX.out w2 HB2.out
    unfold BoxAt at hbx
    rw [HOp.out.1, HOp.out.2] at hbx
    obtain ⟨f0, f1, f2, f3, f4⟩ := hbx
    obtain ⟨Av2, cv2, hAt, x0, x1, x2, x3, x4⟩ := HLs.out.2.2 w2 HB2.out
    have z0 : w2.cell? ⟨A0, off + 10, none⟩ = some (.int .i64 d.op) := x0
    have z1 : w2.cell? ⟨A0, off + 11, none⟩ = some (.string (bs d.s)) := x1
    have z2 : w2.cell? ⟨A0, off + 12, none⟩ = some (.int .i64 d.n) := x2
    have z3 : w2.cell? ⟨A0, off + 13, none⟩ = some (.slice Av2 d.l.length cv2) := x3
    have z4 : w2.cell? ⟨A0, off + 14, none⟩ = some (.int .i64 d.line) := x4
    have y1 : w2.cell? ⟨A0, off + 10 + 1, none⟩ = some (.string (bs d.s)) := x1
    have y2 : w2.cell? ⟨A0, off + 10 + 2, none⟩ = some (.int .i64 d.n) := x2
    have y3 : w2.cell? ⟨A0, off + 10 + 3, none⟩ = some (.slice Av2 d.l.length cv2) := x3
    have y4 : w2.cell? ⟨A0, off + 10 + 4, none⟩ = some (.int .i64 d.line) := x4
    clear x0 x1 x2 x3 x4
    have hq := HC2.out w2 _ hAt
    unfold nodeV at hq
    have HQ2 := Lib.hid hq
    clear hq hAt
    go_wp2_with fail
    go_at_call 69
    refine HQ2.out.mono ?_
    rintro e w3 ⟨rfl, hb⟩
    have HB3 := Lib.hid (HB2.out.trans (hb.mono HB2.out.size))
    clear hb f0 f1 f2 f3 f4 z0 z1 z2 z3 z4 y1 y2 y3 y4
    have hbx := HX.out w3 HB3.out
    unfold BoxAt at hbx
    rw [HOp.out.1, HOp.out.2] at hbx
    obtain ⟨f0, f1, f2, f3, f4⟩ := hbx
    go_wp2
    go_ret
    exact ⟨by rw [HT.out]; rfl, HR.out.low.trans (HB3.out.mono HR.out.low.size)⟩
end Go.Proofs.YtiejpenffpjmeaaDoor

namespace Go.Proofs.YtiejpenffpjmeaaDoor
set_option linter.unusedSimpArgs false
set_option linter.unusedVariables false
open Go.RowKit Go.Proofs


set_option maxRecDepth 100000 in
set_option maxHeartbeats 4000000 in
theorem tln_35 : LineOK 35 := by
  intro k t A c w e hB hg hA hE hWi
  obtain ⟨-, -, a, b, hl0, ea, eb⟩ := (inv_35 e).1 hg
  obtain ⟨W1, hr⟩ : ∃ W, TIn k t A c w W := ⟨_, t_in k t A c w hA⟩
  have hk : t.l.length = 2 := by rw [hl0]; rfl
  have hbx := box_in (Below.refl _ _) hr.box
  have HX := Lib.hid (fun w' (hb : Below W1.heap.size W1 w') => box_in hb hr.box)
  have HR := Lib.hid hr
  have hW := hr.world
  obtain ⟨A0, off, rfl, hlc, hEl⟩ := row_elem hr.row (by omega)
  have m0 : a ∈ t.l := by rw [hl0]; simp
  obtain ⟨Y0, hY0, hYz0⟩ := txt_part (hB.part m0)
  have hc0 := fun w' (hb : Below W1.heap.size W1 w') => hEl w' hb 0 a (by rw [hl0]; rfl)
  have hT0 := hE a m0 ea
  have hne0 : (Y0.toList == []) = false := by rw [← hY0, Lib.toList_data, bs_list, beq_eq_false_iff_ne]; exact hT0.2
  have hT0 := hT0.1
  have HC0 := Lib.hid (fun w' v (hA : At w' w'.heap.size a v) => (by have := hT0 v w' hA; unfold Gives at this; rw [hY0] at this; exact this : Calls Tryd.prog 34 #[v, .string (bs (indentB k))] w' fun e w'' => e = .returned (.string Y0) ∧ Below w'.heap.size w' w''))
  have m1 : b ∈ t.l := by rw [hl0]; simp
  obtain ⟨Y1, hY1, hYz1⟩ := txt_part (hB.part m1)
  have hc1 := fun w' (hb : Below W1.heap.size W1 w') => hEl w' hb 1 b (by rw [hl0]; rfl)
  have hT1 := hWi b m1 eb
  have HC1 := Lib.hid (fun w' v (hA : At w' w'.heap.size b v) => (by have := hT1 v w' hA; unfold Gives at this; rw [hY1] at this; exact this : Calls Tryd.prog 69 #[v, .string (bs (indentB k))] w' fun e w'' => e = .returned (.string Y1) ∧ Below w'.heap.size w' w''))
  have hsz := hB.str
  have HLs := Lib.hid (And.intro hc0 hc1)
  have HOp := Lib.hid (And.intro e hk)
  unfold BoxAt at hbx
  rw [e, hk] at hbx
  rw [e, hk] at hW
  rw [hk] at hlc
  obtain ⟨f0, f1, f2, f3, f4⟩ := hbx
  have HT := Lib.hid (show bs (t.txt k) = bs [102, 111, 114, 32, 40, 118, 97, 114, 32] ++ bs t.s ++ bs [32, 105, 110, 32] ++ Y0 ++ bs [41, 32] ++ Y1 by
    rw [txt_form k t (by rw [e]; decide), e, hl0, ← hY0, ← hY1]
    show bs ([102, 111, 114, 32, 40, 118, 97, 114, 32] ++ (t.s ++ ([32, 105, 110, 32] ++ (a.txt k ++ ([41, 32] ++ (b.txt k)))))) = _
    simp only [bs_two, ByteArray.append_assoc, List.append_nil])
  obtain ⟨Av0, cv0, hAt, x0, x1, x2, x3, x4⟩ := HLs.out.1 W1 (Below.refl _ _)
  have z0 : W1.cell? ⟨A0, off, none⟩ = some (.int .i64 a.op) := x0
  have z1 : W1.cell? ⟨A0, off + 1, none⟩ = some (.string (bs a.s)) := x1
  have z2 : W1.cell? ⟨A0, off + 2, none⟩ = some (.int .i64 a.n) := x2
  have z3 : W1.cell? ⟨A0, off + 3, none⟩ = some (.slice Av0 a.l.length cv0) := x3
  have z4 : W1.cell? ⟨A0, off + 4, none⟩ = some (.int .i64 a.line) := x4
  have y1 := x1
  have y2 := x2
  have y3 := x3
  have y4 := x4
  clear x0 x1 x2 x3 x4
  have hq := HC0.out W1 _ hAt
  unfold nodeV at hq
  have HQ0 := Lib.hid hq
  clear hq hAt
  unfold nodeV
  rw [e, hk]
  clear hA hE hWi hg hr hB hk hl0 e hEl hT0 hY0 hc0 ea m0 hT1 hY1 hc1 eb m1
  have q0 : ¬ (9223372036854775807 < 9 + (bs t.s).size) := by omega
  have q1 : ¬ (9223372036854775807 < 9 + (bs t.s).size + 4) := by omega
  have q2 : ¬ (9223372036854775807 < 9 + (bs t.s).size + 4 + Y0.size) := by omega
  have q3 : ¬ (9223372036854775807 < 9 + (bs t.s).size + 4 + Y0.size + 2) := by omega
  have q4 : ¬ (9223372036854775807 < 9 + (bs t.s).size + 4 + Y0.size + 2 + Y1.size) := by omega
  go_enter Tryd.func47, Tryd.ntmps47
  go_wp2_with fail
  go_at_call 34
  refine HQ0.out.mono ?_
  rintro e w1 ⟨rfl, hb⟩
  have HB1 := Lib.hid hb
  clear hb f0 f1 f2 f3 f4 z0 z1 z2 z3 z4 y1 y2 y3 y4
  have hbx := HX.out w1 HB1.out
  unfold BoxAt at hbx
  rw [HOp.out.1, HOp.out.2] at hbx
  obtain ⟨f0, f1, f2, f3, f4⟩ := hbx
  go_wp2_with fail
  have hdr : Below W1.heap.size W1 w1.drew := HB1.out.drew
  have HDr := Lib.hid hdr
  clear hdr
  obtain ⟨Av1, cv1, hAt, x0, x1, x2, x3, x4⟩ := HLs.out.2 w1.drew HDr.out
  have z0 : w1.drew.cell? ⟨A0, off + 5, none⟩ = some (.int .i64 b.op) := x0
  have z1 : w1.drew.cell? ⟨A0, off + 6, none⟩ = some (.string (bs b.s)) := x1
  have z2 : w1.drew.cell? ⟨A0, off + 7, none⟩ = some (.int .i64 b.n) := x2
  have z3 : w1.drew.cell? ⟨A0, off + 8, none⟩ = some (.slice Av1 b.l.length cv1) := x3
  have z4 : w1.drew.cell? ⟨A0, off + 9, none⟩ = some (.int .i64 b.line) := x4
  have y1 : w1.drew.cell? ⟨A0, off + 5 + 1, none⟩ = some (.string (bs b.s)) := x1
  have y2 : w1.drew.cell? ⟨A0, off + 5 + 2, none⟩ = some (.int .i64 b.n) := x2
  have y3 : w1.drew.cell? ⟨A0, off + 5 + 3, none⟩ = some (.slice Av1 b.l.length cv1) := x3
  have y4 : w1.drew.cell? ⟨A0, off + 5 + 4, none⟩ = some (.int .i64 b.line) := x4
  clear x0 x1 x2 x3 x4
  have hq := HC1.out w1.drew _ hAt
  unfold nodeV at hq
  have HQ1 := Lib.hid hq
  have hq2 := fun w' (hb : Below w1.drew.heap.size w1.drew w') => HC1.out w' _ (At.keep b hAt hb.size fun p hp => hb.cell hp)
  unfold nodeV at hq2
  have HK1 := Lib.hid hq2
  clear hq hAt hq2
  have s1_0 := z0
  have s1_1 := z1
  have s1_2 := z2
  have s1_3 := z3
  have s1_4 := z4
  clear z0 z1 z2 z3 z4 y1 y2 y3 y4
  have hS : ∀ w', Below w1.drew.heap.size w1.drew w' → w'.cell? ⟨w.heap.size, 1, none⟩ = some (.string (bs t.s)) ∧ w'.cell? ⟨w.heap.size, 3, none⟩ = some (.slice (some ⟨A0, off, none⟩) 2 c) ∧ w'.cell? ⟨A0, off + 5, none⟩ = some (.int .i64 b.op) ∧ w'.cell? ⟨A0, off + 6, none⟩ = some (.string (bs b.s)) ∧ w'.cell? ⟨A0, off + 7, none⟩ = some (.int .i64 b.n) ∧ w'.cell? ⟨A0, off + 8, none⟩ = some (.slice Av1 b.l.length cv1) ∧ w'.cell? ⟨A0, off + 9, none⟩ = some (.int .i64 b.line) := fun w' hb => by
    have lt : ∀ {p : Addr} {v : Value}, w1.drew.cell? p = some v → w'.cell? p = some v := fun h => (hb.cell (by obtain ⟨o, ho, -⟩ := cells_of_cell h; exact (Array.getElem?_eq_some_iff.1 ho).1)).trans h
    exact ⟨lt f1, lt f3, lt s1_0, lt s1_1, lt s1_2, lt s1_3, lt s1_4⟩
  have HS := Lib.hid hS
  clear hS
  go_region_held3 (fun w' => w'.cell? ⟨w.heap.size, 1, none⟩ = some (.string (bs t.s)) ∧ w'.cell? ⟨w.heap.size, 3, none⟩ = some (.slice (some ⟨A0, off, none⟩) 2 c) ∧ w'.cell? ⟨A0, off + 5, none⟩ = some (.int .i64 b.op) ∧ w'.cell? ⟨A0, off + 6, none⟩ = some (.string (bs b.s)) ∧ w'.cell? ⟨A0, off + 7, none⟩ = some (.int .i64 b.n) ∧ w'.cell? ⟨A0, off + 8, none⟩ = some (.slice Av1 b.l.length cv1) ∧ w'.cell? ⟨A0, off + 9, none⟩ = some (.int .i64 b.line))
    (first | go_keep | (exact HS.out _ V1.out) | (exact HS.out _ (Below.refl _ _)))
    (first | (go_at_call 69; refine HQ1.out.mono ?_; rintro e v1 ⟨rfl, hb⟩; have V1 := Lib.hid hb; clear hb HQ1))
  go_wp2
  have HBz := Lib.hid (HDr.out.trans (V1.out.mono HDr.out.size))
  go_ret
  exact ⟨by rw [HT.out]; rfl, HR.out.low.trans (HBz.out.mono HR.out.low.size)⟩

set_option maxRecDepth 100000 in
set_option maxHeartbeats 4000000 in
theorem tln_38 : LineOK 38 := by
  intro k t A c w e hB hg hA hE hWi
  obtain ⟨-, -, a, b, hl0, ea, eb⟩ := (inv_38 e).1 hg
  obtain ⟨W1, hr⟩ : ∃ W, TIn k t A c w W := ⟨_, t_in k t A c w hA⟩
  have hk : t.l.length = 2 := by rw [hl0]; rfl
  have hbx := box_in (Below.refl _ _) hr.box
  have HX := Lib.hid (fun w' (hb : Below W1.heap.size W1 w') => box_in hb hr.box)
  have HR := Lib.hid hr
  have hW := hr.world
  obtain ⟨A0, off, rfl, hlc, hEl⟩ := row_elem hr.row (by omega)
  have m0 : a ∈ t.l := by rw [hl0]; simp
  obtain ⟨Y0, hY0, hYz0⟩ := txt_part (hB.part m0)
  have hc0 := fun w' (hb : Below W1.heap.size W1 w') => hEl w' hb 0 a (by rw [hl0]; rfl)
  have hT0 := hWi a m0 ea
  have HC0 := Lib.hid (fun w' v (hA : At w' w'.heap.size a v) => (by have := hT0 v w' hA; unfold Gives at this; rw [hY0] at this; exact this : Calls Tryd.prog 69 #[v, .string (bs (indentB k))] w' fun e w'' => e = .returned (.string Y0) ∧ Below w'.heap.size w' w''))
  have m1 : b ∈ t.l := by rw [hl0]; simp
  obtain ⟨Y1, hY1, hYz1⟩ := txt_part (hB.part m1)
  have hc1 := fun w' (hb : Below W1.heap.size W1 w') => hEl w' hb 1 b (by rw [hl0]; rfl)
  have hT1 := hWi b m1 eb
  have HC1 := Lib.hid (fun w' v (hA : At w' w'.heap.size b v) => (by have := hT1 v w' hA; unfold Gives at this; rw [hY1] at this; exact this : Calls Tryd.prog 69 #[v, .string (bs (indentB k))] w' fun e w'' => e = .returned (.string Y1) ∧ Below w'.heap.size w' w''))
  have hsz := hB.str
  have HLs := Lib.hid (And.intro hc0 hc1)
  have HOp := Lib.hid (And.intro e hk)
  unfold BoxAt at hbx
  rw [e, hk] at hbx
  rw [e, hk] at hW
  rw [hk] at hlc
  obtain ⟨f0, f1, f2, f3, f4⟩ := hbx
  have HT := Lib.hid (show bs (t.txt k) = bs [116, 114, 121, 32] ++ Y0 ++ bs [32, 99, 97, 116, 99, 104, 32, 40] ++ bs t.s ++ bs [41, 32] ++ Y1 by
    rw [txt_form k t (by rw [e]; decide), e, hl0, ← hY0, ← hY1]
    show bs ([116, 114, 121, 32] ++ (a.txt k ++ ([32, 99, 97, 116, 99, 104, 32, 40] ++ (t.s ++ ([41, 32] ++ (b.txt k)))))) = _
    simp only [bs_two, ByteArray.append_assoc, List.append_nil])
  unfold nodeV
  rw [e, hk]
  clear hA hE hWi hg hr hB hk hl0 e hEl hT0 hY0 hc0 ea m0 hT1 hY1 hc1 eb m1
  have q0 : ¬ (9223372036854775807 < 4 + Y0.size) := by omega
  have q1 : ¬ (9223372036854775807 < 4 + Y0.size + 8) := by omega
  have q2 : ¬ (9223372036854775807 < 4 + Y0.size + 8 + (bs t.s).size) := by omega
  have q3 : ¬ (9223372036854775807 < 4 + Y0.size + 8 + (bs t.s).size + 2) := by omega
  have q4 : ¬ (9223372036854775807 < 4 + Y0.size + 8 + (bs t.s).size + 2 + Y1.size) := by omega
  go_enter Tryd.func47, Tryd.ntmps47
  go_wp2_with fail
  have hdr : Below W1.heap.size W1 W1.drew := (Below.refl _ _).drew
  have HDr := Lib.hid hdr
  clear hdr
  obtain ⟨Av0, cv0, hAt, x0, x1, x2, x3, x4⟩ := HLs.out.1 W1.drew HDr.out
  have z0 : W1.drew.cell? ⟨A0, off, none⟩ = some (.int .i64 a.op) := x0
  have z1 : W1.drew.cell? ⟨A0, off + 1, none⟩ = some (.string (bs a.s)) := x1
  have z2 : W1.drew.cell? ⟨A0, off + 2, none⟩ = some (.int .i64 a.n) := x2
  have z3 : W1.drew.cell? ⟨A0, off + 3, none⟩ = some (.slice Av0 a.l.length cv0) := x3
  have z4 : W1.drew.cell? ⟨A0, off + 4, none⟩ = some (.int .i64 a.line) := x4
  have y1 := x1
  have y2 := x2
  have y3 := x3
  have y4 := x4
  clear x0 x1 x2 x3 x4
  have hq := HC0.out W1.drew _ hAt
  unfold nodeV at hq
  have HQ0 := Lib.hid hq
  have hq2 := fun w' (hb : Below W1.drew.heap.size W1.drew w') => HC0.out w' _ (At.keep a hAt hb.size fun p hp => hb.cell hp)
  unfold nodeV at hq2
  have HK0 := Lib.hid hq2
  clear hq hAt hq2
  have s0_0 := z0
  have s0_1 := z1
  have s0_2 := z2
  have s0_3 := z3
  have s0_4 := z4
  clear z0 z1 z2 z3 z4 y1 y2 y3 y4
  obtain ⟨Av1, cv1, hAt, x0, x1, x2, x3, x4⟩ := HLs.out.2 W1.drew HDr.out
  have z0 : W1.drew.cell? ⟨A0, off + 5, none⟩ = some (.int .i64 b.op) := x0
  have z1 : W1.drew.cell? ⟨A0, off + 6, none⟩ = some (.string (bs b.s)) := x1
  have z2 : W1.drew.cell? ⟨A0, off + 7, none⟩ = some (.int .i64 b.n) := x2
  have z3 : W1.drew.cell? ⟨A0, off + 8, none⟩ = some (.slice Av1 b.l.length cv1) := x3
  have z4 : W1.drew.cell? ⟨A0, off + 9, none⟩ = some (.int .i64 b.line) := x4
  have y1 : W1.drew.cell? ⟨A0, off + 5 + 1, none⟩ = some (.string (bs b.s)) := x1
  have y2 : W1.drew.cell? ⟨A0, off + 5 + 2, none⟩ = some (.int .i64 b.n) := x2
  have y3 : W1.drew.cell? ⟨A0, off + 5 + 3, none⟩ = some (.slice Av1 b.l.length cv1) := x3
  have y4 : W1.drew.cell? ⟨A0, off + 5 + 4, none⟩ = some (.int .i64 b.line) := x4
  clear x0 x1 x2 x3 x4
  have hq := HC1.out W1.drew _ hAt
  unfold nodeV at hq
  have HQ1 := Lib.hid hq
  have hq2 := fun w' (hb : Below W1.drew.heap.size W1.drew w') => HC1.out w' _ (At.keep b hAt hb.size fun p hp => hb.cell hp)
  unfold nodeV at hq2
  have HK1 := Lib.hid hq2
  clear hq hAt hq2
  have s1_0 := z0
  have s1_1 := z1
  have s1_2 := z2
  have s1_3 := z3
  have s1_4 := z4
  clear z0 z1 z2 z3 z4 y1 y2 y3 y4
  have hS : ∀ w', Below W1.drew.heap.size W1.drew w' → w'.cell? ⟨w.heap.size, 1, none⟩ = some (.string (bs t.s)) ∧ w'.cell? ⟨w.heap.size, 3, none⟩ = some (.slice (some ⟨A0, off, none⟩) 2 c) ∧ w'.cell? ⟨A0, off, none⟩ = some (.int .i64 a.op) ∧ w'.cell? ⟨A0, off + 1, none⟩ = some (.string (bs a.s)) ∧ w'.cell? ⟨A0, off + 2, none⟩ = some (.int .i64 a.n) ∧ w'.cell? ⟨A0, off + 3, none⟩ = some (.slice Av0 a.l.length cv0) ∧ w'.cell? ⟨A0, off + 4, none⟩ = some (.int .i64 a.line) ∧ w'.cell? ⟨A0, off + 5, none⟩ = some (.int .i64 b.op) ∧ w'.cell? ⟨A0, off + 6, none⟩ = some (.string (bs b.s)) ∧ w'.cell? ⟨A0, off + 7, none⟩ = some (.int .i64 b.n) ∧ w'.cell? ⟨A0, off + 8, none⟩ = some (.slice Av1 b.l.length cv1) ∧ w'.cell? ⟨A0, off + 9, none⟩ = some (.int .i64 b.line) := fun w' hb => by
    have lt : ∀ {p : Addr} {v : Value}, W1.drew.cell? p = some v → w'.cell? p = some v := fun h => (hb.cell (by obtain ⟨o, ho, -⟩ := cells_of_cell h; exact (Array.getElem?_eq_some_iff.1 ho).1)).trans h
    exact ⟨lt f1, lt f3, lt s0_0, lt s0_1, lt s0_2, lt s0_3, lt s0_4, lt s1_0, lt s1_1, lt s1_2, lt s1_3, lt s1_4⟩
  have HS := Lib.hid hS
  clear hS
  clear HQ1
  go_region_held3 (fun w' => w'.cell? ⟨w.heap.size, 1, none⟩ = some (.string (bs t.s)) ∧ w'.cell? ⟨w.heap.size, 3, none⟩ = some (.slice (some ⟨A0, off, none⟩) 2 c) ∧ w'.cell? ⟨A0, off, none⟩ = some (.int .i64 a.op) ∧ w'.cell? ⟨A0, off + 1, none⟩ = some (.string (bs a.s)) ∧ w'.cell? ⟨A0, off + 2, none⟩ = some (.int .i64 a.n) ∧ w'.cell? ⟨A0, off + 3, none⟩ = some (.slice Av0 a.l.length cv0) ∧ w'.cell? ⟨A0, off + 4, none⟩ = some (.int .i64 a.line) ∧ w'.cell? ⟨A0, off + 5, none⟩ = some (.int .i64 b.op) ∧ w'.cell? ⟨A0, off + 6, none⟩ = some (.string (bs b.s)) ∧ w'.cell? ⟨A0, off + 7, none⟩ = some (.int .i64 b.n) ∧ w'.cell? ⟨A0, off + 8, none⟩ = some (.slice Av1 b.l.length cv1) ∧ w'.cell? ⟨A0, off + 9, none⟩ = some (.int .i64 b.line))
    (first | go_keep | (exact HS.out _ V2.out) | (exact HS.out _ V1.out) | (exact HS.out _ (Below.refl _ _)))
    (first | (go_at_call 69; refine HQ0.out.mono ?_; rintro e v1 ⟨rfl, hb⟩; have V1 := Lib.hid hb; have HP1 := Lib.hid (HK1.out v1 V1.out); clear hb HQ0) | (go_at_call 69; refine HP1.out.mono ?_; rintro e v2 ⟨rfl, hb⟩; have V2 := Lib.hid (V1.out.trans (hb.mono V1.out.size)); clear hb HP1))
  go_wp2
  have HBz := Lib.hid (HDr.out.trans (V2.out.mono HDr.out.size))
  go_ret
  exact ⟨by rw [HT.out]; rfl, HR.out.low.trans (HBz.out.mono HR.out.low.size)⟩
end Go.Proofs.YtiejpenffpjmeaaDoor
