/- code.digits, words, line: an instruction's line. -/
import Derived.Test.YtconnhphkbgbkaaGreatDoorCdShelf
import Derived.Test.YtconnhphkbgbkaaGreatDoorCdQuote
import Derived.Test.YtconnhphkbgbkaaGreatDoorCdRows
import Derived.Lib.LaidTab
import Derived.Lib.Join
import Derived.Laws.OwnMore
namespace Go.Proofs.YtconnhphkbgbkaaGreatDoor
open Go.RowKit Go.Proofs

def Env (w : World) : Prop := Lib.TabIs Tryz.prog w Tryz.tabName .u64 Lib.pow10Tab ∧ 0 < w.heap.size
theorem Env.below {w w' : World} {B : Nat} (h : Env w) (hB : 0 < B) (hb : Below B w w') : Env w' :=
  ⟨var?_below hb Tryz.gTab hB h.1, by have := hb.size; have := h.2; omega⟩
theorem Env.kept {w w' : World} (h : Env w) (hb : Below w.heap.size w w') : Env w' := h.below h.2 hb
theorem below_grow (w : World) (k : Nat) (os : Array Obj) : Below w.heap.size w (Sort.grow (w.drewN k) os) :=
  ⟨rfl, rfl, rfl, by simp [Sort.grow], fun i hi => by
    show (w.heap ++ os)[i]? = _
    rw [Array.getElem?_append_left hi]⟩
theorem itoa_any (n : Int) (hn : I64 n) (w : World) (hE : Env w) : Calls Tryz.prog 14 #[.int .i64 n] w fun e w' => e = .returned (.string (bs (Lib.itoa n))) ∧ Below w.heap.size w w' :=
  (Tryz.strconv_Itoa n hn.1 hn.2 w hE.1).mono fun e w' ⟨h1, k, os, h2⟩ => ⟨h1, by rw [h2]; exact below_grow w k os⟩
theorem fmt_any (n : Int) (hn : I64 n) (w : World) (hE : Env w) : Calls Tryz.prog 29 #[.int .i64 n, .int .i64 10] w fun e w' => e = .returned (.string (bs (Lib.itoa n))) ∧ Below w.heap.size w w' :=
  (Tryz.strconv_FormatInt_10 n hn.1 hn.2 w hE.1).mono fun e w' ⟨h1, k, os, h2⟩ => ⟨h1, by rw [h2]; exact below_grow w k os⟩

/-- Texts in a slice. -/
def StrP (_ : World) (cs : List Value) (s : ByteArray) : Prop := cs = [.string s]
theorem StrP.keeps : Keeps StrP := fun _ _ _ _ h _ => h
def strsV (ts : List ByteArray) : List Value := ts.map Value.string
theorem info9 : (Tryz.prog.info? 9).map (fun i => (i.zero, i.size, i.bytes)) = some (some (.string ⟨#[]⟩), 1, 16) := by kernel_rfl
/-- A row of texts of one's own, from block B on. -/
def OwnS (w : World) (B : Nat) (v : Value) (ts : List ByteArray) : Prop := w.ownsRow B 9 1 v ts.length (strsV ts)
theorem OwnS.at_ {w : World} {B : Nat} {v : Value} {ts : List ByteArray} (h : OwnS w B v ts) : SlAt 1 StrP w v ts := by
  rcases h.2 with ⟨rfl, h0⟩ | ⟨g, cap, cur, rfl, h1, h2, h3, h4, h5⟩
  · rw [List.eq_nil_of_length_eq_zero h0]
    exact SlAt.nil _ _ _
  · refine ⟨_, cap, rfl, ⟨h3, h4⟩, fun _ => ⟨g, 0, rfl, heap_lt h2, fun i s hs => ⟨[.string s], rfl, fun j hj => ?_⟩⟩⟩
    obtain rfl : j = 0 := by omega
    have hi : i < ts.length := (List.getElem?_eq_some_iff.1 hs).1
    have := World.ownsRow.cellAt (cap := cap) (g := g) ⟨h.1, .inr ⟨g, cap, cur, rfl, h1, h2, h3, h4, h5⟩⟩ i (by omega)
    simp only [Nat.zero_add, Nat.mul_one, Nat.add_zero]
    rw [this]
    simp [strsV, hs]
theorem OwnS.below {w w' : World} {B : Nat} {v : Value} {ts : List ByteArray} (h : OwnS w B v ts) (hb : Below w.heap.size w w') : OwnS w' B v ts := ownsRow_below h hb
/-- Texts are appended. -/
theorem app_strs (w : World) (B B2 : Nat) (v src : Value) (ts news : List ByteArray) (hrow : OwnS w B v ts) (hs : OwnS w B2 src news) (hB : B ≤ w.heap.size) (hl : ts.length + news.length ≤ 1000) :
    ∃ v' w', (Builtin.append_ #[47, 47] 47 #[v, src]).run Tryz.prog w = .ok v' w' ∧ (OwnS w' B v' (ts ++ news) ∧ Below B w w') := by
  obtain ⟨i0, hi, hz0, hz1, hz2⟩ := info_parts info9
  rcases hs.2 with ⟨rfl, h0⟩ | ⟨g, cap, cur, rfl, h1, h2, h3, h4, h5⟩
  · obtain rfl : news = [] := List.eq_nil_of_length_eq_zero h0
    refine ⟨v, w, run_append_owned_none w B 47 47 9 i0 1 Tryz.underlying47 hi v ts.length (strsV ts) hrow, ?_, Below.refl _ _⟩
    rw [List.append_nil]
    exact hrow
  · have hc : ∀ j u, (strsV news)[j]? = some u → w.cell? ((⟨g, 0, none⟩ : Addr).add j) = some u := fun j u hj => by
      have hj2 : j < news.length := by have := (List.getElem?_eq_some_iff.1 hj).1; simpa [strsV] using this
      have := World.ownsRow.cellAt (cap := cap) (g := g) ⟨hs.1, .inr ⟨g, cap, cur, rfl, h1, h2, h3, h4, h5⟩⟩ j (by omega)
      have e : (⟨g, 0, none⟩ : Addr).add j = ⟨g, j, none⟩ := by unfold Addr.add; split <;> simp_all
      rw [e, this]
      exact hj
    obtain ⟨v', w', hr, ho, hg, -⟩ := run_append_own (P := Tryz.prog) (w := w) B 47 47 9 i0 (.string ⟨#[]⟩) 1 16 Tryz.underlying47 hi hz0 hz1 hz2 rfl (by decide) v ts.length (strsV ts) hrow ⟨g, 0, none⟩ news.length cap (strsV news) (by simp [strsV]) hc (fun u hu => by
      obtain ⟨s, -, rfl⟩ := List.mem_map.1 hu
      rfl) (by unfold maxLen; omega) (by omega) hB
    refine ⟨v', w', hr, ?_, (Below.refl B w).grown hg hB (own_row_ge hrow)⟩
    unfold OwnS
    rw [List.length_append]
    simpa [strsV] using ho
theorem own_lit (w : World) (ts : List ByteArray) (n : Nat) (cs : Array Value) (hn : ts.length = n) (hc : cs = (strsV ts).toArray) (hl : n ≤ 1000) : OwnS (w.alloc (.cells cs 9)) w.heap.size (.slice (some ⟨w.heap.size, 0, none⟩) n n) ts := by
  subst hn hc
  have := World.ownsRow_lit (base := w.heap.size) (e := 9) (size := 1) w (strsV ts).toArray ts.length (Nat.le_refl _) (by unfold maxLen; omega) (by simp [strsV])
  unfold OwnS
  simpa using this

def numT (l : List Int) : List ByteArray := l.map fun n => bs (Lib.itoa n)
theorem numT_take {l : List Int} {k : Nat} {x : Int} (h : l[k]? = some x) : numT (l.take (k + 1)) = numT (l.take k) ++ [bs (Lib.itoa x)] := by
  unfold numT
  rw [List.take_add_one, h, List.map_append]
  rfl
theorem numT_len (l : List Int) : (numT l).length = l.length := by simp [numT]
set_option maxRecDepth 100000 in
set_option maxHeartbeats 4000000 in
theorem digits_any (v : Value) (l : List Int) (w : World) (hv : Ints9 w v l) (hE : Env w) (hl : l.length ≤ 100) :
    Calls Tryz.prog 28 #[v] w fun e w' => (∃ v', e = .returned v' ∧ OwnS w' w.heap.size v' (numT l)) ∧ Below w.heap.size w w' := by
  obtain ⟨A, cap, rfl⟩ := SlAt.form hv
  obtain ⟨-, hca, hcm, -⟩ := SlAt.get hv
  have hm1 : cap ≤ 9223372036854775807 := hcm
  have HV := Lib.hid hv
  have HE := Lib.hid hE
  clear hv hE hcm
  go_enter Tryz.func28, Tryz.ntmps28
  go_wp2
  go_loopw [3, 8] (fun v i wr => ∃ k : Nat, k ≤ l.length ∧ i = .int .i64 k ∧ OwnS wr w.heap.size v (numT (l.take k)) ∧ Below w.heap.size w wr) (fun _ i _ => l.length - (intOf i).toNat)
  case atStart => exact ⟨0, Nat.zero_le _, rfl, ⟨rfl, .inl ⟨rfl, rfl⟩⟩, Below.refl _ _⟩
  case round =>
    obtain ⟨k, hk, rfl, hown, hB⟩ := hrel
    by_cases hlt : k < l.length
    · obtain ⟨g, off, x, rfl, hg, hx, hxi, hc⟩ := int_get HV.out k hlt
      rw [← hB.cell (p := ⟨g, off + k, none⟩) hg] at hc
      have g1 : (k : Int) < l.length := by omega
      have HI := Lib.hid (itoa_any x hxi wr (HE.out.kept hB))
      have HX := Lib.hid (numT_take hx)
      have HO := Lib.hid (And.intro hown hB)
      clear hx hxi hown hB
      go_wp2_with fail
      go_at_call 14
      refine HI.out.mono ?_
      rintro e w1 ⟨rfl, hb1⟩
      have HO1 := Lib.hid (And.intro (HO.out.1.below hb1) (HO.out.2.trans (hb1.mono HO.out.2.size)))
      clear hb1 HI
      have hal := (Below.refl w1.heap.size w1).alloc (Nat.le_refl _) (.cells #[.string (bs (Lib.itoa x))] 9)
      have hrun := app_strs (w1.alloc (.cells #[.string (bs (Lib.itoa x))] 9)) w.heap.size w1.heap.size _ (.slice (some ⟨w1.heap.size, 0, none⟩) 1 1) (numT (l.take k)) [bs (Lib.itoa x)] (HO1.out.1.below hal) (own_lit w1 [bs (Lib.itoa x)] 1 _ rfl rfl (by omega)) (by have := HO1.out.2.size; simp; omega) (by rw [numT_len]; simp; omega)
      have HRun := Lib.hid hrun
      clear hrun hal
      go_wp2_with (at_builtin; refine wl_app rfl _ _ 47 rfl _ _ rfl rfl _ HRun.out ?_; rintro v' w' ⟨h1, h2⟩; have HA := Lib.hid (And.intro h1 h2); clear h1 h2)
      go_roundw
      case rel => exact ⟨k + 1, by omega, by go_num, by rw [HX.out]; exact HA.out.1, (HO1.out.2.alloc HO1.out.2.size _).trans HA.out.2⟩
      case measure => simp [intOf]; omega
    · have g1 : ¬ (k : Int) < l.length := by omega
      have HO := Lib.hid (show OwnS wr w.heap.size _ (numT l) by rw [List.take_of_length_le (by omega)] at hown; exact hown)
      clear hown
      go_wp2
      go_ret
      exact ⟨⟨_, rfl, HO.out⟩, hB⟩
end Go.Proofs.YtconnhphkbgbkaaGreatDoor
