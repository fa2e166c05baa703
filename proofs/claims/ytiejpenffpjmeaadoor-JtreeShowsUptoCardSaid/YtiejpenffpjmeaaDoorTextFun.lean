/- gumshoeref03.num. gumshoeref03.list, lines. What the document's texts are told of a tree. gumshoeref03.within, body. -/
import Derived.Test.YtiejpenffpjmeaaDoorRefQuote
import Derived.Test.YtiejpenffpjmeaaDoorOpen
import Derived.Deep.DeepMust
import Derived.Test.YtiejpenffpjmeaaDoorBox
import Derived.Test.YtiejpenffpjmeaaDoorList
import Derived.Deep.RegionHeld3
import Derived.Test.YtiejpenffpjmeaaDoorRefStmt
import Derived.Test.YtiejpenffpjmeaaDoorStmt
namespace Go.Proofs.YtiejpenffpjmeaaDoor
set_option linter.unusedSimpArgs false
set_option linter.unusedVariables false
open Go.RowKit Go.Proofs

theorem ndig (n : Nat) (h : n ≤ 999999999999999) : ([] : Bs).length + Lib.nDigits n ≤ 16 := by
  rw [← Lib.decDigits_length]
  have key : ∀ k m, m < 10 ^ k → 1 ≤ k → (Lib.decDigits m).length ≤ k := by
    intro k
    induction k with
    | zero => intro m _ h; omega
    | succ k ih =>
      intro m hm _
      rw [Lib.decDigits]
      by_cases h10 : m < 10
      · rw [dif_pos h10]; simp
      · rw [dif_neg h10, List.length_append, List.length_singleton]
        have hk : 1 ≤ k := by
          cases k with
          | zero => simp at hm; omega
          | succ k => omega
        have := ih (m / 10) (by rw [Nat.pow_succ] at hm; omega) hk
        omega
  have := key 15 n (by simp; omega) (by decide)
  simp
  omega

set_option maxRecDepth 100000 in
set_option maxHeartbeats 4000000 in
theorem num_any (n : Nat) (hn : n ≤ 999999999999999) (w : World) : Calls Tryd.prog 56 #[.int .i64 n] w fun e w' => e = .returned (.string (bs (Lib.decDigits n))) ∧ Below w.heap.size w w' := by
  go_enter Tryd.func56, Tryd.ntmps56
  go_wp2_with fail
  go_loopw [0, 3] (fun v s wr => ∃ (m : Nat) (ds : Bs), m ≤ n ∧ v = .int .i64 m ∧ s = .string (bs ds) ∧ ds.length + (Lib.decDigits m).length ≤ 16 ∧ RowKit.Hid (Lib.decDigits n = Lib.decDigits m ++ ds ∧ Below w.heap.size w wr)) (fun v _ _ => (intOf v).toNat)
  case atStart => exact ⟨n, [], Nat.le_refl _, rfl, rfl, by rw [Lib.decDigits_length]; exact ndig n hn, Lib.hid ⟨by simp, Below.refl _ _⟩⟩
  case round =>
    obtain ⟨m, ds, hm, rfl, rfl, hl, HR⟩ := hrel
    obtain ⟨r, hr⟩ : ∃ r, m % 10 = r := ⟨_, rfl⟩
    obtain ⟨q, hq⟩ : ∃ q, m / 10 = q := ⟨_, rfl⟩
    have hr10 : r < 10 := by omega
    have e1 : Int.tmod (m : Int) 10 = (r : Int) := by rw [← hr]; exact Int.ofNat_tmod m 10 |>.symm
    have e2 : Int.tdiv (m : Int) 10 = (q : Int) := by rw [← hq]; exact Int.ofNat_tdiv m 10 |>.symm
    obtain ⟨d, hd⟩ : ∃ d : UInt8, d = UInt8.ofNat (48 + r) := ⟨_, rfl⟩
    have hdn : d.toNat = 48 + r := by rw [hd]; simp; omega
    have hcv := byteRow_str (W := wr.alloc (.cells #[.int .u8 (48 + (r : Int))] 5)) (B := w.heap.size) (v := .slice (some ⟨wr.heap.size, 0, none⟩) 1 1) (l := [d]) ⟨rfl, .inr ⟨wr.heap.size, 1, _, rfl, HR.out.2.size, heap_alloc_new wr _, Nat.le_refl _, by unfold maxLen; decide, rfl, by simp [Lib.byteCells, hdn]⟩⟩
    have hsz : (bs [d]).size = 1 := rfl
    have hdz : (bs ds).size ≤ 16 := by rw [bs_size]; omega
    have HD := Lib.hid (show Lib.decDigits m = if q = 0 then [d] else Lib.decDigits q ++ [d] by
      rw [Lib.decDigits, hd, ← hr, ← hq]
      by_cases h : m < 10
      · rw [dif_pos h, if_pos (by omega), Nat.mod_eq_of_lt h]
      · rw [dif_neg h, if_neg (by omega)])
    have hlow : Below w.heap.size w (wr.alloc (.cells #[.int .u8 (48 + (r : Int))] 5)) := HR.out.2.alloc HR.out.2.size _
    have HLow := Lib.hid hlow
    clear hlow hd
    by_cases hq0 : q = 0
    · subst hq0
      have HE := Lib.hid (show bs (Lib.decDigits n) = bs [d] ++ bs ds by rw [HR.out.1, HD.out, if_pos rfl, bs_join])
      go_wp2
      go_ret
      exact ⟨by rw [HE.out]; rfl, HLow.out⟩
    · have hq2 : ((q : Int) == 0) = false := by rw [beq_eq_false_iff_ne]; omega
      have HE := Lib.hid (show Lib.decDigits n = Lib.decDigits q ++ (d :: ds) by rw [HR.out.1, HD.out, if_neg hq0]; simp)
      have HL := Lib.hid (show (d :: ds).length + (Lib.decDigits q).length ≤ 16 by
        have := congrArg List.length HD.out
        rw [if_neg hq0] at this
        simp at this ⊢
        omega)
      go_wp2
      go_roundw
      case rel => exact ⟨q, d :: ds, by omega, rfl, congrArg Value.string (bs_join [d] ds), HL.out, Lib.hid ⟨HE.out, HLow.out⟩⟩
      case measure => simp [intOf]; omega
end Go.Proofs.YtiejpenffpjmeaaDoor

namespace Go.Proofs.YtiejpenffpjmeaaDoor
set_option linter.unusedSimpArgs false
set_option linter.unusedVariables false
open Go.RowKit Go.Proofs

/-- A call hands back this text. -/
def Gives (s : Bs) (w : World) (e : Ending) (w' : World) : Prop := e = .returned (.string (bs s)) ∧ Below w.heap.size w w'
def TxtE (k : Nat) (y : Tr) : Prop := ∀ (v : Value) (w : World), At w w.heap.size y v → Calls Tryd.prog 34 #[v, .string (bs (indentB k))] w (Gives (y.txt k) w)
def TxtS (k : Nat) (y : Tr) : Prop := ∀ (v : Value) (w : World), At w w.heap.size y v → Calls Tryd.prog 47 #[v, .string (bs (indentB k))] w (Gives (y.txt k) w)
theorem take_next {l : List Tr} {i : Nat} {y : Tr} (h : l[i]? = some y) (f : Tr → Bs) : (l.take (i + 1)).map f = (l.take i).map f ++ [f y] := by
  rw [List.take_add_one, h]
  simp
theorem lens_take (ts : List Bs) (i : Nat) : lens (ts.take i) ≤ lens ts := by
  induction ts generalizing i with
  | nil => simp [lens]
  | cons a r ih =>
    cases i with
    | zero => simp [lens]
    | succ i =>
      rw [List.take_succ_cons, lens_cons, lens_cons]
      have := ih i
      omega
theorem lens_mem {ts : List Bs} {t : Bs} (h : t ∈ ts) : t.length ≤ lens ts := by
  induction ts with
  | nil => cases h
  | cons a r ih =>
    rw [lens_cons]
    rcases List.mem_cons.1 h with rfl | h
    · omega
    · have := ih h
      omega
theorem row_parts {w : World} {l : List Tr} {A : Option Addr} {c : Nat} (hr : Row w w.heap.size l (.slice A l.length c)) : ∀ k y, l[k]? = some y → ∃ g off, A = some ⟨g, off, none⟩ ∧ ∀ w', Below w.heap.size w w' → ∃ Av cv, At w' w'.heap.size y (nodeV y (.slice Av y.l.length cv)) ∧ w'.cell? ⟨g, off + k * 5, none⟩ = some (.int .i64 y.op) ∧ w'.cell? ⟨g, off + k * 5 + 1, none⟩ = some (.string (bs y.s)) ∧ w'.cell? ⟨g, off + k * 5 + 2, none⟩ = some (.int .i64 y.n) ∧
      w'.cell? ⟨g, off + k * 5 + 3, none⟩ = some (.slice Av y.l.length cv) ∧ w'.cell? ⟨g, off + k * 5 + 4, none⟩ = some (.int .i64 y.line) := fun k y hy => by
  obtain ⟨hk, -⟩ := List.getElem?_eq_some_iff.1 hy
  obtain ⟨A', c', e, -, h2⟩ := hr
  cases e
  obtain ⟨g, off, rfl, hg, ha⟩ := h2 (by omega)
  refine ⟨g, off, rfl, fun w' hb => ?_⟩
  obtain ⟨Av, cv, hA, x⟩ := elem_at ha hg hb hy
  exact ⟨Av, cv, At.keep y hA hb.size fun _ _ => rfl, x⟩
theorem bs_two (a b : Bs) : bs (a ++ b) = bs a ++ bs b := (bs_join a b).symm

set_option maxRecDepth 100000 in
set_option maxHeartbeats 4000000 in
theorem tlist_any (k : Nat) (l : List Tr) (v : Value) (w : World) (hr : Row w w.heap.size l v) (hE : ∀ y ∈ l, TxtE k y) (hl : l.length ≤ 1000000) (hb : lens (l.map (Tr.txt k)) ≤ 100000000) (hk : k ≤ 1500) :
    Calls Tryd.prog 73 #[v, .string (bs (indentB k))] w (Gives (commas (l.map (Tr.txt k))) w) := by
  obtain ⟨A, c, rfl, hlc, hcm⟩ := row_at hr
  have HF := Lib.hid (row_parts hr)
  have HE := Lib.hid hE
  have HLc := Lib.hid hlc
  have HBd := Lib.hid (And.intro hb hl)
  clear hr hE hlc hcm hb
  go_enter Tryd.func73, Tryd.ntmps73
  go_wp2
  go_loopw [5, 6] (fun s i wr => ∃ j : Nat, j ≤ l.length ∧ i = .int .i64 j ∧ s = .string (bs (commas ((l.take j).map (Tr.txt k)))) ∧ RowKit.Hid (Below w.heap.size w wr)) (fun _ i _ => l.length - (intOf i).toNat)
  case atStart => exact ⟨0, Nat.zero_le _, rfl, rfl, Lib.hid (Below.refl _ _)⟩
  case round =>
    obtain ⟨j, hj, rfl, rfl, HR⟩ := hrel
    by_cases hlt : j < l.length
    · obtain ⟨y, hy⟩ : ∃ y, l[j]? = some y := ⟨_, List.getElem?_eq_getElem hlt⟩
      have hym := List.mem_of_getElem? hy
      obtain ⟨g, off, hAg, hcell⟩ := HF.out j y hy
      obtain ⟨Av, cv, hyA, x0, x1, x2, x3, x4⟩ := hcell wr HR.out
      subst hAg
      have hc := HE.out y hym _ wr hyA
      unfold nodeV Gives at hc
      have hkc : j < c := by have := HLc.out; omega
      have hyl : (y.txt k).length ≤ 100000000 := Nat.le_trans (lens_mem (List.mem_map.2 ⟨y, hym, rfl⟩)) HBd.out.1
      obtain ⟨Y, hY⟩ : ∃ Y, bs (y.txt k) = Y := ⟨_, rfl⟩
      have hYz : Y.size ≤ 100000000 := by rw [← hY, bs_size]; exact hyl
      rw [hY] at hc
      have HC := Lib.hid hc
      have hpz : (commas ((l.take j).map (Tr.txt k))).length ≤ 102000000 := by
        have h1 := commas_len ((l.take j).map (Tr.txt k))
        have h2 := lens_take (l.map (Tr.txt k)) j
        rw [← List.map_take] at h2
        have := HBd.out
        rw [List.length_map, List.length_take] at h1
        omega
      obtain ⟨Q, hQ⟩ : ∃ Q, bs (commas ((l.take j).map (Tr.txt k))) = Q := ⟨_, rfl⟩
      have hQz : Q.size ≤ 102000000 := by rw [← hQ, bs_size]; exact hpz
      have HN := Lib.hid (show bs (commas ((l.take (j + 1)).map (Tr.txt k))) = if j = 0 then Y else Q ++ bs [44, 32] ++ Y by
        rw [take_next hy]
        by_cases h0 : j = 0
        · subst h0
          rw [if_pos rfl, ← hY]
          rfl
        · rw [if_neg h0, commas_snoc _ _ (by intro h; have := congrArg List.length h; rw [List.length_map, List.length_take, List.length_nil] at this; omega), ← hQ, ← hY, bs_two, bs_two, ByteArray.append_assoc])
      rw [hQ]
      have HQ0 := Lib.hid (fun h : j = 0 => show Q = ⟨#[]⟩ by rw [← hQ, h]; rfl)
      clear hc hyA hcell hpz hyl hY hQ hym hy
      by_cases h0 : j = 0
      · obtain rfl := HQ0.out h0
        have hj0 : ¬ 0 < j := by omega
        have HJ := Lib.hid h0
        clear h0
        go_wp2_with fail
        go_at_call 34
        refine HC.out.mono ?_
        rintro e w5 ⟨rfl, hb5⟩
        have HB5 := Lib.hid (HR.out.trans (hb5.mono HR.out.size))
        clear hb5
        go_wp2
        go_roundw
        case rel => exact ⟨j + 1, by omega, by simp, congrArg Value.string (by rw [HN.out, if_pos HJ.out]; first | exact ByteArray.empty_append | (apply ByteArray.ext; simp) | rfl), HB5.out⟩
        case measure => simp [intOf]; omega
      · have hj0 : 0 < j := by omega
        have HJ := Lib.hid h0
        clear h0
        go_wp2_with fail
        go_at_call 34
        refine HC.out.mono ?_
        rintro e w5 ⟨rfl, hb5⟩
        have HB5 := Lib.hid (HR.out.trans (hb5.mono HR.out.size))
        clear hb5
        go_wp2
        go_roundw
        case rel => exact ⟨j + 1, by omega, by simp, congrArg Value.string (by rw [HN.out, if_neg HJ.out]; rfl), HB5.out⟩
        case measure => simp [intOf]; omega
    · obtain rfl : j = l.length := by omega
      go_wp2
      go_ret
      exact ⟨by simp, HR.out⟩

set_option maxRecDepth 100000 in
set_option maxHeartbeats 4000000 in
theorem tlines_any (k : Nat) (l : List Tr) (v : Value) (w : World) (hr : Row w w.heap.size l v) (hE : ∀ y ∈ l, TxtS k y) (hl : l.length ≤ 1000000) (hb : lens (l.map (Tr.txt k)) ≤ 100000000) (hk : k ≤ 1500) :
    Calls Tryd.prog 32 #[v, .string (bs (indentB k))] w (Gives (linesL k (l.map (Tr.txt k))) w) := by
  obtain ⟨A, c, rfl, hlc, hcm⟩ := row_at hr
  have HF := Lib.hid (row_parts hr)
  have HE := Lib.hid hE
  have HLc := Lib.hid hlc
  have HBd := Lib.hid (And.intro hb hl)
  clear hr hE hlc hcm hb
  go_enter Tryd.func32, Tryd.ntmps32
  go_wp2
  go_loopw [5, 6] (fun s i wr => ∃ j : Nat, j ≤ l.length ∧ i = .int .i64 j ∧ s = .string (bs (linesL k ((l.take j).map (Tr.txt k)))) ∧ RowKit.Hid (Below w.heap.size w wr)) (fun _ i _ => l.length - (intOf i).toNat)
  case atStart => exact ⟨0, Nat.zero_le _, rfl, rfl, Lib.hid (Below.refl _ _)⟩
  case round =>
    obtain ⟨j, hj, rfl, rfl, HR⟩ := hrel
    by_cases hlt : j < l.length
    · obtain ⟨y, hy⟩ : ∃ y, l[j]? = some y := ⟨_, List.getElem?_eq_getElem hlt⟩
      have hym := List.mem_of_getElem? hy
      obtain ⟨g, off, hAg, hcell⟩ := HF.out j y hy
      obtain ⟨Av, cv, hyA, x0, x1, x2, x3, x4⟩ := hcell wr HR.out
      subst hAg
      have hc := HE.out y hym _ wr hyA
      unfold nodeV Gives at hc
      have hkc : j < c := by have := HLc.out; omega
      have hyl : (y.txt k).length ≤ 100000000 := Nat.le_trans (lens_mem (List.mem_map.2 ⟨y, hym, rfl⟩)) HBd.out.1
      obtain ⟨Y, hY⟩ : ∃ Y, bs (y.txt k) = Y := ⟨_, rfl⟩
      have hYz : Y.size ≤ 100000000 := by rw [← hY, bs_size]; exact hyl
      rw [hY] at hc
      have HC := Lib.hid hc
      have hpz : (linesL k ((l.take j).map (Tr.txt k))).length ≤ 3200000000 := by
        have h1 := lines_len k hk ((l.take j).map (Tr.txt k))
        have h2 := lens_take (l.map (Tr.txt k)) j
        rw [← List.map_take] at h2
        have := HBd.out
        rw [List.length_map, List.length_take] at h1
        omega
      obtain ⟨Q, hQ⟩ : ∃ Q, bs (linesL k ((l.take j).map (Tr.txt k))) = Q := ⟨_, rfl⟩
      have hQz : Q.size ≤ 3200000000 := by rw [← hQ, bs_size]; exact hpz
      have HN := Lib.hid (show bs (linesL k ((l.take (j + 1)).map (Tr.txt k))) = Q ++ bs (indentB k) ++ Y ++ bs [10] by
        rw [take_next hy, linesL_snoc, ← hQ, ← hY, bs_two, bs_two, bs_two, ByteArray.append_assoc, ByteArray.append_assoc])
      have hkz : (bs (indentB k)).size ≤ 3000 := by rw [bs_size]; unfold indentB; rw [List.length_replicate]; omega
      rw [hQ]
      clear hc hyA hcell hpz hyl hY hQ hym hy
      go_wp2_with fail
      go_at_call 47
      refine HC.out.mono ?_
      rintro e w5 ⟨rfl, hb5⟩
      have HB5 := Lib.hid (HR.out.trans (hb5.mono HR.out.size))
      clear hb5
      go_wp2
      go_roundw
      case rel => exact ⟨j + 1, by omega, by simp, congrArg Value.string (by rw [HN.out]; rfl), HB5.out⟩
      case measure => simp [intOf]; omega
    · obtain rfl : j = l.length := by omega
      go_wp2
      go_ret
      exact ⟨by simp, HR.out⟩
end Go.Proofs.YtiejpenffpjmeaaDoor

namespace Go.Proofs.YtiejpenffpjmeaaDoor
set_option linter.unusedSimpArgs false
set_option linter.unusedVariables false
open Go.RowKit Go.Proofs

/-- A tree whose text has a bound. -/
def Bnd (k : Nat) (t : Tr) : Prop := (∀ y ∈ t.flat, y.n ≤ 9223372036854775807) ∧ k + t.size ≤ 1500 ∧ t.strs ≤ 10000000
theorem strs_mem : ∀ {l : List Tr} {y : Tr}, y ∈ l → y.strs ≤ strsL l
  | a :: r, y, h => by
    rw [strsL_cons]
    rcases List.mem_cons.1 h with rfl | h
    · omega
    · have := strs_mem h
      omega
theorem Bnd.part {k : Nat} {t y : Tr} (h : Bnd k t) (hy : y ∈ t.l) : Bnd k y := by
  refine ⟨fun z hz => h.1 z (by rw [flat_eq]; exact List.mem_cons_of_mem _ (good_part hy z hz)), by have := size_part hy; have := h.2.1; omega, ?_⟩
  have h1 := strs_mem hy
  have h2 := h.2.2
  rw [strs_eq] at h2
  omega
theorem Bnd.next {k : Nat} {t y : Tr} (h : Bnd k t) (hy : y ∈ t.l) : Bnd (k + 1) y := by
  have := h.part hy
  exact ⟨this.1, by have := size_part hy; have := h.2.1; omega, this.2.2⟩
theorem Bnd.len {k : Nat} {t : Tr} (h : Bnd k t) : (t.txt k).length ≤ 60000000 := by
  have := txt_len t k h.1 h.2.1
  have := h.2
  omega
theorem Bnd.str {k : Nat} {t : Tr} (h : Bnd k t) : (bs t.s).size ≤ 10000000 := by
  rw [bs_size]
  have := h.2.2
  rw [strs_eq] at this
  omega
theorem Bnd.high {k : Nat} {t : Tr} (h : Bnd k t) : k ≤ 1500 := by have := h.2.1; omega
theorem Bnd.indent {k : Nat} {t : Tr} (h : Bnd k t) : (bs (indentB k)).size ≤ 3000 := by
  rw [bs_size]
  unfold indentB
  rw [List.length_replicate]
  have := h.high
  omega
theorem Bnd.lens {k : Nat} {t : Tr} (h : Bnd k t) (l : List Tr) (hl : ∀ y ∈ l, y ∈ t.l) (hs : sizes l ≤ t.size) (hr : strsL l ≤ t.strs) : lens (l.map (Tr.txt k)) ≤ 60000000 := by
  have := parts_len k l fun y hy => txt_len y k (h.part (hl y hy)).1 (h.part (hl y hy)).2.1
  have := h.2
  omega
theorem Bnd.lensN {k : Nat} {t : Tr} (h : Bnd k t) (l : List Tr) (hl : ∀ y ∈ l, y ∈ t.l) (hs : sizes l ≤ t.size) (hr : strsL l ≤ t.strs) : Go.Proofs.YtiejpenffpjmeaaDoor.lens (l.map (Tr.txt (k + 1))) ≤ 60000000 := by
  have := parts_len (k + 1) l fun y hy => txt_len y (k + 1) (h.next (hl y hy)).1 (h.next (hl y hy)).2.1
  have := h.2
  omega
/-- What a text's walk is told. -/
structure TIn (k : Nat) (t : Tr) (A : Option Addr) (c : Nat) (w W1 : World) : Prop where
  world : w.alloc (.cells #[.int .i64 t.op, .string (bs t.s), .int .i64 t.n, .slice A t.l.length c, .int .i64 t.line] 24) = W1
  low : Below w.heap.size w W1
  box : W1.heap[w.heap.size]? = some (.cells #[.int .i64 t.op, .string (bs t.s), .int .i64 t.n, .slice A t.l.length c, .int .i64 t.line] 24 (0, 0))
  row : Row W1 W1.heap.size t.l (.slice A t.l.length c)
theorem t_in (k : Nat) (t : Tr) (A : Option Addr) (c : Nat) (w : World) (hA : At w w.heap.size t (nodeV t (.slice A t.l.length c))) :
    TIn k t A c w (w.alloc (.cells #[.int .i64 t.op, .string (bs t.s), .int .i64 t.n, .slice A t.l.length c, .int .i64 t.line] 24)) := by
  obtain ⟨u, e, hr, hf⟩ := (At_iff _ _ _ _).1 hA
  have hb : Below w.heap.size w (w.alloc (.cells #[.int .i64 t.op, .string (bs t.s), .int .i64 t.n, .slice A t.l.length c, .int .i64 t.line] 24)) := (Below.refl _ w).alloc (Nat.le_refl _) _
  unfold nodeV at e
  simp only [Value.agg.injEq, Array.mk.injEq, List.cons.injEq, and_true, true_and] at e
  subst e
  exact { world := rfl, low := hb, box := heap_alloc_new w _, row := hr.keep hb.size fun p hp => hb.cell hp }
/-- A part's text, opaque. -/
theorem txt_part {k : Nat} {y : Tr} (h : Bnd k y) : ∃ Y, bs (y.txt k) = Y ∧ Y.size ≤ 60000000 := ⟨_, rfl, by rw [bs_size]; exact h.len⟩
def MoreOK (op : Int) : Prop := ∀ (k : Nat) (t : Tr) (A : Option Addr) (c : Nat) (w : World), t.op = op → Bnd k t → soundOne t = true → At w w.heap.size t (nodeV t (.slice A t.l.length c)) → (∀ y ∈ t.l, isE y → TxtE k y) →
  Calls Tryd.prog 59 #[nodeV t (.slice A t.l.length c), .string (bs (indentB k))] w (Gives (t.txt k) w)
end Go.Proofs.YtiejpenffpjmeaaDoor

namespace Go.Proofs.YtiejpenffpjmeaaDoor
set_option linter.unusedSimpArgs false
set_option linter.unusedVariables false
open Go.RowKit Go.Proofs

theorem indent_next (k : Nat) : bs (indentB (k + 1)) = bs (indentB k) ++ ⟨#[32, 32]⟩ := by
  have : indentB (k + 1) = indentB k ++ [32, 32] := by
    unfold indentB
    rw [show 2 * (k + 1) = 2 * k + 1 + 1 by omega, List.replicate_succ', List.replicate_succ', List.append_assoc]
    rfl
  rw [this, bs_two]
  rfl
/-- What a block's lines are told. -/
theorem block_lines {k : Nat} {b : Tr} (e : b.op = 32) (hB : Bnd k b) (hS : ∀ y ∈ b.l, TxtS (k + 1) y) : ∃ Z, bs (b.txt k) = bs [123, 10] ++ Z ++ bs (indentB k) ++ bs [125] ∧ Z.size ≤ 60000000 ∧
    ∀ (v : Value) (w : World), Row w w.heap.size b.l v → Calls Tryd.prog 32 #[v, .string (bs (indentB k) ++ ⟨#[32, 32]⟩)] w fun e w' => e = .returned (.string Z) ∧ Below w.heap.size w w' := by
  have ht := txt_block k b e
  have hl := hB.len
  refine ⟨bs (linesL (k + 1) (b.l.map (Tr.txt (k + 1)))), by rw [ht]; simp only [bs_two, ByteArray.append_assoc], ?_, fun v w hr => ?_⟩
  · rw [bs_size]
    rw [ht] at hl
    simp only [List.length_append] at hl
    omega
  · have h1 := size_eq b
    have h2 := strs_eq b
    have h3 := length_le_sizes b.l
    have h4 := hB.2
    have := tlines_any (k + 1) b.l v w hr hS (by omega) (by have := hB.lensN b.l (fun y hy => hy) (by omega) (by omega); omega) (by have := size_pos b; omega)
    rw [indent_next] at this
    exact this

set_option maxRecDepth 100000 in
set_option maxHeartbeats 4000000 in
theorem twithin_any (k : Nat) (t : Tr) (A : Option Addr) (c : Nat) (w : World) (e : t.op = 32) (hB : Bnd k t) (hA : At w w.heap.size t (nodeV t (.slice A t.l.length c))) (hS : ∀ y ∈ t.l, TxtS (k + 1) y) :
    Calls Tryd.prog 69 #[nodeV t (.slice A t.l.length c), .string (bs (indentB k))] w (Gives (t.txt k) w) := by
  obtain ⟨W1, hr⟩ : ∃ W, TIn k t A c w W := ⟨_, t_in k t A c w hA⟩
  obtain ⟨Z, hZ, hZz, hL⟩ := block_lines e hB hS
  have hbx := box_in (Below.refl _ _) hr.box
  have HR := Lib.hid hr
  have hW := hr.world
  have hiz := hB.indent
  have HL := Lib.hid (hL _ W1 hr.row)
  have HT := Lib.hid hZ
  unfold BoxAt at hbx
  obtain ⟨f0, f1, f2, f3, f4⟩ := hbx
  unfold nodeV
  clear hA hr hB hS hL hZ e
  go_enter Tryd.func69, Tryd.ntmps69
  go_wp2_with fail
  go_at_call 32
  refine HL.out.mono ?_
  rintro e w1 ⟨rfl, hb⟩
  have HB1 := Lib.hid hb
  clear hb
  go_wp2
  go_ret
  exact ⟨by rw [HT.out]; rfl, HR.out.low.trans (HB1.out.mono HR.out.low.size)⟩

set_option maxRecDepth 100000 in
set_option maxHeartbeats 4000000 in
theorem tbody_any (k : Nat) (l xs : List Tr) (b : Tr) (v : Value) (w : World) (hl : l = xs ++ [b]) (hr : Row w w.heap.size l v) (e : b.op = 32) (hB : Bnd k b) (hE : ∀ y ∈ xs, TxtE k y) (hS : ∀ y ∈ b.l, TxtS (k + 1) y) (hx : xs.length ≤ 1000) (hbl : lens (xs.map (Tr.txt k)) ≤ 60000000) :
    Calls Tryd.prog 58 #[v, .string (bs (indentB k))] w (Gives (funcB (l.map (Tr.txt k))) w) := by
  obtain ⟨A, c, rfl, hlc, hcm⟩ := row_at hr
  have hk : l.length = xs.length + 1 := by rw [hl]; simp
  have hln : 0 < l.length := by omega
  obtain ⟨Z, hZ, hZz, hL⟩ := block_lines e hB hS
  have hiz := hB.indent
  obtain ⟨X, hX, hXz⟩ : ∃ X, bs (commas (xs.map (Tr.txt k))) = X ∧ X.size ≤ 70000000 := ⟨_, rfl, by rw [bs_size]; have h1 := commas_len (xs.map (Tr.txt k)); rw [List.length_map] at h1; omega⟩
  have hT : bs (funcB (l.map (Tr.txt k))) = bs [40] ++ X ++ bs [41, 32, 123, 10] ++ Z ++ bs (indentB k) ++ bs [125] := by
    rw [hl, List.map_append, List.map_singleton]
    unfold funcB
    rw [List.dropLast_concat, List.getLastD_concat, bs_two, bs_two, bs_two, hZ, hX, show ([41, 32, 123, 10] : Bs) = [41, 32] ++ [123, 10] from rfl, bs_two [41, 32]]
    simp only [ByteArray.append_assoc]
  have hrt : Row w w.heap.size xs (.slice A xs.length c) := by
    have := hr.take_ xs.length (by omega)
    rwa [hl, List.take_left] at this
  obtain ⟨g, off, rfl, hgl, hat, -, -⟩ := row_in hr hln
  obtain ⟨Ab, cb, hAb, x0, x1, x2, x3, x4⟩ := elem_at (i := xs.length) hat hgl (Below.refl _ _) (show l[xs.length]? = some b by rw [hl]; simp)
  have HC1 := Lib.hid (fun w1 (hb : Below w.heap.size w w1) => (by
    have := tlist_any k xs _ w1 (hrt.keep hb.size fun p hp => hb.cell hp) hE (by omega) (by omega) hB.high
    unfold Gives at this
    rw [hX] at this
    exact this : Calls Tryd.prog 73 #[.slice (some ⟨g, off, none⟩) xs.length c, .string (bs (indentB k))] w1 fun e w' => e = .returned (.string X) ∧ Below w1.heap.size w1 w'))
  have HC2 := Lib.hid (fun w1 (hb : Below w.heap.size w w1) => hL (.slice Ab b.l.length cb) w1 (by
    obtain ⟨u, eu, hru, -⟩ := (At_iff _ _ _ _).1 hAb
    unfold nodeV at eu
    simp only [Value.agg.injEq, Array.mk.injEq, List.cons.injEq, and_true, true_and] at eu
    rw [eu]
    exact hru.keep hb.size fun p hp => hb.cell hp))
  have HX := Lib.hid (fun w1 (hb : Below w.heap.size w w1) => And.intro ((hb.cell (p := ⟨g, off + xs.length * 5, none⟩) hgl).trans x0) (And.intro ((hb.cell (p := ⟨g, off + xs.length * 5 + 1, none⟩) hgl).trans x1) (And.intro ((hb.cell (p := ⟨g, off + xs.length * 5 + 2, none⟩) hgl).trans x2) (And.intro ((hb.cell (p := ⟨g, off + xs.length * 5 + 3, none⟩) hgl).trans x3) ((hb.cell (p := ⟨g, off + xs.length * 5 + 4, none⟩) hgl).trans x4)))))
  have HT := Lib.hid hT
  have hxc : xs.length ≤ c := by omega
  unfold maxLen at hcm
  unfold Gives
  rw [hT, hk]
  obtain ⟨I, hI⟩ : ∃ I, bs (indentB k) = I := ⟨_, rfl⟩
  rw [hI] at hiz HC1 HC2 ⊢
  clear hr hrt hE hS hB e hL hZ hX hT hat hAb hbl hl hk hln hlc HT hI
  have q0 : (0 : Int) ≤ (xs.length : Int) := by omega
  have q1 : (xs.length : Int) < (xs.length : Int) + 1 := by omega
  have q2 : ¬ (9223372036854775807 < 1 + X.size) := by omega
  have q3 : ¬ (9223372036854775807 < 1 + X.size + 4) := by omega
  have q4 : ¬ (9223372036854775807 < I.size + 2) := by omega
  have q5 : ¬ (9223372036854775807 < 1 + X.size + 4 + Z.size) := by omega
  have q6 : ¬ (9223372036854775807 < 1 + X.size + 4 + Z.size + I.size) := by omega
  have q7 : ¬ (9223372036854775807 < 1 + X.size + 4 + Z.size + I.size + 1) := by omega
  go_enter Tryd.func58, Tryd.ntmps58
  go_wp2_with fail
  have hdr : Below w.heap.size w w.drew := (Below.refl _ _).drew
  have HD1 := Lib.hid (HC1.out _ hdr)
  have HDr := Lib.hid hdr
  clear hdr
  go_region_held3 (fun w' => w'.cell? ⟨g, off + xs.length * 5 + 3, none⟩ = some (.slice Ab b.l.length cb))
    (first | go_keep | (exact (HX.out _ HB2.out).2.2.2.1) | (exact (HX.out _ HB1.out).2.2.2.1))
    (first
      | (go_at_call 73; refine HD1.out.mono ?_; rintro e w1 ⟨rfl, hb⟩; have HB1 := Lib.hid (HDr.out.trans (hb.mono HDr.out.size)); have HC3 := Lib.hid (HC2.out w1 HB1.out); clear hb HD1)
      | (go_at_call 32; refine HC3.out.mono ?_; rintro e w2 ⟨rfl, hb⟩; have HB2 := Lib.hid (HB1.out.trans (hb.mono HB1.out.size)); clear hb HC3))
  go_wp2
  go_ret
  exact ⟨rfl, HB2.out⟩
end Go.Proofs.YtiejpenffpjmeaaDoor
