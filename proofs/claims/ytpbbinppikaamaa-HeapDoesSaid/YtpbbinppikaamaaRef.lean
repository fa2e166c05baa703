/- The document's heap in memory; gumshoeref07's Is, Keys, Obj. -/
import Derived.Test.YtpbbinppikaamaaSame
namespace Go.Proofs.Ytpbbinppikaamaa
open Go.RowKit Go.Proofs Go.Maps

section
variable {α : Type} {f : α → List Value} {m : Nat}
theorem flat_len (hf : ∀ x, (f x).length = m) : ∀ l : List α, (l.flatMap f).length = l.length * m
  | [] => by simp
  | a :: r => by rw [List.flatMap_cons, List.length_append, hf, flat_len hf r, List.length_cons, Nat.add_mul, Nat.one_mul, Nat.add_comm]
theorem flat_at (hf : ∀ x, (f x).length = m) : ∀ (l : List α) (i j : Nat) (x : α), j < m → l[i]? = some x → (l.flatMap f)[i * m + j]? = (f x)[j]?
  | [], _, _, _, _, h => by simp at h
  | a :: r, 0, j, x, hj, h => by
    obtain rfl : a = x := by simpa using h
    rw [List.flatMap_cons, Nat.zero_mul, Nat.zero_add, List.getElem?_append_left (by rw [hf]; exact hj)]
  | a :: r, i + 1, j, x, hj, h => by
    rw [List.flatMap_cons, List.getElem?_append_right (by rw [hf, Nat.add_mul]; omega), hf, show (i + 1) * m + j - m = i * m + j by rw [Nat.add_mul]; omega]
    exact flat_at hf r i j x hj (by simpa using h)
theorem flat_set (hf : ∀ x, (f x).length = m) : ∀ (l : List α) (i j : Nat) (x y : α) (u : Value), j < m → l[i]? = some x → f y = (f x).set j u → (l.flatMap f).set (i * m + j) u = (l.set i y).flatMap f
  | [], _, _, _, _, _, _, h, _ => by simp at h
  | a :: r, 0, j, x, y, u, hj, h, e => by
    obtain rfl : a = x := by simpa using h
    rw [List.set_cons_zero, List.flatMap_cons, List.flatMap_cons, Nat.zero_mul, Nat.zero_add, List.set_append_left _ _ (by rw [hf]; exact hj), e]
  | a :: r, i + 1, j, x, y, u, hj, h, e => by
    rw [List.set_cons_succ, List.flatMap_cons, List.flatMap_cons, List.set_append_right _ _ (by rw [hf, Nat.add_mul]; omega), hf, show (i + 1) * m + j - m = i * m + j by rw [Nat.add_mul]; omega, flat_set hf r i j x y u hj (by simpa using h) e]
end

/-- An object of the document's heap: its keys' and its values' rows. -/
structure TH where
  o : Ob
  ks : Value
  vs : Value
def TH.cells (t : TH) : List Value := [.int .i64 t.o.mark, .int .i64 t.o.proto, .int .i64 t.o.code, .int .i64 t.o.frame, t.ks, t.vs]
theorem th_len (t : TH) : t.cells.length = 6 := rfl
def vcell (x : ByteArray × V) : List Value := [.int .i64 x.2.k, .int .i64 x.2.n, .string x.2.s]
theorem vcell_len (x : ByteArray × V) : (vcell x).length = 3 := rfl
def valsOf (kv : List (ByteArray × V)) : List Value := kv.flatMap vcell
def TH.blk (t : TH) (k : Nat) : Prop := t.ks.ownBlock = some k ∨ t.vs.ownBlock = some k
def RApart (s t : TH) : Prop := (∀ k, s.ks.ownBlock = some k → t.ks.ownBlock ≠ some k) ∧ (∀ k, s.vs.ownBlock = some k → t.vs.ownBlock ≠ some k)
theorem RApart.symm {s t : TH} (h : RApart s t) : RApart t s := ⟨fun k h1 h2 => h.1 k h2 h1, fun k h1 h2 => h.2 k h2 h1⟩
/-- An object's rows. -/
structure ThAt (w : World) (T : Nat) (t : TH) : Prop where
  ks : w.ownsRow 0 9 1 t.ks t.o.kv.length (strsOf (keysOf t.o.kv))
  vs : w.ownsRow 0 32 3 t.vs t.o.kv.length (valsOf t.o.kv)
  small : t.o.kv.length ≤ T
/-- The document's heap in memory. -/
structure RefAt (w : World) (F : Nat → Prop) (b T : Nat) (ths : List TH) (v : Value) : Prop where
  head : w.heap[b]? = some (.cells #[v] 38 (0, 0))
  mine : F b
  row : w.ownsRow 0 65 6 v ths.length (ths.flatMap TH.cells)
  rowF : ∀ k, v.ownBlock = some k → F k
  th : ∀ (i : Nat) (t : TH), ths[i]? = some t → ThAt w T t
  thF : ∀ t ∈ ths, ∀ k, t.blk k → F k
  apart : ths.Pairwise RApart
  lt : ∀ i, F i → i < w.heap.size
def IsR (w : World) (F : Nat → Prop) (b T : Nat) (L : Hp) : Prop := (∃ v ths, RefAt w F b T ths v ∧ L = ths.map TH.o) ∧ Wf L ∧ L.length ≤ 5000
section
variable {w w' : World} {F G : Nat → Prop} {b T : Nat} {L : Hp} {v : Value} {ths : List TH} {t : TH}
theorem ThAt.keep (h : ThAt w T t) (hk : ∀ k, t.blk k → w'.heap[k]? = w.heap[k]?) : ThAt w' T t := ⟨row_keep h.ks (fun j hj => hk j (.inl hj)), row_keep h.vs (fun j hj => hk j (.inr hj)), h.small⟩
theorem ThAt.more (h : ThAt w T t) {T' : Nat} (hT : T ≤ T') : ThAt w T' t := ⟨h.ks, h.vs, Nat.le_trans h.small hT⟩
theorem RefAt.keep (h : RefAt w F b T ths v) (hk : ∀ i, F i → w'.heap[i]? = w.heap[i]?) (hs : w.heap.size ≤ w'.heap.size) : RefAt w' F b T ths v :=
  ⟨(hk b h.mine).trans h.head, h.mine, row_keep h.row (fun j hj => hk j (h.rowF j hj)), h.rowF, fun i t ht => (h.th i t ht).keep (fun k hk' => hk k (h.thF t (List.mem_of_getElem? ht) k hk')), h.thF, h.apart, fun i hi => by have := h.lt i hi; omega⟩
theorem RefAt.mono (h : RefAt w F b T ths v) (hF : ∀ i, F i → G i) (hl : ∀ i, G i → i < w.heap.size) : RefAt w G b T ths v :=
  ⟨h.head, hF _ h.mine, h.row, fun k hk => hF k (h.rowF k hk), h.th, fun t ht k hk => hF k (h.thF t ht k hk), h.apart, hl⟩
theorem IsR.lt (h : IsR w F b T L) : ∀ i, F i → i < w.heap.size := by obtain ⟨⟨v, ths, h, -⟩, -⟩ := h; exact h.lt
theorem IsR.keep (h : IsR w F b T L) (hk : ∀ i, F i → w'.heap[i]? = w.heap[i]?) (hs : w.heap.size ≤ w'.heap.size) : IsR w' F b T L := by
  obtain ⟨⟨v, ths, h, e⟩, h2⟩ := h
  exact ⟨⟨v, ths, h.keep hk hs, e⟩, h2⟩
theorem IsR.below (h : IsR w F b T L) (hb : Below w.heap.size w w') : IsR w' F b T L := h.keep (fun i hi => hb.block i (h.lt i hi)) hb.size
theorem IsR.only (h : IsR w F b T L) (hb : Only G w w') (hd : ∀ i, F i → ¬ G i) : IsR w' F b T L := h.keep (fun i hi => hb.block i (h.lt i hi) (hd i hi)) hb.size
theorem IsR.mono (h : IsR w F b T L) (hF : ∀ i, F i → G i) (hl : ∀ i, G i → i < w.heap.size) : IsR w G b T L := by
  obtain ⟨⟨v, ths, h, e⟩, h2⟩ := h
  exact ⟨⟨v, ths, h.mono hF hl, e⟩, h2⟩
theorem ths_at {i : Nat} {o : Ob} (h : (ths.map TH.o)[i]? = some o) : ∃ t, ths[i]? = some t ∧ t.o = o := by
  rw [List.getElem?_map] at h
  obtain ⟨t, h1, h2⟩ := Option.map_eq_some_iff.1 h
  exact ⟨t, h1, h2⟩
/-- The heap's row, and an object's cells in it. -/
theorem RefAt.form (h : RefAt w F b T ths v) : ∃ A c, v = .slice A ths.length c ∧ w.cell? ⟨b, 0, none⟩ = some (.slice A ths.length c) ∧ ths.length ≤ c ∧ c ≤ maxLen := by
  obtain ⟨A, c, rfl, h1, h2⟩ := row_slice h.row
  exact ⟨A, c, rfl, cell_of_row w b 0 _ _ _ h.head, h1, h2⟩
theorem RefAt.at (h : RefAt w F b T ths v) {i : Nat} (hi : ths[i]? = some t) : ∃ g c, v = .slice (some ⟨g, 0, none⟩) ths.length c ∧ F g ∧ (∀ j, j < 6 → w.cell? ⟨g, i * 6 + j, none⟩ = t.cells[j]?) ∧ ∀ j, w.frozen? ⟨g, j, none⟩ = false := by
  have hl := (List.getElem?_eq_some_iff.1 hi).1
  rcases row_form h.row with ⟨-, h0⟩ | ⟨g, c, rfl, -, -, hg⟩
  · omega
  · refine ⟨g, c, rfl, h.rowF g hg, fun j hj => ?_, fun j => h.row.frozenAt j⟩
    have e := flat_at (f := TH.cells) (m := 6) th_len ths i j t hj hi
    have hj' : j < t.cells.length := hj
    rw [List.getElem?_eq_getElem hj'] at e ⊢
    exact row_cell h.row _ _ e
end
def isB (L : Hp) (p : Int) : Bool := (at? L p).isSome
theorem isB_neg {L : Hp} {p : Int} (h : p < 0) : isB L p = false := by unfold isB; rw [at?_out (.inl h)]; rfl
theorem isB_iff (L : Hp) {p : Int} (h : 0 ≤ p) : isB L p = decide (p < L.length) := by
  unfold isB
  cases e : at? L p with
  | none =>
    have := at?_none e
    rw [decide_eq_false (by omega)]
    rfl
  | some o =>
    obtain ⟨n, rfl, hn, -⟩ := at?_some e
    rw [decide_eq_true (by omega)]
    rfl
set_option maxHeartbeats 400000 in
theorem Is_any {F : Nat → Prop} {b T : Nat} {L : Hp} (i : Int) (w : World) (h : IsR w F b T L) :
    Calls Try.prog 34 #[.pointer (some ⟨b, 0, none⟩), .int .i64 i] w fun e w' => e = .returned (.bool (isB L i)) ∧ w = w' := by
  obtain ⟨⟨v, ths, hr, rfl⟩, -⟩ := h
  obtain ⟨A, c, rfl, c0, -⟩ := hr.form
  rw [show ths.length = (ths.map TH.o).length by simp] at c0
  generalize ths.map TH.o = L at c0 ⊢
  clear hr
  by_cases hi : i < 0
  · rw [isB_neg hi]
    go_enter Try.func34, Try.ntmps34
    go_wp2
    go_ret
    exact ⟨rfl, rfl⟩
  · have hi' : (0 : Int) ≤ i := by omega
    rw [isB_iff L hi']
    go_enter Try.func34, Try.ntmps34
    go_wp2
    go_ret
    exact ⟨rfl, rfl⟩
theorem SRead.row {W : World} {v : Value} {n : Nat} {l : List ByteArray} (h : W.ownsRow 0 9 1 v n (strsOf l)) (hn : n = l.length) : SRead W v l := .of h hn
set_option maxHeartbeats 400000 in
theorem RKeys_any {F : Nat → Prop} {b T : Nat} {L : Hp} (i : Int) (w : World) (h : IsR w F b T L) :
    Calls Try.prog 20 #[.pointer (some ⟨b, 0, none⟩), .int .i64 i] w fun e w' => ∃ v, e = .returned v ∧ SRead w v (keys L i) ∧ w = w' := by
  have HI := Lib.hid (Is_any i w h)
  obtain ⟨⟨v, ths, hr, rfl⟩, -⟩ := h
  cases ho : at? (ths.map TH.o) i with
  | none =>
    have e : keys (ths.map TH.o) i = [] := by simp [keys, ho]
    have eb : isB (ths.map TH.o) i = false := by simp [isB, ho]
    rw [e]
    rw [eb] at HI
    clear ho hr e eb
    go_enter Try.func20, Try.ntmps20
    go_wp2_with (go_at_call 34; (with_reducible refine (HI.out).mono ?_); rintro e w' ⟨rfl, rfl⟩)
    go_ret
    exact ⟨_, rfl, .inl ⟨rfl, rfl⟩, rfl⟩
  | some o =>
    obtain ⟨n, rfl, hn, hL⟩ := at?_some ho
    obtain ⟨t, ht, rfl⟩ := ths_at hL
    have e : keys (ths.map TH.o) n = keysOf t.o.kv := by simp [keys, ho]
    have eb : isB (ths.map TH.o) n = true := by simp [isB, ho]
    rw [e]
    rw [eb] at HI
    obtain ⟨A, c, rfl, c0, hc1, hc2⟩ := hr.form
    obtain ⟨g, c', ev, -, hc, -⟩ := hr.at ht
    cases ev
    have c4 : w.cell? ⟨g, n * 6 + 4, none⟩ = some t.ks := hc 4 (by decide)
    have hlt : (n : Int) < (ths.length : Int) := by simp at hn; omega
    have hlt2 : n < ths.length := by simp at hn; exact hn
    have HT := Lib.hid (hr.th n t ht).ks
    obtain ⟨Ak, ck, hks, -, -⟩ := row_slice (hr.th n t ht).ks
    rw [hks] at c4 HT
    unfold maxLen at hc2
    clear ho hr e eb hL ht hc hn hks
    go_enter Try.func20, Try.ntmps20
    go_wp2_with (go_at_call 34; (with_reducible refine (HI.out).mono ?_); rintro e w' ⟨rfl, rfl⟩)
    go_ret
    exact ⟨_, rfl, SRead.row HT.out (by rw [keysOf_len]), rfl⟩
set_option maxHeartbeats 1000000 in
theorem RObj_any {F : Nat → Prop} {b T : Nat} {L : Hp} (i : Int) (w : World) (h : IsR w F b T L) :
    Calls Try.prog 17 #[.pointer (some ⟨b, 0, none⟩), .int .i64 i] w fun e w' => e = .returned (.tuple #[objV L i, .int .i64 (objE L i)]) ∧ Below w.heap.size w w' := by
  have hb := (Below.refl w.heap.size w).alloc (Nat.le_refl _) (.cells #[.int .i64 0, .int .i64 0, .int .i64 0, .int .i64 0] 30)
  have h' := h.below hb
  have hlt := h.lt
  have HI := Lib.hid (Is_any i _ h')
  obtain ⟨⟨v, ths, hr, rfl⟩, -⟩ := h'
  cases ho : at? (ths.map TH.o) i with
  | none =>
    have eb : isB (ths.map TH.o) i = false := by simp [isB, ho]
    rw [eb] at HI
    simp only [objV, objE, ho, Option.elim]
    clear ho hr eb h
    go_enter Try.func17, Try.ntmps17
    go_wp2_with (go_at_call 34; (with_reducible refine (HI.out).mono ?_); rintro e w' ⟨rfl, rfl⟩)
    refine bodyPost_ret (v := .tuple #[zobj, .int .i64 70]) (by simp [results, Try.results17, go_sem, zobj]) rfl ⟨rfl, ?_⟩
    repeat (first | exact Below.refl _ _ | refine Below.setCell ?_ (by simp) _ | refine Below.alloc ?_ (by simp) _ | refine Below.drew ?_)
  | some o =>
    obtain ⟨n, rfl, hn, hL⟩ := at?_some ho
    obtain ⟨t, ht, rfl⟩ := ths_at hL
    have eb : isB (ths.map TH.o) n = true := by simp [isB, ho]
    rw [eb] at HI
    simp only [objV, objE, ho, Option.elim, Ob.obj]
    obtain ⟨A, c, rfl, c0, hc1, hc2⟩ := hr.form
    obtain ⟨g, c', ev, hFg, hc, -⟩ := hr.at ht
    cases ev
    have hgl : g < w.heap.size := hlt g hFg
    have d0 : (w.alloc (.cells #[.int .i64 0, .int .i64 0, .int .i64 0, .int .i64 0] 30)).cell? ⟨g, n * 6, none⟩ = some (.int .i64 t.o.mark) := hc 0 (by decide)
    have d1 : (w.alloc (.cells #[.int .i64 0, .int .i64 0, .int .i64 0, .int .i64 0] 30)).cell? ⟨g, n * 6 + 1, none⟩ = some (.int .i64 t.o.proto) := hc 1 (by decide)
    have d2 : (w.alloc (.cells #[.int .i64 0, .int .i64 0, .int .i64 0, .int .i64 0] 30)).cell? ⟨g, n * 6 + 2, none⟩ = some (.int .i64 t.o.code) := hc 2 (by decide)
    have d3 : (w.alloc (.cells #[.int .i64 0, .int .i64 0, .int .i64 0, .int .i64 0] 30)).cell? ⟨g, n * 6 + 3, none⟩ = some (.int .i64 t.o.frame) := hc 3 (by decide)
    have hlt1 : (n : Int) < (ths.length : Int) := by simp at hn; omega
    have hlt2 : n < ths.length := by simp at hn; exact hn
    have hbl : b < w.heap.size := hlt b hr.mine
    obtain ⟨⟨om, op, oc, of, okv⟩, tk, tv⟩ := t
    simp only at d0 d1 d2 d3
    unfold maxLen at hc2
    clear ho hr eb hL ht hc hn h
    go_enter Try.func17, Try.ntmps17
    go_wp2_with (go_at_call 34; (with_reducible refine (HI.out).mono ?_); rintro e w' ⟨rfl, rfl⟩)
    refine bodyPost_ret (v := .tuple #[.agg #[.int .i64 om, .int .i64 op, .int .i64 oc, .int .i64 of], .int .i64 0]) (by simp [results, Try.results17, go_sem]) rfl ⟨rfl, ?_⟩
    repeat (first | exact Below.refl _ _ | refine Below.setCell ?_ (by simp) _ | refine Below.alloc ?_ (by simp) _ | refine Below.drew ?_)
end Go.Proofs.Ytpbbinppikaamaa
