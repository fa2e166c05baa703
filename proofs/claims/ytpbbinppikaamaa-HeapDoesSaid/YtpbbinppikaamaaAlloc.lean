/- heap.Keys, reference, Alloc. -/
import Derived.Test.YtpbbinppikaamaaOwn
namespace Go.Proofs.Ytpbbinppikaamaa
open Go.RowKit Go.Proofs Go.Maps

theorem copy_row {w : World} {u : Value} {n : Nat} {xs : List Value} (h : w.ownsRow 0 9 1 u n xs) (hn : n ≤ 1000000) (h1 : ∀ x ∈ xs, x.oneCell' = true) :
    ∃ v' w', (Builtin.append_ #[43, 43] 43 #[.slice none 0 0, u]).run Try.prog w = .ok v' w' ∧ (w'.ownsRow w.heap.size 9 1 v' n xs ∧ Below w.heap.size w w') := by
  obtain ⟨i0, h0, h2, h3, h4⟩ := info_parts info9
  have hnil := World.ownsRow_nil w w.heap.size 9 1
  rcases row_form h with ⟨rfl, rfl⟩ | ⟨g, c, rfl, h5, h6, -⟩
  · obtain rfl : xs = [] := List.eq_nil_of_length_eq_zero (by simpa using h.1)
    exact ⟨_, _, run_append_owned_none (P := Try.prog) w w.heap.size 43 43 9 i0 1 Try.underlying43 h0 _ 0 [] hnil, hnil, Below.refl _ _⟩
  · obtain ⟨v', w', r1, r2, r3, -⟩ := run_append_own (P := Try.prog) w w.heap.size 43 43 9 i0 _ 1 16 Try.underlying43 h0 h2 h3 h4 rfl (by decide) _ 0 [] hnil ⟨g, 0, none⟩ n c xs (by simpa using h.1) (fun j x hj => by
      rw [add_mid]
      exact row_cell h j x hj) h1 (by unfold maxLen; omega) (by omega) (Nat.le_refl _)
    refine ⟨v', w', r1, by simpa using r2, r3.os, r3.tape, r3.output, r3.size, fun k hk => r3.block k hk (by simp [Value.ownBlock])⟩
theorem strs_one (l : List ByteArray) : ∀ x ∈ strsOf l, x.oneCell' = true := by
  intro x hx
  obtain ⟨s, -, rfl⟩ := List.mem_map.1 hx
  rfl
/-- Strings in a row of one's own, above base. -/
def Strs (w : World) (base : Nat) (v : Value) (l : List ByteArray) : Prop := w.ownsRow base 9 1 v l.length (strsOf l)

set_option maxHeartbeats 1000000 in
theorem Keys_nil (i : Int) (w : World) : Calls Try.prog 19 #[.pointer none, .int .i64 i] w fun e w' => e = .returned (.slice none 0 0) ∧ Below w.heap.size w w' := by
  go_enter Try.func19, Try.ntmps19
  go_wp2_with (go_at_call 33; (with_reducible refine (at_nil _ _).mono ?_); rintro e w' ⟨rfl, rfl⟩)
  go_ret
  exact ⟨rfl, Below.refl _ _⟩
set_option maxHeartbeats 1000000 in
theorem Keys_any {F : Nat → Prop} {b T : Nat} {L : Hp} (i : Int) (w : World) (h : IsH w F b T L) (hT : T ≤ 1000000) :
    Calls Try.prog 19 #[.pointer (some ⟨b, 0, none⟩), .int .i64 i] w fun e w' => ∃ v, e = .returned v ∧ Strs w' w.heap.size v (keys L i) ∧ Below w.heap.size w w' := by
  cases ho : at? L i with
  | none =>
    have HA := Lib.hid (at_out i _ h ho)
    have e : keys L i = [] := by simp [keys, ho]
    rw [e]
    clear h ho e
    go_enter Try.func19, Try.ntmps19
    go_wp2_with (go_at_call 33; (with_reducible refine (HA.out).mono ?_); rintro e w' ⟨rfl, rfl⟩)
    go_ret
    exact ⟨_, rfl, World.ownsRow_nil _ _ _ _, Below.refl _ _⟩
  | some o =>
    obtain ⟨n, rfl, hn, hL⟩ := at?_some ho
    obtain ⟨⟨u, sp, hh⟩, h2, h3⟩ := h
    obtain ⟨p, hp, hob⟩ := hh.has hL
    have HA := Lib.hid (at_in n p _ hh h2 h3 hp)
    have e : keys L n = keysOf o.kv := by simp [keys, ho]
    rw [e]
    have c4 := hob.cell 4 p.ks rfl
    have HC := Lib.hid (copy_row hob.row (by have := hob.small; omega) (strs_one _))
    clear hh ho e hob hp hL
    go_enter Try.func19, Try.ntmps19
    go_wp2_with (first
      | (go_at_call 33; (with_reducible refine (HA.out).mono ?_); rintro e w' ⟨rfl, rfl⟩)
      | (at_builtin; refine wl_app rfl (.const (.slice none 0 0)) (.tmp 14) 43 rfl _ p.ks rfl rfl _ HC.out ?_; rintro v' w1 ⟨hr, hb⟩; obtain ⟨A', c', rfl, -, -⟩ := row_slice (row_zero hr)))
    go_ret
    exact ⟨_, rfl, by unfold Strs; rw [keysOf_len]; exact hr, hb⟩

set_option maxHeartbeats 400000 in
theorem ref_any (n : Int) (w : World) : Calls Try.prog 28 #[.int .i64 n] w fun e w' => e = .returned (V.v ⟨5, n, ⟨#[]⟩⟩) ∧ Below w.heap.size w w' := by
  go_enter Try.func28, Try.ntmps28
  go_wp2
  refine bodyPost_ret (v := .agg #[.int .i64 5, .int .i64 n, .string ⟨#[]⟩]) (by simp [results, Try.results28, go_sem]) rfl ⟨rfl, ?_⟩
  repeat (first | exact Below.refl _ _ | refine Below.setCell ?_ (by simp) _ | refine Below.alloc ?_ (by simp) _ | refine Below.drew ?_)
theorem info66 : (Try.prog.info? 66).map (fun i => (i.zero, i.size, i.bytes)) = some (some (.pointer none), 1, 8) := by kernel_rfl
def obO (m : Nat) (a b c d : Int) : Obj := .cells #[.int .i64 a, .int .i64 b, .int .i64 c, .int .i64 d, .slice none 0 0, .map (some m)] 70
/-- What a new object's blocks make of a world. -/
def laid (w : World) (a b c d : Int) : World := ((w.alloc (.map #[] 0)).alloc (obO w.heap.size a b c d)).alloc (.cells #[.pointer (some ⟨w.heap.size + 1, 0, none⟩)] 66)
def spot (w : World) : Spot := ⟨w.heap.size + 1, w.heap.size, .slice none 0 0⟩
theorem laid_size (w : World) (a b c d : Int) : (laid w a b c d).heap.size = w.heap.size + 3 := by simp [laid]
theorem laid_below (w : World) (a b c d : Int) : Below w.heap.size w (laid w a b c d) := (((Below.refl _ w).alloc (Nat.le_refl _) _).alloc (by simp) _).alloc (by simp; omega) _
theorem laid_ob (w : World) (a b c d : Int) (T : Nat) : ObAt (laid w a b c d) T (spot w) ⟨a, b, c, d, []⟩ := by
  have h1 : (w.alloc (.map #[] 0)).heap[w.heap.size]? = some (.map #[] 0) := heap_alloc_new _ _
  have h2 : ((w.alloc (.map #[] 0)).alloc (obO w.heap.size a b c d)).heap[w.heap.size + 1]? = some (obO w.heap.size a b c d) := by
    have := heap_alloc_new (w.alloc (.map #[] 0)) (obO w.heap.size a b c d)
    rwa [World.size_alloc] at this
  have h3 : (laid w a b c d).heap[w.heap.size + 1]? = some (obO w.heap.size a b c d) := (Below.heap_alloc _ _ _ (by simp)).trans h2
  refine ⟨h3, World.ownsRow_nil _ _ _ _, ⟨.map [], ?_, Agree.nil⟩, Nat.zero_le _, by simp [keysOf]⟩
  exact (((World.ownsMap_made w Try.prog 9 valElem).alloc _).alloc _).mono (Nat.zero_le _)
theorem laid_slice (w : World) (a b c d : Int) : (laid w a b c d).heap[w.heap.size + 2]? = some (.cells #[.pointer (some ⟨w.heap.size + 1, 0, none⟩)] 66 (0, 0)) := by
  have := heap_alloc_new ((w.alloc (.map #[] 0)).alloc (obO w.heap.size a b c d)) (.cells #[.pointer (some ⟨w.heap.size + 1, 0, none⟩)] 66)
  simp only [World.size_alloc] at this
  exact this
theorem HeapAt.alloc {w w3 : World} {F : Nat → Prop} {b T : Nat} {L : Hp} {v u : Value} {sp : List Spot} {a1 a2 a3 a4 : Int} (h : HeapAt w F b T L v sp)
    (happ : App (laid w a1 a2 a3 a4) 66 1 (L.length + 1) v (sp.map ptr ++ [ptr (spot w)]) u w3) :
    HeapAt (w3.setCell ⟨b, 0, none⟩ u) (ext F w (w3.setCell ⟨b, 0, none⟩ u)) b T (L ++ [⟨a1, a2, a3, a4, []⟩]) u (sp ++ [spot w]) ∧ Only F w (w3.setCell ⟨b, 0, none⟩ u) ∧ w3.heap[b]? = some (.cells #[v] 60 (0, 0)) := by
  have hbl := laid_below w a1 a2 a3 a4
  have hls := laid_size w a1 a2 a3 a4
  have hF3 : Only F w w3 := (Only.of_below hbl).trans' (happ.only.mono (fun i _ hi => h.rowF i hi))
  have keep3 : ∀ {g : Nat} {cs : Array Value} {t : TypeId}, (laid w a1 a2 a3 a4).heap[g]? = some (.cells cs t (0, 0)) → t ≠ 66 → w3.heap[g]? = some (.cells cs t (0, 0)) := fun {g cs t} hg ht => by
    refine (happ.grown.block g (heap_lt hg) (fun e => ?_)).trans hg
    obtain ⟨cs', hc⟩ := row_blk h.row e.symm
    have hc' := (hbl.block g (heap_lt hc)).trans hc
    rw [hg] at hc'
    cases hc'
    exact ht rfl
  have hb3 : w3.heap[b]? = some (.cells #[v] 60 (0, 0)) := keep3 ((hbl.block b (heap_lt h.head)).trans h.head) (by decide)
  have hset : ∀ j, j ≠ b → (w3.setCell ⟨b, 0, none⟩ u).heap[j]? = w3.heap[j]? := fun j hj => Below.heap_setCell w3 _ u j (fun e => hj (by simpa using e))
  have hsz : (w3.setCell ⟨b, 0, none⟩ u).heap.size = w3.heap.size := by simp [World.setCell]
  have hs3 : w.heap.size + 3 ≤ w3.heap.size := by rw [← hls]; exact happ.only.size
  have hF4 : Only F w (w3.setCell ⟨b, 0, none⟩ u) := hF3.trans' (Only.setCell w3 h.mine 0 u)
  have hnew : ∀ i, w.heap.size ≤ i → i < w3.heap.size → ext F w (w3.setCell ⟨b, 0, none⟩ u) i := fun i h1 h2 => .inr ⟨h1, by rw [hsz]; exact h2⟩
  -- a block of w's objects, and of the new one
  have kold : ∀ i, i < w.heap.size → i ≠ b → v.ownBlock ≠ some i → (w3.setCell ⟨b, 0, none⟩ u).heap[i]? = w.heap[i]? := fun i hi h1 h2 =>
    (hset i h1).trans ((happ.grown.block i (by omega) (fun e => h2 e.symm)).trans (hbl.block i hi))
  have knew : ∀ i, w.heap.size ≤ i → i < w.heap.size + 3 → (w3.setCell ⟨b, 0, none⟩ u).heap[i]? = (laid w a1 a2 a3 a4).heap[i]? := fun i h1 h2 => by
    refine (hset i (fun e => by have := heap_lt h.head; omega)).trans (happ.grown.block i (by omega) (fun e => ?_))
    have := row_lt h.row e.symm
    omega
  have hblkb : ∀ (p : Spot) (o : Ob), ObAt w T p o → ∀ i, p.blk i → i ≠ b ∧ v.ownBlock ≠ some i := fun p o hp i hi => by
    refine ⟨?_, ?_⟩
    · rintro rfl
      exact hp.not_blk h.head (by decide) (by decide) hi
    · intro e
      obtain ⟨cs', hc⟩ := row_blk h.row e
      exact hp.not_blk hc (by decide) (by decide) hi
  have hlen : (sp ++ [spot w]).length = (L ++ [(⟨a1, a2, a3, a4, []⟩ : Ob)]).length := by simp [h.len]
  refine ⟨⟨blk_set hb3 0 u, .inl h.mine, ?_, ?_, hlen, ?_, ?_, ?_, ext_lt h.lt hF4.size⟩, hF4, hb3⟩
  · have hr : w3.ownsRow 0 66 1 u (L ++ [(⟨a1, a2, a3, a4, []⟩ : Ob)]).length ((sp ++ [spot w]).map ptr) := by
      have := happ.own
      rw [List.length_append, List.map_append]
      exact this
    refine row_keep hr (fun j hj => hset j (fun e => ?_))
    obtain ⟨cs, hc⟩ := row_blk hr hj
    subst e
    rw [hb3] at hc
    cases hc
  · intro k hk
    rcases happ.lies with e | e
    · exact .inl (h.rowF k (e ▸ hk))
    · rw [hk] at e
      cases e
      exact hnew _ (by rw [hls]; omega) (row_lt happ.own hk)
  · intro i p o hp ho
    by_cases hi : i < sp.length
    · rw [List.getElem?_append_left hi] at hp
      rw [List.getElem?_append_left (by rw [← h.len]; exact hi)] at ho
      have hob := h.obj i p o hp ho
      exact hob.keep (fun j hj => kold j (hob.lt hj) (hblkb p o hob j hj).1 (hblkb p o hob j hj).2)
    · rw [List.getElem?_append_right (by omega)] at hp
      rw [List.getElem?_append_right (by rw [← h.len]; omega)] at ho
      have h1 := (List.getElem?_eq_some_iff.1 hp).1
      simp at h1
      obtain rfl : i = sp.length := by omega
      rw [h.len] at ho
      simp at hp ho
      subst hp
      subst ho
      refine (laid_ob w a1 a2 a3 a4 T).keep (fun j hj => ?_)
      rcases hj with rfl | rfl | hj
      · exact knew _ (by simp [spot]) (by simp [spot])
      · exact knew _ (by simp [spot]) (by simp [spot])
      · simp [spot, Value.ownBlock] at hj
  · intro p hp i hi
    rcases List.mem_append.1 hp with hp | hp
    · exact .inl (h.objF p hp i hi)
    · obtain rfl : p = spot w := by simpa using hp
      rcases hi with rfl | rfl | hi
      · exact hnew _ (by simp [spot]) (by simp [spot]; omega)
      · exact hnew _ (by simp [spot]) (by simp [spot]; omega)
      · simp [spot, Value.ownBlock] at hi
  · rw [List.pairwise_append]
    refine ⟨h.apart, by simp, fun p hp q hq => ?_⟩
    obtain rfl : q = spot w := by simpa using hq
    have hl : ∀ i, p.blk i → i < w.heap.size := fun i hi => h.lt i (h.objF p hp i hi)
    refine ⟨?_, ?_, ?_⟩
    · have := hl _ (.inl rfl)
      simp [spot]
      omega
    · have := hl _ (.inr (.inl rfl))
      simp [spot]
      omega
    · simp [spot, Value.ownBlock]

set_option maxHeartbeats 400000 in
theorem Alloc_nil (a b c d : Int) (w : World) : Calls Try.prog 23 #[.pointer none, .agg #[.int .i64 a, .int .i64 b, .int .i64 c, .int .i64 d]] w fun e w' => e = .returned (.tuple #[.int .i64 0, .int .i64 1]) ∧ Below w.heap.size w w' := by
  go_enter Try.func23, Try.ntmps23
  go_wp2
  go_ret2
  exact ⟨rfl, (Below.refl _ w).alloc (Nat.le_refl _) _⟩
end Go.Proofs.Ytpbbinppikaamaa
