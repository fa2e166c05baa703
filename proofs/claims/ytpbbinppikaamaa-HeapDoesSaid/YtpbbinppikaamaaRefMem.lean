/- The document's heap: what an object more, and a value put, make of the memory. -/
import Derived.Test.YtpbbinppikaamaaRef
namespace Go.Proofs.Ytpbbinppikaamaa
open Go.RowKit Go.Proofs Go.Maps

theorem info65 : (Try.prog.info? 65).map (fun i => (i.zero, i.size, i.bytes)) = some (some (.agg #[.int .i64 0, .int .i64 0, .int .i64 0, .int .i64 0, .slice none 0 0, .slice none 0 0]), 6, 80) := by kernel_rfl
theorem info32 : (Try.prog.info? 32).map (fun i => (i.zero, i.size, i.bytes)) = some (some (.agg #[.int .i64 0, .int .i64 0, .string ⟨#[]⟩]), 3, 32) := by kernel_rfl
theorem rpair {ths : List TH} (h : ths.Pairwise RApart) {i j : Nat} {s t : TH} (hs : ths[i]? = some s) (ht : ths[j]? = some t) (hij : i ≠ j) : RApart s t := by
  obtain ⟨h1, rfl⟩ := List.getElem?_eq_some_iff.1 hs
  obtain ⟨h2, rfl⟩ := List.getElem?_eq_some_iff.1 ht
  rcases Nat.lt_or_gt_of_ne hij with e | e
  · exact List.pairwise_iff_getElem.1 h i j h1 h2 e
  · exact (List.pairwise_iff_getElem.1 h j i h2 h1 e).symm
theorem rpair_of {ths : List TH} (h : ∀ (i j : Nat) (s t : TH), ths[i]? = some s → ths[j]? = some t → i < j → RApart s t) : ths.Pairwise RApart :=
  List.pairwise_iff_getElem.2 fun i j hi hj hij => h i j _ _ (List.getElem?_eq_getElem hi) (List.getElem?_eq_getElem hj) hij
section
variable {w w' w3 : World} {F : Nat → Prop} {b T : Nat} {ths : List TH} {v u : Value} {t t' : TH}
/-- What turns where an object's rows turn. -/
def Pb (v : Value) (t : TH) (k : Nat) : Prop := v.ownBlock = some k ∨ t.blk k
theorem RefAt.pb_F (h : RefAt w F b T ths v) {i : Nat} (hi : ths[i]? = some t) {k : Nat} (hk : Pb v t k) : F k := by
  rcases hk with hk | hk
  · exact h.rowF k hk
  · exact h.thF t (List.mem_of_getElem? hi) k hk
theorem RefAt.pb_type (h : RefAt w F b T ths v) {i : Nat} (hi : ths[i]? = some t) {k : Nat} (hk : Pb v t k) : ∃ cs ty, w.heap[k]? = some (.cells cs ty (0, 0)) ∧ ((v.ownBlock = some k ∧ ty = 65) ∨ (t.ks.ownBlock = some k ∧ ty = 9) ∨ (t.vs.ownBlock = some k ∧ ty = 32)) := by
  rcases hk with hk | hk | hk
  · obtain ⟨cs, hc⟩ := row_blk h.row hk
    exact ⟨cs, 65, hc, .inl ⟨hk, rfl⟩⟩
  · obtain ⟨cs, hc⟩ := row_blk (h.th i t hi).ks hk
    exact ⟨cs, 9, hc, .inr (.inl ⟨hk, rfl⟩)⟩
  · obtain ⟨cs, hc⟩ := row_blk (h.th i t hi).vs hk
    exact ⟨cs, 32, hc, .inr (.inr ⟨hk, rfl⟩)⟩
theorem RefAt.head_pb (h : RefAt w F b T ths v) {i : Nat} (hi : ths[i]? = some t) : ¬ Pb v t b := fun hk => by
  obtain ⟨cs, ty, hc, ht⟩ := h.pb_type hi hk
  rw [h.head] at hc
  cases hc
  rcases ht with ⟨_, e⟩ | ⟨_, e⟩ | ⟨_, e⟩ <;> cases e
theorem RefAt.other_pb (h : RefAt w F b T ths v) {i j : Nat} {s : TH} (hi : ths[i]? = some t) (hj : ths[j]? = some s) (hij : j ≠ i) {k : Nat} (hk : s.blk k) : ¬ Pb v t k := fun hp => by
  have ha := rpair h.apart hj hi hij
  obtain ⟨cs, ty, hc, ht⟩ := h.pb_type hi hp
  rcases hk with hk | hk
  · obtain ⟨cs', hc'⟩ := row_blk (h.th j s hj).ks hk
    rw [hc] at hc'
    cases hc'
    rcases ht with ⟨_, e⟩ | ⟨e, _⟩ | ⟨_, e⟩
    · cases e
    · exact ha.1 k hk e
    · cases e
  · obtain ⟨cs', hc'⟩ := row_blk (h.th j s hj).vs hk
    rw [hc] at hc'
    cases hc'
    rcases ht with ⟨_, e⟩ | ⟨_, e⟩ | ⟨e, _⟩
    · cases e
    · cases e
    · exact ha.2 k hk e
/-- Where a row lies now: where it was, or in a new block. -/
def Lies (w : World) (u u' : Value) : Prop := u'.ownBlock = u.ownBlock ∨ ∃ k, u'.ownBlock = some k ∧ w.heap.size ≤ k
theorem RefAt.upd (h : RefAt w F b T ths v) {i : Nat} (hi : ths[i]? = some t) (hon : Only (Pb v t) w w') (hrow : w'.ownsRow 0 65 6 v ths.length ((ths.set i t').flatMap TH.cells)) (ht' : ThAt w' (T + 1) t') (hk' : Lies w t.ks t'.ks) (hv' : Lies w t.vs t'.vs) :
    RefAt w' (ext F w w') b (T + 1) (ths.set i t') v ∧ Only F w w' := by
  have hF : Only F w w' := hon.mono (fun k _ hk => h.pb_F hi hk)
  have hil := (List.getElem?_eq_some_iff.1 hi).1
  have hold : ∀ (s : TH) (u u' : Value), Lies w u u' → (∀ k, u.ownBlock = some k → F k) → (∀ k, u'.ownBlock = some k → k < w'.heap.size) → ∀ k, u'.ownBlock = some k → ext F w w' k := fun s u u' hl hu hlt k hk => by
    rcases hl with e | ⟨j, e, hj⟩
    · exact .inl (hu k (e ▸ hk))
    · rw [hk] at e
      cases e
      exact .inr ⟨hj, hlt k hk⟩
  have hnew : ∀ k, t'.blk k → ext F w w' k := fun k hk => by
    rcases hk with hk | hk
    · exact hold t t.ks t'.ks hk' (fun k hk => h.thF t (List.mem_of_getElem? hi) k (.inl hk)) (fun k hk => row_lt ht'.ks hk) k hk
    · exact hold t t.vs t'.vs hv' (fun k hk => h.thF t (List.mem_of_getElem? hi) k (.inr hk)) (fun k hk => row_lt ht'.vs hk) k hk
  have hap : ∀ (j : Nat) (s : TH), ths[j]? = some s → j ≠ i → RApart t' s := fun j s hj hji => by
    have ha := rpair h.apart hi hj (Ne.symm hji)
    have hth := h.th j s hj
    refine ⟨fun k h1 h2 => ?_, fun k h1 h2 => ?_⟩
    · rcases hk' with e | ⟨k', e, hl⟩
      · exact ha.1 k (e ▸ h1) h2
      · rw [h1] at e
        cases e
        have := row_lt hth.ks h2
        omega
    · rcases hv' with e | ⟨k', e, hl⟩
      · exact ha.2 k (e ▸ h1) h2
      · rw [h1] at e
        cases e
        have := row_lt hth.vs h2
        omega
  refine ⟨⟨(hon.block b (heap_lt h.head) (h.head_pb hi)).trans h.head, .inl h.mine, by rw [List.length_set]; exact hrow, fun k hk => .inl (h.rowF k hk), ?_, ?_, ?_, ext_lt h.lt hF.size⟩, hF⟩
  · intro j s hj
    by_cases e : j = i
    · subst e
      rw [List.getElem?_set_self hil] at hj
      cases hj
      exact ht'
    · rw [List.getElem?_set_ne (Ne.symm e)] at hj
      refine ((h.th j s hj).keep (fun k hk => hon.block k ?_ (h.other_pb hi hj e hk))).more (Nat.le_succ _)
      rcases hk with hk | hk
      · exact row_lt (h.th j s hj).ks hk
      · exact row_lt (h.th j s hj).vs hk
  · intro s hs k hk
    rcases List.mem_or_eq_of_mem_set hs with hs | rfl
    · exact .inl (h.thF s hs k hk)
    · exact hnew k hk
  · refine rpair_of fun j k s r hs hr hjk => ?_
    by_cases ej : j = i
    · subst ej
      rw [List.getElem?_set_self hil] at hs
      cases hs
      rw [List.getElem?_set_ne (by omega)] at hr
      exact hap k r hr (by omega)
    · rw [List.getElem?_set_ne (Ne.symm ej)] at hs
      by_cases ek : k = i
      · subst ek
        rw [List.getElem?_set_self hil] at hr
        cases hr
        exact (hap j s hs ej).symm
      · rw [List.getElem?_set_ne (Ne.symm ek)] at hr
        exact rpair h.apart hs hr (by omega)

/-- An object more. -/
theorem RefAt.alloc {a1 a2 a3 a4 : Int} {ob : Obj} (h : RefAt w F b T ths v)
    (happ : App (w.alloc ob) 65 6 (ths.length + 1) v (ths.flatMap TH.cells ++ [.int .i64 a1, .int .i64 a2, .int .i64 a3, .int .i64 a4, .slice none 0 0, .slice none 0 0]) u w3) :
    RefAt (w3.setCell ⟨b, 0, none⟩ u) (ext F w (w3.setCell ⟨b, 0, none⟩ u)) b T (ths ++ [⟨⟨a1, a2, a3, a4, []⟩, .slice none 0 0, .slice none 0 0⟩]) u ∧ Only F w (w3.setCell ⟨b, 0, none⟩ u) ∧ w3.heap[b]? = some (.cells #[v] 38 (0, 0)) := by
  have hon : Only (fun k => v.ownBlock = some k) w w3 := (Only.of_below ((Below.refl _ w).alloc (Nat.le_refl _) ob)).trans' happ.only
  have hbv : v.ownBlock ≠ some b := fun e => by
    obtain ⟨cs, hc⟩ := row_blk h.row e
    rw [h.head] at hc
    cases hc
  have hb3 : w3.heap[b]? = some (.cells #[v] 38 (0, 0)) := (hon.block b (heap_lt h.head) hbv).trans h.head
  have hF4 : Only F w (w3.setCell ⟨b, 0, none⟩ u) := (hon.mono (fun k _ hk => h.rowF k hk)).trans' (Only.setCell w3 h.mine 0 u)
  have hset : ∀ j, j ≠ b → (w3.setCell ⟨b, 0, none⟩ u).heap[j]? = w3.heap[j]? := fun j hj => Below.heap_setCell w3 _ u j (fun e => hj (by simpa using e))
  have hsz : (w3.setCell ⟨b, 0, none⟩ u).heap.size = w3.heap.size := by simp [World.setCell]
  have hth : ∀ (i : Nat) (t : TH), ths[i]? = some t → ∀ k, t.blk k → k ≠ b ∧ v.ownBlock ≠ some k := fun i t hi k hk => by
    have key : ∀ {cs ty}, w.heap[k]? = some (.cells cs ty (0, 0)) → ty ≠ 38 → ty ≠ 65 → k ≠ b ∧ v.ownBlock ≠ some k := fun {cs ty} hc h1 h2 => by
      refine ⟨fun e => ?_, fun e => ?_⟩
      · subst e
        rw [h.head] at hc
        cases hc
        exact h1 rfl
      · obtain ⟨cs', hc'⟩ := row_blk h.row e
        rw [hc] at hc'
        cases hc'
        exact h2 rfl
    rcases hk with hk | hk
    · obtain ⟨cs, hc⟩ := row_blk (h.th i t hi).ks hk
      exact key hc (by decide) (by decide)
    · obtain ⟨cs, hc⟩ := row_blk (h.th i t hi).vs hk
      exact key hc (by decide) (by decide)
  have hlt : ∀ (i : Nat) (t : TH), ths[i]? = some t → ∀ k, t.blk k → k < w.heap.size := fun i t hi k hk => by
    rcases hk with hk | hk
    · exact row_lt (h.th i t hi).ks hk
    · exact row_lt (h.th i t hi).vs hk
  refine ⟨⟨blk_set hb3 0 u, .inl h.mine, ?_, fun k hk => ?_, fun i t ht => ?_, fun t ht k hk => ?_, ?_, ext_lt h.lt hF4.size⟩, hF4, hb3⟩
  · have hr : w3.ownsRow 0 65 6 u (ths ++ [(⟨⟨a1, a2, a3, a4, []⟩, .slice none 0 0, .slice none 0 0⟩ : TH)]).length ((ths ++ [(⟨⟨a1, a2, a3, a4, []⟩, .slice none 0 0, .slice none 0 0⟩ : TH)]).flatMap TH.cells) := by
      have := happ.own
      rw [List.length_append, List.flatMap_append]
      exact this
    refine row_keep hr (fun j hj => hset j (fun e => ?_))
    obtain ⟨cs, hc⟩ := row_blk hr hj
    subst e
    rw [hb3] at hc
    cases hc
  · have hl := row_lt happ.own hk
    rcases happ.lies with e | e
    · exact .inl (h.rowF k (e ▸ hk))
    · rw [hk] at e
      cases e
      exact .inr ⟨by simp, by rw [hsz]; exact hl⟩
  · by_cases hi : i < ths.length
    · rw [List.getElem?_append_left hi] at ht
      exact (h.th i t ht).keep (fun k hk => (hset k (hth i t ht k hk).1).trans (hon.block k (hlt i t ht k hk) (hth i t ht k hk).2))
    · rw [List.getElem?_append_right (by omega)] at ht
      have h1 := (List.getElem?_eq_some_iff.1 ht).1
      simp at h1
      obtain rfl : i = ths.length := by omega
      simp at ht
      subst ht
      exact ⟨World.ownsRow_nil _ _ _ _, World.ownsRow_nil _ _ _ _, Nat.zero_le _⟩
  · rcases List.mem_append.1 ht with ht | ht
    · exact .inl (h.thF t ht k hk)
    · obtain rfl : t = _ := List.mem_singleton.1 ht
      rcases hk with hk | hk <;> simp [Value.ownBlock] at hk
  · rw [List.pairwise_append]
    refine ⟨h.apart, by simp, fun s hs r hr => ?_⟩
    obtain rfl : r = _ := List.mem_singleton.1 hr
    exact ⟨fun k _ h2 => by simp [Value.ownBlock] at h2, fun k _ h2 => by simp [Value.ownBlock] at h2⟩
end
end Go.Proofs.Ytpbbinppikaamaa
