/- gumshoeref07's New. -/
import Derived.Test.YtpbbinppikaamaaRefPut2
import Derived.Test.YtpbbinppikaamaaNew
namespace Go.Proofs.Ytpbbinppikaamaa
open Go.RowKit Go.Proofs Go.Maps

theorem RefAt.grow {w w3 : World} {F : Nat → Prop} {b T : Nat} {ths : List TH} {v u : Value} {ob : Obj} {t : TH} (h : RefAt w F b T ths v) (ht : ThAt w T t) (htF : ∀ k, t.blk k → F k) (hap : ∀ s ∈ ths, RApart s t)
    (happ : App (w.alloc ob) 65 6 (ths.length + 1) v (ths.flatMap TH.cells ++ t.cells) u w3) :
    RefAt (w3.setCell ⟨b, 0, none⟩ u) (ext F w (w3.setCell ⟨b, 0, none⟩ u)) b T (ths ++ [t]) u ∧ Only F w (w3.setCell ⟨b, 0, none⟩ u) ∧ w3.heap[b]? = some (.cells #[v] 38 (0, 0)) := by
  have hon : Only (fun k => v.ownBlock = some k) w w3 := (Only.of_below ((Below.refl _ w).alloc (Nat.le_refl _) ob)).trans' happ.only
  have hbv : v.ownBlock ≠ some b := fun e => by
    obtain ⟨cs, hc⟩ := row_blk h.row e
    rw [h.head] at hc
    cases hc
  have hb3 : w3.heap[b]? = some (.cells #[v] 38 (0, 0)) := (hon.block b (heap_lt h.head) hbv).trans h.head
  have hF4 : Only F w (w3.setCell ⟨b, 0, none⟩ u) := (hon.mono (fun k _ hk => h.rowF k hk)).trans' (Only.setCell w3 h.mine 0 u)
  have hset : ∀ j, j ≠ b → (w3.setCell ⟨b, 0, none⟩ u).heap[j]? = w3.heap[j]? := fun j hj => Below.heap_setCell w3 _ u j (fun e => hj (by simpa using e))
  have hsz : (w3.setCell ⟨b, 0, none⟩ u).heap.size = w3.heap.size := by simp [World.setCell]
  have hth : ∀ (t : TH), ThAt w T t → ∀ k, t.blk k → k ≠ b ∧ v.ownBlock ≠ some k := fun t hi k hk => by
    have key : ∀ {cs ty}, w.heap[k]? = some (.cells cs ty (0, 0)) → ty ≠ 38 → ty ≠ 65 → k ≠ b ∧ v.ownBlock ≠ some k := fun {cs ty} hc h1 h2 => by
      refine ⟨fun e => ?_, fun e => ?_⟩
      · subst e
        rw [h.head] at hc
        cases hc
        exact h1 rfl
      · obtain ⟨cs', hc'⟩ := row_blk h.row e
        rw [hc] at hc'
        cases hc'
        exact h2 rfl
    rcases hk with hk | hk
    · obtain ⟨cs, hc⟩ := row_blk hi.ks hk
      exact key hc (by decide) (by decide)
    · obtain ⟨cs, hc⟩ := row_blk hi.vs hk
      exact key hc (by decide) (by decide)
  have hlt : ∀ (t : TH), ThAt w T t → ∀ k, t.blk k → k < w.heap.size := fun t hi k hk => by
    rcases hk with hk | hk
    · exact row_lt hi.ks hk
    · exact row_lt hi.vs hk
  have hkeep : ∀ (t : TH), ThAt w T t → ThAt (w3.setCell ⟨b, 0, none⟩ u) T t := fun t hi => hi.keep (fun k hk => (hset k (hth t hi k hk).1).trans (hon.block k (hlt t hi k hk) (hth t hi k hk).2))
  refine ⟨⟨blk_set hb3 0 u, .inl h.mine, ?_, fun k hk => ?_, fun i t' ht' => ?_, fun t' ht' k hk => ?_, ?_, ext_lt h.lt hF4.size⟩, hF4, hb3⟩
  · have hr : w3.ownsRow 0 65 6 u (ths ++ [t]).length ((ths ++ [t]).flatMap TH.cells) := by
      have := happ.own
      rw [List.length_append, List.flatMap_append, List.flatMap_singleton]
      exact this
    refine row_keep hr (fun j hj => hset j (fun e => ?_))
    obtain ⟨cs, hc⟩ := row_blk hr hj
    subst e
    rw [hb3] at hc
    cases hc
  · have hl := row_lt happ.own hk
    rcases happ.lies with e | e
    · exact .inl (h.rowF k (e ▸ hk))
    · rw [hk] at e
      cases e
      exact .inr ⟨by simp, by rw [hsz]; exact hl⟩
  · by_cases hi : i < ths.length
    · rw [List.getElem?_append_left hi] at ht'
      exact hkeep t' (h.th i t' ht')
    · rw [List.getElem?_append_right (by omega)] at ht'
      have h1 := (List.getElem?_eq_some_iff.1 ht').1
      simp at h1
      obtain rfl : i = ths.length := by omega
      simp at ht'
      subst ht'
      exact hkeep t ht
  · rcases List.mem_append.1 ht' with ht' | ht'
    · exact .inl (h.thF t' ht' k hk)
    · obtain rfl : t' = _ := List.mem_singleton.1 ht'
      exact .inl (htF k hk)
  · rw [List.pairwise_append]
    refine ⟨h.apart, by simp, fun s hs r hr => ?_⟩
    obtain rfl : r = _ := List.mem_singleton.1 hr
    exact hap s hs
/-- New's heap under way. -/
structure Und (w W : World) (ths : List TH) (v : Value) : Prop where
  ref : RefAt W (From w.heap.size W) w.heap.size 2 ths v
  below : Below w.heap.size w W
theorem Und.grow {w W W' : World} {ths : List TH} {v : Value} {t : TH} (h : Und w W ths v) (hb : Below W.heap.size W W') (ht : ThAt W' 2 t) (htF : ∀ k, t.blk k → w.heap.size ≤ k) (hap : ∀ s ∈ ths, RApart s t) (hs : ths.length ≤ 4) (h1 : ∀ u ∈ t.cells, u.oneCell' = true) :
    ∃ u w3, (Builtin.append_ #[36, 36] 36 #[v, .slice (some ⟨W'.heap.size, 0, none⟩) 1 1]).run Try.prog (W'.alloc (.cells t.cells.toArray 65)) = .ok u w3 ∧
      ∃ A' c', u = .slice A' (ths.length + 1) c' ∧ w3.cell? ⟨w.heap.size, 0, none⟩ = some v ∧ w3.frozen? ⟨w.heap.size, 0, none⟩ = false ∧ Und w (w3.setCell ⟨w.heap.size, 0, none⟩ u) (ths ++ [t]) u := by
  have hW := h.below.size
  have hW' := hb.size
  have hr : RefAt W' (From w.heap.size W') w.heap.size 2 ths v := (h.ref.keep (w' := W') (fun i hi => hb.block i hi.2) hb.size).mono (fun i hi => ⟨hi.1, by have := hi.2; omega⟩) (fun i hi => hi.2)
  obtain ⟨u, w3, r1, r2⟩ := app_one (P := Try.prog) (w := W'.alloc (.cells t.cells.toArray 65)) (t := 36) (ty := 36) Try.underlying36 info65 rfl (by decide) (by decide) (row_keep (w' := W'.alloc (.cells t.cells.toArray 65)) hr.row (fun j hj => Below.heap_alloc W' _ j (row_lt hr.row hj))) W'.heap.size t.cells 65 (heap_alloc_new W' _) rfl h1 (by omega)
  have htF' : ∀ k, t.blk k → From w.heap.size W' k := fun k hk => ⟨htF k hk, by
    rcases hk with hk | hk
    · exact row_lt ht.ks hk
    · exact row_lt ht.vs hk⟩
  obtain ⟨g1, g2, g3⟩ := hr.grow (ob := .cells t.cells.toArray 65) ht htF' hap r2
  obtain ⟨A', c', e, -, -⟩ := row_slice r2.own
  refine ⟨u, w3, r1, A', c', e, cell_of_row w3 _ 0 _ _ _ g3, by simp [World.frozen?, g3], g1.mono (fun i hi => ?_) (fun i hi => hi.2), (h.below.trans (hb.mono hW)).trans (g2.below (by omega) (fun i hi => hi.1))⟩
  have hs4 := g2.size
  rcases hi with hi | hi
  · exact ⟨hi.1, by have := hi.2; omega⟩
  · exact ⟨by have := hi.1; omega, hi.2⟩
theorem Und.plain {w W : World} {ths : List TH} {A : Option Addr} {n c : Nat} (h : Und w W ths (.slice A n c)) (o : Ob) (m : Nat) (ho : o.kv = []) (hm : ths.length + 1 = m) (hs : ths.length ≤ 4) :
    ∃ u w3, (Builtin.append_ #[36, 36] 36 #[.slice A n c, .slice (some ⟨W.heap.size, 0, none⟩) 1 1]).run Try.prog (W.alloc (.cells #[.int .i64 o.mark, .int .i64 o.proto, .int .i64 o.code, .int .i64 o.frame, .slice none 0 0, .slice none 0 0] 65)) = .ok u w3 ∧
      ∃ A' c', u = .slice A' m c' ∧ w3.cell? ⟨w.heap.size, 0, none⟩ = some (.slice A n c) ∧ w3.frozen? ⟨w.heap.size, 0, none⟩ = false ∧ Und w (w3.setCell ⟨w.heap.size, 0, none⟩ (.slice A' m c')) (ths ++ [⟨o, .slice none 0 0, .slice none 0 0⟩]) (.slice A' m c') := by
  obtain ⟨u, w3, r1, A', c', e, r2⟩ := h.grow (t := ⟨o, .slice none 0 0, .slice none 0 0⟩) (Below.refl _ W) ⟨by rw [ho]; exact World.ownsRow_nil _ _ _ _, by rw [ho]; exact World.ownsRow_nil _ _ _ _, by rw [ho]; exact Nat.zero_le _⟩
    (fun k hk => by rcases hk with hk | hk <;> simp [Value.ownBlock] at hk) (fun s _ => ⟨fun k _ h2 => by simp [Value.ownBlock] at h2, fun k _ h2 => by simp [Value.ownBlock] at h2⟩) hs (by simp [TH.cells, Value.oneCell'])
  subst hm
  subst e
  exact ⟨_, w3, r1, A', c', rfl, r2⟩
def t1 (n : Nat) : TH := ⟨⟨1, 0, 0, 0, [(callB, ⟨5, 2, ⟨#[]⟩⟩), (applyB, ⟨5, 3, ⟨#[]⟩⟩)]⟩, .slice (some ⟨n, 0, none⟩) 2 2, .slice (some ⟨n + 1, 0, none⟩) 2 2⟩
theorem Und.keyed {w W : World} {A : Option Addr} {n c : Nat} {o : Ob} (h : Und w W [⟨o, .slice none 0 0, .slice none 0 0⟩] (.slice A n c)) :
    ∃ u w3, (Builtin.append_ #[36, 36] 36 #[.slice A n c, .slice (some ⟨W.heap.size + 1 + 1, 0, none⟩) 1 1]).run Try.prog (((W.alloc (.cells #[.string callB, .string applyB] 9)).alloc (.cells #[.int .i64 5, .int .i64 2, .string ⟨#[]⟩, .int .i64 5, .int .i64 3, .string ⟨#[]⟩] 32)).alloc (.cells #[.int .i64 1, .int .i64 0, .int .i64 0, .int .i64 0, .slice (some ⟨W.heap.size, 0, none⟩) 2 2, .slice (some ⟨W.heap.size + 1, 0, none⟩) 2 2] 65)) = .ok u w3 ∧
      ∃ A' c', u = .slice A' 2 c' ∧ w3.cell? ⟨w.heap.size, 0, none⟩ = some (.slice A n c) ∧ w3.frozen? ⟨w.heap.size, 0, none⟩ = false ∧ Und w (w3.setCell ⟨w.heap.size, 0, none⟩ (.slice A' 2 c')) [⟨o, .slice none 0 0, .slice none 0 0⟩, t1 W.heap.size] (.slice A' 2 c') := by
  have hk : (W.alloc (.cells #[.string callB, .string applyB] 9)).ownsRow 0 9 1 (.slice (some ⟨W.heap.size, 0, none⟩) 2 2) 2 [.string callB, .string applyB] := World.ownsRow_lit W #[.string callB, .string applyB] 2 (Nat.zero_le _) (by decide) rfl
  have hk2 := row_keep (w' := (W.alloc (.cells #[.string callB, .string applyB] 9)).alloc (.cells #[.int .i64 5, .int .i64 2, .string ⟨#[]⟩, .int .i64 5, .int .i64 3, .string ⟨#[]⟩] 32)) hk (fun j hj => Below.heap_alloc _ _ j (row_lt hk hj))
  have hv : ((W.alloc (.cells #[.string callB, .string applyB] 9)).alloc (.cells #[.int .i64 5, .int .i64 2, .string ⟨#[]⟩, .int .i64 5, .int .i64 3, .string ⟨#[]⟩] 32)).ownsRow 0 32 3 (.slice (some ⟨(W.alloc (.cells #[.string callB, .string applyB] 9)).heap.size, 0, none⟩) 2 2) 2 [.int .i64 5, .int .i64 2, .string ⟨#[]⟩, .int .i64 5, .int .i64 3, .string ⟨#[]⟩] := World.ownsRow_lit (W.alloc (.cells #[.string callB, .string applyB] 9)) #[.int .i64 5, .int .i64 2, .string ⟨#[]⟩, .int .i64 5, .int .i64 3, .string ⟨#[]⟩] 2 (Nat.zero_le _) (by decide) rfl
  rw [World.size_alloc] at hv
  have hb2 : Below W.heap.size W ((W.alloc (.cells #[.string callB, .string applyB] 9)).alloc (.cells #[.int .i64 5, .int .i64 2, .string ⟨#[]⟩, .int .i64 5, .int .i64 3, .string ⟨#[]⟩] 32)) := ((Below.refl _ W).alloc (Nat.le_refl _) _).alloc (by simp) _
  have hle := h.below.size
  obtain ⟨u, w3, r1, A', c', e, r2⟩ := h.grow (t := t1 W.heap.size) hb2 ⟨hk2, hv, Nat.le_refl 2⟩
    (fun k hk => by rcases hk with hk | hk <;> simp [t1, Value.ownBlock] at hk <;> omega)
    (fun s hs => by
      obtain rfl : s = _ := List.mem_singleton.1 hs
      exact ⟨fun k h1 _ => by simp [Value.ownBlock] at h1, fun k h1 _ => by simp [Value.ownBlock] at h1⟩) (by simp) (by simp [TH.cells, t1, Value.oneCell'])
  subst e
  simp only [World.size_alloc] at r1
  exact ⟨_, w3, r1, A', c', rfl, r2⟩
theorem und_empty (w : World) : Und w (w.alloc (.cells #[.slice none 0 0] 38)) [] (.slice none 0 0) :=
  ⟨⟨heap_alloc_new _ _, ⟨Nat.le_refl _, by simp⟩, World.ownsRow_nil _ _ _ _, fun k hk => by simp [Value.ownBlock] at hk, fun i t ht => by simp at ht, fun t ht => by simp at ht, List.Pairwise.nil, fun i hi => hi.2⟩, below_box w _⟩
theorem size_set (w : World) (a : Addr) (u : Value) : (w.setCell a u).heap.size = w.heap.size := by simp [World.setCell]
set_option maxHeartbeats 1000000 in
theorem RNew_any (w : World) : Calls Try.prog 13 #[] w fun e w' => ∃ b, e = .returned (.pointer (some ⟨b, 0, none⟩)) ∧ IsR w' (From w.heap.size w') b 2 new0 ∧ Below w.heap.size w w' := by
  have H0 := Lib.hid ((und_empty w).plain ⟨0, -1, 0, 0, []⟩ 1 rfl rfl (by decide))
  simp only [World.size_alloc] at H0
  go_enter Try.func13, Try.ntmps13
  go_wp2_with (first
    | (at_builtin; refine wl_app rfl (.tmp 8) (.tmp 11) 36 rfl (.slice none 0 0) (.slice (some ⟨w.heap.size + 1, 0, none⟩) 1 1) rfl rfl _ (H0.out) ?_; rintro u w3 ⟨A1, c1, rfl, e0, f0, hu⟩; have K1 := Lib.hid hu.keyed; simp only [size_set] at K1; clear hu H0)
    | (at_builtin; refine wl_app rfl (.tmp 19) (.tmp 26) 36 rfl (.slice A1 1 c1) (.slice (some ⟨w3.heap.size + 1 + 1, 0, none⟩) 1 1) rfl rfl _ (K1.out) ?_; rintro u w4 ⟨A2, c2, rfl, e1, f1, hu⟩; have K2 := Lib.hid (hu.plain ⟨2, 1, -1, 0, []⟩ 3 rfl rfl (by simp)); simp only [size_set] at K2; clear hu K1)
    | (at_builtin; refine wl_app rfl (.tmp 34) (.tmp 37) 36 rfl (.slice A2 2 c2) (.slice (some ⟨w4.heap.size, 0, none⟩) 1 1) rfl rfl _ (K2.out) ?_; rintro u w5 ⟨A3, c3, rfl, e2, f2, hu⟩; have K3 := Lib.hid (hu.plain ⟨3, 1, -2, 0, []⟩ 4 rfl rfl (by simp)); simp only [size_set] at K3; clear hu K2)
    | (at_builtin; refine wl_app rfl (.tmp 45) (.tmp 48) 36 rfl (.slice A3 3 c3) (.slice (some ⟨w5.heap.size, 0, none⟩) 1 1) rfl rfl _ (K3.out) ?_; rintro u w6 ⟨A4, c4, rfl, e3, f3, hu⟩; have H4 := Lib.hid hu; clear hu K3))
  go_ret
  exact ⟨_, rfl, ⟨⟨_, _, H4.out.ref, rfl⟩, wf_new0, by decide⟩, H4.out.below⟩
end Go.Proofs.Ytpbbinppikaamaa
