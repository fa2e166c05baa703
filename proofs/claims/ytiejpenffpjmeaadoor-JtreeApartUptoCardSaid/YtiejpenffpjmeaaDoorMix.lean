/- jtree.page: what is done with expressions in turn: mix, list, led. -/
import Derived.Test.YtiejpenffpjmeaaDoorPage
namespace Go.Proofs.YtiejpenffpjmeaaDoor
open Go.RowKit Go.Proofs

/-- The library's table lies as its text lays it. -/
def Env (w : World) : Prop := Lib.TabIs Tryd.prog w Tryd.tabName .u64 Lib.pow10Tab
theorem Env.keep {w w' : World} (h : Env w) (hk : w'.heap[0]? = w.heap[0]?) : Env w' := by
  unfold Env Lib.TabIs World.var? at h ⊢
  rw [Tryd.gTab] at h ⊢
  simp only [Option.bind_some] at h ⊢
  rw [hk]
  exact h
theorem Env.lt {w : World} (h : Env w) : 0 < w.heap.size := by
  unfold Env Lib.TabIs World.var? at h
  rw [Tryd.gTab] at h
  simp only [Option.bind_some] at h
  rcases Nat.lt_or_ge 0 w.heap.size with h' | h'
  · exact h'
  · rw [Array.getElem?_eq_none (by omega)] at h
    cases h
theorem Env.below {w w' : World} (h : Env w) (hb : Below w.heap.size w w') : Env w' := h.keep (hb.block 0 h.lt)
theorem Env.pg {b : Nat} {w w' : World} (h : Env w) (hb : 1 ≤ b) (hg : PG b w w') : Env w' := h.keep (hg.low 0 (by omega))

/-- The page's method puts an expression's text. -/
def ExprOK (x : Tr) : Prop := ∀ (b k : Nat) (v : Value) (w : World) (l : Bs), At w b x v → PageAt w b l k → k + x.size ≤ 100000 → (l ++ x.txt k).length ≤ 100000000 → Env w →
  Calls Tryd.prog 33 #[.pointer (some ⟨b, 0, none⟩), v] w (Put b w (l ++ x.txt k) k)

theorem mixR_pre : ∀ (ts xs : List Bs) (n : Nat), mixR (ts.take n) xs <+: mixR ts xs
  | [], xs, n => by rw [List.take_nil]; exact List.prefix_refl _
  | t :: r, xs, 0 => by cases xs <;> exact List.nil_prefix
  | t :: r, [], n + 1 => List.nil_prefix
  | t :: r, x :: xs, n + 1 => by
    obtain ⟨q, hq⟩ := mixR_pre r xs n
    refine ⟨q, ?_⟩
    show (x ++ (t ++ mixR (r.take n) xs)) ++ q = x ++ (t ++ mixR r xs)
    rw [← hq]
    simp
theorem mixL_pre (ts xs : List Bs) (n : Nat) : (mixL (ts.take n) xs).length ≤ (mixL ts xs).length := by
  cases ts with
  | nil => simp
  | cons t r =>
    cases n with
    | zero => simp [mixL]
    | succ n =>
      obtain ⟨q, hq⟩ := mixR_pre r xs n
      show (t ++ mixR (r.take n) xs).length ≤ (t ++ mixR r xs).length
      rw [← hq]
      simp
theorem mixL_next {ts xs : List Bs} {n : Nat} {t x : Bs} (ht : ts[n]? = some t) (h0 : 0 < n) (hx : xs[n - 1]? = some x) : mixL (ts.take (n + 1)) xs = mixL (ts.take n) xs ++ (x ++ t) := by
  have hl : n < ts.length := (List.getElem?_eq_some_iff.1 ht).1
  have e : (ts.take n).length = n := by rw [List.length_take]; omega
  rw [List.take_add_one, ht]
  exact mixL_snoc _ _ _ _ (by omega) (by rw [e]; exact hx)
theorem mixL_first {ts xs : List Bs} {t : Bs} (ht : ts[0]? = some t) : mixL (ts.take (0 + 1)) xs = t := by
  cases ts with
  | nil => simp at ht
  | cons a r =>
    simp at ht
    subst ht
    simp [mixL, mixR]
theorem row_at {w : World} {b : Nat} {xs : List Tr} {v : Value} (h : Row w b xs v) : ∃ A c, v = .slice A xs.length c ∧ xs.length ≤ c ∧ c ≤ maxLen := by
  obtain ⟨A, c, rfl, h1, _⟩ := h
  exact ⟨A, c, rfl, h1.1, h1.2⟩

set_option maxRecDepth 100000 in
set_option maxHeartbeats 4000000 in
theorem mix_any (b k : Nat) (xs : List Tr) (ts : List Bs) (v u : Value) (w : World) (l : Bs) (hx : Row w b xs v) (hp : PageAt w b l k) (hs : Strs w b u ts) (hn : ts.length ≤ xs.length + 1) (hE : ∀ x ∈ xs, ExprOK x) (hk : k + sizes xs ≤ 100000)
    (hlen : (l ++ mixL ts (xs.map (Tr.txt k))).length ≤ 100000000) (he : Env w) :
    Calls Tryd.prog 50 #[.pointer (some ⟨b, 0, none⟩), v, u] w (Put b w (l ++ mixL ts (xs.map (Tr.txt k))) k) := by
  obtain ⟨As, cs, rfl, ⟨hs1, hs2⟩, hS⟩ := hs
  obtain ⟨Ax, cx, rfl, ⟨hx1, hx2⟩, hX⟩ := hx
  have HS := Lib.hid hS
  have HX := Lib.hid hX
  have HE := Lib.hid hE
  have HLen := Lib.hid hlen
  have H1 := Lib.hid hp.1
  have HK := Lib.hid hk
  have HEn := Lib.hid he
  obtain ⟨len, el⟩ : ∃ n, ts.length = n := ⟨_, rfl⟩
  obtain ⟨lex, ex⟩ : ∃ n, xs.length = n := ⟨_, rfl⟩
  rw [el] at hs1 hn ⊢
  rw [ex] at hx1 hn ⊢
  have HL := Lib.hid (And.intro el ex)
  unfold maxLen at hx2
  have HP := Lib.hid hp
  clear hS hX hE hlen hk he el ex hp
  go_enter Tryd.func50, Tryd.ntmps50
  go_wp2
  go_loopw [10] (fun i wr => ∃ n : Nat, n ≤ len ∧ i = .int .i64 n ∧ PageAt wr b (l ++ mixL (ts.take n) (xs.map (Tr.txt k))) k ∧ PG b w wr) (fun i _ => len - (intOf i).toNat)
  case atStart => exact ⟨0, Nat.zero_le _, rfl, by simpa [mixL] using HP.out, PG.refl _ _⟩
  case round =>
    obtain ⟨n, hn2, rfl, hpg, hG⟩ := hrel
    have hbl := hpg.lt
    by_cases hlt : n < len
    · obtain ⟨g, sc, rfl, hgb, hg, hcell⟩ := HS.out (by rw [HL.out.1]; omega)
      obtain ⟨t, et⟩ : ∃ t, ts[n]? = some t := ⟨_, List.getElem?_eq_getElem (by rw [HL.out.1]; exact hlt)⟩
      have ct : wr.cell? ⟨g, n, none⟩ = some (.string (bs t)) := (hG.cell hg hgb rfl n).trans ((cell_of_row w g n _ _ _ hg).trans (hcell n t et))
      have hroom := mixL_pre ts (xs.map (Tr.txt k)) (n + 1)
      have hlen := HLen.out
      rw [List.length_append] at hlen
      have HPut := fun (w1 : World) (L : Bs) (hp1 : PageAt w1 b L k) (hL : (L ++ t).length ≤ 100000000) => put_any b [t] _ _ L k (hp1.alloc (.cells #[.string (bs t)] 9)) (Strs.mk_ w1 b hp1.lt [t] 1 rfl (by omega) _ rfl) (by simpa using hL)
      have HPut := Lib.hid HPut
      have HEt := Lib.hid et
      clear hcell et
      by_cases h0 : n = 0
      · subst h0
        have hf := mixL_first (xs := xs.map (Tr.txt k)) HEt.out
        rw [hf] at hroom
        have HC := Lib.hid (HPut.out wr _ hpg (by simp [mixL]; omega))
        have HF := Lib.hid hf
        have HG := Lib.hid hG
        clear hf hG hpg hg
        go_wp2_with (go_at_call 46; refine HC.out.mono ?_; rintro e w1 ⟨⟨v, rfl⟩, hp1, hg1⟩; have HR := Lib.hid (And.intro hp1 hg1); clear hp1 hg1)
        go_roundw
        case rel => exact ⟨1, by omega, by go_num, by
          have := HR.out.1
          rw [HF.out]
          simpa [mixL] using this, (HG.out.alloc (by omega) _).trans HR.out.2⟩
        case measure => simp [intOf]; omega
      · obtain ⟨gx, fx, rfl, hgx, HA⟩ := HX.out (by rw [HL.out.2]; omega)
        obtain ⟨x, hxe⟩ : ∃ x, xs[n - 1]? = some x := ⟨_, List.getElem?_eq_getElem (by rw [HL.out.2]; omega)⟩
        obtain ⟨vx, hAt, x0, x1, x2, x3, x4⟩ := AtL.get xs (n - 1) x (AtL.keep (W' := wr) (n' := b) xs HA hgx (Nat.le_refl _) fun _ hp => hG.below.cell hp) hxe
        have hmem := List.mem_of_getElem? hxe
        have hsz := size_mem hmem
        have hf := mixL_next (xs := xs.map (Tr.txt k)) HEt.out (by omega) (by rw [List.getElem?_map, hxe]; rfl)
        rw [hf, List.length_append, List.length_append] at hroom
        have hcall := HE.out x hmem b k _ wr _ hAt hpg (by have := HK.out; omega) (by simp only [List.length_append]; omega) (HEn.out.pg H1.out hG)
        have hvx : ∃ A c, vx = .slice A x.l.length c := by
          rw [At_iff] at hAt
          obtain ⟨u', e', ⟨A', c', rfl, _⟩, _⟩ := hAt
          unfold nodeV at e'
          simp at e'
          exact ⟨A', c', e'⟩
        obtain ⟨Av, cv, rfl⟩ := hvx
        have hcast : ((n : Int) - 1) = ((n - 1 : Nat) : Int) := by omega
        have g0 : (0 : Int) < n := by omega
        unfold nodeV at hcall
        have HC := Lib.hid hcall
        have HF := Lib.hid hf
        have HG := Lib.hid hG
        have HRoom := Lib.hid hroom
        clear hf hG hpg hg hAt hcall HA hxe hroom
        go_wp2_with (first
          | (go_at_call 33; refine HC.out.mono ?_; rintro e w1 ⟨⟨v1, rfl⟩, hp1, hg1⟩; have hbl1 := hp1.lt; have hc2 := HPut.out w1 _ hp1 (by have := HRoom.out; simp only [List.length_append]; omega); have HC2 := Lib.hid hc2; have HR1 := Lib.hid hg1; clear hp1 hg1 hc2)
          | (go_at_call 46; refine HC2.out.mono ?_; rintro e w2 ⟨⟨v2, rfl⟩, hp2, hg2⟩; have HR := Lib.hid (And.intro hp2 hg2); clear hp2 hg2))
        go_roundw
        case rel => exact ⟨n + 1, by omega, by go_num, by
          have := HR.out.1
          rw [HF.out]
          simpa using this, ((HG.out.trans HR1.out).alloc (by omega) _).trans HR.out.2⟩
        case measure => simp [intOf]; omega
    · obtain rfl : n = len := by omega
      have HN := Lib.hid (show (ts.take n) = ts from List.take_of_length_le (by rw [HL.out.1]; exact Nat.le_refl _))
      have HPg := Lib.hid hpg
      clear hpg
      go_wp2
      refine bodyPost_ret (results_none rfl _ _ _) rfl ?_
      have := HPg.out
      rw [HN.out] at this
      exact ⟨⟨_, rfl⟩, this, hG⟩
end Go.Proofs.YtiejpenffpjmeaaDoor
