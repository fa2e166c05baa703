/- object.put. -/
import Derived.Test.YtpbbinppikaamaaObj
import Derived.Deep.RegionLaw
namespace Go.Proofs.Ytpbbinppikaamaa
open Go.RowKit Go.Proofs Go.Maps

/-- An object whose list of keys may be ahead of its map. -/
structure Mid (w : World) (T : Nat) (p : Spot) (o : Ob) (ks : List ByteArray) : Prop where
  head : w.heap[p.b]? = some (.cells (o.cells p) 70 (0, 0))
  row : w.ownsRow 0 9 1 p.ks ks.length (strsOf ks)
  map : ∃ D, w.ownsMap Try.prog 9 valElem p.m T D ∧ Agree D o.kv
theorem keysOf_len (l : List (ByteArray × V)) : (keysOf l).length = l.length := by simp [keysOf]
theorem ObAt.mid {w : World} {T : Nat} {p : Spot} {o : Ob} (h : ObAt w T p o) : Mid w T p o (keysOf o.kv) := ⟨h.head, by rw [keysOf_len]; exact h.row, h.map⟩
/-- What is behind a put. -/
def PutAt (w w' : World) (T : Nat) (p : Spot) (o : Ob) (s : ByteArray) (v : V) : Prop :=
  ∃ ks, ObAt w' (T + 1) { p with ks := ks } { o with kv := pt o.kv s v } ∧ Only p.blk w w' ∧ (ks.ownBlock = p.ks.ownBlock ∨ ∃ k, ks.ownBlock = some k ∧ w.heap.size ≤ k)
theorem Mid.update {w : World} {T : Nat} {p : Spot} {o : Ob} {ks : List ByteArray} (h : Mid w T p o ks) (hT : T ≤ 1000000) (s : ByteArray) (v : V) (hs : s.size ≤ maxLen) (hk : keysOf (pt o.kv s v) = ks) (hl : ks.length ≤ T + 1) (hkb : ∀ t ∈ ks, t.size ≤ maxLen) :
    ∃ w', (Instr.mapUpdate 68 (.map (some p.m)) (.string s) v.v).run Try.prog w.drew = .ok () w' ∧ (ObAt w' (T + 1) p { o with kv := pt o.kv s v } ∧ Only (fun i => i = p.m) w w') := by
  obtain ⟨D, hm, hA⟩ := h.map
  obtain ⟨w', hrun, h1, h2⟩ := World.ownsMap.update (w := w.drew) hm strKey Try.underlying68 (by unfold maxLen; omega) (WideMaps.keyOf_string_mk Try.underlying9 hs) (valElem_mk v)
  have hne : ∀ {b : Nat} {cs : Array Value} {t : TypeId}, w.heap[b]? = some (.cells cs t (0, 0)) → b ≠ p.m := fun hb e => by
    obtain ⟨es, clock, h', _⟩ := hm
    subst e
    rw [hb] at h'
    cases h'
  have keep : ∀ i, i < w.heap.size → i ≠ p.m → w'.heap[i]? = w.heap[i]? := fun i hi hn => h2.block i hi (fun e => hn (by simpa using e))
  refine ⟨w', hrun, ⟨?_, ?_, ⟨_, h1, hA.put hm.isMap s v⟩, ?_, by rw [hk]; exact hkb⟩, Only.mono (Only.grown (F := fun i => i = p.m) (w := w) ⟨h2.os, h2.tape, h2.output, h2.size, h2.block⟩ (fun r e => by cases e; rfl)) (fun _ _ h => h)⟩
  · exact (keep _ (heap_lt h.head) (hne h.head)).trans h.head
  · show w'.ownsRow 0 9 1 p.ks (pt o.kv s v).length (strsOf (keysOf (pt o.kv s v)))
    rw [← keysOf_len, hk]
    refine row_keep h.row (fun j hj => ?_)
    obtain ⟨cs, hb⟩ := row_blk h.row hj
    exact keep j (heap_lt hb) (hne hb)
  · show (pt o.kv s v).length ≤ T + 1
    rw [← keysOf_len, hk]
    exact hl

def valO (v : V) : Obj := .cells #[.int .i64 v.k, .int .i64 v.n, .string v.s] 32

theorem two_boxes {w W : World} {a b c x y z : Value} (hW : World.alloc (World.alloc w (.cells #[a, b, c] 32)) (.cells #[x, y, z] 32) = W) :
    Below w.heap.size w W ∧ W.cell? ⟨w.heap.size, 0, none⟩ = some a ∧ W.cell? ⟨w.heap.size, 1, none⟩ = some b ∧ W.cell? ⟨w.heap.size, 2, none⟩ = some c := by
  have hb : Below (World.alloc w (.cells #[a, b, c] 32)).heap.size (World.alloc w (.cells #[a, b, c] 32)) W := by
    rw [← hW]
    exact (Below.refl _ _).alloc (Nat.le_refl _) _
  have hl : w.heap.size < (World.alloc w (.cells #[a, b, c] 32)).heap.size := by simp
  refine ⟨((Below.refl _ w).alloc (Nat.le_refl _) _).trans (hb.mono (by simp)), ?_, ?_, ?_⟩
  · exact (hb.cell (p := ⟨w.heap.size, 0, none⟩) hl).trans (World.cell?_alloc_new w _ _ 0)
  · exact (hb.cell (p := ⟨w.heap.size, 1, none⟩) hl).trans (World.cell?_alloc_new w _ _ 1)
  · exact (hb.cell (p := ⟨w.heap.size, 2, none⟩) hl).trans (World.cell?_alloc_new w _ _ 2)

set_option maxHeartbeats 2000000 in
theorem put_old (p : Spot) (o : Ob) (T : Nat) (s : ByteArray) (v : V) (w : World) (h : ObAt w T p o) (hs : s.size ≤ maxLen) (hT : T ≤ 1000000) (hin : (lk o.kv s).isSome = true) :
    Calls Try.prog 39 #[.pointer (some ⟨p.b, 0, none⟩), .string s, v.v] w fun e w' => e = .returned (.tuple #[]) ∧ PutAt w w' T p o s v := by
  have h' := h.below ((Below.refl _ w).alloc (Nat.le_refl _) (valO v))
  have c5 := h'.cell 5 (.map (some p.m)) rfl
  have hl := h'.look s hs
  have hb := h.b_lt
  rw [hin] at hl
  generalize (lk o.kv s).getD V.zero = x at hl
  obtain ⟨xk, xn, xt⟩ := x
  obtain ⟨vk, vn, vt⟩ := v
  have H := Lib.hid h
  have hkeys := keys_pt_old o.kv s ⟨vk, vn, vt⟩ hin
  have HK := Lib.hid (And.intro hkeys hin)
  simp only [V.v, valO] at hl c5 ⊢
  clear h h' hin hkeys
  go_enter Try.func39, Try.ntmps39
  go_wp2
  obtain ⟨W, hW⟩ : ∃ W, World.alloc (World.alloc w (.cells #[.int .i64 vk, .int .i64 vn, .string vt] 32)) (.cells #[.int .i64 xk, .int .i64 xn, .string xt] 32) = W := ⟨_, rfl⟩
  obtain ⟨hbel, v0, v1, v2⟩ := two_boxes hW
  rw [hW]
  clear hW
  have hO := H.out.below hbel
  have d5 := hO.cell 5 (.map (some p.m)) rfl
  obtain ⟨w6, hrun, hO6, hon⟩ := hO.mid.update hT s ⟨vk, vn, vt⟩ hs HK.out.1 (by rw [keysOf_len]; have := H.out.small; omega) H.out.keyb
  simp only [V.v] at hrun
  clear hO
  have HF := Lib.hid (And.intro hO6 hon)
  clear hO6 hon
  go_region
  go_wp2
  go_end0
  exact ⟨rfl, p.ks, HF.out.1, (Only.of_below hbel).trans' (HF.out.2.mono (fun i _ e => .inr (.inl e))), .inl rfl⟩
theorem info9 : (Try.prog.info? 9).map (fun i => (i.zero, i.size, i.bytes)) = some (some (.string ⟨#[]⟩), 1, 16) := by kernel_rfl
/-- A key more. -/
theorem Mid.more {W w2 : World} {T : Nat} {p : Spot} {o : Ob} {u : Value} {s : ByteArray} {ob : Obj} (h : ObAt W T p o) (happ : App (W.alloc ob) 9 1 (o.kv.length + 1) p.ks (strsOf (keysOf o.kv) ++ [.string s]) u w2) :
    Mid (w2.setCell ⟨p.b, 4, none⟩ u) T { p with ks := u } o (keysOf o.kv ++ [s]) ∧ Only p.blk W (w2.setCell ⟨p.b, 4, none⟩ u) ∧ w2.heap[p.b]? = some (.cells (o.cells p) 70 (0, 0)) ∧ (u.ownBlock = p.ks.ownBlock ∨ ∃ k, u.ownBlock = some k ∧ W.heap.size ≤ k) := by
  have hbl := h.b_lt
  have hone : Only p.blk W w2 := ((Only.of_below ((Below.refl _ W).alloc (Nat.le_refl _) ob)).trans' (happ.only.mono (fun i _ e => .inr (.inr e))))
  have hnb : ∀ {b : Nat} {cs : Array Value} {t : TypeId}, W.heap[b]? = some (.cells cs t (0, 0)) → t ≠ 9 → w2.heap[b]? = some (.cells cs t (0, 0)) := fun {b cs t} hb ht => by
    have e1 : (W.alloc ob).heap[b]? = some (.cells cs t (0, 0)) := (Below.heap_alloc W ob b (heap_lt hb)).trans hb
    refine (happ.grown.block b (heap_lt e1) (fun e => ?_)).trans e1
    obtain ⟨cs', hc⟩ := row_blk h.row e.symm
    rw [hb] at hc
    cases hc
    exact ht rfl
  have hh : w2.heap[p.b]? = some (.cells (o.cells p) 70 (0, 0)) := hnb h.head (by decide)
  refine ⟨⟨?_, ?_, ?_⟩, hone.trans' (Only.setCell w2 (.inl rfl) 4 u), hh, ?_⟩
  · exact blk_set hh 4 u
  · have hr : w2.ownsRow 0 9 1 u (keysOf o.kv ++ [s]).length (strsOf (keysOf o.kv ++ [s])) := by
      have := happ.own
      rw [show (keysOf o.kv ++ [s]).length = o.kv.length + 1 by simp [keysOf], show strsOf (keysOf o.kv ++ [s]) = strsOf (keysOf o.kv) ++ [.string s] by simp [strsOf]]
      exact this
    refine row_keep hr (fun j hj => Below.heap_setCell w2 _ u j (fun e => ?_))
    obtain ⟨cs, hc⟩ := row_blk hr hj
    have e' : j = p.b := e
    subst e'
    rw [hh] at hc
    cases hc
  · obtain ⟨D, hm, hA⟩ := h.map
    refine ⟨D, ((hm.alloc ob).kept happ.grown (fun e => ?_)).setCell (a := ⟨p.b, 4, none⟩) (fun e => ?_) u, hA⟩
    · obtain ⟨cs, hc⟩ := row_blk h.row e.symm
      exact h.mb hc rfl
    · exact h.mb h.head e.symm
  · rcases happ.lies with e | e
    · exact .inl e
    · exact .inr ⟨_, e, by simp⟩

set_option maxHeartbeats 2000000 in
theorem put_new (p : Spot) (o : Ob) (T : Nat) (s : ByteArray) (v : V) (w : World) (h : ObAt w T p o) (hs : s.size ≤ maxLen) (hT : T ≤ 1000000) (hin : lk o.kv s = none) :
    Calls Try.prog 39 #[.pointer (some ⟨p.b, 0, none⟩), .string s, v.v] w fun e w' => e = .returned (.tuple #[]) ∧ PutAt w w' T p o s v := by
  have h' := h.below ((Below.refl _ w).alloc (Nat.le_refl _) (valO v))
  have c5 := h'.cell 5 (.map (some p.m)) rfl
  have c4 := h'.cell 4 p.ks rfl
  have hl := h'.look s hs
  have hb := h.b_lt
  rw [hin] at hl
  obtain ⟨vk, vn, vt⟩ := v
  have H := Lib.hid h
  have hkeys := keys_pt_new o.kv s ⟨vk, vn, vt⟩ hin
  have HK := Lib.hid (And.intro hkeys hin)
  simp only [V.v, valO, V.zero, Option.getD_none, Option.isSome_none] at hl c5 c4 ⊢
  obtain ⟨W, hW⟩ : ∃ W, World.alloc (World.alloc w (.cells #[.int .i64 vk, .int .i64 vn, .string vt] 32)) (.cells #[.int .i64 0, .int .i64 0, .string ⟨#[]⟩] 32) = W := ⟨_, rfl⟩
  obtain ⟨hbel, v0, v1, v2⟩ := two_boxes hW
  have hO := h.below hbel
  have hWs : W.heap.size = w.heap.size + 1 + 1 := by rw [← hW]; simp
  have HA := Lib.hid (app_one (P := Try.prog) (t := 43) (ty := 43) Try.underlying43 info9 rfl (by decide) (by decide) (row_keep hO.row (fun j hj => Below.heap_alloc W (.cells #[.string s] 9) j (row_lt hO.row hj))) W.heap.size [.string s] 9 (heap_alloc_new W _) rfl (by simp [Value.oneCell']) (by have := hO.small; omega))
  have HG := Lib.hid (fun (u : Value) (w2 : World) (happ : App (W.alloc (.cells #[.string s] 9)) 9 1 (o.kv.length + 1) p.ks (strsOf (keysOf o.kv) ++ [.string s]) u w2) =>
    (⟨W, hbel, v0, v1, v2, hO, happ⟩ : ∃ W, Below w.heap.size w W ∧ W.cell? ⟨w.heap.size, 0, none⟩ = some (.int .i64 vk) ∧ W.cell? ⟨w.heap.size, 1, none⟩ = some (.int .i64 vn) ∧ W.cell? ⟨w.heap.size, 2, none⟩ = some (.string vt) ∧ ObAt W T p o ∧ App (W.alloc (.cells #[.string s] 9)) 9 1 (o.kv.length + 1) p.ks (strsOf (keysOf o.kv) ++ [.string s]) u w2))
  rw [hWs] at HA
  rw [← hW] at HA HG
  clear h h' hin hkeys hW hbel v0 v1 v2 hO hWs
  go_enter Try.func39, Try.ntmps39
  go_wp2_with (at_builtin; refine wl_app rfl (.tmp 23) (.tmp 25) 43 rfl p.ks (.slice (some ⟨w.heap.size + 1 + 1, 0, none⟩) 1 1) rfl rfl _ HA.out ?_; intro u w2 happ; obtain ⟨A', c', rfl, -, -⟩ := row_slice happ.own; obtain ⟨W, hbel, v0, v1, v2, hO, happ⟩ := HG.out _ w2 happ; obtain ⟨hM, hon, hh, hlies⟩ := Mid.more hO happ; have c4 : w2.cell? ⟨p.b, 4, none⟩ = some p.ks := cell_of_row w2 p.b 4 _ _ _ hh; have f4 : w2.frozen? ⟨p.b, 4, none⟩ = false := by simp [World.frozen?, hh])
  have hsW : w.heap.size < W.heap.size := World.block_lt_of_cell? _ _ v0
  obtain ⟨W3, hW3⟩ : ∃ W3, w2.setCell ⟨p.b, 4, none⟩ (.slice A' (o.kv.length + 1) c') = W3 := ⟨_, rfl⟩
  rw [hW3] at hM hon ⊢
  have hcell : ∀ j, W3.cell? ⟨w.heap.size, j, none⟩ = W.cell? ⟨w.heap.size, j, none⟩ := fun j => World.cell?_of_block (hon.block _ hsW (fun e => Nat.lt_irrefl _ (H.out.lt e)))
  replace v0 := (hcell 0).trans v0
  replace v1 := (hcell 1).trans v1
  replace v2 := (hcell 2).trans v2
  have d5 : W3.cell? ⟨p.b, 5, none⟩ = some (.map (some p.m)) := by rw [cell_of_row _ _ _ _ _ _ hM.head]; rfl
  obtain ⟨w6, hrun, hO6, hon6⟩ := hM.update hT s ⟨vk, vn, vt⟩ hs HK.out.1 (by rw [List.length_append, keysOf_len]; have := H.out.small; simp; omega) (fun t ht => by
    rcases List.mem_append.1 ht with ht | ht
    · exact H.out.keyb t ht
    · obtain rfl : t = s := by simpa using ht
      exact hs)
  simp only [V.v] at hrun
  have HF := Lib.hid (And.intro hO6 (And.intro hon6 (And.intro hon hlies)))
  clear hO6 hon hon6 hM hlies hW3 hcell c4 f4 hh happ
  go_region
  go_wp2
  go_end0
  obtain ⟨hO6, hon6, hon, hlies⟩ := HF.out
  refine ⟨rfl, _, hO6, ((Only.of_below hbel).trans' hon).trans' (hon6.mono (fun i _ e => .inr (.inl e))), ?_⟩
  rcases hlies with e | ⟨k, e, hk⟩
  · exact .inl e
  · exact .inr ⟨k, e, by omega⟩
theorem put_any (p : Spot) (o : Ob) (T : Nat) (s : ByteArray) (v : V) (w : World) (h : ObAt w T p o) (hs : s.size ≤ maxLen) (hT : T ≤ 1000000) :
    Calls Try.prog 39 #[.pointer (some ⟨p.b, 0, none⟩), .string s, v.v] w fun e w' => e = .returned (.tuple #[]) ∧ PutAt w w' T p o s v := by
  cases hin : lk o.kv s with
  | none => exact put_new p o T s v w h hs hT hin
  | some x => exact put_old p o T s v w h hs hT (by rw [hin]; rfl)
end Go.Proofs.Ytpbbinppikaamaa
