/- listed.add: the loop. -/
import Derived.Test.YtpbbinppikaamaaListed
namespace Go.Proofs.Ytpbbinppikaamaa
open Go.RowKit Go.Proofs Go.Maps

/-- A key that is new goes behind the row. -/
theorem LAt.app {W w2 w3 : World} {G m T : Nat} {v u : Value} {acc : List ByteArray} {s : ByteArray} {ob : Obj} (h : LAt W G m v acc T)
    (h2 : w2.heap[G]? = some (.cells #[v, .map (some m)] 73 (0, 0)) ∧ w2.ownsRow 0 9 1 v acc.length (strsOf acc) ∧ (∃ D : DataW Unit, w2.ownsMap Try.prog 9 unitElem m (T + 1) D ∧ ∀ t : ByteArray, Maps.has D (kl t) = (acc ++ [s]).any (fun x => decide (x = t))) ∧ Only (fun k => k = m) W w2)
    (happ : App (w2.alloc ob) 9 1 (acc.length + 1) v (strsOf acc ++ [.string s]) u w3) :
    LAt (w3.setCell ⟨G, 0, none⟩ u) G m u (acc ++ [s]) (T + 1) ∧ Fr G m v W u (w3.setCell ⟨G, 0, none⟩ u) ∧ w3.heap[G]? = some (.cells #[v, .map (some m)] 73 (0, 0)) := by
  obtain ⟨hh, hr, ⟨D, hm, hA⟩, ho⟩ := h2
  have hs2 := ho.size
  have hal : Only (fun k => v.ownBlock = some k) w2 w3 := (Only.of_below ((Below.refl _ w2).alloc (Nat.le_refl _) ob)).trans' happ.only
  have hG3 : w3.heap[G]? = some (.cells #[v, .map (some m)] 73 (0, 0)) := (hal.block G (heap_lt hh) (fun e => by
    obtain ⟨cs, hc⟩ := row_blk hr e
    rw [hh] at hc
    cases hc)).trans hh
  have hlen : (acc ++ [s]).length = acc.length + 1 := by simp
  have hstr : strsOf (acc ++ [s]) = strsOf acc ++ [.string s] := by simp [strsOf]
  refine ⟨⟨blk_set hG3 0 u, ?_, ⟨D, ((hm.alloc ob).kept happ.grown (fun e => ?_)).setCell (a := ⟨G, 0, none⟩) (fun e => ?_) u, hA⟩, by rw [hlen]; have := h.small; omega⟩, ⟨?_, ?_⟩, hG3⟩
  · rw [hlen, hstr]
    refine row_keep happ.own (fun j hj => Below.heap_setCell w3 _ u j (fun e => ?_))
    obtain ⟨cs, hc⟩ := row_blk happ.own hj
    have e' : j = G := e
    subst e'
    rw [hG3] at hc
    cases hc
  · obtain ⟨cs, hc⟩ := row_blk h.row e.symm
    exact h.gm hc rfl
  · exact h.gm h.head e.symm
  · exact ((ho.mono (fun k _ e => .inr (.inl e))).trans' (hal.mono (fun k _ e => .inr (.inr e)))).trans' (Only.setCell w3 (.inl rfl) 0 u)
  · rcases happ.lies with e | e
    · exact .inl e
    · exact .inr ⟨_, e, by simp; omega⟩

set_option maxRecDepth 100000 in
set_option maxHeartbeats 4000000 in
theorem add_any (G m : Nat) (v0 : Value) (acc keys : List ByteArray) (T : Nat) (g c : Nat) (W : World) (hL : LAt W G m v0 acc T) (hc : keys.length ≤ c) (hs : ∀ (j : Nat) (x : ByteArray), keys[j]? = some x → W.cell? ⟨g, j, none⟩ = some (.string x)) (hg : g < W.heap.size)
    (hd : v0.ownBlock ≠ some g) (hgG : g ≠ G) (hgm : g ≠ m) (hsz : ∀ x ∈ keys, x.size ≤ maxLen) (hT : T + keys.length ≤ 1000000) :
    Calls Try.prog 36 #[.pointer (some ⟨G, 0, none⟩), .slice (some ⟨g, 0, none⟩) keys.length c] W fun e w' => e = .returned (.tuple #[]) ∧ ∃ v, LAt w' G m v (addL acc keys) (T + keys.length) ∧ Fr G m v0 W v w' := by
  obtain ⟨n, hn⟩ : ∃ n, keys.length = n := ⟨_, rfl⟩
  have HK := Lib.hid (And.intro hs (And.intro hsz hn))
  have HL := Lib.hid hL
  rw [hn] at hc hT ⊢
  clear hs hsz hL hn
  go_enter Try.func36, Try.ntmps36
  go_wp2
  go_loopw [10] (fun i wr => ∃ (k : Nat) (v : Value), k ≤ n ∧ i = .int .i64 k ∧ LAt wr G m v (addL acc (keys.take k)) (T + k) ∧ Fr G m v0 W v wr) (fun i _ => n - (intOf i).toNat)
  case atStart => exact ⟨0, v0, Nat.zero_le _, rfl, by simpa [addL] using HL.out, Fr.refl _ _ _ _⟩
  case round =>
    obtain ⟨k, v, hk, rfl, hLk, hF⟩ := hrel
    obtain ⟨A0, c0, rfl, -, -⟩ := row_slice hLk.row
    by_cases hlt : k < n
    · obtain ⟨x, hx⟩ : ∃ x, keys[k]? = some x := ⟨_, List.getElem?_eq_getElem (by rw [HK.out.2.2]; exact hlt)⟩
      have hgk : wr.heap[g]? = W.heap[g]? := hF.1.block g hg (fun e => by
        rcases e with e | e | e
        · exact hgG e
        · exact hgm e
        · exact hd e)
      have cx : wr.cell? ⟨g, k, none⟩ = some (.string x) := (World.cell?_of_block hgk).trans (HK.out.1 k x hx)
      have hlt' : (k : Int) < (n : Int) := by omega
      have hxs : x.size ≤ maxLen := HK.out.2.1 x (List.mem_of_getElem? hx)
      have hta : addL acc (keys.take (k + 1)) = (if (addL acc (keys.take k)).any (fun y => decide (y = x)) = true then addL acc (keys.take k) else addL acc (keys.take k) ++ [x]) := by
        rw [List.take_add_one, hx]
        exact addL_app acc (keys.take k) x
      have HTA := Lib.hid hta
      clear hta hx
      generalize addL acc (keys.take k) = acck at hLk HTA hF
      have hl1 := (hLk.below ((Below.refl _ wr).alloc (Nat.le_refl _) (.cells #[] 82))).look x hxs
      have hl := hLk.look x hxs
      have e1 : wr.cell? ⟨G, 1, none⟩ = some (.map (some m)) := cell_of_row wr G 1 _ _ _ hLk.head
      have hGl := heap_lt hLk.head
      have HLk := Lib.hid hLk
      have HF := Lib.hid hF
      cases hin : acck.any (fun y => decide (y = x)) with
      | true =>
        rw [hin] at hl hl1
        have hta := HTA.out
        rw [hin, if_pos rfl] at hta
        have HT2 := Lib.hid hta
        clear hLk hF hta HTA hin
        go_wp2
        go_roundw
        case rel => exact ⟨k + 1, _, by omega, by go_num, by rw [HT2.out]; exact (HLk.out.below ((Below.refl _ wr).alloc (Nat.le_refl _) _)).mono (T' := T + (k + 1)) (by omega), HF.out.trans ⟨Only.of_below ((Below.refl _ wr).alloc (Nat.le_refl _) _), .inl rfl⟩⟩
        case measure => simp [intOf]; omega
      | false =>
        rw [hin] at hl hl1
        have hta := HTA.out
        rw [hin, if_neg (by decide)] at hta
        have HT2 := Lib.hid hta
        have hb1 := (Below.refl wr.heap.size wr).alloc (Nat.le_refl _) (.cells #[] 82)
        have hL1 := hLk.below hb1
        have e2 : (wr.alloc (.cells #[] 82)).cell? ⟨G, 1, none⟩ = some (.map (some m)) := cell_of_row _ G 1 _ _ _ hL1.head
        obtain ⟨w2, hrun, h2⟩ := hL1.upd (by omega) x hxs
        have e0 : w2.cell? ⟨G, 0, none⟩ = some (.slice A0 acck.length c0) := cell_of_row w2 G 0 _ _ _ h2.1
        have hGw : G < w2.heap.size := heap_lt h2.1
        have hsm : acck.length ≤ 1000000 := by have := hLk.small; omega
        have HA := Lib.hid (app_one (P := Try.prog) (t := 43) (ty := 43) Try.underlying43 info9 rfl (by decide) (by decide) (row_keep (w' := w2.alloc (.cells #[.string x] 9)) h2.2.1 (fun j hj => Below.heap_alloc w2 _ j (row_lt h2.2.1 hj))) w2.heap.size [.string x] 9 (heap_alloc_new w2 _) rfl (by simp [Value.oneCell']) hsm)
        have HQ := Lib.hid (fun (u : Value) (w3 : World) (happ : App (w2.alloc (.cells #[.string x] 9)) 9 1 (acck.length + 1) (.slice A0 acck.length c0) (strsOf acck ++ [.string x]) u w3) => LAt.app hL1 h2 happ)
        have HB := Lib.hid hb1
        clear hLk hF hta HTA hin hL1 hb1 h2 hl1
        go_wp2_with (at_builtin; refine wl_app rfl (.tmp 35) (.tmp 37) 43 rfl _ (.slice (some ⟨w2.heap.size, 0, none⟩) 1 1) rfl rfl _ HA.out ?_; intro u w3 happ; obtain ⟨A', c', rfl, -, -⟩ := row_slice happ.own; obtain ⟨q1, q2, q3⟩ := HQ.out _ w3 happ; have d0 : w3.cell? ⟨G, 0, none⟩ = some (.slice A0 acck.length c0) := cell_of_row w3 G 0 _ _ _ q3; have f0 : w3.frozen? ⟨G, 0, none⟩ = false := by simp [World.frozen?, q3])
        go_roundw
        case rel => exact ⟨k + 1, _, by omega, by go_num, by rw [HT2.out]; exact q1, (HF.out.trans ⟨Only.of_below HB.out, .inl rfl⟩).trans q2⟩
        case measure => simp [intOf]; omega
    · obtain rfl : k = n := by omega
      have hta : keys.take k = keys := List.take_of_length_le (by rw [HK.out.2.2]; exact Nat.le_refl _)
      rw [hta] at hLk hF
      have HZ := Lib.hid (And.intro hLk hF)
      clear hLk hF hta
      go_wp2
      go_end0
      exact ⟨rfl, _, HZ.out.1, HZ.out.2⟩
/-- Nothing to add. -/
theorem add_none (G m : Nat) (v0 : Value) (acc : List ByteArray) (T : Nat) (W : World) (hL : LAt W G m v0 acc T) :
    Calls Try.prog 36 #[.pointer (some ⟨G, 0, none⟩), .slice none 0 0] W fun e w' => e = .returned (.tuple #[]) ∧ ∃ v, LAt w' G m v (addL acc []) (T + 0) ∧ Fr G m v0 W v w' := by
  have HL := Lib.hid hL
  clear hL
  go_enter Try.func36, Try.ntmps36
  go_wp2
  go_loopw [10] (fun i wr => i = .int .i64 0 ∧ wr = W) (fun i _ => 0)
  case atStart => exact ⟨rfl, rfl⟩
  case round =>
    obtain ⟨rfl, rfl⟩ := hrel
    go_wp2
    go_end0
    exact ⟨rfl, _, HL.out, Fr.refl _ _ _ _⟩
end Go.Proofs.Ytpbbinppikaamaa
