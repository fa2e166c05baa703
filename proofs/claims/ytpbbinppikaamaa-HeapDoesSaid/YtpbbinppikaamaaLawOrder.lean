/- The law HeapOrder's walk. -/
import Derived.Test.YtpbbinppikaamaaTwo
import Derived.Test.YtpbbinppikaamaaActs
import Derived.Test.YtpbbinppikaamaaLawHides
import Derived.StillTailTactics
import Derived.Deep.LoopGhost
namespace Go.Proofs.Ytpbbinppikaamaa
open Go.RowKit Go.Proofs Go.Maps

def L5k (kv : List (ByteArray × V)) : Hp := new0 ++ [⟨0, -1, 0, 0, kv⟩]
theorem alloc5k : allocL new0 0 (-1) 0 0 = L5k [] ∧ allocV new0 (-1) = 4 ∧ allocE new0 (-1) = 0 := ⟨rfl, rfl, rfl⟩
theorem put5k (kv : List (ByteArray × V)) (s : ByteArray) (n : Int) : putE (L5k kv) 4 ⟨3, n, ⟨#[]⟩⟩ = 0 ∧ putL (L5k kv) 4 s ⟨3, n, ⟨#[]⟩⟩ = L5k (pt kv s ⟨3, n, ⟨#[]⟩⟩) := by
  have e : okPut (L5k kv) ⟨3, n, ⟨#[]⟩⟩ = true := by simp [okPut, rightB]
  have e0 : putE (L5k kv) 4 ⟨3, n, ⟨#[]⟩⟩ = 0 := by
    unfold putE
    rw [if_neg (by rw [show at? (L5k kv) 4 = some ⟨0, -1, 0, 0, kv⟩ from rfl]; simp), if_pos e]
  refine ⟨e0, ?_⟩
  unfold putL
  rw [if_pos e0]
  rfl
theorem keys5k (kv : List (ByteArray × V)) : keys (L5k kv) 4 = keysOf kv := rfl
theorem all5k (kv : List (ByteArray × V)) : all (L5k kv) 4 = addL [] (keysOf kv) := by
  unfold all
  rw [show chain (L5k kv) 4 = [4] from rfl]
  rfl
theorem addL_nodup (acc l : List ByteArray) (h : (acc ++ l).Nodup) : addL acc l = acc ++ l := by
  induction l generalizing acc with
  | nil => simp [addL]
  | cons k r ih =>
    have hk : k ∉ acc := fun hm => by
      rw [List.nodup_append] at h
      exact h.2.2 k hm k List.mem_cons_self rfl
    have e : (acc ++ [k]) ++ r = acc ++ k :: r := by simp
    simp only [addL]
    rw [if_neg (by rw [any_mem]; exact hk), ih (acc ++ [k]) (by rw [e]; exact h), e]
theorem nodup_addL (acc l : List ByteArray) (h : acc.Nodup) : (addL acc l).Nodup := by
  induction l generalizing acc with
  | nil => exact h
  | cons k r ih =>
    simp only [addL]
    split
    · exact ih acc h
    · rename_i hk
      rw [any_mem] at hk
      refine ih _ ?_
      rw [List.nodup_append]
      exact ⟨h, by simp, fun a ha b hb => by
        obtain rfl : b = k := by simpa using hb
        rintro rfl
        exact hk ha⟩
theorem addL_len (acc l : List ByteArray) : (addL acc l).length ≤ acc.length + l.length := by
  induction l generalizing acc with
  | nil => simp [addL]
  | cons k r ih =>
    simp only [addL]
    split
    · have := ih acc
      simp
      omega
    · have := ih (acc ++ [k])
      simp at this ⊢
      omega
theorem lk_none {kv : List (ByteArray × V)} {s : ByteArray} (h : (keysOf kv).any (fun y => decide (y = s)) = false) : lk kv s = none := by
  cases e : lk kv s with
  | none => rfl
  | some v =>
    have := (lk_isSome kv s).1 (by rw [e]; rfl)
    rw [(any_mem _ _).2 this] at h
    cases h
theorem lk_some {kv : List (ByteArray × V)} {s : ByteArray} (h : (keysOf kv).any (fun y => decide (y = s)) = true) : (lk kv s).isSome = true := (lk_isSome kv s).2 ((any_mem _ _).1 h)
theorem St.aside {w W W' : World} {F G : Nat → Prop} {b T : Nat} {L : Hp} (h : St w W F b T L []) (ho : Only G W W') (hd : ∀ i, F i → ¬ G i) (hl : ∀ i, G i → i < W.heap.size → w.heap.size ≤ i) : St w W' F b T L [] :=
  ⟨h.below.trans (ho.to_below h.below.size hl), h.heap.only ho hd, h.low, fun p hp => by simp at hp⟩
/-- Between two rounds: the heap, and the list beside it. -/
structure OrdI (w W : World) (F : Nat → Prop) (b T : Nat) (kv : List (ByteArray × V)) (v : Value) (wl : List ByteArray) : Prop where
  st : St w W F b T (L5k kv) []
  keys : keysOf kv = wl
  row : W.ownsRow 0 9 1 v wl.length (strsOf wl)
  mine : ∀ g, v.ownBlock = some g → ¬ F g ∧ w.heap.size ≤ g
theorem OrdI.put {w W W' : World} {F : Nat → Prop} {b T : Nat} {kv : List (ByteArray × V)} {v : Value} {wl' : List ByteArray} {s : ByteArray} {n : Int} (h : St w W F b T (L5k kv) []) (hk : keysOf (pt kv s ⟨3, n, ⟨#[]⟩⟩) = wl') (hr : W.ownsRow 0 9 1 v wl'.length (strsOf wl')) (hm : ∀ g, v.ownBlock = some g → ¬ F g ∧ w.heap.size ≤ g)
    (hI : IsH W' (ext F W W') b (T + 1) (L5k (pt kv s ⟨3, n, ⟨#[]⟩⟩))) (ho : Only F W W') : OrdI w W' (ext F W W') b (T + 1) (pt kv s ⟨3, n, ⟨#[]⟩⟩) v wl' :=
  ⟨h.turn hI ho, hk, row_keep hr (fun j hj => ho.block j (row_lt hr hj) (hm j hj).1), fun g hg => ⟨fun e => by
    rcases e with e | e
    · exact (hm g hg).1 e
    · have := row_lt hr hg
      omega, (hm g hg).2⟩⟩
/-- A key more in the list. -/
theorem OrdI.app {w W w3 : World} {F : Nat → Prop} {b T : Nat} {kv : List (ByteArray × V)} {v u : Value} {wl : List ByteArray} {x : ByteArray} {ob : Obj} (h : OrdI w W F b T kv v wl) (happ : App (W.alloc ob) 9 1 (wl.length + 1) v (strsOf wl ++ [.string x]) u w3) :
    St w w3 F b T (L5k kv) [] ∧ w3.ownsRow 0 9 1 u (wl ++ [x]).length (strsOf (wl ++ [x])) ∧ ∀ g, u.ownBlock = some g → ¬ F g ∧ w.heap.size ≤ g := by
  have ho : Only (fun k => v.ownBlock = some k) W w3 := (Only.of_below (below_box W ob)).trans' happ.only
  refine ⟨h.st.aside ho (fun i hi e => (h.mine i e).1 hi) (fun i e _ => (h.mine i e).2), ?_, fun g hg => ?_⟩
  · have := happ.own
    rw [show (wl ++ [x]).length = wl.length + 1 by simp, show strsOf (wl ++ [x]) = strsOf wl ++ [.string x] by simp [strsOf]]
    exact this
  · rcases happ.lies with e | e
    · exact h.mine g (e ▸ hg)
    · rw [hg] at e
      cases e
      refine ⟨fun hf => ?_, ?_⟩
      · have := h.st.heap.lt _ hf
        rw [World.size_alloc] at this
        omega
      · have := h.st.below.size
        simp
        omega
theorem take_any (wl : List ByteArray) (x y : ByteArray) (j : Nat) (h : wl[j]? = some y) : (wl.take (j + 1)).any (fun z => decide (z = x)) = ((wl.take j).any (fun z => decide (z = x)) || decide (y = x)) := by
  rw [List.take_add_one, h, List.any_append]
  simp

set_option maxRecDepth 100000 in
set_option maxHeartbeats 8000000 in
theorem order_walk (A : Option Addr) (len cap : Nat) (l : List ByteArray) (w : World) (hl : KeysAt w A len cap l) : Calls Try.prog 8 #[.slice A len cap] w fun e w' => e = .returned (.bool true) ∧ Below w.heap.size w w' := by
  have HS := Lib.hid (shown_any w)
  have HN := Lib.hid (fun w => New_any w)
  have HK := Lib.hid hl
  have hlc := hl.2.1
  have hcm : cap ≤ 9223372036854775807 := hl.2.2.1
  clear hl
  go_enter Try.func8, Try.ntmps8
  go_wp2_with fail
  go_at_call 11
  refine (HS.out).mono ?_
  rintro e w1 ⟨rfl, hb0⟩
  have HB := Lib.hid hb0
  clear hb0 HS
  go_wp2_with fail
  go_at_call 12
  refine (HN.out _).mono ?_
  rintro e w2 ⟨B, rfl, hI, hB⟩
  have S := Lib.hid (St.start hI hB)
  have HC := Lib.hid (Alloc_any 0 (-1) 0 0 _ S.out.heap)
  rw [alloc5k.1, alloc5k.2.1, alloc5k.2.2] at HC
  clear hI hB HN
  go_wp2_with fail
  go_at_call 23
  refine (HC.out).mono ?_
  rintro e w3 ⟨rfl, hI, ho⟩
  have S0 := Lib.hid (S.out.turn hI ho)
  clear hI ho HC S
  go_wp2
  go_loopg [7, 8] len (fun gn v i wr => ∃ (k : Nat) (F : Nat → Prop) (T : Nat) (kv : List (ByteArray × V)), k ≤ len ∧ k ≤ 40 ∧ gn = len - k ∧ i = .int .i64 k ∧ OrdI w1 wr F B T kv v (addL [] (l.take k)) ∧ T ≤ 2 + k)
  case atStart => exact ⟨0, _, 2, [], by omega, by omega, rfl, rfl, ⟨S0.out, rfl, World.ownsRow_nil _ _ _ _, fun g hg => by simp [Value.ownBlock] at hg⟩, by omega⟩
  case round =>
    obtain ⟨k, F, T, kv, hk, hk40, rfl, rfl, hO, hT⟩ := hrel
    obtain ⟨W0, hW0⟩ : ∃ x, x = wr := ⟨_, rfl⟩
    subst hW0
    have hwl : (addL [] (l.take k)).length ≤ k := by
      have := addL_len [] (l.take k)
      simp at this
      omega
    have hnd := nodup_addL [] (l.take k) (by simp)
    obtain ⟨A0, c0, rfl, hnc, -⟩ := row_slice hO.row
    by_cases hlt : k < len ∧ k < 40
    · obtain ⟨h1, h2⟩ := hlt
      obtain ⟨x, hx⟩ : ∃ x, l[k]? = some x := ⟨_, List.getElem?_eq_getElem (by rw [HK.out.1]; exact h1)⟩
      have hta : addL [] (l.take (k + 1)) = (if (addL [] (l.take k)).any (fun y => decide (y = x)) = true then addL [] (l.take k) else addL [] (l.take k) ++ [x]) := by
        rw [List.take_add_one, hx]
        exact addL_app [] (l.take k) x
      have HTA := Lib.hid hta
      obtain ⟨g, off, rfl, hg, hcell⟩ := HK.out.2.2.2.1 (by omega)
      have hbw : Below w.heap.size w W0 := HB.out.trans (hO.st.below.mono HB.out.size)
      have cx : W0.cell? ⟨g, off + k, none⟩ = some (.string x) := (hbw.cell (p := ⟨g, off + k, none⟩) hg).trans (hcell k x hx)
      have HXW := Lib.hid (hcell k x hx)
      have hxs : x.size ≤ maxLen := HK.out.2.2.2.2 x (List.mem_of_getElem? hx)
      have hlt1 : (k : Int) < (len : Int) := by omega
      have hlt2 : (k : Int) < 40 := by omega
      clear hta hx hcell hbw hnd
      generalize addL [] (l.take k) = wl at hO HTA hwl hnc ⊢
      obtain ⟨n, hn⟩ : ∃ n, wl.length = n := ⟨_, rfl⟩
      rw [hn] at hO
      have HO := Lib.hid (And.intro hO (And.intro hT hn))
      rw [hn] at hwl hnc ⊢
      clear hO hT hn
      go_wp2
      go_loopg [9, 10] n (fun gn t j wx => ∃ (i q : Nat), i ≤ n ∧ gn = n - i ∧ t = .bool ((wl.take i).any (fun y => decide (y = x))) ∧ j = .int .i64 i ∧ wx = W0.drewN q)
      case atStart => exact ⟨0, 0, by omega, rfl, rfl, rfl, rfl⟩
      case round =>
        obtain ⟨i, q, hi, rfl, rfl, rfl, rfl⟩ := hrel
        by_cases hin : i < n
        · obtain ⟨y, hy⟩ : ∃ y, wl[i]? = some y := ⟨_, List.getElem?_eq_getElem (by rw [HO.out.2.2]; exact hin)⟩
          have hta := take_any wl x y i hy
          have hrow := HO.out.1.row
          rw [HO.out.2.2] at hrow
          obtain ⟨gw, rfl⟩ : ∃ gw, A0 = some ⟨gw, 0, none⟩ := by
            rcases row_form hrow with ⟨e, e0⟩ | ⟨gw, cw, e, -⟩
            · omega
            · cases e
              exact ⟨gw, rfl⟩
          have cy : W0.cell? ⟨gw, i, none⟩ = some (.string y) := row_cell hrow i (.string y) (by simp [strsOf, hy])
          have hin' : (i : Int) < (n : Int) := by omega
          have HT := Lib.hid hta
          clear hta hy hrow
          cases htb : (wl.take i).any (fun z => decide (z = x)) with
          | true =>
            rw [htb] at HT
            go_wp2_with fail
            go_quiet (fail)
            go_wp2
            go_roundg (n - (i + 1))
            case measure => omega
            case rel => exact ⟨i + 1, q + nq, by omega, rfl, by rw [HT.out]; rfl, by go_num, by first | rfl | rw [World.drewN_drewN]⟩
          | false =>
            rw [htb] at HT
            by_cases hyx : y = x
            · subst hyx
              go_wp2_with fail
              go_quiet (fail)
              go_wp2
              go_roundg (n - (i + 1))
              case measure => omega
              case rel => exact ⟨i + 1, q + nq, by omega, rfl, by rw [HT.out]; simp, by go_num, by first | rfl | rw [World.drewN_drewN]⟩
            · have dyx := str_ne hyx
              have dd : decide (y = x) = false := decide_eq_false hyx
              rw [dd] at HT
              clear hyx dd
              go_wp2_with fail
              go_quiet (fail)
              go_wp2
              go_roundg (n - (i + 1))
              case measure => omega
              case rel => exact ⟨i + 1, q + nq, by omega, rfl, by rw [HT.out]; rfl, by go_num, by first | rfl | rw [World.drewN_drewN]⟩
        · obtain rfl : i = n := by omega
          have htk : wl.take i = wl := List.take_of_length_le (by rw [HO.out.2.2]; exact Nat.le_refl _)
          rw [htk]
          have hend : ¬ (i : Int) < (i : Int) := by omega
          have hta := HTA.out
          cases htb : wl.any (fun z => decide (z = x)) with
          | true =>
            rw [htb, if_pos rfl] at hta
            have HT2 := Lib.hid hta
            have hkeys : keysOf (pt kv x ⟨3, (k : Int), ⟨#[]⟩⟩) = wl := by
              rw [keys_pt_old kv x _ (lk_some (by rw [HO.out.1.keys]; exact htb)), HO.out.1.keys]
            obtain ⟨p1, p2⟩ := put5k kv x (k : Int)
            have hst : St w1 (W0.drewN q) F B T (L5k kv) [] := HO.out.1.st.move (below_drewN (Below.refl _ _) q)
            have HC := Lib.hid (Put_any 4 x ⟨3, (k : Int), ⟨#[]⟩⟩ _ hst.heap hxs (by have := HO.out.2.1; omega))
            rw [p1, p2] at HC
            simp only [V.v] at HC
            have HF := Lib.hid (fun (W' : World) hI ho => OrdI.put (W' := W') hst hkeys HO.out.1.row HO.out.1.mine hI ho)
            clear hta htk hkeys p1 p2 hst
            go_wp2_with fail
            go_at_call 26
            refine (HC.out).mono ?_
            rintro e w5 ⟨rfl, hI, ho⟩
            have HZ := Lib.hid (HF.out w5 hI ho)
            clear hI ho
            go_wp2
            go_roundg (len - (k + 1))
            case measure => omega
            case rel => exact ⟨k + 1, _, T + 1, _, by omega, by omega, rfl, by go_num, by rw [HT2.out]; exact HZ.out, by have := HO.out.2.1; omega⟩
          | false =>
            rw [htb, if_neg (by decide)] at hta
            have HT2 := Lib.hid hta
            have hkeys : keysOf (pt kv x ⟨3, (k : Int), ⟨#[]⟩⟩) = wl ++ [x] := by
              rw [keys_pt_new kv x _ (lk_none (by rw [HO.out.1.keys]; exact htb)), HO.out.1.keys]
            have hO2 : OrdI w1 (W0.drewN q) F B T kv (.slice A0 i c0) wl := ⟨HO.out.1.st.move (below_drewN (Below.refl _ _) q), HO.out.1.keys, HO.out.1.row, HO.out.1.mine⟩
            have HA := Lib.hid (app_one (P := Try.prog) (t := 43) (ty := 43) Try.underlying43 info9 rfl (by decide) (by decide) (row_keep (w' := (W0.drewN q).alloc (.cells #[.string x] 9)) hO2.row (fun j hj => Below.heap_alloc (W0.drewN q) _ j (row_lt hO2.row hj))) (W0.drewN q).heap.size [.string x] 9 (heap_alloc_new (W0.drewN q) _) rfl (by simp [Value.oneCell']) (by rw [HO.out.2.2]; omega))
            rw [HO.out.2.2] at HA
            have HQ := Lib.hid (fun (u : Value) (w4 : World) (happ : App ((W0.drewN q).alloc (.cells #[.string x] 9)) 9 1 (i + 1) (.slice A0 i c0) (strsOf wl ++ [.string x]) u w4) => OrdI.app (x := x) hO2 (by rw [HO.out.2.2]; exact happ))
            have HB4 := Lib.hid (fun (u : Value) (w4 : World) (happ : App ((W0.drewN q).alloc (.cells #[.string x] 9)) 9 1 (i + 1) (.slice A0 i c0) (strsOf wl ++ [.string x]) u w4) => (HB.out.trans ((HQ.out u w4 happ).1.below.mono HB.out.size) : Below w.heap.size w w4))
            clear hta htk hO2
            go_wp2_with (at_builtin; refine wl_app rfl (.tmp 49) (.tmp 54) 43 rfl _ (.slice (some ⟨W0.heap.size, 0, none⟩) 1 1) rfl rfl _ HA.out ?_; intro u w4 happ; obtain ⟨A', c', rfl, -, -⟩ := row_slice happ.own; have HQ4 := Lib.hid (HQ.out _ w4 happ); have cx4 : w4.cell? ⟨g, off + k, none⟩ = some (.string x) := ((HB4.out _ w4 happ).cell (p := ⟨g, off + k, none⟩) hg).trans HXW.out)
            obtain ⟨p1, p2⟩ := put5k kv x (k : Int)
            have HC := Lib.hid (Put_any 4 x ⟨3, (k : Int), ⟨#[]⟩⟩ _ HQ4.out.1.heap hxs (by have := HO.out.2.1; omega))
            rw [p1, p2] at HC
            simp only [V.v] at HC
            clear p1 p2
            go_wp2_with fail
            go_at_call 26
            refine (HC.out).mono ?_
            rintro e w5 ⟨rfl, hI, ho⟩
            have HZ := Lib.hid (OrdI.put HQ4.out.1 hkeys HQ4.out.2.1 HQ4.out.2.2 hI ho)
            clear hI ho
            go_wp2
            go_roundg (len - (k + 1))
            case measure => omega
            case rel => exact ⟨k + 1, _, T + 1, _, by omega, by omega, rfl, by go_num, by rw [HT2.out]; exact HZ.out, by have := HO.out.2.1; omega⟩
    · have HO := Lib.hid (And.intro hO hT)
      have hend : (¬ (k : Int) < (len : Int)) ∨ ((k : Int) < (len : Int) ∧ ¬ (k : Int) < 40) := by
        by_cases h1 : k < len
        · exact .inr ⟨by omega, fun h => hlt ⟨h1, by omega⟩⟩
        · exact .inl (by omega)
      have HK4 := Lib.hid (Keys_any 4 _ hO.st.heap (by omega))
      rw [keys5k, hO.keys] at HK4
      have HN := Lib.hid hnd
      have HWl := Lib.hid hwl
      clear hO hT hlt hnd hwl hnc
      generalize addL [] (l.take k) = wl at HO HK4 HN HWl ⊢
      obtain ⟨n, hn⟩ : ∃ n, wl.length = n := ⟨_, rfl⟩
      rw [hn]
      have hsw : ∀ W', (∀ j, Value.ownBlock (.slice A0 n c0) = some j → W'.heap[j]? = W0.heap[j]?) → SRead W' (.slice A0 n c0) wl := fun W' h => by
        have hr := HO.out.1.row
        rw [hn] at hr
        exact SRead.of (row_keep hr h) hn.symm
      have HSW := Lib.hid hsw
      have hlt2 : ∀ j, Value.ownBlock (.slice A0 n c0) = some j → j < W0.heap.size := fun j hj => by
        have hr := HO.out.1.row
        rw [hn] at hr
        exact row_lt hr hj
      have HLT := Lib.hid hlt2
      have HWn := Lib.hid (show wl.length ≤ 1000000 by have := HWl.out; omega)
      clear hsw hlt2 hn
      rcases hend with hend | ⟨hend, hend2⟩
      all_goals
        go_wp2_with fail
        go_at_call 19
        refine (HK4.out).mono ?_
        rintro e w4 ⟨v, rfl, hv, hb⟩
        have S4 := Lib.hid (HO.out.1.st.move hb)
        have HC := Lib.hid (same_any _ _ _ _ _ (SRead.strs hv) (HSW.out w4 (fun j hj => hb.block j (HLT.out j hj))) HWn.out HWn.out)
        have HB4 := Lib.hid hb
        obtain ⟨Av, Cv, rfl, -⟩ := (SRead.strs hv).form
        have ed : decide (wl = wl) = true := by simp
        rw [ed] at HC
        clear hb hv ed
        go_wp2_with fail
        go_at_call 18
        refine (HC.out).mono ?_
        rintro e w5 ⟨rfl, hb⟩
        have S5 := Lib.hid (S4.out.move hb)
        have HB5 := Lib.hid (HB4.out.trans (hb.mono HB4.out.size))
        have HA5 := Lib.hid (All_any 4 _ S5.out.heap (show 5 * T ≤ 1000000 by have := HO.out.2; omega))
        rw [all5k, HO.out.1.keys, addL_nodup [] wl (by simpa using HN.out), List.nil_append] at HA5
        clear hb HC
        go_wp2_with fail
        go_at_call 21
        refine (HA5.out).mono ?_
        rintro e w6 ⟨v, rfl, hv, hb⟩
        have S6 := Lib.hid (S5.out.move hb)
        have HB6 := Lib.hid (HB5.out.trans (hb.mono HB5.out.size))
        have HC := Lib.hid (same_any _ _ _ _ _ (SRead.strs hv) (HSW.out w6 (fun j hj => HB6.out.block j (HLT.out j hj))) HWn.out HWn.out)
        obtain ⟨Av, Cv, rfl, -⟩ := (SRead.strs hv).form
        have ed : decide (wl = wl) = true := by simp
        rw [ed] at HC
        clear hb hv ed
        go_wp2_with fail
        go_at_call 18
        refine (HC.out).mono ?_
        rintro e w7 ⟨rfl, hb⟩
        have S7 := Lib.hid (S6.out.move hb)
        clear hb HC
        go_wp2
        go_ret
        exact ⟨rfl, HB.out.trans (S7.out.below.mono HB.out.size)⟩

end Go.Proofs.Ytpbbinppikaamaa
