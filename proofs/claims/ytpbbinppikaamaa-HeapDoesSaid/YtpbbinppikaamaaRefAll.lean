/- gumshoeref07's All. -/
import Derived.Test.YtpbbinppikaamaaRefGet
import Derived.Test.YtpbbinppikaamaaLawOrder
namespace Go.Proofs.Ytpbbinppikaamaa
open Go.RowKit Go.Proofs Go.Maps

/-- The list that is gathered: its row is new. -/
structure OutI (w W : World) (v : Value) (acc : List ByteArray) : Prop where
  below : Below w.heap.size w W
  row : W.ownsRow 0 9 1 v acc.length (strsOf acc)
  new : ∀ k, v.ownBlock = some k → w.heap.size ≤ k
theorem OutI.drewN {w W : World} {v : Value} {acc : List ByteArray} (h : OutI w W v acc) (q : Nat) : OutI w (W.drewN q) v acc := ⟨below_drewN h.below q, h.row, h.new⟩
theorem OutI.app {w W w3 : World} {v u : Value} {acc : List ByteArray} {x : ByteArray} {ob : Obj} (h : OutI w W v acc) (happ : App (W.alloc ob) 9 1 (acc.length + 1) v (strsOf acc ++ [.string x]) u w3) : OutI w w3 u (acc ++ [x]) := by
  have ho : Only (fun k => v.ownBlock = some k) W w3 := (Only.of_below (below_box W ob)).trans' happ.only
  have hs := h.below.size
  refine ⟨h.below.trans (ho.to_below hs (fun i e _ => h.new i e)), ?_, fun k hk => ?_⟩
  · have := happ.own
    rw [show (acc ++ [x]).length = acc.length + 1 by simp, show strsOf (acc ++ [x]) = strsOf acc ++ [.string x] by simp [strsOf]]
    exact this
  · rcases happ.lies with e | e
    · exact h.new k (e ▸ hk)
    · rw [hk] at e
      cases e
      simp
      omega
theorem all_none {L : Hp} {q : Int} (h : at? L q = none) : chain L q = [] := chain_none h

set_option maxRecDepth 100000 in
set_option maxHeartbeats 8000000 in
theorem RAll_any {F : Nat → Prop} {b T : Nat} {L : Hp} (p : Int) (w : World) (h : IsR w F b T L) (hTL : L.length * T ≤ 1000000) :
    Calls Try.prog 22 #[.pointer (some ⟨b, 0, none⟩), .int .i64 p] w fun e w' => ∃ v, e = .returned v ∧ SRead w' v (all L p) ∧ Below w.heap.size w w' := by
  have HH := Lib.hid h
  have hbl : b < w.heap.size := h.lt b (by obtain ⟨⟨v, ths, hr, -⟩, -⟩ := h; exact hr.mine)
  have H0 := Lib.hid (show ([] : List ByteArray).length + (chain L p).length * T ≤ 1000000 by have := Nat.mul_le_mul_right T (chain_len L p); simp; omega)
  clear h hTL
  go_enter Try.func22, Try.ntmps22
  go_wp2
  go_loopg [1, 5] (p + 1).toNat (fun gn i v wr => ∃ (q : Int) (acc : List ByteArray), gn = (q + 1).toNat ∧ i = .int .i64 q ∧ OutI w wr v acc ∧ all L p = allL L acc (chain L q) ∧ acc.length + (chain L q).length * T ≤ 1000000)
  case atStart => exact ⟨p, [], rfl, rfl, ⟨Below.refl _ _, World.ownsRow_nil _ _ _ _, fun k hk => by simp [Value.ownBlock] at hk⟩, rfl, H0.out⟩
  case round =>
    obtain ⟨q, acc, rfl, rfl, hO, hall, hsz⟩ := hrel
    obtain ⟨W0, hW0⟩ : ∃ x, x = wr := ⟨_, rfl⟩
    subst hW0
    obtain ⟨A0, c0, rfl, hnc0, hcm0⟩ := row_slice hO.row
    cases ho : at? L q with
    | none =>
      rw [chain_none ho] at hall
      have hq := at?_none ho
      obtain ⟨⟨v, ths, hr, e⟩, -⟩ := HH.out
      obtain ⟨A, c, rfl, d, -⟩ := hr.form
      rw [show ths.length = L.length by rw [e]; simp] at d
      have d0 : W0.cell? ⟨b, 0, none⟩ = some (.slice A L.length c) := (hO.below.cell (p := ⟨b, 0, none⟩) hbl).trans d
      have HO := Lib.hid (And.intro hO hall)
      clear hr e hO hall ho d hsz
      by_cases h0 : 0 ≤ q
      · have hq2 : ¬ q < (L.length : Int) := by omega
        have hq3 : decide (0 ≤ q) = true := decide_eq_true h0
        go_wp2
        go_ret
        exact ⟨_, rfl, by rw [HO.out.2]; exact SRead.of HO.out.1.row rfl, HO.out.1.below⟩
      · have hq3 : decide (0 ≤ q) = false := decide_eq_false h0
        go_wp2
        go_ret
        exact ⟨_, rfl, by rw [HO.out.2]; exact SRead.of HO.out.1.row rfl, HO.out.1.below⟩
    | some o =>
      have hst := chain_step HH.out.2.1 ho
      obtain ⟨n, rfl, hn, hL⟩ := at?_some ho
      have hpr := HH.out.2.1 n o hL
      rw [hst] at hall hsz
      simp only [Int.toNat_natCast, allL, hL, Option.elim] at hall
      obtain ⟨⟨v, ths, hr, e⟩, -⟩ := HH.out
      have hL' := hL
      rw [e] at hL'
      obtain ⟨t, ht, rfl⟩ := ths_at hL'
      have hsm := (hr.th n t ht).small
      obtain ⟨g, c, A, ck, B, cv, rfl, d, hc1, hc2, hn1, hFg, f4, -, f1, hk1, hk2, -, -, -, -, hx⟩ := own_facts hr ht
      rw [show ths.length = L.length by rw [e]; simp] at d hc1 hn1
      have hgl : g < w.heap.size := HH.out.lt g hFg
      have hn' : (n : Int) < (L.length : Int) := by omega
      have HX := Lib.hid (fun (k : Nat) (x : ByteArray × V) (hk : t.o.kv[k]? = some x) => (by
        obtain ⟨gk, gv, e1, e2, h1, h2, h3, -⟩ := hx k x hk
        exact ⟨gk, e1, HH.out.lt gk h1, h3⟩ : ∃ gk, A = some ⟨gk, 0, none⟩ ∧ gk < w.heap.size ∧ w.cell? ⟨gk, k, none⟩ = some (.string x.1)))
      generalize t.o.kv = kv at hall hsm f4 hk1 hk2 HX
      generalize t.o.proto = pr at hall hsz hst f1 hpr
      obtain ⟨m, hm⟩ : ∃ m, kv.length = m := ⟨_, rfl⟩
      have HM := Lib.hid hm
      rw [hm] at f4 hk1 hsm
      simp only [List.length_cons, Nat.add_mul, Nat.one_mul] at hsz
      have HO := Lib.hid (And.intro hO (And.intro hall hsz))
      have HD := Lib.hid (fun (W : World) (hb : Below w.heap.size w W) => (⟨(hb.cell (p := ⟨b, 0, none⟩) hbl).trans d, (hb.cell (p := ⟨g, n * 6 + 4, none⟩) hgl).trans f4, (hb.cell (p := ⟨g, n * 6 + 1, none⟩) hgl).trans f1⟩ : W.cell? ⟨b, 0, none⟩ = some (.slice (some ⟨g, 0, none⟩) L.length c) ∧ W.cell? ⟨g, n * 6 + 4, none⟩ = some (.slice A m ck) ∧ W.cell? ⟨g, n * 6 + 1, none⟩ = some (.int .i64 pr)))
      obtain ⟨d0, d4, d1⟩ := HD.out W0 hO.below
      clear hr e hL' ht ho hO hall hst hL hm d f4 f1 hx
      go_wp2
      go_loopg [5, 6] m (fun gn v i wx => ∃ (k : Nat), k ≤ m ∧ gn = m - k ∧ i = .int .i64 k ∧ OutI w wx v (addL acc ((keysOf kv).take k)))
      case atStart => exact ⟨0, Nat.zero_le _, rfl, rfl, HO.out.1⟩
      case round =>
        obtain ⟨k, hk, rfl, rfl, hO1⟩ := hrel
        obtain ⟨W1, hW1⟩ : ∃ x, x = wr := ⟨_, rfl⟩
        subst hW1
        clear d0 d4 d1
        obtain ⟨d0, d4, d1⟩ := HD.out W1 hO1.below
        obtain ⟨A1, c1, rfl, hnc1, hcm1⟩ := row_slice hO1.row
        by_cases hkm : k < m
        · obtain ⟨x, hxk⟩ : ∃ x, kv[k]? = some x := ⟨_, List.getElem?_eq_getElem (by rw [HM.out]; exact hkm)⟩
          obtain ⟨gk, rfl, hgk, dx⟩ := HX.out k x hxk
          have cx : W1.cell? ⟨gk, k, none⟩ = some (.string x.1) := (hO1.below.cell (p := ⟨gk, k, none⟩) hgk).trans dx
          have hkx : (keysOf kv)[k]? = some x.1 := by simp [keysOf, hxk]
          have hta : addL acc ((keysOf kv).take (k + 1)) = (if (addL acc ((keysOf kv).take k)).any (fun y => decide (y = x.1)) = true then addL acc ((keysOf kv).take k) else addL acc ((keysOf kv).take k) ++ [x.1]) := by
            rw [List.take_add_one, hkx]
            exact addL_app acc ((keysOf kv).take k) x.1
          have hwl : (addL acc ((keysOf kv).take k)).length ≤ 1000000 := by
            have h1 := addL_len acc ((keysOf kv).take k)
            have h2 : ((keysOf kv).take k).length ≤ k := by simp; omega
            have h3 := HO.out.2.2
            omega
          have HTA := Lib.hid hta
          have hkm' : (k : Int) < (m : Int) := by omega
          obtain ⟨x, xv⟩ := x
          simp only at cx HTA dx
          clear hta hxk hkx
          generalize addL acc ((keysOf kv).take k) = wl at hO1 HTA hwl hnc1 ⊢
          obtain ⟨n1, hn1'⟩ : ∃ n, wl.length = n := ⟨_, rfl⟩
          rw [hn1'] at hO1
          have HO1 := Lib.hid (And.intro hO1 hn1')
          rw [hn1'] at hwl hnc1 ⊢
          clear hO1 hn1'
          go_wp2
          go_loopg [7, 8] n1 (fun gn t j wx => ∃ (i q : Nat), i ≤ n1 ∧ gn = n1 - i ∧ t = .bool ((wl.take i).any (fun y => decide (y = x))) ∧ j = .int .i64 i ∧ wx = W1.drewN q)
          case atStart => exact ⟨0, 0, by omega, rfl, rfl, rfl, rfl⟩
          case round =>
            obtain ⟨i, q, hi, rfl, rfl, rfl, rfl⟩ := hrel
            by_cases hin : i < n1
            · obtain ⟨y, hy⟩ : ∃ y, wl[i]? = some y := ⟨_, List.getElem?_eq_getElem (by rw [HO1.out.2]; exact hin)⟩
              have hta := take_any wl x y i hy
              have hrow := HO1.out.1.row
              rw [HO1.out.2] at hrow
              obtain ⟨gw, rfl⟩ : ∃ gw, A1 = some ⟨gw, 0, none⟩ := by
                rcases row_form hrow with ⟨e, e0⟩ | ⟨gw, cw, e, -⟩
                · omega
                · cases e
                  exact ⟨gw, rfl⟩
              have cy : W1.cell? ⟨gw, i, none⟩ = some (.string y) := row_cell hrow i (.string y) (by simp [strsOf, hy])
              have hin' : (i : Int) < (n1 : Int) := by omega
              have HT := Lib.hid hta
              clear hta hy hrow
              cases htb : (wl.take i).any (fun z => decide (z = x)) with
              | true =>
                rw [htb] at HT
                go_wp2_with fail
                go_quiet (fail)
                go_wp2
                go_roundg (n1 - (i + 1))
                case measure => omega
                case rel => exact ⟨i + 1, q + nq, by omega, rfl, by rw [HT.out]; rfl, by go_num, by first | rfl | rw [World.drewN_drewN]⟩
              | false =>
                rw [htb] at HT
                by_cases hyx : y = x
                · subst hyx
                  go_wp2_with fail
                  go_quiet (fail)
                  go_wp2
                  go_roundg (n1 - (i + 1))
                  case measure => omega
                  case rel => exact ⟨i + 1, q + nq, by omega, rfl, by rw [HT.out]; simp, by go_num, by first | rfl | rw [World.drewN_drewN]⟩
                · have dyx := str_ne hyx
                  have dd : decide (y = x) = false := decide_eq_false hyx
                  rw [dd] at HT
                  clear hyx dd
                  go_wp2_with fail
                  go_quiet (fail)
                  go_wp2
                  go_roundg (n1 - (i + 1))
                  case measure => omega
                  case rel => exact ⟨i + 1, q + nq, by omega, rfl, by rw [HT.out]; rfl, by go_num, by first | rfl | rw [World.drewN_drewN]⟩
            · obtain rfl : i = n1 := by omega
              have htk : wl.take i = wl := List.take_of_length_le (by rw [HO1.out.2]; exact Nat.le_refl _)
              rw [htk]
              have hend : ¬ (i : Int) < (i : Int) := by omega
              have hta := HTA.out
              cases htb : wl.any (fun z => decide (z = x)) with
              | true =>
                rw [htb, if_pos rfl] at hta
                have HT2 := Lib.hid hta
                clear hta htk
                go_wp2
                go_roundg (m - (k + 1))
                case measure => omega
                case rel => exact ⟨k + 1, by omega, rfl, by go_num, by rw [HT2.out]; exact HO1.out.1.drewN q⟩
              | false =>
                rw [htb, if_neg (by decide)] at hta
                have HT2 := Lib.hid hta
                have hO2 := HO1.out.1.drewN q
                have HA := Lib.hid (app_one (P := Try.prog) (t := 43) (ty := 43) Try.underlying43 info9 rfl (by decide) (by decide) (row_keep (w' := (W1.drewN q).alloc (.cells #[.string x] 9)) hO2.row (fun j hj => Below.heap_alloc (W1.drewN q) _ j (row_lt hO2.row hj))) (W1.drewN q).heap.size [.string x] 9 (heap_alloc_new (W1.drewN q) _) rfl (by simp [Value.oneCell']) (by rw [HO1.out.2]; omega))
                rw [HO1.out.2] at HA
                have HQ := Lib.hid (fun (u : Value) (w4 : World) (happ : App ((W1.drewN q).alloc (.cells #[.string x] 9)) 9 1 (i + 1) (.slice A1 i c1) (strsOf wl ++ [.string x]) u w4) => OutI.app (x := x) hO2 (by rw [HO1.out.2]; exact happ))
                clear hta htk hO2
                go_wp2_with (at_builtin; refine wl_app rfl (.tmp 60) (.tmp 72) 43 rfl _ (.slice (some ⟨W1.heap.size, 0, none⟩) 1 1) rfl rfl _ HA.out ?_; intro u w4 happ; obtain ⟨A', c', rfl, -, -⟩ := row_slice happ.own; have HQ4 := Lib.hid (HQ.out _ w4 happ))
                go_roundg (m - (k + 1))
                case measure => omega
                case rel => exact ⟨k + 1, by omega, rfl, by go_num, by rw [HT2.out]; exact HQ4.out⟩
        · obtain rfl : k = m := by omega
          have htk : (keysOf kv).take k = keysOf kv := List.take_of_length_le (by rw [keysOf_len, HM.out]; exact Nat.le_refl _)
          rw [htk] at hO1 hnc1 ⊢
          have hend : ¬ (k : Int) < (k : Int) := by omega
          have hlen2 := addL_len acc (keysOf kv)
          rw [keysOf_len, HM.out] at hlen2
          have HO1 := Lib.hid (And.intro hO1 hlen2)
          clear hO1 htk hlen2
          go_wp2
          go_roundg (pr + 1).toNat
          case measure => omega
          case rel => exact ⟨pr, _, rfl, rfl, HO1.out.1, HO.out.2.1, by have h1 := HO1.out.2; have h2 := HO.out.2.2; omega⟩
end Go.Proofs.Ytpbbinppikaamaa
