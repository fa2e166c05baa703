/- The law BitsQueues: its walk. -/
import Derived.Test.YtpfmncdodcbamaaLawDrains
import Derived.Deep.RegionLaw
import Derived.Deep.CutRange
namespace Go.Proofs.Ytpfmncdodcbamaa
open Go.RowKit Go.Proofs

/-- An append in a region that draws: whatever its run gives. -/
theorem step_app {P : Program} {ops : Array Oper} {o : Oper} {a : Act} {w : World} {K : Act → World → Prop} {Q : Exit → Act → World → Prop} {E : Prop} (hg : o.guard = none) (s x : Operand) (t : TypeId)
    (hop : o.op = Op.call { callee := Callee.builtin Builtin.append, args := #[s, x], argTypes := #[t, t] }) (v u : Value) (hs : a.eval s = v) (hx : a.eval x = u) (R : Value → World → Prop)
    (hrun : ∃ v' w', (Builtin.append_ #[t, t] o.type #[v, u]).run P w = .ok v' w' ∧ R v' w') (hK : ∀ v' w', R v' w' → K (a.put o.dst v') w') :
    if Region.wanted o (yielded ops a.tmps) = true then Oper.wp P o a w K Q else E := by
  have hw : Region.wanted o (yielded ops a.tmps) = true := by simp [Region.wanted, hg]
  rw [if_pos hw]
  obtain ⟨v', w', hr, h2⟩ := hrun
  unfold Oper.wp execOp
  simp only [hop, resolve, invoke, builtin, Sem.run_bind, Sem.run_pure, Result.andThen_ok, List.map_toArray, List.map_cons, List.map_nil, hs, hx, hr]
  exact hK _ _ h2

/-- An empty row of the call's own with room for n + 1. -/
def room (n : Nat) : Array Value := madeCells #[.int .i64 0] (n + 1)
theorem run_room {i : TypeInfo} (hi : Try.prog.info? 3 = some i) (hz : i.zero = some (.int .i64 0)) (hs : i.size = 1) (hb : i.bytes = 8) (n : Nat) (hn : n ≤ 1000000) (W : World) :
    (Instr.makeSlice 22 (.int .i64 0) (.int .i64 ((n : Int) + 1))).run Try.prog W = .ok (.slice (some ⟨W.heap.size, 0, none⟩) 0 (n + 1)) (W.alloc (.cells (room n) 3)) := by
  have h := run_make (P := Try.prog) W 22 3 i (.int .i64 0) Try.underlying22 hi hz .i64 .i64 0 ((n : Int) + 1) (by omega) (by omega) (by rw [hb]; omega) (by omega)
  rw [h, hs]
  have e : ((n : Int) + 1).toNat = n + 1 := by omega
  rw [e]
  simp [room, Value.cells]

/-- What is behind the first append, into block g. -/
def App1 (w3 W : World) (g n : Nat) (there : List Int) (v' : Value) (w' : World) : Prop :=
  w'.ownsRow w3.heap.size 3 1 v' n (there.map (Value.int .i64)) ∧ Below w3.heap.size w3 w' ∧ W.grownBy w' (some g)
/-- What is behind the second one. -/
def App2 (w3 : World) (n : Nat) (there : List Int) (x : Int) (v' : Value) (w' : World) : Prop :=
  w'.ownsRow w3.heap.size 3 1 v' (n + 1) ((there ++ [x]).map (Value.int .i64)) ∧ Below w3.heap.size w3 w'

theorem app1_run {i : TypeInfo} (hi : Try.prog.info? 3 = some i) (hz : i.zero = some (.int .i64 0)) (hs : i.size = 1) (hby : i.bytes = 8) (w3 W : World) (g : Nat) (ty : TypeId) (A : Option Addr) (n c : Nat) (there : List Int) (hn : n ≤ 1000000)
    (hg : W.heap[g]? = some (.cells (room n) 3 (0, 0))) (hgb : w3.heap.size ≤ g) (hB : Below w3.heap.size w3 W) (hI : Ints w3 w3.heap.size A n c there) :
    ∃ v' w', (Builtin.append_ #[22, 22] ty #[.slice (some ⟨g, 0, none⟩) 0 (n + 1), .slice A n c]).run Try.prog W = .ok v' w' ∧ App1 w3 W g n there v' w' := by
  have hsize : (room n).size = n + 1 := by simp [room, size_madeCells]
  have hown : W.ownsRow w3.heap.size 3 1 (.slice (some ⟨g, 0, none⟩) 0 (n + 1)) 0 [] :=
    ⟨by simp, .inr ⟨g, n + 1, room n, rfl, hgb, hg, by omega, by unfold maxLen; omega, by omega, by simp⟩⟩
  have hI' := hI.below hB
  have hle := hB.size
  rcases A with _ | ad
  · have hn0 : n = 0 := by
      rcases Nat.eq_zero_or_pos n with h0 | h0
      · exact h0
      · obtain ⟨ad, h, _⟩ := hI.2.2.2.2 h0
        cases h
    subst hn0
    obtain rfl : there = [] := List.eq_nil_of_length_eq_zero hI.1
    refine ⟨_, W, ?_, hown, hB, World.grownBy.refl W _⟩
    simp [Builtin.append_, run_underlying Try.underlying22, sizeOf, typeInfo, hi, Builtin.lenOf, Builtin.firstCells, storeCells]
  · have hcells : ∀ j u, (there.map (Value.int .i64))[j]? = some u → W.cell? (ad.add j) = some u := by
      intro j u hu
      rw [List.getElem?_map] at hu
      obtain ⟨q, hq, rfl⟩ := Option.map_eq_some_iff.1 hu
      have hjl := (List.getElem?_eq_some_iff.1 hq).1
      obtain ⟨ad', h, _, hc⟩ := hI'.2.2.2.2 (by have := hI.1; omega)
      injection h with h
      subst h
      exact hc j q hq
    obtain ⟨v', w', hrun, h2, h3, _, _⟩ := run_append_own_at (P := Try.prog) W w3.heap.size 22 ty 3 i (.int .i64 0) 1 8 Try.underlying22 hi hz hs hby rfl (by decide) _ 0 [] hown ad n c (there.map (Value.int .i64)) (by simp [hI.1]) hcells
      (fun u hu => by obtain ⟨q, _, rfl⟩ := List.mem_map.1 hu; simp [Value.oneCell']) (by unfold maxLen; omega) (by omega) hle
    exact ⟨v', w', hrun, by simpa using h2, hB.grown h3 hle (fun r e => by simp [Value.ownBlock] at e; omega), h3⟩

theorem app2_run {i : TypeInfo} (hi : Try.prog.info? 3 = some i) (hz : i.zero = some (.int .i64 0)) (hs : i.size = 1) (hby : i.bytes = 8) (w3 W : World) (T : Nat) (ty : TypeId) (v : Value) (n : Nat) (there : List Int) (x : Int) (hn : n ≤ 1000000)
    (hown : W.ownsRow w3.heap.size 3 1 v n (there.map (Value.int .i64))) (hB : Below w3.heap.size w3 W) (hT : W.heap[T]? = some (.cells #[.int .i64 x] 3 (0, 0))) :
    ∃ v' w', (Builtin.append_ #[22, 22] ty #[v, .slice (some ⟨T, 0, none⟩) 1 1]).run Try.prog W = .ok v' w' ∧ App2 w3 n there x v' w' := by
  obtain ⟨v', w', hrun, h2, h3, _, _⟩ := run_append_own_at (P := Try.prog) W w3.heap.size 22 ty 3 i (.int .i64 0) 1 8 Try.underlying22 hi hz hs hby rfl (by decide) v n _ hown ⟨T, 0, none⟩ 1 1 [.int .i64 x] rfl (by
      intro j u hj
      match j, hj with
      | 0, hj =>
        simp at hj
        subst hj
        simp [Addr.add, cell_of_row _ _ _ _ _ _ hT]) (by simp [Value.oneCell']) (by unfold maxLen; omega) (by omega) hB.size
  exact ⟨v', w', hrun, by simpa using h2, hB.grown h3 hB.size (fun r e => (hown.lt r e).1)⟩

/-- What the law keeps of its own: the numbers that are there; no block of the queue's. -/
def ThereIs (w : World) (F : Nat → Prop) (A : Option Addr) (n c : Nat) (there : List Int) : Prop :=
  Ints w w.heap.size A n c there ∧ (0 < n → ∀ ad, A = some ad → ¬ F ad.block)
theorem ThereIs.keep {w w' : World} {F F' : Nat → Prop} {A : Option Addr} {n c : Nat} {there : List Int} (h : ThereIs w F A n c there) (ho : Only F w w') (hF : ∀ i, F' i → F i ∨ w.heap.size ≤ i) : ThereIs w' F' A n c there := by
  obtain ⟨⟨h1, h2, h3, h4, h5⟩, h6⟩ := h
  refine ⟨⟨h1, h2, h3, h4, fun hn => ?_⟩, fun hn ad e hf => ?_⟩
  · obtain ⟨ad, e, hb, hc⟩ := h5 hn
    refine ⟨ad, e, Nat.lt_of_lt_of_le hb ho.size, fun j z hj => ?_⟩
    rw [World.cell?_of_block (ho.block (ad.add j).block (by rw [add_block]; exact hb) (by rw [add_block]; exact h6 hn ad e))]
    exact hc j z hj
  · obtain ⟨ad', e', hb, _⟩ := h5 hn
    rw [e] at e'
    injection e' with e'
    subst e'
    rcases hF _ hf with hf | hf
    · exact h6 hn ad e hf
    · omega
theorem ThereIs.tail {w : World} {F : Nat → Prop} {A : Option Addr} {n c : Nat} {y : Int} {ys : List Int} (h : ThereIs w F A (n + 1) c (y :: ys)) : ThereIs w F (if c = 1 then A else A.map (·.add 1)) n (c - 1) ys := by
  have hc := h.1.cut (k := 1) (by omega)
  refine ⟨by simpa using hc, fun hn ad e => ?_⟩
  have hcc := h.1.2.1
  rw [if_neg (by omega)] at e
  obtain ⟨ad', rfl, e2⟩ := Option.map_eq_some_iff.1 e
  rw [← e2, add_block]
  exact h.2 (by omega) ad' rfl

set_option maxRecDepth 100000 in
set_option maxHeartbeats 4000000 in
theorem queues_walk (A : Option Addr) (n c : Nat) (l : List Int) (w : World) (hl : l.length = n) (h64 : ∀ z ∈ l, I64 z)
    (hr : 0 < n → ∃ ad, A = some ad ∧ ad.block < w.heap.size ∧ ∀ (j : Nat) (z : Int), l[j]? = some z → w.cell? (ad.add j) = some (.int .i64 z)) :
    Calls Try.prog 6 #[.slice A n c] w fun e w' => e = .returned (.bool true) ∧ Below w.heap.size w w' := by
  obtain ⟨i0, hi, hz0, hz1, hz2⟩ := info_parts info3
  have HI := Lib.hid (And.intro hi (And.intro hz0 (And.intro hz1 hz2)))
  clear hi hz0 hz1 hz2
  have HS := Lib.hid (shown_any w)
  have HL := Lib.hid (And.intro hl (And.intro h64 hr))
  clear hl h64 hr
  go_enter Try.func6, Try.ntmps6
  go_wp2_with fail
  go_at_call 10
  refine (HS.out).mono ?_
  rintro e w1 ⟨rfl, hb1⟩
  have HB1 := Lib.hid hb1
  clear hb1
  go_wp2_with fail
  go_at_call 25
  refine (newf_any w1).mono ?_
  rintro e w2 ⟨rfl, hq2, hb2⟩
  have HQ2 := Lib.hid (And.intro hq2 hb2)
  clear hq2 hb2
  go_wp2_with fail
  go_loopw [5, 6] (fun s5 s6 wr => ∃ (k : Nat) (there : List Int) (F : Nat → Prop) (A5 : Option Addr) (n5 c5 : Nat), k ≤ n ∧ k ≤ 200 ∧ s6 = .int .i64 k ∧ s5 = .slice A5 n5 c5 ∧ there.length ≤ k ∧ IsF wr F (w1.heap.size + 1) k there ∧ (∀ i, F i → w1.heap.size ≤ i) ∧ ThereIs wr F A5 n5 c5 there ∧ Below w1.heap.size w1 wr) (fun _ s6 _ => n - (intOf s6).toNat)
  case atStart =>
    exact ⟨0, [], _, none, 0, 0, Nat.zero_le _, by omega, rfl, rfl, Nat.le_refl _, HQ2.out.1, fun i hi => hi.1, ⟨Ints.nil_, fun h => absurd h (by omega)⟩, HQ2.out.2⟩
  case round =>
    obtain ⟨k, there, F, A5, n5, c5, hk, hk200, rfl, rfl, htl, hq, hF, hth, hbl⟩ := hrel
    have HQ := Lib.hid (And.intro hq (And.intro hF (And.intro hth hbl)))
    have hsz := hbl.size
    have hn5 := hth.1.1
    clear hq hF hth hbl
    by_cases hgo : k < n ∧ k < 200
    · obtain ⟨hlt, hlt2⟩ := hgo
      obtain ⟨ad, rfl, had, hcells⟩ := HL.out.2.2 (by omega)
      obtain ⟨x, hx⟩ : ∃ x, l[k]? = some x := ⟨_, List.getElem?_eq_getElem (by have := HL.out.1; omega)⟩
      have hx64 := HL.out.2.1 x (List.mem_of_getElem? hx)
      have hc0 : wr.cell? (ad.add k) = some (.int .i64 x) := (HQ.out.2.2.2.cell (p := ad.add k) (by rw [add_block]; have := HB1.out.size; omega)).trans ((HB1.out.cell (p := ad.add k) (by rw [add_block]; exact had)).trans (hcells k x hx))
      clear hcells hx
      by_cases hneg : x < 0
      · cases there with
        | nil =>
          obtain rfl : n5 = 0 := by simpa using hn5.symm
          have HP := Lib.hid (popf_empty F (w1.heap.size + 1) k wr HQ.out.1)
          have hh : (false != decide ((0 : Int) < 0)) = false := by simp
          go_wp2_with (go_at_call 26; (with_reducible refine (HP.out).mono ?_); rintro e w3 ⟨rfl, rfl⟩)
          go_roundw
          case rel => exact ⟨k + 1, [], F, A5, 0, c5, by omega, by omega, by go_num, rfl, by simp, HQ.out.1.more (by omega), HQ.out.2.1, HQ.out.2.2.1, HQ.out.2.2.2⟩
          case measure => simp [intOf]; omega
        | cons y ys =>
          obtain ⟨n5, rfl⟩ : ∃ q, n5 = q + 1 := ⟨n5 - 1, by simp at hn5; omega⟩
          have HP := Lib.hid (popf_cons F (w1.heap.size + 1) k y ys wr HQ.out.1)
          go_wp2_with fail
          go_at_call 26
          (with_reducible refine (HP.out).mono ?_)
          rintro e w3 ⟨rfl, hq3, ho3⟩
          have hth3 := HQ.out.2.2.1.keep ho3 (fun i hi => .inl hi)
          obtain ⟨ad5, y5, rfl, _, hy5, _, hc5⟩ := hth3.1.at_ (k := 0) (by omega)
          simp at hy5
          subst hy5
          rw [add_zero_] at hc5
          have hcc := hth3.1.2.1
          have hccm := hth3.1.2.2.1.2
          have HT3 := Lib.hid (And.intro hth3.tail (And.intro hq3 ho3))
          have hne : (y != y) = false := by simp
          clear hth3 hq3 ho3
          by_cases hc1 : c5 = 1
          · subst hc1
            obtain rfl : n5 = 0 := by omega
            go_wp2_with fail
            go_roundw
            case rel => exact ⟨k + 1, ys, F, some ad5, 0, 0, by omega, by omega, by go_num, rfl, by simp at htl; omega, HT3.out.2.1.more (by omega), HQ.out.2.1, HT3.out.1, HQ.out.2.2.2.trans (HT3.out.2.2.below hsz HQ.out.2.1)⟩
            case measure => simp [intOf]; omega
          · go_wp2_with fail
            go_roundw
            case rel =>
              have := HT3.out.1
              rw [if_neg hc1] at this
              exact ⟨k + 1, ys, F, some (ad5.add 1), n5, c5 - 1, by omega, by omega, by go_num, rfl, by simp at htl; omega, HT3.out.2.1.more (by omega), HQ.out.2.1, this, HQ.out.2.2.2.trans (HT3.out.2.2.below hsz HQ.out.2.1)⟩
            case measure => simp [intOf]; omega
      · have HH := Lib.hid (refHas_any A5 n5 c5 _ there x wr HQ.out.2.2.1.1)
        by_cases hin : x ∈ there
        · have hb : hasB there x = true := (hasB_iff _ _).2 hin
          rw [hb] at HH
          have HP := Lib.hid (pushf_old F (w1.heap.size + 1) k x there wr hx64 HQ.out.1 hin)
          clear hin hb
          go_wp2_with fail
          go_at_call 17
          (with_reducible refine (HH.out).mono ?_)
          rintro e wr' ⟨rfl, rfl⟩
          go_wp2_with fail
          go_at_call 27
          (with_reducible refine (HP.out).mono ?_)
          rintro e w3 ⟨rfl, hq3, hb3⟩
          have hth3 := HQ.out.2.2.1.keep (Only.of_below hb3) (fun i hi => .inl hi)
          have HLn := Lib.hid (lenf_any F (w1.heap.size + 1) k there w3 hq3)
          have HT3 := Lib.hid (And.intro hth3 (And.intro hq3 hb3))
          have hne : ((there.length : Int) != n5) = false := by simp [hn5]
          clear hth3 hq3 hb3
          go_wp2_with (go_at_call 28; (with_reducible refine (HLn.out).mono ?_); rintro e w4 ⟨rfl, rfl⟩)
          go_roundw
          case rel => exact ⟨k + 1, there, F, A5, n5, c5, by omega, by omega, by go_num, rfl, by omega, HT3.out.2.1.more (by omega), HQ.out.2.1, HT3.out.1, HQ.out.2.2.2.trans (HT3.out.2.2.mono hsz)⟩
          case measure => simp [intOf]; omega
        · have hb : hasB there x = false := by
            cases h : hasB there x with
            | true => exact absurd ((hasB_iff _ _).1 h) hin
            | false => rfl
          rw [hb] at HH
          have HP := Lib.hid (pushf_new F (w1.heap.size + 1) k x there wr hx64 HQ.out.1 hin (by unfold maxLen; omega) (by omega))
          clear hin hb
          go_wp2_with fail
          go_at_call 17
          (with_reducible refine (HH.out).mono ?_)
          rintro e wr' ⟨rfl, rfl⟩
          go_wp2_with fail
          go_at_call 27
          (with_reducible refine (HP.out).mono ?_)
          rintro e w3 ⟨rfl, hq3, ho3⟩
          have hth3 := HQ.out.2.2.1.keep ho3 (F' := ext F wr w3) (fun i hi => by
            rcases hi with hi | hi
            · exact .inl hi
            · exact .inr hi.1)
          have hb3 := ho3.below hsz HQ.out.2.1
          have hc3 : w3.cell? (ad.add k) = some (.int .i64 x) := (hb3.cell (p := ad.add k) (by rw [add_block]; have := HB1.out.size; omega)).trans hc0
          have hadl3 : (ad.add k).block < w3.heap.size := by rw [add_block]; have := HB1.out.size; have := ho3.size; omega
          have HT3 := Lib.hid (And.intro hth3 (And.intro hq3 (And.intro ho3 hb3)))
          have hn5l : n5 ≤ 200 := by omega
          have HMk := Lib.hid (fun W => run_room HI.out.1 HI.out.2.1 HI.out.2.2.1 HI.out.2.2.2 n5 (by omega) W)
          have HW := Lib.hid (show IntKind.i64.wrap ((n5 : Int) + 1) = (n5 : Int) + 1 from IntWalk.i64_in _ (by omega))
          have HA1 := Lib.hid (fun (W : World) (g : Nat) (ty : TypeId) (hg : W.heap[g]? = some (.cells (room n5) 3 (0, 0))) (hgb : w3.heap.size ≤ g) (hB : Below w3.heap.size w3 W) => app1_run HI.out.1 HI.out.2.1 HI.out.2.2.1 HI.out.2.2.2 w3 W g ty A5 n5 c5 there (by omega) hg hgb hB HT3.out.1.1)
          clear hth3 hq3 ho3 hb3
          go_wp2_with fail
          go_cut [5] from 12 to 90 (fun s5 wc => ∃ v, s5 = v ∧ App2 w3 n5 there x v wc)
          case first =>
            have hmk := HMk.out
            have hw := HW.out
            go_region_law (first
              | (refine step_app rfl (.tmp 77) (.tmp 78) 22 rfl (.slice (some ⟨w3.heap.size, 0, none⟩) 0 (n5 + 1)) (.slice A5 n5 c5) (by simp [Act.eval]) (by simp [Act.eval]) (App1 w3 _ w3.heap.size n5 there) (HA1.out _ _ _ (by first | exact heap_alloc_new _ _ | exact (Below.heap_alloc _ _ _ (by simp)).trans (heap_alloc_new _ _)) (by simp) (by repeat (first | exact Below.refl _ _ | refine Below.drew ?_ | refine Below.alloc ?_ (by simp) _))) ?_; intro v1 w4 happ; have hc4 : w4.cell? (ad.add k) = some (.int .i64 x) := (happ.2.1.cell (p := ad.add k) hadl3).trans hc3; have hz4 := happ.2.1.size; have HAp := Lib.hid happ; clear happ)
              | (refine step_app rfl (.tmp 77) (.tmp 78) 22 rfl (.slice (some ⟨w3.heap.size + 1, 0, none⟩) 0 (n5 + 1)) (.slice A5 n5 c5) (by simp [Act.eval]) (by simp [Act.eval]) (App1 w3 _ (w3.heap.size + 1) n5 there) (HA1.out _ _ _ (by have h9 := heap_alloc_new (w3.alloc (.cells #[.int .i64 x] 3)) (.cells (room n5) 3); rw [World.size_alloc] at h9; exact h9) (by simp) (by repeat (first | exact Below.refl _ _ | refine Below.drew ?_ | refine Below.alloc ?_ (by simp) _))) ?_; intro v1 w4 happ; have hc4 : w4.cell? (ad.add k) = some (.int .i64 x) := (happ.2.1.cell (p := ad.add k) hadl3).trans hc3; have hz4 := happ.2.1.size; have HAp := Lib.hid happ; clear happ)
              | (refine step_app rfl (.tmp 79) (.tmp 84) 22 rfl v1 (.slice (some ⟨w4.heap.size, 0, none⟩) 1 1) (by simp [Act.eval]) (by simp [Act.eval]) (App2 w3 n5 there x) (app2_run HI.out.1 HI.out.2.1 HI.out.2.2.1 HI.out.2.2.2 w3 _ w4.heap.size _ v1 n5 there x (by omega) (HAp.out.1.alloc _) (HAp.out.2.1.alloc HAp.out.2.1.size _) (heap_alloc_new w4 _)) ?_; intro v2 w5 happ2; have HA2 := Lib.hid happ2; clear happ2)
              | (refine step_app rfl (.tmp 79) (.tmp 84) 22 rfl v1 (.slice (some ⟨w3.heap.size + 1, 0, none⟩) 1 1) (by simp [Act.eval]) (by simp [Act.eval]) (App2 w3 n5 there x) (app2_run HI.out.1 HI.out.2.1 HI.out.2.2.1 HI.out.2.2.2 w3 _ (w3.heap.size + 1) _ v1 n5 there x (by omega) HAp.out.1 HAp.out.2.1 ((HAp.out.2.2.block (w3.heap.size + 1) (by first | (simp; done) | (show w3.heap.size + 1 < ((w3.alloc (.cells (room n5) 3)).alloc (.cells #[.int .i64 x] 3)).heap.size; simp)) (by simp)).trans (by have h9 := heap_alloc_new (w3.alloc (.cells (room n5) 3)) (.cells #[.int .i64 x] 3); rw [World.size_alloc] at h9; exact h9))) ?_; intro v2 w5 happ2; have HA2 := Lib.hid happ2; clear happ2)
              | (refine step_app rfl (.tmp 79) (.tmp 84) 22 rfl v1 (.slice (some ⟨w3.heap.size, 0, none⟩) 1 1) (by simp [Act.eval]) (by simp [Act.eval]) (App2 w3 n5 there x) (app2_run HI.out.1 HI.out.2.1 HI.out.2.2.1 HI.out.2.2.2 w3 _ w3.heap.size _ v1 n5 there x (by omega) HAp.out.1 HAp.out.2.1 ((HAp.out.2.2.block w3.heap.size (by first | (simp; done) | (simp; omega) | (show w3.heap.size < ((w3.alloc (.cells #[.int .i64 x] 3)).alloc (.cells (room n5) 3)).heap.size; simp; omega)) (by simp)).trans (by have h9 := (Below.heap_alloc (w3.alloc (.cells #[.int .i64 x] 3)) (.cells (room n5) 3) w3.heap.size (by simp)).trans (heap_alloc_new w3 (.cells #[.int .i64 x] 3)); exact h9))) ?_; intro v2 w5 happ2; have HA2 := Lib.hid happ2; clear happ2))
            all_goals
              go_wp2
              go_meet
              case rel => exact ⟨v2, rfl, HA2.out⟩
          case rest =>
            obtain ⟨v, rfl, happ⟩ := hcut
            obtain ⟨A8, c8, rfl, hi8⟩ := ints_of_own happ.1 (fun z hz => by
              rcases List.mem_append.1 hz with h | h
              · exact HT3.out.1.1.2.2.2.1 z h
              · obtain rfl : z = x := by simpa using h
                exact hx64) (by simp; omega)
            have hth8 : ThereIs wc (ext F wr w3) A8 (n5 + 1) c8 (there ++ [x]) := ⟨hi8, fun _ ad8 e hf => by
              subst e
              have h1 := (happ.1.lt ad8.block rfl).1
              have h2 := HT3.out.2.1.lt _ hf
              omega⟩
            have hq8 : IsF wc (ext F wr w3) (w1.heap.size + 1) (k + 1) (there ++ [x]) := HT3.out.2.1.below happ.2
            have HLn := Lib.hid (lenf_any (ext F wr w3) (w1.heap.size + 1) (k + 1) (there ++ [x]) wc hq8)
            have HT8 := Lib.hid (And.intro hth8 (And.intro hq8 happ.2))
            have hne : (((there ++ [x]).length : Int) != ((n5 : Int) + 1)) = false := by simp [hn5]
            have hne2 : ((there.length : Int) + 1 != ((n5 : Int) + 1)) = false := by simp [hn5]
            clear hth8 hq8 happ hi8
            go_wp2_with (go_at_call 28; (with_reducible refine (HLn.out).mono ?_); rintro e w4 ⟨rfl, rfl⟩)
            go_roundw
            case rel => exact ⟨k + 1, there ++ [x], ext F wr w3, A8, n5 + 1, c8, by omega, by omega, by go_num, rfl, by simp; omega, HT8.out.2.1, fun i hi => by
              rcases hi with hi | hi
              · exact HQ.out.2.1 i hi
              · omega, HT8.out.1, (HQ.out.2.2.2.trans HT3.out.2.2.2).trans (HT8.out.2.2.mono (by have := HT3.out.2.2.2.size; omega))⟩
            case measure => simp [intOf]; omega
    · have HLn := Lib.hid (lenf_any F (w1.heap.size + 1) k there wr HQ.out.1)
      have hq : ((there.length : Int) == n5) = true := by simp [hn5]
      have hstop : n ≤ k ∨ (k < n ∧ 200 ≤ k) := by omega
      clear hgo
      rcases hstop with hs | ⟨hs, hs'⟩
      all_goals
        go_wp2_with (go_at_call 28; (with_reducible refine (HLn.out).mono ?_); rintro e w4 ⟨rfl, rfl⟩)
        go_ret
        exact ⟨rfl, below2 HB1.out HQ.out.2.2.2 HB1.out.size⟩
end Go.Proofs.Ytpfmncdodcbamaa
