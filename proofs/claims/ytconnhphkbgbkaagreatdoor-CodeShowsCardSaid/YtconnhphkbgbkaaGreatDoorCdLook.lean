/- code.table is asked for an operation. -/
import Derived.Test.YtconnhphkbgbkaaGreatDoorCdTable
namespace Go.Proofs.YtconnhphkbgbkaaGreatDoor
open Go.RowKit Go.Proofs Go.Maps

theorem TabAt.below {w w' : World} {b : Nat} (h : TabAt w b) (hb : Below w.heap.size w w') : TabAt w' b := by
  obtain ⟨w0, acc, rfl, h1, h2⟩ := h
  refine ⟨w0, acc, rfl, ⟨?_, h1.bel.trans (hb.mono h1.bel.size), fun e he => ?_⟩, h2⟩
  · obtain ⟨es, clock, h3, h4⟩ := h1.map
    exact ⟨es, clock, (hb.block _ (heap_lt h3)).trans h3, h4⟩
  · obtain ⟨h3, h4⟩ := h1.rows e he
    exact ⟨(hb.block _ (heap_lt h3)).trans h3, h4⟩
theorem TabAt.lt {w : World} {b : Nat} (h : TabAt w b) : b < w.heap.size := by
  obtain ⟨w0, acc, rfl, h1, h2⟩ := h
  exact World.ownsMap.lt h1.map
def entIn (l : List Ent) (k : Int) : Option (Nat × List Value) := (l.find? (fun p => decide (p.1 = k))).map (·.2)
theorem entIn_hit (p : Ent) (r : List Ent) : entIn (p :: r) p.1 = some p.2 := by simp [entIn]
theorem entIn_miss {p : Ent} {k : Int} (h : p.1 ≠ k) (r : List Ent) : entIn (p :: r) k = entIn r k := by simp [entIn, h]
theorem mapE_isMap : ∀ l, IsMap (mapE l)
  | [] => isMap_empty
  | _ :: r => (mapE_isMap r).put _ _
theorem key_lit (k : Int) : WideAt.IsKeyLit (.int .i64 k) := by simp [WideAt.IsKeyLit]
theorem lit_ne {a b : Int} (h : a ≠ b) : Lit.int .i64 b ≠ Lit.int .i64 a := fun e => h (by injection e with _ e; exact e.symm)
theorem mapE_has : ∀ (l : List Ent) (k : Int), Maps.has (mapE l) (.int .i64 k) = (entIn l k).isSome
  | [], _ => rfl
  | p :: r, k => by
    by_cases h : p.1 = k
    · subst h
      rw [mapE, has_put_same (mapE_isMap r) (key_lit _), entIn_hit]
      rfl
    · rw [mapE, has_put_other (lit_ne h), entIn_miss h, mapE_has r k]
theorem mapE_at (z : DataW Unit) : ∀ (l : List Ent) (k : Int), (mapE l).atKey (.int .i64 k) z = match entIn l k with | none => z | some e => slD e.1 e.2.length
  | [], _ => rfl
  | p :: r, k => by
    by_cases h : p.1 = k
    · subst h
      rw [mapE, atKey_put_same (mapE_isMap r) (key_lit _), entIn_hit]
    · rw [mapE, atKey_put_other (lit_ne h), entIn_miss h, mapE_at z r k]
def dmIn (l : List (Int × List Dm)) (k : Int) : Option (List Dm) := (l.find? (fun p => decide (p.1 = k))).map (·.2)
theorem RelE.find {w : World} : ∀ {l : List Ent} {s : List (Int × List Dm)} (k : Int), RelE w l s → (entIn l k).isSome = (dmIn s k).isSome ∧ ∀ e ds, entIn l k = some e → dmIn s k = some ds → (k, e) ∈ l ∧ DemsAt w e.2 ds
  | [], [], k, _ => ⟨rfl, fun e ds h => by cases h⟩
  | [], t :: s, k, h => h.elim
  | e :: l, [], k, h => h.elim
  | e :: l, t :: s, k, h => by
    obtain ⟨h1, h2, h3⟩ := h
    obtain ⟨h4, h5⟩ := RelE.find k h3
    by_cases hk : e.1 = k
    · have e1 : entIn (e :: l) k = some e.2 := by rw [← hk]; exact entIn_hit e l
      have e2 : dmIn (t :: s) k = some t.2 := by simp [dmIn, ← h1, hk]
      rw [e1, e2]
      refine ⟨rfl, fun e' ds he hd => ?_⟩
      cases he
      cases hd
      exact ⟨by rw [← hk]; exact List.mem_cons_self, h2⟩
    · have e1 : entIn (e :: l) k = entIn l k := entIn_miss hk l
      have e2 : dmIn (t :: s) k = dmIn s k := by simp [dmIn, ← h1, hk]
      rw [e1, e2]
      exact ⟨h4, fun e' ds he hd => ⟨List.mem_cons_of_mem _ (h5 e' ds he hd).1, (h5 e' ds he hd).2⟩⟩
theorem DemsAt.len {w : World} : ∀ {vs : List Value} {ds : List Dm}, DemsAt w vs ds → vs.length = ds.length
  | [], [], _ => rfl
  | [], _ :: _, h => h.elim
  | _ :: _, [], h => h.elim
  | v :: r, m :: s, h => by
    have := DemsAt.len h.2
    simp [this]
theorem DemsAt.get {w : World} : ∀ {vs : List Value} {ds : List Dm} (i : Nat) (m : Dm), DemsAt w vs ds → ds[i]? = some m → ∃ v, vs[i]? = some v ∧ DemAt w v m
  | [], [], i, m, _, h => by cases h
  | [], _ :: _, i, m, h, _ => h.elim
  | _ :: _, [], i, m, h, _ => h.elim
  | v :: r, m' :: s, 0, m, h, hm => by
    cases hm
    exact ⟨v, rfl, h.1⟩
  | v :: r, m' :: s, i + 1, m, h, hm => DemsAt.get i m h.2 hm
theorem tab_short : ∀ d ∈ tabL.map (·.2), d.length ≤ 10 := by decide
theorem TabAt.look {w : World} {b : Nat} (h : TabAt w b) (op : Int) (hop : I64 op) :
    ∃ v, (Instr.lookup 57 (.map (some b)) (.int .i64 op) true).run Tryz.prog w = .ok (.tuple #[v, .bool (dms op).isSome]) w ∧ ∀ ds, dms op = some ds → SlAt 1 DemP w v ds := by
  obtain ⟨w0, acc, rfl, h1, h2⟩ := h
  obtain ⟨v, ps, hrun, hv⟩ := World.ownsMap.look_ok h1.map intKey9 Tryz.underlying57 (zeroS w) (zd := .agg []) (zp := []) rfl (key_is hop)
  obtain ⟨h3, h4⟩ := RelE.find op h2
  refine ⟨v, ?_, fun ds hds => ?_⟩
  · rw [mapE_has, h3] at hrun
    exact hrun
  · have hds' : dmIn tabL.reverse op = some ds := hds
    rw [mapE_at] at hv
    cases he : entIn acc op with
    | none => rw [he, hds'] at h3; cases h3
    | some e =>
      rw [he] at hv
      obtain ⟨hmem, hd⟩ := h4 e ds he hds'
      obtain rfl := slElem_inv hv
      obtain ⟨hrow, -⟩ := h1.rows _ hmem
      have hl := hd.len
      refine ⟨_, e.2.length, by rw [hl], ⟨by omega, ?_⟩, fun _ => ⟨e.1, 0, rfl, heap_lt hrow, fun i m hm => ?_⟩⟩
      · have : ds ∈ tabL.map (·.2) := by
          have h5 := List.mem_of_find?_eq_some (l := tabL.reverse) (p := fun p => decide (p.1 = op)) (a := (op, ds)) ?_
          · exact List.mem_map.2 ⟨(op, ds), List.mem_reverse.1 h5, rfl⟩
          · unfold dmIn at hds'
            obtain ⟨q, hq, hq2⟩ := Option.map_eq_some_iff.1 hds'
            have := List.find?_some hq
            rw [hq]
            cases q
            simp at this hq2
            rw [this, hq2]
        have hle := tab_short ds this
        unfold maxLen
        omega
      · obtain ⟨v, hv1, hv2⟩ := hd.get i m hm
        refine ⟨[v], ⟨v, rfl, hv2.below h1.bel⟩, fun j hj => ?_⟩
        obtain rfl : j = 0 := by omega
        rw [cell_of_row w e.1 _ _ _ _ hrow]
        simpa using hv1
end Go.Proofs.YtconnhphkbgbkaaGreatDoor
