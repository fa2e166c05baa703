/- What is known while scope.resolve goes through a tree. One part more is met: what is known stays known. One part more is met: the world's side. scope.meet, where resolve calls it. -/
import Derived.Test.YtikbfoichhkeaaaGreatVm14
import Derived.Test.YtikbfoichhkeaaaGreatVm16
set_option linter.unusedSimpArgs false
set_option linter.unusedVariables false
set_option maxRecDepth 100000
set_option maxHeartbeats 40000000
namespace Go.Proofs.YtikbfoichhkeaaaGreat
section
open Go.RowKit Go.Proofs
def TB (x : Lo) (b k : Nat) : Prop := k = b ∨ k ∈ x.blks
def J0 (W : World) (R : Nat) : Prop := R < W.heap.size ∧ ∀ g, Reach1 W R g → g < W.heap.size
def mineR (x : Lo) (b R Fb : Nat) (W : World) (k : Nat) : Prop := TB x b k ∨ k = R ∨ k = Fb ∨ ¬ J0 W R ∨ Reach1 W R k ∨ Reach2 W R k
structure Book (pre : List Ev6) (ws : WS) (ns : List Int) : Prop where
 len : ns.length = pre.length
 funs : ws.funs.length = nf pre
 wf : WfF ws.funs
 few : ws.funs.length ≤ 500
 mark : 0 ≤ ws.mark ∧ ws.mark ≤ 4 + 2 * (pre.length : Int)
 nos : ∀ (i : Nat) (e : Ev6), pre[i]? = some e → isFun e.x.op = true → ns[i]? = some (e.no : Int)
structure ResX (W0 : World) (x : Lo) (b R B Fb : Nat) (pre : List Ev6) (W : World) (ws : WS) (ns : List Int) (L : List (Fn × Value × Nat)) (v : Value) : Prop where
 run : runE ⟨[], 0⟩ (pre.map Ev6.ev) = .ok (ws, ns)
 book : Book pre ws ns
 st : RSt W R B ws L v
 stat : Stat W x b 0
 nums : NumsAt W (adA x b 0) (ns ++ (numsO x).drop ns.length)
 shape : ∀ k, TB x b k → ∃ cs, W.heap[k]? = some (.cells cs 24 (0, 0))
 only : Only (fun k => TB x b k ∨ k = R ∨ k = Fb) W0 W
structure ResG (W0 : World) (x : Lo) (b R B Fb : Nat) : Prop where
 ok : x.ok
 nodup : x.blks.Nodup
 root : b ∉ x.blks
 low : ∀ k, TB x b k → k < B
 res : R < B ∧ ¬ TB x b R
 box : Fb < B ∧ ¬ TB x b Fb ∧ Fb ≠ R
 base : B = W0.heap.size
theorem RSt.j0 {W : World} {R B : Nat} {ws : WS} {L : List (Fn × Value × Nat)} {v : Value} (h : RSt W R B ws L v) : J0 W R :=
 ⟨heap_lt h.head, fun g hg => (h.row.lt g ((h.reach1 g).1 hg)).2⟩
theorem mineR_it {x : Lo} {b R Fb base : Nat} {A B : World} (hR : R < base) (g : ItKeeps (mineR x b R Fb) base A B) (k : Nat) (h : mineR x b R Fb B k) : mineR x b R Fb A k := by
 by_cases hj : J0 A R
 ·have e1 := g.keep R hj.1 (.inl hR)
  have r1 : ∀ k, Reach1 B R k → Reach1 A R k := fun k ⟨cs, v, h1, h2, h3⟩ => ⟨cs, v, e1.symm.trans h1, h2, h3⟩
  rcases h with h | h | h | h | h | h
  ·exact .inl h
  ·exact .inr (.inl h)
  ·exact .inr (.inr (.inl h))
  ·exact absurd ⟨Nat.lt_of_lt_of_le hj.1 g.size, fun k hk => Nat.lt_of_lt_of_le (hj.2 k (r1 k hk)) g.size⟩ h
  ·exact .inr (.inr (.inr (.inr (.inl (r1 k h)))))
  ·obtain ⟨cs, g', n, c, cs', i, u, h1, h2, h3, h4, h5, h6⟩ := h
   have hr : Reach1 A R g' := ⟨cs, _, e1.symm.trans h1, h2, rfl⟩
   have e2 := g.keep g' (hj.2 g' hr) (.inr (.inr (.inr (.inr (.inr (.inl hr))))))
   exact .inr (.inr (.inr (.inr (.inr ⟨cs, g', n, c, cs', i, u, e1.symm.trans h1, h2, e2.symm.trans h3, h4, h5, h6⟩))))
 ·exact .inr (.inr (.inr (.inl hj)))
section
variable {W0 W W' : World} {x : Lo} {b R B Fb : Nat} {pre : List Ev6} {ws ws' : WS} {ns : List Int} {L : List (Fn × Value × Nat)} {v : Value}
theorem RSt.mine (h : RSt W R B ws L v) (hs : ∀ k, TB x b k → ∃ cs, W.heap[k]? = some (.cells cs 24 (0, 0))) {cs : Array Value} (hf : W.heap[Fb]? = some (.cells cs 76 (0, 0))) {k : Nat} (hk : mineR x b R Fb W k) : ∃ o, W.heap[k]? = some o ∧ dataO o = true := by
 rcases hk with hk | rfl | rfl | hk | hk | hk
 ·obtain ⟨cs, hc⟩ := hs k hk
  exact ⟨_, hc, rfl⟩
 ·exact ⟨_, h.head, rfl⟩
 ·exact ⟨_, hf, rfl⟩
 ·exact absurd h.j0 hk
 ·obtain ⟨cs, hc⟩ := row_blk (row_zero h.row) ((h.reach1 k).1 hk)
  exact ⟨_, hc, rfl⟩
 ·obtain ⟨q, hq, hk⟩ := h.reach2 k hk
  rcases hk with hk | rfl
  ·obtain ⟨cs, hc⟩ := row_blk (row_zero (h.each q hq).row) hk
   exact ⟨_, hc, rfl⟩
  ·obtain ⟨j, D, ⟨es, clock, hb, -⟩, -⟩ := (h.each q hq).map
   exact ⟨_, hb, rfl⟩
theorem RSt.it {base : Nat} (h : RSt W R B ws L v) (hk : ItKeeps (mineR x b R Fb) base W W') (hb : R < base) : RSt W' R B ws L v :=
 h.keep (hk.keep R (heap_lt h.head) (.inl hb)) (fun k hv => hk.keep k (h.row.lt k hv).2 (.inr (.inr (.inr (.inr (.inr (.inl ((h.reach1 k).2 hv)))))))) (fun q hq k hv => hk.keep k ((h.each q hq).lt hv).2 (.inr (.inr (.inr (.inr (.inr (.inr (h.has2 hq hv))))))))
theorem ResX.it {base : Nat} (hG : ResG W0 x b R B Fb) (h : ResX W0 x b R B Fb pre W ws ns L v) (hk : ItKeeps (mineR x b R Fb) base W W') (hb : B ≤ base) : ResX W0 x b R B Fb pre W' ws ns L v := by
 have hblk : ∀ k, TB x b k → W'.heap[k]? = W.heap[k]? := fun k hT => by
  obtain ⟨cs, hc⟩ := h.shape k hT
  exact hk.keep k (heap_lt hc) (.inr (.inl hT))
 refine ⟨h.run, h.book, h.st.it hk (by have := hG.res.1; omega), h.stat.keep x b 0 hG.ok rfl fun g j hg _ => ?_, h.nums.keep fun p hp => ?_, fun k hT => ?_, ?_⟩
 ·exact cell_block (hblk g hg) ⟨g, j, none⟩ rfl
 ·refine cell_block (hblk p.1 ?_) ⟨p.1, p.2 + 2, none⟩ rfl
  rcases adA_mem x b 0 hG.ok p hp with rfl | hp
  ·exact .inl rfl
  ·exact .inr hp.1
 ·rw [hblk k hT]
  exact h.shape k hT
 ·refine ⟨hk.os.trans h.only.os, hk.tape.trans h.only.tape, hk.output.trans h.only.output, Nat.le_trans h.only.size hk.size, fun k h1 h2 => (hk.keep k (Nat.lt_of_lt_of_le h1 h.only.size) (.inl ?_)).trans (h.only.block k h1 h2)⟩
  have := hG.base
  omega
end
end
section
open Go.RowKit Go.Proofs
theorem lo_tree_parts (x : Lo) : x.tree.op = x.op ∧ x.tree.s = x.s ∧ x.tree.n = x.n ∧ x.tree.line = x.line ∧ x.tree.l = trees x.l := by
 cases x; rw [Lo.tree]; exact ⟨rfl, rfl, rfl, rfl, rfl⟩
theorem findN_bound {funs : List Fn} (hv : ∀ f ∈ funs, f.vars.length ≤ 200) {s : Bs} {v : Int} : ∀ (k : Nat) (a : Int), findN funs k a s = some v → 0 ≤ v ∧ v < 1000 * funs.length
 | 0, a, h => by cases h
 | k + 1, a, h => by
  rw [findN] at h
  split at h
  ·cases h
  ·split at h
   ·cases h
   ·rename_i f hf
    have hlt := (List.getElem?_eq_some_iff.1 hf).1
    have hvl := hv f (List.mem_of_getElem? hf)
    split at h
    ·rename_i i hi
     have hil := (idx_lt hi).1
     cases h
     omega
    ·exact findN_bound hv k _ h
theorem Book.step {pre : List Ev6} {ws ws' : WS} {ns : List Int} {n : Int} {e : Ev6} (h : Book pre ws ns) (hs : stepE ws e.ev = .ok (ws', n)) (hno : e.no = nf pre) (hfn : -1 ≤ e.fn ∧ e.fn < e.no) : Book (pre ++ [e]) ws' (ns ++ [n]) := by
 have hop : e.ev.t.op = e.x.op := (lo_tree_parts e.x).1
 have hlen : (ns ++ [n]).length = (pre ++ [e]).length := by rw [List.length_append, List.length_append, h.len]; rfl
 have hlp : ((pre ++ [e]).length : Int) = pre.length + 1 := by simp
 have hnos : (isFun e.x.op = true → n = e.no) → ∀ (i : Nat) (d : Ev6), (pre ++ [e])[i]? = some d → isFun d.x.op = true → (ns ++ [n])[i]? = some (d.no : Int) := fun hn i d hd hf => by
  by_cases hi : i < pre.length
  ·rw [List.getElem?_append_left hi] at hd
   rw [List.getElem?_append_left (by rw [h.len]; exact hi)]
   exact h.nos i d hd hf
  ·rw [List.getElem?_append_right (by omega)] at hd
   have h1 := (List.getElem?_eq_some_iff.1 hd).1
   simp at h1
   obtain rfl : i = pre.length := by omega
   rw [Nat.sub_self] at hd
   cases hd
   rw [List.getElem?_append_right (by rw [h.len]; exact Nat.le_refl _), h.len, Nat.sub_self, hn hf]
   rfl
 have hsame : isFun e.x.op = false → ws'.funs = ws.funs → (0 ≤ ws'.mark ∧ ws'.mark ≤ ws.mark + 2) → Book (pre ++ [e]) ws' (ns ++ [n]) := fun hf h1 h2 =>
  ⟨hlen, by rw [h1, h.funs, nf_app, nf, nf, hf]; rfl, by rw [h1]; exact h.wf, by rw [h1]; exact h.few, ⟨h2.1, by have := h.mark; omega⟩, hnos fun h3 => by rw [hf] at h3; cases h3⟩
 unfold stepE at hs
 rw [hop] at hs
 by_cases hf : isFun e.x.op = true
 ·rw [if_pos hf] at hs
  simp only at hs
  split at hs
  ·cases hs
  ·rename_i hm
   cases hs
   refine ⟨hlen, ?_, fun i f hi => ?_, ?_, ?_, hnos fun _ => by rw [hno, h.funs]⟩
   ·simp only
    rw [List.length_append, h.funs, nf_app, nf, nf, if_pos hf]
    rfl
   ·simp only at hi
    by_cases hlt : i < ws.funs.length
    ·rw [List.getElem?_append_left hlt] at hi
     exact h.wf i f hi
    ·rw [List.getElem?_append_right (by omega)] at hi
     have h1 := (List.getElem?_eq_some_iff.1 hi).1
     simp at h1
     obtain rfl : i = ws.funs.length := by omega
     rw [Nat.sub_self] at hi
     cases hi
     have h2 := h.funs
     exact ⟨hfn.1, by show e.fn < ws.funs.length; omega⟩
   ·simp only
    rw [List.length_append]
    have := h.few
    simp
    omega
   ·simp only
    have := h.mark
    split <;> omega
 ·rw [if_neg hf] at hs
  have hf' : isFun e.x.op = false := by simpa using hf
  split at hs
  ·cases hs
   exact hsame hf' rfl ⟨by have := h.mark; simp only; omega, by simp only; omega⟩
  ·split at hs
   ·split at hs
    ·cases hs
    ·cases hs
     exact hsame hf' rfl ⟨h.mark.1, by omega⟩
   ·split at hs
    ·cases hs
    ·cases hs
     exact hsame hf' rfl ⟨h.mark.1, by omega⟩
theorem step_num {pre : List Ev6} {ws ws' : WS} {ns : List Int} {n : Int} {e : Ev6} (h : Book pre ws ns) (hs : stepE ws e.ev = .ok (ws', n)) (hv : ∀ f ∈ ws.funs, f.vars.length ≤ 200) (hn : I64' e.x.n) (hp : pre.length ≤ 1000000) : I64' n := by
 have hfew := h.few
 have hmark := h.mark
 unfold I64' at hn ⊢
 unfold stepE at hs
 split at hs
 ·simp only at hs
  split at hs
  ·cases hs
  ·cases hs
   omega
 ·split at hs
  ·cases hs
   omega
  ·split at hs
   ·split at hs
    ·cases hs
    ·rename_i v9 hv9
     cases hs
     have := findN_bound hv _ _ hv9
     omega
   ·split at hs
    ·cases hs
    ·cases hs
     rw [show e.ev.t.n = e.x.n from (lo_tree_parts e.x).2.2.1]
     exact hn
end
section
open Go.RowKit Go.Proofs
mutual
theorem evA_n : ∀ (x : Lo) (b o : Nat) (a : Int) (loop : Bool) (k : Nat), (evA x b o a loop k).map (fun e => e.x.n) = numsO x
 | .mk op s n i v l, b, o, a, loop, k => by
  rw [evA, List.map_cons, numsO]
  by_cases hf : isFun op = true
  ·rw [if_pos hf, evAL_n l]
   rfl
  ·rw [if_neg hf, evAL_n l]
   rfl
theorem evAL_n : ∀ (l : List Lo) (b o : Nat) (a : Int) (loop : Bool) (k : Nat), (evAL l b o a loop k).map (fun e => e.x.n) = numsOL l
 | [], b, o, a, loop, k => by rw [evAL, numsOL]; rfl
 | x :: r, b, o, a, loop, k => by rw [evAL, numsOL, List.map_append, evA_n x, evAL_n r]
end
section
variable {W0 W w1 W' : World} {x : Lo} {b R B Fb : Nat} {pre : List Ev6} {ws ws' : WS} {ns : List Int} {n : Int} {L : List (Fn × Value × Nat)} {v : Value} {e : Ev6}
theorem pre_rest (hpre : pre ++ [e] <+: evA x b 0 (-1) false 0) : ∃ rest, evA x b 0 (-1) false 0 = pre ++ e :: rest := by
 obtain ⟨r, hr⟩ := hpre
 exact ⟨r, by rw [← hr]; simp⟩
theorem ResX.sub (h : ResX W0 x b R B Fb pre W ws ns L v) (hpre : pre ++ [e] <+: evA x b 0 (-1) false 0) : NumsAt W (adA e.x e.b e.o) (numsO e.x) := by
 obtain ⟨rest, hr⟩ := pre_rest hpre
 obtain ⟨r, hs⟩ := (evA_ok x b 0 (-1) false 0 pre e rest hr).sub
 rw [hs] at hr
 have h1 := h.nums
 rw [← evA_ad x b 0 (-1) false 0, ← evA_n x b 0 (-1) false 0, hr, List.map_append, List.map_append, List.map_append, List.map_append, evA_ad, evA_n, h.book.len] at h1
 have h2 : (pre.map (fun e => e.x.n) ++ (numsO e.x ++ r.map (fun e => e.x.n))).drop pre.length = numsO e.x ++ r.map (fun e => e.x.n) := by
  rw [List.drop_append_of_le_length (by simp), List.drop_eq_nil_of_le (by simp), List.nil_append]
 rw [h2] at h1
 exact (h1.right (by simp [h.book.len])).left (by rw [adA_len, numsO_len])
theorem ResX.at_ (h : ResX W0 x b R B Fb pre W ws ns L v) (hpre : pre ++ [e] <+: evA x b 0 (-1) false 0) : (adA x b 0)[pre.length]? = some (e.b, e.o) ∧ W.cell? ⟨e.b, e.o + 2, none⟩ = some (.int .i64 e.x.n) ∧ I64' e.x.n := by
 have h1 := h.sub hpre
 have h2 := h1.2 0 (e.b, e.o) e.x.n (by rw [adA_eq]; rfl) (by rw [numsO_eq]; rfl)
 obtain ⟨rest, hr⟩ := pre_rest hpre
 refine ⟨?_, h2.1, h2.2⟩
 rw [← evA_ad x b 0 (-1) false 0, hr, List.map_append, List.getElem?_append_right (by simp)]
 simp
 rfl
theorem ResX.tb (hG : ResG W0 x b R B Fb) (hpre : pre ++ [e] <+: evA x b 0 (-1) false 0) : TB x b e.b ∧ e.o % 5 = 0 := by
 obtain ⟨rest, hr⟩ := pre_rest hpre
 rcases (evA_ok x b 0 (-1) false 0 pre e rest hr).at_ hG.ok with h | h
 ·injection h with h1 h2
  exact ⟨.inl h1, by rw [h2]⟩
 ·exact ⟨.inr h.1, h.2⟩
theorem ResX.cells (hG : ResG W0 x b R B Fb) (h : ResX W0 x b R B Fb pre W ws ns L v) (hpre : pre ++ [e] <+: evA x b 0 (-1) false 0) (hm : MeetOk W w1 R B e.b e.o ws ws' L v n) (ho : Only (fun i => i = Fb) w1 W') :
  (∀ g j, TB x b g → (g, j) ≠ (e.b, e.o + 2) → W'.cell? ⟨g, j, none⟩ = W.cell? ⟨g, j, none⟩) ∧ W'.cell? ⟨e.b, e.o + 2, none⟩ = some (.int .i64 n) ∧ ∀ k, TB x b k → ∃ cs, W'.heap[k]? = some (.cells cs 24 (0, 0)) := by
 obtain ⟨more, v', k1, k2, k3, k4, k5⟩ := hm
 have htb := ResX.tb hG hpre
 obtain ⟨cs, hc⟩ := h.shape e.b htb.1
 have hw1 := k3 cs _ hc
 have hW' : W'.heap[e.b]? = _ := (ho.block e.b (heap_lt hw1) (fun h9 => hG.box.2.1 (h9 ▸ htb.1))).trans hw1
 have hother : ∀ g, TB x b g → g ≠ e.b → W'.heap[g]? = W.heap[g]? := fun g hg hne => by
  obtain ⟨cs', hc'⟩ := h.shape g hg
  have hgl := heap_lt hc'
  have e1 := k2.block g hgl (by
   rintro (h9 | h9 | h9)
   ·exact hG.res.2 (h9 ▸ hg)
   ·exact hne h9
   ·have := (h.st.row.lt g h9).1
    have := hG.low g hg
    omega)
  exact (ho.block g (by have := k2.size; omega) (fun h9 => hG.box.2.1 (h9 ▸ hg))).trans e1
 have hat := (h.at_ hpre).2.1
 have hcs := cell_of_row W e.b (e.o + 2) _ _ _ hc
 rw [hat] at hcs
 have hlt := (Array.getElem?_eq_some_iff.1 hcs.symm).1
 refine ⟨fun g j hg hne => ?_, ?_, fun k hk => ?_⟩
 ·by_cases he : g = e.b
  ·subst he
   rw [cell_of_row W' e.b j _ _ _ hW', cell_of_row W e.b j _ _ _ hc]
   exact Array.getElem?_setIfInBounds_ne (fun h9 => hne (by rw [← h9]))
  ·exact cell_block (hother g hg he) ⟨g, j, none⟩ rfl
 ·rw [cell_of_row W' e.b (e.o + 2) _ _ _ hW']
  exact Array.getElem?_setIfInBounds_self_of_lt hlt
 ·by_cases he : k = e.b
  ·subst he
   exact ⟨_, hW'⟩
  ·obtain ⟨cs', hc'⟩ := h.shape k hk
   exact ⟨cs', (hother k hk he).trans hc'⟩
theorem ResX.step (hG : ResG W0 x b R B Fb) (h : ResX W0 x b R B Fb pre W ws ns L v) (hpre : pre ++ [e] <+: evA x b 0 (-1) false 0) (hz : x.size ≤ 50000) (hs : stepE ws e.ev = .ok (ws', n)) (hm : MeetOk W w1 R B e.b e.o ws ws' L v n)
  {cs : Array Value} (hF : W.heap[Fb]? = some (.cells cs 76 (0, 0))) (ho : Only (fun i => i = Fb) w1 W') :
  (∃ L' v', ResX W0 x b R B Fb (pre ++ [e]) W' ws' (ns ++ [n]) L' v') ∧ RdKeeps (mineR x b R Fb) W W' ∧ w1.heap[Fb]? = W.heap[Fb]? := by
 obtain ⟨hc1, hc2, hc3⟩ := ResX.cells hG h hpre hm ho
 obtain ⟨rest, hr⟩ := pre_rest hpre
 have hev := evA_ok x b 0 (-1) false 0 pre e rest hr
 obtain ⟨hat, hcn, hI⟩ := h.at_ hpre
 have htb := ResX.tb hG hpre
 have hpl : pre.length ≤ 50000 := by
  have := congrArg List.length hr
  rw [evA_len] at this
  simp at this
  omega
 have hvars : ∀ f ∈ ws.funs, f.vars.length ≤ 200 := fun f hf => by
  rw [← h.st.funs] at hf
  obtain ⟨q, hq, rfl⟩ := List.mem_map.1 hf
  exact (h.st.each q hq).fine.1
 have hno : e.no = nf pre := by rw [hev.no, Nat.zero_add]
 have hbook := h.book.step hs hno (hev.fn (by omega) (by omega))
 have hnI := step_num h.book hs hvars hI (by omega)
 have hm' := hm
 obtain ⟨more, v', k1, k2, k3, k4, k5⟩ := hm'
 have hvB : ∀ k, v.ownBlock = some k → W0.heap.size ≤ k ∧ k < W.heap.size := fun k hk => by
  have := h.st.row.lt k hk
  have := hG.base
  omega
 have hFl := heap_lt hF
 have hF1 : w1.heap[Fb]? = W.heap[Fb]? := k2.block Fb hFl (by
  rintro (h9 | h9 | h9)
  ·exact hG.box.2.2 h9
  ·exact hG.box.2.1 (h9 ▸ htb.1)
  ·have := (h.st.row.lt Fb h9).1
   have := hG.box.1
   omega)
 have hst' := k1.box (hF1.trans hF) ho
 refine ⟨⟨L ++ more, v', ⟨?_, hbook, hst', ?_, ?_, hc3, ?_⟩⟩, ?_, hF1⟩
 ·rw [List.map_append, List.map_cons, List.map_nil, runE_snoc, h.run]
  simp only
  rw [hs]
 ·exact h.stat.keep x b 0 hG.ok rfl fun g j hg hj => hc1 g j hg fun h9 => by
   injection h9 with h10 h11
   unfold NotNum at hj
   have := htb.2
   omega
 ·have hlen : (ns ++ [n]).length = pre.length + 1 := by rw [List.length_append, h.book.len]; rfl
  rw [hlen]
  refine ⟨?_, fun i p m hp hk => ?_⟩
  ·rw [adA_len, List.length_append, hlen, List.length_drop, numsO_len]
   have := congrArg List.length hr
   rw [evA_len] at this
   simp at this
   omega
  ·have hnd := adA_nodup x b 0 hG.ok hG.nodup hG.root
   by_cases hi : i = pre.length
   ·subst hi
    rw [hat] at hp
    cases hp
    rw [List.append_assoc, List.getElem?_append_right (by rw [h.book.len]; exact Nat.le_refl _), h.book.len, Nat.sub_self] at hk
    simp at hk
    subst hk
    exact ⟨hc2, hnI⟩
   ·have hne : p ≠ (e.b, e.o) := fun h9 => by
     have h10 := (List.getElem?_eq_some_iff.1 hp)
     have h11 := (List.getElem?_eq_some_iff.1 hat)
     obtain ⟨l1, e1⟩ := h10
     obtain ⟨l2, e2⟩ := h11
     exact hi ((List.getElem_inj hnd).1 (by rw [e1, e2, h9]))
    have hcur : (ns ++ (numsO x).drop ns.length)[i]? = some m := by
     by_cases hlt : i < pre.length
     ·rw [List.append_assoc, List.getElem?_append_left (by rw [h.book.len]; exact hlt)] at hk
      rw [List.getElem?_append_left (by rw [h.book.len]; exact hlt)]
      exact hk
     ·rw [List.getElem?_append_right (by omega), hlen, List.getElem?_drop] at hk
      rw [List.getElem?_append_right (by rw [h.book.len]; omega), h.book.len, List.getElem?_drop]
      rw [show pre.length + (i - pre.length) = pre.length + 1 + (i - (pre.length + 1)) by omega]
      exact hk
    have h12 := h.nums.2 i p m hp hcur
    refine ⟨(hc1 p.1 (p.2 + 2) ?_ fun h9 => hne ?_).trans h12.1, h12.2⟩
    ·rcases adA_mem x b 0 hG.ok p (List.mem_of_getElem? hp) with rfl | h13
     ·exact .inl rfl
     ·exact .inr h13.1
    ·injection h9 with h13 h14
     exact Prod.ext h13 (by simp only; omega)
 ·refine ((h.only.trans (k2.mono fun k hk h9 => ?_)).trans (ho.mono fun k hk h9 => .inl (.inr (.inr h9))))
  rcases h9 with h9 | h9 | h9
  ·exact .inl (.inr (.inl h9))
  ·exact .inl (.inl (h9 ▸ htb.1))
  ·exact .inr (hvB k h9)
 ·refine ⟨ho.os.trans k2.os, ho.tape.trans k2.tape, ho.output.trans k2.output, Nat.le_trans k2.size ho.size, fun k hk hn => ?_, fun k hk => ?_⟩
  ·refine (ho.block k (by have := k2.size; omega) fun h9 => hn (.inr (.inr (.inl h9)))).trans (k2.block k hk ?_)
   rintro (h9 | h9 | h9)
   ·exact hn (.inr (.inl h9))
   ·exact hn (.inl (h9 ▸ htb.1))
   ·exact hn (.inr (.inr (.inr (.inr (.inl ((h.st.reach1 k).2 h9))))))
  ·rcases hk with hk | hk | hk | hk | hk | hk
   ·exact .inl (.inl hk)
   ·exact .inl (.inr (.inl hk))
   ·exact .inl (.inr (.inr (.inl hk)))
   ·exact absurd hst'.j0 hk
   ·rcases k4 k ((hst'.reach1 k).1 hk) with h9 | h9
    ·exact .inl (.inr (.inr (.inr (.inr (.inl ((h.st.reach1 k).2 h9))))))
    ·exact .inr h9
   ·obtain ⟨q, hq, h9⟩ := hst'.reach2 k hk
    rcases List.mem_append.1 hq with hq | hq
    ·exact .inl (.inr (.inr (.inr (.inr (.inr (h.st.has2 hq h9))))))
    ·exact .inr (k5 q hq k h9)
end
end
section
open Go.RowKit Go.Proofs
theorem meet_at {W0 W : World} {x : Lo} {b R B Fb : Nat} {pre : List Ev6} {ws : WS} {ns : List Int} {L : List (Fn × Value × Nat)} {v : Value} {e : Ev6} (hG : ResG W0 x b R B Fb) (h : ResX W0 x b R B Fb pre W ws ns L v) (hpre : pre ++ [e] <+: evA x b 0 (-1) false 0) (hz : x.size ≤ 50000)
  (hfun : ∀ e ∈ evA x b 0 (-1) false 0, isFun e.x.op = true → 0 < e.x.l.length) :
  Calls Tryz.prog 57 #[.pointer (some ⟨R, 0, none⟩), .pointer (some ⟨e.b, e.o, none⟩), placeV e.fn e.loop] W (MeetQ W R B e.b e.o ws L v e.ev) := by
 obtain ⟨rest, hr⟩ := pre_rest hpre
 have hev := evA_ok x b 0 (-1) false 0 pre e rest hr
 have htb := ResX.tb hG hpre
 have hst := (Stat_eq _ _ _ _).1 (hev.stat W h.stat)
 have hat := h.at_ hpre
 obtain ⟨cs, hc⟩ := h.shape e.b htb.1
 have hsz : e.x.size ≤ 50000 := by
  obtain ⟨r, hs⟩ := hev.sub
  rw [hs] at hr
  have := congrArg List.length hr
  rw [evA_len, List.length_append, List.length_append, evA_len] at this
  omega
 have hpl : pre.length ≤ 50000 := by
  have := congrArg List.length hr
  rw [evA_len] at this
  simp at this
  omega
 have hLo := (lo_of (S := fun g => g ∈ x.blks) e.x e.b e.o (numsO e.x) (hev.stat W h.stat) (h.sub hpre) (fun g hg => hev.blks g hg)).1
 have hself := numO_self e.x []
 rw [List.append_nil] at hself
 rw [hself] at hLo
 have hp := lo_tree_parts e.x
 have hll : e.x.tree.l.length = e.x.l.length := by rw [hp.2.2.2.2, trees_map, List.length_map]
 obtain ⟨A, hv⟩ : ∃ A, e.x.v = .slice A e.x.l.length e.x.l.length := by
  rcases hst.2.2.1 with ⟨e1, e2⟩ | ⟨g, e1⟩
  ·exact ⟨none, by rw [e1]; exact e2⟩
  ·exact ⟨_, e1⟩
 have hmem : e ∈ evA x b 0 (-1) false 0 := by rw [hr]; simp
 have hfn := hev.fn (by omega) (by omega)
 have hno : e.no = nf pre := by rw [hev.no, Nat.zero_add]
 refine meet_any W R B e.b e.o ws L v e.x.tree (fun g => g ∈ x.blks) A e.x.l.length e.fn e.loop e.no h.st ?_ h.book.wf h.book.few ?_ (fun h9 => hG.res.2 (h9 ▸ htb.1)) (hG.low _ htb.1) ?_ ?_ (fun k hk => ?_) ?_ ?_ ?_ ?_ ?_ ?_ ?_ ⟨_, _, hc⟩
 ·rw [hG.base]; exact h.only.size
 ·have := h.book.mark; omega
 ·rw [h.book.funs, ← hno]; exact hfn
 ·rw [hll]
  refine ⟨e.x, rfl, ?_, hLo⟩
  unfold Lo.val
  rw [hp.1, hp.2.1, hp.2.2.1, hp.2.2.2.1, hv]
 ·obtain ⟨cs', hc'⟩ := h.shape k (.inr hk)
  exact heap_lt hc'
 ·rw [lo_size_tree]; exact hsz
 ·rw [hp.1, hll]; exact hfun e hmem
 ·rw [hp.1]; exact hst.2.1.1
 ·rw [hp.2.1]; exact hst.2.1.2.1
 ·rw [hp.2.2.1]; exact hat.2.1
 ·rw [hll, ← hv]; exact hst.2.1.2.2.1
 ·rw [hp.2.2.2.1]; exact hst.2.1.2.2.2
end
end Go.Proofs.YtikbfoichhkeaaaGreat
