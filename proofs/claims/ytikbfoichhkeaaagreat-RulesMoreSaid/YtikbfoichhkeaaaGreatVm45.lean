/- The document's tokens: text. The document's tokens: a text. The document's tokens: how far each goes. No program but one's contract. -/
import Derived.Test.YtikbfoichhkeaaaGreatVm43
import Derived.Test.YtikbfoichhkeaaaGreatVm44
set_option linter.unusedSimpArgs false
set_option linter.unusedVariables false
set_option maxRecDepth 100000
set_option maxHeartbeats 40000000
namespace Go.Proofs.YtikbfoichhkeaaaGreat
section
open Go.RowKit Go.Proofs
def txtA (o : Option (Bs × Nat)) : Bs × Int := match o with
 | some (t, n) => (t, n)
 | none => ([], 0)
theorem byteRow_any {W : World} {B : Nat} {v : Value} {l : Bs} (h : W.ownsRow B 5 1 v l.length (Lib.byteCells l)) : (convert 174 9 v).run Tryz.prog W = .ok (.string (bs l)) W := by
 rcases h.2 with ⟨rfl, h0⟩ | ⟨g, cap, cur, rfl, _, _, _, _, _, _⟩
 ·obtain rfl : l = [] := List.eq_nil_of_length_eq_zero h0
  rw [run_convert_bytes_string W 174 9 5 none 0 0 Tryz.underlying174 Tryz.underlying5 Tryz.underlying9]
  rfl
 ·exact run_convert_bytes_back W 174 9 5 ⟨g, 0, none⟩ cap l Tryz.underlying174 Tryz.underlying5 Tryz.underlying9 (fun j hj => h.cells (g := g) rfl j _ (by simp [Lib.byteCells, hj]))
theorem byte_info : (Tryz.prog.info? 5).map (fun i => (i.zero, i.size, i.bytes)) = some (some (.int .u8 0), 1, 1) := by kernel_rfl
theorem ownsRow_alb {b n : Nat} {w : World} {T : TypeId} {v : Value} {xs : List Value} (h : w.ownsRow b T 1 v n xs) (o : Obj) : (w.alloc o).ownsRow b T 1 v n xs := by
 obtain ⟨h1, h2⟩ := h
 exact ⟨h1, h2.imp id fun ⟨g, cap, cur, q1, q2, q3, q4⟩ => ⟨g, cap, cur, q1, q2, (Below.heap_alloc w o g (heap_lt q3)).trans q3, q4⟩⟩
theorem byte_push {b Z : Nat} {w : World} {out : Bs} {v : Value} {c : UInt8} (h : w.ownsRow b 5 1 v out.length (Lib.byteCells out)) (hZ : w.heap[Z]? = some (.cells #[.int .u8 c.toNat] 5 (0, 0))) (hn : out.length ≤ 200000) (hb : b ≤ w.heap.size) (ty : TypeId) :
  ∃ v' w', (Builtin.append_ #[174, 174] ty #[v, .slice (some ⟨Z, 0, none⟩) 1 1]).run Tryz.prog w = .ok v' w' ∧ (w'.ownsRow b 5 1 v' (out ++ [c]).length (Lib.byteCells (out ++ [c])) ∧ Below b w w') := by
 obtain ⟨i0, j0, j1, j2, j3⟩ := info_parts byte_info
 obtain ⟨v', w', r1, r2, r3, -, r5⟩ := run_append_own_at (P := Tryz.prog) w b 174 ty 5 i0 _ 1 1 Tryz.underlying174 j0 j1 j2 j3 rfl (by decide) v out.length _ h ⟨Z, 0, none⟩ 1 1 [.int .u8 c.toNat] rfl (fun j u hj => by
  rw [add_mid, cell_of_row _ _ _ _ _ _ hZ]
  simpa using hj) (by simp [Value.oneCell']) (by unfold maxLen; omega) (by omega) hb
 have hlen : (out ++ [c]).length = out.length + 1 := by simp
 refine ⟨v', w', r1, ?_, ⟨r3.os, r3.tape, r3.output, r3.size, fun k hk => r3.block k (by omega) (fun e => ?_)⟩⟩
 ·rw [hlen]
  have : Lib.byteCells (out ++ [c]) = Lib.byteCells out ++ [.int .u8 c.toNat] := by simp [Lib.byteCells]
  rw [this]
  exact r2
 ·have := (own_lt h e.symm).1
  omega
section
variable {q c : UInt8} {r o : Bs} {f i n : Nat} {b : UInt8}
theorem textM_nil : textM q (f + 1) [] o i = none := by rw [textM]
theorem textM_end : textM q (f + 1) (q :: r) o i = some (o, i + 1) := by rw [textM, if_pos rfl]
theorem textM_bad (h : c ≠ q) (h2 : c.toNat < 32 ∨ 126 < c.toNat) : textM q (f + 1) (c :: r) o i = none := by rw [textM, if_neg h, if_pos h2]
theorem textM_plain (h : c ≠ q) (h2 : ¬ (c.toNat < 32 ∨ 126 < c.toNat)) (h3 : c ≠ 92) : textM q (f + 1) (c :: r) o i = textM q f r (o ++ [c]) (i + 1) := by rw [textM, if_neg h, if_neg h2, if_pos h3]
theorem textM_no (h : (92 : UInt8) ≠ q) (h3 : (escapeM (92 :: r)).2 = 0) : textM q (f + 1) (92 :: r) o i = none := by
 rw [textM, if_neg h, if_neg (by decide), if_neg (by decide)]
 split
 ·rfl
 ·rename_i b n e
  rw [e] at h3
  cases h3
theorem textM_esc (h : (92 : UInt8) ≠ q) (h3 : escapeM (92 :: r) = (b, n + 1)) : textM q (f + 1) (92 :: r) o i = textM q f (r.drop n) (o ++ [b]) (i + (n + 1)) := by
 rw [textM, if_neg h, if_neg (by decide), if_neg (by decide), h3]
end
theorem text_any (s : ByteArray) (w : World) (h0 : 0 < s.size) (hs : s.size ≤ 100000) :
  Calls Tryz.prog 121 #[.string s] w fun e w' => e = .returned (.tuple #[.string (bs (txtA (textM s[0] (s.size + 1) (s.data.toList.drop 1) [] 1)).1), .int .i64 (txtA (textM s[0] (s.size + 1) (s.data.toList.drop 1) [] 1)).2]) ∧ Below w.heap.size w w' := by
 obtain ⟨R, hR⟩ : ∃ R, textM s[0] (s.size + 1) (s.data.toList.drop 1) [] 1 = R := ⟨_, rfl⟩
 have HR0 := Lib.hid hR
 rw [hR]
 have g0 : (0 : Int) < s.size := by omega
 clear hR
 go_enter Tryz.func121, Tryz.ntmps121
 go_wp2
 go_loopw [4, 5] (fun vo vi wr => ∃ (p : Nat) (o : Bs) (f : Nat), vi = .int .i64 p ∧ 1 ≤ p ∧ p ≤ s.size ∧ RowKit.Hid (textM s[0] f (s.data.toList.drop p) o p = R ∧ s.size - p < f ∧ wr.ownsRow w.heap.size 5 1 vo o.length (Lib.byteCells o) ∧ Below w.heap.size w wr ∧ o.length ≤ p)) (fun _ vi _ => s.size - (intOf vi).toNat)
 case atStart => exact ⟨1, [], s.size + 1, rfl, Nat.le_refl _, by omega, Lib.hid ⟨HR0.out, by omega, World.ownsRow_nil _ _ _ _, Below.refl _ _, by simp⟩⟩
 case round =>
  obtain ⟨p, o, f, rfl, hp1, hp, HH⟩ := hrel
  obtain ⟨W0, hW0⟩ : ∃ x, x = wr := ⟨_, rfl⟩
  subst hW0
  obtain ⟨A0, c0, rfl, hoc, hcm⟩ := row_slice (row_zero HH.out.2.2.1)
  cases f with
  | zero => exact absurd HH.out.2.1 (by omega)
  | succ f =>
  by_cases hlt : p < s.size
  ·have hlt' : (p : Int) < s.size := by omega
   have hdr := drop_toList s p hlt
   by_cases hc : s[p].toNat = s[0].toNat
   ·have hc' : ((s[p].toNat : Int) != (s[0].toNat : Int)) = false := by rw [hc]; simp
    have hcq : s[p] = s[0] := UInt8.toNat_inj.1 hc
    have HF := Lib.hid (show R = some (o, p + 1) by rw [← HH.out.1, hdr, hcq, textM_end])
    clear hdr hc hcq
    go_wp2_with fail
    go_quiet (fail)
    obtain ⟨W1, e1⟩ : ∃ W, W0.drewN nq = W := ⟨_, rfl⟩
    rw [e1]
    have HQ := Lib.hid (show W1.ownsRow w.heap.size 5 1 (.slice A0 o.length c0) o.length (Lib.byteCells o) ∧ Below w.heap.size w W1 from by rw [← e1]; exact ⟨HH.out.2.2.1, below_drewN HH.out.2.2.2.1 nq⟩)
    clear e1
    have hcv := byteRow_any HQ.out.1
    have hwi : IntKind.i64.wrap ((p : Int) + 1) = (p : Int) + 1 := IntWalk.i64_in _ (by omega)
    have hge : ¬ (s.size : Int) ≤ (p : Int) := by omega
    go_wp2
    exact bodyPost_ret (results_tmp2 rfl _ _ _) rfl ⟨by rw [HF.out]; rfl, HQ.out.2⟩
   ·have hc' : ((s[p].toNat : Int) != (s[0].toNat : Int)) = true := by rw [bne_iff_ne]; omega
    have hcq : s[p] ≠ s[0] := fun e => hc (by rw [e])
    by_cases hlo : s[p].toNat < 32
    ·have hlo' : (s[p].toNat : Int) < 32 := by omega
     have HF := Lib.hid (show R = none by rw [← HH.out.1, hdr, textM_bad hcq (.inl hlo)])
     clear hdr hc hcq
     go_wp2_with fail
     go_quiet (fail)
     obtain ⟨W1, e1⟩ : ∃ W, W0.drewN nq = W := ⟨_, rfl⟩
     rw [e1]
     have HQ := Lib.hid (show W1.ownsRow w.heap.size 5 1 (.slice A0 o.length c0) o.length (Lib.byteCells o) ∧ Below w.heap.size w W1 from by rw [← e1]; exact ⟨HH.out.2.2.1, below_drewN HH.out.2.2.2.1 nq⟩)
     clear e1
     go_wp2
     exact bodyPost_ret (results_tmp2 rfl _ _ _) rfl ⟨by rw [HF.out]; rfl, HQ.out.2⟩
    have hlo' : ¬ (s[p].toNat : Int) < 32 := by omega
    by_cases hhi : 126 < s[p].toNat
    ·have hhi' : (126 : Int) < s[p].toNat := by omega
     have HF := Lib.hid (show R = none by rw [← HH.out.1, hdr, textM_bad hcq (.inr hhi)])
     clear hdr hc hcq
     go_wp2_with fail
     go_quiet (fail)
     obtain ⟨W1, e1⟩ : ∃ W, W0.drewN nq = W := ⟨_, rfl⟩
     rw [e1]
     have HQ := Lib.hid (show W1.ownsRow w.heap.size 5 1 (.slice A0 o.length c0) o.length (Lib.byteCells o) ∧ Below w.heap.size w W1 from by rw [← e1]; exact ⟨HH.out.2.2.1, below_drewN HH.out.2.2.2.1 nq⟩)
     clear e1
     go_wp2
     exact bodyPost_ret (results_tmp2 rfl _ _ _) rfl ⟨by rw [HF.out]; rfl, HQ.out.2⟩
    have hhi' : ¬ (126 : Int) < s[p].toNat := by omega
    have hno : ¬ (s[p].toNat < 32 ∨ 126 < s[p].toNat) := fun h => h.elim hlo hhi
    have hwi : IntKind.i64.wrap ((p : Int) + 1) = (p : Int) + 1 := IntWalk.i64_in _ (by omega)
    by_cases h92 : s[p].toNat = 92
    ·have h92' : (s[p].toNat : Int) = 92 := by omega
     have e92 : s[p] = 92 := u8_lit (by decide) h92
     have hx : (s.extract p s.size).data.toList = 92 :: s.data.toList.drop (p + 1) := by rw [← Lib.toList_data, Lib.extract_toList, List.take_of_length_le (by rw [List.length_drop, len_toList]; omega), hdr, e92]
     have hxs : (s.extract p s.size).size ≤ 100000 := by
      rw [← len_toList, hx, List.length_cons, List.length_drop, len_toList]
      omega
     have HE := fun W => escape_any (s.extract p s.size) W hxs
     rw [hx] at HE
     have hel := esc_len (92 :: s.data.toList.drop (p + 1))
     have hlen : (92 :: s.data.toList.drop (p + 1)).length = s.size - p := by rw [List.length_cons, List.length_drop, len_toList]; omega
     rw [hlen] at hel
     obtain ⟨⟨eb, en⟩, he⟩ : ∃ x, escapeM (92 :: s.data.toList.drop (p + 1)) = x := ⟨_, rfl⟩
     rw [he] at HE hel
     dsimp only at HE hel
     have HE := Lib.hid HE
     have hle' : (p : Int) ≤ s.size := by omega
     have hqe : (92 : UInt8) ≠ s[0] := by rw [← e92]; exact hcq
     cases en with
     | zero =>
      have HF := Lib.hid (show R = none by rw [← HH.out.1, hdr, e92, textM_no hqe (by rw [he])])
      clear hdr hc hcq he hx hxs hlen e92 hno hqe h92
      go_wp2_with fail
      go_quiet (fail)
      obtain ⟨W1, e1⟩ : ∃ W, W0.drewN nq = W := ⟨_, rfl⟩
      rw [e1]
      have HQ := Lib.hid (show W1.ownsRow w.heap.size 5 1 (.slice A0 o.length c0) o.length (Lib.byteCells o) ∧ Below w.heap.size w W1 from by rw [← e1]; exact ⟨HH.out.2.2.1, below_drewN HH.out.2.2.2.1 nq⟩)
      clear e1
      have HE2 := Lib.hid (HE.out W1)
      go_wp2_with fail
      go_at_call 137
      refine (HE2.out).mono ?_
      rintro e w2 ⟨rfl, k2, rfl⟩
      have HQ2 := Lib.hid (below_drewN HQ.out.2 k2)
      go_wp2
      exact bodyPost_ret (results_tmp2 rfl _ _ _) rfl ⟨by rw [HF.out]; rfl, HQ2.out⟩
     | succ n =>
      have HF := Lib.hid (show textM s[0] f (s.data.toList.drop (p + (n + 1))) (o ++ [eb]) (p + (n + 1)) = R by
       rw [← HH.out.1, hdr, e92, textM_esc hqe he, List.drop_drop]
       congr 2
       omega)
      have hne : (((n + 1 : Nat) : Int) == 0) = false := by rw [beq_eq_false_iff_ne]; omega
      have hwn : IntKind.i64.wrap ((p : Int) + ((n + 1 : Nat) : Int)) = (p : Int) + ((n + 1 : Nat) : Int) := IntWalk.i64_in _ (by omega)
      obtain ⟨N, hN⟩ : ∃ N, n + 1 = N := ⟨_, rfl⟩
      have hN1 : 1 ≤ N := by omega
      rw [hN] at HF hne hwn HE hel
      clear hdr hc hcq he hx hxs hlen e92 hno hqe h92 hN
      go_wp2_with fail
      go_quiet (fail)
      obtain ⟨W1, e1⟩ : ∃ W, W0.drewN nq = W := ⟨_, rfl⟩
      rw [e1]
      have HQ := Lib.hid (show W1.ownsRow w.heap.size 5 1 (.slice A0 o.length c0) o.length (Lib.byteCells o) ∧ Below w.heap.size w W1 from by rw [← e1]; exact ⟨HH.out.2.2.1, below_drewN HH.out.2.2.2.1 nq⟩)
      clear e1
      have HE2 := Lib.hid (HE.out W1)
      go_wp2_with fail
      go_at_call 137
      refine (HE2.out).mono ?_
      rintro e w2 ⟨rfl, k2, rfl⟩
      obtain ⟨W2, e2⟩ : ∃ W, W1.drewN k2 = W := ⟨_, rfl⟩
      rw [e2]
      have HQ2 := Lib.hid (show W2.ownsRow w.heap.size 5 1 (.slice A0 o.length c0) o.length (Lib.byteCells o) ∧ Below w.heap.size w W2 from by rw [← e2]; exact ⟨HQ.out.1, below_drewN HQ.out.2 k2⟩)
      clear e2
      have HP := Lib.hid (byte_push (c := eb) (Z := W2.heap.size) (ownsRow_alb HQ2.out.1 (.cells #[.int .u8 eb.toNat] 5)) (heap_alloc_new _ _) (by have := HH.out.2.2.2.2; omega) (by have := HQ2.out.2.size; simp; omega) 174)
      have HA := Lib.hid (HQ2.out.2.alloc HQ2.out.2.size (.cells #[.int .u8 eb.toNat] 5))
      go_wp2_with (at_builtin; refine wl_app rfl _ _ 174 rfl _ (.slice (some ⟨W2.heap.size, 0, none⟩) 1 1) rfl rfl _ HP.out ?_; rintro u w6 ⟨hrow, hbl6⟩; have H6 := Lib.hid (And.intro hrow hbl6); clear hrow hbl6)
      go_roundw
      case rel => exact ⟨p + N, o ++ [eb], f, by go_num, by omega, by omega, Lib.hid ⟨by exact HF.out, by have := HH.out.2.1; omega, H6.out.1, HA.out.trans H6.out.2, by have := HH.out.2.2.2.2; simp; omega⟩⟩
      case measure => simp [intOf]; omega
    ·have h92' : ((s[p].toNat : Int) != 92) = true := by rw [bne_iff_ne]; omega
     have e92 : s[p] ≠ 92 := ne_lit (k := 92) (by decide) h92
     have HF := Lib.hid (show textM s[0] f (s.data.toList.drop (p + 1)) (o ++ [s[p]]) (p + 1) = R by rw [← HH.out.1, hdr, textM_plain hcq hno e92])
     clear hdr hc hcq e92 hno h92
     go_wp2_with fail
     go_quiet (fail)
     obtain ⟨W1, e1⟩ : ∃ W, W0.drewN nq = W := ⟨_, rfl⟩
     rw [e1]
     have HQ := Lib.hid (show W1.ownsRow w.heap.size 5 1 (.slice A0 o.length c0) o.length (Lib.byteCells o) ∧ Below w.heap.size w W1 from by rw [← e1]; exact ⟨HH.out.2.2.1, below_drewN HH.out.2.2.2.1 nq⟩)
     clear e1
     have HP := Lib.hid (byte_push (c := s[p]) (Z := W1.heap.size) (ownsRow_alb HQ.out.1 (.cells #[.int .u8 s[p].toNat] 5)) (heap_alloc_new _ _) (by have := HH.out.2.2.2.2; omega) (by have := HQ.out.2.size; simp; omega) 174)
     have HA := Lib.hid (HQ.out.2.alloc HQ.out.2.size (.cells #[.int .u8 s[p].toNat] 5))
     go_wp2_with (at_builtin; refine wl_app rfl _ _ 174 rfl _ (.slice (some ⟨W1.heap.size, 0, none⟩) 1 1) rfl rfl _ HP.out ?_; rintro u w6 ⟨hrow, hbl6⟩; have H6 := Lib.hid (And.intro hrow hbl6); clear hrow hbl6)
     go_roundw
     case rel => exact ⟨p + 1, o ++ [s[p]], f, by go_num, by omega, by omega, Lib.hid ⟨by exact HF.out, by have := HH.out.2.1; omega, H6.out.1, HA.out.trans H6.out.2, by have := HH.out.2.2.2.2; simp; omega⟩⟩
     case measure => simp [intOf]; omega
  ·have hge : (s.size : Int) ≤ (p : Int) := by omega
   have hlt' : ¬ (p : Int) < s.size := by omega
   have HF := Lib.hid (show R = none by rw [← HH.out.1, List.drop_eq_nil_of_le (by rw [len_toList]; omega), textM_nil])
   go_wp2_with fail
   go_quiet (fail)
   obtain ⟨W1, e1⟩ : ∃ W, W0.drewN nq = W := ⟨_, rfl⟩
   rw [e1]
   have HQ := Lib.hid (show W1.ownsRow w.heap.size 5 1 (.slice A0 o.length c0) o.length (Lib.byteCells o) ∧ Below w.heap.size w W1 from by rw [← e1]; exact ⟨HH.out.2.2.1, below_drewN HH.out.2.2.2.1 nq⟩)
   clear e1
   go_wp2
   exact bodyPost_ret (results_tmp2 rfl _ _ _) rfl ⟨by rw [HF.out]; rfl, HQ.out.2⟩
end
section
open Go.RowKit Go.Proofs
def textAns (o : Option (Bs × Nat)) : Tok × Int × Int := match o with
 | none => (zeroTok, 0, 22)
 | some x => (⟨4, x.1, 0, 0, false⟩, (x.2 : Int), 0)
theorem textM_len {q : UInt8} : ∀ (f : Nat) (l o : Bs) (i : Nat) (t : Bs) (n : Nat), textM q f l o i = some (t, n) → i + 1 ≤ n ∧ n ≤ i + l.length ∧ t.length ≤ o.length + l.length
 | 0, l, o, i, t, n, h => by rw [textM] at h; cases h
 | f + 1, [], o, i, t, n, h => by rw [textM] at h; cases h
 | f + 1, c :: r, o, i, t, n, h => by
  rw [textM] at h
  by_cases h1 : c = q
  ·rw [if_pos h1] at h
   cases h
   refine ⟨Nat.le_refl _, ?_, ?_⟩ <;> simp
  rw [if_neg h1] at h
  by_cases h2 : c.toNat < 32 ∨ 126 < c.toNat
  ·rw [if_pos h2] at h; cases h
  rw [if_neg h2] at h
  by_cases h3 : c ≠ 92
  ·rw [if_pos h3] at h
   have := textM_len f r (o ++ [c]) (i + 1) t n h
   simp at this ⊢
   omega
  rw [if_neg h3] at h
  have hl := esc_len (c :: r)
  split at h
  ·cases h
  ·rename_i b k e
   rw [e] at hl
   have := textM_len f (r.drop k) (o ++ [b]) (i + (k + 1)) t n h
   simp at this hl ⊢
   omega
theorem one_text (s : ByteArray) (w : World) (h0 : 0 < s.size) (hs : s.size ≤ 100000) (hl : letterB s[0] = false) (hd : digitB s[0] = false) (hq : s[0].toNat = 34 ∨ s[0].toNat = 39) :
  Calls Tryz.prog 96 #[.string s] w fun e w' => e = .returned (.tuple #[tokV (oneT s.data.toList).1, .int .i64 (oneT s.data.toList).2.1, .int .i64 (oneT s.data.toList).2.2]) ∧ Below w.heap.size w w' := by
 have hh := head_of s h0
 obtain ⟨o, ho⟩ : ∃ o, textM s[0] (s.size + 1) (s.data.toList.drop 1) [] 1 = o := ⟨_, rfl⟩
 have HT := fun w => text_any s w h0 hs
 rw [ho] at HT
 have hone : oneT s.data.toList = textAns o := by
  unfold oneT oneM
  dsimp only
  rw [hh, if_neg (by rw [hl]; decide), if_neg (by rw [hd]; decide), if_pos (by
   rcases hq with h | h
   ·exact .inl (u8_lit (by decide) h)
   ·exact .inr (u8_lit (by decide) h)), len_toList, ho]
  cases o with
  | none => rfl
  | some x => rfl
 have hlen : ∀ x, o = some x → 2 ≤ x.2 := fun x e => by
  have := textM_len (s.size + 1) (s.data.toList.drop 1) [] 1 x.1 x.2 (by rw [ho, e])
  omega
 have HL := rletter_any s[0]
 rw [hl] at HL
 have HL := Lib.hid HL
 have HD := rdigit_any s[0]
 rw [hd] at HD
 have HD := Lib.hid HD
 have hq' : (s[0].toNat : Int) = 34 ∨ (s[0].toNat : Int) = 39 := by omega
 obtain ⟨W1, eW1⟩ : ∃ W, w.alloc (.cells #[.int .i64 0, .string ⟨#[]⟩, .int .i64 0, .int .i64 0, .bool false] 112) = W := ⟨_, rfl⟩
 have hb : Below w.heap.size w W1 := by rw [← eW1]; exact (Below.refl _ w).alloc (Nat.le_refl _) _
 have hx : W1.heap[w.heap.size]? = some (.cells #[.int .i64 0, .string ⟨#[]⟩, .int .i64 0, .int .i64 0, .bool false] 112 (0, 0)) := by rw [← eW1]; exact heap_alloc_new _ _
 have z1 : W1.heap.size = w.heap.size + 1 := by rw [← eW1]; simp
 have HX := Lib.hid (And.intro hb hx)
 rw [hone]
 clear hh hl hd hb hx hone hq ho
 cases o with
 | none =>
  rw [show textAns none = (zeroTok, 0, 22) from rfl]
  have HT := Lib.hid (HT W1)
  rcases hq' with e | e
  all_goals
   have HL1 := HL.out
   have HD1 := HD.out
   rw [e] at HL1 HD1
   have HL := Lib.hid HL1
   have HD := Lib.hid HD1
   clear HL1 HD1
   go_enter Tryz.func96, Tryz.ntmps96
   go_wp2_with fail
   go_at_call 111
   refine (HL.out _).mono ?_
   rintro e w' ⟨rfl, rfl⟩
   go_wp2_with fail
   go_at_call 112
   refine (HD.out _).mono ?_
   rintro e w' ⟨rfl, rfl⟩
   go_wp2_with fail
   go_at_call 121
   refine (HT.out).mono ?_
   rintro e w2 ⟨rfl, hb2⟩
   have x2 := (hb2.block w.heap.size (by omega)).trans HX.out.2
   have H2 := Lib.hid (And.intro (HX.out.1.trans (hb2.mono (by omega))) x2)
   obtain ⟨⟨y0, y1, y2, y3, y4⟩, g0, g1, g2, g3, g4⟩ := box_facts x2
   clear hb2 x2
   go_wp2
   exact tok_fin (t := zeroTok) (W1 := w2) 2 3 4 rfl rfl rfl rfl rfl H2.out.2 H2.out.1 rfl
 | some x =>
  rw [show textAns (some x) = (⟨4, x.1, 0, 0, false⟩, (x.2 : Int), 0) from rfl]
  have hn2 := hlen x rfl
  have hz : ((x.2 : Int) == 0) = false := by rw [beq_eq_false_iff_ne]; omega
  have HT := Lib.hid (HT W1)
  rcases hq' with e | e
  all_goals
   have HL1 := HL.out
   have HD1 := HD.out
   rw [e] at HL1 HD1
   have HL := Lib.hid HL1
   have HD := Lib.hid HD1
   clear HL1 HD1
   go_enter Tryz.func96, Tryz.ntmps96
   go_wp2_with fail
   go_at_call 111
   refine (HL.out _).mono ?_
   rintro e w' ⟨rfl, rfl⟩
   go_wp2_with fail
   go_at_call 112
   refine (HD.out _).mono ?_
   rintro e w' ⟨rfl, rfl⟩
   go_wp2_with fail
   go_at_call 121
   refine (HT.out).mono ?_
   rintro e w2 ⟨rfl, hb2⟩
   have x2 := (hb2.block w.heap.size (by omega)).trans HX.out.2
   have H2 := Lib.hid (And.intro (HX.out.1.trans (hb2.mono (by omega))) x2)
   obtain ⟨⟨y0, y1, y2, y3, y4⟩, g0, g1, g2, g3, g4⟩ := box_facts x2
   clear hb2 x2
   dsimp only [txtA]
   go_wp2
   exact tok_fin (t := ⟨4, x.1, 0, 0, false⟩) (W1 := w2) 2 3 4 rfl rfl rfl rfl rfl H2.out.2 H2.out.1 rfl
end
section
open Go.RowKit Go.Proofs
theorem close_len : ∀ (l : Bs) (i n : Nat), closeM l i = some n → n ≤ i + l.length
 | [], i, n, h => by rw [close_nil] at h; cases h
 | [a], i, n, h => by rw [close_last] at h; cases h
 | a :: b :: r, i, n, h => by
  rw [closeM] at h
  split at h
  ·cases h; simp
  ·have := close_len (b :: r) (i + 1) n h
   simp at this ⊢
   omega
theorem blank_len {l : Bs} {n : Nat} (h : blankM l = some n) (h0 : 0 < l.length) : n ≤ l.length := by
 unfold blankM at h
 dsimp only at h
 split at h
 ·cases h; omega
 ·split at h
  ·rename_i r e
   cases h
   have := runL_le noEndB r
   simp
   omega
  ·rename_i r e
   have := close_len _ _ _ h
   simp
   omega
  ·cases h; omega
theorem blankV_some {l : Bs} {n : Nat} (h : blankM l = some n) : blankV l = n := by unfold blankV; rw [h]
theorem blankV_no {l : Bs} (h : blankM l = none) : blankV l = -1 := by unfold blankV; rw [h]
theorem sign_len (l : Bs) (h0 : 0 < l.length) : signM l ≤ l.length := by
 unfold signM
 split
 ·rename_i h
  have : (l.take 3).length = 3 := by
   unfold sign3 at h
   simp only [List.mem_cons, List.not_mem_nil, or_false] at h
   rcases h with h | h <;> rw [h] <;> rfl
  rw [List.length_take] at this
  omega
 ·split
  ·rename_i h
   have : (l.take 2).length = 2 := by
    unfold sign2 at h
    simp only [List.mem_cons, List.not_mem_nil, or_false] at h
    rcases h with h | h | h <;> rw [h] <;> rfl
   rw [List.length_take] at this
   omega
  ·split <;> omega
theorem runL_pos {p : UInt8 → Bool} {c : UInt8} {r : Bs} (h : p c = true) : 1 ≤ runL p (c :: r) := by
 unfold runL
 rw [List.takeWhile_cons, if_pos h, List.length_cons]
 omega
theorem one_len {c : UInt8} {r : Bs} {t : Tok} {k : Nat} (h : oneM (c :: r) = .ok (t, k)) : 1 ≤ k ∧ k ≤ (c :: r).length ∧ t.s.length ≤ (c :: r).length ∧ 0 ≤ t.n ∧ t.n ≤ 999999999999999 := by
 unfold oneM at h
 dsimp only [List.headD] at h
 by_cases hl : letterB c = true
 ·rw [if_pos hl] at h
  cases h
  refine ⟨runL_pos (nameB_letter hl), runL_le _ _, ?_, by simp, by simp⟩
  rw [List.length_take]
  omega
 rw [if_neg hl] at h
 by_cases hd : digitB c = true
 ·rw [if_pos hd] at h
  split at h
  ·cases h
  ·split at h
   ·cases h
   ·rename_i n hn
    split at h
    ·cases h
    ·cases h
     refine ⟨runL_pos hd, runL_le _ _, by simp, by simp, ?_⟩
     unfold numberM at hn
     split at hn
     ·cases hn
     ·rename_i hh
      simp at hn
      rw [← hn]
      have h15 : ¬ 15 < ((c :: r).take (runL digitB (c :: r))).length := fun h => hh (.inl h)
      have hv := valM_lt ((c :: r).take (runL digitB (c :: r))) 0 (fun x hx => by
       have := List.takeWhile_prefix (p := digitB) (l := c :: r)
       unfold runL at hx
       rw [← List.prefix_iff_eq_take.1 this] at hx
       exact List.all_eq_true.1 (List.all_takeWhile) x hx)
      have h10 : 10 ^ ((c :: r).take (runL digitB (c :: r))).length ≤ 10 ^ 15 := Nat.pow_le_pow_right (by decide) (by omega)
      have e15 : 10 ^ 15 = 1000000000000000 := by decide
      show ((valM 0 ((c :: r).take (runL digitB (c :: r))) : Nat) : Int) ≤ 999999999999999
      omega
 rw [if_neg hd] at h
 by_cases hq : c = 34 ∨ c = 39
 ·rw [if_pos hq] at h
  split at h
  ·cases h
  ·rename_i x n e
   cases h
   have := textM_len _ _ _ _ _ _ e
   simp at this ⊢
   omega
 rw [if_neg hq] at h
 split at h
 ·cases h
 ·rename_i hz
  cases h
  have := sign_len (c :: r) (by simp)
  refine ⟨by omega, this, ?_, by simp, by simp⟩
  rw [List.length_take]
  omega
theorem oneT_ok {l : Bs} {t : Tok} {k : Nat} (h : oneM l = .ok (t, k)) : oneT l = (t, (k : Int), 0) := by unfold oneT; rw [h]
theorem oneT_err {l : Bs} {e : Int} (h : oneM l = .error e) : oneT l = (zeroTok, 0, e) := by unfold oneT; rw [h]
theorem one_err_ne {l : Bs} {e : Int} (h : oneM l = .error e) : e ≠ 0 := by
 unfold oneM at h
 dsimp only at h
 repeat' split at h
 all_goals first | (cases h; decide) | cases h
theorem one_any (s : ByteArray) (w : World) (h0 : 0 < s.size) (hs : s.size ≤ 100000) :
  Calls Tryz.prog 96 #[.string s] w fun e w' => e = .returned (.tuple #[tokV (oneT s.data.toList).1, .int .i64 (oneT s.data.toList).2.1, .int .i64 (oneT s.data.toList).2.2]) ∧ Below w.heap.size w w' := by
 cases hl : letterB s[0] with
 | true => exact one_name s w h0 hs hl
 | false =>
  cases hd : digitB s[0] with
  | true => exact one_num s w h0 hs hl hd
  | false =>
   by_cases hq : s[0].toNat = 34 ∨ s[0].toNat = 39
   ·exact one_text s w h0 hs hl hd hq
   ·exact one_sign s w h0 hs hl hd ⟨fun h => hq (.inl h), fun h => hq (.inr h)⟩
end
end Go.Proofs.YtikbfoichhkeaaaGreat
