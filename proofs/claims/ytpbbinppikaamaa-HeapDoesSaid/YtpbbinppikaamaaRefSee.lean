/- The document's Put: what the walk reads between its stores. -/
import Derived.Test.YtpbbinppikaamaaRefHalf
namespace Go.Proofs.Ytpbbinppikaamaa
open Go.RowKit Go.Proofs Go.Maps
section
variable {W W' w3 w4 : World} {F : Nat → Prop} {b T : Nat} {ths : List TH} {v u u2 : Value} {t : TH} {g c i : Nat} {s : ByteArray} {x : V} {ob : Obj}
theorem RefAt.head_not (h : RefAt W F b T ths v) (hi : ths[i]? = some t) : ¬ Pb v t b := by
  have hth := h.th i t hi
  have hh := h.head
  rintro (e | e | e)
  · obtain ⟨cs, hc⟩ := row_blk h.row e
    rw [hh] at hc
    cases hc
  · obtain ⟨cs, hc⟩ := row_blk hth.ks e
    rw [hh] at hc
    cases hc
  · obtain ⟨cs, hc⟩ := row_blk hth.vs e
    rw [hh] at hc
    cases hc
theorem RefAt.see (h : RefAt W F b T ths v) (hi : ths[i]? = some t) (ho : Only (Pb v t) W W') : W'.cell? ⟨b, 0, none⟩ = some v ∧ ∀ m, ¬ F m → m < W.heap.size → ∀ off, W'.cell? ⟨m, off, none⟩ = W.cell? ⟨m, off, none⟩ :=
  ⟨(World.cell?_of_block (ho.block b (h.lt b h.mine) (h.head_not hi))).trans (cell_of_row W b 0 _ _ _ h.head), fun m hm hl _ => World.cell?_of_block (ho.block m hl (fun e => hm (h.pb_F hi e)))⟩
structure MidR (W w3 : World) (F : Nat → Prop) (b T : Nat) (ths : List TH) (t : TH) (i g c : Nat) (s : ByteArray) (u : Value) : Prop where
  half : Half W (w3.setCell ⟨g, i * 6 + 4, none⟩ u) ths (.slice (some ⟨g, 0, none⟩) ths.length c) t i s u
  e4 : w3.cell? ⟨g, i * 6 + 4, none⟩ = some t.ks
  f4 : w3.frozen? ⟨g, i * 6 + 4, none⟩ = false
  hd : w3.cell? ⟨b, 0, none⟩ = some (.slice (some ⟨g, 0, none⟩) ths.length c)
  hd2 : (w3.setCell ⟨g, i * 6 + 4, none⟩ u).cell? ⟨b, 0, none⟩ = some (.slice (some ⟨g, 0, none⟩) ths.length c)
  see : ∀ m, ¬ F m → m < W.heap.size → ∀ off, (w3.setCell ⟨g, i * 6 + 4, none⟩ u).cell? ⟨m, off, none⟩ = W.cell? ⟨m, off, none⟩
  e5 : (w3.setCell ⟨g, i * 6 + 4, none⟩ u).cell? ⟨g, i * 6 + 5, none⟩ = some t.vs
  size : W.heap.size ≤ (w3.setCell ⟨g, i * 6 + 4, none⟩ u).heap.size
theorem RefAt.mid (h : RefAt W F b T ths (.slice (some ⟨g, 0, none⟩) ths.length c)) (hi : ths[i]? = some t) (happ : App (W.alloc ob) 9 1 (t.o.kv.length + 1) t.ks (strsOf (keysOf t.o.kv) ++ [.string s]) u w3) : MidR W w3 F b T ths t i g c s u := by
  obtain ⟨h1, h2, h3⟩ := h.half hi happ
  have hon : Only (Pb (.slice (some ⟨g, 0, none⟩) ths.length c) t) W w3 := ((Only.of_below ((Below.refl _ W).alloc (Nat.le_refl _) ob)).trans' happ.only).mono (fun k _ hk => .inr (.inl hk))
  have s1 := h.see hi hon
  have s2 := h.see hi h1.only
  refine ⟨h1, h2, h3, s1.1, s2.1, s2.2, ?_, h1.only.size⟩
  have hne : (i * 6 + 4 : Nat) ≠ i * 6 + 5 := by omega
  have e2 : ((ths.flatMap TH.cells).set (i * 6 + 4) u)[i * 6 + 5]? = some t.vs := by
    rw [List.getElem?_set_ne hne]
    exact flat_at (f := TH.cells) (m := 6) th_len ths i 5 t (by decide) hi
  exact row_cell h1.row _ _ e2
structure Fin2 (W w4 : World) (F : Nat → Prop) (b T : Nat) (ths : List TH) (t : TH) (i g c : Nat) (s : ByteArray) (x : V) (u u2 : Value) : Prop where
  done : RefAt (w4.setCell ⟨g, i * 6 + 5, none⟩ u2) (ext F W (w4.setCell ⟨g, i * 6 + 5, none⟩ u2)) b (T + 1) (ths.set i ⟨{ t.o with kv := pt t.o.kv s x }, u, u2⟩) (.slice (some ⟨g, 0, none⟩) ths.length c) ∧ Only F W (w4.setCell ⟨g, i * 6 + 5, none⟩ u2)
  e5 : w4.cell? ⟨g, i * 6 + 5, none⟩ = some t.vs
  f5 : w4.frozen? ⟨g, i * 6 + 5, none⟩ = false
  hd : w4.cell? ⟨b, 0, none⟩ = some (.slice (some ⟨g, 0, none⟩) ths.length c)
  hd2 : (w4.setCell ⟨g, i * 6 + 5, none⟩ u2).cell? ⟨b, 0, none⟩ = some (.slice (some ⟨g, 0, none⟩) ths.length c)
theorem MidR.fin (hm : MidR W w3 F b T ths t i g c s u) (h : RefAt W F b T ths (.slice (some ⟨g, 0, none⟩) ths.length c)) (hi : ths[i]? = some t) (hlk : lk t.o.kv s = none)
    (happ : App ((w3.setCell ⟨g, i * 6 + 4, none⟩ u).alloc ob) 32 3 (t.o.kv.length + 1) t.vs (valsOf t.o.kv ++ [.int .i64 x.k, .int .i64 x.n, .string x.s]) u2 w4) : Fin2 W w4 F b T ths t i g c s x u u2 := by
  obtain ⟨h1, h2, h3⟩ := h.full hi hm.half hlk happ
  have hon : Only (Pb (.slice (some ⟨g, 0, none⟩) ths.length c) t) W w4 := hm.half.only.trans' (((Only.of_below ((Below.refl _ _).alloc (Nat.le_refl _) ob)).trans' happ.only).mono (fun k _ hk => .inr (.inr hk)))
  have hon2 := hon.trans' (Only.setCell w4 (b := g) (.inl rfl) (i * 6 + 5) u2)
  exact ⟨h1, h2, h3, (h.see hi hon).1, (h.see hi hon2).1⟩
end
end Go.Proofs.Ytpbbinppikaamaa
