/- The heap and the document's, side by side. -/
import Derived.Test.YtpbbinppikaamaaRefNew
import Derived.Test.YtpbbinppikaamaaRefAll
import Derived.Test.YtpbbinppikaamaaRefGet
import Derived.Test.YtpbbinppikaamaaLawTwo
namespace Go.Proofs.Ytpbbinppikaamaa
open Go.RowKit Go.Proofs Go.Maps

/-- The heap and the document's heap in one world. -/
structure Pr (w1 w : World) (F1 F2 : Nat → Prop) (B1 B2 T1 T2 : Nat) (L1 L2 : Hp) : Prop where
  heap : IsH w F1 B1 T1 L1
  ref : IsR w F2 B2 T2 L2
  apart : ∀ i, F1 i → ¬ F2 i
  lo1 : ∀ i, F1 i → w1.heap.size ≤ i
  lo2 : ∀ i, F2 i → w1.heap.size ≤ i
  below : Below w1.heap.size w1 w
section
variable {w1 w w' : World} {F1 F2 : Nat → Prop} {B1 B2 T1 T2 : Nat} {L1 L2 : Hp}
theorem Pr.move (h : Pr w1 w F1 F2 B1 B2 T1 T2 L1 L2) (hb : Below w.heap.size w w') : Pr w1 w' F1 F2 B1 B2 T1 T2 L1 L2 :=
  ⟨h.heap.below hb, h.ref.below hb, h.apart, h.lo1, h.lo2, h.below.trans (hb.mono h.below.size)⟩
theorem Pr.drew (h : Pr w1 w F1 F2 B1 B2 T1 T2 L1 L2) : Pr w1 w.drew F1 F2 B1 B2 T1 T2 L1 L2 := h.move (w' := w.drew) (below_drewN (Below.refl _ w) 1)
theorem Pr.on1 (h : Pr w1 w F1 F2 B1 B2 T1 T2 L1 L2) {T : Nat} {L : Hp} (hI : IsH w' (ext F1 w w') B1 T L) (ho : Only F1 w w') : Pr w1 w' (ext F1 w w') F2 B1 B2 T T2 L L2 :=
  ⟨hI, h.ref.only ho (fun i h2 h1 => h.apart i h1 h2), fun i h1 h2 => by
    rcases h1 with h1 | h1
    · exact h.apart i h1 h2
    · have := h.ref.lt i h2
      have := h1.1
      omega, fun i h1 => by
    rcases h1 with h1 | h1
    · exact h.lo1 i h1
    · have := h1.1
      have := h.below.size
      omega, h.lo2, h.below.trans (ho.below h.below.size (fun i hi => h.lo1 i hi))⟩
theorem Pr.on2 (h : Pr w1 w F1 F2 B1 B2 T1 T2 L1 L2) {T : Nat} {L : Hp} (hI : IsR w' (ext F2 w w') B2 T L) (ho : Only F2 w w') : Pr w1 w' F1 (ext F2 w w') B1 B2 T1 T L1 L :=
  ⟨h.heap.only ho (fun i h1 h2 => h.apart i h1 h2), hI, fun i h1 h2 => by
    rcases h2 with h2 | h2
    · exact h.apart i h1 h2
    · have := h.heap.lt i h1
      have := h2.1
      omega, h.lo1, fun i h1 => by
    rcases h1 with h1 | h1
    · exact h.lo2 i h1
    · have := h1.1
      have := h.below.size
      omega, h.below.trans (ho.below h.below.size (fun i hi => h.lo2 i hi))⟩
/-- A box that is none of theirs stays. -/
def Box (w w' : World) (n : Nat) : Prop := ∀ off, w'.cell? ⟨n, off, none⟩ = w.cell? ⟨n, off, none⟩
theorem box_only {G : Nat → Prop} {n : Nat} (ho : Only G w w') (hn : n < w.heap.size) (hg : ¬ G n) : Box w w' n := fun _ => World.cell?_of_block (ho.block n hn hg)
theorem Pr.alloc1 (h : Pr w1 w F1 F2 B1 B2 T1 T2 L1 L2) (a1 a2 a3 a4 : Int) :
    Calls Try.prog 23 #[.pointer (some ⟨B1, 0, none⟩), .agg #[.int .i64 a1, .int .i64 a2, .int .i64 a3, .int .i64 a4]] w fun e w' => e = .returned (.tuple #[.int .i64 (allocV L1 a2), .int .i64 (allocE L1 a2)]) ∧ (∃ F, Pr w1 w' F F2 B1 B2 T1 T2 (allocL L1 a1 a2 a3 a4) L2) ∧ Only F1 w w' :=
  (Alloc_any a1 a2 a3 a4 w h.heap).mono (fun _ _ k => ⟨k.1, ⟨_, h.on1 k.2.1 k.2.2⟩, k.2.2⟩)
theorem Pr.alloc2 (h : Pr w1 w F1 F2 B1 B2 T1 T2 L1 L2) (a1 a2 a3 a4 : Int) :
    Calls Try.prog 29 #[.pointer (some ⟨B2, 0, none⟩), .agg #[.int .i64 a1, .int .i64 a2, .int .i64 a3, .int .i64 a4]] w fun e w' => e = .returned (.tuple #[.int .i64 (allocV L2 a2), .int .i64 (allocE L2 a2)]) ∧ (∃ F, Pr w1 w' F1 F B1 B2 T1 T2 L1 (allocL L2 a1 a2 a3 a4)) ∧ Only F2 w w' :=
  (RAlloc_any a1 a2 a3 a4 w h.ref).mono (fun _ _ k => ⟨k.1, ⟨_, h.on2 k.2.1 k.2.2⟩, k.2.2⟩)
theorem Pr.put1 (h : Pr w1 w F1 F2 B1 B2 T1 T2 L1 L2) (i : Int) (s : ByteArray) (a n : Int) (t : ByteArray) (hs : s.size ≤ maxLen) (hT : T1 ≤ 1000000) :
    Calls Try.prog 26 #[.pointer (some ⟨B1, 0, none⟩), .int .i64 i, .string s, .agg #[.int .i64 a, .int .i64 n, .string t]] w fun e w' => e = .returned (.int .i64 (putE L1 i ⟨a, n, t⟩)) ∧ (∃ F, Pr w1 w' F F2 B1 B2 (T1 + 1) T2 (putL L1 i s ⟨a, n, t⟩) L2) ∧ Only F1 w w' :=
  (Put_any i s ⟨a, n, t⟩ w h.heap hs hT).mono (fun _ _ k => ⟨k.1, ⟨_, h.on1 k.2.1 k.2.2⟩, k.2.2⟩)
theorem Pr.put2 (h : Pr w1 w F1 F2 B1 B2 T1 T2 L1 L2) (i : Int) (s : ByteArray) (a n : Int) (t : ByteArray) (hT : T2 ≤ 1000000) :
    Calls Try.prog 30 #[.pointer (some ⟨B2, 0, none⟩), .int .i64 i, .string s, .agg #[.int .i64 a, .int .i64 n, .string t]] w fun e w' => e = .returned (.int .i64 (putE L2 i ⟨a, n, t⟩)) ∧ (∃ F, Pr w1 w' F1 F B1 B2 T1 (T2 + 1) L1 (putL L2 i s ⟨a, n, t⟩)) ∧ Only F2 w w' :=
  (RPut_any i s ⟨a, n, t⟩ w h.ref hT).mono (fun _ _ k => ⟨k.1, ⟨_, h.on2 k.2.1 k.2.2⟩, k.2.2⟩)
theorem IsH.more {F : Nat → Prop} {b T : Nat} {L : Hp} (h : IsH w F b T L) : IsH w F b (T + 1) L := by
  obtain ⟨⟨v, sp, hh⟩, h2⟩ := h
  exact ⟨⟨v, sp, hh.head, hh.mine, hh.row, hh.rowF, hh.len, fun i p o hp ho => (hh.obj i p o hp ho).more (Nat.le_succ _), hh.objF, hh.apart, hh.lt⟩, h2⟩
theorem Pr.more (h : Pr w1 w F1 F2 B1 B2 T1 T2 L1 L2) : Pr w1 w F1 F2 B1 B2 (T1 + 1) (T2 + 1) L1 L2 := ⟨h.heap.more, h.ref.more, h.apart, h.lo1, h.lo2, h.below⟩
end
end Go.Proofs.Ytpbbinppikaamaa
