/- jtree.page: every expression, statement, block. -/
import Derived.Test.YtiejpenffpjmeaaDoorStmt2
namespace Go.Proofs.YtiejpenffpjmeaaDoor
open Go.RowKit Go.Proofs

/-- Each part of it is what it should be. -/
def good (t : Tr) : Prop := ∀ y ∈ t.flat, soundOne y = true
theorem good_part : ∀ {l : List Tr} {y : Tr}, y ∈ l → ∀ z ∈ y.flat, z ∈ flats l
  | a :: r, y, h, z, hz => by
    rw [flats_cons, List.mem_append]
    rcases List.mem_cons.1 h with rfl | h
    · exact .inl hz
    · exact .inr (good_part h z hz)
theorem good.part {t y : Tr} (h : good t) (hy : y ∈ t.l) : good y := fun z hz => h z (by rw [flat_eq]; exact List.mem_cons_of_mem _ (good_part hy z hz))
theorem good.self {t : Tr} (h : good t) : soundOne t = true := h t (by rw [flat_eq]; exact List.mem_cons_self)
theorem good_of {t : Tr} (h : soundT t = true) : good t := by
  intro y hy
  unfold soundT at h
  rw [List.all_eq_true] at h
  rw [← levels_flat 1 t, List.mem_map] at hy
  obtain ⟨p, hp, rfl⟩ := hy
  have := h p hp
  unfold goodB at this
  rw [Bool.and_eq_true] at this
  exact this.1

theorem expr_in (b k : Nat) (t : Tr) (A : Option Addr) (c : Nat) (w : World) (l : Bs) (hrow : Row w b t.l (.slice A t.l.length c)) (hp : PageAt w b l k) (hk : k + t.size ≤ 100000) (hlen : (l ++ t.txt k).length ≤ 100000000) (he : Env w)
    (hg : soundOne t = true) (h1 : ∀ y ∈ t.l, 1 ≤ y.op → y.op ≤ 23 → ExprOK y) (h2 : ∀ y ∈ t.l, y.op = 32 → BraceOK y) :
    ExprIn b k t A c w (w.alloc (.cells #[.int .i64 t.op, .string (bs t.s), .int .i64 t.n, .slice A t.l.length c, .int .i64 t.line] 24)) l (l ++ t.txt k) := by
  have hlo := Nat.le_of_lt hp.lt
  have hpg := (PG.refl b w).alloc hlo (.cells #[.int .i64 t.op, .string (bs t.s), .int .i64 t.n, .slice A t.l.length c, .int .i64 t.line] 24)
  exact { world := rfl, page := hp.alloc _, pg := hpg, size := by simp, box := heap_alloc_new w _, row := hrow.below hpg.below, env := he.pg hp.1 hpg, bound := by rw [size_eq] at hk; exact hk, room := hlen, good := hg, text := rfl, parts := h1, blocks := h2, lt := hp.lt, one := hp.1 }

theorem expr_walk (op : Int) (h1 : 1 ≤ op) (h2 : op ≤ 23) : ExprWalk op := by
  have : op = 1 ∨ op = 2 ∨ op = 3 ∨ op = 4 ∨ op = 5 ∨ op = 6 ∨ op = 7 ∨ op = 8 ∨ op = 9 ∨ op = 10 ∨ op = 11 ∨ op = 12 ∨ op = 13 ∨ op = 14 ∨ op = 15 ∨ op = 16 ∨ op = 17 ∨ op = 18 ∨ op = 19 ∨ op = 20 ∨ op = 21 ∨ op = 22 ∨ op = 23 := by omega
  rcases this with rfl | rfl | rfl | rfl | rfl | rfl | rfl | rfl | rfl | rfl | rfl | rfl | rfl | rfl | rfl | rfl | rfl | rfl | rfl | rfl | rfl | rfl | rfl
  · exact expr_1
  · exact expr_2
  · exact expr_3
  · exact expr_4
  · exact expr_5
  · exact expr_6
  · exact expr_7
  · exact expr_8
  · exact expr_9
  · exact expr_10
  · exact expr_11
  · exact expr_12
  · exact expr_13
  · exact expr_14
  · exact expr_15
  · exact expr_16
  · exact expr_17
  · exact expr_18
  · exact expr_19
  · exact expr_20
  · exact expr_21
  · exact expr_22
  · exact expr_23
theorem stmt_walk (op : Int) (h1 : 30 ≤ op) (h2 : op ≤ 41) : StmtWalk op := by
  have : op = 30 ∨ op = 31 ∨ op = 32 ∨ op = 33 ∨ op = 34 ∨ op = 35 ∨ op = 36 ∨ op = 37 ∨ op = 38 ∨ op = 39 ∨ op = 40 ∨ op = 41 := by omega
  rcases this with rfl | rfl | rfl | rfl | rfl | rfl | rfl | rfl | rfl | rfl | rfl | rfl
  · exact stmt_30
  · exact stmt_31
  · exact stmt_32
  · exact stmt_33
  · exact stmt_34
  · exact stmt_35
  · exact stmt_36
  · exact stmt_37
  · exact stmt_38
  · exact stmt_39
  · exact stmt_40
  · exact stmt_41
theorem eS {y : Tr} (h : isS y) : 30 ≤ y.op ∧ y.op ≤ 41 := by
  unfold isS hasB at h
  simp at h
  omega

/-- Every tree whose parts are what they should be. -/
theorem all_ok (t : Tr) : good t → (1 ≤ t.op → t.op ≤ 23 → ExprOK t) ∧ (30 ≤ t.op → t.op ≤ 41 → StmtOK t) ∧ (t.op = 32 → BraceOK t) := by
  induction t using tree_ind with
  | h t ih =>
    intro hg
    have hE : ∀ y ∈ t.l, 1 ≤ y.op → y.op ≤ 23 → ExprOK y := fun y hy => (ih y (size_part hy) (hg.part hy)).1
    have hB : ∀ y ∈ t.l, y.op = 32 → BraceOK y := fun y hy => (ih y (size_part hy) (hg.part hy)).2.2
    have hbr : t.op = 32 → BraceOK t := fun e => braces_any t e fun y hy =>
      (ih y (size_part hy) (hg.part hy)).2.1 (eS (((inv_32 e).1 hg.self).2.2.2 y hy)).1 (eS (((inv_32 e).1 hg.self).2.2.2 y hy)).2
    refine ⟨fun h1 h2 => ?_, fun h1 h2 => ?_, hbr⟩
    · intro b k v w l hAt hp hk hlen he
      have hAt' := hAt
      rw [At_iff] at hAt'
      obtain ⟨u, rfl, hrow, -⟩ := hAt'
      obtain ⟨A, c, rfl, _, _⟩ := row_at hrow
      exact expr_walk t.op h1 h2 b k t A c w _ l _ rfl (expr_in b k t A c w l hrow hp hk hlen he hg.self hE hB) hAt
    · intro b k v w l hAt hp hk hlen he
      have hAt' := hAt
      rw [At_iff] at hAt'
      obtain ⟨u, rfl, hrow, -⟩ := hAt'
      obtain ⟨A, c, rfl, _, _⟩ := row_at hrow
      exact stmt_walk t.op h1 h2 b k t A c w _ l _ rfl { toExprIn := expr_in b k t A c w l hrow hp hk hlen he hg.self hE hB, self := hbr } hAt
end Go.Proofs.YtiejpenffpjmeaaDoor
