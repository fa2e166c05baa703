/- bits.least, bits.allRight. -/
import Derived.Test.YtpfmncdodcbamaaLeaves
import Derived.Deep.QuietTactic
import Derived.BigQuiet
namespace Go.Proofs.Ytpfmncdodcbamaa
open Go.RowKit Go.Proofs

set_option maxHeartbeats 400000 in
theorem allRight_any (A : Option Addr) (n c B : Nat) (zss : List (List Int)) (w : World) (hr : Mat w B A n c zss) :
    Calls Try.prog 29 #[.slice A n c] w fun e w' => e = .returned (.bool (zss.all isSet)) ∧ w = w' := by
  have hn : n ≤ 281474976710656 := hr.2.2.1.1
  go_enter Try.func29, Try.ntmps29
  go_wp2
  go_loop [7] (fun i => ∃ k : Nat, k ≤ n ∧ i = .int .i64 k ∧ (zss.drop k).all isSet = zss.all isSet) (fun i => n - (intOf i).toNat)
  case atStart => exact ⟨0, Nat.zero_le _, rfl, by simp⟩
  case round =>
    obtain ⟨k, hk, rfl, hs⟩ := hrel
    have HS := Lib.hid hs
    clear hs
    by_cases hlt : k < n
    · obtain ⟨ad, zs, A', n', c', rfl, _, hz, hc, hi⟩ := hr.at_ hlt
      have hd := drop_at hz
      have HD := Lib.hid hd
      clear hz hd
      have HR := right_any A' n' c' B zs w hi
      cases hb : isSet zs with
      | true =>
        rw [hb] at HR
        have HB := Lib.hid hb
        clear hb
        have HR := Lib.hid HR
        go_wp2_with (go_at_call 14; refine (HR.out).mono ?_; rintro e w' ⟨rfl, rfl⟩)
        go_round
        case rel => exact ⟨k + 1, by omega, by go_num, by rw [← HS.out, HD.out, List.all_cons, HB.out, Bool.true_and]⟩
        case measure => simp [intOf]; omega
      | false =>
        rw [hb] at HR
        have HB := Lib.hid hb
        clear hb
        have HR := Lib.hid HR
        go_wp2_with (go_at_call 14; refine (HR.out).mono ?_; rintro e w' ⟨rfl, rfl⟩)
        go_ret
        exact ⟨ret_b (by rw [← HS.out, HD.out, List.all_cons, HB.out, Bool.false_and]), rfl⟩
    · go_wp2
      go_ret
      exact ⟨ret_b (by rw [← HS.out, List.drop_eq_nil_of_le (by have := hr.1; omega)]; rfl), rfl⟩

set_option maxHeartbeats 400000 in
theorem least_1 (ad : Addr) (A' : Option Addr) (n c c' : Nat) (z : Int) (w : World) (hn : 0 < n) (hlt : ad.block < w.heap.size) (hc : w.cell? ad = some (.int .i64 z)) :
    Calls Try.prog 42 #[.slice (some ad) n c, .slice A' 0 c'] w fun e w' => e = .returned (fndV (z, true, false)) ∧ Below w.heap.size w w' := by
  have hca := fun o => (World.cell?_alloc_lt w o ad hlt).trans hc
  go_enter Try.func42, Try.ntmps42
  go_wp2
  go_quiet (fail)
  go_wp2
  exact bodyPost_ret (v := fndV (z, true, false)) (by simp [fndV, results, Try.results42, go_sem]) rfl ⟨rfl, ((((below_drewN ((Below.refl _ w).alloc (Nat.le_refl _) _) _).setCell (Nat.le_refl _) _).setCell (Nat.le_refl _) _).setCell (Nat.le_refl _) _)⟩
set_option maxHeartbeats 400000 in
theorem least_2 (ad : Addr) (A : Option Addr) (n c c' : Nat) (z : Int) (w : World) (hn : 0 < n) (hlt : ad.block < w.heap.size) (hc : w.cell? ad = some (.int .i64 z)) :
    Calls Try.prog 42 #[.slice A 0 c', .slice (some ad) n c] w fun e w' => e = .returned (fndV (z, false, true)) ∧ Below w.heap.size w w' := by
  have hca := fun o => (World.cell?_alloc_lt w o ad hlt).trans hc
  have hi : ((n : Int) == 0) = false := by simp; omega
  go_enter Try.func42, Try.ntmps42
  go_wp2
  go_quiet (fail)
  go_wp2
  go_quiet (fail)
  go_wp2
  exact bodyPost_ret (v := fndV (z, false, true)) (by simp [fndV, results, Try.results42, go_sem]) rfl ⟨rfl, ((((below_drewN ((Below.refl _ w).alloc (Nat.le_refl _) _) _).setCell (Nat.le_refl _) _).setCell (Nat.le_refl _) _).setCell (Nat.le_refl _) _)⟩
set_option maxHeartbeats 400000 in
theorem least_3 (ad ad' : Addr) (n c n' c' : Nat) (z z' : Int) (w : World) (hn : 0 < n) (hlt : ad.block < w.heap.size) (hc : w.cell? ad = some (.int .i64 z)) (hn' : 0 < n') (hlt' : ad'.block < w.heap.size) (hc' : w.cell? ad' = some (.int .i64 z')) (hz : z < z') :
    Calls Try.prog 42 #[.slice (some ad) n c, .slice (some ad') n' c'] w fun e w' => e = .returned (fndV (z, true, false)) ∧ Below w.heap.size w w' := by
  have hca := fun o => (World.cell?_alloc_lt w o ad hlt).trans hc
  have hcb := fun o => (World.cell?_alloc_lt w o ad' hlt').trans hc'
  have hi : ((n : Int) == 0) = false := by simp; omega
  have hi' : ((n' : Int) == 0) = false := by simp; omega
  go_enter Try.func42, Try.ntmps42
  go_wp2
  go_quiet (fail)
  go_wp2
  exact bodyPost_ret (v := fndV (z, true, false)) (by simp [fndV, results, Try.results42, go_sem]) rfl ⟨rfl, ((((below_drewN ((Below.refl _ w).alloc (Nat.le_refl _) _) _).setCell (Nat.le_refl _) _).setCell (Nat.le_refl _) _).setCell (Nat.le_refl _) _)⟩
set_option maxHeartbeats 400000 in
theorem least_4 (ad ad' : Addr) (n c n' c' : Nat) (z z' : Int) (w : World) (hn : 0 < n) (hlt : ad.block < w.heap.size) (hc : w.cell? ad = some (.int .i64 z)) (hn' : 0 < n') (hlt' : ad'.block < w.heap.size) (hc' : w.cell? ad' = some (.int .i64 z')) (hz : z' < z) :
    Calls Try.prog 42 #[.slice (some ad) n c, .slice (some ad') n' c'] w fun e w' => e = .returned (fndV (z', false, true)) ∧ Below w.heap.size w w' := by
  have hca := fun o => (World.cell?_alloc_lt w o ad hlt).trans hc
  have hcb := fun o => (World.cell?_alloc_lt w o ad' hlt').trans hc'
  have hi : ((n : Int) == 0) = false := by simp; omega
  have hi' : ((n' : Int) == 0) = false := by simp; omega
  go_enter Try.func42, Try.ntmps42
  go_wp2
  go_quiet (fail)
  go_wp2
  go_quiet (fail)
  go_wp2
  exact bodyPost_ret (v := fndV (z', false, true)) (by simp [fndV, results, Try.results42, go_sem]) rfl ⟨rfl, ((((below_drewN ((Below.refl _ w).alloc (Nat.le_refl _) _) _).setCell (Nat.le_refl _) _).setCell (Nat.le_refl _) _).setCell (Nat.le_refl _) _)⟩
set_option maxHeartbeats 400000 in
theorem least_5 (ad ad' : Addr) (n c n' c' : Nat) (z : Int) (w : World) (hn : 0 < n) (hlt : ad.block < w.heap.size) (hc : w.cell? ad = some (.int .i64 z)) (hn' : 0 < n') (hlt' : ad'.block < w.heap.size) (hc' : w.cell? ad' = some (.int .i64 z)) :
    Calls Try.prog 42 #[.slice (some ad) n c, .slice (some ad') n' c'] w fun e w' => e = .returned (fndV (z, true, true)) ∧ Below w.heap.size w w' := by
  have hca := fun o => (World.cell?_alloc_lt w o ad hlt).trans hc
  have hcb := fun o => (World.cell?_alloc_lt w o ad' hlt').trans hc'
  have hi : ((n : Int) == 0) = false := by simp; omega
  have hi' : ((n' : Int) == 0) = false := by simp; omega
  go_enter Try.func42, Try.ntmps42
  go_wp2
  go_quiet (fail)
  go_wp2
  go_quiet (fail)
  go_wp2
  exact bodyPost_ret (v := fndV (z, true, true)) (by simp [fndV, results, Try.results42, go_sem]) rfl ⟨rfl, ((((below_drewN ((Below.refl _ w).alloc (Nat.le_refl _) _) _).setCell (Nat.le_refl _) _).setCell (Nat.le_refl _) _).setCell (Nat.le_refl _) _)⟩

/-- bits.least: the first of what two lists have. -/
theorem least_any (A A' : Option Addr) (n c n' c' : Nat) (zs zs' : List Int) (f : Fnd) (w : World) (hr : Ints w w.heap.size A n c zs) (hr' : Ints w w.heap.size A' n' c' zs')
    (hf : (mrg zs zs').head? = some f) :
    Calls Try.prog 42 #[.slice A n c, .slice A' n' c'] w fun e w' => e = .returned (fndV f) ∧ Below w.heap.size w w' := by
  have hl := hr.1
  have hl' := hr'.1
  have key : ∀ {A n c zs z} , Ints w w.heap.size A n c (z :: zs) → ∃ ad, A = some ad ∧ 0 < n ∧ ad.block < w.heap.size ∧ w.cell? ad = some (.int .i64 z) := by
    intro A n c zs z h
    have h0 : 0 < n := by have := h.1; simp at this; omega
    obtain ⟨ad, u, rfl, hb, hu, _, hc⟩ := h.at_ h0
    simp at hu
    subst hu
    rw [add_zero_] at hc
    exact ⟨ad, rfl, h0, hb, hc⟩
  match zs, zs', hr, hr', hf with
  | [], [], _, _, hf => simp [mrg] at hf
  | z :: zs, [], hr, hr', hf =>
    obtain ⟨ad, rfl, h0, hb, hc⟩ := key hr
    simp [mrg] at hf hl'
    subst hf hl'
    exact least_1 ad A' n c c' z w h0 hb hc
  | [], z :: zs, hr, hr', hf =>
    obtain ⟨ad, rfl, h0, hb, hc⟩ := key hr'
    simp [mrg] at hf hl
    subst hf hl
    exact least_2 ad A n' c' c z w h0 hb hc
  | z :: zs, z' :: zs', hr, hr', hf =>
    obtain ⟨ad, rfl, h0, hb, hc⟩ := key hr
    obtain ⟨ad', rfl, h0', hb', hc'⟩ := key hr'
    rw [mrg] at hf
    by_cases h1 : z < z'
    · rw [if_pos h1] at hf
      simp at hf
      subst hf
      exact least_3 ad ad' n c n' c' z z' w h0 hb hc h0' hb' hc' h1
    · rw [if_neg h1] at hf
      by_cases h2 : z' < z
      · rw [if_pos h2] at hf
        simp at hf
        subst hf
        exact least_4 ad ad' n c n' c' z z' w h0 hb hc h0' hb' hc' h2
      · rw [if_neg h2] at hf
        simp at hf
        subst hf
        obtain rfl : z = z' := by omega
        exact least_5 ad ad' n c n' c' z w h0 hb hc h0' hb' hc'
end Go.Proofs.Ytpfmncdodcbamaa
