/- The law ValueKeys' walk. -/
import Derived.Test.YtpgclgfaiklpoaaDoorShown
namespace Go.Proofs.YtpgclgfaiklpoaaDoor
open Go.RowKit Go.Proofs

theorem itoa_chars (n : Int) : ∀ c ∈ Lib.itoa n, c.toNat = 45 ∨ (48 ≤ c.toNat ∧ c.toNat ≤ 57) := by
  intro c hc
  unfold Lib.itoa at hc
  split at hc
  · rcases List.mem_cons.1 hc with rfl | h
    · exact .inl rfl
    · exact .inr (dec_digs _ c h)
  · exact .inr (dec_digs _ c hc)
theorem numL_odd (l : Bs) (c : UInt8) (hc : c ∈ l) (h1 : c.toNat ≠ 45) (h2 : ¬ (48 ≤ c.toNat ∧ c.toNat ≤ 57)) : numL l = 0 :=
  numL_none l fun n _ e => by
    rcases itoa_chars n c (by rw [e]; exact hc) with h | h
    · exact h1 h
    · exact h2 h

set_option maxRecDepth 100000 in
set_option maxHeartbeats 4000000 in
theorem keys_walk (n : Int) (hn : I64 n) (w : World) (hE : Env w) : Calls Tryd.prog 5 #[.int .i64 n] w fun e w' => e = .returned (.bool true) ∧ Below w.heap.size w w' := by
  have hlen := itoa_len n hn
  have hsz : (kb (Lib.itoa n)).size ≤ 20 := by rw [kb_size]; omega
  have HE := Lib.hid (fun (w' : World) (hb : Below w.heap.size w w') => hE.kept hb)
  have BC := Lib.hid (Below.refl w.heap.size w)
  have HH := Lib.hid (fun w hE => shown_any w hE)
  have HN := Lib.hid (fun w => num_mk n w)
  have HX := Lib.hid (fun s w => text_mk s w)
  have K1 := Lib.hid (fun w hE => key_any (.num n) hn w hE)
  have K2 := Lib.hid (fun w hE => key_any (.text (kb (Lib.itoa n))) (show _ ≤ 281474976710656 by omega) w hE)
  have M1 := Lib.hid (fun w hE => num_any (.text (kb (Lib.itoa n))) (show _ ≤ 281474976710656 by omega) w hE)
  have M2 := Lib.hid (fun w hE => num_any (.num n) hn w hE)
  have M3 := Lib.hid (fun w hE => num_any (.text (kb (Lib.itoa n) ++ ⟨#[32]⟩)) (show ByteArray.size _ ≤ 281474976710656 by rw [ByteArray.size_append]; have : (⟨#[32]⟩ : ByteArray).size = 1 := rfl; omega) w hE)
  have M4 := Lib.hid (fun w hE => num_any (.text (⟨#[43]⟩ ++ kb (Lib.itoa n))) (show ByteArray.size _ ≤ 281474976710656 by rw [ByteArray.size_append]; have : (⟨#[43]⟩ : ByteArray).size = 1 := rfl; omega) w hE)
  have v1 : (J.text (kb (Lib.itoa n))).nr = n := by
    show numL (kb _).data.toList = n
    rw [kb_list, numL_itoa n hn]
  have v3 : (J.text (kb (Lib.itoa n) ++ ⟨#[32]⟩)).nr = 0 := by
    show numL (ByteArray.data _).toList = 0
    exact numL_odd _ 32 (by rw [ByteArray.data_append]; simp) (by decide) (by decide)
  have v4 : (J.text (⟨#[43]⟩ ++ kb (Lib.itoa n))).nr = 0 := by
    show numL (ByteArray.data _).toList = 0
    exact numL_odd _ 43 (by rw [ByteArray.data_append]; simp) (by decide) (by decide)
  rw [v1] at M1
  rw [v3] at M3
  rw [v4] at M4
  simp only [J.v, J.key, J.nr] at HN HX K1 K2 M1 M2 M3 M4
  generalize kb (Lib.itoa n) = S at hsz K1 K2 M1 M3 M4
  have z1 : ¬ 9223372036854775807 < S.size + 1 := by omega
  have z2 : ¬ 9223372036854775807 < 1 + S.size := by omega
  clear v1 v3 v4 hlen hsz hn hE
  go_enter Tryd.func5, Tryd.ntmps5
  go_wp2_with fail
  go_at_call 11
  refine (HH.out _ (HE.out _ BC.out)).mono ?_
  rintro e w1 ⟨rfl, hb⟩
  replace BC := stepE BC.out hb
  clear hb
  go_wp2_with fail
  go_at_call 26
  refine (HN.out _).mono ?_
  rintro e w2 ⟨rfl, hb⟩
  replace BC := stepE BC.out hb
  clear hb
  go_wp2_with fail
  go_at_call 14
  refine (K1.out _ (HE.out _ BC.out)).mono ?_
  rintro e w3 ⟨rfl, hb⟩
  replace BC := stepE BC.out hb
  clear hb
  go_wp2_with (first
    | (go_at_call 26; (with_reducible refine (HN.out _).mono ?_); rintro e wx ⟨rfl, hb⟩; replace BC := stepE BC.out hb; clear hb)
    | (go_at_call 27; (with_reducible refine (HX.out _ _).mono ?_); rintro e wx ⟨rfl, hb⟩; replace BC := stepE BC.out hb; clear hb)
    | (go_at_call 16; (with_reducible refine (M1.out _ (HE.out _ BC.out)).mono ?_); rintro e wx ⟨rfl, hb⟩; replace BC := stepE BC.out hb; clear hb)
    | (go_at_call 16; (with_reducible refine (M2.out _ (HE.out _ BC.out)).mono ?_); rintro e wx ⟨rfl, hb⟩; replace BC := stepE BC.out hb; clear hb)
    | (go_at_call 14; (with_reducible refine (K2.out _ (HE.out _ BC.out)).mono ?_); rintro e wx ⟨rfl, hb⟩; replace BC := stepE BC.out hb; clear hb)
    | (go_at_call 16; (with_reducible refine (M3.out _ (HE.out _ BC.out)).mono ?_); rintro e wx ⟨rfl, hb⟩; replace BC := stepE BC.out hb; clear hb)
    | (go_at_call 16; (with_reducible refine (M4.out _ (HE.out _ BC.out)).mono ?_); rintro e wx ⟨rfl, hb⟩; replace BC := stepE BC.out hb; clear hb))
  go_ret
  exact ⟨rfl, BC.out⟩
end Go.Proofs.YtpgclgfaiklpoaaDoor
