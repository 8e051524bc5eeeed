/-
  The landed span's slices.Delete: the first k pairs, taken out of a row.
-/
import Derived.Test.YtpckbmebdhmfaaaSpJ
namespace Go.Proofs.Ytpckbmebdhmfaaa
open Go.RowKit
section
variable (w : World)
set_option maxRecDepth 100000
set_option maxHeartbeats 4000000
theorem delete_none (v : Value) (l : List (Nat × Nat)) (hv : w.ownsRow 0 26 2 v l.length (pcs l)) (hn : l.length ≤ 2000000) :
    Calls Try.prog 33 #[v, .int .i64 0, .int .i64 0] w fun e w' => e = .returned v ∧ w' = w := by
  have hc : ∀ A c, v = .slice A l.length c → l.length ≤ c := fun A c h => by
    rcases own_cases hv with ⟨h1, h2⟩ | ⟨g, c', C, h1, _, _, h2, _⟩
    · rw [h] at h1; simp only [Value.slice.injEq] at h1; omega
    · rw [h] at h1; simp only [Value.slice.injEq] at h1; omega
  obtain ⟨A, c, rfl⟩ := own_slice hv
  have hcc := hc A c rfl
  have F1 := run_three2 setN rng2 A l.length c 0 0 l.length (Nat.le_refl _) (Nat.zero_le _) hcc
  rw [show ((0 : Nat) : Int) = 0 from rfl] at F1
  obtain ⟨A1, hA1⟩ : ∃ A1, A1 = at2 A l.length 0 := ⟨_, rfl⟩
  rw [← hA1] at F1
  clear hv hc hA1
  go_enter Try.func33, Try.ntmps33
  go_wp2_with fail
  go_ret
  exact ⟨rfl, rfl⟩
theorem delete_some (g c k : Nat) (C : List Value) (l : List (Nat × Nat)) (hB : Blk w g 26 C.toArray) (hC : C.length = c * 2) (hnc : l.length ≤ c) (hc63 : c ≤ 9223372036854775807) (ht : C.take (l.length * 2) = pcs l) (hk : 0 < k) (hkn : k ≤ l.length) (hn : l.length ≤ 2000000) :
    Calls Try.prog 33 #[.slice (some ⟨g, 0, none⟩) l.length c, .int .i64 0, .int .i64 (k : Nat)] w fun e w' => ∃ v', e = .returned v' ∧ RowTo w w' (.slice (some ⟨g, 0, none⟩) l.length c) v' (l.drop k) := by
  have hDR : (C.drop (k * 2)).take ((l.length - k) * 2) = pcs (l.drop k) := by rw [← pcs_dropP, ← ht, List.drop_take]; congr 1; omega
  obtain ⟨n, hnl⟩ : ∃ n, n = l.length := ⟨_, rfl⟩
  obtain ⟨d, hd⟩ : ∃ d, d = n - k := ⟨_, rfl⟩
  have ed : (pcs (l.drop k)).length = d * 2 := by rw [pcs_length, List.length_drop, hd, hnl]
  have HN := Lib.hid (show (l.drop k).length = d by rw [List.length_drop, hd, hnl])
  obtain ⟨R, hR⟩ : ∃ R, R = l.drop k := ⟨_, rfl⟩
  rw [← hnl, ← hd, ← hR] at hDR
  rw [← hR] at ed HN ⊢
  rw [← hnl] at hnc hkn hn ⊢
  have F0 := run_three2 setN rng2 (some ⟨g, 0, none⟩) n c 0 k n (Nat.zero_le _) hkn hnc
  rw [show ((0 : Nat) : Int) = 0 from rfl] at F0
  obtain ⟨A0, hA0⟩ : ∃ A0, A0 = at2 (some ⟨g, 0, none⟩) n 0 := ⟨_, rfl⟩
  rw [← hA0] at F0
  have F1 := run_upto2 setN rng2 (some ⟨g, 0, none⟩) (fun a ha => by cases ha; rfl) n c 0 (Nat.zero_le _)
  rw [show ((0 : Nat) : Int) = 0 from rfl] at F1
  have F2 := run_fromP setN rng2 (some ⟨g, 0, none⟩) n c k hkn
  obtain ⟨A2, hA2⟩ : ∃ A2, A2 = at2 (some ⟨g, 0, none⟩) c k := ⟨_, rfl⟩
  rw [← hA2, ← hd] at F2
  have hA2' : 0 < d → A2 = some ⟨g, k * 2, none⟩ := fun h => by rw [hA2, at2_some (by omega), Nat.zero_add]
  have hRd : Rd w.drew A2 (pcs R) := by
    intro hp
    have h1 : Rd w.drew (some ⟨g, 0, none⟩) C := by simpa using Rd.of_blk hB.drew
    have h2 := (h1.drop (k * 2) (A' := some ⟨g, k * 2, none⟩) (fun _ => by rw [Option.map_some, Addr.add_lit, Nat.zero_add])).take (d * 2)
    rw [hDR] at h2
    rw [hA2' (by omega)]
    exact h2 hp
  obtain ⟨w1, hr1, hB1, hk1, hs1⟩ := run_ar (P := Try.prog) w.drew setN rng2 g 0 c A2 d (c - k) C _ hB.drew (pcs R) ed hRd (by omega) hC (pcs_one_cell _) (fun h k h' => by rw [h] at h'; cases h')
  rw [Nat.zero_add] at hr1
  rw [Nat.zero_mul] at hB1
  have hl1 : (splice C 0 (pcs R)).length = c * 2 := by rw [splice_len (by rw [ed, hC]; omega), hC]
  have F3 := run_mid2 setN rng2 (some ⟨g, 0, none⟩) d c d n (by omega) hnc
  rw [at2_some (by omega), Nat.zero_add] at F3
  obtain ⟨w2, Z, hr2, hZ, hB2, hk2, hs2⟩ := run_cl (P := Try.prog) w1 setN rngZ g (d * 2) (n - d) (c - d) (some ⟨g, d * 2, none⟩) _ _ hB1 (fun _ => rfl) (by rw [hl1]; omega)
  have HB2 := Lib.hid hB2
  have HK := Lib.hid (((Keep.refl [g] w).drew.trans hk1).trans hk2)
  have HT : Hid (List.take (d * 2) (splice (splice C 0 (pcs R)) (d * 2) Z) = pcs R) := Lib.hid (by rw [take_splice (by rw [hl1, hZ]; omega) (Nat.le_refl _), splice_over (by rw [ed]; omega) (by rw [hC]; omega)]; simp)
  have HL : Hid ((splice (splice C 0 (pcs R)) (d * 2) Z).length = c * 2) := Lib.hid (by rw [splice_len (by rw [hl1, hZ]; omega), hl1])
  have hk0 : ¬ ((0 : Int) = (k : Int)) := by omega
  have hk0' : ((0 : Int) == (k : Int)) = false := beq_eq_false_iff_ne.2 hk0
  have hbn : (0 : Int) ≤ k ∧ (k : Int) ≤ n ∧ (d : Int) ≤ n := ⟨by omega, by omega, by omega⟩
  have hdc : d ≤ c := by omega
  clear hDR ed hRd hB1 hB2 hk1 hk2 hs1 hs2 hl1 hB hC ht hnl hd hR hA0 hA2 hA2' hZ
  go_enter Try.func33, Try.ntmps33
  go_upto_region 5 with fail
  go_region_law (refine st_ap rfl _ _ _ _ rfl (.slice (some ⟨g, 0, none⟩) 0 c) (.slice A2 d (c - k)) (by simp [Act.eval, Act.put]) (by simp [Act.eval, Act.put]) (hr1 _) ?_)
  all_goals go_simp
  go_wp2_with (at_builtin; refine wl_cl rfl _ _ rfl _ rfl (hr2 _) ?_)
  go_ret
  refine ⟨_, rfl, ?_, HK.out, fun x hx => .inl hx⟩
  have := own_row (l := R) HB2.out HL.out (by rw [HN.out]; exact hdc) hc63 (by rw [HN.out]; exact HT.out)
  rw [HN.out] at this ⊢
  exact this
theorem delete_rows (v : Value) (l : List (Nat × Nat)) (k : Nat) (hv : w.ownsRow 0 26 2 v l.length (pcs l)) (hk : k ≤ l.length) (hn : l.length ≤ 2000000) :
    Calls Try.prog 33 #[v, .int .i64 0, .int .i64 (k : Nat)] w fun e w' => ∃ v', e = .returned v' ∧ RowTo w w' v v' (l.drop k) := by
  by_cases h0 : k = 0
  · subst h0
    refine (delete_none w v l hv hn).mono ?_
    rintro e w' ⟨rfl, rfl⟩
    exact ⟨v, rfl, hv, Keep.refl _ _, fun g hg => .inl hg⟩
  · rcases own_cases hv with ⟨_, h2⟩ | ⟨g, c, C, rfl, hB, hC, hmc, hc63, ht⟩
    · rw [h2] at hk; simp at hk; omega
    · exact delete_some w g c k C l hB hC hmc hc63 ht (by omega) hk hn
end
end Go.Proofs.Ytpckbmebdhmfaaa
