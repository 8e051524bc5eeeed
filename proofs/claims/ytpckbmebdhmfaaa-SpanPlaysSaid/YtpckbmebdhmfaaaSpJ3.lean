/-
  The landed span's slices.Replace, where some pairs stay behind and there is room: as many as are taken out at most.
-/
import Derived.Test.YtpckbmebdhmfaaaSpJ2
namespace Go.Proofs.Ytpckbmebdhmfaaa
open Go.RowKit
section
variable (w : World)
set_option maxRecDepth 100000
set_option maxHeartbeats 4000000
theorem replace_less (g c : Nat) (C : List Value) (bv : Value) (l by_ : List (Nat × Nat)) (i j : Nat) (hB : Blk w g 26 C.toArray) (hC : C.length = c * 2) (hnc : l.length ≤ c) (hc63 : c ≤ 9223372036854775807) (ht : C.take (l.length * 2) = pcs l)
    (hb : w.ownsRow 0 26 2 bv by_.length (pcs by_)) (hne : bv.ownBlock ≠ some g) (hij : i < j) (hj : j < l.length) (hn : l.length ≤ 1000000) (hm : by_.length ≤ 1000000) (hg : i + by_.length + (l.length - j) ≤ c) (hle : i + by_.length ≤ j) :
    Calls Try.prog 31 #[.slice (some ⟨g, 0, none⟩) l.length c, .int .i64 (i : Nat), .int .i64 (j : Nat), bv] w fun e w' => ∃ v', e = .returned v' ∧ RowTo w w' (.slice (some ⟨g, 0, none⟩) l.length c) v' (l.take i ++ by_ ++ l.drop j) := by
  have HB0 := Lib.hid hB
  have HRW : Hid (∀ W, Keep [] w W → Rd W (some ⟨g, 0, none⟩) (pcs l)) := Lib.hid (fun W hk => (Rd.of_own (own_row hB hC hnc hc63 ht)).keep0 hk)
  obtain ⟨Ab, cb, rfl⟩ := own_slice hb
  have HAB : Hid (∀ a, Ab = some a → a.block ≠ g) := Lib.hid (fun a ha h => hne (by rw [ha, ← h]; rfl))
  have HC := Lib.hid hC
  have HRB : Hid (∀ W, Keep [] w W → Rd W Ab (pcs by_)) := Lib.hid (fun W hk => (Rd.of_own hb).keep0 hk)
  obtain ⟨n, hnl⟩ : ∃ n, n = l.length := ⟨_, rfl⟩
  obtain ⟨m, hml⟩ : ∃ m, m = by_.length := ⟨_, rfl⟩
  have EP := Lib.hid (show (pcs by_).length = m * 2 by rw [pcs_length, hml])
  have ED := Lib.hid (show (pcs (l.drop j)).length = (n - j) * 2 by rw [pcs_length, List.length_drop, hnl])
  rw [← hnl] at hnc hj hn hg ⊢
  rw [← hml] at hm hg hle ⊢
  have ET := Lib.hid (show (pcs (l.take i)).length = i * 2 by rw [pcs_length, List.length_take_of_le (by omega)])
  obtain ⟨q, hq⟩ : ∃ q, q = i + m + (n - j) := ⟨_, rfl⟩
  rw [← hq] at hg
  have F0 := run_mid2 setN rng2 (some ⟨g, 0, none⟩) n c i j (by omega) (by omega)
  rw [at2_some (by omega), Nat.zero_add] at F0
  have F1 := run_fromP setN rng2 (some ⟨g, 0, none⟩) n c j (by omega)
  rw [at2_some (by omega), Nat.zero_add] at F1
  have F2 := run_upto2 setN rng2 (some ⟨g, 0, none⟩) (fun a ha => by cases ha; rfl) n c i (by omega)
  have HN := Lib.hid (show (l.take i ++ by_ ++ l.drop j).length = q by rw [List.length_append, List.length_append, List.length_take_of_le (by omega), List.length_drop, ← hnl, ← hml]; omega)
  obtain ⟨R, hR⟩ : ∃ R, R = l.take i ++ by_ ++ l.drop j := ⟨_, rfl⟩
  have HR := Lib.hid hR
  rw [← hR] at HN ⊢
  have hi0 : ¬ ((i : Int) = (j : Int)) := by omega
  have hi1 : ((i : Int) == (j : Int)) = false := beq_eq_false_iff_ne.2 hi0
  have hj0 : ¬ ((j : Int) = (n : Int)) := by omega
  have hj1 : ((j : Int) == (n : Int)) = false := beq_eq_false_iff_ne.2 hj0
  have hcc : ¬ (c : Int) < (q : Int) := by omega
  have hlez : (i : Int) + (m : Int) ≤ (j : Int) := by omega
  have HTK := Lib.hid (show C.take (i * 2) = pcs (l.take i) by rw [← pcs_take, ← ht, List.take_take, Nat.min_eq_left (by omega)])
  have HDR := Lib.hid (show (C.drop (j * 2)).take ((n - j) * 2) = pcs (l.drop j) by rw [← pcs_dropP, ← ht, List.drop_take]; congr 1; omega)
  have F5 := run_fromP setN rng2 (some ⟨g, 0, none⟩) n c q (by omega)
  obtain ⟨A5, hA5⟩ : ∃ A5, A5 = at2 (some ⟨g, 0, none⟩) c q := ⟨_, rfl⟩
  rw [← hA5] at F5
  have HA5 := Lib.hid (show 0 < n - q → A5 = some ⟨g, q * 2, none⟩ from fun h => by rw [hA5, at2_some (by omega), Nat.zero_add])
  have F3 := run_fromP setN rng2 (some ⟨g, 0, none⟩) q c i (by omega)
  rw [at2_some (by omega), Nat.zero_add] at F3
  have F4 := run_fromP setN rng2 (some ⟨g, 0, none⟩) q c (i + m) (by omega)
  rw [at2_some (by omega), Nat.zero_add] at F4
  have e4 : ((i + m : Nat) : Int) = (i : Int) + (m : Int) := by omega
  rw [e4] at F4
  have F6 := run_upto2 setN rng2 (some ⟨g, 0, none⟩) (fun a ha => by cases ha; rfl) n c q (by omega)
  have ew1 : IntKind.i64.wrap ((i : Int) + (m : Int)) = (i : Int) + (m : Int) := by rw [IntKind.wrap_i64]; omega
  have ew2 : IntKind.i64.wrap ((i : Int) + (m : Int) + ((n - j : Nat) : Int)) = (q : Int) := by rw [IntKind.wrap_i64]; omega
  have hbq : (i : Int) < (q : Int) ∧ (q : Int) ≤ 3000000 ∧ (i : Int) + (m : Int) ≤ (q : Int) := ⟨by omega, by omega, by omega⟩
  have HQ := Lib.hid hq
  clear hB hC ht hb hnl hml hR hq hA5 e4 hne
  go_enter Try.func31, Try.ntmps31
  go_upto_region 9 with fail
  go_quiet (fail)
  obtain ⟨w0, hw0⟩ : ∃ w0, w0 = w.drewN nq := ⟨_, rfl⟩
  have hk0 : Keep [] w w0 := by rw [hw0]; exact (Keep.refl _ _).drewN _
  rw [← hw0]
  clear hw0
  have hq := HQ.out
  have et := ET.out
  have ep := EP.out
  have ed := ED.out
  have hC := HC.out
  have hB0 := HB0.out.keep hk0 (by simp)
  obtain ⟨w1, hr1, hB1, hk1, hs1⟩ := run_cp (P := Try.prog) (sT := 42) w0 setN rng2 g (i * 2) (q - i) (c - i) (some ⟨g, i * 2, none⟩) Ab m cb _ _ hB0 (pcs by_) m ⟨by omega, by omega, by omega⟩ ep (fun _ => rfl) (HRB.out _ hk0) (by rw [ep, hC]; omega) (pcs_one_cell _)
  have hl1 : (splice C (i * 2) (pcs by_)).length = c * 2 := by rw [splice_len (by rw [ep, hC]; omega), hC]
  have hRd : Rd w1.drew (some ⟨g, j * 2, none⟩) (pcs (l.drop j)) := by
    have h1 : Rd w1 (some ⟨g, 0, none⟩) (splice C (i * 2) (pcs by_)) := by simpa using Rd.of_blk hB1
    have h2 := (h1.drop (j * 2) (A' := some ⟨g, j * 2, none⟩) (fun _ => by rw [Option.map_some, Addr.add_lit, Nat.zero_add])).take ((n - j) * 2)
    rw [drop_splice (by rw [ep, hC]; omega) (by rw [ep]; omega), HDR.out] at h2
    exact h2.keep0 (Keep.refl _ _).drew
  obtain ⟨w2, hr2, hB2, hk2, hs2⟩ := run_cp (P := Try.prog) (sT := 42) w1.drew setN rng2 g ((i + m) * 2) (q - (i + m)) (c - (i + m)) (some ⟨g, (i + m) * 2, none⟩) (some ⟨g, j * 2, none⟩) (n - j) (c - j) _ _ hB1.drew (pcs (l.drop j)) (n - j) ⟨by omega, by omega, by omega⟩ ed (fun _ => rfl) hRd (by rw [ed, hl1]; omega) (pcs_one_cell _)
  have hl2 : (splice (splice C (i * 2) (pcs by_)) ((i + m) * 2) (pcs (l.drop j))).length = c * 2 := by rw [splice_len (by rw [ed, hl1]; omega), hl1]
  obtain ⟨w3, Z, hr3, hZ, hB3, hk3, hs3⟩ := run_cl (P := Try.prog) w2 setN rngZ g (q * 2) (n - q) (c - q) A5 _ _ hB2 HA5.out (by rw [hl2]; omega)
  have HB3 := Lib.hid hB3
  have HK : Hid (Keep [g] w w3) := Lib.hid ((((hk0.more0).trans hk1).drew.trans hk2).trans hk3)
  have HT : Hid (List.take (q * 2) (splice (splice (splice C (i * 2) (pcs by_)) ((i + m) * 2) (pcs (l.drop j))) (q * 2) Z) = pcs R) := by
    refine Lib.hid ?_
    rw [take_splice (by rw [hl2, hZ]; omega) (Nat.le_refl _), splice_ab (C := C) (a := pcs by_) (b := pcs (l.drop j)) (by rw [ep]; omega) (by rw [ed]; omega) (by rw [hC]; omega), HR.out, HTK.out, pcs_append, pcs_append, List.append_assoc]
  have HL : Hid ((splice (splice (splice C (i * 2) (pcs by_)) ((i + m) * 2) (pcs (l.drop j))) (q * 2) Z).length = c * 2) := Lib.hid (by rw [splice_len (by rw [hl2, hZ]; omega), hl2])
  clear hRd ep ed et hB0 hB1 hB2 hB3 hk0 hk1 hk2 hk3 hs1 hs2 hs3 hq hC hl1 hl2 hZ
  go_upto_region 18 with (at_builtin; refine wl_cp rfl _ _ _ _ rfl _ _ rfl rfl (hr1 _) ?_)
  go_region_law (refine st_cp rfl _ _ _ _ rfl (.slice (some ⟨g, (i + m) * 2, none⟩) (q - (i + m)) (c - (i + m))) (.slice (some ⟨g, j * 2, none⟩) (n - j) (c - j)) (by simp [Act.eval, Act.put]) (by simp [Act.eval, Act.put]) (hr2 _) ?_)
  all_goals go_simp
  go_wp2_with (at_builtin; refine wl_cl rfl _ _ rfl _ rfl (hr3 _) ?_)
  go_ret
  refine ⟨_, rfl, ?_, HK.out, fun x hx => .inl hx⟩
  have := own_row (l := R) HB3.out HL.out (by rw [HN.out]; exact hg) hc63 (by rw [HN.out]; exact HT.out)
  rw [HN.out] at this ⊢
  exact this
end
end Go.Proofs.Ytpckbmebdhmfaaa
