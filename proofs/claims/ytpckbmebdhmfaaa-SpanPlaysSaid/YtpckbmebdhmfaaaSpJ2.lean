/-
  The landed span's slices.Replace, where some pairs stay behind those that are taken out.
-/
import Derived.Test.YtpckbmebdhmfaaaSpJ
namespace Go.Proofs.Ytpckbmebdhmfaaa
open Go.RowKit
section
variable (w : World)
set_option maxRecDepth 100000
set_option maxHeartbeats 4000000
theorem replace_grow (g c : Nat) (C : List Value) (bv : Value) (l by_ : List (Nat × Nat)) (i j : Nat) (hB : Blk w g 26 C.toArray) (hC : C.length = c * 2) (hnc : l.length ≤ c) (hc63 : c ≤ 9223372036854775807) (ht : C.take (l.length * 2) = pcs l)
    (hb : w.ownsRow 0 26 2 bv by_.length (pcs by_)) (hij : i < j) (hj : j < l.length) (hn : l.length ≤ 1000000) (hm : by_.length ≤ 1000000) (hg : c < i + by_.length + (l.length - j)) :
    Calls Try.prog 31 #[.slice (some ⟨g, 0, none⟩) l.length c, .int .i64 (i : Nat), .int .i64 (j : Nat), bv] w fun e w' => ∃ v', e = .returned v' ∧ RowTo w w' (.slice (some ⟨g, 0, none⟩) l.length c) v' (l.take i ++ by_ ++ l.drop j) := by
  have HB0 := Lib.hid hB
  have HRW : Hid (∀ W, Keep [] w W → Rd W (some ⟨g, 0, none⟩) (pcs l)) := Lib.hid (fun W hk => (Rd.of_own (own_row hB hC hnc hc63 ht)).keep0 hk)
  obtain ⟨Ab, cb, rfl⟩ := own_slice hb
  have HRB : Hid (∀ W, Keep [] w W → Rd W Ab (pcs by_)) := Lib.hid (fun W hk => (Rd.of_own hb).keep0 hk)
  obtain ⟨n, hnl⟩ : ∃ n, n = l.length := ⟨_, rfl⟩
  obtain ⟨m, hml⟩ : ∃ m, m = by_.length := ⟨_, rfl⟩
  have EP := Lib.hid (show (pcs by_).length = m * 2 by rw [pcs_length, hml])
  have ED := Lib.hid (show (pcs (l.drop j)).length = (n - j) * 2 by rw [pcs_length, List.length_drop, hnl])
  rw [← hnl] at hnc hj hn hg ⊢
  rw [← hml] at hm hg ⊢
  have ET := Lib.hid (show (pcs (l.take i)).length = i * 2 by rw [pcs_length, List.length_take_of_le (by omega)])
  obtain ⟨q, hq⟩ : ∃ q, q = i + m + (n - j) := ⟨_, rfl⟩
  rw [← hq] at hg
  have F0 := run_mid2 setN rng2 (some ⟨g, 0, none⟩) n c i j (by omega) (by omega)
  rw [at2_some (by omega), Nat.zero_add] at F0
  have F1 := run_fromP setN rng2 (some ⟨g, 0, none⟩) n c j (by omega)
  rw [at2_some (by omega), Nat.zero_add] at F1
  have F2 := run_upto2 setN rng2 (some ⟨g, 0, none⟩) (fun a ha => by cases ha; rfl) n c i (by omega)
  have HN := Lib.hid (show (l.take i ++ by_ ++ l.drop j).length = q by rw [List.length_append, List.length_append, List.length_take_of_le (by omega), List.length_drop, ← hnl, ← hml]; omega)
  obtain ⟨R, hR⟩ : ∃ R, R = l.take i ++ by_ ++ l.drop j := ⟨_, rfl⟩
  have HR := Lib.hid hR
  rw [← hR] at HN ⊢
  have hi0 : ¬ ((i : Int) = (j : Int)) := by omega
  have hi1 : ((i : Int) == (j : Int)) = false := beq_eq_false_iff_ne.2 hi0
  have hj0 : ¬ ((j : Int) = (n : Int)) := by omega
  have hj1 : ((j : Int) == (n : Int)) = false := beq_eq_false_iff_ne.2 hj0
  have hcc : (c : Int) < (q : Int) := by omega
  have ew1 : IntKind.i64.wrap ((i : Int) + (m : Int)) = (i : Int) + (m : Int) := by rw [IntKind.wrap_i64]; omega
  have ew2 : IntKind.i64.wrap ((i : Int) + (m : Int) + ((n - j : Nat) : Int)) = (q : Int) := by rw [IntKind.wrap_i64]; omega
  have hbq : (i : Int) < (q : Int) ∧ (q : Int) ≤ 3000000 ∧ (i : Int) + (m : Int) ≤ (q : Int) := ⟨by omega, by omega, by omega⟩
  have HQ := Lib.hid hq
  clear hB hC ht hb hnl hml hR hq
  go_enter Try.func31, Try.ntmps31
  go_upto_region 9 with fail
  go_quiet (fail)
  obtain ⟨w0, hw0⟩ : ∃ w0, w0 = w.drewN nq := ⟨_, rfl⟩
  have hk0 : Keep [] w w0 := by rw [hw0]; exact (Keep.refl _ _).drewN _
  rw [← hw0]
  clear hw0
  have hq := HQ.out
  have et := ET.out
  have ep := EP.out
  have ed := ED.out
  obtain ⟨w1, v1, cap, D, hr1, hv1, hcap, hcap2, hD, hB1, hk1⟩ := run_az w0 setN Try.underlying3 rngI (some ⟨g, 0, none⟩) i c (q - i) (pcs (l.take i)) et (by rw [← pcs_take]; exact (HRW.out _ hk0).take _) (by omega) (by omega) (by omega) (by omega)
  rw [show i + (q - i) = q by omega] at hv1 hcap
  have hk : ((q - i : Nat) : Int) = (q : Int) - (i : Int) := by omega
  rw [hk] at hr1
  obtain ⟨G, hG⟩ : ∃ G, G = w0.heap.size := ⟨_, rfl⟩
  rw [← hG] at hv1 hB1
  have hgG : g < G := by rw [hG]; exact (HB0.out.keep hk0 (by simp)).lt
  have hcap3 : cap ≤ 9223372036854775807 := by simpa [maxLen] using hcap2
  subst hv1
  obtain ⟨w2, hr2, hB2, hk2, hs2⟩ := run_cp (P := Try.prog) (sT := 42) w1 setN rng2 G (i * 2) (q - i) (cap - i) (some ⟨G, i * 2, none⟩) Ab m cb _ _ hB1 (pcs by_) m ⟨by omega, by omega, by omega⟩ ep (fun _ => rfl) (HRB.out _ (hk0.trans hk1)) (by rw [ep, List.length_append, et, hD]; omega) (pcs_one_cell _)
  have hRd : Rd w2.drew (some ⟨g, j * 2, none⟩) (pcs (l.drop j)) := by
    have h1 : Rd w1 (some ⟨g, j * 2, none⟩) (pcs (l.drop j)) := by
      rw [← pcs_dropP]
      exact (HRW.out _ (hk0.trans hk1)).drop (j * 2) (fun _ => by rw [Option.map_some, Addr.add_lit, Nat.zero_add])
    exact (h1.keep hk2 (fun a ha => by cases ha; simp; omega)).keep0 (Keep.refl _ _).drew
  obtain ⟨w3, hr3, hB3, hk3, hs3⟩ := run_cp (P := Try.prog) (sT := 42) w2.drew setN rng2 G ((i + m) * 2) (q - (i + m)) (cap - (i + m)) (some ⟨G, (i + m) * 2, none⟩) (some ⟨g, j * 2, none⟩) (n - j) (c - j) _ _ hB2 (pcs (l.drop j)) (n - j) ⟨by omega, by omega, by omega⟩ ed (fun _ => rfl) hRd (by rw [ed, splice_len (by rw [ep, List.length_append, et, hD]; omega), List.length_append, et, hD]; omega) (pcs_one_cell _)
  have F3 := run_fromP setN rng2 (some ⟨G, 0, none⟩) q cap i (by omega)
  rw [at2_some (by omega), Nat.zero_add] at F3
  have F4 := run_fromP setN rng2 (some ⟨G, 0, none⟩) q cap (i + m) (by omega)
  rw [at2_some (by omega), Nat.zero_add] at F4
  have e4 : ((i + m : Nat) : Int) = (i : Int) + (m : Int) := by omega
  rw [e4] at F4
  have HB3 := Lib.hid hB3
  have HK : Hid (Keep [] w w3) := Lib.hid (((hk0.trans hk1).trans' hk2 (fun x hx => .inr (by rw [List.mem_singleton.1 hx, hG]; exact hk0.size))).drew.trans' hk3 (fun x hx => .inr (by rw [List.mem_singleton.1 hx, hG]; exact hk0.size)))
  have HT : Hid (List.take (q * 2) (splice (splice (pcs (l.take i) ++ D) (i * 2) (pcs by_)) ((i + m) * 2) (pcs (l.drop j))) = pcs R) := by
    refine Lib.hid ?_
    rw [splice_ab (C := pcs (l.take i) ++ D) (a := pcs by_) (b := pcs (l.drop j)) (by rw [ep]; omega) (by rw [ed]; omega) (by rw [List.length_append, et, hD]; omega), HR.out, pcs_append, pcs_append, List.append_assoc, ← et, List.take_left]
  have HL : Hid ((splice (splice (pcs (l.take i) ++ D) (i * 2) (pcs by_)) ((i + m) * 2) (pcs (l.drop j))).length = cap * 2) := by
    refine Lib.hid ?_
    rw [splice_len (by rw [ed, splice_len (by rw [ep, List.length_append, et, hD]; omega), List.length_append, et, hD]; omega), splice_len (by rw [ep, List.length_append, et, hD]; omega), List.length_append, et, hD]
    omega
  have HG := Lib.hid (show w.heap.size ≤ G by rw [hG]; exact hk0.size)
  clear hRd ep ed et hB1 hB2 hB3 hk0 hk1 hk2 hk3 hs2 hs3 hD hG hk e4 hq
  go_upto_region 13 with (first
    | (at_builtin; refine wl_ap rfl _ _ _ _ rfl _ _ rfl rfl (hr1 _) ?_)
    | (at_builtin; refine wl_cp rfl _ _ _ _ rfl _ _ rfl rfl (hr2 _) ?_))
  go_region_law (refine st_cp rfl _ _ _ _ rfl (.slice (some ⟨G, (i + m) * 2, none⟩) (q - (i + m)) (cap - (i + m))) (.slice (some ⟨g, j * 2, none⟩) (n - j) (c - j)) (by simp [Act.eval, Act.put]) (by simp [Act.eval, Act.put]) (hr3 _) ?_)
  all_goals go_simp
  go_wp2_with fail
  go_ret
  refine ⟨_, rfl, ?_, HK.out.more0, fun x hx => .inr ?_⟩
  · have := own_row (l := R) HB3.out HL.out (by rw [HN.out]; exact hcap) hcap3 (by rw [HN.out]; exact HT.out)
    rw [HN.out] at this ⊢
    exact this
  · obtain rfl : G = x := Option.some.inj hx
    exact HG.out
end
end Go.Proofs.Ytpckbmebdhmfaaa
