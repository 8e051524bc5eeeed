/-
  The landed span's slices.Replace, where some pairs stay behind and there is room: more than are taken out; and whole.
-/
import Derived.Test.YtpckbmebdhmfaaaSpJ3
namespace Go.Proofs.Ytpckbmebdhmfaaa
open Go.RowKit
section
variable (w : World)
set_option maxRecDepth 100000
set_option maxHeartbeats 4000000
theorem replace_more (g c : Nat) (C : List Value) (bv : Value) (l by_ : List (Nat × Nat)) (i j : Nat) (hB : Blk w g 26 C.toArray) (hC : C.length = c * 2) (hnc : l.length ≤ c) (hc63 : c ≤ 9223372036854775807) (ht : C.take (l.length * 2) = pcs l)
    (hb : w.ownsRow 0 26 2 bv by_.length (pcs by_)) (hne : bv.ownBlock ≠ some g) (hij : i < j) (hj : j < l.length) (hn : l.length ≤ 1000000) (hm : by_.length ≤ 1000000) (hg : i + by_.length + (l.length - j) ≤ c) (hle : j < i + by_.length) :
    Calls Try.prog 31 #[.slice (some ⟨g, 0, none⟩) l.length c, .int .i64 (i : Nat), .int .i64 (j : Nat), bv] w fun e w' => ∃ v', e = .returned v' ∧ RowTo w w' (.slice (some ⟨g, 0, none⟩) l.length c) v' (l.take i ++ by_ ++ l.drop j) := by
  have HB0 := Lib.hid hB
  have HRW : Hid (∀ W, Keep [] w W → Rd W (some ⟨g, 0, none⟩) (pcs l)) := Lib.hid (fun W hk => (Rd.of_own (own_row hB hC hnc hc63 ht)).keep0 hk)
  have HNE := Lib.hid hne
  have hpos : 0 < by_.length := by omega
  rcases own_cases hb with ⟨_, h2⟩ | ⟨gb, cb, CB, rfl, hBb, hCb, hmc, hcb63, htb⟩
  · rw [h2] at hpos; cases hpos
  have hgb : gb ≠ g := fun h => hne (by rw [h]; rfl)
  have HBB := Lib.hid hBb
  have HCB := Lib.hid (show CB.toArray.size ≠ 0 by rw [List.size_toArray, hCb]; omega)
  obtain ⟨Ab, hAb⟩ : ∃ Ab : Option Addr, Ab = some ⟨gb, 0, none⟩ := ⟨_, rfl⟩
  rw [← hAb] at hb hne
  have HAB : Hid (∀ a, Ab = some a → a.block ≠ g) := Lib.hid (fun a ha h => hne (by rw [ha, ← h]; rfl))
  have HC := Lib.hid hC
  have HRB : Hid (∀ W, Keep [] w W → Rd W Ab (pcs by_)) := Lib.hid (fun W hk => (Rd.of_own hb).keep0 hk)
  obtain ⟨n, hnl⟩ : ∃ n, n = l.length := ⟨_, rfl⟩
  obtain ⟨m, hml⟩ : ∃ m, m = by_.length := ⟨_, rfl⟩
  have EP := Lib.hid (show (pcs by_).length = m * 2 by rw [pcs_length, hml])
  have ED := Lib.hid (show (pcs (l.drop j)).length = (n - j) * 2 by rw [pcs_length, List.length_drop, hnl])
  rw [← hnl] at hnc hj hn hg ⊢
  rw [← hml] at hm hg hle ⊢
  have ET := Lib.hid (show (pcs (l.take i)).length = i * 2 by rw [pcs_length, List.length_take_of_le (by omega)])
  obtain ⟨q, hq⟩ : ∃ q, q = i + m + (n - j) := ⟨_, rfl⟩
  rw [← hq] at hg
  have F0 := run_mid2 setN rng2 (some ⟨g, 0, none⟩) n c i j (by omega) (by omega)
  rw [at2_some (by omega), Nat.zero_add] at F0
  have F1 := run_fromP setN rng2 (some ⟨g, 0, none⟩) n c j (by omega)
  rw [at2_some (by omega), Nat.zero_add] at F1
  have F2 := run_upto2 setN rng2 (some ⟨g, 0, none⟩) (fun a ha => by cases ha; rfl) n c i (by omega)
  have HN := Lib.hid (show (l.take i ++ by_ ++ l.drop j).length = q by rw [List.length_append, List.length_append, List.length_take_of_le (by omega), List.length_drop, ← hnl, ← hml]; omega)
  obtain ⟨R, hR⟩ : ∃ R, R = l.take i ++ by_ ++ l.drop j := ⟨_, rfl⟩
  have HR := Lib.hid hR
  rw [← hR] at HN ⊢
  have hi0 : ¬ ((i : Int) = (j : Int)) := by omega
  have hi1 : ((i : Int) == (j : Int)) = false := beq_eq_false_iff_ne.2 hi0
  have hj0 : ¬ ((j : Int) = (n : Int)) := by omega
  have hj1 : ((j : Int) == (n : Int)) = false := beq_eq_false_iff_ne.2 hj0
  have hcc : ¬ (c : Int) < (q : Int) := by omega
  have hlez : ¬ (i : Int) + (m : Int) ≤ (j : Int) := by omega
  have HTK := Lib.hid (show C.take (i * 2) = pcs (l.take i) by rw [← pcs_take, ← ht, List.take_take, Nat.min_eq_left (by omega)])
  have HDR := Lib.hid (show (C.drop (j * 2)).take ((n - j) * 2) = pcs (l.drop j) by rw [← pcs_dropP, ← ht, List.drop_take]; congr 1; omega)
  have F3 := run_fromP setN rng2 (some ⟨g, 0, none⟩) q c i (by omega)
  rw [at2_some (by omega), Nat.zero_add] at F3
  have F4 := run_fromP setN rng2 (some ⟨g, 0, none⟩) q c (i + m) (by omega)
  rw [at2_some (by omega), Nat.zero_add] at F4
  have e4 : ((i + m : Nat) : Int) = (i : Int) + (m : Int) := by omega
  rw [e4] at F4
  have F6 := run_upto2 setN rng2 (some ⟨g, 0, none⟩) (fun a ha => by cases ha; rfl) n c q (by omega)
  have ew1 : IntKind.i64.wrap ((i : Int) + (m : Int)) = (i : Int) + (m : Int) := by rw [IntKind.wrap_i64]; omega
  have ew2 : IntKind.i64.wrap ((i : Int) + (m : Int) + ((n - j : Nat) : Int)) = (q : Int) := by rw [IntKind.wrap_i64]; omega
  have hbq : (i : Int) < (q : Int) ∧ (q : Int) ≤ 3000000 ∧ (i : Int) + (m : Int) ≤ (q : Int) := ⟨by omega, by omega, by omega⟩
  have HQ := Lib.hid hq
  subst hAb
  clear hBb hCb htb hmc hpos hB hC ht hb hnl hml hR hq e4 hne
  go_enter Try.func31, Try.ntmps31
  go_upto_region 9 with fail
  go_quiet (fail)
  obtain ⟨w0, hw0⟩ : ∃ w0, w0 = w.drewN nq := ⟨_, rfl⟩
  have hk0 : Keep [] w w0 := by rw [hw0]; exact (Keep.refl _ _).drewN _
  rw [← hw0]
  clear hw0
  have hq := HQ.out
  have et := ET.out
  have ep := EP.out
  have ed := ED.out
  have hC := HC.out
  have hB0 := HB0.out.keep hk0 (by simp)
  have OV := ov_any w0 g gb ((i + m) * 2) 0 (q - (i + m)) (c - (i + m)) m cb (fun h => hgb h.symm) _ _ hB0 (HBB.out.keep hk0 (by simp)) HCB.out
  have hRd : Rd w0.drew (some ⟨g, j * 2, none⟩) (pcs (l.drop j)) := by
    have h1 : Rd w0 (some ⟨g, 0, none⟩) C := by simpa using Rd.of_blk hB0
    have h2 := (h1.drop (j * 2) (A' := some ⟨g, j * 2, none⟩) (fun _ => by rw [Option.map_some, Addr.add_lit, Nat.zero_add])).take ((n - j) * 2)
    rw [HDR.out] at h2
    exact h2.keep0 (Keep.refl _ _).drew
  obtain ⟨w1, hr1, hB1, hk1, hs1⟩ := run_cp (P := Try.prog) (sT := 42) w0.drew setN rng2 g ((i + m) * 2) (q - (i + m)) (c - (i + m)) (some ⟨g, (i + m) * 2, none⟩) (some ⟨g, j * 2, none⟩) (n - j) (c - j) _ _ hB0.drew (pcs (l.drop j)) (n - j) ⟨by omega, by omega, by omega⟩ ed (fun _ => rfl) hRd (by rw [ed, hC]; omega) (pcs_one_cell _)
  have hl1 : (splice C ((i + m) * 2) (pcs (l.drop j))).length = c * 2 := by rw [splice_len (by rw [ed, hC]; omega), hC]
  have hk1' : Keep [g] w w1 := hk0.more0.drew.trans hk1
  have hRb1 : Rd w1 (some ⟨gb, 0, none⟩) (pcs by_) := (HRB.out w (Keep.refl _ _)).keep hk1' (fun a ha => by cases ha; simpa using hgb)
  obtain ⟨w2, hr2, hB2, hk2, hs2⟩ := run_cp (P := Try.prog) (sT := 42) w1 setN rng2 g (i * 2) (q - i) (c - i) (some ⟨g, i * 2, none⟩) (some ⟨gb, 0, none⟩) m cb _ _ hB1 (pcs by_) m ⟨by omega, by omega, by omega⟩ ep (fun _ => rfl) hRb1 (by rw [ep, hl1]; omega) (pcs_one_cell _)
  have HB3 := Lib.hid hB2
  have HK : Hid (Keep [g] w w2) := Lib.hid (hk1'.trans hk2)
  have HT : Hid (List.take (q * 2) (splice (splice C ((i + m) * 2) (pcs (l.drop j))) (i * 2) (pcs by_)) = pcs R) := by
    refine Lib.hid ?_
    rw [splice_ba (C := C) (a := pcs by_) (b := pcs (l.drop j)) (by rw [ep]; omega) (by rw [ed]; omega) (by rw [hC]; omega), HR.out, HTK.out, pcs_append, pcs_append, List.append_assoc]
  have HL : Hid ((splice (splice C ((i + m) * 2) (pcs (l.drop j))) (i * 2) (pcs by_)).length = c * 2) := Lib.hid (by rw [splice_len (by rw [ep, hl1]; omega), hl1])
  clear hRd hRb1 ep ed et hB0 hB1 hB2 hk0 hk1 hk1' hk2 hs1 hs2 hq hC hl1
  go_upto_region 22 with fail
  go_region_law (refine st_cp rfl _ _ _ _ rfl (.slice (some ⟨g, (i + m) * 2, none⟩) (q - (i + m)) (c - (i + m))) (.slice (some ⟨g, j * 2, none⟩) (n - j) (c - j)) (by simp [Act.eval, Act.put]) (by simp [Act.eval, Act.put]) (hr1 _) ?_)
  all_goals go_simp
  go_wp2_with (at_builtin; refine wl_cp rfl _ _ _ _ rfl _ _ rfl rfl (hr2 _) ?_)
  go_ret
  refine ⟨_, rfl, ?_, HK.out, fun x hx => .inl hx⟩
  have := own_row (l := R) HB3.out HL.out (by rw [HN.out]; exact hg) hc63 (by rw [HN.out]; exact HT.out)
  rw [HN.out] at this ⊢
  exact this
theorem replace_rows (v bv : Value) (l by_ : List (Nat × Nat)) (i j : Nat) (hv : w.ownsRow 0 26 2 v l.length (pcs l)) (hb : w.ownsRow 0 26 2 bv by_.length (pcs by_)) (hne : ∀ g, bv.ownBlock = some g → v.ownBlock ≠ some g) (hij : i ≤ j) (hj : j ≤ l.length) (hn : l.length ≤ 1000000) (hm : by_.length ≤ 1000000) :
    Calls Try.prog 31 #[v, .int .i64 (i : Nat), .int .i64 (j : Nat), bv] w fun e w' => ∃ v', e = .returned v' ∧ RowTo w w' v v' (l.take i ++ by_ ++ l.drop j) := by
  by_cases h1 : i = j
  · subst h1
    exact replace_ins w v bv l by_ i hv hb hne hj hn hm
  · rcases own_cases hv with ⟨_, h2⟩ | ⟨g, c, C, rfl, hB, hC, hmc, hc63, ht⟩
    · rw [h2] at hj; simp at hj; omega
    · by_cases h2 : j = l.length
      · subst h2
        refine (replace_end w g c C bv l by_ i hB hC hmc hc63 ht hb (by omega) hn hm).mono ?_
        rintro e w' ⟨v', rfl, h⟩
        refine ⟨v', rfl, ?_⟩
        rw [List.drop_length, List.append_nil]
        exact h
      · by_cases hg : i + by_.length + (l.length - j) ≤ c
        · by_cases hle : i + by_.length ≤ j
          · exact replace_less w g c C bv l by_ i j hB hC hmc hc63 ht hb (fun h => hne g h rfl) (by omega) (by omega) hn hm hg hle
          · exact replace_more w g c C bv l by_ i j hB hC hmc hc63 ht hb (fun h => hne g h rfl) (by omega) (by omega) hn hm hg (by omega)
        · exact replace_grow w g c C bv l by_ i j hB hC hmc hc63 ht hb (by omega) (by omega) hn hm (by omega)
end
end Go.Proofs.Ytpckbmebdhmfaaa
