/-
  The landed span's slices.Replace: the pairs from place i to below place j, taken out of a row, and others put there.
-/
import Derived.Test.YtpckbmebdhmfaaaSpI
namespace Go.Proofs.Ytpckbmebdhmfaaa
open Go.RowKit

/-- Appended where there is room. -/
theorem run_ar {P : Program} {t e : TypeId} (w : World) (ht : P.underlying t = some (.slice e)) (hi : (P.info? e).map (·.size) = some 2) (g n c : Nat) (As : Option Addr) (m cs_ : Nat) (C : List Value) (tt : TypeId) (hB : Blk w g tt C.toArray) (cs : List Value)
    (hn : cs.length = m * 2) (hr : Rd w As cs) (hroom : n + m ≤ c) (hC : C.length = c * 2) (h1 : ∀ v ∈ cs, v.oneCell' = true) (h2 : P.underlying t = some (.slice e) → ∀ k, P.underlying t ≠ some (.int k)) :
    ∃ w', (∀ ty, (Builtin.append_ #[t, t] ty #[.slice (some ⟨g, 0, none⟩) n c, .slice As m cs_]).run P w = .ok (.slice (some ⟨g, 0, none⟩) (n + m) c) w') ∧ Blk w' g tt (splice C (n * 2) cs).toArray ∧ Keep [g] w w' ∧ w'.heap.size = w.heap.size := by
  obtain ⟨i, hi1, hi2⟩ := Option.map_eq_some_iff.1 hi
  by_cases h0 : cs.length = 0
  · obtain rfl : cs = [] := List.eq_nil_of_length_eq_zero h0
    obtain rfl : m = 0 := by rw [List.length_nil] at hn; omega
    have hl : ∀ (x : Addr), (loadCells x 0).run P w = .ok #[] w := fun x => by simpa using run_loadCells_list (P := P) w x [] (by simp)
    refine ⟨w, fun ty => ?_, by simpa [splice] using hB, Keep.refl _ _, rfl⟩
    have hr' : n ≤ c := by omega
    cases As <;> simp [Builtin.append_, run_underlying ht, Builtin.lenOf, Builtin.firstCells, sizeOf, typeInfo, hi1, storeCells, hl, hr']
  · obtain ⟨b, o', rfl, hc⟩ := hr (by omega)
    have hl := run_loadCells_list (P := P) w ⟨b, o', none⟩ cs (fun j v hv => by rw [Addr.add_lit]; exact hc j v hv)
    have hst := run_storeCells_at P g (n * 2) tt cs 0 C.toArray w hB (by simp only [Nat.add_zero, List.size_toArray]; omega) h1
    refine ⟨w.setRow g (C.toArray.toList.take (n * 2) ++ cs ++ C.toArray.toList.drop (n * 2 + cs.length)).toArray, fun ty => ?_, ?_, ?_, by simp⟩
    · rw [hn] at hl
      simp only [Nat.add_zero] at hst
      simp [Builtin.append_, run_underlying ht, Builtin.lenOf, Builtin.firstCells, sizeOf, typeInfo, hi1, hi2, hl, hst, hroom, Addr.add_lit]
    · simpa [splice, Blk] using setRow_heap w g _ _ tt _ hB
    · exact ⟨rfl, rfl, rfl, by simp, fun k _ hk => setRow_other w g k _ (by simpa using hk)⟩

section
variable (w : World)
set_option maxRecDepth 100000
set_option maxHeartbeats 4000000
theorem replace_ins (v bv : Value) (l by_ : List (Nat × Nat)) (i : Nat) (hv : w.ownsRow 0 26 2 v l.length (pcs l)) (hb : w.ownsRow 0 26 2 bv by_.length (pcs by_)) (hne : ∀ g, bv.ownBlock = some g → v.ownBlock ≠ some g) (hi : i ≤ l.length) (hn : l.length ≤ 1000000) (hm : by_.length ≤ 1000000) :
    Calls Try.prog 31 #[v, .int .i64 (i : Nat), .int .i64 (i : Nat), bv] w fun e w' => ∃ v', e = .returned v' ∧ RowTo w w' v v' (l.take i ++ by_ ++ l.drop i) := by
  have IN := Lib.hid (insert_any w v bv l by_ i hv hb hne hi hn hm)
  obtain ⟨R, hR⟩ : ∃ R, R = l.take i ++ by_ ++ l.drop i := ⟨_, rfl⟩
  rw [← hR] at IN ⊢
  have hc : ∀ A c, v = .slice A l.length c → l.length ≤ c := fun A c h => by
    rcases own_cases hv with ⟨h1, h2⟩ | ⟨g, c', C, h1, _, _, h2, _⟩
    · rw [h] at h1; simp only [Value.slice.injEq] at h1; omega
    · rw [h] at h1; simp only [Value.slice.injEq] at h1; omega
  obtain ⟨A, c, rfl⟩ := own_slice hv
  obtain ⟨Ab, cb, rfl⟩ := own_slice hb
  have hcc := hc A c rfl
  have F1 := run_mid2 setN rng2 A l.length c i i (Nat.le_refl _) (by omega)
  obtain ⟨A1, hA1⟩ : ∃ A1, A1 = at2 A c i := ⟨_, rfl⟩
  rw [← hA1] at F1
  clear hv hb hA1 hR hc hne
  go_enter Try.func31, Try.ntmps31
  go_wp2_with (go_at_call 41; with_reducible refine IN.out.mono ?_; rintro e w1 ⟨v', rfl, h⟩; have H := Lib.hid h; clear h)
  go_ret
  exact ⟨v', rfl, H.out⟩
theorem replace_end (g c : Nat) (C : List Value) (bv : Value) (l by_ : List (Nat × Nat)) (i : Nat) (hB : Blk w g 26 C.toArray) (hC : C.length = c * 2) (hnc : l.length ≤ c) (hc63 : c ≤ 9223372036854775807) (ht : C.take (l.length * 2) = pcs l)
    (hb : w.ownsRow 0 26 2 bv by_.length (pcs by_)) (hi : i < l.length) (hn : l.length ≤ 1000000) (hm : by_.length ≤ 1000000) :
    Calls Try.prog 31 #[.slice (some ⟨g, 0, none⟩) l.length c, .int .i64 (i : Nat), .int .i64 (l.length : Nat), bv] w fun e w' => ∃ v', e = .returned v' ∧ RowTo w w' (.slice (some ⟨g, 0, none⟩) l.length c) v' (l.take i ++ by_) := by
  obtain ⟨Ab, cb, rfl⟩ := own_slice hb
  have hRb := Rd.of_own hb
  have htk : C.take (i * 2) = pcs (l.take i) := by rw [← pcs_take, ← ht, List.take_take, Nat.min_eq_left (by omega)]
  have hown : w.ownsRow 0 26 2 (.slice (some ⟨g, 0, none⟩) i c) i (pcs (l.take i)) := by
    have hl : (l.take i).length = i := List.length_take_of_le (by omega)
    have := own_row (l := l.take i) hB hC (by omega) hc63 (by rw [hl]; exact htk)
    rwa [hl] at this
  obtain ⟨n, hnl⟩ : ∃ n, n = l.length := ⟨_, rfl⟩
  obtain ⟨m, hml⟩ : ∃ m, m = by_.length := ⟨_, rfl⟩
  have ep : (pcs by_).length = m * 2 := by rw [pcs_length, hml]
  rw [← hnl] at hnc hi hn ht ⊢
  rw [← hml] at hm ⊢
  have F1 := run_mid2 setN rng2 (some ⟨g, 0, none⟩) n c i n (by omega) hnc
  rw [at2_some (by omega), Nat.zero_add] at F1
  have F2 := run_upto2 setN rng2 (some ⟨g, 0, none⟩) (fun a ha => by cases ha; rfl) n c i (by omega)
  have hi0 : ¬ ((i : Int) = (n : Int)) := by omega
  have hi1 : ((i : Int) == (n : Int)) = false := beq_eq_false_iff_ne.2 hi0
  have HN := Lib.hid (show (l.take i ++ by_).length = i + m by rw [List.length_append, List.length_take_of_le (by omega), ← hml])
  have HEP := Lib.hid ep
  obtain ⟨R, hR⟩ : ∃ R, R = l.take i ++ by_ := ⟨_, rfl⟩
  have HRR := Lib.hid hR
  rw [← hR] at HN ⊢
  by_cases hroom : i + m ≤ c
  · obtain ⟨w1, hr1, hB1, hk1, hs1⟩ := run_ar (P := Try.prog) w setN rng2 g i c Ab m cb C _ hB (pcs by_) ep hRb hroom hC (pcs_one_cell _) (fun h k h' => by rw [h] at h'; cases h')
    have htk1 : (splice C (i * 2) (pcs by_)).take ((i + m) * 2) = pcs R := by
      rw [splice_over (by rw [ep]; omega) (by rw [hC]; omega), htk, hR, pcs_append]
    have hl1 : (splice C (i * 2) (pcs by_)).length = c * 2 := by rw [splice_len (by rw [ep, hC]; omega), hC]
    by_cases hlt : i + m < n
    · have F3 := run_fromP setN rng2 (some ⟨g, 0, none⟩) n c (i + m) (by omega)
      rw [at2_some (by omega), Nat.zero_add] at F3
      have e3 : ((i + m : Nat) : Int) = (i : Int) + (m : Int) := by omega
      rw [e3] at F3
      obtain ⟨w2, Z, hr2, hZ, hB2, hk2, hs2⟩ := run_cl (P := Try.prog) w1 setN rngZ g ((i + m) * 2) (n - (i + m)) (c - (i + m)) (some ⟨g, (i + m) * 2, none⟩) _ _ hB1 (fun _ => rfl) (by rw [hl1]; omega)
      have HB2 := Lib.hid hB2
      have HK := Lib.hid (hk1.trans hk2)
      have HT : Hid (List.take ((i + m) * 2) (splice (splice C (i * 2) (pcs by_)) ((i + m) * 2) Z) = pcs R) := Lib.hid (by rw [take_splice (by rw [hl1, hZ]; omega) (Nat.le_refl _), htk1])
      have HL : Hid ((splice (splice C (i * 2) (pcs by_)) ((i + m) * 2) Z).length = c * 2) := Lib.hid (by rw [splice_len (by rw [hl1, hZ]; omega), hl1])
      have hcc : (i : Int) + (m : Int) < (n : Int) := by omega
      clear hRb hown htk htk1 hl1 hB hb ep hB1 hB2 hk1 hk2 hs1 hs2 hnl hml ht hC hR e3 hZ
      go_enter Try.func31, Try.ntmps31
      go_wp2_with (first
        | (at_builtin; refine wl_ap rfl _ _ _ _ rfl _ _ rfl rfl (hr1 _) ?_)
        | (at_builtin; refine wl_cl rfl _ _ rfl _ rfl (hr2 _) ?_))
      go_ret
      refine ⟨_, rfl, ?_, HK.out, fun x hx => .inl hx⟩
      have := own_row (l := R) HB2.out HL.out (by rw [HN.out]; exact hroom) hc63 (by rw [HN.out]; exact HT.out)
      rw [HN.out] at this ⊢
      exact this
    · have HB1 := Lib.hid hB1
      have HK := Lib.hid hk1
      have HT := Lib.hid htk1
      have HL := Lib.hid hl1
      have hcc : ¬ (i : Int) + (m : Int) < (n : Int) := by omega
      clear hRb hown htk htk1 hl1 hB hb ep hB1 hk1 hs1 hnl hml ht hC hR
      go_enter Try.func31, Try.ntmps31
      go_wp2_with (at_builtin; refine wl_ap rfl _ _ _ _ rfl _ _ rfl rfl (hr1 _) ?_)
      go_ret
      refine ⟨_, rfl, ?_, HK.out, fun x hx => .inl hx⟩
      have := own_row (l := R) HB1.out HL.out (by rw [HN.out]; exact hroom) hc63 (by rw [HN.out]; exact HT.out)
      rw [HN.out] at this ⊢
      exact this
  · have HOWN := Lib.hid hown
    have HRB := Lib.hid hRb
    have hcc : ¬ (i : Int) + (m : Int) < (n : Int) := by omega
    clear hRb hown htk hB hb ep hnl hml ht hC hR
    go_enter Try.func31, Try.ntmps31
    go_wp2_with (at_builtin; refine wl_append _ rfl _ _ 42 rfl 0 26 _ 2 16 setN rngI rfl (by decide) _ i (pcs (l.take i)) rfl HOWN.out _ m cb (pcs by_) rfl HEP.out HRB.out (pcs_one_cell by_) (by simp only [maxLen]; omega) (by omega) (Nat.zero_le _) ?_; intro v' w' hw1 hw2 hw3; have HW1 := Lib.hid hw1; have HW2 := Lib.hid hw2; have HW3 := Lib.hid hw3; obtain ⟨A', c', rfl⟩ := own_slice hw1; clear hw1 hw2 hw3)
    go_ret
    refine ⟨_, rfl, ?_, HW2.out, fun x hx => ?_⟩
    · rw [HN.out, HRR.out, pcs_append]; exact HW1.out
    · rcases HW3.out with h | h
      · exact .inl (h ▸ hx)
      · exact .inr (Nat.le_of_eq (Option.some.inj (h.symm.trans hx)))
end
end Go.Proofs.Ytpckbmebdhmfaaa
