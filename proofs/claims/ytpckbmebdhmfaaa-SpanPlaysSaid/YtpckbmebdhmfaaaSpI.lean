/-
  The landed span's slices.Insert: some pairs put into a row, behind the first i.
-/
import Derived.Test.YtpckbmebdhmfaaaSpN6
namespace Go.Proofs.Ytpckbmebdhmfaaa
open Go.RowKit

/-- Behind a call that may have turned v's row: v' reads as l', in v's row or in a new one. -/
def RowTo (w w' : World) (v v' : Value) (l' : List (Nat × Nat)) : Prop :=
  w'.ownsRow 0 26 2 v' l'.length (pcs l') ∧ Keep v.ownBlock.toList w w' ∧ ∀ g, v'.ownBlock = some g → v.ownBlock = some g ∨ w.heap.size ≤ g
theorem own_cases {w : World} {v : Value} {l : List (Nat × Nat)} (h : w.ownsRow 0 26 2 v l.length (pcs l)) :
    (v = .slice none 0 0 ∧ l = []) ∨ ∃ g c C, v = .slice (some ⟨g, 0, none⟩) l.length c ∧ Blk w g 26 (List.toArray C) ∧ C.length = c * 2 ∧ l.length ≤ c ∧ c ≤ 9223372036854775807 ∧ C.take (l.length * 2) = pcs l := by
  rcases h.2 with ⟨h1, h2⟩ | ⟨g, c, cur, h1, _, h2, h3, h4, h5, h6⟩
  · exact .inl ⟨h1, List.eq_nil_of_length_eq_zero h2⟩
  · exact .inr ⟨g, c, cur.toList, h1, by simpa [Blk] using h2, by simpa using h5, h3, by simpa [maxLen] using h4, h6⟩
theorem own_row {w : World} {g c : Nat} {C : List Value} {l : List (Nat × Nat)} (h : Blk w g 26 C.toArray) (hC : C.length = c * 2) (hl : l.length ≤ c) (hc : c ≤ 9223372036854775807) (ht : C.take (l.length * 2) = pcs l) : w.ownsRow 0 26 2 (.slice (some ⟨g, 0, none⟩) l.length c) l.length (pcs l) :=
  ⟨pcs_length l, .inr ⟨g, c, C.toArray, rfl, Nat.zero_le _, h, hl, by simpa [maxLen] using hc, by simpa using hC, by simpa using ht⟩⟩

section
variable (w : World)
set_option maxRecDepth 100000
set_option maxHeartbeats 4000000
theorem insert_end (v bv : Value) (l by_ : List (Nat × Nat)) (hv : w.ownsRow 0 26 2 v l.length (pcs l)) (hb : w.ownsRow 0 26 2 bv by_.length (pcs by_)) (hn : l.length ≤ 1000000) (hm : by_.length ≤ 1000000) (h0 : 0 < by_.length) :
    Calls Try.prog 41 #[v, .int .i64 (l.length : Nat), bv] w fun e w' => ∃ v', e = .returned v' ∧ RowTo w w' v v' (l ++ by_) := by
  obtain ⟨A, c, rfl⟩ := own_slice hv
  obtain ⟨Ab, cb, rfl⟩ := own_slice hb
  have HV := Lib.hid hv
  have HR := Lib.hid (Rd.of_own hb)
  have hc : l.length ≤ c := by
    rcases own_cases hv with ⟨h1, h2⟩ | ⟨g, c', C, h1, _, _, h2, _⟩
    · simp only [Value.slice.injEq] at h1; omega
    · simp only [Value.slice.injEq] at h1; omega
  have F1 := run_fromP setN rng2 A l.length c l.length (Nat.le_refl _)
  obtain ⟨A1, hA1⟩ : ∃ A1, A1 = at2 A c l.length := ⟨_, rfl⟩
  rw [← hA1] at F1
  have HL := Lib.hid (show (l ++ by_).length = l.length + by_.length from List.length_append)
  have HLL := Lib.hid hn
  have HMM := Lib.hid hm
  obtain ⟨n, hnl⟩ : ∃ n, n = l.length := ⟨_, rfl⟩
  obtain ⟨m, hml⟩ : ∃ m, m = by_.length := ⟨_, rfl⟩
  rw [← hnl] at F1 hc hn HV HL ⊢
  rw [← hml] at hm h0 HL ⊢
  have HML := Lib.hid hml
  have hm0 : ¬ ((m : Int) = 0) := by omega
  have hm1 : ((m : Int) == 0) = false := beq_eq_false_iff_ne.2 hm0
  clear hv hb hA1 hnl hml
  go_enter Try.func41, Try.ntmps41
  go_wp2_with (at_builtin; refine wl_append _ rfl _ _ 42 rfl 0 26 _ 2 16 setN rngI rfl (by decide) _ n (pcs l) rfl HV.out _ m cb (pcs by_) rfl (by rw [pcs_length, HML.out]) HR.out (pcs_one_cell by_) (by simp only [maxLen]; omega) (by omega) (Nat.zero_le _) ?_; intro v' w' hw1 hw2 hw3; have HW1 := Lib.hid hw1; have HW2 := Lib.hid hw2; have HW3 := Lib.hid hw3; clear hw1 hw2 hw3)
  go_ret
  refine ⟨v', rfl, ?_, HW2.out, fun g hg => ?_⟩
  · rw [HL.out, pcs_append]; exact HW1.out
  · rcases HW3.out with h | h
    · exact .inl (h ▸ hg)
    · rw [hg] at h; exact .inr (Nat.le_of_eq (Option.some.inj h).symm)
theorem insert_none (v bv : Value) (l : List (Nat × Nat)) (i : Nat) (hv : w.ownsRow 0 26 2 v l.length (pcs l)) (hb : w.ownsRow 0 26 2 bv 0 []) (hi : i ≤ l.length) (hn : l.length ≤ 1000000) :
    Calls Try.prog 41 #[v, .int .i64 (i : Nat), bv] w fun e w' => e = .returned v ∧ w' = w := by
  obtain ⟨A, c, rfl⟩ := own_slice hv
  obtain ⟨Ab, cb, rfl⟩ := own_slice hb
  have F1 := run_fromP setN rng2 A l.length c i hi
  obtain ⟨A1, hA1⟩ : ∃ A1, A1 = at2 A c i := ⟨_, rfl⟩
  rw [← hA1] at F1
  clear hv hb hA1
  go_enter Try.func41, Try.ntmps41
  go_wp2_with fail
  go_ret
  exact ⟨rfl, rfl⟩
theorem insert_grow (g c : Nat) (C : List Value) (bv : Value) (l by_ : List (Nat × Nat)) (i : Nat) (hB : Blk w g 26 C.toArray) (hC : C.length = c * 2) (hnc : l.length ≤ c) (hc63 : c ≤ 9223372036854775807) (ht : C.take (l.length * 2) = pcs l)
    (hb : w.ownsRow 0 26 2 bv by_.length (pcs by_)) (hi : i < l.length) (hn : l.length ≤ 1000000) (hm : by_.length ≤ 1000000) (h0 : 0 < by_.length) (hg : c < l.length + by_.length) :
    Calls Try.prog 41 #[.slice (some ⟨g, 0, none⟩) l.length c, .int .i64 (i : Nat), bv] w fun e w' => ∃ v', e = .returned v' ∧ RowTo w w' (.slice (some ⟨g, 0, none⟩) l.length c) v' (l.take i ++ by_ ++ l.drop i) := by
  obtain ⟨Ab, cb, rfl⟩ := own_slice hb
  have hRb := Rd.of_own hb
  have hRl : Rd w (some ⟨g, 0, none⟩) (pcs l) := Rd.of_own (own_row hB hC hnc hc63 ht)
  obtain ⟨n, hnl⟩ : ∃ n, n = l.length := ⟨_, rfl⟩
  obtain ⟨m, hml⟩ : ∃ m, m = by_.length := ⟨_, rfl⟩
  have ep : (pcs by_).length = m * 2 := by rw [pcs_length, hml]
  have ed : (pcs (l.drop i)).length = (n - i) * 2 := by rw [pcs_length, List.length_drop, hnl]
  have et : (pcs (l.take i)).length = i * 2 := by rw [pcs_length, List.length_take_of_le (by omega)]
  rw [← hnl] at hnc hi hn hg ⊢
  rw [← hml] at hm h0 hg ⊢
  -- a new row
  obtain ⟨w1, v1, cap, D, hr1, hv1, hcap, hcap2, hD, hB1, hk1⟩ := run_az w setN Try.underlying3 rngI (some ⟨g, 0, none⟩) i c (n + m - i) (pcs (l.take i)) et (by rw [← pcs_take]; exact hRl.take _) (by omega) (by omega) (by omega) (by omega)
  rw [show i + (n + m - i) = n + m by omega] at hv1 hcap
  have hk : ((n + m - i : Nat) : Int) = (n : Int) + (m : Int) - (i : Int) := by omega
  rw [hk] at hr1
  obtain ⟨G, hG⟩ : ∃ G, G = w.heap.size := ⟨_, rfl⟩
  rw [← hG] at hv1 hB1
  have hgG : g < G := by rw [hG]; exact hB.lt
  have hcap3 : cap ≤ 9223372036854775807 := by simpa [maxLen] using hcap2
  subst hv1
  -- the pairs that are put in
  obtain ⟨w2, hr2, hB2, hk2, hs2⟩ := run_cp (P := Try.prog) (sT := 42) w1 setN rng2 G (i * 2) (n + m - i) (cap - i) (some ⟨G, i * 2, none⟩) Ab m cb _ _ hB1 (pcs by_) m ⟨by omega, by omega, by omega⟩ ep (fun _ => rfl) (hRb.keep0 hk1) (by rw [ep, List.length_append, et, hD]; omega) (pcs_one_cell _)
  -- those behind
  have hRd : Rd w2.drew (some ⟨g, i * 2, none⟩) (pcs (l.drop i)) := by
    have h1 : Rd w (some ⟨g, i * 2, none⟩) (pcs (l.drop i)) := by
      rw [← pcs_dropP]
      exact hRl.drop (i * 2) (fun _ => by rw [Option.map_some, Addr.add_lit, Nat.zero_add])
    exact ((h1.keep0 hk1).keep hk2 (fun a ha => by cases ha; simp; omega)).keep0 (Keep.refl _ _).drew
  obtain ⟨w3, hr3, hB3, hk3, hs3⟩ := run_cp (P := Try.prog) (sT := 42) w2.drew setN rng2 G ((i + m) * 2) (n + m - (i + m)) (cap - (i + m)) (some ⟨G, (i + m) * 2, none⟩) (some ⟨g, i * 2, none⟩) (n - i) (c - i) _ _ hB2 (pcs (l.drop i)) (n - i) ⟨by omega, by omega, by omega⟩ ed (fun _ => rfl) hRd (by rw [ed, splice_len (by rw [ep, List.length_append, et, hD]; omega), List.length_append, et, hD]; omega) (pcs_one_cell _)
  have F1 := run_fromP setN rng2 (some ⟨g, 0, none⟩) n c i (by omega)
  rw [at2_some (by omega), Nat.zero_add] at F1
  have F2 := run_upto2 setN rng2 (some ⟨g, 0, none⟩) (fun a ha => by cases ha; rfl) n c i (by omega)
  have F3 := run_fromP setN rng2 (some ⟨G, 0, none⟩) (n + m) cap i (by omega)
  rw [at2_some (by omega), Nat.zero_add] at F3
  have F4 := run_fromP setN rng2 (some ⟨G, 0, none⟩) (n + m) cap (i + m) (by omega)
  rw [at2_some (by omega), Nat.zero_add] at F4
  have e4 : ((i + m : Nat) : Int) = (i : Int) + (m : Int) := by omega
  rw [e4] at F4
  have HB3 := Lib.hid hB3
  have HK : Hid (Keep [] w w3) := Lib.hid ((hk1.trans' hk2 (fun x hx => .inr (by rw [List.mem_singleton.1 hx, hG]; exact Nat.le_refl _))).drew.trans' hk3 (fun x hx => .inr (by rw [List.mem_singleton.1 hx, hG]; exact Nat.le_refl _)))
  have HT : Hid (List.take ((n + m) * 2) (splice (splice (pcs (l.take i) ++ D) (i * 2) (pcs by_)) ((i + m) * 2) (pcs (l.drop i))) = pcs (l.take i ++ by_ ++ l.drop i)) := by
    refine Lib.hid ?_
    rw [splice_ab (C := pcs (l.take i) ++ D) (a := pcs by_) (b := pcs (l.drop i)) (by rw [ep]; omega) (by rw [ed]; omega) (by rw [List.length_append, et, hD]; omega), pcs_append, pcs_append, List.append_assoc, ← et, List.take_left]
  have HL : Hid ((splice (splice (pcs (l.take i) ++ D) (i * 2) (pcs by_)) ((i + m) * 2) (pcs (l.drop i))).length = cap * 2) := by
    refine Lib.hid ?_
    rw [splice_len (by rw [ed, splice_len (by rw [ep, List.length_append, et, hD]; omega), List.length_append, et, hD]; omega), splice_len (by rw [ep, List.length_append, et, hD]; omega), List.length_append, et, hD]
    omega
  have HN := Lib.hid (show (l.take i ++ by_ ++ l.drop i).length = n + m by rw [List.length_append, List.length_append, List.length_take_of_le (by omega), List.length_drop, ← hnl, ← hml]; omega)
  have HG := Lib.hid hG
  have hm0 : ¬ ((m : Int) = 0) := by omega
  have hm1 : ((m : Int) == 0) = false := beq_eq_false_iff_ne.2 hm0
  have hi0 : ¬ ((i : Int) = (n : Int)) := by omega
  have hi1 : ((i : Int) == (n : Int)) = false := beq_eq_false_iff_ne.2 hi0
  have hcc : (c : Int) < (n : Int) + (m : Int) := by omega
  have ew1 : IntKind.i64.wrap ((i : Int) + (m : Int)) = (i : Int) + (m : Int) := by rw [IntKind.wrap_i64]; omega
  clear hRb hRl hRd hB hb ep ed et hB1 hB2 hB3 hk1 hk2 hk3 hs2 hs3 hnl hml ht hC hD hG hk e4
  go_enter Try.func41, Try.ntmps41
  go_upto_region 11 with (first
    | (at_builtin; refine wl_ap rfl _ _ _ _ rfl _ _ rfl rfl (hr1 _) ?_)
    | (at_builtin; refine wl_cp rfl _ _ _ _ rfl _ _ rfl rfl (hr2 _) ?_))
  go_region_law (refine st_cp rfl _ _ _ _ rfl (.slice (some ⟨G, (i + m) * 2, none⟩) (n + m - (i + m)) (cap - (i + m))) (.slice (some ⟨g, i * 2, none⟩) (n - i) (c - i)) (by simp [Act.eval, Act.put]) (by simp [Act.eval, Act.put]) (hr3 _) ?_)
  all_goals go_simp
  go_wp2_with fail
  go_ret
  refine ⟨_, rfl, ?_, HK.out.more0, fun x hx => .inr ?_⟩
  · have := own_row (l := l.take i ++ by_ ++ l.drop i) HB3.out HL.out (by rw [HN.out]; exact hcap) hcap3 (by rw [HN.out]; exact HT.out)
    rw [HN.out] at this ⊢
    exact this
  · obtain rfl : G = x := Option.some.inj hx
    exact Nat.le_of_eq HG.out.symm
theorem ov_any (ga gb oa ob la ca lb cb : Nat) (hne : ga ≠ gb) (CA CB : Array Value) (hA : Blk w ga 26 CA) (hB : Blk w gb 26 CB) (hp : CB.size ≠ 0) :
    (callFunc 42 #[.slice (some ⟨ga, oa, none⟩) la ca, .slice (some ⟨gb, ob, none⟩) lb cb]).run Try.prog w = .ok (.value (.bool false)) w := by
  rw [run_callFunc_extern Try.func42 (by kernel_rfl) (by kernel_rfl) (by kernel_rfl) (e := Extern.SlicesOverlaps.overlaps #[42, 42] #[4]) (by kernel_rfl), run_ov w setN rngS ga gb oa ob la ca lb cb hne _ _ CA CB hA hB hp]
  rfl
theorem insert_fits (g c : Nat) (C : List Value) (bv : Value) (l by_ : List (Nat × Nat)) (i : Nat) (hB : Blk w g 26 C.toArray) (hC : C.length = c * 2) (hc63 : c ≤ 9223372036854775807) (ht : C.take (l.length * 2) = pcs l)
    (hb : w.ownsRow 0 26 2 bv by_.length (pcs by_)) (hne : bv.ownBlock ≠ some g) (hi : i < l.length) (hn : l.length ≤ 1000000) (hm : by_.length ≤ 1000000) (h0 : 0 < by_.length) (hg : l.length + by_.length ≤ c) :
    Calls Try.prog 41 #[.slice (some ⟨g, 0, none⟩) l.length c, .int .i64 (i : Nat), bv] w fun e w' => ∃ v', e = .returned v' ∧ RowTo w w' (.slice (some ⟨g, 0, none⟩) l.length c) v' (l.take i ++ by_ ++ l.drop i) := by
  have hRb0 := hb
  rcases own_cases hb with ⟨_, h2⟩ | ⟨gb, cb, CB, rfl, hBb, hCb, hmc, hcb63, htb⟩
  · rw [h2] at h0; cases h0
  have hgb : gb ≠ g := fun h => hne (by rw [h]; rfl)
  have hRb : Rd w (some ⟨gb, 0, none⟩) (pcs by_) := Rd.of_own hRb0
  have hRl : Rd w (some ⟨g, 0, none⟩) (pcs l) := Rd.of_own (own_row hB hC (by omega) hc63 ht)
  have htk : C.take (i * 2) = pcs (l.take i) := by rw [← pcs_take, ← ht, List.take_take, Nat.min_eq_left (by omega)]
  obtain ⟨n, hnl⟩ : ∃ n, n = l.length := ⟨_, rfl⟩
  obtain ⟨m, hml⟩ : ∃ m, m = by_.length := ⟨_, rfl⟩
  have ep : (pcs by_).length = m * 2 := by rw [pcs_length, hml]
  have ed : (pcs (l.drop i)).length = (n - i) * 2 := by rw [pcs_length, List.length_drop, hnl]
  rw [← hnl] at hi hn hg ht ⊢
  rw [← hml] at hm h0 hg hmc ⊢
  -- those behind
  have hRd : Rd w.drew (some ⟨g, i * 2, none⟩) (pcs (l.drop i)) := by
    have h1 : Rd w (some ⟨g, i * 2, none⟩) (pcs (l.drop i)) := by
      rw [← pcs_dropP]
      exact hRl.drop (i * 2) (fun _ => by rw [Option.map_some, Addr.add_lit, Nat.zero_add])
    exact h1.keep0 (Keep.refl _ _).drew
  obtain ⟨w2, hr2, hB2, hk2, hs2⟩ := run_cp (P := Try.prog) (sT := 42) w.drew setN rng2 g ((i + m) * 2) (n + m - (i + m)) (c - (i + m)) (some ⟨g, (i + m) * 2, none⟩) (some ⟨g, i * 2, none⟩) (n + m - i) (c - i) _ _ hB.drew (pcs (l.drop i)) (n - i) ⟨by omega, by omega, by omega⟩ ed (fun _ => rfl) hRd (by rw [ed, hC]; omega) (pcs_one_cell _)
  -- the pairs that are put in
  have hk2' : Keep [g] w w2 := (Keep.refl [g] w).drew.trans hk2
  obtain ⟨w3, hr3, hB3, hk3, hs3⟩ := run_cp (P := Try.prog) (sT := 42) w2 setN rng2 g (i * 2) (n + m - i) (c - i) (some ⟨g, i * 2, none⟩) (some ⟨gb, 0, none⟩) m cb _ _ hB2 (pcs by_) m ⟨by omega, by omega, by omega⟩ ep (fun _ => rfl) (hRb.keep hk2' (fun a ha => by cases ha; simpa using hgb)) (by rw [ep, splice_len (by rw [ed, hC]; omega), hC]; omega) (pcs_one_cell _)
  have OV := ov_any w gb g 0 ((i + m) * 2) m cb (n + m - (i + m)) (c - (i + m)) hgb _ _ hBb hB (by rw [List.size_toArray, hC]; omega)
  have F1 := run_fromP setN rng2 (some ⟨g, 0, none⟩) n c i (by omega)
  rw [at2_some (by omega), Nat.zero_add] at F1
  have F2 := run_upto2 setN rng2 (some ⟨g, 0, none⟩) (fun a ha => by cases ha; rfl) n c (n + m) (by omega)
  have F3 := run_fromP setN rng2 (some ⟨g, 0, none⟩) (n + m) c i (by omega)
  rw [at2_some (by omega), Nat.zero_add] at F3
  have F4 := run_fromP setN rng2 (some ⟨g, 0, none⟩) (n + m) c (i + m) (by omega)
  rw [at2_some (by omega), Nat.zero_add] at F4
  have e4 : ((i + m : Nat) : Int) = (i : Int) + (m : Int) := by omega
  rw [e4] at F4
  have e2 : ((n + m : Nat) : Int) = (n : Int) + (m : Int) := by omega
  rw [e2] at F2
  have HB3 := Lib.hid hB3
  have HK := Lib.hid (hk2'.trans hk3)
  have HT : Hid (List.take ((n + m) * 2) (splice (splice C ((i + m) * 2) (pcs (l.drop i))) (i * 2) (pcs by_)) = pcs (l.take i ++ by_ ++ l.drop i)) := by
    refine Lib.hid ?_
    rw [splice_ba (C := C) (a := pcs by_) (b := pcs (l.drop i)) (by rw [ep]; omega) (by rw [ed]; omega) (by rw [hC]; omega), htk, pcs_append, pcs_append, List.append_assoc]
  have HL : Hid ((splice (splice C ((i + m) * 2) (pcs (l.drop i))) (i * 2) (pcs by_)).length = c * 2) := by
    refine Lib.hid ?_
    rw [splice_len (by rw [ep, splice_len (by rw [ed, hC]; omega), hC]; omega), splice_len (by rw [ed, hC]; omega), hC]
  have HN := Lib.hid (show (l.take i ++ by_ ++ l.drop i).length = n + m by rw [List.length_append, List.length_append, List.length_take_of_le (by omega), List.length_drop, ← hnl, ← hml]; omega)
  obtain ⟨R, hR⟩ : ∃ R, R = l.take i ++ by_ ++ l.drop i := ⟨_, rfl⟩
  rw [← hR] at HT HN ⊢
  clear hR
  have hm0 : ¬ ((m : Int) = 0) := by omega
  have hm1 : ((m : Int) == 0) = false := beq_eq_false_iff_ne.2 hm0
  have hi0 : ¬ ((i : Int) = (n : Int)) := by omega
  have hi1 : ((i : Int) == (n : Int)) = false := beq_eq_false_iff_ne.2 hi0
  have hcc : ¬ (c : Int) < (n : Int) + (m : Int) := by omega
  have ew1 : IntKind.i64.wrap ((i : Int) + (m : Int)) = (i : Int) + (m : Int) := by rw [IntKind.wrap_i64]; omega
  clear hRb hRl hRd hB hb hRb0 ep ed hB2 hB3 hk2 hk2' hk3 hs2 hs3 hnl hml ht htk hC e4 e2 hBb hCb htb hne hgb hmc
  go_enter Try.func41, Try.ntmps41
  go_upto_region 15 with fail
  go_region_law (refine st_cp rfl _ _ _ _ rfl (.slice (some ⟨g, (i + m) * 2, none⟩) (n + m - (i + m)) (c - (i + m))) (.slice (some ⟨g, i * 2, none⟩) (n + m - i) (c - i)) (by simp [Act.eval, Act.put]) (by simp [Act.eval, Act.put]) (hr2 _) ?_)
  all_goals go_simp
  go_wp2_with (at_builtin; refine wl_cp rfl _ _ _ _ rfl _ _ rfl rfl (hr3 _) ?_)
  go_ret
  refine ⟨_, rfl, ?_, HK.out, fun x hx => .inl hx⟩
  have := own_row (l := R) HB3.out HL.out (by rw [HN.out]; exact hg) hc63 (by rw [HN.out]; exact HT.out)
  rw [HN.out] at this ⊢
  exact this
theorem insert_any (v bv : Value) (l by_ : List (Nat × Nat)) (i : Nat) (hv : w.ownsRow 0 26 2 v l.length (pcs l)) (hb : w.ownsRow 0 26 2 bv by_.length (pcs by_)) (hne : ∀ g, bv.ownBlock = some g → v.ownBlock ≠ some g) (hi : i ≤ l.length) (hn : l.length ≤ 1000000) (hm : by_.length ≤ 1000000) :
    Calls Try.prog 41 #[v, .int .i64 (i : Nat), bv] w fun e w' => ∃ v', e = .returned v' ∧ RowTo w w' v v' (l.take i ++ by_ ++ l.drop i) := by
  by_cases h0 : by_.length = 0
  · obtain rfl := List.eq_nil_of_length_eq_zero h0
    refine (insert_none w v bv l i hv hb hi hn).mono ?_
    rintro e w' ⟨rfl, rfl⟩
    refine ⟨v, rfl, ?_, Keep.refl _ _, fun g hg => .inl hg⟩
    rw [List.append_nil, List.take_append_drop]
    exact hv
  · by_cases he : i = l.length
    · subst he
      refine (insert_end w v bv l by_ hv hb hn hm (by omega)).mono ?_
      rintro e w' ⟨v', rfl, h⟩
      refine ⟨v', rfl, ?_⟩
      rw [List.take_length, List.drop_length, List.append_nil]
      exact h
    · rcases own_cases hv with ⟨_, h2⟩ | ⟨g, c, C, rfl, hB, hC, hmc, hcb63, ht⟩
      · rw [h2] at hi he; simp at hi he; omega
      · by_cases hg : l.length + by_.length ≤ c
        · exact insert_fits w g c C bv l by_ i hB hC hcb63 ht hb (fun h => hne g h rfl) (by omega) hn hm (by omega) hg
        · exact insert_grow w g c C bv l by_ i hB hC hmc hcb63 ht hb (by omega) hn hm (by omega) (by omega)
end
end Go.Proofs.Ytpckbmebdhmfaaa
