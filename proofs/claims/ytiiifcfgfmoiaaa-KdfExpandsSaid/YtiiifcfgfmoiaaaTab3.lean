/-
  The landed sha: the constants laid into the tables.
-/
import Derived.Test.YtiiifcfgfmoiaaaTabC
import Derived.Test.YtiiifcfgfmoiaaaRSha5
namespace Go.Proofs.Ytiiifcfgfmoiaaa
open Go.RowKit

/-- The tables' cells. -/
def tcs (d m : Value) (S R : List Nat) : Array Value := (d :: m :: .int .u32 0 :: (cellsN S ++ cellsN R)).toArray
/-- The first i of A, then B's. -/
def mixl (A B : List Nat) (i : Nat) : List Nat := A.take i ++ B.drop i
theorem mixl_length (A B : List Nat) (i : Nat) (h : A.length = B.length) (hi : i ≤ A.length) : (mixl A B i).length = A.length := by simp [mixl]; omega
theorem mixl_zero (A B : List Nat) : mixl A B 0 = B := rfl
theorem mixl_full (A B : List Nat) (h : A.length = B.length) : mixl A B A.length = A := by
  unfold mixl
  rw [List.take_length, h, List.drop_length, List.append_nil]
theorem mixl_set (A B : List Nat) (i : Nat) (h : A.length = B.length) (hi : i < A.length) : (mixl A B i).set i (A.getD i 0) = mixl A B (i + 1) := by
  unfold mixl
  have hl : (A.take i).length = i := by rw [List.length_take_of_le (by omega)]
  have e : A.take (i + 1) = A.take i ++ [A.getD i 0] := by
    rw [List.take_add_one, List.getElem?_eq_getElem hi, List.getD_eq_getElem?_getD, List.getElem?_eq_getElem hi]; rfl
  rw [e, List.set_append_right _ _ (by omega), hl, Nat.sub_self, List.drop_eq_getElem_cons (by omega), List.set_cons_zero, List.append_assoc]
  rfl
theorem tcs_setS (d m : Value) (S R : List Nat) (i n : Nat) (h : i < S.length) : (tcs d m S R).setIfInBounds (3 + i) (.int .u32 (n : Int)) = tcs d m (S.set i n) R := by
  unfold tcs
  rw [← cellsN_set, List.setIfInBounds_toArray, show 3 + i = i + 1 + 1 + 1 by omega, List.set_cons_succ, List.set_cons_succ, List.set_cons_succ, List.set_append_left _ _ (by rw [cellsN_length]; exact h)]
theorem tcs_setR (d m : Value) (S R : List Nat) (i n : Nat) (hS : S.length = 8) : (tcs d m S R).setIfInBounds (11 + i) (.int .u32 (n : Int)) = tcs d m S (R.set i n) := by
  unfold tcs
  rw [← cellsN_set, List.setIfInBounds_toArray, show 11 + i = i + 8 + 1 + 1 + 1 by omega, List.set_cons_succ, List.set_cons_succ, List.set_cons_succ, List.set_append_right _ _ (by rw [cellsN_length]; omega), cellsN_length, hS, Nat.add_sub_cancel]
theorem tcs_getS (d m : Value) (S R : List Nat) (i : Nat) (h : i < S.length) : (tcs d m S R)[3 + i]? = some (.int .u32 ((S.getD i 0 : Nat) : Int)) := by
  unfold tcs
  rw [show 3 + i = i + 1 + 1 + 1 by omega, List.getElem?_toArray, List.getElem?_cons_succ, List.getElem?_cons_succ, List.getElem?_cons_succ]
  exact row_get S _ i h
theorem tcs_getR (d m : Value) (S R : List Nat) (i : Nat) (hS : S.length = 8) (h : i < R.length) : (tcs d m S R)[11 + i]? = some (.int .u32 ((R.getD i 0 : Nat) : Int)) := by
  unfold tcs
  rw [show 11 + i = i + 8 + 1 + 1 + 1 by omega, List.getElem?_toArray, List.getElem?_cons_succ, List.getElem?_cons_succ, List.getElem?_cons_succ, List.getElem?_append_right (by rw [cellsN_length]; omega), cellsN_length, hS, Nat.add_sub_cancel]
  exact cellsN_get R i h

noncomputable def hcm0 : Code := loopOf Try.f23 0
noncomputable def hcm1 : Code := loopOf Try.f23 1

set_option maxRecDepth 100000 in
set_option maxHeartbeats 4000000 in
theorem cl0 (R : Act → World → Prop) (a : Act) (w : World) (g : Nat) (v d m : Value) (S0 R0 : List Nat) (b : Nat) (hS0 : S0.length = 8) (hbg : Hid (b ≠ g))
    (hv : Hid (Sl .u64 w v ((Tab.prs 310).map fun (n : Nat) => (n : Int)))) (hvb : Hid (v.ownBlock = some b))
    (hB : Hid (Blk w g 67 (tcs d m S0 R0)))
    (hF : Fr 34 [(0, .pointer (some ⟨g, 0, none⟩)), (2, v), (6, .int .i64 0)] a)
    (hQ : ∀ a' w', Fr 34 [(0, .pointer (some ⟨g, 0, none⟩)), (2, v)] a' → Blk w' g 67 (tcs d m Sha.H0 R0) → Keep [g] w w' → R a' w') :
    Code.wp Try.prog (.loop hcm0) (OutX 0 R) a w := by
  refine wp_loop_ghost_k (fun k a wr => ∃ i, k + i = 8 ∧ Fr 34 [(0, .pointer (some ⟨g, 0, none⟩)), (2, v), (6, .int .i64 i)] a ∧ Blk wr g 67 (tcs d m (mixl Sha.H0 S0 i) R0) ∧ Keep [g] w wr)
    8 ⟨0, rfl, hF, hB.out, Keep.refl _ _⟩ ?_
  clear hF hB
  intro k a wr ⟨i, hki, hFr, hB, hk⟩ J K hJ hK1
  have HJ := Lib.hid hJ
  have HKI := Lib.hid hki
  have HB := Lib.hid hB
  have HK := Lib.hid hk
  obtain ⟨f, ⟨f0, f2, f6, -⟩, rfl⟩ := hFr.open34
  simp only [f0, f2, f6]
  clear f0 f2 f6 hFr hJ hk hB
  conv => arg 2; whnf
  have hH8 : Sha.H0.length = 8 := rfl
  by_cases hlt : i < 8
  · clear hQ
    obtain ⟨vb, vo, vc, hve, hvc1, hvc2, hcell⟩ := (hv.out.keep HK.out (fun _ g' hg' => by rw [hvb.out] at hg'; have := hbg.out; simp at hg'; simp; omega)).cells (by rw [List.length_map, prs_310]; decide)
    rw [List.length_map, prs_310] at hve hvc1 hcell
    subst hve
    have hci : wr.cell? ⟨vb, vo + i, none⟩ = some (.int .u64 (((Tab.prs 310).getD i 0 : Nat) : Int)) := by
      rw [hcell i (by omega)]
      simp [show i < (Tab.prs 310).length by rw [prs_310]; omega]
    have FR := fun W => Lib.hid (fraction_any ((Tab.prs 310).getD i 0 : Nat) _ 2 2 rfl (by omega) (by have := prs_get i (by omega); omega) (.inl ⟨rfl, rfl⟩) W)
    rw [consts2 ⟨i, hlt⟩] at FR
    have hml := mixl_length Sha.H0 S0 i (by rw [hS0]; rfl) (by rw [hH8]; omega)
    have HSS := Lib.hid (tcs_setS d m (mixl Sha.H0 S0 i) R0 i (Sha.H0.getD i 0) (by rw [hml]; exact hlt))
    have HMS := Lib.hid (mixl_set Sha.H0 S0 i (by rw [hS0]; rfl) (by rw [hH8]; exact hlt))
    have hcg : wr.cell? ⟨g, 3 + i, none⟩ = some (.int .u32 (((mixl Sha.H0 S0 i).getD i 0 : Nat) : Int)) := by
      rw [HB.out.cell]; exact tcs_getS d m _ R0 i (by rw [hml]; exact hlt)
    have hfg := HB.out.frozen (3 + i)
    generalize (Tab.prs 310).getD i 0 = p at *
    generalize Sha.H0.getD i 0 = c at *
    generalize (mixl Sha.H0 S0 i).getD i 0 = c0 at *
    have bi : (0 : Int) ≤ i ∧ (i : Int) < 64 := ⟨by omega, by omega⟩
    have bi8 : (i : Int) < 8 := by omega
    clear hcell hki hml
    go_upto_region 4 with fail
    go_region_with (go_at_call 32; with_reducible refine (FR _).out.mono ?_; rintro e w1 ⟨rfl, rfl⟩)
    all_goals
      obtain ⟨W, hW⟩ : ∃ W, W = (wr.setCell ⟨g, 3 + i, none⟩ (.int .u32 (c : Int))).drew := ⟨_, rfl⟩
      have hB2 : Blk W g 67 (tcs d m (mixl Sha.H0 S0 (i + 1)) R0) := by
        have := (HB.out.set_ (3 + i) (.int .u32 (c : Int))).drew
        rw [hW]
        rw [HSS.out, HMS.out] at this
        exact this
      have hk2 : Keep [g] w W := by rw [hW]; exact (HK.out.setCell (.inl (by simp)) _).drew
      rw [← hW]
      have HB2 := Lib.hid hB2
      have HK2 := Lib.hid hk2
      clear hW hB2 hk2
      go_wp2_with fail
      exact Handed.intro (k - 1) (by have := HKI.out; omega) (HJ.out _ _ _ ⟨i + 1, by have := HKI.out; omega, ⟨rfl, rfl, by repeat (first | exact trivial | refine ⟨rfl, ?_⟩)⟩, HB2.out, HK2.out⟩)
  · obtain rfl : i = 8 := by omega
    have HQ := Lib.hid hQ
    rw [show mixl Sha.H0 S0 8 = Sha.H0 from mixl_full Sha.H0 S0 (by rw [hS0]; rfl)] at HB
    clear hQ
    go_wp2_with fail
    exact ⟨rfl, HQ.out _ _ ⟨rfl, rfl, by repeat (first | exact trivial | refine ⟨rfl, ?_⟩)⟩ HB.out HK.out⟩
set_option maxRecDepth 100000 in
set_option maxHeartbeats 4000000 in
theorem cl1 (R : Act → World → Prop) (a : Act) (w : World) (g : Nat) (v d m : Value) (S0 R0 : List Nat) (b : Nat) (hS0 : S0.length = 8) (hR0 : R0.length = 64) (hbg : Hid (b ≠ g))
    (hv : Hid (Sl .u64 w v ((Tab.prs 310).map fun (n : Nat) => (n : Int)))) (hvb : Hid (v.ownBlock = some b))
    (hB : Hid (Blk w g 67 (tcs d m S0 R0)))
    (hF : Fr 34 [(0, .pointer (some ⟨g, 0, none⟩)), (2, v), (20, .int .i64 0)] a)
    (hQ : ∀ a' w', Fr 34 [(0, .pointer (some ⟨g, 0, none⟩)), (2, v)] a' → Blk w' g 67 (tcs d m S0 Sha.K) → Keep [g] w w' → R a' w') :
    Code.wp Try.prog (.loop hcm1) (OutX 2 R) a w := by
  refine wp_loop_ghost_k (fun k a wr => ∃ i, k + i = 64 ∧ Fr 34 [(0, .pointer (some ⟨g, 0, none⟩)), (2, v), (20, .int .i64 i)] a ∧ Blk wr g 67 (tcs d m S0 (mixl Sha.K R0 i)) ∧ Keep [g] w wr)
    64 ⟨0, rfl, hF, hB.out, Keep.refl _ _⟩ ?_
  clear hF hB
  intro k a wr ⟨i, hki, hFr, hB, hk⟩ J K hJ hK1
  have HJ := Lib.hid hJ
  have HKI := Lib.hid hki
  have HB := Lib.hid hB
  have HK := Lib.hid hk
  obtain ⟨f, ⟨f0, f2, f20, -⟩, rfl⟩ := hFr.open34
  simp only [f0, f2, f20]
  clear f0 f2 f20 hFr hJ hk hB
  conv => arg 2; whnf
  have hH8 : Sha.K.length = 64 := K_len
  by_cases hlt : i < 64
  · clear hQ
    obtain ⟨vb, vo, vc, hve, hvc1, hvc2, hcell⟩ := (hv.out.keep HK.out (fun _ g' hg' => by rw [hvb.out] at hg'; have := hbg.out; simp at hg'; simp; omega)).cells (by rw [List.length_map, prs_310]; decide)
    rw [List.length_map, prs_310] at hve hvc1 hcell
    subst hve
    have hci : wr.cell? ⟨vb, vo + i, none⟩ = some (.int .u64 (((Tab.prs 310).getD i 0 : Nat) : Int)) := by
      rw [hcell i (by omega)]
      simp [show i < (Tab.prs 310).length by rw [prs_310]; omega]
    have FR := fun W => Lib.hid (fraction_any ((Tab.prs 310).getD i 0 : Nat) _ 3 3 rfl (by omega) (by have := prs_get i (by omega); omega) (.inr ⟨rfl, rfl⟩) W)
    rw [consts3 ⟨i, hlt⟩] at FR
    have hml := mixl_length Sha.K R0 i (by rw [hR0, hH8]) (by rw [hH8]; omega)
    have HSS := Lib.hid (tcs_setR d m S0 (mixl Sha.K R0 i) i (Sha.K.getD i 0) hS0)
    have HMS := Lib.hid (mixl_set Sha.K R0 i (by rw [hR0, hH8]) (by rw [hH8]; exact hlt))
    have hcg : wr.cell? ⟨g, 11 + i, none⟩ = some (.int .u32 (((mixl Sha.K R0 i).getD i 0 : Nat) : Int)) := by
      rw [HB.out.cell]; exact tcs_getR d m S0 _ i hS0 (by rw [hml, hH8]; exact hlt)
    have hfg := HB.out.frozen (11 + i)
    generalize (Tab.prs 310).getD i 0 = p at *
    generalize Sha.K.getD i 0 = c at *
    generalize (mixl Sha.K R0 i).getD i 0 = c0 at *
    have bi : (0 : Int) ≤ i ∧ (i : Int) < 64 := ⟨by omega, by omega⟩
    have bi8 : (i : Int) < 64 := by omega
    clear hcell hki hml
    go_upto_region 9 with fail
    go_region_with (go_at_call 32; with_reducible refine (FR _).out.mono ?_; rintro e w1 ⟨rfl, rfl⟩)
    all_goals
      obtain ⟨W, hW⟩ : ∃ W, W = (wr.setCell ⟨g, 11 + i, none⟩ (.int .u32 (c : Int))).drew := ⟨_, rfl⟩
      have hB2 : Blk W g 67 (tcs d m S0 (mixl Sha.K R0 (i + 1))) := by
        have := (HB.out.set_ (11 + i) (.int .u32 (c : Int))).drew
        rw [hW]
        rw [HSS.out, HMS.out] at this
        exact this
      have hk2 : Keep [g] w W := by rw [hW]; exact (HK.out.setCell (.inl (by simp)) _).drew
      rw [← hW]
      have HB2 := Lib.hid hB2
      have HK2 := Lib.hid hk2
      clear hW hB2 hk2
      go_wp2_with fail
      exact Handed.intro (k - 1) (by have := HKI.out; omega) (HJ.out _ _ _ ⟨i + 1, by have := HKI.out; omega, ⟨rfl, rfl, by repeat (first | exact trivial | refine ⟨rfl, ?_⟩)⟩, HB2.out, HK2.out⟩)
  · obtain rfl : i = 64 := by omega
    have HQ := Lib.hid hQ
    rw [show mixl Sha.K R0 64 = Sha.K from mixl_full Sha.K R0 (by rw [hR0, hH8])] at HB
    clear hQ
    go_wp2_with fail
    exact ⟨rfl, HQ.out _ _ ⟨rfl, rfl, by repeat (first | exact trivial | refine ⟨rfl, ?_⟩)⟩ HB.out HK.out⟩

set_option maxRecDepth 100000 in
theorem compute_any (w : World) (g : Nat) (d m : Value) (S0 R0 : List Nat) (hS0 : S0.length = 8) (hR0 : R0.length = 64) (hB : Blk w g 67 (tcs d m S0 R0)) :
    Calls Try.prog 23 #[.pointer (some ⟨g, 0, none⟩)] w fun e w' => e = .returned (.tuple #[]) ∧ Blk w' g 67 (tcs d m Sha.H0 Sha.K) ∧ Keep [g] w w' := by
  have HB := Lib.hid hB
  clear hB
  go_enter Try.func23, Try.ntmps23
  go_upto_block 0 with (go_at_call 31; with_reducible refine (primes_any _).mono ?_; rintro e w1 ⟨v, rfl, ho1, hk1⟩; have HO1 := Lib.hid ho1; have HK1 := Lib.hid hk1; clear ho1 hk1)
  have hb : ∃ b, v.ownBlock = some b ∧ w.heap.size ≤ b := by
    rcases HO1.out.2 with ⟨hv, hn⟩ | ⟨b, cap, cur, hv, hb, _⟩
    · exact absurd hn (by decide)
    · exact ⟨b, by rw [hv]; rfl, hb⟩
  obtain ⟨b, hvb, hbw⟩ := hb
  have hsl : Sl .u64 w1 v ((Tab.prs 310).map fun (n : Nat) => (n : Int)) := Sl.of_own (n := 64) (by
    have := HO1.out
    unfold cellsU at this
    rw [List.map_map]
    exact this) (fun x hx => by
      simp only [List.mem_map] at hx
      obtain ⟨p, hp, rfl⟩ := hx
      have := prs_mem 310 p hp
      simp [Lit.wf, IntKind.min, IntKind.max, IntKind.signed, IntKind.bits]; omega)
  have hbg : b ≠ g := by have := HB.out.lt; omega
  have HVB := Lib.hid hvb
  have HSL := Lib.hid hsl
  have HBG := Lib.hid hbg
  have HB1 := Lib.hid (HB.out.keep HK1.out (by simp))
  clear hvb hbw hsl hbg
  go_wp2_with fail
  refine OutX.use (cl0 (fun a' w' => Fr 34 [(0, .pointer (some ⟨g, 0, none⟩)), (2, v)] a' ∧ Blk w' g 67 (tcs d m Sha.H0 R0) ∧ Keep [g] w1 w') _ w1 g v d m S0 R0 b hS0 HBG HSL HVB HB1
    ⟨rfl, rfl, by repeat (first | exact trivial | refine ⟨rfl, ?_⟩)⟩ (fun a' w' h1 h2 h3 => ⟨h1, h2, h3⟩)) ?_
  rintro a' w2 ⟨hF2, hB2, hk2⟩
  have HB2 := Lib.hid hB2
  have HK2 := Lib.hid hk2
  have HSL2 := Lib.hid (HSL.out.keep hk2 (fun _ g' hg' => by rw [HVB.out] at hg'; have := HBG.out; simp at hg'; simp; omega))
  obtain ⟨f', ⟨f0, f2, -⟩, rfl⟩ := hF2.open34
  simp only [f0, f2]
  clear f0 f2 hF2 hB2 hk2
  go_upto_block 2 with fail
  go_wp2_with fail
  refine OutX.use (cl1 (fun a' w' => Fr 34 [(0, .pointer (some ⟨g, 0, none⟩)), (2, v)] a' ∧ Blk w' g 67 (tcs d m Sha.H0 Sha.K) ∧ Keep [g] w2 w') _ w2 g v d m Sha.H0 R0 b rfl hR0 HBG HSL2 HVB HB2
    ⟨rfl, rfl, by repeat (first | exact trivial | refine ⟨rfl, ?_⟩)⟩ (fun a' w' h1 h2 h3 => ⟨h1, h2, h3⟩)) ?_
  rintro a' w3 ⟨hF3, hB3, hk3⟩
  have HB3 := Lib.hid hB3
  have HK3 := Lib.hid hk3
  obtain ⟨f', -, rfl⟩ := hF3.open34
  clear hF3 hB3 hk3
  go_wp2_with fail
  go_end0
  exact ⟨rfl, HB3.out, (HK1.out.more0.trans HK2.out).trans HK3.out⟩
end Go.Proofs.Ytiiifcfgfmoiaaa
