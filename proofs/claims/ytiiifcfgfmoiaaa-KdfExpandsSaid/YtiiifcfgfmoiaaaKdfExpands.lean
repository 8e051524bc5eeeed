/-
  The law KdfExpands, over what kdf's functions keep.
-/
import Derived.Test.YtiiifcfgfmoiaaaKdfE2
namespace Go.Proofs.Ytiiifcfgfmoiaaa
open Go.RowKit

set_option maxRecDepth 100000 in
set_option maxHeartbeats 8000000 in
theorem kdfExpands_any (hN : KNewC) (hX : ExtractC) (hE : ExpandC) (hEE : ExpandE) (kl : List Int) (av : Value) (al : List Int) (m far : Int) (w : World) (hs : Secr kl) (h1 : Sl .u8 w av al) (hm : (Lit.int .u16 m).wf = true) (_hf : (Lit.int .i64 far).wf = true) :
    Calls Try.prog 3 #[arr kl, av, .int .u16 m, .int .i64 far] w fun e w' => e = .returned (.bool true) ∧ Keep [] w w' := by
  have A := fun w => Lib.hid (awake4_any hN hX w)
  have N := fun w => Lib.hid (hN w)
  have HS := Lib.hid hs
  have H1 := Lib.hid h1
  obtain ⟨D0, hD0⟩ : ∃ D0, D0 = (kl.map (Value.int .u8)).toArray := ⟨_, rfl⟩
  have hDa : arr kl = .agg D0 := by rw [hD0]; rfl
  have HD0 := Lib.hid hD0
  have HDS := Lib.hid (show D0.size = 32 by rw [hD0]; simp [hs.1])
  have hm2 : 0 ≤ m ∧ m ≤ 65535 := by simpa [Lit.wf, IntKind.min, IntKind.max, IntKind.signed, IntKind.bits] using hm
  obtain ⟨hm0, hm1⟩ := hm2
  obtain ⟨n, hn⟩ : ∃ n : Nat, n = (m % 200).toNat := ⟨_, rfl⟩
  have hmn : Int.tmod m 200 = (n : Int) := by rw [Int.tmod_eq_emod_of_nonneg hm0]; omega
  have hn199 : n ≤ 199 := by omega
  have hmw : IntKind.i64.wrap m = m := IntWalk.i64_in _ ⟨by omega, by omega⟩
  have hr1 : far.tmod 9000 < 9000 := Int.tmod_lt_of_pos far (by decide)
  have hr2 : -9000 < far.tmod 9000 := Int.lt_tmod_of_pos far (by decide)
  obtain ⟨r, hr⟩ : ∃ r, r = far.tmod 9000 := ⟨_, rfl⟩
  rw [← hr] at hr1 hr2
  have hr' : Int.tmod far 9000 = r := hr.symm
  obtain ⟨aA, ac, rfl, hac1, hac2, -, -⟩ := h1
  rw [hDa]
  clear hs hD0 hn hm hr
  go_enter Try.func3, Try.ntmps3
  go_upto_region 3 with (first
    | (refine wl_box rfl _ _ rfl D0 rfl ?_; intro w1 hB1 hk1 hz1; have HB1 := Lib.hid hB1; have HK1 := Lib.hid hk1; clear hB1 hk1 hz1)
    | (go_at_call 7; with_reducible refine (A w1).out.mono ?_; rintro e w2 ⟨rfl, hk2⟩; have HK2 := Lib.hid hk2; clear hk2))
  obtain ⟨gb, hgb⟩ : ∃ gb, gb = w.heap.size := ⟨_, rfl⟩
  have HB1' : Hid (Blk w1 gb 23 D0) := Lib.hid (by rw [hgb]; exact HB1.out)
  rw [← hgb]
  clear HB1 hgb
  by_cases hb1 : 200 < al.length
  · go_wp2_with fail
    go_ret
    exact ⟨rfl, HK1.out.trans HK2.out⟩
  have HAL := Lib.hid (show al.length ≤ 10000 by omega)
  have HN2 := Lib.hid (show n ≤ 200 by omega)
  have HA1 := Lib.hid (H1.out.keep0 HK1.out)
  have C1 := fun W k t h (h2 : Sl .u8 W (.slice aA al.length ac) al) => Lib.hid (hE W k t kl _ al n h HS.out h2 (by omega) (by omega))
  rw [hDa] at C1
  by_cases hright : 0 ≤ r ∧ r ≤ 8160
  · obtain ⟨q, rfl⟩ := Int.eq_ofNat_of_zero_le hright.1
    have hq : q ≤ 8160 := by omega
    have C2 := fun W k t h (h2 : Sl .u8 W (.slice aA al.length ac) al) => Lib.hid (hE W k t kl _ al q h HS.out h2 (by omega) hq)
    rw [hDa] at C2
    clear hright
    go_upto_region 10 with (first
      | (go_at_call 8; with_reducible refine (N w2).out.mono ?_; rintro e w3 ⟨k, t, rfl, hk3, ht3, hs3, hkk3⟩; have HN3 := Lib.hid (And.intro hk3 ht3); have HS3 := Lib.hid hs3; have HK3 := Lib.hid (HK2.out.trans hkk3); have HL3 := Lib.hid hs3.lt; have HB3 := Lib.hid (HB1'.out.keep HK3.out (by simp)); clear hk3 ht3 hs3 hkk3)
      | (refine wl_load_row rfl _ _ rfl gb rfl 32 5 Try.underlying23 _ D0 HB3.out (by rw [HDS.out]; exact secCells) ?_)
      | (go_at_call 9; with_reducible refine (C1 w3 k t HS3.out (HA1.out.keep0 HK3.out)).out.mono ?_; rintro e w4 ⟨v1, rfl, hv1, hs4, hk4⟩; have HV1 := Lib.hid hv1; have HS4 := Lib.hid hs4; have HK34 := Lib.hid hk4; have HK4 := Lib.hid (HK3.out.trans' hk4 (fun x hx => by right; have h1 := HN3.out; have h2 := HK2.out.size; simp at hx; omega)); have HB4 := Lib.hid (HB1'.out.keep HK4.out (by simp)); clear hv1 hs4 hk4)
      | (refine wl_load_row rfl _ _ rfl gb rfl 32 5 Try.underlying23 _ D0 HB4.out (by rw [HDS.out]; exact secCells) ?_)
      | (go_at_call 9; with_reducible refine (C2 w4 k t HS4.out (HA1.out.keep0 HK4.out)).out.mono ?_; rintro e w5 ⟨v2, rfl, hv2, hs5, hk5⟩; have HV2 := Lib.hid hv2; have HK45 := Lib.hid hk5; have HK5 := Lib.hid (HK4.out.trans' hk5 (fun x hx => by right; have h1 := HN3.out; have h2 := HK2.out.size; simp at hx; omega)); have HB5 := Lib.hid (HB1'.out.keep HK5.out (by simp)); clear hv2 hs5 hk5))
    obtain ⟨vA, vc, rfl⟩ : ∃ A c, v1 = .slice A n c := by
      obtain ⟨A, c, e, _⟩ := HV1.out.1
      rw [expand_len] at e
      exact ⟨A, c, e⟩
    have hv5 : Sl .u8 w5 (.slice vA n vc) (Sha.expand kl al n) := HV1.out.1.keep HK45.out (fun hp g hg => by have h1 := HV1.out.2 g hg; have h2 := HL3.out; simp; omega)
    have HV5 := Lib.hid hv5
    have HA5 := Lib.hid (HA1.out.keep0 HK5.out)
    obtain ⟨cA, cc, rfl⟩ : ∃ A c, v2 = .slice A q c := by
      obtain ⟨A, c, e, _⟩ := HV2.out.1
      rw [expand_len] at e
      exact ⟨A, c, e⟩
    have hvc : n ≤ vc := by
      obtain ⟨A, c, e, h, _⟩ := hv5
      rw [expand_len] at e h
      simp only [Value.slice.injEq] at e
      omega
    have hcc : q ≤ cc := by
      obtain ⟨A, c, e, h, _⟩ := HV2.out.1
      rw [expand_len] at e h
      simp only [Value.slice.injEq] at e
      omega
    have hq8 : (q : Int) ≤ 8160 := by omega
    rw [decide_eq_true hq8]
    have HC5 := Lib.hid HV2.out.1
    have HVC := Lib.hid (And.intro hvc hcc)
    have HW5 := Lib.hid (HK1.out.trans HK5.out)
    clear hv5 HV1 HV2 HS4 HS3 N A C1 C2 hE hEE hN hX hvc hcc
    refine OutN.use (exl10A (fun a' w' => Fr 110 [(10, .int .i64 n), (11, .slice vA n vc), (13, .slice cA q cc), (15, .bool true), (90, .bool false)] a' ∧ Keep [] w5 w') _ w5 gb n far aA vA cA ac vc cc al kl D0 q HB5 HD0 HS HA5 HAL HN2.out HV5 hr'
      ⟨rfl, rfl, by repeat (first | exact trivial | refine ⟨rfl, ?_⟩)⟩ (Lib.hid fun a' w' h1 h2 => ⟨h1, h2⟩)) ?_
    rintro a' w6 ⟨hF, hk6⟩
    have HK6 := Lib.hid hk6
    obtain ⟨f, ⟨f10, f11, f13, f15, f90, -⟩, rfl⟩ := hF.open110
    simp only [f10, f11, f13, f15, f90]
    clear f10 f11 f13 f15 f90 hF hk6
    go_upto_region 12 with fail
    have L12 := exl12A (fun a' w' => Fr 110 [(8, .bool true)] a' ∧ Keep [] w6 w')
    by_cases hnq : n ≤ q
    · refine OutN.use (L12 _ w6 n q vA cA vc cc al kl n (Nat.le_refl n) hnq (by omega) HVC.out.1 HVC.out.2 (Lib.hid (HV5.out.keep0 HK6.out)) (Lib.hid (HC5.out.keep0 HK6.out))
        ⟨rfl, rfl, by repeat (first | exact trivial | refine ⟨rfl, ?_⟩)⟩ (Lib.hid fun a' w' h1 h2 => ⟨h1, h2⟩)) ?_
      rintro a' w8 ⟨hF, hk8⟩
      have HK8 := Lib.hid ((HW5.out.trans HK6.out).trans hk8)
      obtain ⟨f', ⟨f8, -⟩, rfl⟩ := hF.open110
      simp only [f8]
      clear f8 hF hk8
      go_wp2_with fail
      go_ret
      exact ⟨rfl, HK8.out⟩
    · refine OutN.use (L12 _ w6 n q vA cA vc cc al kl q (by omega) (Nat.le_refl q) (by omega) HVC.out.1 HVC.out.2 (Lib.hid (HV5.out.keep0 HK6.out)) (Lib.hid (HC5.out.keep0 HK6.out))
        ⟨rfl, rfl, by repeat (first | exact trivial | refine ⟨rfl, ?_⟩)⟩ (Lib.hid fun a' w' h1 h2 => ⟨h1, h2⟩)) ?_
      rintro a' w8 ⟨hF, hk8⟩
      have HK8 := Lib.hid ((HW5.out.trans HK6.out).trans hk8)
      obtain ⟨f', ⟨f8, -⟩, rfl⟩ := hF.open110
      simp only [f8]
      clear f8 hF hk8
      go_wp2_with fail
      go_ret
      exact ⟨rfl, HK8.out⟩
  have C2 := fun W k t h (h2 : Sl .u8 W (.slice aA al.length ac) al) => Lib.hid (hEE W k t kl _ al r h HS.out h2 (by omega) (by simp [Lit.wf, IntKind.min, IntKind.max, IntKind.signed, IntKind.bits]; omega) (by omega))
  rw [hDa] at C2
  by_cases hneg : r < 0
  · clear hright
    go_upto_region 10 with (first
      | (go_at_call 8; with_reducible refine (N w2).out.mono ?_; rintro e w3 ⟨k, t, rfl, hk3, ht3, hs3, hkk3⟩; have HN3 := Lib.hid (And.intro hk3 ht3); have HS3 := Lib.hid hs3; have HK3 := Lib.hid (HK2.out.trans hkk3); have HL3 := Lib.hid hs3.lt; have HB3 := Lib.hid (HB1'.out.keep HK3.out (by simp)); clear hk3 ht3 hs3 hkk3)
      | (refine wl_load_row rfl _ _ rfl gb rfl 32 5 Try.underlying23 _ D0 HB3.out (by rw [HDS.out]; exact secCells) ?_)
      | (go_at_call 9; with_reducible refine (C1 w3 k t HS3.out (HA1.out.keep0 HK3.out)).out.mono ?_; rintro e w4 ⟨v1, rfl, hv1, hs4, hk4⟩; have HV1 := Lib.hid hv1; have HS4 := Lib.hid hs4; have HK34 := Lib.hid hk4; have HK4 := Lib.hid (HK3.out.trans' hk4 (fun x hx => by right; have h1 := HN3.out; have h2 := HK2.out.size; simp at hx; omega)); have HB4 := Lib.hid (HB1'.out.keep HK4.out (by simp)); clear hv1 hs4 hk4)
      | (refine wl_load_row rfl _ _ rfl gb rfl 32 5 Try.underlying23 _ D0 HB4.out (by rw [HDS.out]; exact secCells) ?_)
      | (go_at_call 9; with_reducible refine (C2 w4 k t HS4.out (HA1.out.keep0 HK4.out)).out.mono ?_; rintro e w5 ⟨v2, rfl, hv2, hs5, hk5⟩; have HV2 := Lib.hid hv2; have HK45 := Lib.hid hk5; have HK5 := Lib.hid (HK4.out.trans' hk5 (fun x hx => by right; have h1 := HN3.out; have h2 := HK2.out.size; simp at hx; omega)); have HB5 := Lib.hid (HB1'.out.keep HK5.out (by simp)); clear hv2 hs5 hk5))
    obtain ⟨vA, vc, rfl⟩ : ∃ A c, v1 = .slice A n c := by
      obtain ⟨A, c, e, _⟩ := HV1.out.1
      rw [expand_len] at e
      exact ⟨A, c, e⟩
    have hv5 : Sl .u8 w5 (.slice vA n vc) (Sha.expand kl al n) := HV1.out.1.keep HK45.out (fun hp g hg => by have h1 := HV1.out.2 g hg; have h2 := HL3.out; simp; omega)
    have HV5 := Lib.hid hv5
    have HA5 := Lib.hid (HA1.out.keep0 HK5.out)
    obtain ⟨cA, cc, rfl⟩ : ∃ A c, v2 = .slice A 0 c := by
      obtain ⟨A, c, e, _⟩ := HV2.out.1
      exact ⟨A, c, e⟩
    have HW5 := Lib.hid (HK1.out.trans HK5.out)
    clear hv5 HV1 HV2 HS4 HS3 N A C1 C2 hE hEE hN hX
    refine OutN.use (exl10B (fun a' w' => Fr 110 [(10, .int .i64 n), (11, .slice vA n vc), (13, .slice cA 0 cc), (15, .bool false), (90, .bool false)] a' ∧ Keep [] w5 w') _ w5 gb n far aA vA cA ac vc cc al kl D0 HB5 HD0 HS HA5 HAL HN2.out HV5
      ⟨rfl, rfl, by repeat (first | exact trivial | refine ⟨rfl, ?_⟩)⟩ (Lib.hid fun a' w' h1 h2 => ⟨h1, h2⟩)) ?_
    rintro a' w6 ⟨hF, hk6⟩
    have HK6 := Lib.hid hk6
    obtain ⟨f, ⟨f10, f11, f13, f15, f90, -⟩, rfl⟩ := hF.open110
    simp only [f10, f11, f13, f15, f90]
    clear f10 f11 f13 f15 f90 hF hk6
    go_upto_region 12 with fail
    refine OutN.use (exl12B (fun a' w' => Fr 110 [(8, .bool true)] a' ∧ Keep [] w6 w') _ w6 n vA cA vc cc
        ⟨rfl, rfl, by repeat (first | exact trivial | refine ⟨rfl, ?_⟩)⟩ (Lib.hid fun a' w' h1 h2 => ⟨h1, h2⟩)) ?_
    rintro a' w8 ⟨hF, hk8⟩
    have HK8 := Lib.hid ((HW5.out.trans HK6.out).trans hk8)
    obtain ⟨f', ⟨f8, -⟩, rfl⟩ := hF.open110
    simp only [f8]
    clear f8 hF hk8
    go_wp2_with fail
    go_ret
    exact ⟨rfl, HK8.out⟩
  · have hbig : 8160 < r := by omega
    clear hright
    go_upto_region 10 with (first
      | (go_at_call 8; with_reducible refine (N w2).out.mono ?_; rintro e w3 ⟨k, t, rfl, hk3, ht3, hs3, hkk3⟩; have HN3 := Lib.hid (And.intro hk3 ht3); have HS3 := Lib.hid hs3; have HK3 := Lib.hid (HK2.out.trans hkk3); have HL3 := Lib.hid hs3.lt; have HB3 := Lib.hid (HB1'.out.keep HK3.out (by simp)); clear hk3 ht3 hs3 hkk3)
      | (refine wl_load_row rfl _ _ rfl gb rfl 32 5 Try.underlying23 _ D0 HB3.out (by rw [HDS.out]; exact secCells) ?_)
      | (go_at_call 9; with_reducible refine (C1 w3 k t HS3.out (HA1.out.keep0 HK3.out)).out.mono ?_; rintro e w4 ⟨v1, rfl, hv1, hs4, hk4⟩; have HV1 := Lib.hid hv1; have HS4 := Lib.hid hs4; have HK34 := Lib.hid hk4; have HK4 := Lib.hid (HK3.out.trans' hk4 (fun x hx => by right; have h1 := HN3.out; have h2 := HK2.out.size; simp at hx; omega)); have HB4 := Lib.hid (HB1'.out.keep HK4.out (by simp)); clear hv1 hs4 hk4)
      | (refine wl_load_row rfl _ _ rfl gb rfl 32 5 Try.underlying23 _ D0 HB4.out (by rw [HDS.out]; exact secCells) ?_)
      | (go_at_call 9; with_reducible refine (C2 w4 k t HS4.out (HA1.out.keep0 HK4.out)).out.mono ?_; rintro e w5 ⟨v2, rfl, hv2, hs5, hk5⟩; have HV2 := Lib.hid hv2; have HK45 := Lib.hid hk5; have HK5 := Lib.hid (HK4.out.trans' hk5 (fun x hx => by right; have h1 := HN3.out; have h2 := HK2.out.size; simp at hx; omega)); have HB5 := Lib.hid (HB1'.out.keep HK5.out (by simp)); clear hv2 hs5 hk5))
    obtain ⟨vA, vc, rfl⟩ : ∃ A c, v1 = .slice A n c := by
      obtain ⟨A, c, e, _⟩ := HV1.out.1
      rw [expand_len] at e
      exact ⟨A, c, e⟩
    have hv5 : Sl .u8 w5 (.slice vA n vc) (Sha.expand kl al n) := HV1.out.1.keep HK45.out (fun hp g hg => by have h1 := HV1.out.2 g hg; have h2 := HL3.out; simp; omega)
    have HV5 := Lib.hid hv5
    have HA5 := Lib.hid (HA1.out.keep0 HK5.out)
    obtain ⟨cA, cc, rfl⟩ : ∃ A c, v2 = .slice A 0 c := by
      obtain ⟨A, c, e, _⟩ := HV2.out.1
      exact ⟨A, c, e⟩
    rw [decide_eq_false (show ¬ r ≤ 8160 by omega)]
    have HW5 := Lib.hid (HK1.out.trans HK5.out)
    clear hv5 HV1 HV2 HS4 HS3 N A C1 C2 hE hEE hN hX
    refine OutN.use (exl10B (fun a' w' => Fr 110 [(10, .int .i64 n), (11, .slice vA n vc), (13, .slice cA 0 cc), (15, .bool false), (90, .bool false)] a' ∧ Keep [] w5 w') _ w5 gb n far aA vA cA ac vc cc al kl D0 HB5 HD0 HS HA5 HAL HN2.out HV5
      ⟨rfl, rfl, by repeat (first | exact trivial | refine ⟨rfl, ?_⟩)⟩ (Lib.hid fun a' w' h1 h2 => ⟨h1, h2⟩)) ?_
    rintro a' w6 ⟨hF, hk6⟩
    have HK6 := Lib.hid hk6
    obtain ⟨f, ⟨f10, f11, f13, f15, f90, -⟩, rfl⟩ := hF.open110
    simp only [f10, f11, f13, f15, f90]
    clear f10 f11 f13 f15 f90 hF hk6
    go_upto_region 12 with fail
    refine OutN.use (exl12B (fun a' w' => Fr 110 [(8, .bool true)] a' ∧ Keep [] w6 w') _ w6 n vA cA vc cc
        ⟨rfl, rfl, by repeat (first | exact trivial | refine ⟨rfl, ?_⟩)⟩ (Lib.hid fun a' w' h1 h2 => ⟨h1, h2⟩)) ?_
    rintro a' w8 ⟨hF, hk8⟩
    have HK8 := Lib.hid ((HW5.out.trans HK6.out).trans hk8)
    obtain ⟨f', ⟨f8, -⟩, rfl⟩ := hF.open110
    simp only [f8]
    clear f8 hF hk8
    go_wp2_with fail
    go_ret
    exact ⟨rfl, HK8.out⟩
end Go.Proofs.Ytiiifcfgfmoiaaa
