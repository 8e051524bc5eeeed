/-
  GcmSeals, over what aes' and gcm's functions keep.
-/
import Derived.Test.YtlkjngbelckgkaaGcmS2
namespace Go.Proofs.Ytlkjngbelckgkaa
open Go.RowKit

set_option maxRecDepth 100000 in
set_option maxHeartbeats 8000000 in
theorem gcmSeals_any {GS : World → List Nat → Nat → List Int → Nat → Prop} (hC : GcmC GS) (hN : ANewC) (kl nl : List Int) (ov : Value) (ol : List Int) (pv : Value) (pl : List Int) (w : World) (hkl : B16 kl) (hnl : N12 nl) (ho : Sl .u8 w ov ol) (hp : Sl .u8 w pv pl) :
    Calls Try.prog 3 #[arr kl, arr nl, ov, pv] w fun e w' => e = .returned (.bool true) ∧ Keep [] w w' := by
  have A := fun w => Lib.hid (awake6_any hC hN w)
  have HO := Lib.hid ho
  have HP := Lib.hid hp
  obtain ⟨oA, oc, rfl, ho1, ho2, -, -⟩ := ho
  obtain ⟨pA, pc, rfl, hp1, hp2, -, -⟩ := hp
  obtain ⟨DK, hDK⟩ : ∃ DK, DK = (kl.map (Value.int .u8)).toArray := ⟨_, rfl⟩
  obtain ⟨DN, hDN⟩ : ∃ DN, DN = (nl.map (Value.int .u8)).toArray := ⟨_, rfl⟩
  have HDK := Lib.hid hDK
  have HDN := Lib.hid hDN
  have HDNS := Lib.hid (show DN.size = 12 by rw [hDN]; simp [hnl.1])
  rw [arr_agg, arr_agg, ← hDK, ← hDN]
  obtain ⟨lo, hlo⟩ : ∃ lo, lo = ol.length := ⟨_, rfl⟩
  obtain ⟨lp, hlp⟩ : ∃ lp, lp = pl.length := ⟨_, rfl⟩
  rw [← hlo] at HO ho1 ⊢
  rw [← hlp] at HP hp1 ⊢
  have HLO := Lib.hid hlo
  have HLP := Lib.hid hlp
  clear hDK hDN hlo hlp
  go_enter Try.func3, Try.ntmps3
  go_upto_region 3 with (first
    | (have _q := HB1; refine wl_box rfl _ _ rfl DN rfl ?_; intro w2 hB2 hk2 hz2; have HB2 := Lib.hid hB2; have HK2 := Lib.hid hk2; clear hB2 hk2 hz2)
    | (refine wl_box rfl _ _ rfl DK rfl ?_; intro w1 hB1 hk1 hz1; have HB1 := Lib.hid hB1; have HK1 := Lib.hid hk1; clear hB1 hk1 hz1)
    | (go_at_call 5; with_reducible refine (A w2).out.mono ?_; rintro e w3 ⟨rfl, hk3⟩; have HK3 := Lib.hid hk3; clear hk3))
  obtain ⟨KB, hKB⟩ : ∃ KB, KB = w.heap.size := ⟨_, rfl⟩
  obtain ⟨M, hM⟩ : ∃ M, M = w1.heap.size := ⟨_, rfl⟩
  have HBK := Lib.hid (show Blk w3 KB 23 DK by rw [hKB]; exact (HB1.out.keep HK2.out (by simp)).keep HK3.out (by simp))
  have HBM := Lib.hid (show Blk w3 M 25 DN by rw [hM]; exact HB2.out.keep HK3.out (by simp))
  have HKW := Lib.hid ((HK1.out.trans HK2.out).trans HK3.out)
  have HMW := Lib.hid (show M < w3.heap.size ∧ KB < w3.heap.size from ⟨HBM.out.lt, HBK.out.lt⟩)
  rw [← hKB, ← hM]
  clear hKB hM HB1 HB2 HK1 HK2 HK3 _q A
  by_cases h1 : 40 < lo
  · have h1' : (40 : Int) < (lo : Int) := by omega
    go_wp2_with fail
    go_ret
    exact ⟨rfl, HKW.out⟩
  · by_cases h2 : 70 < lp
    · have h1' : ¬ (40 : Int) < (lo : Int) := by omega
      have h2' : (70 : Int) < (lp : Int) := by omega
      go_wp2_with fail
      go_ret
      exact ⟨rfl, HKW.out⟩
    · have h1' : ¬ (40 : Int) < (lo : Int) := by omega
      have h2' : ¬ (70 : Int) < (lp : Int) := by omega
      go_upto_region 5 with fail
      refine OutN.use (gseals5_wp hC hN (fun a' w' => ∃ s S n', Fr 58 [(2, .slice oA lo oc), (3, .slice pA lp pc), (4, .pointer (some ⟨KB, 0, none⟩)), (5, .pointer (some ⟨M, 0, none⟩)), (9, .pointer (some ⟨s, 0, none⟩))] a' ∧ GS w' S s kl n' ∧ n' ≤ 10 ∧ (∀ x ∈ S, w3.heap.size ≤ x) ∧ Keep [] w3 w') _ w3 KB M _ _ kl DK hkl HDK HBK
        ⟨rfl, rfl, by repeat (first | exact trivial | refine ⟨rfl, ?_⟩)⟩ (Lib.hid fun a' w' s S n' h1 h2 h3 h4 h5 => ⟨s, S, n', h1, h2, h3, h4, h5⟩)) ?_
      rintro a' w4 ⟨s, S, n4, hF4, hgs4, hn4, hS4, hk4⟩
      have HG4 := Lib.hid hgs4
      have HS4 := Lib.hid hS4
      have HK4 := Lib.hid hk4
      have HO4 := Lib.hid ((HO.out.keep0 HKW.out).keep0 hk4)
      have HP4 := Lib.hid ((HP.out.keep0 HKW.out).keep0 hk4)
      have HBK4 := Lib.hid (HBK.out.keep hk4 (by simp))
      have HBM4 := Lib.hid (HBM.out.keep hk4 (by simp))
      obtain ⟨f, ⟨f2, f3, f4, f5, f9, -⟩, rfl⟩ := hF4.open58
      simp only [f2, f3, f4, f5, f9]
      clear f2 f3 f4 f5 f9 hF4 hgs4 hS4 hk4
      have SG : Hid (Calls Try.prog 8 #[.pointer (some ⟨s, 0, none⟩), .agg DN, .slice oA lo oc, .slice pA lp pc] w4 fun e w' => ∃ v n', e = .returned v ∧ Sl .u8 w' v (Gcm.sealed kl nl ol pl) ∧ (∀ b, v.ownBlock = some b → w4.heap.size ≤ b ∧ b ∉ S) ∧ n' ≤ n4 + 10000 ∧ GS w' S s kl n' ∧ Keep S w4 w') := by
        have := hC.sealG w4 S s n4 kl nl ol pl _ _ HG4.out (by omega) hkl hnl HO4.out HP4.out (by have := HLO.out; omega) (by have := HLP.out; omega)
        rw [arr_agg, ← HDN.out] at this
        exact Lib.hid this
      go_upto_region 7 with (first
        | (refine wl_load_row rfl _ _ rfl M rfl 12 5 Try.underlying25 _ DN HBM4.out (by rw [HDNS.out]; exact nonceCells) ?_)
        | (go_at_call 8; with_reducible refine SG.out.mono ?_; rintro e w5 ⟨v, n5, rfl, hsl5, hown5, hn5, hgs5, hk5⟩; have HSL5 := Lib.hid hsl5; have HOWN5 := Lib.hid hown5; have HG5 := Lib.hid hgs5; have HK5 := Lib.hid hk5; clear hsl5 hown5 hgs5 hk5))
      have HLT := Lib.hid (show ∀ x ∈ S, w3.heap.size ≤ x from HS4.out)
      have HMS := Lib.hid (show M ∉ S ∧ KB ∉ S from ⟨fun h => by have := HS4.out M h; have := HMW.out.1; omega, fun h => by have := HS4.out KB h; have := HMW.out.2; omega⟩)
      have hkeepS : ∀ {b : Nat}, b < w.heap.size → b ∉ S := fun {b} hb h => by
        have h1 := HS4.out b h
        have h2 := HKW.out.size
        omega
      have HO5 := Lib.hid (HO4.out.keep HK5.out (fun hl b hb => hkeepS (HO.out.lt hl b hb)))
      have HP5 := Lib.hid (HP4.out.keep HK5.out (fun hl b hb => hkeepS (HP.out.lt hl b hb)))
      have HBK5 := Lib.hid (HBK4.out.keep HK5.out HMS.out.2)
      have HBM5 := Lib.hid (HBM4.out.keep HK5.out HMS.out.1)
      clear SG HG4 HO4 HP4
      refine OutN.use (gseals7_wp (fun a' w' => Fr 58 [(2, .slice oA lo oc), (3, .slice pA lp pc), (4, .pointer (some ⟨KB, 0, none⟩)), (5, .pointer (some ⟨M, 0, none⟩)), (9, .pointer (some ⟨s, 0, none⟩)), (10, v), (40, .bool false)] a' ∧ Keep [] w5 w') _ w5 KB M s _ _ v kl nl ol pl hkl hnl (by have := HLO.out; omega) (by have := HLP.out; omega) DK DN HDK HDN HBK5 HBM5 HO5 HP5 HSL5
        ⟨rfl, rfl, by repeat (first | exact trivial | refine ⟨rfl, ?_⟩)⟩ (Lib.hid fun a' w' h1 h2 => ⟨h1, h2⟩)) ?_
      rintro a' w6 ⟨hF6, hk6⟩
      have HK6 := Lib.hid hk6
      have HO6 := Lib.hid (HO5.out.keep0 hk6)
      have HP6 := Lib.hid (HP5.out.keep0 hk6)
      have HBM6 := Lib.hid (HBM5.out.keep hk6 (by simp))
      have HSL6 := Lib.hid (HSL5.out.keep0 hk6)
      have HG6 := Lib.hid (hC.keepG HG5.out hk6 (by simp))
      obtain ⟨f, ⟨f2, f3, f4, f5, f9, f10, f40, -⟩, rfl⟩ := hF6.open58
      simp only [f2, f3, f4, f5, f9, f10, f40]
      clear f2 f3 f4 f5 f9 f10 f40 hF6 hk6
      have hop := Gcm.opened_sealed kl nl ol pl HP6.out.wf
      have hsl := Gcm.sealed_length kl nl ol pl
      obtain ⟨s1, hs1⟩ : ∃ s1, s1 = bstr pl := ⟨_, rfl⟩
      have OP : Hid (Calls Try.prog 11 #[.pointer (some ⟨s, 0, none⟩), .agg DN, .slice oA lo oc, v] w6 fun e w' => ∃ v', e = .returned (.tuple #[v', .int .i64 0]) ∧ (convert 26 9 v').run Try.prog w' = .ok (.string s1) w' ∧ (convert 26 9 (.slice pA lp pc)).run Try.prog w' = .ok (.string s1) w' ∧ Keep [] w w') := by
        have := hC.openG w6 S s n5 kl nl ol (Gcm.sealed kl nl ol pl) _ _ HG6.out (by omega) hkl hnl HO6.out HSL6.out (by have := HLO.out; omega) (by omega) (by have := HLP.out; omega)
        rw [arr_agg, ← HDN.out] at this
        refine Lib.hid (this.mono ?_)
        rintro e w' ⟨v', c, n', rfl, hres, -, -, -, hk'⟩
        rcases hres with ⟨p, hp', rfl, hsl'⟩ | ⟨hno, -, -⟩
        · rw [hop] at hp'
          obtain rfl := Option.some.inj hp'
          refine ⟨_, rfl, ?_, ?_, ?_⟩
          · rw [hs1]
            exact run_bytes_str hsl' Try.underlying26 Try.underlying5 Try.underlying9
          · rw [hs1]
            exact run_bytes_str (HP6.out.keep hk' (fun hl b hb => hkeepS (HP.out.lt hl b hb))) Try.underlying26 Try.underlying5 Try.underlying9
          · have hh : ∀ q ∈ S, q ∈ ([] : List Nat) ∨ w.heap.size ≤ q := fun q hq => by
              right
              have h1 := HS4.out q hq
              have h2 := HKW.out.size
              omega
            exact (((HKW.out.trans HK4.out).trans' HK5.out hh).trans HK6.out).trans' hk' hh
        · rw [hop] at hno; cases hno
      clear hop hsl hs1 HO6 HP6 HSL6 HG6
      go_upto_region 10 with (first
        | (refine wl_load_row rfl _ _ rfl M rfl 12 5 Try.underlying25 _ DN HBM6.out (by rw [HDNS.out]; exact nonceCells) ?_)
        | (go_at_call 11; with_reducible refine OP.out.mono ?_; rintro e w7 ⟨v7, rfl, cv1, cv2, hk7⟩; have HK7 := Lib.hid hk7; clear hk7))
      go_wp2_with (first
        | (refine wl_conv rfl _ _ _ rfl _ _ rfl cv1 ?_)
        | (refine wl_conv rfl _ _ _ rfl _ _ rfl cv2 ?_))
      go_ret
      exact ⟨rfl, HK7.out⟩
end Go.Proofs.Ytlkjngbelckgkaa
