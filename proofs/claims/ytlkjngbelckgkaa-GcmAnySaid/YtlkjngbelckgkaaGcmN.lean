/-
  GcmAny, over what aes' and gcm's functions keep.
-/
import Derived.Test.YtlkjngbelckgkaaGcmS2
namespace Go.Proofs.Ytlkjngbelckgkaa
open Go.RowKit

theorem Sl.empty {w : World} {v : Value} (h : Sl .u8 w v []) : ∃ A c, v = .slice A 0 c := by
  obtain ⟨A, c, rfl, -⟩ := h
  exact ⟨A, c, rfl⟩

set_option maxRecDepth 100000 in
set_option maxHeartbeats 8000000 in
theorem gcmAny_any {GS : World → List Nat → Nat → List Int → Nat → Prop} (hC : GcmC GS) (hN : ANewC) (kl nl : List Int) (ov : Value) (ol : List Int) (pv : Value) (pl : List Int) (w : World) (hkl : B16 kl) (hnl : N12 nl) (ho : Sl .u8 w ov ol) (hp : Sl .u8 w pv pl) :
    Calls Try.prog 4 #[arr kl, arr nl, ov, pv] w fun e w' => e = .returned (.bool true) ∧ Keep [] w w' := by
  have A := fun w => Lib.hid (awake6_any hC hN w)
  have HO := Lib.hid ho
  have HP := Lib.hid hp
  obtain ⟨oA, oc, rfl, ho1, ho2, -, -⟩ := ho
  obtain ⟨pA, pc, rfl, hp1, hp2, -, -⟩ := hp
  obtain ⟨DK, hDK⟩ : ∃ DK, DK = (kl.map (Value.int .u8)).toArray := ⟨_, rfl⟩
  obtain ⟨DN, hDN⟩ : ∃ DN, DN = (nl.map (Value.int .u8)).toArray := ⟨_, rfl⟩
  have HDK := Lib.hid hDK
  have HDN := Lib.hid hDN
  have HDNS := Lib.hid (show DN.size = 12 by rw [hDN]; simp [hnl.1])
  have HDKS := Lib.hid (show DK.size = 16 by rw [hDK]; simp [hkl.1])
  rw [arr_agg, arr_agg, ← hDK, ← hDN]
  obtain ⟨lo, hlo⟩ : ∃ lo, lo = ol.length := ⟨_, rfl⟩
  obtain ⟨lp, hlp⟩ : ∃ lp, lp = pl.length := ⟨_, rfl⟩
  rw [← hlo] at HO ho1 ⊢
  rw [← hlp] at HP hp1 ⊢
  have HLO := Lib.hid hlo
  have HLP := Lib.hid hlp
  have SN : ∀ W, Hid (Calls Try.prog 8 #[.pointer none, .agg DN, .slice oA lo oc, .slice pA lp pc] W fun e w' => ∃ A c, e = .returned (.slice A 0 c) ∧ Keep [] W w') := fun W => by
    have := hC.sealNil W nl (.slice oA lo oc) (.slice pA lp pc) hnl
    rw [arr_agg, ← hDN] at this
    refine Lib.hid (this.mono ?_)
    rintro e w' ⟨v, rfl, hs, hk⟩
    obtain ⟨A, c, rfl⟩ := Sl.empty hs
    exact ⟨A, c, rfl, hk⟩
  have ON : ∀ W, Hid (Calls Try.prog 11 #[.pointer none, .agg DN, .slice oA lo oc, .slice pA lp pc] W fun e w' => ∃ v, e = .returned (.tuple #[v, .int .i64 1]) ∧ Keep [] W w') := fun W => by
    have := hC.openNil W nl (.slice oA lo oc) (.slice pA lp pc) hnl
    rw [arr_agg, ← hDN] at this
    refine Lib.hid (this.mono ?_)
    rintro e w' ⟨v, rfl, hs, hk⟩
    exact ⟨v, rfl, hk⟩
  have NN : ∀ W, Hid (Calls Try.prog 6 #[.pointer none, .agg DK] W fun e w' => e = .returned (.pointer none) ∧ Keep [] W w') := fun W => by
    have := hC.newNil W kl hkl
    rw [arr_agg, ← hDK] at this
    exact Lib.hid this
  clear hDK hDN hlo hlp
  go_enter Try.func4, Try.ntmps4
  go_upto_region 3 with (first
    | (have _q := HB1; refine wl_box rfl _ _ rfl DN rfl ?_; intro w2 hB2 hk2 hz2; have HB2 := Lib.hid hB2; have HK2 := Lib.hid hk2; clear hB2 hk2 hz2)
    | (refine wl_box rfl _ _ rfl DK rfl ?_; intro w1 hB1 hk1 hz1; have HB1 := Lib.hid hB1; have HK1 := Lib.hid hk1; clear hB1 hk1 hz1)
    | (go_at_call 5; with_reducible refine (A w2).out.mono ?_; rintro e w3 ⟨rfl, hk3⟩; have HK3 := Lib.hid hk3; clear hk3))
  obtain ⟨KB, hKB⟩ : ∃ KB, KB = w.heap.size := ⟨_, rfl⟩
  obtain ⟨M, hM⟩ : ∃ M, M = w1.heap.size := ⟨_, rfl⟩
  have HBK := Lib.hid (show Blk w3 KB 23 DK by rw [hKB]; exact (HB1.out.keep HK2.out (by simp)).keep HK3.out (by simp))
  have HBM := Lib.hid (show Blk w3 M 25 DN by rw [hM]; exact HB2.out.keep HK3.out (by simp))
  have HKW := Lib.hid ((HK1.out.trans HK2.out).trans HK3.out)
  have HMW := Lib.hid (show M < w3.heap.size ∧ KB < w3.heap.size from ⟨HBM.out.lt, HBK.out.lt⟩)
  rw [← hKB, ← hM]
  clear hKB hM HB1 HB2 HK1 HK2 HK3 _q A
  by_cases h1 : 200 < lo
  · have h1' : (200 : Int) < (lo : Int) := by omega
    go_wp2_with fail
    go_ret
    exact ⟨rfl, HKW.out⟩
  · by_cases h2 : 300 < lp
    · have h1' : ¬ (200 : Int) < (lo : Int) := by omega
      have h2' : (300 : Int) < (lp : Int) := by omega
      go_wp2_with fail
      go_ret
      exact ⟨rfl, HKW.out⟩
    · have h1' : ¬ (200 : Int) < (lo : Int) := by omega
      have h2' : ¬ (300 : Int) < (lp : Int) := by omega
      go_upto_region 5 with fail
      refine OutN.use (gany5_wp hC hN (fun a' w' => ∃ s S n', Fr 92 [(2, .slice oA lo oc), (3, .slice pA lp pc), (4, .pointer (some ⟨KB, 0, none⟩)), (5, .pointer (some ⟨M, 0, none⟩)), (9, .pointer (some ⟨s, 0, none⟩))] a' ∧ GS w' S s kl n' ∧ n' ≤ 10 ∧ (∀ x ∈ S, w3.heap.size ≤ x) ∧ Keep [] w3 w') _ w3 KB M _ _ kl DK hkl HDK HBK
        ⟨rfl, rfl, by repeat (first | exact trivial | refine ⟨rfl, ?_⟩)⟩ (Lib.hid fun a' w' s S n' h1 h2 h3 h4 h5 => ⟨s, S, n', h1, h2, h3, h4, h5⟩)) ?_
      rintro a' w4 ⟨s, S, n4, hF4, hgs4, hn4, hS4, hk4⟩
      have HG4 := Lib.hid hgs4
      have HS4 := Lib.hid hS4
      have HK4 := Lib.hid hk4
      have HO4 := Lib.hid ((HO.out.keep0 HKW.out).keep0 hk4)
      have HP4 := Lib.hid ((HP.out.keep0 HKW.out).keep0 hk4)
      have HBK4 := Lib.hid (HBK.out.keep hk4 (by simp))
      have HBM4 := Lib.hid (HBM.out.keep hk4 (by simp))
      have HMS := Lib.hid (show M ∉ S ∧ KB ∉ S from ⟨fun h => by have := HS4.out M h; have := HMW.out.1; omega, fun h => by have := HS4.out KB h; have := HMW.out.2; omega⟩)
      have HKS : Hid (∀ b : Nat, b < w.heap.size → b ∉ S) := Lib.hid fun b hb h => by
        have h1 := HS4.out b h
        have h2 := HKW.out.size
        omega
      have HSW : Hid (∀ q ∈ S, q ∈ ([] : List Nat) ∨ w.heap.size ≤ q) := Lib.hid fun q hq => by
        right
        have h1 := HS4.out q hq
        have h2 := HKW.out.size
        omega
      obtain ⟨f, ⟨f2, f3, f4, f5, f9, -⟩, rfl⟩ := hF4.open92
      simp only [f2, f3, f4, f5, f9]
      clear f2 f3 f4 f5 f9 hF4 hgs4 hS4 hk4
      have OP : Hid (Calls Try.prog 11 #[.pointer (some ⟨s, 0, none⟩), .agg DN, .slice oA lo oc, .slice pA lp pc] w4 fun e w' => ∃ v c n', e = .returned (.tuple #[v, .int .i64 c]) ∧ ((∃ p, Gcm.opened kl nl ol pl = some p ∧ 16 ≤ lp ∧ c = 0 ∧ Sl .u8 w' v p) ∨ (((c = 3 ∧ lp < 16) ∨ (c = 8 ∧ ¬ lp < 16)) ∧ ∃ A0 c0, v = .slice A0 0 c0)) ∧ n' ≤ n4 + 10000 ∧ GS w' S s kl n' ∧ Keep S w4 w') := by
        by_cases hl : pl.length < 16
        · have := hC.shortG w4 S s n4 kl nl ol pl _ _ HG4.out hnl HO4.out HP4.out hl
          rw [arr_agg, ← HDN.out] at this
          refine Lib.hid (this.mono ?_)
          rintro e w' ⟨v', rfl, hsl, hk⟩
          exact ⟨_, 3, n4, rfl, .inr ⟨.inl ⟨rfl, by rw [HLP.out]; exact hl⟩, Sl.empty hsl⟩, by omega, hC.keepG HG4.out hk (by simp), hk.more0⟩
        · have := hC.openG w4 S s n4 kl nl ol pl _ _ HG4.out (by omega) hkl hnl HO4.out HP4.out (by have := HLO.out; omega) (by omega) (by have := HLP.out; omega)
          rw [arr_agg, ← HDN.out] at this
          refine Lib.hid (this.mono ?_)
          rintro e w' ⟨v', c, n', rfl, hres, -, hn', hg', hk'⟩
          refine ⟨_, c, n', rfl, ?_, hn', hg', hk'⟩
          rcases hres with ⟨p, h1, h2, h3⟩ | ⟨_, h2, h3⟩
          · exact .inl ⟨p, h1, by have := HLP.out; omega, h2, h3⟩
          · exact .inr ⟨.inr ⟨h2, by have := HLP.out; omega⟩, Sl.empty h3⟩
      go_upto_region 7 with (first
        | (refine wl_load_row rfl _ _ rfl M rfl 12 5 Try.underlying25 _ DN HBM4.out (by rw [HDNS.out]; exact nonceCells) ?_)
        | (go_at_call 11; with_reducible refine OP.out.mono ?_; rintro e w5 ⟨v, c, n5, rfl, hres5, hn5, hgs5, hk5⟩; have HR5 := Lib.hid hres5; have HG5 := Lib.hid hgs5; have HK5 := Lib.hid hk5; clear hres5 hgs5 hk5))
      have HO5 := Lib.hid (HO4.out.keep HK5.out (fun hl b hb => HKS.out b (HO.out.lt hl b hb)))
      have HP5 := Lib.hid (HP4.out.keep HK5.out (fun hl b hb => HKS.out b (HP.out.lt hl b hb)))
      have HBK5 := Lib.hid (HBK4.out.keep HK5.out HMS.out.2)
      have HBM5 := Lib.hid (HBM4.out.keep HK5.out HMS.out.1)
      have HKW5 := Lib.hid ((HKW.out.trans HK4.out).trans' HK5.out HSW.out)
      clear OP HG4 HO4 HP4
      rcases HR5.out with ⟨p, hop, hl16, rfl, hsl5⟩ | ⟨hc, A0, c0, rfl⟩
      · have hso := Gcm.sealed_opened kl nl ol pl p HP.out.wf (by have := HLP.out; omega) hop
        have HSE := Lib.hid hso.1
        have HPL := Lib.hid hso.2
        have HSL5 := Lib.hid hsl5
        clear hso hsl5 HR5
        go_upto_region 8 with fail
        refine OutN.use (gany8_wp hC (fun a' w' => Fr 92 [(8, .bool true)] a' ∧ Keep S w5 w') _ w5 KB M s n5 S _ _ v kl nl ol p pl hkl hnl (by have := HLO.out; omega) (by have := HPL.out; have := HLP.out; omega) (by omega) DN HDN HBM5 (Lib.hid HMS.out.1) HO5 HSL5 HP5 (Lib.hid fun b hb hl => HKS.out b (HP.out.lt hl b hb)) HG5 HSE
          ⟨rfl, rfl, by repeat (first | exact trivial | refine ⟨rfl, ?_⟩)⟩ (Lib.hid fun a' w' h1 h2 => ⟨h1, h2⟩)) ?_
        rintro a' w6 ⟨hF6, hk6⟩
        have HK6 := Lib.hid (HKW5.out.trans' hk6 HSW.out)
        obtain ⟨f, ⟨f8, -⟩, rfl⟩ := hF6.open92
        simp only [f8]
        clear f8 hF6 hk6
        go_wp2_with fail
        go_ret
        exact ⟨rfl, HK6.out⟩
      · clear HR5
        rcases hc with ⟨rfl, hl⟩ | ⟨rfl, hl⟩
        · have hl' : (lp : Int) < 16 := by omega
          go_upto_region 11 with (first
            | (refine wl_load_row rfl _ _ rfl M rfl 12 5 Try.underlying25 _ DN HBM5.out (by rw [HDNS.out]; exact nonceCells) ?_)
            | (go_at_call 11; with_reducible refine (ON _).out.mono ?_; rintro e w6 ⟨v6, rfl, hk6⟩; have HK6 := Lib.hid hk6; have HBM6 := Lib.hid (HBM5.out.keep hk6 (by simp)); have HBK6 := Lib.hid (HBK5.out.keep hk6 (by simp)); clear hk6))
          go_wp2_with (first
            | (refine wl_load_rowG rfl _ _ rfl M rfl 12 5 Try.underlying25 _ DN HBM6.out (by rw [HDNS.out]; exact nonceCells) ?_)
            | (go_at_call 8; with_reducible refine (SN _).out.mono ?_; rintro e w7 ⟨A7, c7, rfl, hk7⟩; have HK7 := Lib.hid hk7; have HBK7 := Lib.hid (HBK6.out.keep hk7 (by simp)); clear hk7)
            | (refine wl_load_rowG rfl _ _ rfl KB rfl 16 5 Try.underlying23 _ DK HBK7.out (by rw [HDKS.out]; exact blkCells) ?_)
            | (go_at_call 6; with_reducible refine (NN _).out.mono ?_; rintro e w8 ⟨rfl, hk8⟩; have HK8 := Lib.hid hk8; clear hk8))
          go_ret
          exact ⟨rfl, ((HKW5.out.trans HK6.out).trans HK7.out).trans HK8.out⟩
        · have hl' : ¬ (lp : Int) < 16 := by omega
          have hd : decide ((lp : Int) < 16) = false := decide_eq_false hl'
          go_upto_region 11 with (first
            | (refine wl_load_row rfl _ _ rfl M rfl 12 5 Try.underlying25 _ DN HBM5.out (by rw [HDNS.out]; exact nonceCells) ?_)
            | (go_at_call 11; with_reducible refine (ON _).out.mono ?_; rintro e w6 ⟨v6, rfl, hk6⟩; have HK6 := Lib.hid hk6; have HBM6 := Lib.hid (HBM5.out.keep hk6 (by simp)); have HBK6 := Lib.hid (HBK5.out.keep hk6 (by simp)); clear hk6))
          go_wp2_with (first
            | (refine wl_load_rowG rfl _ _ rfl M rfl 12 5 Try.underlying25 _ DN HBM6.out (by rw [HDNS.out]; exact nonceCells) ?_)
            | (go_at_call 8; with_reducible refine (SN _).out.mono ?_; rintro e w7 ⟨A7, c7, rfl, hk7⟩; have HK7 := Lib.hid hk7; have HBK7 := Lib.hid (HBK6.out.keep hk7 (by simp)); clear hk7)
            | (refine wl_load_rowG rfl _ _ rfl KB rfl 16 5 Try.underlying23 _ DK HBK7.out (by rw [HDKS.out]; exact blkCells) ?_)
            | (go_at_call 6; with_reducible refine (NN _).out.mono ?_; rintro e w8 ⟨rfl, hk8⟩; have HK8 := Lib.hid hk8; clear hk8))
          go_ret
          exact ⟨rfl, ((HKW5.out.trans HK6.out).trans HK7.out).trans HK8.out⟩
end Go.Proofs.Ytlkjngbelckgkaa
