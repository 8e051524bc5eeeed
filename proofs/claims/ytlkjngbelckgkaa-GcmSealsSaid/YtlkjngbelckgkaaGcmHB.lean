/-
  The landed gcm: mask, New, nil ones.
  The landed gcm: Seal.
  The landed gcm: Open: the tag held against what is there: the drawn region.
  The landed gcm: Open; all together.
-/
import Derived.Test.YtlkjngbelckgkaaGcmHA
namespace Go.Proofs.Ytlkjngbelckgkaa
open Go.RowKit

set_option maxRecDepth 100000 in
set_option maxHeartbeats 8000000 in
theorem mask_any (s p g m h T mT cT : Nat) (fv : Value) (k nn fl : List Int) (L : Nat) (hL : L = fl.length) (hk : B16 k) (hnn : N12 nn) (hfl : L ≤ 100000) (hm : m ≤ 900000) (hmT : L ≤ mT) (hcT : L ≤ cT) (hcT2 : cT ≤ 9223372036854775807) (w : World)
    (hf : Sl .u8 w fv fl) (hne : s ∉ [g, T] ∧ p ∉ [g, T] ∧ g ≠ T ∧ ∀ b, 0 < L → fv.ownBlock = some b → b ≠ T)
    (hBS : SB w s p h) (hAT : AT w g m) (hAK : AK w p g k) (hBT : Blk w T 5 (mcs k nn fl 0 mT).toArray) :
    Calls Try.prog 15 #[.pointer (some ⟨s, 0, none⟩), .slice (some ⟨T, 0, none⟩) L cT, arr nn, fv] w fun e w' => e = .returned (.tuple #[]) ∧ Blk w' T 5 (mcs k nn fl L mT).toArray ∧ (∃ m', m' ≤ m + 7000 ∧ AT w' g m') ∧ Keep [g, T] w w' := by
  obtain ⟨D, hD⟩ : ∃ D, D = (nn.map (Value.int .u8)).toArray := ⟨_, rfl⟩
  have HD := Lib.hid hD
  have HDS := Lib.hid (show D.size = 12 by rw [hD]; simp [hnn.1])
  have HLL := Lib.hid hL
  clear hL
  have HF := Lib.hid hf
  have HNE := Lib.hid hne
  have HS := Lib.hid hBS
  have HAT := Lib.hid hAT
  have HAK := Lib.hid hAK
  have HT := Lib.hid hBT
  rw [arr_agg, ← hD]
  clear hD hf hne hBS hAT hAK hBT
  go_enter Try.func15, Try.ntmps15
  go_upto_block 0 with (refine wl_box rfl _ _ rfl D rfl ?_; intro w1 hB1 hk1 hz1; have HB1 := Lib.hid hB1; have HK1 := Lib.hid hk1; clear hB1 hk1 hz1)
  obtain ⟨N, hN⟩ : ∃ N, N = w.heap.size := ⟨_, rfl⟩
  have HN := Lib.hid (show N ∉ [g, T] by
    have h1 := HAT.out.lt
    have h2 := HT.out.lt
    simp; omega)
  rw [← hN] at HB1 ⊢
  clear hN
  go_wp2_with fail
  refine OutX.use (mask_loop (fun a' w' => Fr 55 [(0, .pointer (some ⟨s, 0, none⟩))] a' ∧ Blk w' T 5 (mcs k nn fl L mT).toArray ∧ (∃ m', m' ≤ m + 7000 ∧ AT w' g m') ∧ Keep [g, T] w1 w') _ w1 s p g m h N T mT cT fv k nn fl L HLL.out D hk hnn hfl hm hmT hcT hcT2 HD HDS (Lib.hid (HF.out.keep0 HK1.out)) (Lib.hid ⟨HN.out, HNE.out.1, HNE.out.2.1, HNE.out.2.2.1, HNE.out.2.2.2⟩) HB1 (Lib.hid (HS.out.keep HK1.out (by simp))) (Lib.hid (HAT.out.keep HK1.out (by simp))) (Lib.hid (HAK.out.keep HK1.out (by simp))) (Lib.hid (HT.out.keep HK1.out (by simp)))
    ⟨rfl, rfl, by repeat (first | exact trivial | refine ⟨rfl, ?_⟩)⟩ (fun a' w' h1 h2 h3 h4 => ⟨h1, h2, h3, h4⟩)) ?_
  rintro a' w2 ⟨hF2, hb2, hat2, hk2⟩
  have HB2 := Lib.hid hb2
  have HA2 := Lib.hid hat2
  have HK2 := Lib.hid (HK1.out.more0.trans hk2)
  obtain ⟨fr, ⟨f0, -⟩, rfl⟩ := hF2.open55
  simp only [f0]
  clear f0 hF2 hb2 hat2 hk2
  go_wp2_with fail
  go_end0
  exact ⟨rfl, HB2.out, HA2.out, HK2.out⟩

/-- A sealer's blocks and what they hold. -/
def GG (w : World) (S : List Nat) (s : Nat) (k : List Int) (n : Nat) : Prop :=
  ∃ p g m, S = [s, p, g] ∧ s ≠ p ∧ s ≠ g ∧ AK w p g k ∧ AT w g m ∧ m ≤ n ∧ SB w s p (Gcm.en (Gcm.hk k))
theorem nonceZ : True := trivial
theorem keyLoad {W : World} {s p h : Nat} (hb : SB W s p h) : (loadVar 39 ⟨s, 0, none⟩).run Try.prog W = .ok (.pointer (some ⟨p, 0, none⟩)) W := by
  have q := hb.key
  simp [go_sem, q]

set_option maxRecDepth 100000 in
set_option maxHeartbeats 8000000 in
theorem gNew (w : World) (g n : Nat) (k : List Int) (hAF : AF w g n) (hn : n ≤ 500000) (hk : B16 k) :
    Calls Try.prog 6 #[.pointer (some ⟨g, 0, none⟩), arr k] w fun e w' => ∃ s S n', e = .returned (.pointer (some ⟨s, 0, none⟩)) ∧ GG w' S s k n' ∧ n' ≤ n + 10 ∧ (∀ x ∈ S, x = g ∨ w.heap.size ≤ x) ∧ Keep [g] w w' := by
  obtain ⟨D, hD⟩ : ∃ D, D = (k.map (Value.int .u8)).toArray := ⟨_, rfl⟩
  have HD := Lib.hid hD
  have HDS := Lib.hid (show D.size = 16 by rw [hD]; simp [hk.1])
  obtain ⟨Z, hZ, hZs, hZi⟩ := blk16
  obtain ⟨Z', hZ', hZb⟩ := blk16B
  obtain rfl : Z' = Z := by rw [hZ', hZ]
  have HB := Lib.hid hZb
  have KY : ∀ W, AF W g n → Hid (Calls Try.prog 12 #[.pointer (some ⟨g, 0, none⟩), .agg D] W fun e w' => ∃ p, e = .returned (.pointer (some ⟨p, 0, none⟩)) ∧ W.heap.size ≤ p ∧ AK w' p g k ∧ AT w' g n ∧ Keep [g] W w') := fun W h => by
    have := aKeyC W g n k h hk
    rw [arr_agg, ← hD] at this
    exact Lib.hid this
  obtain ⟨F, hF⟩ : ∃ F, F = ((Gcm.hk k).map (Value.int .u8)).toArray := ⟨_, rfl⟩
  have hz16 : B16 (List.replicate 16 0) := ⟨by simp, by decide⟩
  have TN : ∀ W p, AK W p g k → AT W g n → Hid (Calls Try.prog 14 #[.pointer (some ⟨p, 0, none⟩), .agg Z'] W fun e w' => e = .returned (.agg F) ∧ AT w' g (n + 1) ∧ Keep [g] W w') := fun W p h1 h2 => by
    have := aTurnC W p g n k (List.replicate 16 0) h1 h2 (by omega) hk hz16
    rw [arr_agg, arr_agg, show ((List.replicate 16 (0 : Int)).map (Value.int .u8)).toArray = Z' by rw [hZ]; simp, show Aes.turn k (List.replicate 16 0) = Gcm.hk k from rfl, ← hF] at this
    exact Lib.hid this
  obtain ⟨h, hh⟩ : ∃ h, h = Gcm.en (Gcm.hk k) := ⟨_, rfl⟩
  have HH := Lib.hid hh
  obtain ⟨x, hx⟩ : ∃ x : Int, x = ((h / 2 ^ 64 : Nat) : Int) := ⟨_, rfl⟩
  obtain ⟨y, hy⟩ : ∃ y : Int, y = ((h % 2 ^ 64 : Nat) : Int) := ⟨_, rfl⟩
  have HXY := Lib.hid (show ec h = #[.int .u64 x, .int .u64 y] by rw [hx, hy]; rfl)
  have EL : ∀ W, Hid (Calls Try.prog 13 #[.agg F] W fun e w' => e = .returned (.agg #[.int .u64 x, .int .u64 y]) ∧ Keep [] W w') := fun W => by
    have := el_of (Gcm.hk k) (turn_b16 hk hz16) W
    rw [arr_agg, ← hF, ← hh] at this
    unfold ev at this
    rw [HXY.out] at this
    exact Lib.hid this
  have HAF := Lib.hid hAF
  rw [arr_agg, ← hD]
  clear hD hZ hZs hZi hZ' hZb hF hh hx hy hAF
  go_enter Try.func6, Try.ntmps6
  go_wp2_with (first
    | (have _q := HE5; refine wl_box rfl _ _ rfl #[.pointer (some ⟨p, 0, none⟩), .int .u64 x, .int .u64 y] rfl ?_; intro w6 hB6 hk6 hz6; have HB6 := Lib.hid hB6; have HK6 := Lib.hid hk6; clear hB6 hk6 hz6)
    | (refine wl_box rfl _ _ rfl D rfl ?_; intro w1 hB1 hk1 hz1; have HB1 := Lib.hid hB1; have HK1 := Lib.hid hk1; have HAF1 := Lib.hid (HAF.out.keep hk1 (by simp)); clear hB1 hk1 hz1)
    | (refine wl_load_row rfl _ _ rfl w.heap.size rfl 16 5 Try.underlying23 _ D HB1.out (by rw [HDS.out]; exact blkCells) ?_)
    | (go_at_call 12; with_reducible refine (KY _ HAF1.out).out.mono ?_; rintro e w3 ⟨p, rfl, hp3, hak3, hat3, hk3⟩; have HP3 := Lib.hid hp3; have HAK3 := Lib.hid hak3; have HAT3 := Lib.hid hat3; have HK3 := Lib.hid hk3; clear hp3 hak3 hat3 hk3)
    | (refine wl_build rfl _ _ rfl Z' [] (by simp) HB.out ?_)
    | (go_at_call 14; with_reducible refine (TN _ p HAK3.out HAT3.out).out.mono ?_; rintro e w4 ⟨rfl, hat4, hk4⟩; have HAT4 := Lib.hid hat4; have HK4 := Lib.hid hk4; clear hat4 hk4)
    | (go_at_call 13; with_reducible refine (EL _).out.mono ?_; rintro e w5 ⟨rfl, hk5⟩; have HE5 := Lib.hid hk5; clear hk5)
    | (refine wl_build rfl _ _ rfl #[.pointer (some ⟨p, 0, none⟩), .int .u64 x, .int .u64 y] [(0, .pointer (some ⟨p, 0, none⟩)), (1, .agg #[.int .u64 x, .int .u64 y])] (by simp; with_unfolding_all exact ⟨rfl, rfl⟩) (by kernel_rfl) ?_))
  go_ret
  obtain ⟨s, hs⟩ : ∃ s, s = w5.heap.size := ⟨_, rfl⟩
  have hN : s ≠ p ∧ s ≠ g ∧ w.heap.size ≤ s ∧ w.heap.size ≤ p := by
    have h1 := HAK3.out.lt
    have h2 := HAT3.out.lt
    have h3 := HK4.out.size
    have h4 := HE5.out.size
    have h5 := HK3.out.size
    have h6 := HK1.out.size
    have h7 := HP3.out
    omega
  rw [← hs]
  refine ⟨s, [s, p, g], n + 1, rfl, ⟨p, g, n + 1, rfl, hN.1, hN.2.1, ((HAK3.out.keep HK4.out (by have := HAK3.out.ne; simpa using this)).keep HE5.out (by simp)).keep HK6.out (by simp), (HAT4.out.keep HE5.out (by simp)).keep HK6.out (by simp), Nat.le_refl _, ?_⟩, by omega, ?_, ?_⟩
  · rw [← HH.out]
    unfold SB
    rw [HXY.out, hs]
    exact HB6.out
  · intro q hq
    simp at hq
    omega
  · exact (((HK1.out.more0.trans HK3.out).trans HK4.out).trans0 HE5.out).trans0 HK6.out

set_option maxRecDepth 100000 in
set_option maxHeartbeats 4000000 in
theorem gNewNil (w : World) (k : List Int) (hk : B16 k) : Calls Try.prog 6 #[.pointer none, arr k] w fun e w' => e = .returned (.pointer none) ∧ Keep [] w w' := by
  obtain ⟨D, hD⟩ : ∃ D, D = (k.map (Value.int .u8)).toArray := ⟨_, rfl⟩
  rw [arr_agg, ← hD]
  clear hD
  go_enter Try.func6, Try.ntmps6
  go_wp2_with (refine wl_box rfl _ _ rfl D rfl ?_; intro w1 hB1 hk1 hz1)
  go_ret
  exact ⟨rfl, hk1⟩
set_option maxRecDepth 100000 in
set_option maxHeartbeats 4000000 in
theorem gSealNil (w : World) (nn : List Int) (ov pv : Value) (_hn : N12 nn) : Calls Try.prog 8 #[.pointer none, arr nn, ov, pv] w fun e w' => ∃ v, e = .returned v ∧ Sl .u8 w' v [] ∧ Keep [] w w' := by
  obtain ⟨D, hD⟩ : ∃ D, D = (nn.map (Value.int .u8)).toArray := ⟨_, rfl⟩
  rw [arr_agg, ← hD]
  clear hD
  go_enter Try.func8, Try.ntmps8
  go_wp2_with (refine wl_box rfl _ _ rfl D rfl ?_; intro w1 hB1 hk1 hz1)
  go_ret
  exact ⟨_, rfl, Sl.nil _ _, hk1⟩
set_option maxRecDepth 100000 in
set_option maxHeartbeats 4000000 in
theorem gOpenNil (w : World) (nn : List Int) (ov pv : Value) (_hn : N12 nn) : Calls Try.prog 11 #[.pointer none, arr nn, ov, pv] w fun e w' => ∃ v, e = .returned (.tuple #[v, .int .i64 1]) ∧ Sl .u8 w' v [] ∧ Keep [] w w' := by
  obtain ⟨D, hD⟩ : ∃ D, D = (nn.map (Value.int .u8)).toArray := ⟨_, rfl⟩
  rw [arr_agg, ← hD]
  clear hD
  go_enter Try.func11, Try.ntmps11
  go_wp2_with (refine wl_box rfl _ _ rfl D rfl ?_; intro w1 hB1 hk1 hz1)
  go_ret2
  exact ⟨_, rfl, Sl.nil _ _, hk1⟩

theorem mcs_sl {w : World} {T m c : Nat} {k nn fl : List Int} (hk : ∀ x ∈ k, (Lit.int .u8 x).wf = true) (hn : ∀ x ∈ nn, (Lit.int .u8 x).wf = true) (hf : ∀ x ∈ fl, (Lit.int .u8 x).wf = true) (hl : fl.length ≤ 1000000) (h : Blk w T 5 (mcs k nn fl fl.length m).toArray) (hc : fl.length ≤ c) (hc2 : c ≤ 9223372036854775807) :
    Sl .u8 w (.slice (some ⟨T, 0, none⟩) fl.length c) (Gcm.encL k nn fl fl.length) := by
  refine ⟨some ⟨T, 0, none⟩, c, by rw [Gcm.encL_length], by rw [Gcm.encL_length]; exact hc, hc2, ?_, Gcm.encL_wf hk hn hf _ hl⟩
  have h1 := (Rd.of_blk h).take fl.length
  have e : (mcs k nn fl fl.length m).toArray.toList.take fl.length = (Gcm.encL k nn fl fl.length).map (Value.int .u8) := by
    unfold mcs
    rw [List.take_append_of_le_length (by simp [Gcm.encL_length]), List.take_of_length_le (by simp [Gcm.encL_length])]
  rwa [e] at h1
theorem mcs_zero (k nn fl : List Int) (m : Nat) : mcs k nn fl 0 m = List.replicate m (Value.int .u8 0) := by simp [mcs, Gcm.encL]

set_option maxRecDepth 100000 in
set_option maxHeartbeats 8000000 in
theorem gSeal (w : World) (S : List Nat) (s n : Nat) (k nn ol pl : List Int) (ov pv : Value) (hG : GG w S s k n) (hn : n ≤ 500000) (hk : B16 k) (hnn : N12 nn) (ho : Sl .u8 w ov ol) (hp : Sl .u8 w pv pl) (hol : ol.length ≤ 100000) (hpl : pl.length ≤ 100000) :
    Calls Try.prog 8 #[.pointer (some ⟨s, 0, none⟩), arr nn, ov, pv] w fun e w' => ∃ v n', e = .returned v ∧ Sl .u8 w' v (Gcm.sealed k nn ol pl) ∧ (∀ b, v.ownBlock = some b → w.heap.size ≤ b ∧ b ∉ S) ∧ n' ≤ n + 10000 ∧ GG w' S s k n' ∧ Keep S w w' := by
  obtain ⟨p, g, m, rfl, hsp, hsg, hAK, hAT, hmn, hSB⟩ := hG
  obtain ⟨D, hD⟩ : ∃ D, D = (nn.map (Value.int .u8)).toArray := ⟨_, rfl⟩
  have HDS := Lib.hid (show D.size = 12 by rw [hD]; simp [hnn.1])
  have HO := Lib.hid ho
  have HP := Lib.hid hp
  obtain ⟨oA, oc, rfl, ho1, ho2⟩ := ho.at0
  obtain ⟨pA, pc, rfl, hp1, hp2⟩ := hp.at0
  obtain ⟨lp, hlp⟩ : ∃ lp, lp = pl.length := ⟨_, rfl⟩
  obtain ⟨lo, hlo⟩ : ∃ lo, lo = ol.length := ⟨_, rfl⟩
  have HLP := Lib.hid hlp
  have HLO := Lib.hid hlo
  have HSB := Lib.hid hSB
  have HAT := Lib.hid hAT
  have HAK := Lib.hid hAK
  have HPG := Lib.hid (show p ≠ g from hAK.ne)
  have MK : ∀ (T : Nat) (W : World), w.heap.size ≤ T → Keep [] w W → Blk W T 5 (mcs k nn pl 0 (lp + 16)).toArray → Hid (Calls Try.prog 15 #[.pointer (some ⟨s, 0, none⟩), .slice (some ⟨T, 0, none⟩) lp (lp + 16), .agg D, .slice pA lp pc] W fun e w' => e = .returned (.tuple #[]) ∧ Blk w' T 5 (mcs k nn pl lp (lp + 16)).toArray ∧ (∃ m', m' ≤ m + 7000 ∧ AT w' g m') ∧ Keep [g, T] W w') := fun T W hT hK hB => by
    have h1 := hAT.lt
    have h2 := hAK.lt
    have h3 := Blk.lt hSB
    have := mask_any s p g m (Gcm.en (Gcm.hk k)) T (lp + 16) (lp + 16) (.slice pA pl.length pc) k nn pl lp hlp hk hnn (by omega) (by omega) (by omega) (by omega) (by omega) W (hp.keep0 hK) ⟨by simp; omega, by have := HPG.out; simp; omega, by omega, fun b hl hb => by
      have h4 := hp.lt (by omega) b hb
      omega⟩ (hSB.keep hK (by simp)) (hAT.keep hK (by simp)) (hAK.keep hK (by simp)) hB
    rw [arr_agg, ← hD, ← hlp] at this
    exact Lib.hid this
  obtain ⟨tg, htg⟩ : ∃ tg, tg = Gcm.tag k nn ol (Gcm.encL k nn pl lp) := ⟨_, rfl⟩
  have hb16 : B16 tg := by rw [htg]; exact ⟨Gcm.tag_length _ _ _ _, Gcm.tag_wf hk.2 hnn.2⟩
  obtain ⟨te, hte⟩ : ∃ te, te = Gcm.en tg := ⟨_, rfl⟩
  obtain ⟨F, hF⟩ : ∃ F, F = (tg.map (Value.int .u8)).toArray := ⟨_, rfl⟩
  have TG : ∀ (T m' : Nat) (W : World), m' ≤ 1000000 → AT W g m' → AK W p g k → SB W s p (Gcm.en (Gcm.hk k)) → Blk W T 5 (mcs k nn pl lp (lp + 16)).toArray → Sl .u8 W (.slice oA lo oc) ol → Hid (Calls Try.prog 16 #[.pointer (some ⟨s, 0, none⟩), .agg D, .slice oA lo oc, .slice (some ⟨T, 0, none⟩) lp (lp + 16)] W fun r w' => r = .returned (.agg (ec te)) ∧ AT w' g (m' + 1) ∧ Keep [g] W w') := fun T m' W h0 h1 h2 h3 h4 h5 => by
    rw [hlp] at h4
    have ht := mcs_sl (c := lp + 16) hk.2 hnn.2 hp.wf (by omega) h4 (by omega) (by omega)
    have := tag_any s p g m' (.slice oA lo oc) _ k nn ol (Gcm.encL k nn pl pl.length) hk hnn (by omega) (by rw [Gcm.encL_length]; omega) h0 W h5 ht h3 hsg h2 h1
    rw [arr_agg, ← hD, ← hlp, ← htg, ← hte] at this
    unfold ev at this
    exact Lib.hid this
  have BK : ∀ W : World, Hid (Calls Try.prog 17 #[.agg (ec te)] W fun e w' => e = .returned (.agg F) ∧ Keep [] W w') := fun W => by
    have := el_block tg hb16 W
    rw [← hte, arr_agg, ← hF] at this
    unfold ev at this
    exact Lib.hid this
  have HF := Lib.hid hF
  have HFS := Lib.hid (show F.size = 16 by rw [hF]; simp [hb16.1])
  have HF1 := Lib.hid (show F.all (·.oneCell') = true by rw [hF]; exact arr_cell _)
  have HTG := Lib.hid htg
  have HB16 := Lib.hid hb16
  obtain ⟨Z, hZ, hZs, hZi⟩ := blk16
  have HZS := Lib.hid hZs
  have HZI := Lib.hid hZi
  rw [arr_agg, ← hD, ← hlp, ← hlo]
  rw [← hlp] at HP hpl hp1
  rw [← hlo] at HO hol ho1
  clear hD ho hp hlp hlo hSB hAT hAK htg hte hF hb16 hZ hZs hZi
  go_enter Try.func8, Try.ntmps8
  go_upto_region 1 with (refine wl_box rfl _ _ rfl D rfl ?_; intro w1 hB1 hk1 hz1; have HB1 := Lib.hid hB1; have HK1 := Lib.hid hk1; clear hB1 hk1 hz1)
  obtain ⟨N, hN⟩ : ∃ N, N = w.heap.size := ⟨_, rfl⟩
  have HN := Lib.hid hN
  rw [← hN] at HB1 ⊢
  clear hN
  have c0 := (HSB.out.keep HK1.out (by simp)).key
  go_upto_region 3 with fail
  clear c0
  go_upto_region 4 with (refine wl_make _ rfl _ _ _ rfl 5 (.int .u8 0) 1 Try.underlying26 u8infB rfl .i64 .i64 ((lp : Int) + 16) ((lp : Int) + 16) (lp + 16) (lp + 16) rfl rfl (by omega) (by omega) (Nat.le_refl _) (by omega) (by omega) ?_; intro w2 hB2 hk2 hz2; have HB2 := Lib.hid hB2; have HK2 := Lib.hid hk2; clear hB2 hk2 hz2)
  obtain ⟨T, hT⟩ : ∃ T, T = w1.heap.size := ⟨_, rfl⟩
  have HTN := Lib.hid (show w.heap.size ≤ T ∧ N < T ∧ w.heap.size ≤ N by
    have h1 := HB1.out.lt
    have h2 := HK1.out.size
    have h3 := HN.out
    omega)
  rw [← hT] at HB2 ⊢
  clear hT
  have HBN2 := Lib.hid (HB1.out.keep HK2.out (by simp))
  have HK2' := Lib.hid (HK1.out.trans HK2.out)
  have HBT := Lib.hid (show Blk w2 T 5 (mcs k nn pl 0 (lp + 16)).toArray by rw [mcs_zero]; exact HB2.out)
  clear HB2 HB1 HK1 HK2 HN
  go_upto_region 6 with (first
    | (refine wl_load_row rfl _ _ rfl N rfl 12 5 Try.underlying25 _ D HBN2.out (by rw [HDS.out]; exact nonceCells') ?_)
    | (go_at_call 15; with_reducible refine (MK T w2 HTN.out.1 HK2'.out HBT.out).out.mono ?_; rintro e w3 ⟨rfl, hb3, ⟨m3, hm3, hat3⟩, hk3⟩; have HB3 := Lib.hid hb3; have HM3 := Lib.hid hm3; have HAT3 := Lib.hid hat3; have HK3 := Lib.hid hk3; clear hb3 hm3 hat3 hk3))
  have HKW3 := Lib.hid (show Keep [g, T] w w3 from HK2'.out.more0.trans HK3.out)
  have HO3 := Lib.hid (HO.out.keepT HAT.out HAT3.out HKW3.out (fun b hl hb hm => by
    have h1 := HO.out.lt hl b hb
    have h2 := HTN.out.1
    simp at hm; omega))
  have HNE := Lib.hid (show s ∉ [g, T] ∧ p ∉ [g, T] ∧ N ∉ [g, T] ∧ T ∉ [g] ∧ T ≠ s ∧ T ≠ p ∧ T ≠ g ∧ N ∉ [g] by
    have h1 := HAT.out.lt
    have h2 := HAK.out.lt
    have h3 := Blk.lt HSB.out
    have h4 := HTN.out
    have h5 := HPG.out
    simp; omega)
  have HSB3 := Lib.hid (HSB.out.keep HKW3.out HNE.out.1)
  have HAK3 := Lib.hid (HAK.out.keep HKW3.out HNE.out.2.1)
  have HBN3 := Lib.hid (HBN2.out.keep HK3.out HNE.out.2.2.1)
  clear HBN2 HBT MK HK2' HK3
  go_upto_region 7 with (first
    | (refine wl_load_row rfl _ _ rfl N rfl 12 5 Try.underlying25 _ D HBN3.out (by rw [HDS.out]; exact nonceCells') ?_)
    | (go_at_call 16; with_reducible refine (TG T m3 w3 (by have := HM3.out; omega) HAT3.out HAK3.out HSB3.out HB3.out HO3.out).out.mono ?_; rintro e w4 ⟨rfl, hat4, hk4⟩; have HAT4 := Lib.hid hat4; have HK4 := Lib.hid hk4; clear hat4 hk4)
    | (go_at_call 17; with_reducible refine (BK _).out.mono ?_; rintro e w5 ⟨rfl, hk5⟩; have HK5 := Lib.hid hk5; clear hk5)
    | (refine wl_alloc_rowZ rfl _ rfl Z 16 HZI.out ?_; intro w6 hB6 hk6 hz6; have HB6 := Lib.hid hB6; have HK6 := Lib.hid hk6; clear hB6 hk6 hz6)
    | (refine wl_store_row rfl _ _ _ rfl w5.heap.size rfl F rfl _ _ HB6.out (by rw [HFS.out]; exact blkCells) (by rw [HFS.out]; exact HZS.out) HF1.out ?_; intro w7 hB7 hk7 hz7; have HB7 := Lib.hid hB7; have HK7 := Lib.hid hk7; clear hB7 hk7 hz7))
  obtain ⟨X, hX⟩ : ∃ X, X = w5.heap.size := ⟨_, rfl⟩
  have HXN := Lib.hid (show X ≠ T ∧ X ≠ g ∧ X ≠ s ∧ X ≠ p ∧ w.heap.size ≤ X by
    have h1 := HAT.out.lt
    have h2 := HAK.out.lt
    have h3 := Blk.lt HSB.out
    have h4 := HKW3.out.size
    have h5 := HB3.out.lt
    have h6 := HK4.out.size
    have h7 := HK5.out.size
    omega)
  have HBX := Lib.hid (show Blk w7 X 23 (tg.map (Value.int .u8)).toArray by rw [hX, ← HF.out]; exact HB7.out)
  rw [← hX] at HK7 ⊢
  clear hX
  have HK57 := Lib.hid (show Keep [g, X] w3 w7 from (((HK4.out.trans0 HK5.out).trans0 HK6.out).more (by simp)).trans' HK7.out (by simp))
  have HBT7 := Lib.hid (HB3.out.keep HK57.out (by have := HXN.out; have := HNE.out; simp; omega))
  have HAT7 := Lib.hid (((HAT4.out.keep HK5.out (by simp)).keep HK6.out (by simp)).keep HK7.out (by have := HXN.out; simp; omega))
  have HKW7 := Lib.hid (show Keep [g, T] w w7 from HKW3.out.trans' HK57.out (fun q hq => by simp at hq; rcases hq with rfl | rfl; left; simp; right; exact HXN.out.2.2.2.2))
  have HSB7 := Lib.hid (HSB3.out.keep HK57.out (by have := HXN.out; simp; omega))
  have HAK7 := Lib.hid (HAK3.out.keep HK57.out (by have := HXN.out; have := HPG.out; simp; omega))
  clear HB3 HB6 HB7 HK4 HK5 HK6 HK7 HK57 HSB3 HAK3 HBN3 HO3 TG BK HAT4
  obtain ⟨w8, hcp, hB8, hk8, hz8⟩ := run_copy_slN (P := Try.prog) w7.drew 26 26 5 Try.underlying26 u8sz T lp 16 16 (some ⟨X, 0, none⟩) 16 16 (mcs k nn pl lp (lp + 16)) 5 HBT7.out.drew (tg.map (Value.int .u8)) (by simp [HB16.out.1]) (by simp [HB16.out.1]) (by simpa using Rd.of_blk HBX.out.drew) (by rw [mcs_length _ _ _ _ _ (by omega)]; simp [HB16.out.1]) (ints_one _ _)
  have r1 := fun W => run_from (P := Try.prog) (t := 26) (e := 5) Try.underlying26 u8sz (some ⟨T, 0, none⟩) (lp + 16) (lp + 16) lp (by omega) W
  rw [if_neg (by omega), Option.map_some, Addr.add_lit, Nat.zero_add, show lp + 16 - lp = 16 by omega] at r1
  have hlen16 : ((tg.map (Value.int .u8)).length : Int) = 16 := by simp [HB16.out.1]
  have HB8 := Lib.hid hB8
  have HK8 := Lib.hid (show Keep [T] w7 w8 from ((Keep.refl [T] w7).drew).trans hk8)
  clear hB8 hk8 hz8
  go_region_with fail
  all_goals
    go_simp
    go_wp2_with fail
    go_ret
    have hcs : splice (mcs k nn pl lp (lp + 16)) lp (tg.map (Value.int .u8)) = (Gcm.sealed k nn ol pl).map (Value.int .u8) := by
      unfold splice mcs
      rw [List.take_append_of_le_length (by simp [Gcm.encL_length]), List.take_of_length_le (by simp [Gcm.encL_length]), List.drop_of_length_le (by simp [Gcm.encL_length, HB16.out.1]), List.append_nil, Gcm.sealed_tag, List.map_append, HTG.out, HLP.out]
    have h8 := HB8.out
    rw [hcs] at h8
    have hlen : (Gcm.sealed k nn ol pl).length = lp + 16 := by rw [Gcm.sealed_length, HLP.out]
    refine ⟨.slice (some ⟨T, 0, none⟩) (lp + 16) (lp + 16), m3 + 1, rfl, Sl.of_blk h8 hlen (by omega) (Gcm.sealed_wf hk.2 hnn.2 HP.out.wf (by have := HLP.out; omega)), ?_, by have := HM3.out; omega, ?_, ?_⟩
    · intro b hb
      have : T = b := by simpa [Value.ownBlock] using hb
      have h1 := HNE.out
      have h2 := HTN.out
      subst this
      simp; omega
    · have hT : T ∉ [s, p, g] := by have h1 := HNE.out; simp; omega
      exact ⟨p, g, m3 + 1, rfl, hsp, hsg, HAK7.out.keep HK8.out (by have := HNE.out; simp; omega), HAT7.out.keep HK8.out (by have := HNE.out; simp; omega), Nat.le_refl _, HSB7.out.keep HK8.out (by have := HNE.out; simp; omega)⟩
    · exact (HKW7.out.trans' HK8.out (fun q hq => by left; simp at hq; simp [hq])).trans' (Keep.refl [] _) (by simp) |>.more (fun q hq => by
        have h2 := HTN.out
        simp at hq
        rcases hq with rfl | rfl
        · left; simp
        · right; omega)

noncomputable def hopen_reg8 : Code := regionOf Try.f11 8
set_option maxRecDepth 100000 in
set_option maxHeartbeats 8000000 in
theorem open_reg8 (R : Act → World → Prop) (a : Act) (w2 : World) (s g N X m : Nat) (bb : Bool) (D F E1 E2 : Array Value) (ov tv : Value) (hD : Hid (D.size = 12)) (hF0 : Hid (F.size = 16)) (hne : Hid (X ∉ [g]))
    (hBN : Hid (Blk w2 N 25 D)) (hBX : Hid (Blk w2 X 23 F))
    (hCT : Hid (∀ W, Keep [] w2 W → Calls Try.prog 16 #[.pointer (some ⟨s, 0, none⟩), .agg D, ov, tv] W fun r w' => r = .returned (.agg E1) ∧ AT w' g m ∧ Keep [g] W w'))
    (hCE : Hid (∀ W, Calls Try.prog 13 #[.agg F] W fun r w' => r = .returned (.agg E2) ∧ Keep [] W w'))
    (hCS : Hid (∀ W, Calls Try.prog 21 #[.agg E1, .agg E2] W fun r w' => r = .returned (.bool bb) ∧ Keep [] W w'))
    (hF : Fr 54 [(0, .pointer (some ⟨s, 0, none⟩)), (2, ov), (5, .pointer (some ⟨N, 0, none⟩)), (10, tv), (11, .pointer (some ⟨X, 0, none⟩))] a)
    (hR : Hid (∀ a' w', Fr 54 [(0, .pointer (some ⟨s, 0, none⟩)), (5, .pointer (some ⟨N, 0, none⟩)), (10, tv), (44, .bool (!bb))] a' → AT w' g m → Keep [g] w2 w' → R a' w')) :
    Code.wp Try.prog hopen_reg8 (OutN R) a w2 := by
  have LN : ∀ W, Keep [] w2 W → Blk W N 25 D := fun W h => hBN.out.keep h (by simp)
  have LX : ∀ W, Keep [g] w2 W → Blk W X 23 F := fun W h => hBX.out.keep h hne.out
  obtain ⟨f, ⟨f0, f2, f5, f10, f11, -⟩, rfl⟩ := hF.open54
  simp only [f0, f2, f5, f10, f11]
  clear f0 f2 f5 f10 f11 hF
  conv => arg 2; whnf
  refine wp_region_any (by kernel_rfl) ?_
  change wpAny _ _ _ _ _ _ _ (World.drew _)
  obtain ⟨W0, hW0⟩ : ∃ W0, W0 = w2.drew := ⟨_, rfl⟩
  rw [← hW0]
  have hk0 : Keep [] w2 W0 := by rw [hW0]; exact (Keep.refl [] w2).drew
  have hg0 : Keep [g] w2 W0 := hk0.more0
  clear hW0
  go_simp
  refine wpAny_take (i := 0) (v := ?_) rfl (by kernel_rfl) (by kernel_rfl) (by kernel_rfl) (fun _ _ _ h => h) (Or.inl ⟨by rfl, ?_⟩) ?_
  rotate_left
  · intro y; go_simp; try (with_reducible rfl)
  rotate_left
  go_simp
  refine wpAny_take (i := 2) (v := ?_) rfl (by kernel_rfl) (by kernel_rfl) (by kernel_rfl) (fun _ _ _ h => h) (Or.inl ⟨by rfl, ?_⟩) ?_
  rotate_left
  · intro y; go_simp; try (with_reducible rfl)
  rotate_left
  go_simp
  refine wpAny_take (i := 3) (v := ?_) rfl (by kernel_rfl) (by kernel_rfl) (by kernel_rfl) (fun _ _ _ h => h) (Or.inl ⟨by rfl, ?_⟩) ?_
  rotate_left
  · intro y; go_simp; try (with_reducible rfl)
  rotate_left
  go_simp
  refine wpAny_ready (rs := [1, 5]) (by kernel_rfl) (by simp) ?_
  refine AllReady.cons rfl (fun K hK => ?_) ?_
  ·
    apply step_wp
    · rfl
    refine ow_load _ _ rfl N rfl 12 5 Try.underlying25 _ D (LN _ hk0) (by rw [hD.out]; exact nonceCells') ?_
    apply hK
    clear hK K
    go_simp
    refine wpAny_ready (rs := [4, 5]) (by kernel_rfl) (by simp) ?_
    refine AllReady.cons rfl (fun K hK => ?_) ?_
    ·
      apply step_wp
      · rfl
      refine ow_call _ _ _ (by kernel_rfl) (hCT.out _ hk0) ?_
      rintro e W4 ⟨rfl, hat, hs4⟩
      refine ⟨_, rfl, ?_⟩
      have hg4 : Keep [g] w2 W4 := hk0.more0.trans hs4
      clear hs4
      apply hK
      clear hK K
      go_simp
      refine wpAny_ready (rs := [5]) (by kernel_rfl) (by simp) ?_
      refine AllReady.cons rfl (fun K hK => ?_) ?_
      ·
        apply step_wp
        · rfl
        refine ow_load _ _ rfl X rfl 16 5 Try.underlying23 _ F (LX _ hg4) (by rw [hF0.out]; exact blkCells) ?_
        apply hK
        clear hK K
        go_simp
        refine wpAny_ready (rs := [6]) (by kernel_rfl) (by simp) ?_
        refine AllReady.cons rfl (fun K hK => ?_) ?_
        ·
          apply step_wp
          · rfl
          refine ow_call _ _ _ (by kernel_rfl) (hCE.out _) ?_
          rintro e W6 ⟨rfl, hs6⟩
          refine ⟨_, rfl, ?_⟩
          have hg6 : Keep [g] w2 W6 := hg4.trans0 hs6
          replace hat := hat.keep hs6 (by simp)
          clear hs6
          apply hK
          clear hK K
          go_simp
          refine wpAny_ready (rs := [7]) (by kernel_rfl) (by simp) ?_
          refine AllReady.cons rfl (fun K hK => ?_) ?_
          ·
            apply step_wp
            · rfl
            refine ow_call _ _ _ (by kernel_rfl) (hCS.out _) ?_
            rintro e W7 ⟨rfl, hs7⟩
            refine ⟨_, rfl, ?_⟩
            have hg7 : Keep [g] w2 W7 := hg6.trans0 hs7
            replace hat := hat.keep hs7 (by simp)
            clear hs7
            apply hK
            clear hK K
            go_simp
            refine wpAny_take (i := 8) (v := ?_) rfl (by kernel_rfl) (by kernel_rfl) (by kernel_rfl) (fun _ _ _ h => h) (Or.inl ⟨by rfl, ?_⟩) ?_
            rotate_left
            · intro y; go_simp; try (with_reducible rfl)
            rotate_left
            go_simp
            refine wpAny_done (by kernel_rfl) ?_ _
            exact hR.out _ _ ⟨rfl, rfl, by repeat (first | exact trivial | refine ⟨rfl, ?_⟩)⟩ hat hg7
          exact AllReady.nil
        exact AllReady.nil
      exact AllReady.nil
    refine AllReady.cons rfl (fun K hK => ?_) ?_
    ·
      apply step_wp
      · rfl
      refine ow_load _ _ rfl X rfl 16 5 Try.underlying23 _ F (LX _ hg0) (by rw [hF0.out]; exact blkCells) ?_
      apply hK
      clear hK K
      go_simp
      refine wpAny_ready (rs := [4]) (by kernel_rfl) (by simp) ?_
      refine AllReady.cons rfl (fun K hK => ?_) ?_
      ·
        apply step_wp
        · rfl
        refine ow_call _ _ _ (by kernel_rfl) (hCT.out _ hk0) ?_
        rintro e W4 ⟨rfl, hat, hs4⟩
        refine ⟨_, rfl, ?_⟩
        have hg4 : Keep [g] w2 W4 := hk0.more0.trans hs4
        clear hs4
        apply hK
        clear hK K
        go_simp
        refine wpAny_ready (rs := [6]) (by kernel_rfl) (by simp) ?_
        refine AllReady.cons rfl (fun K hK => ?_) ?_
        ·
          apply step_wp
          · rfl
          refine ow_call _ _ _ (by kernel_rfl) (hCE.out _) ?_
          rintro e W6 ⟨rfl, hs6⟩
          refine ⟨_, rfl, ?_⟩
          have hg6 : Keep [g] w2 W6 := hg4.trans0 hs6
          replace hat := hat.keep hs6 (by simp)
          clear hs6
          apply hK
          clear hK K
          go_simp
          refine wpAny_ready (rs := [7]) (by kernel_rfl) (by simp) ?_
          refine AllReady.cons rfl (fun K hK => ?_) ?_
          ·
            apply step_wp
            · rfl
            refine ow_call _ _ _ (by kernel_rfl) (hCS.out _) ?_
            rintro e W7 ⟨rfl, hs7⟩
            refine ⟨_, rfl, ?_⟩
            have hg7 : Keep [g] w2 W7 := hg6.trans0 hs7
            replace hat := hat.keep hs7 (by simp)
            clear hs7
            apply hK
            clear hK K
            go_simp
            refine wpAny_take (i := 8) (v := ?_) rfl (by kernel_rfl) (by kernel_rfl) (by kernel_rfl) (fun _ _ _ h => h) (Or.inl ⟨by rfl, ?_⟩) ?_
            rotate_left
            · intro y; go_simp; try (with_reducible rfl)
            rotate_left
            go_simp
            refine wpAny_done (by kernel_rfl) ?_ _
            exact hR.out _ _ ⟨rfl, rfl, by repeat (first | exact trivial | refine ⟨rfl, ?_⟩)⟩ hat hg7
          exact AllReady.nil
        exact AllReady.nil
      exact AllReady.nil
    exact AllReady.nil
  refine AllReady.cons rfl (fun K hK => ?_) ?_
  ·
    apply step_wp
    · rfl
    refine ow_load _ _ rfl X rfl 16 5 Try.underlying23 _ F (LX _ hg0) (by rw [hF0.out]; exact blkCells) ?_
    apply hK
    clear hK K
    go_simp
    refine wpAny_ready (rs := [1]) (by kernel_rfl) (by simp) ?_
    refine AllReady.cons rfl (fun K hK => ?_) ?_
    ·
      apply step_wp
      · rfl
      refine ow_load _ _ rfl N rfl 12 5 Try.underlying25 _ D (LN _ hk0) (by rw [hD.out]; exact nonceCells') ?_
      apply hK
      clear hK K
      go_simp
      refine wpAny_ready (rs := [4]) (by kernel_rfl) (by simp) ?_
      refine AllReady.cons rfl (fun K hK => ?_) ?_
      ·
        apply step_wp
        · rfl
        refine ow_call _ _ _ (by kernel_rfl) (hCT.out _ hk0) ?_
        rintro e W4 ⟨rfl, hat, hs4⟩
        refine ⟨_, rfl, ?_⟩
        have hg4 : Keep [g] w2 W4 := hk0.more0.trans hs4
        clear hs4
        apply hK
        clear hK K
        go_simp
        refine wpAny_ready (rs := [6]) (by kernel_rfl) (by simp) ?_
        refine AllReady.cons rfl (fun K hK => ?_) ?_
        ·
          apply step_wp
          · rfl
          refine ow_call _ _ _ (by kernel_rfl) (hCE.out _) ?_
          rintro e W6 ⟨rfl, hs6⟩
          refine ⟨_, rfl, ?_⟩
          have hg6 : Keep [g] w2 W6 := hg4.trans0 hs6
          replace hat := hat.keep hs6 (by simp)
          clear hs6
          apply hK
          clear hK K
          go_simp
          refine wpAny_ready (rs := [7]) (by kernel_rfl) (by simp) ?_
          refine AllReady.cons rfl (fun K hK => ?_) ?_
          ·
            apply step_wp
            · rfl
            refine ow_call _ _ _ (by kernel_rfl) (hCS.out _) ?_
            rintro e W7 ⟨rfl, hs7⟩
            refine ⟨_, rfl, ?_⟩
            have hg7 : Keep [g] w2 W7 := hg6.trans0 hs7
            replace hat := hat.keep hs7 (by simp)
            clear hs7
            apply hK
            clear hK K
            go_simp
            refine wpAny_take (i := 8) (v := ?_) rfl (by kernel_rfl) (by kernel_rfl) (by kernel_rfl) (fun _ _ _ h => h) (Or.inl ⟨by rfl, ?_⟩) ?_
            rotate_left
            · intro y; go_simp; try (with_reducible rfl)
            rotate_left
            go_simp
            refine wpAny_done (by kernel_rfl) ?_ _
            exact hR.out _ _ ⟨rfl, rfl, by repeat (first | exact trivial | refine ⟨rfl, ?_⟩)⟩ hat hg7
          exact AllReady.nil
        exact AllReady.nil
      exact AllReady.nil
    exact AllReady.nil
  exact AllReady.nil

set_option maxRecDepth 100000 in
set_option maxHeartbeats 8000000 in
theorem gShort (w : World) (S : List Nat) (s n : Nat) (k nn ol sl : List Int) (ov sv : Value) (hG : GG w S s k n) (_hnn : N12 nn) (_ho : Sl .u8 w ov ol) (hs : Sl .u8 w sv sl) (hl : sl.length < 16) :
    Calls Try.prog 11 #[.pointer (some ⟨s, 0, none⟩), arr nn, ov, sv] w fun e w' => ∃ v, e = .returned (.tuple #[v, .int .i64 3]) ∧ Sl .u8 w' v [] ∧ Keep [] w w' := by
  obtain ⟨p, g, m, rfl, hsp, hsg, hAK, hAT, hmn, hSB⟩ := hG
  obtain ⟨D, hD⟩ : ∃ D, D = (nn.map (Value.int .u8)).toArray := ⟨_, rfl⟩
  have HSB := Lib.hid hSB
  obtain ⟨sA, sc, rfl, hs1, hs2⟩ := hs.at0
  obtain ⟨ls, hls⟩ : ∃ ls, ls = sl.length := ⟨_, rfl⟩
  rw [arr_agg, ← hD, ← hls]
  rw [← hls] at hl
  have hl' : (ls : Int) < 16 := by omega
  clear hD hls hs hs1 hSB hAK hAT
  go_enter Try.func11, Try.ntmps11
  go_upto_region 1 with (refine wl_box rfl _ _ rfl D rfl ?_; intro w1 hB1 hk1 hz1; have HK1 := Lib.hid hk1; clear hB1 hk1 hz1)
  have c0 := (HSB.out.keep HK1.out (by simp)).key
  go_wp2_with fail
  go_ret2
  exact ⟨_, rfl, Sl.nil _ _, HK1.out⟩

set_option maxRecDepth 100000 in
set_option maxHeartbeats 8000000 in
theorem gOpen (w : World) (S : List Nat) (s n : Nat) (k nn ol sl : List Int) (ov sv : Value) (hG : GG w S s k n) (hn : n ≤ 500000) (hk : B16 k) (hnn : N12 nn) (ho : Sl .u8 w ov ol) (hs : Sl .u8 w sv sl) (hol : ol.length ≤ 100000) (h16 : 16 ≤ sl.length) (hsl : sl.length ≤ 100000) :
    Calls Try.prog 11 #[.pointer (some ⟨s, 0, none⟩), arr nn, ov, sv] w fun e w' => ∃ v c n', e = .returned (.tuple #[v, .int .i64 c]) ∧ ((∃ p, Gcm.opened k nn ol sl = some p ∧ c = 0 ∧ Sl .u8 w' v p) ∨ (Gcm.opened k nn ol sl = none ∧ c = 8 ∧ Sl .u8 w' v [])) ∧ (∀ b, v.ownBlock = some b → w.heap.size ≤ b ∧ b ∉ S) ∧ n' ≤ n + 10000 ∧ GG w' S s k n' ∧ Keep S w w' := by
  obtain ⟨p, g, m, rfl, hsp, hsg, hAK, hAT, hmn, hSB⟩ := hG
  obtain ⟨D, hD⟩ : ∃ D, D = (nn.map (Value.int .u8)).toArray := ⟨_, rfl⟩
  have HDS := Lib.hid (show D.size = 12 by rw [hD]; simp [hnn.1])
  have HO := Lib.hid ho
  obtain ⟨oA, oc, rfl, ho1, ho2⟩ := ho.at0
  obtain ⟨lo, hlo⟩ : ∃ lo, lo = ol.length := ⟨_, rfl⟩
  obtain ⟨lt, hlt⟩ : ∃ lt, sl.length = lt + 16 := ⟨sl.length - 16, by omega⟩
  obtain ⟨b, off, sc, rfl, hs1, hs2, -⟩ := hs.cells (by omega)
  rw [hlt] at hs hs1
  have HS := Lib.hid hs
  have HLT := Lib.hid hlt
  obtain ⟨tl, htl⟩ : ∃ tl, tl = sl.take lt := ⟨_, rfl⟩
  have htll : lt = tl.length := by rw [htl, List.length_take]; omega
  have HTLL := Lib.hid htll
  have HTX := Lib.hid (show Sl .u8 w (.slice (some ⟨b, off, none⟩) lt sc) tl by
    have h := hs
    rw [← hlt] at h
    rw [htl]
    exact h.take (by omega))
  obtain ⟨dr, hdr⟩ : ∃ dr, dr = sl.drop lt := ⟨_, rfl⟩
  have hdb : B16 dr := ⟨by rw [hdr, List.length_drop]; omega, fun x hx => hs.wf x (List.mem_of_mem_drop (by rw [← hdr]; exact hx))⟩
  have HDR := Lib.hid (show Rd w (some ⟨b, off + lt, none⟩) (dr.map (Value.int .u8)) by
    have h := hs.rd.drop (A' := some ⟨b, off + lt, none⟩) lt (fun _ => by rw [Option.map_some, Addr.add_lit])
    rw [hdr, List.map_drop]; exact h)
  have HOP := Lib.hid (show Gcm.opened k nn ol sl = if Gcm.tag k nn ol tl = dr then some (Gcm.encL k nn tl lt) else none by
    unfold Gcm.opened
    rw [hlt, Nat.add_sub_cancel, ← htl, ← hdr])
  have HSB := Lib.hid hSB
  have HAT := Lib.hid hAT
  have HAK := Lib.hid hAK
  have HPG := Lib.hid (show p ≠ g from hAK.ne)
  have MK : ∀ (T m' : Nat) (W : World), w.heap.size ≤ T → m' ≤ 900000 → Sl .u8 W (.slice (some ⟨b, off, none⟩) lt sc) tl → SB W s p (Gcm.en (Gcm.hk k)) → AT W g m' → AK W p g k → Blk W T 5 (mcs k nn tl 0 lt).toArray → Hid (Calls Try.prog 15 #[.pointer (some ⟨s, 0, none⟩), .slice (some ⟨T, 0, none⟩) lt lt, .agg D, .slice (some ⟨b, off, none⟩) lt sc] W fun e w' => e = .returned (.tuple #[]) ∧ Blk w' T 5 (mcs k nn tl lt lt).toArray ∧ (∃ m'', m'' ≤ m' + 7000 ∧ AT w' g m'') ∧ Keep [g, T] W w') := fun T m' W hT hm' h1 h2 h3 h4 h5 => by
    have q1 := hAT.lt
    have q2 := hAK.lt
    have q3 := Blk.lt hSB
    have := mask_any s p g m' (Gcm.en (Gcm.hk k)) T lt lt (.slice (some ⟨b, off, none⟩) lt sc) k nn tl lt htll hk hnn (by omega) hm' (by omega) (by omega) (by omega) W h1 ⟨by simp; omega, by have := HPG.out; simp; omega, by omega, fun b' hl hb => by
      have h4 := hs.lt (by omega) b rfl
      have : b = b' := by simpa [Value.ownBlock] using hb
      omega⟩ h2 h3 h4 h5
    rw [arr_agg, ← hD] at this
    exact Lib.hid this
  obtain ⟨tg, htg⟩ : ∃ tg, tg = Gcm.tag k nn ol tl := ⟨_, rfl⟩
  have hb16 : B16 tg := by rw [htg]; exact ⟨Gcm.tag_length _ _ _ _, Gcm.tag_wf hk.2 hnn.2⟩
  obtain ⟨E1, hE1⟩ : ∃ E, E = ec (Gcm.en tg) := ⟨_, rfl⟩
  obtain ⟨E2, hE2⟩ : ∃ E, E = ec (Gcm.en dr) := ⟨_, rfl⟩
  obtain ⟨F, hF⟩ : ∃ F, F = (dr.map (Value.int .u8)).toArray := ⟨_, rfl⟩
  obtain ⟨bb, hbb⟩ : ∃ bb, bb = decide (Gcm.en tg = Gcm.en dr) := ⟨_, rfl⟩
  have HBB := Lib.hid (show (bb = true → tg = dr) ∧ (bb = false → tg ≠ dr) by
    refine ⟨fun h => ?_, fun h h2 => ?_⟩
    · rw [hbb] at h; exact Gcm.en_inj hb16.1 hdb.1 hb16.2 hdb.2 (of_decide_eq_true h)
    · rw [hbb, h2] at h; simp at h)
  have TG : ∀ W : World, Keep [] w W → Calls Try.prog 16 #[.pointer (some ⟨s, 0, none⟩), .agg D, .slice oA lo oc, .slice (some ⟨b, off, none⟩) lt sc] W fun r w' => r = .returned (.agg E1) ∧ AT w' g (m + 1) ∧ Keep [g] W w' := fun W hK => by
    have := tag_any s p g m (.slice oA ol.length oc) (.slice (some ⟨b, off, none⟩) lt sc) k nn ol tl hk hnn (by omega) (by omega) (by omega) W (ho.keep0 hK) (HTX.out.keep0 hK) (hSB.keep hK (by simp)) hsg (hAK.keep hK (by simp)) (hAT.keep hK (by simp))
    rw [arr_agg, ← hD, ← hlo, ← htg] at this
    unfold ev at this
    rw [← hE1] at this
    exact this
  have CE : ∀ W : World, Calls Try.prog 13 #[.agg F] W fun r w' => r = .returned (.agg E2) ∧ Keep [] W w' := fun W => by
    have := el_of dr hdb W
    rw [arr_agg, ← hF] at this
    unfold ev at this
    rw [← hE2] at this
    exact this
  have CS : ∀ W : World, Calls Try.prog 21 #[.agg E1, .agg E2] W fun r w' => r = .returned (.bool bb) ∧ Keep [] W w' := fun W => by
    have := el_same (Gcm.en tg) (Gcm.en dr) (Gcm.en_lt _) (Gcm.en_lt _) W
    unfold ev at this
    rw [← hE1, ← hE2, ← hbb] at this
    exact this
  have HTG := Lib.hid TG
  have HCE := Lib.hid CE
  have HCS := Lib.hid CS
  have HFS := Lib.hid (show F.size = 16 by rw [hF]; simp [hdb.1])
  have HFD := Lib.hid hF
  have HDB := Lib.hid hdb
  have HTGE := Lib.hid htg
  have HLO := Lib.hid hlo
  obtain ⟨Z, hZ, hZs, hZi⟩ := blk16
  have HZ := Lib.hid hZ
  have HZI := Lib.hid hZi
  have HBL := Lib.hid (hs.lt (by omega) b rfl)
  rw [arr_agg, ← hD, ← hlo, hlt]
  rw [hlt] at hsl
  rw [← hlo] at HO hol ho1
  clear hD ho hs hlo hlt hSB hAT hAK htg hE1 hE2 hF hb16 hdb hZ hZs hZi TG CE CS hbb htl htll hdr h16
  go_enter Try.func11, Try.ntmps11
  go_upto_region 1 with (refine wl_box rfl _ _ rfl D rfl ?_; intro w1 hB1 hk1 hz1; have HB1 := Lib.hid hB1; have HK1 := Lib.hid hk1; clear hB1 hk1 hz1)
  obtain ⟨N, hN⟩ : ∃ N, N = w.heap.size := ⟨_, rfl⟩
  have HN := Lib.hid hN
  rw [← hN] at HB1 ⊢
  clear hN
  have c0 := (HSB.out.keep HK1.out (by simp)).key
  have hnl : ¬ ((lt : Int) + 16 < 16) := by omega
  have hdl : decide ((lt : Int) + 16 < 16) = false := decide_eq_false hnl
  go_upto_region 7 with (refine wl_alloc_rowZ rfl _ rfl Z 16 HZI.out ?_; intro w2 hB2 hk2 hz2; have HB2 := Lib.hid hB2; have HK2 := Lib.hid hk2; clear hB2 hk2 hz2)
  clear c0
  obtain ⟨X, hX⟩ : ∃ X, X = w1.heap.size := ⟨_, rfl⟩
  have HXN := Lib.hid (show w.heap.size ≤ X ∧ N < X ∧ w.heap.size ≤ N ∧ X ≠ g ∧ X ≠ b ∧ X ≠ s ∧ X ≠ p ∧ N ≠ g by
    have h1 := HB1.out.lt
    have h2 := HK1.out.size
    have h3 := HN.out
    have h4 := HAT.out.lt
    have h5 := HAK.out.lt
    have h6 := Blk.lt HSB.out
    have h7 := HBL.out
    omega)
  have HBX := Lib.hid (show Blk w2 X 23 (List.replicate 16 (Value.int .u8 0)).toArray by rw [hX, ← HZ.out]; exact HB2.out)
  rw [← hX]
  clear hX
  have HBN2 := Lib.hid (HB1.out.keep HK2.out (by simp))
  have HK2' := Lib.hid (HK1.out.trans HK2.out)
  have HDR2 := Lib.hid (HDR.out.keep0 HK2'.out)
  clear HB1 HB2 HK1 HK2
  obtain ⟨w3, hcp, hB3, hk3, hz3⟩ := run_copy_slN (P := Try.prog) w2.drew 26 26 5 Try.underlying26 u8sz X 0 16 16 (some ⟨b, off + lt, none⟩) 16 (sc - lt) (List.replicate 16 (Value.int .u8 0)) 23 HBX.out.drew (dr.map (Value.int .u8)) (by simp [HDB.out.1]) (by simp [HDB.out.1]) HDR2.out (by simp [HDB.out.1]) (ints_one _ _)
  have r1 := fun W => run_from (P := Try.prog) (t := 26) (e := 5) Try.underlying26 u8sz (some ⟨b, off, none⟩) (lt + 16) sc lt (by omega) W
  rw [if_neg (by omega), Option.map_some, Addr.add_lit, show lt + 16 - lt = 16 by omega] at r1
  have HB3 := Lib.hid (show Blk w3 X 23 F by
    have : splice (List.replicate 16 (Value.int .u8 0)) 0 (dr.map (Value.int .u8)) = dr.map (Value.int .u8) := by
      unfold splice
      rw [List.take_zero, List.nil_append, List.drop_of_length_le (by simp [HDB.out.1]), List.append_nil]
    rw [HFD.out, ← this]; exact hB3)
  have HK3 := Lib.hid (show Keep [X] w2 w3 from ((Keep.refl [X] w2).drew).trans hk3)
  clear hB3 hk3 hz3
  go_region_with fail
  all_goals
    have HK3' := Lib.hid (show Keep [] w w3 from HK2'.out.trans' HK3.out (fun q hq => by right; have := HXN.out; simp at hq; omega))
    have HBN3 := Lib.hid (HBN2.out.keep HK3.out (by have := HXN.out; simp; omega))
    clear hcp r1
    go_upto_region 8 with fail
    refine OutN.use (open_reg8 (fun a' w' => Fr 54 [(0, .pointer (some ⟨s, 0, none⟩)), (5, .pointer (some ⟨N, 0, none⟩)), (10, .slice (some ⟨b, off, none⟩) lt sc), (44, .bool (!bb))] a' ∧ AT w' g (m + 1) ∧ Keep [g] w3 w') _ w3 s g N X (m + 1) bb D F E1 E2 _ _ HDS HFS (Lib.hid (by have := HXN.out; simp; omega)) HBN3 HB3 (Lib.hid fun W h => HTG.out W (HK3'.out.trans h)) HCE HCS
      ⟨rfl, rfl, by repeat (first | exact trivial | refine ⟨rfl, ?_⟩)⟩ (Lib.hid fun a' w' h1 h2 h3 => ⟨h1, h2, h3⟩)) ?_
    rintro a' w4 ⟨hF4, hat4, hk4⟩
    have HAT4 := Lib.hid hat4
    have HK4 := Lib.hid (HK3'.out.more0.trans hk4)
    have HBN4 := Lib.hid (HBN3.out.keep hk4 (by have := HXN.out; simp; omega))
    have HSB4 := Lib.hid (HSB.out.keep HK4.out (by simpa using hsg))
    have HAK4 := Lib.hid (HAK.out.keep HK4.out (by have := HPG.out; simpa using this))
    have HTX4 := Lib.hid (HTX.out.keepT HAT.out HAT4.out HK4.out (fun b _ _ hb => by simpa using hb))
    obtain ⟨fr, ⟨f0, f5, f10, f44, -⟩, rfl⟩ := hF4.open54
    simp only [f0, f5, f10, f44]
    clear f0 f5 f10 f44 hF4 hat4 hk4 HTG HCE HCS HBN3 HB3 HK3 HK3' HBX HBN2 HK2' HDR2
    cases hbe : bb with
    | false =>
      have HT := Lib.hid (HBB.out.2 hbe)
      go_wp2_with fail
      go_ret2
      exact ⟨_, _, rfl, .inr ⟨by rw [HOP.out, if_neg (by rw [← HTGE.out]; exact HT.out)], rfl, Sl.nil _ _⟩, by intro b hb; simp [Value.ownBlock] at hb, m + 1, by omega, ⟨p, g, m + 1, rfl, hsp, hsg, HAK4.out, HAT4.out, Nat.le_refl _, HSB4.out⟩, HK4.out.more (by simp)⟩
    | true =>
      have HT := Lib.hid (HBB.out.1 hbe)
      go_upto_region 11 with (refine wl_make _ rfl _ _ _ rfl 5 (.int .u8 0) 1 Try.underlying26 u8infB rfl .i64 .i64 (lt : Int) (lt : Int) lt lt rfl rfl rfl rfl (Nat.le_refl _) (by omega) (by omega) ?_; intro w5 hB5 hk5 hz5; have HB5 := Lib.hid hB5; have HK5 := Lib.hid hk5; clear hB5 hk5 hz5)
      obtain ⟨T, hT⟩ : ∃ T, T = w4.heap.size := ⟨_, rfl⟩
      have HTN := Lib.hid (show w.heap.size ≤ T ∧ T ≠ g ∧ T ≠ s ∧ T ≠ p ∧ T ≠ b ∧ T ≠ N by
        have h1 := HK4.out.size
        have h2 := HAT4.out.lt
        have h3 := HAK4.out.lt
        have h4 := Blk.lt HSB4.out
        have h5 := HBL.out
        have h6 := HBN4.out.lt
        omega)
      have HBT := Lib.hid (show Blk w5 T 5 (mcs k nn tl 0 lt).toArray by rw [hT, mcs_zero]; exact HB5.out)
      rw [← hT]
      clear hT HB5
      have MKT := MK T (m + 1) w5 HTN.out.1 (by omega) (HTX4.out.keep0 HK5.out) (HSB4.out.keep HK5.out (by simp)) (HAT4.out.keep HK5.out (by simp)) (HAK4.out.keep HK5.out (by simp)) HBT.out
      have HBN5 := Lib.hid (HBN4.out.keep HK5.out (by simp))
      clear MK
      go_wp2_with (first
        | (refine wl_load_row rfl _ _ rfl N rfl 12 5 Try.underlying25 _ D HBN5.out (by rw [HDS.out]; exact nonceCells') ?_)
        | (go_at_call 15; with_reducible refine MKT.out.mono ?_; rintro e w6 ⟨rfl, hb6, ⟨m6, hm6, hat6⟩, hk6⟩; have HB6 := Lib.hid hb6; have HM6 := Lib.hid hm6; have HAT6 := Lib.hid hat6; have HK6 := Lib.hid hk6; clear hb6 hm6 hat6 hk6))
      go_ret2
      have h6 := HB6.out
      have hN := HTN.out
      have h7 : Sl .u8 w6 (.slice (some ⟨T, 0, none⟩) lt lt) (Gcm.encL k nn tl lt) := by
        have hh := HTLL.out
        rw [hh] at h6
        have := mcs_sl (c := lt) hk.2 hnn.2 HTX4.out.wf (by omega) h6 (by omega) (by omega)
        rwa [← hh] at this
      refine ⟨.slice (some ⟨T, 0, none⟩) lt lt, 0, m6, rfl, .inl ⟨_, by rw [HOP.out, if_pos (by rw [← HTGE.out]; exact HT.out)], rfl, h7⟩, ?_, by have := HM6.out; omega, ⟨p, g, m6, rfl, hsp, hsg, ?_, HAT6.out, Nat.le_refl _, ?_⟩, ?_⟩
      · intro b' hb'
        have : T = b' := by simpa [Value.ownBlock] using hb'
        subst this
        exact ⟨hN.1, by simp; omega⟩
      · exact (HAK4.out.keep HK5.out (by simp)).keep HK6.out (by have := HPG.out; simp; omega)
      · exact (HSB4.out.keep HK5.out (by simp)).keep HK6.out (by simp; omega)
      · exact (((HK4.out.trans0 HK5.out).trans' HK6.out (T := [g, T]) (fun q hq => by simp at hq; rcases hq with rfl | rfl; left; simp; right; omega))).more (by simp)

theorem gcmC : GcmC GG := {
  keepG := by
    rintro w w' S T s n k ⟨p, g, m, rfl, h1, h2, h3, h4, h5, h6⟩ hk hS
    exact ⟨p, g, m, rfl, h1, h2, h3.keep hk (hS _ (by simp)), h4.keep hk (hS _ (by simp)), h5, h6.keep hk (hS _ (by simp))⟩
  ltG := by
    rintro w S s n k ⟨p, g, m, rfl, h1, h2, h3, h4, h5, h6⟩ x hx
    simp at hx
    rcases hx with rfl | rfl | rfl
    · exact Blk.lt h6
    · exact h3.lt
    · exact h4.lt
  newG := gNew
  newNil := gNewNil
  sealG := gSeal
  shortG := gShort
  openG := gOpen
  sealNil := gSealNil
  openNil := gOpenNil }
end Go.Proofs.Ytlkjngbelckgkaa
