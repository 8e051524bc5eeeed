/-
  Aes' law's Awake; AesFields.
-/
import Derived.Test.YtpjkicbfdknjcaaAesW1
namespace Go.Proofs.Ytpjkicbfdknjcaa
open Go.RowKit

theorem block5_eq : Aes.block5 = (List.range 16).map fun i => ((i : Nat) : Int) * 17 := by decide

set_option maxRecDepth 100000 in
set_option maxHeartbeats 4000000 in
theorem awake5_any (hN : ANewC) (hK : AKeyC) (hT : ATurnC) (w : World) :
    Calls Try.prog 7 #[] w fun e w' => e = .returned (.bool true) ∧ Keep [] w w' := by
  obtain ⟨Z, hZ, hZs, hZi⟩ := blk16
  have HZI := Lib.hid hZi
  have HZ := Lib.hid hZ
  clear hZ hZs hZi
  go_enter Try.func7, Try.ntmps7
  obtain ⟨K, hK1⟩ : ∃ K, K = w.heap.size := ⟨_, rfl⟩
  go_upto_region 2 with (first
    | (have _q := HB1; refine wl_alloc_rowZ rfl _ rfl Z 16 HZI.out ?_; intro w2 hB2 hk2 hz2; have HB2 := Lib.hid hB2; have HK2 := Lib.hid hk2; clear hB2 hk2 hz2)
    | (refine wl_alloc_rowZ rfl _ rfl Z 16 HZI.out ?_; intro w1 hB1 hk1 hz1; have HB1 := Lib.hid hB1; have HK1 := Lib.hid hk1; clear hB1 hk1 hz1))
  obtain ⟨B, hB⟩ : ∃ B, B = w1.heap.size := ⟨_, rfl⟩
  have HKB := Lib.hid (show K ≠ B ∧ w.heap.size ≤ K ∧ w.heap.size ≤ B from ⟨by have := HB1.out.lt; omega, by omega, by have := HK1.out.size; omega⟩)
  have HBK := Lib.hid (show Blk w2 K 29 ((upd (fun i => ((i : Nat) : Int)) z16 0).map (Value.int .u8)).toArray by
    rw [hK1, upd_zero]
    have := HB1.out.keep HK2.out (by simp)
    rw [HZ.out] at this
    simpa [z16] using this)
  have HBB := Lib.hid (show Blk w2 B 29 ((upd (fun i => ((i : Nat) : Int) * 17) z16 0).map (Value.int .u8)).toArray by
    rw [hB, upd_zero]
    have := HB2.out
    rw [HZ.out] at this
    simpa [z16] using this)
  have HK02 := Lib.hid (HK1.out.trans HK2.out)
  rw [← hK1, ← hB]
  clear hK1 hB HB1 HB2
  go_wp2_with fail
  go_loopw [5] (fun s5 wr => ∃ j : Nat, j ≤ 16 ∧ s5 = .int .i64 j ∧ Blk wr K 29 ((upd (fun i => ((i : Nat) : Int)) z16 j).map (Value.int .u8)).toArray ∧ Blk wr B 29 ((upd (fun i => ((i : Nat) : Int) * 17) z16 j).map (Value.int .u8)).toArray ∧ Keep [K, B] w2 wr) (fun s5 _ => 16 - (intOf s5).toNat)
  case atStart => exact ⟨0, by omega, rfl, HBK.out, HBB.out, Keep.refl _ _⟩
  case round =>
    obtain ⟨j, hj, rfl, hB1, hB2, hk⟩ := hrel
    have HR1 := Lib.hid hB1
    have HR2 := Lib.hid hB2
    have HKR := Lib.hid hk
    by_cases hlt : j < 16
    · have c1 : wr.cell? ⟨K, j, none⟩ = some (.int .u8 0) := by rw [hB1.cell]; exact upd_put _ _ _ (Nat.le_refl _) hlt
      have c2 : wr.cell? ⟨B, j, none⟩ = some (.int .u8 0) := by rw [hB2.cell]; exact upd_put _ _ _ (Nat.le_refl _) hlt
      have f1 := hB1.frozen j
      have f2 := hB2.frozen j
      have hne : K ≠ B := HKB.out.1
      have bj : (0 : Int) ≤ j ∧ (j : Int) < 16 := ⟨by omega, by omega⟩
      clear hB1 hB2 hk
      go_wp2_with fail
      exact ⟨⟨j + 1, by omega, rfl, (HR1.out.upd (by simp [z16]; omega) rfl).far hne _, (HR2.out.far (fun h => hne h.symm) _).upd (by simp [z16]; omega) rfl, (HKR.out.cellset (by simp) _).cellset (by simp) _⟩, by simp [intOf]; omega⟩
    · obtain rfl : j = 16 := by omega
      have HKF := Lib.hid (show Blk wr K 29 (Aes.key5.map (Value.int .u8)).toArray by
        have := HR1.out
        rw [upd_full _ _ _ (by simp [z16])] at this
        exact this)
      have HBF := Lib.hid (show Blk wr B 29 (Aes.block5.map (Value.int .u8)).toArray by
        have := HR2.out
        rw [upd_full _ _ _ (by simp [z16]), ← block5_eq] at this
        exact this)
      have HKW := Lib.hid (show Keep [] w wr from HK02.out.trans' HKR.out (fun x hx => by right; have := HKB.out; simp at hx; omega))
      obtain ⟨DT, hDT⟩ : ∃ DT, DT = ((Aes.turn Aes.key5 Aes.block5).map (Value.int .u8)).toArray := ⟨_, rfl⟩
      have HDT := Lib.hid hDT
      have d0 : DT[0]? = some (.int .u8 105) := by rw [hDT]; simp [Aes.turn5.1]
      have d1 : DT[1]? = some (.int .u8 196) := by rw [hDT]; simp [Aes.turn5.2.1]
      have d2 : DT[15]? = some (.int .u8 90) := by rw [hDT]; simp [Aes.turn5.2.2]
      clear hDT hB1 hB2 hk
      go_upto_region 7 with fail
      refine OutN.use (awk5_reg hN hK hT (fun a' w' => ∃ m, Fr 36 [(1, .pointer (some ⟨K, 0, none⟩)), (2, .pointer (some ⟨B, 0, none⟩)), (4, .pointer (some ⟨m, 0, none⟩))] a' ∧ Blk w' m 29 DT ∧ Keep [] wr w') _ wr K B Aes.key5 Aes.block5 _ _ DT ⟨by decide, Aes.key5_wf⟩ ⟨by decide, Aes.block5_wf⟩ (Lib.hid rfl) (Lib.hid rfl) HDT HKF HBF
        ⟨rfl, rfl, by repeat (first | exact trivial | refine ⟨rfl, ?_⟩)⟩ (Lib.hid fun a' w' m h1 _ h3 h4 => ⟨m, h1, h3, h4⟩)) ?_
      rintro a' w3 ⟨m, hF, hb, hk3⟩
      have HK3 := Lib.hid (HKW.out.trans hk3)
      have c0 := (hb.cell 0).trans d0
      have c1 := (hb.cell 1).trans d1
      have c2 := (hb.cell 15).trans d2
      obtain ⟨f, ⟨f1, f2, f4, -⟩, rfl⟩ := hF.open36
      simp only [f1, f2, f4]
      clear f1 f2 f4 hF hb hk3 d0 d1 d2
      go_wp2_with fail
      go_ret
      exact ⟨rfl, HK3.out⟩

set_option maxRecDepth 100000 in
set_option maxHeartbeats 8000000 in
theorem aesFields_any (hN : ANewC) (hK : AKeyC) (hT : ATurnC) (hM : ATimesC) (hX : ABoxC) (a b c : Int) (w : World) (ha : (Lit.int .u8 a).wf = true) (hb : (Lit.int .u8 b).wf = true) (hc : (Lit.int .u8 c).wf = true) :
    Calls Try.prog 3 #[.int .u8 a, .int .u8 b, .int .u8 c] w fun e w' => e = .returned (.bool true) ∧ Keep [] w w' := by
  obtain ⟨ha0, ha1⟩ := wf_u8 ha
  obtain ⟨hb0, hb1⟩ := wf_u8 hb
  obtain ⟨hc0, hc1⟩ := wf_u8 hc
  obtain ⟨x, rfl⟩ := Int.eq_ofNat_of_zero_le ha0
  obtain ⟨y, rfl⟩ := Int.eq_ofNat_of_zero_le hb0
  obtain ⟨z, rfl⟩ := Int.eq_ofNat_of_zero_le hc0
  have hx : x < 256 := by omega
  have hy : y < 256 := by omega
  have hz : z < 256 := by omega
  obtain ⟨F1, F2, F3⟩ := AesFields_facts x y z hx hy hz
  have A := fun w => Lib.hid (awake5_any hN hK hT w)
  have N := fun w => Lib.hid (hN w)
  have M := fun w (p q : Nat) h1 h2 => Lib.hid (hM w p q h1 h2)
  have RM := fun w (p q : Nat) h1 h2 => Lib.hid (rtimes_any p q w h1 h2)
  have BX := fun w g h => Lib.hid (hX w g 0 x h hx)
  have RB := fun w => Lib.hid (rbox_any x w hx)
  have M4 := fun w => Lib.hid (hM w y x hy hx)
  have M8 := fun w => Lib.hid (hM w (Aes.tm x y) z (Aes.tm_lt _ _) hz)
  have M9 := fun w => Lib.hid (hM w x (y ^^^ z) hx (Nat.xor_lt_two_pow (n := 8) hy hz))
  rw [← u8_xor_nat y z hy hz, F3, ← u8_xor_nat (Aes.tm x y) (Aes.tm x z) (Aes.tm_lt _ _) (Aes.tm_lt _ _)] at M9
  rw [← F1] at M4
  rw [← F2] at M8
  have HX := Lib.hid hx
  have HY := Lib.hid hy
  have HZ := Lib.hid hz
  clear ha hb hc ha0 ha1 hb0 hb1 hc0 hc1 F1 F2 F3 hN hK hT hM hX
  go_enter Try.func3, Try.ntmps3
  go_upto_region 4 with (first
    | (go_at_call 7; with_reducible refine (A w).out.mono ?_; rintro e w1 ⟨rfl, hk1⟩)
    | (go_at_call 8; with_reducible refine (N w1).out.mono ?_; rintro e w2 ⟨g, rfl, hg, hat, hk2⟩))
  have HKC := Lib.hid (hk1.trans hk2)
  have HAT := Lib.hid hat
  have HG := Lib.hid (show w.heap.size ≤ g from Nat.le_trans hk1.size hg)
  clear hk1 hk2 hat hg A N
  go_wp2_with (first
    | (go_at_call 9; with_reducible refine (M9 _).out.mono ?_; rintro e w5 ⟨rfl, hk5⟩; replace HAT := Lib.hid (HAT.out.keep hk5 (by simp)); replace HKC := Lib.hid (HKC.out.trans hk5); clear hk5)
    | (go_at_call 9; with_reducible refine (M8 _).out.mono ?_; rintro e w5 ⟨rfl, hk5⟩; replace HAT := Lib.hid (HAT.out.keep hk5 (by simp)); replace HKC := Lib.hid (HKC.out.trans hk5); clear hk5)
    | (go_at_call 9; with_reducible refine (M4 _).out.mono ?_; rintro e w5 ⟨rfl, hk5⟩; replace HAT := Lib.hid (HAT.out.keep hk5 (by simp)); replace HKC := Lib.hid (HKC.out.trans hk5); clear hk5)
    | (go_at_call 9; with_reducible refine (M _ x y HX.out HY.out).out.mono ?_; rintro e w5 ⟨rfl, hk5⟩; replace HAT := Lib.hid (HAT.out.keep hk5 (by simp)); replace HKC := Lib.hid (HKC.out.trans hk5); clear hk5)
    | (go_at_call 9; with_reducible refine (M _ y z HY.out HZ.out).out.mono ?_; rintro e w5 ⟨rfl, hk5⟩; replace HAT := Lib.hid (HAT.out.keep hk5 (by simp)); replace HKC := Lib.hid (HKC.out.trans hk5); clear hk5)
    | (go_at_call 9; with_reducible refine (M _ x z HX.out HZ.out).out.mono ?_; rintro e w5 ⟨rfl, hk5⟩; replace HAT := Lib.hid (HAT.out.keep hk5 (by simp)); replace HKC := Lib.hid (HKC.out.trans hk5); clear hk5)
    | (go_at_call 9; with_reducible refine (M _ x (Aes.tm y z) HX.out (Aes.tm_lt _ _)).out.mono ?_; rintro e w5 ⟨rfl, hk5⟩; replace HAT := Lib.hid (HAT.out.keep hk5 (by simp)); replace HKC := Lib.hid (HKC.out.trans hk5); clear hk5)
    | (go_at_call 10; with_reducible refine (RM _ x y HX.out HY.out).out.mono ?_; rintro e w5 ⟨rfl, rfl⟩)
    | (go_at_call 11; with_reducible refine (BX _ g HAT.out).out.mono ?_; rintro e w6 ⟨rfl, hat6, hk6⟩; replace HKC := Lib.hid (HKC.out.trans' hk6 (fun q hq => by right; have := HG.out; simp at hq; omega)); clear hk6 hat6)
    | (go_at_call 12; with_reducible refine (RB _).out.mono ?_; rintro e w7 ⟨rfl, m, rfl⟩))
  go_ret
  exact ⟨rfl, HKC.out.drewN m⟩
end Go.Proofs.Ytpjkicbfdknjcaa
