/-
  The document's round keys, whole.
-/
import Derived.Test.YtpjkicbfdknjcaaRAes6
namespace Go.Proofs.Ytpjkicbfdknjcaa
open Go.RowKit

theorem rtx2 (x : Nat) (w : World) (hx : x < 256) : Calls Try.prog 10 #[.int .u8 x, .int .u8 2] w fun e w' => e = .returned (.int .u8 (Aes.tm x 2 : Nat)) ∧ w' = w := rtimes_any x 2 w hx (by decide)
theorem kpart_keys (key : List Int) (n : Nat) : kpart (Aes.keys key n) (Aes.kt (Aes.keys key n) (n + 4)) (n + 4) 4 = Aes.keys key (n + 1) := rfl

noncomputable def hkeysO : Code := loopOf Try.f26 0

set_option maxRecDepth 100000 in
set_option maxHeartbeats 8000000 in
theorem keys_outer (R : Act → World → Prop) (a : Act) (w0 w : World) (gb ob bc : Nat) (v5 : Value) (key : List Int) (hkl : Hid (key.length = 16)) (hwf : Hid (∀ x ∈ key, (Lit.int .u8 x).wf = true)) (hb : Hid (Sl .u8 w0 (.slice (some ⟨gb, ob, none⟩) 256 bc) (boxL 256)))
    (hO : Hid (w.ownsRow w0.heap.size 5 1 v5 16 (key.map (Value.int .u8)))) (hk : Hid (Keep [] w0 w))
    (hF : Fr 95 [(0, .slice (some ⟨gb, ob, none⟩) 256 bc), (5, v5), (6, .int .u8 1), (7, .int .i64 4)] a)
    (hQ : ∀ a' w' v', Fr 95 [(5, v')] a' → w'.ownsRow w0.heap.size 5 1 v' 176 ((Aes.keys key 40).map (Value.int .u8)) → Keep [] w0 w' → R a' w') :
    Code.wp Try.prog (.loop hkeysO) (OutX 0 R) a w := by
  refine wp_loop_ghost_k (fun m a wr => ∃ (n : Nat) (v : Value), m + n = 40 ∧ Fr 95 [(0, .slice (some ⟨gb, ob, none⟩) 256 bc), (5, v), (6, .int .u8 (Aes.rcon ((n + 3) / 4) : Nat)), (7, .int .i64 ((n + 4 : Nat) : Int))] a ∧
      wr.ownsRow w0.heap.size 5 1 v (4 * (n + 4)) ((Aes.keys key n).map (Value.int .u8)) ∧ Keep [] w0 wr)
    40 ⟨0, v5, rfl, hF, hO.out, hk.out⟩ ?_
  clear hF hO hk
  rintro m a wr ⟨n, v, hmn, hFr, hO, hk⟩ J K hJ hK1
  have HJ := Lib.hid hJ
  have HMN := Lib.hid hmn
  have HK := Lib.hid hk
  have HQ := Lib.hid hQ
  obtain ⟨f, ⟨f0, f5, f6, f7, -⟩, rfl⟩ := hFr.open95
  by_cases hlt : n < 40
  · obtain ⟨g, c, rfl, hg1, hg2⟩ := own_some hO (by omega)
    have HO := Lib.hid hO
    obtain ⟨l, hl⟩ : ∃ l, l = Aes.keys key n := ⟨_, rfl⟩
    obtain ⟨i, hi⟩ : ∃ i, i = n + 4 := ⟨_, rfl⟩
    obtain ⟨cc, hcc⟩ : ∃ cc, cc = Aes.rcon ((n + 3) / 4) := ⟨_, rfl⟩
    have HNEXT := Lib.hid (show kpart l (Aes.kt l i) i 4 = Aes.keys key (n + 1) by rw [hl, hi]; exact kpart_keys key n)
    have hll : l.length = 4 * i := by rw [hl, Aes.keys_length, hkl.out, hi]; omega
    have hlw : ∀ x ∈ l, (Lit.int .u8 x).wf = true := by rw [hl]; exact Aes.keys_wf hwf.out n
    have HLL := Lib.hid hll
    have HLW := Lib.hid hlw
    have hcc1 : cc < 256 := by rw [hcc]; exact Aes.rcon_lt _
    have HCR := Lib.hid (show cc = Aes.rcon ((i - 1) / 4) by rw [hcc, hi]; rfl)
    have HI := Lib.hid hi
    have hi4 : 4 ≤ i := by omega
    have hi43 : i ≤ 43 := by omega
    rw [← hi, ← hl] at HO
    rw [← hcc] at f6
    rw [← hi] at f5 f7
    have HSL := Lib.hid (Sl.of_own HO.out hlw)
    have HKT := Lib.hid (Aes.kt_lt hlw i)
    have HGW := Lib.hid hg2
    have R6 := keys_reg6 (fun a' w' => ∃ T, Fr 95 [(0, .slice (some ⟨gb, ob, none⟩) 256 bc), (5, .slice (some ⟨g, 0, none⟩) (4 * i) c), (6, .int .u8 (cc : Nat)), (7, .int .i64 i), (8, .slice (some ⟨T, 0, none⟩) 4 4)] a' ∧ wr.heap.size ≤ T ∧
      Blk w' T 5 #[.int .u8 ((nb l (4 * i - 4) : Nat) : Int), .int .u8 ((nb l (4 * i - 3) : Nat) : Int), .int .u8 ((nb l (4 * i - 2) : Nat) : Int), .int .u8 ((nb l (4 * i - 1) : Nat) : Int)] ∧ Keep [] wr w')
    simp only [f0, f5, f6, f7]
    clear f0 f5 f6 f7 hFr hJ hO hk hQ hmn hl hi hcc hll hlw hg1 hg2
    conv => arg 2; whnf
    go_upto_region 6 with fail
    refine OutN.use (R6 _ wr gb ob bc g 0 c i cc l HLL hi4 hi43 HSL ⟨rfl, rfl, by repeat (first | exact trivial | refine ⟨rfl, ?_⟩)⟩ (Lib.hid fun a' w' T h1 h2 h3 h4 => ⟨T, h1, h2, h3, h4⟩)) ?_
    rintro a' w3 ⟨T, hF3, hT, hB3, hk3⟩
    have HB3 := Lib.hid hB3
    have HK3 := Lib.hid hk3
    have HTN := Lib.hid hT
    have HO3 := Lib.hid (own_keep0 HO.out hk3)
    have HK03 := Lib.hid (HK.out.trans hk3)
    have HSB := Lib.hid (hb.out.keep0 HK03.out)
    obtain ⟨f, ⟨f0, f5, f6, f7, f8, -⟩, rfl⟩ := hF3.open95
    simp only [f0, f5, f6, f7, f8]
    clear f0 f5 f6 f7 f8 hF3 hT hB3 hk3 R6
    by_cases hmod : i % 4 = 0
    · have HCC := Lib.hid (show cc = Aes.rcon (i / 4 - 1) by rw [HCR.out]; congr 1; omega)
      have hm : Int.tmod (i : Int) 4 = 0 := by rw [Int.tmod_eq_emod_of_nonneg (by omega)]; omega
      have R8 := keys_reg8 (fun a' w' => ∃ T', Fr 95 [(0, .slice (some ⟨gb, ob, none⟩) 256 bc), (5, .slice (some ⟨g, 0, none⟩) (4 * i) c), (6, .int .u8 (cc : Nat)), (8, .slice (some ⟨T', 0, none⟩) 4 4), (7, .int .i64 i)] a' ∧ w3.heap.size ≤ T' ∧
        Blk w' T' 5 #[.int .u8 ((Aes.box (nb l (4 * i - 3)) ^^^ cc : Nat) : Int), .int .u8 ((Aes.box (nb l (4 * i - 2)) : Nat) : Int), .int .u8 ((Aes.box (nb l (4 * i - 1)) : Nat) : Int), .int .u8 ((Aes.box (nb l (4 * i - 4)) : Nat) : Int)] ∧ Keep [] w3 w')
      go_upto_region 8 with fail
      refine OutN.use (R8 _ w3 gb ob bc g 0 c i cc T _ _ _ _ HSB HB3 (nb_lt HLW.out _) (nb_lt HLW.out _) (nb_lt HLW.out _) (nb_lt HLW.out _) hcc1 ⟨rfl, rfl, by repeat (first | exact trivial | refine ⟨rfl, ?_⟩)⟩ (Lib.hid fun a' w' T h1 h2 h3 h4 => ⟨T, h1, h2, h3, h4⟩)) ?_
      rintro a' w4 ⟨T', hF4, hT', hB4, hk4⟩
      have HO4 := Lib.hid (own_keep0 HO3.out hk4)
      have HK04 := Lib.hid (HK03.out.trans hk4)
      have HB4 := Lib.hid (show Blk w4 T' 5 #[.int .u8 ((Aes.kt l i 0 : Nat) : Int), .int .u8 ((Aes.kt l i 1 : Nat) : Int), .int .u8 ((Aes.kt l i 2 : Nat) : Int), .int .u8 ((Aes.kt l i 3 : Nat) : Int)] by
        simp only [Aes.kt, if_pos hmod]
        rw [← HCC.out]
        exact hB4)
      have HTV := Lib.hid (show ∀ q, (Value.slice (some ⟨g, 0, none⟩) (4 * i) c).ownBlock = some q → q ≠ T' from fun q hq => by
        have h1 := HGW.out
        have h2 := HK3.out.size
        have h3 : g = q := by simpa [Value.ownBlock] using hq
        omega)
      have TM := fun w => Lib.hid (rtx2 cc w hcc1)
      obtain ⟨f, ⟨f0, f5, f6, f8, f7, -⟩, rfl⟩ := hF4.open95
      simp only [f0, f5, f6, f7, f8]
      clear f0 f5 f6 f7 f8 hF4 hT' hB4 hk4 R8
      go_upto_block 2 with (go_at_call 10; with_reducible refine (TM w4).out.mono ?_; rintro e w5 ⟨rfl, rfl⟩)
      go_wp2_with fail
      refine OutX.use (keys_inner (fun a' w' => ∃ v', Fr 95 [(0, .slice (some ⟨gb, ob, none⟩) 256 bc), (5, v'), (6, .int .u8 (Aes.tm cc 2 : Nat)), (7, .int .i64 i)] a' ∧ w'.ownsRow w0.heap.size 5 1 v' (4 * i + 4) ((kpart l (Aes.kt l i) i 4).map (Value.int .u8)) ∧ Keep [] w0 w') _ w0 w5 gb ob bc i (Aes.tm cc 2) T' _ l (Aes.kt l i) HLL HLW hi4 hi43 HKT HO4 HB4 HTV HK04
        ⟨rfl, rfl, by repeat (first | exact trivial | refine ⟨rfl, ?_⟩)⟩ (fun a' w' v' h1 h2 h3 => ⟨v', h1, h2, h3⟩)) ?_
      rintro a' w6 ⟨v', hF6, hO6, hk6⟩
      have HO6 := Lib.hid hO6
      have HK6 := Lib.hid hk6
      obtain ⟨f, ⟨f0, f5, f6, f7, -⟩, rfl⟩ := hF6.open95
      simp only [f0, f5, f6, f7]
      clear f0 f5 f6 f7 hF6 hO6 hk6
      go_wp2_with fail
      have hi := HI.out
      refine Handed.intro (m - 1) (by have := HMN.out; omega) (HJ.out _ _ _ ⟨n + 1, v', by have := HMN.out; omega, ⟨rfl, rfl, rfl, rfl, ?_, ?_, trivial⟩, ?_, HK6.out⟩)
      · show Value.int .u8 _ = Value.int .u8 _
        congr 2
        rw [HCC.out, show (n + 1 + 3) / 4 = (i / 4 - 1) + 1 by omega]
        rfl
      · show Value.int .i64 _ = Value.int .i64 _
        congr 1
        omega
      · have := HO6.out
        rw [HNEXT.out, show 4 * i + 4 = 4 * (n + 1 + 4) by omega] at this
        exact this
    · have hm : (Int.tmod (i : Int) 4 == 0) = false := beq_eq_false_iff_ne.2 (by rw [Int.tmod_eq_emod_of_nonneg (by omega)]; omega)
      have hmz : ¬ Int.tmod (i : Int) 4 = 0 := by rw [Int.tmod_eq_emod_of_nonneg (by omega)]; omega
      have HB4 := Lib.hid (show Blk w3 T 5 #[.int .u8 ((Aes.kt l i 0 : Nat) : Int), .int .u8 ((Aes.kt l i 1 : Nat) : Int), .int .u8 ((Aes.kt l i 2 : Nat) : Int), .int .u8 ((Aes.kt l i 3 : Nat) : Int)] by
        simp only [Aes.kt, if_neg hmod]
        rw [show 4 * i - 4 + 0 = 4 * i - 4 by omega, show 4 * i - 4 + 1 = 4 * i - 3 by omega, show 4 * i - 4 + 2 = 4 * i - 2 by omega, show 4 * i - 4 + 3 = 4 * i - 1 by omega]
        exact HB3.out)
      have HTV := Lib.hid (show ∀ q, (Value.slice (some ⟨g, 0, none⟩) (4 * i) c).ownBlock = some q → q ≠ T from fun q hq => by
        have h1 := HGW.out
        have h2 := HTN.out
        have h3 : g = q := by simpa [Value.ownBlock] using hq
        omega)
      go_upto_block 2 with fail
      go_wp2_with fail
      refine OutX.use (keys_inner (fun a' w' => ∃ v', Fr 95 [(0, .slice (some ⟨gb, ob, none⟩) 256 bc), (5, v'), (6, .int .u8 (cc : Nat)), (7, .int .i64 i)] a' ∧ w'.ownsRow w0.heap.size 5 1 v' (4 * i + 4) ((kpart l (Aes.kt l i) i 4).map (Value.int .u8)) ∧ Keep [] w0 w') _ w0 w3 gb ob bc i cc T _ l (Aes.kt l i) HLL HLW hi4 hi43 HKT HO3 HB4 HTV HK03
        ⟨rfl, rfl, by repeat (first | exact trivial | refine ⟨rfl, ?_⟩)⟩ (fun a' w' v' h1 h2 h3 => ⟨v', h1, h2, h3⟩)) ?_
      rintro a' w6 ⟨v', hF6, hO6, hk6⟩
      have HO6 := Lib.hid hO6
      have HK6 := Lib.hid hk6
      obtain ⟨f, ⟨f0, f5, f6, f7, -⟩, rfl⟩ := hF6.open95
      simp only [f0, f5, f6, f7]
      clear f0 f5 f6 f7 hF6 hO6 hk6
      go_wp2_with fail
      have hi := HI.out
      refine Handed.intro (m - 1) (by have := HMN.out; omega) (HJ.out _ _ _ ⟨n + 1, v', by have := HMN.out; omega, ⟨rfl, rfl, rfl, rfl, ?_, ?_, trivial⟩, ?_, HK6.out⟩)
      · show Value.int .u8 _ = Value.int .u8 _
        congr 2
        rw [HCR.out, show (n + 1 + 3) / 4 = (i - 1) / 4 by omega]
      · show Value.int .i64 _ = Value.int .i64 _
        congr 1
        omega
      · have := HO6.out
        rw [HNEXT.out, show 4 * i + 4 = 4 * (n + 1 + 4) by omega] at this
        exact this
  · obtain rfl : n = 40 := by omega
    have HO := Lib.hid hO
    simp only [f0, f5, f6, f7]
    clear f0 f5 f6 f7 hFr hJ hO hk hQ hmn
    conv => arg 2; whnf
    go_wp2_with fail
    exact ⟨rfl, HQ.out _ _ v ⟨rfl, rfl, rfl, trivial⟩ HO.out HK.out⟩
end Go.Proofs.Ytpjkicbfdknjcaa
