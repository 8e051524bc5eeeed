/-
  The document's answer to a block, by a key.
-/
import Derived.Test.YtpjkicbfdknjcaaRAes11
namespace Go.Proofs.Ytpjkicbfdknjcaa
open Go.RowKit

noncomputable def hturnB : Code := loopOf Try.f16 1

set_option maxRecDepth 100000 in
set_option maxHeartbeats 8000000 in
theorem turn_l1 (R : Act → World → Prop) (a : Act) (w0 w : World) (gb ob bc gw cw G c8 : Nat) (s wl : List Int) (hs : Hid (s.length = 16)) (hsw : Hid (∀ x ∈ s, (Lit.int .u8 x).wf = true)) (hwl : Hid (wl.length = 176)) (hww : Hid (∀ x ∈ wl, (Lit.int .u8 x).wf = true)) (hb : Hid (Sl .u8 w0 (.slice (some ⟨gb, ob, none⟩) 256 bc) (boxL 256)))
    (hG : Hid (Row w G s)) (hW : Hid (Row w gw wl)) (hne : Hid (gw ≠ G ∧ w0.heap.size ≤ G ∧ w0.heap.size ≤ gw)) (hk : Hid (Keep [] w0 w))
    (hF : Fr 93 [(0, .slice (some ⟨gb, ob, none⟩) 256 bc), (7, .slice (some ⟨gw, 0, none⟩) 176 cw), (8, .slice (some ⟨G, 0, none⟩) 16 c8), (10, .int .i64 1)] a)
    (hQ : ∀ a' w', Fr 93 [(8, .slice (some ⟨G, 0, none⟩) 16 c8)] a' → Row w' G (Aes.rounds wl s 10) → Keep [] w0 w' → R a' w') :
    Code.wp Try.prog (.loop hturnB) (OutX 2 R) a w := by
  refine wp_loop_ghost_k (fun m a wr => ∃ n : Nat, m + n = 10 ∧ Fr 93 [(0, .slice (some ⟨gb, ob, none⟩) 256 bc), (7, .slice (some ⟨gw, 0, none⟩) 176 cw), (8, .slice (some ⟨G, 0, none⟩) 16 c8), (10, .int .i64 ((n + 1 : Nat) : Int))] a ∧ Row wr G (Aes.rounds wl s n) ∧ Row wr gw wl ∧ Keep [] w0 wr)
    10 ⟨0, rfl, hF, hG.out, hW.out, hk.out⟩ ?_
  clear hF hG hW hk
  rintro m a wr ⟨n, hmn, hFr, hB, hW, hk⟩ J K hJ hK1
  have HJ := Lib.hid hJ
  have HMN := Lib.hid hmn
  have HB := Lib.hid hB
  have HW := Lib.hid hW
  have HK := Lib.hid hk
  have HQ := Lib.hid hQ
  obtain ⟨f, ⟨f0, f7, f8, f10, -⟩, rfl⟩ := hFr.open93
  by_cases hlt : n < 10
  · obtain ⟨r, hr⟩ : ∃ r, r = n + 1 := ⟨_, rfl⟩
    have HR := Lib.hid hr
    obtain ⟨t, ht⟩ : ∃ t, t = Aes.rounds wl s n := ⟨_, rfl⟩
    have htl : t.length = 16 := by rw [ht]; exact Aes.rounds_length hs.out n
    have HTL := Lib.hid htl
    have HTW := Lib.hid (show ∀ x ∈ t, (Lit.int .u8 x).wf = true by rw [ht]; exact Aes.rounds_wf hww.out hsw.out n)
    have HT := Lib.hid ht
    have hr10 : r ≤ 10 := by omega
    have hr1 : 1 ≤ r := by omega
    rw [← ht] at HB
    rw [← hr] at f10
    have HGL := Lib.hid hB.lt
    have HWL := Lib.hid hW.lt
    simp only [f0, f7, f8, f10]
    clear f0 f7 f8 f10 hFr hJ hB hW hk hQ hmn hr ht htl
    conv => arg 2; whnf
    go_upto_block 4 with (at_make; refine wl_make _ rfl _ _ 30 rfl 5 (.int .u8 0) 1 Try.underlying30 u8infB rfl _ _ _ _ 16 16 rfl rfl rfl rfl (Nat.le_refl _) (by omega) (by omega) ?_; intro w2 hB2 hk2 hz2; have HB2 := Lib.hid hB2; have HK2 := Lib.hid hk2; clear hB2 hk2 hz2)
    obtain ⟨T, hT⟩ : ∃ T, T = wr.heap.size := ⟨_, rfl⟩
    have HT2 := Lib.hid (show Row w2 T z16 from Row.of_blk (by rw [hT]; simpa [z16] using HB2.out))
    have HB22 := Lib.hid (HB.out.keep HK2.out (by simp))
    have HW2 := Lib.hid (HW.out.keep HK2.out (by simp))
    have HK02 := Lib.hid (HK.out.trans HK2.out)
    have HGT := Lib.hid (show G ≠ T ∧ gw ≠ T ∧ w0.heap.size ≤ T from ⟨by have := HGL.out; omega, by have := HWL.out; omega, by have := HK.out.size; omega⟩)
    have HSB := Lib.hid (show ∀ W, Keep [T] w2 W → Sl .u8 W (.slice (some ⟨gb, ob, none⟩) 256 bc) (boxL 256) from fun W h => hb.out.keep0 (HK02.out.trans' h (fun x hx => by right; have := HGT.out.2.2; simp at hx; omega)))
    rw [← hT]
    clear hT HB2
    go_wp2_with fail
    refine OutX.use (turn_l2 (fun a' w' => Fr 93 [(0, .slice (some ⟨gb, ob, none⟩) 256 bc), (7, .slice (some ⟨gw, 0, none⟩) 176 cw), (8, .slice (some ⟨G, 0, none⟩) 16 c8), (10, .int .i64 r), (11, .slice (some ⟨T, 0, none⟩) 16 16)] a' ∧ Row w' T (Aes.sub t) ∧ Keep [T] w2 w') _ w2 gb ob bc gw cw G c8 T r t HTL HTW HSB HB22 HT2 (Lib.hid HGT.out.1)
      ⟨rfl, rfl, by repeat (first | exact trivial | refine ⟨rfl, ?_⟩)⟩ (fun a' w' h1 h2 h3 => ⟨h1, h2, h3⟩)) ?_
    rintro a' w3 ⟨hF3, hT3, hk3⟩
    have HT3 := Lib.hid hT3
    have HB3 := Lib.hid (HB22.out.keep hk3 (by simpa using HGT.out.1))
    have HW3 := Lib.hid (HW2.out.keep hk3 (by simpa using HGT.out.2.1))
    have HK3 := Lib.hid (HK02.out.trans' hk3 (fun x hx => by right; have := HGT.out.2.2; simp at hx; omega))
    obtain ⟨f, ⟨f0, f7, f8, f10, f11, -⟩, rfl⟩ := hF3.open93
    simp only [f0, f7, f8, f10, f11]
    clear f0 f7 f8 f10 f11 hF3 hT3 hk3
    by_cases hlast : r < 10
    · have MX := Lib.hid (rmixed_any (.slice (some ⟨T, 0, none⟩) 16 16) (Aes.sub t) w3 (by
        have h := HT3.out.sl (c := 16) (Aes.sub_wf t) (by simp [Aes.sub]) (by decide)
        simpa [Aes.sub] using h) (by simp [Aes.sub]))
      go_upto_block 8 with (go_at_call 27; with_reducible refine MX.out.mono ?_; rintro e w4 ⟨T2, rfl, hT4, hB4, hk4⟩; have HB4 := Lib.hid hB4; have HT4 := Lib.hid hT4; have HK4 := Lib.hid hk4; clear hB4 hT4 hk4)
      have HX4 := Lib.hid (show Row w4 T2 (Aes.mixed (Aes.sub t)) from Row.of_blk HB4.out)
      have HG4 := Lib.hid (HB3.out.keep HK4.out (by simp))
      have HW4 := Lib.hid (HW3.out.keep HK4.out (by simp))
      have HK04 := Lib.hid (HK3.out.trans HK4.out)
      have HNE := Lib.hid (show gw ≠ G ∧ T2 ≠ G from ⟨hne.out.1, by have := HB3.out.lt; have := HT4.out; omega⟩)
      go_wp2_with fail
      refine OutX.use (turn_l4 (fun a' w' => Fr 93 [(0, .slice (some ⟨gb, ob, none⟩) 256 bc), (7, .slice (some ⟨gw, 0, none⟩) 176 cw), (8, .slice (some ⟨G, 0, none⟩) 16 c8), (10, .int .i64 r)] a' ∧ Row w' G (Aes.add (Aes.mixed (Aes.sub t)) wl (16 * r)) ∧ Keep [G] w4 w') _ w4 gb ob bc gw cw G c8 T2 r hr10 t (Aes.mixed (Aes.sub t)) wl HTL.out (Lib.hid (by simp [Aes.mixed])) (Lib.hid (Aes.mixed_wf (Aes.sub_wf t))) hwl hww HG4 HX4 HW4 HNE
        ⟨rfl, rfl, by repeat (first | exact trivial | refine ⟨rfl, ?_⟩)⟩ (fun a' w' h1 h2 h3 => ⟨h1, h2, h3⟩)) ?_
      rintro a' w5 ⟨hF5, hB5, hk5⟩
      have HB5 := Lib.hid (show Row w5 G (Aes.rounds wl s (n + 1)) by
        have e : Aes.rounds wl s (n + 1) = Aes.add (Aes.mixed (Aes.sub t)) wl (16 * r) := by
          rw [Aes.rounds, ← HT.out, ← HR.out, Aes.round, if_pos hlast]
        rw [e]; exact hB5)
      have HW5 := Lib.hid (HW4.out.keep hk5 (by simpa using hne.out.1))
      have HK5 := Lib.hid (HK04.out.trans' hk5 (fun x hx => by right; have := hne.out.2.1; simp at hx; omega))
      obtain ⟨f, ⟨f0, f7, f8, f10, -⟩, rfl⟩ := hF5.open93
      simp only [f0, f7, f8, f10]
      clear f0 f7 f8 f10 hF5 hB5 hk5
      go_wp2_with fail
      refine Handed.intro (m - 1) (by have := HMN.out; omega) (HJ.out _ _ _ ⟨n + 1, by have := HMN.out; omega, ⟨rfl, rfl, rfl, rfl, rfl, ?_, trivial⟩, HB5.out, HW5.out, HK5.out⟩)
      show Value.int .i64 _ = Value.int .i64 _
      congr 1
      have := HR.out
      omega
    · have HNE := Lib.hid (show gw ≠ G ∧ T ≠ G from ⟨hne.out.1, fun h => HGT.out.1 h.symm⟩)
      go_upto_block 8 with fail
      go_wp2_with fail
      refine OutX.use (turn_l4 (fun a' w' => Fr 93 [(0, .slice (some ⟨gb, ob, none⟩) 256 bc), (7, .slice (some ⟨gw, 0, none⟩) 176 cw), (8, .slice (some ⟨G, 0, none⟩) 16 c8), (10, .int .i64 r)] a' ∧ Row w' G (Aes.add (Aes.sub t) wl (16 * r)) ∧ Keep [G] w3 w') _ w3 gb ob bc gw cw G c8 T r hr10 t (Aes.sub t) wl HTL.out (Lib.hid (by simp [Aes.sub])) (Lib.hid (Aes.sub_wf t)) hwl hww HB3 HT3 HW3 HNE
        ⟨rfl, rfl, by repeat (first | exact trivial | refine ⟨rfl, ?_⟩)⟩ (fun a' w' h1 h2 h3 => ⟨h1, h2, h3⟩)) ?_
      rintro a' w5 ⟨hF5, hB5, hk5⟩
      have HB5 := Lib.hid (show Row w5 G (Aes.rounds wl s (n + 1)) by
        have e : Aes.rounds wl s (n + 1) = Aes.add (Aes.sub t) wl (16 * r) := by
          rw [Aes.rounds, ← HT.out, ← HR.out, Aes.round, if_neg hlast]
        rw [e]; exact hB5)
      have HW5 := Lib.hid (HW3.out.keep hk5 (by simpa using hne.out.1))
      have HK5 := Lib.hid (HK3.out.trans' hk5 (fun x hx => by right; have := hne.out.2.1; simp at hx; omega))
      obtain ⟨f, ⟨f0, f7, f8, f10, -⟩, rfl⟩ := hF5.open93
      simp only [f0, f7, f8, f10]
      clear f0 f7 f8 f10 hF5 hB5 hk5
      go_wp2_with fail
      refine Handed.intro (m - 1) (by have := HMN.out; omega) (HJ.out _ _ _ ⟨n + 1, by have := HMN.out; omega, ⟨rfl, rfl, rfl, rfl, rfl, ?_, trivial⟩, HB5.out, HW5.out, HK5.out⟩)
      show Value.int .i64 _ = Value.int .i64 _
      congr 1
      have := HR.out
      omega
  · obtain rfl : n = 10 := by omega
    simp only [f0, f7, f8, f10]
    clear f0 f7 f8 f10 hFr hJ hB hW hk hQ hmn
    conv => arg 2; whnf
    go_wp2_with fail
    exact ⟨rfl, HQ.out _ _ ⟨rfl, rfl, rfl, trivial⟩ HB.out HK.out⟩

set_option maxRecDepth 100000 in
set_option maxHeartbeats 4000000 in
theorem rturn_new (bv kv sv : Value) (key block : List Int) (w : World) (hb : Sl .u8 w bv (boxL 256)) (hk : Sl .u8 w kv key) (hs : Sl .u8 w sv block) (hkl : key.length = 16) (hsl : block.length = 16) :
    Calls Try.prog 16 #[bv, kv, sv] w fun e w' => ∃ g c, e = .returned (.slice (some ⟨g, 0, none⟩) 16 c) ∧ w.heap.size ≤ g ∧ Row w' g (Aes.turn key block) ∧ 16 ≤ c ∧ c ≤ 9223372036854775807 ∧ Keep [] w w' := by
  have HKY := Lib.hid (rkeys_any bv kv key w hb hk hkl)
  have HSW := Lib.hid hs.wf
  have HSL := Lib.hid hsl
  have HS := Lib.hid hs
  have HWL := Lib.hid (show (Aes.keys key 40).length = 176 by rw [Aes.keys_length, hkl])
  have HWW := Lib.hid (Aes.keys_wf hk.wf 40)
  obtain ⟨gb, ob, bc, rfl, hbc1, hbc2, -⟩ := hb.cells (by rw [boxL_length]; decide)
  rw [boxL_length] at hb hbc1 HKY ⊢
  have HB := Lib.hid hb
  obtain ⟨kA, kc, rfl, -, -, -, -⟩ := hk
  obtain ⟨sA, sc, rfl, hsc1, hsc2, -, -⟩ := hs
  have HSR := Lib.hid (HS.out.rd)
  rw [hkl] at HKY ⊢
  rw [hsl] at hsc1 ⊢
  clear hb
  go_enter Try.func16, Try.ntmps16
  go_upto_region 2 with (first
    | (go_at_call 26; with_reducible refine HKY.out.mono ?_; rintro e w1 ⟨vw, rfl, hO1, hk1⟩; have HO1 := Lib.hid hO1; have HK1 := Lib.hid hk1; clear hO1 hk1))
  obtain ⟨gw, cw, rfl, hgw1, hgw2⟩ := own_some HO1.out (by decide)
  have HR1 : Hid (Rd (w1.alloc (.cells #[] 5)) sA (block.map (Value.int .u8))) := Lib.hid ((HSR.out.keep0 HK1.out).keep0 ((Keep.refl [] w1).alloc _))
  have HGW := Lib.hid (And.intro hgw1 hgw2)
  clear hgw1 hgw2
  go_upto_block 0 with (first
    | (at_builtin
       refine wl_append _ rfl _ _ _ rfl w1.heap.size 5 (.int .u8 0) 1 1 Try.underlying30 u8infB rfl (by decide) (.slice (some ⟨w1.heap.size, 0, Option.none⟩) 0 0) 0 [] rfl (own_of_blk (Blk.new w1 _ _) rfl (Nat.le_refl _) (by omega) rfl) sA 16 sc (block.map (Value.int .u8)) rfl (by rw [List.length_map, HSL.out]) HR1.out (ints_one _ _) (by simp only [maxLen]; omega) (by omega) (by simp) ?_
       intro x2 w2 ho2 hk2 hat2
       simp only [Nat.zero_add, List.nil_append] at ho2
       have HX2 := Lib.hid ho2
       have HK2 := Lib.hid (show Keep [] w1 w2 from ((Keep.refl [] w1).alloc (.cells #[] 5)).trans' hk2 (by intro y hy; right; simp [Value.ownBlock] at hy; omega))
       clear ho2 hk2 hat2))
  obtain ⟨G, c8, rfl, hG1, hG2⟩ := own_some HX2.out (by decide)
  have hcap := HX2.out
  have hc8 : 16 ≤ c8 ∧ c8 ≤ 9223372036854775807 := by
    rcases hcap.2 with ⟨hv, h0⟩ | ⟨g', cap, cur, hv, hb', hh, hn, hm, hs', ht⟩
    · omega
    · simp only [Value.slice.injEq] at hv
      simp only [maxLen] at hm
      omega
  have HC8 := Lib.hid hc8
  have HNE := Lib.hid (show gw ≠ G ∧ w.heap.size ≤ G ∧ w.heap.size ≤ gw from ⟨by have := HGW.out; omega, by have := HK1.out.size; omega, HGW.out.1⟩)
  have HRG := Lib.hid (Row.of_own HX2.out)
  have HRW := Lib.hid ((Row.of_own HO1.out).keep HK2.out (by simp))
  have HK02 := Lib.hid (HK1.out.trans HK2.out)
  clear hG1 hG2 hcap hc8
  go_wp2_with fail
  refine OutX.use (turn_l0 (fun a' w' => Fr 93 [(0, .slice (some ⟨gb, ob, none⟩) 256 bc), (7, .slice (some ⟨gw, 0, none⟩) 176 cw), (8, .slice (some ⟨G, 0, none⟩) 16 c8)] a' ∧ Row w' G (Aes.add block (Aes.keys key 40) 0) ∧ Keep [G] w2 w') _ w2 gb ob bc gw cw G c8 block (Aes.keys key 40) hsl HSW HWL HWW HRG HRW (Lib.hid HNE.out.1)
    ⟨rfl, rfl, by repeat (first | exact trivial | refine ⟨rfl, ?_⟩)⟩ (fun a' w' h1 h2 h3 => ⟨h1, h2, h3⟩)) ?_
  rintro a' w3 ⟨hF3, hB3, hk3⟩
  have HB3 := Lib.hid hB3
  have HW3 := Lib.hid (HRW.out.keep hk3 (by simpa using HNE.out.1))
  have HK3 := Lib.hid (HK02.out.trans' hk3 (fun x hx => by right; have := HNE.out.2.1; simp at hx; omega))
  obtain ⟨f, ⟨f0, f7, f8, -⟩, rfl⟩ := hF3.open93
  simp only [f0, f7, f8]
  clear f0 f7 f8 hF3 hB3 hk3
  go_upto_block 2 with fail
  go_wp2_with fail
  refine OutX.use (turn_l1 (fun a' w' => Fr 93 [(8, .slice (some ⟨G, 0, none⟩) 16 c8)] a' ∧ Row w' G (Aes.rounds (Aes.keys key 40) (Aes.add block (Aes.keys key 40) 0) 10) ∧ Keep [] w w') _ w w3 gb ob bc gw cw G c8 (Aes.add block (Aes.keys key 40) 0) (Aes.keys key 40) (Lib.hid (by simp [Aes.add])) (Lib.hid (Aes.add_wf HSW.out HWW.out 0)) HWL HWW HB HB3 HW3 HNE HK3
    ⟨rfl, rfl, by repeat (first | exact trivial | refine ⟨rfl, ?_⟩)⟩ (fun a' w' h1 h2 h3 => ⟨h1, h2, h3⟩)) ?_
  rintro a' w4 ⟨hF4, hB4, hk4⟩
  have HB4 := Lib.hid hB4
  have HK4 := Lib.hid hk4
  obtain ⟨f, ⟨f8, -⟩, rfl⟩ := hF4.open93
  simp only [f8]
  clear f8 hF4 hB4 hk4
  go_wp2_with fail
  go_ret
  exact ⟨G, c8, rfl, HNE.out.2.1, HB4.out, HC8.out.1, HC8.out.2, HK4.out⟩

theorem rturn_any (bv kv sv : Value) (key block : List Int) (w : World) (hb : Sl .u8 w bv (boxL 256)) (hk : Sl .u8 w kv key) (hs : Sl .u8 w sv block) (hkl : key.length = 16) (hsl : block.length = 16) :
    Calls Try.prog 16 #[bv, kv, sv] w fun e w' => ∃ g c, e = .returned (.slice (some ⟨g, 0, none⟩) 16 c) ∧ Row w' g (Aes.turn key block) ∧ 16 ≤ c ∧ c ≤ 9223372036854775807 ∧ Keep [] w w' := by
  refine (rturn_new bv kv sv key block w hb hk hs hkl hsl).mono ?_
  rintro e w' ⟨g, c, h1, -, h2⟩
  exact ⟨g, c, h1, h2⟩
end Go.Proofs.Ytpjkicbfdknjcaa
