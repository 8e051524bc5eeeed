/-
  The document's answer to Sum: block after block.
-/
import Derived.Test.YtiiifcfgfmoiaaaRSha6
namespace Go.Proofs.Ytiiifcfgfmoiaaa
open Go.RowKit

theorem own_cells {w : World} {base n : Nat} {e : TypeId} {v : Value} {xs : List Value} (h : w.ownsRow base e 1 v n xs) (hn : 0 < n) :
    ∃ g cap rest, v = .slice (some ⟨g, 0, none⟩) n cap ∧ base ≤ g ∧ n ≤ cap ∧ cap ≤ 9223372036854775807 ∧ Blk w g e (xs ++ rest).toArray := by
  rcases h.2 with ⟨rfl, h0⟩ | ⟨g, cap, cur, rfl, hg, hh, h1, h2, hc, ht⟩
  · omega
  · refine ⟨g, cap, cur.toList.drop n, rfl, hg, h1, by simp only [maxLen] at h2; omega, ?_⟩
    have e2 : (xs ++ cur.toList.drop n).toArray = cur := by
      rw [← ht, Nat.mul_one, List.take_append_drop]
    rw [e2]
    exact hh

noncomputable def rb2 : Code := loopOf Try.f19 2

theorem blk32 {s t : Sha.St} : St32 (s.add t) := ⟨mod32 _, mod32 _, mod32 _, mod32 _, mod32 _, mod32 _, mod32 _, mod32 _⟩
theorem blks32 (xs : List Int) (n : Nat) : St32 (Sha.blks xs n) := by
  cases n with
  | zero => exact (show St32 Sha.start from ⟨by decide, by decide, by decide, by decide, by decide, by decide, by decide, by decide⟩)
  | succ n => exact blk32

set_option maxRecDepth 100000 in
set_option maxHeartbeats 8000000 in
theorem rl2 (R : Act → World → Prop) (a : Act) (w : World) (xA : Option Addr) (kv : Value) (xs : List Int) (H nx cx T : Nat) (hT : Hid (64 * T = nx)) (hnx : nx ≤ 2199023255552) (hxl : Hid (xs.length = nx))
    (hx : Hid (Sl .u8 w (.slice xA nx cx) xs)) (hxb : Hid (∀ g, (Value.slice xA nx cx).ownBlock = some g → g ≠ H))
    (hk : Hid (Sl .u32 w kv (Sha.K.map fun (n : Nat) => (n : Int)))) (hkb : Hid (∀ g, kv.ownBlock = some g → g ≠ H))
    (hB : Hid (Blk w H 55 (cellsN Sha.start.list).toArray))
    (hF : Fr 313 [(3, .slice (some ⟨H, 0, none⟩) 8 8), (5, .slice xA nx cx), (7, kv), (8, .int .i64 0)] a)
    (hQ : ∀ a' w', Fr 313 [(3, .slice (some ⟨H, 0, none⟩) 8 8)] a' →
      Blk w' H 55 (cellsN (Sha.blks xs T).list).toArray → Keep [H] w w' → R a' w') :
    Code.wp Try.prog (.loop rb2) (OutX 4 R) a w := by
  refine wp_loop_ghost_k (fun m a wr => ∃ t, m + t = T ∧ Fr 313 [(3, .slice (some ⟨H, 0, none⟩) 8 8), (5, .slice xA nx cx), (7, kv), (8, .int .i64 ((64 * t : Nat) : Int))] a ∧
    Blk wr H 55 (cellsN (Sha.blks xs t).list).toArray ∧ Keep [H] w wr) T ⟨0, Nat.add_zero T, hF, hB.out, Keep.refl _ _⟩ ?_
  intro m a wr ⟨t, hmt, hFr, hBr, hk1⟩ J K hJ hK
  have HB := Lib.hid hBr
  have HK := Lib.hid hk1
  have HJ := Lib.hid hJ
  have HMT := Lib.hid hmt
  obtain ⟨p, hp⟩ : ∃ p, p = 64 * t := ⟨_, rfl⟩
  rw [← hp] at hFr
  have HP := Lib.hid hp
  obtain ⟨f, ⟨f3, f5, f7, f8, -⟩, rfl⟩ := hFr.open313
  simp only [f3, f5, f7, f8]
  clear f3 f5 f7 f8 hF hFr hBr hk1 hJ hB
  conv => arg 2; whnf
  by_cases hlt : t < T
  · clear hQ
    have hpn : p + 64 ≤ nx := by have := hT.out; omega
    have hlp : (p : Int) < nx := by omega
    have hlt' := Lib.hid hlt
    clear hp hlt hmt
    go_upto_block 6 with (at_make; refine wl_make _ rfl _ _ 76 rfl 55 (.int .u32 0) 4 Try.underlying76 u32infB rfl _ _ _ _ 64 64 rfl rfl rfl rfl (Nat.le_refl _) (by omega) (by omega) ?_; intro w1 hB1 hK1 hz1)
    obtain ⟨gw, hgw⟩ : ∃ gw, gw = wr.heap.size := ⟨_, rfl⟩
    rw [← hgw] at hB1 ⊢
    have hHlt := HB.out.lt
    have HHG := Lib.hid (show H < gw by omega)
    have hxgw : ∀ g, (Value.slice xA nx cx).ownBlock = some g → g ≠ gw := fun g hg => by
      have h1 := hx.out.lt (by rw [hxl.out]; omega) g hg
      have h2 := HK.out.size
      omega
    have hkgw : ∀ g, kv.ownBlock = some g → g < gw := fun g hg => by
      have h1 := hk.out.lt (by rw [List.length_map, K_len]; decide) g hg
      have h2 := HK.out.size
      omega
    have HKG := Lib.hid hkgw
    have HKsz := Lib.hid (show w.heap.size ≤ gw by have := HK.out.size; omega)
    have HK1 := Lib.hid (HK.out.trans0 hK1)
    have HBH1 := Lib.hid (HB.out.keep hK1 (by simp))
    have HGW := Lib.hid hgw
    have HB1 := Lib.hid hB1
    clear hB1 hK1 hz1 hHlt hkgw hgw HK HB
    go_wp2_with fail
    refine OutX.use (rl3 (fun a' w' => Fr 313 [(3, .slice (some ⟨H, 0, none⟩) 8 8), (5, .slice xA nx cx), (7, kv), (8, .int .i64 p), (9, .slice (some ⟨gw, 0, none⟩) 64 64)] a' ∧
      Blk w' gw 55 (cellsN (pre xs p 64)).toArray ∧ Keep [gw] w1 w') _ w1 (.slice xA nx cx) _ kv xs gw p
      (hx.out.keep HK1.out (fun _ g hg => by simpa using hxb.out g hg)) hxgw (by rw [hxl.out]; exact hpn) HB1
      ⟨rfl, rfl, by repeat (first | exact trivial | refine ⟨rfl, ?_⟩)⟩ (fun a' w' h1 h2 h3 => ⟨h1, h2, h3⟩)) ?_
    intro a' w2 ⟨hF2, hB2, hk2⟩
    have HW2 := Lib.hid hB2
    have HK2 := Lib.hid hk2
    have HBH2 := Lib.hid (HBH1.out.keep hk2 (by have := HHG.out; simp; omega))
    obtain ⟨g, ⟨f3, f5, f7, f8, f9, -⟩, rfl⟩ := hF2.open313
    simp only [f3, f5, f7, f8, f9]
    clear f3 f5 f7 f8 f9 hF2 hB2 hk2 HBH1 HB1 hxgw
    have hrH : Rd (w2.alloc (.cells #[] 55)) (some ⟨H, 0, none⟩) (cellsN (Sha.blks xs t).list) := by
      have := Rd.of_blk (HBH2.out.alloc (.cells #[] 55))
      simpa using this
    go_upto_block 10 with (at_builtin; refine wl_append _ rfl _ _ _ rfl w2.heap.size 55 (.int .u32 0) 1 4 Try.underlying76 u32infB rfl (by decide) (.slice (some ⟨w2.heap.size, 0, none⟩) 0 0) 0 [] rfl (own_base (own_of_blk (Blk.new _ _ _) rfl (Nat.le_refl _) (by omega) rfl) (Nat.le_refl _)) (some ⟨H, 0, none⟩) 8 8 (cellsN (Sha.blks xs t).list) rfl rfl hrH (by intro u hu; simp only [cellsN, List.mem_map] at hu; obtain ⟨n, _, rfl⟩ := hu; rfl) (by simp only [maxLen]; omega) (by omega) (by simp) ?_; intro v3 w3 ho3 hk3 hat3)
    have hk3' : Keep [] w2 w3 := ((Keep.refl _ _).alloc _).trans' hk3 (by intro g hg; right; simp [Value.ownBlock] at hg; omega)
    obtain ⟨gv, cv, rest, rfl, hgv, hcv1, hcv2, hBv⟩ := own_cells ho3 (by omega)
    have hw2 : gw < w2.heap.size := HW2.out.lt
    have HGV := Lib.hid (show gw < gv by omega)
    have HK3 := Lib.hid hk3'
    have HBV := Lib.hid (show Blk w3 gv 55 (cellsN (Sha.blks xs t).list ++ rest).toArray by simpa using hBv)
    have HW3 := Lib.hid (HW2.out.keep hk3' (by simp))
    have HBH3 := Lib.hid (HBH2.out.keep hk3' (by simp))
    have HKV3 := Lib.hid ((((hk.out.keep HK1.out (fun _ g hg => by simpa using hkb.out g hg)).keep HK2.out (fun _ g hg => by have := HKG.out g hg; simp; omega))).keep0 hk3')
    have HKB3 := Lib.hid (show ∀ g, kv.ownBlock = some g → g ≠ gv from fun g hg => by have := HKG.out g hg; omega)
    clear hk3 hk3' ho3 hat3 hgv hBv hw2 hrH HW2 HBH2
    go_wp2_with fail
    refine OutX.use (rl5 (fun a' w' => Fr 313 [(3, .slice (some ⟨H, 0, none⟩) 8 8), (5, .slice xA nx cx), (7, kv), (8, .int .i64 p), (14, .slice (some ⟨gv, 0, none⟩) (0 + 8) cv)] a' ∧
      Blk w' gv 55 (cellsN (Sha.rnds (pre xs p 64) (Sha.blks xs t) 64).list ++ rest).toArray ∧ Keep [gv] w3 w') _ w3 _ _ kv _ (Sha.blks xs t) (pre xs p 64) rest gv gw cv ⟨by omega, hcv2⟩
      (blks32 xs t) (pre_length xs p 64) (by have := HGV.out; exact fun h => by omega) HKV3 HKB3 HBV HW3
      ⟨rfl, rfl, by repeat (first | exact trivial | refine ⟨rfl, ?_⟩)⟩ (fun a' w' h1 h2 h3 => ⟨h1, h2, h3⟩)) ?_
    intro a' w4 ⟨hF4, hB4, hk4⟩
    have HV4 := Lib.hid hB4
    have HK4 := Lib.hid hk4
    have HBH4 := Lib.hid (HBH3.out.keep hk4 (by have h1 := HHG.out; have h2 := HGV.out; simp; omega))
    obtain ⟨f', ⟨f3, f5, f7, f8, f14, -⟩, rfl⟩ := hF4.open313
    simp only [f3, f5, f7, f8, f14]
    clear f3 f5 f7 f8 f14 hF4 hB4 hk4 HBH3 HBV HW3 HKV3 HKB3
    go_upto_block 14 with fail
    go_wp2_with fail
    refine OutX.use (rl7 (fun a' w' => Fr 313 [(3, .slice (some ⟨H, 0, none⟩) 8 8), (5, .slice xA nx cx), (7, kv), (8, .int .i64 p)] a' ∧
      Blk w' H 55 (cellsN ((Sha.blks xs t).add (Sha.rnds (pre xs p 64) (Sha.blks xs t) 64)).list).toArray ∧ Keep [H] w4 w') _ w4 _ kv _ (Sha.blks xs t) (Sha.rnds (pre xs p 64) (Sha.blks xs t) 64) rest H gv cv ⟨by omega, hcv2⟩
      (by have h1 := HHG.out; have h2 := HGV.out; exact fun h => by omega) HBH4 HV4
      ⟨rfl, rfl, by repeat (first | exact trivial | refine ⟨rfl, ?_⟩)⟩ (fun a' w' h1 h2 h3 => ⟨h1, h2, h3⟩)) ?_
    intro a' w5 ⟨hF5, hB5, hk5⟩
    have hstep : (Sha.blks xs t).add (Sha.rnds (pre xs p 64) (Sha.blks xs t) 64) = Sha.blks xs (t + 1) := by
      rw [pre_64 xs p (by rw [hxl.out]; exact hpn), HP.out]
      rfl
    rw [hstep] at hB5
    have hkeep : Keep [H] w w5 := by
      refine (((HK1.out.trans' HK2.out ?_).trans0 HK3.out).trans' HK4.out ?_).trans hk5
      · intro g hg; right
        have h1 := HGW.out; have h2 := HK1.out.size; simp at hg; have h3 := HKsz.out; omega
      · intro g hg; right
        have h1 := HGV.out; simp at hg; have h3 := HKsz.out; omega
    have HB5 := Lib.hid hB5
    have HK5 := Lib.hid hkeep
    obtain ⟨f'', ⟨f3, f5, f7, f8, -⟩, rfl⟩ := hF5.open313
    simp only [f3, f5, f7, f8]
    clear f3 f5 f7 f8 hF5 hB5 hk5 hkeep hstep HBH4 HV4
    go_wp2_with fail
    exact Handed.intro (m - 1) (by have h1 := HMT.out; have h2 := hlt'.out; omega) (HJ.out _ _ _ ⟨t + 1, by have h1 := HMT.out; have h2 := hlt'.out; omega, ⟨rfl, rfl, by rw [show 64 * (t + 1) = p + 64 by have := HP.out; omega]; repeat (first | exact trivial | refine ⟨rfl, ?_⟩)⟩, HB5.out, HK5.out⟩)
  · have hQ' := hQ
    clear hQ
    have hpn : p = nx := by have h1 := hT.out; have h2 := HP.out; have h3 := HMT.out; omega
    obtain rfl : t = T := by have h3 := HMT.out; omega
    subst hpn
    clear hlt hmt hp
    go_wp2
    exact ⟨rfl, hQ' _ _ ⟨rfl, rfl, by repeat (first | exact trivial | refine ⟨rfl, ?_⟩)⟩ HB.out HK.out⟩
end Go.Proofs.Ytiiifcfgfmoiaaa
