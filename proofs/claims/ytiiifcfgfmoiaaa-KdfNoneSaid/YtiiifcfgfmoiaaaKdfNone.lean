/-
  The law KdfNone, over what kdf's functions keep.
-/
import Derived.Test.YtiiifcfgfmoiaaaKdfLaw
import Derived.Test.YtiiifcfgfmoiaaaEqArr
import Derived.Deep.RegionWith
import Derived.Deep.DeepCutAuto
import Derived.Deep.CutBlock
namespace Go.Proofs.Ytiiifcfgfmoiaaa
open Go.RowKit

theorem secEq (d : Nat) (l k : List Int) (hl : l.length = 32) (hk : k.length = 32) (hlw : ∀ x ∈ l, (Lit.int .u8 x).wf = true) (hkw : ∀ x ∈ k, (Lit.int .u8 x).wf = true) (W : World) :
    (Op.equalIn (d + 2) 23 (.agg (l.map (Value.int .u8)).toArray) (.agg (k.map (Value.int .u8)).toArray)).run Try.prog W = .ok (decide (l = k)) W :=
  run_eq_arr 2 Try.underlying23 Try.underlying5 (by kernel_rfl) (by kernel_rfl) (by kernel_rfl) d l k hl hk hlw hkw W
theorem secInfo : (Try.prog.info? 23).map (·.size) = some 32 := by kernel_rfl
theorem secBuilt : Try.prog.built 23 [] = some ((List.replicate 32 (0 : Int)).map (Value.int .u8)).toArray := by kernel_rfl

set_option maxRecDepth 100000 in
set_option maxHeartbeats 4000000 in
theorem kdfNone_any (hN : KNewC) (hX : ExtractC) (hK : KdfN) (sl : List Int) (bv : Value) (bl : List Int) (n : Int) (w : World) (hs : Secr sl) (hb : Sl .u8 w bv bl) (_hn : (Lit.int .i64 n).wf = true) :
    Calls Try.prog 6 #[arr sl, bv, .int .i64 n] w fun e w' => e = .returned (.bool true) ∧ Keep [] w w' := by
  have A := fun w => Lib.hid (awake4_any hN hX w)
  have HB := Lib.hid hb
  have HS := Lib.hid hs
  obtain ⟨D, hD⟩ : ∃ D, D = (sl.map (Value.int .u8)).toArray := ⟨_, rfl⟩
  have hDs : D.size = 32 := by rw [hD]; simp [hs.1]
  have hDa : arr sl = .agg D := by rw [hD]; rfl
  have NX := fun W av bv => Lib.hid (hK W sl ByteArray.empty av bv 0 hs).1
  have NE := fun W av many => Lib.hid (hK W sl ByteArray.empty av av many hs).2.1
  have NL := fun W lab av many => Lib.hid (hK W sl lab av av many hs).2.2.1
  have ND := fun W lab av => Lib.hid (hK W sl lab av av 0 hs).2.2.2.1
  have NT := fun W => Lib.hid (hK W sl ByteArray.empty bv bv 0 hs).2.2.2.2
  rw [hDa] at *
  obtain ⟨bA, bc, rfl, hbc1, hbc2, -, -⟩ := hb
  have HDS := Lib.hid hDs
  have HDD := Lib.hid hD
  clear hs hD hDs hDa hK
  go_enter Try.func6, Try.ntmps6
  go_upto_region 3 with (first
    | (refine wl_box rfl _ _ rfl D rfl ?_; intro w1 hB1 hk1 hz1; have HB1 := Lib.hid hB1; have HK1 := Lib.hid hk1; clear hB1 hk1 hz1)
    | (go_at_call 7; with_reducible refine (A w1).out.mono ?_; rintro e w2 ⟨rfl, hk2⟩; have HK2 := Lib.hid (HK1.out.trans hk2); have HB2 := Lib.hid (HB1.out.keep hk2 (by simp)); clear hk2))
  clear HK1 HB1
  by_cases hlt : 100 < bl.length
  · go_wp2_with fail
    go_ret
    exact ⟨rfl, HK2.out⟩
  · obtain ⟨gb, hgb⟩ : ∃ gb, gb = w.heap.size := ⟨_, rfl⟩
    have HB2' : Hid (Blk w2 gb 23 D) := Lib.hid (by rw [hgb]; exact HB2.out)
    rw [← hgb]
    clear HB2 hgb
    go_upto_region 8 with (first
      | (refine wl_load_row rfl _ _ rfl gb rfl 32 5 Try.underlying23 _ D HB2'.out (by rw [HDS.out]; exact secInfo) ?_)
      | (go_at_call 9; with_reducible refine (NE _ _ _).out.mono ?_; rintro e w3 ⟨v3, rfl, hk3⟩; have HK3 := Lib.hid (HK2.out.trans hk3); have HB3 := Lib.hid (HB2'.out.keep hk3 (by simp)); clear hk3)
      | (refine wl_load_row rfl _ _ rfl gb rfl 32 5 Try.underlying23 _ D HB3.out (by rw [HDS.out]; exact secInfo) ?_)
      | (go_at_call 11; with_reducible refine (NL _ _ _ _).out.mono ?_; rintro e w4 ⟨v4, rfl, hk4⟩; have HK4 := Lib.hid (HK3.out.trans hk4); have HB4 := Lib.hid (HB3.out.keep hk4 (by simp)); clear hk4))
    have zq : ∀ W, (Op.equalIn 10000 23 (.agg #[.int .u8 0, .int .u8 0, .int .u8 0, .int .u8 0, .int .u8 0, .int .u8 0, .int .u8 0, .int .u8 0, .int .u8 0, .int .u8 0, .int .u8 0, .int .u8 0, .int .u8 0, .int .u8 0, .int .u8 0, .int .u8 0, .int .u8 0, .int .u8 0, .int .u8 0, .int .u8 0, .int .u8 0, .int .u8 0, .int .u8 0, .int .u8 0, .int .u8 0, .int .u8 0, .int .u8 0, .int .u8 0, .int .u8 0, .int .u8 0, .int .u8 0, .int .u8 0]) (.agg #[.int .u8 0, .int .u8 0, .int .u8 0, .int .u8 0, .int .u8 0, .int .u8 0, .int .u8 0, .int .u8 0, .int .u8 0, .int .u8 0, .int .u8 0, .int .u8 0, .int .u8 0, .int .u8 0, .int .u8 0, .int .u8 0, .int .u8 0, .int .u8 0, .int .u8 0, .int .u8 0, .int .u8 0, .int .u8 0, .int .u8 0, .int .u8 0, .int .u8 0, .int .u8 0, .int .u8 0, .int .u8 0, .int .u8 0, .int .u8 0, .int .u8 0, .int .u8 0])).run Try.prog W = .ok true W := fun W => by
      have := secEq 9998 (List.replicate 32 0) (List.replicate 32 0) (by simp) (by simp) (by simp [Lit.wf, IntKind.min, IntKind.max, IntKind.signed, IntKind.bits]) (by simp [Lit.wf, IntKind.min, IntKind.max, IntKind.signed, IntKind.bits]) W
      simpa using this
    obtain ⟨E, hE⟩ : ∃ E, E = ((Sha.mark bl bl).map (Value.int .u8)).toArray := ⟨_, rfl⟩
    have eq : ∀ W, (Op.equalIn 10000 23 (.agg E) (.agg E)).run Try.prog W = .ok true W := fun W => by
      have := secEq 9998 (Sha.mark bl bl) (Sha.mark bl bl) (mark_length _ _) (mark_length _ _) (mark_wf _ _) (mark_wf _ _) W
      rw [← hE] at this
      simpa using this
    have N := fun W => Lib.hid (hN W)
    have X := fun W k t h (h2 : Sl .u8 W (.slice bA bl.length bc) bl) => Lib.hid (hX W k t (.slice bA bl.length bc) (.slice bA bl.length bc) bl bl h h2 h2 (by omega) (by omega))
    have XA : ∀ l : List Int, arr l = .agg ((l.map (Value.int .u8)).toArray) := fun l => rfl
    rw [XA, ← hE] at X
    clear hE
    go_wp2_with (first
      | (go_at_call 13; with_reducible refine (NX _ _ _).out.mono ?_; rintro e w5 ⟨rfl, hk5⟩; have HK5 := Lib.hid (HK4.out.trans hk5); have HB5 := Lib.hid (HB4.out.keep hk5 (by simp)); clear hk5; simp only [arr, List.map_replicate])
      | (with_reducible refine wl_load_rowG rfl 23 (.tmp 3) rfl gb rfl 32 5 Try.underlying23 23 D HB5.out (by rw [HDS.out]; exact secInfo) ?_)
      | (go_at_call 14; with_reducible refine (ND _ _ _).out.mono ?_; rintro e w6 ⟨rfl, hk6⟩; have HK6 := Lib.hid (HK5.out.trans hk6); clear hk6; simp only [arr, List.map_replicate])
      | (go_at_call 15; with_reducible refine (NT _).out.mono ?_; rintro e w7 ⟨rfl, rfl⟩)
      | (go_at_call 8; with_reducible refine (N w6).out.mono ?_; rintro e w8 ⟨k1, t1, rfl, hk1, ht1, hs1, hkk⟩; have HK8 := Lib.hid (HK6.out.trans hkk); have HN1 := Lib.hid (And.intro hk1 ht1); have HS1 := Lib.hid hs1; clear hk1 ht1 hs1 hkk)
      | (go_at_call 13; with_reducible refine (X w8 k1 t1 HS1.out (HB.out.keep0 HK8.out)).out.mono ?_; rintro e w9 ⟨rfl, hs9, hk9⟩; have HK9 := Lib.hid (HK8.out.trans' hk9 (fun x hx => by right; have h1 := HN1.out; have h2 := HK6.out.size; simp at hx; omega)); clear hs9 hk9)
      | (go_at_call 8; with_reducible refine (N w9).out.mono ?_; rintro e w10 ⟨k2, t2, rfl, hk2', ht2, hs2, hkk⟩; have HKA := Lib.hid (HK9.out.trans hkk); have HN2 := Lib.hid (And.intro hk2' ht2); have HS2 := Lib.hid hs2; clear hk2' ht2 hs2 hkk)
      | (go_at_call 13; with_reducible refine (X w10 k2 t2 HS2.out (HB.out.keep0 HKA.out)).out.mono ?_; rintro e w11 ⟨rfl, hs11, hk11⟩; have HKB := Lib.hid (HKA.out.trans' hk11 (fun x hx => by right; have h1 := HN2.out; have h2 := HK9.out.size; simp at hx; omega)); clear hs11 hk11))
    go_ret
    exact ⟨rfl, HKB.out⟩
end Go.Proofs.Ytiiifcfgfmoiaaa
