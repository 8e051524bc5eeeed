/-
  Gcm's laws over what aes' and gcm's functions keep: Awake.
-/
import Derived.Test.YtlkjngbelckgkaaGcmLaw
import Derived.Test.YtlkjngbelckgkaaRSeal
namespace Go.Proofs.Ytlkjngbelckgkaa
open Go.RowKit

theorem nonceB : ∃ Z : Array Value, Z = (List.replicate 12 (Value.int .u8 0)).toArray ∧ Try.prog.built 25 [] = some Z := ⟨_, rfl, by kernel_rfl⟩
theorem blkB : ∃ Z : Array Value, Z = (List.replicate 16 (Value.int .u8 0)).toArray ∧ Try.prog.built 23 [] = some Z := ⟨_, rfl, by kernel_rfl⟩
theorem nonceCells : (Try.prog.info? 25).map (·.size) = some 12 := by kernel_rfl
theorem N12.z : N12 (List.replicate 12 0) := ⟨by simp, by decide⟩
theorem B16.z : B16 (List.replicate 16 0) := ⟨by simp, by decide⟩

set_option maxRecDepth 100000 in
set_option maxHeartbeats 4000000 in
theorem awake6_any {GS : World → List Nat → Nat → List Int → Nat → Prop} (hC : GcmC GS) (hN : ANewC) (w : World) :
    Calls Try.prog 5 #[] w fun e w' => e = .returned (.bool true) ∧ Keep [] w w' := by
  obtain ⟨Z, hZ, hZb⟩ := blkB
  obtain ⟨Y, hY, hYb⟩ := nonceB
  have HZB := Lib.hid hZb
  have HYB := Lib.hid hYb
  have GN : ∀ w g, AF w g 0 → Hid (Calls Try.prog 6 #[.pointer (some ⟨g, 0, none⟩), .agg Z] w fun e w' => ∃ s S n', e = .returned (.pointer (some ⟨s, 0, none⟩)) ∧ GS w' S s (List.replicate 16 0) n' ∧ n' ≤ 0 + 10 ∧ (∀ x ∈ S, x = g ∨ w.heap.size ≤ x) ∧ Keep [g] w w') := fun w g h => by
    have := hC.newG w g 0 _ h (by decide) B16.z
    rw [arr_agg, show ((List.replicate 16 (0 : Int)).map (Value.int .u8)).toArray = Z by rw [hZ]; simp] at this
    exact Lib.hid this
  have SL : ∀ w S s n, GS w S s (List.replicate 16 0) n → n ≤ 500000 → Hid (Calls Try.prog 8 #[.pointer (some ⟨s, 0, none⟩), .agg Y, .slice none 0 0, .slice none 0 0] w fun e w' => ∃ v n', e = .returned v ∧ Sl .u8 w' v (Gcm.sealed (List.replicate 16 0) (List.replicate 12 0) [] []) ∧ (∀ b, v.ownBlock = some b → w.heap.size ≤ b ∧ b ∉ S) ∧ n' ≤ n + 10000 ∧ GS w' S s (List.replicate 16 0) n' ∧ Keep S w w') := fun w S s n h hn => by
    have := hC.sealG w S s n _ _ [] [] _ _ h hn B16.z N12.z (Sl.nil .u8 w) (Sl.nil .u8 w) (by decide) (by decide)
    rw [arr_agg, show ((List.replicate 12 (0 : Int)).map (Value.int .u8)).toArray = Y by rw [hY]; simp] at this
    exact Lib.hid this
  have N := fun w => Lib.hid (hN w)
  clear hC hN hZ hZb hY hYb
  go_enter Try.func5, Try.ntmps5
  go_upto_region 2 with (first
    | (go_at_call 7; with_reducible refine (N _).out.mono ?_; rintro e w1 ⟨g, rfl, hg, hat, hk1⟩; have HAT := Lib.hid hat; have HG := Lib.hid hg; have HK1 := Lib.hid hk1; clear hat hg hk1)
    | (refine wl_build rfl _ _ rfl Z [] (by simp) HZB.out ?_)
    | (refine wl_build rfl _ _ rfl Y [] (by simp) HYB.out ?_)
    | (go_at_call 6; with_reducible refine (GN _ _ HAT.out).out.mono ?_; rintro e w2 ⟨s, S, n2, rfl, hgs, hn2, hS, hk2⟩; have HGS := Lib.hid hgs; have HS := Lib.hid hS; have HK2 := Lib.hid hk2; clear hgs hS hk2)
    | (go_at_call 8; with_reducible refine (SL _ _ _ _ HGS.out (by omega)).out.mono ?_; rintro e w3 ⟨v, n3, rfl, hsl, hown, hn3, hgs3, hk3⟩; have HSL := Lib.hid hsl; have HK3 := Lib.hid hk3; clear hsl hown hgs3 hk3))
  obtain ⟨e1, e2, e3, e4⟩ := Gcm.sealed6
  obtain ⟨b, off, c, rfl, hc1, hc2, hcell⟩ := HSL.out.cells (by rw [e1]; decide)
  have c0 := hcell 0 (by rw [e1]; decide)
  have c1 := hcell 1 (by rw [e1]; decide)
  have c2 := hcell 15 (by rw [e1]; decide)
  rw [e2] at c0
  rw [e3] at c1
  rw [e4] at c2
  rw [e1] at hc1 ⊢
  simp only [Option.getD_some] at c0 c1 c2
  have HKW := Lib.hid (show Keep [] w w3 from ((HK1.out.trans' HK2.out (fun q hq => by right; have := HG.out; simp at hq; omega)).trans' HK3.out (fun q hq => by
    right
    have h1 := HS.out q hq
    have h2 := HG.out
    have h3 := HK1.out.size
    omega)))
  rw [Nat.add_zero] at c0
  clear hcell e1 e2 e3 e4 HSL HAT HG HK1 HK2 HK3 HGS HS
  go_wp2_with fail
  go_ret
  exact ⟨rfl, HKW.out⟩
end Go.Proofs.Ytlkjngbelckgkaa
