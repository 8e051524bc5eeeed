/-
  The law's Awake of sha.
-/
import Derived.Test.YtadpfgflkbfjcaaShaTS
namespace Go.Proofs.Ytadpfgflkbfjcaa
open Go.RowKit

theorem sum_abc_all : Sha.sum [97, 98, 99] = [186, 120, 22, 191, 143, 1, 207, 234, 65, 65, 64, 222, 93, 174, 34, 35, 176, 3, 97, 163, 150, 23, 122, 156, 180, 16, 255, 97, 242, 0, 21, 173] := by decide +kernel
set_option maxRecDepth 100000 in
set_option maxHeartbeats 4000000 in
theorem awake3_any (hN : NewC) (hS : SumC) (w : World) :
    Calls Try.prog 7 #[] w fun e w' => e = .returned (.bool true) ∧ Keep [] w w' := by
  have N := Lib.hid (hN w)
  have kc := fun (w : World) (C : Array Value) (n c : Nat) => Lib.run_convert_bytes_const (P := Try.prog) w 22 5 C n c Try.underlying22 Try.underlying5
  go_enter Try.func7, Try.ntmps7
  go_wp2_with (go_at_call 8; with_reducible refine N.out.mono ?_; rintro e w1 ⟨g, rfl, hg, ht, hk⟩; have HG := Lib.hid hg; have HT := Lib.hid ht; have HK := Lib.hid hk; clear hg ht hk)
  obtain ⟨w2, hw2⟩ : ∃ w2, w2 = w1.alloc (.cells #[.int .u8 97, .int .u8 98, .int .u8 99] 5 (3, 4)) := ⟨_, rfl⟩
  have hz2 : w2.heap.size = w1.heap.size + 1 := by rw [hw2]; simp
  have hsl : Sl .u8 w2 (.slice (some ⟨w1.heap.size, 0, none⟩) 3 3) [97, 98, 99] := Sl.of_marked [97, 98, 99] (by rw [hw2]; exact heap_new _ _) (by decide) (by decide)
  have hk2 : Keep [] w1 w2 := by rw [hw2]; exact (Keep.refl _ _).alloc _
  obtain ⟨w3, hw3⟩ : ∃ w3, w3 = w2.alloc (.cells #[.slice (some ⟨w1.heap.size, 0, none⟩) 3 3] 22) := ⟨_, rfl⟩
  have hb3 : Blk w3 w2.heap.size 22 #[.slice (some ⟨w1.heap.size, 0, none⟩) 3 3] := by rw [hw3]; exact Blk.new _ _ _
  have hk3 : Keep [] w2 w3 := by rw [hw3]; exact (Keep.refl _ _).alloc _
  rw [← hw2, ← hz2, ← hw3]
  have hc := hS w3 g _ _ (HT.out.keep (hk2.trans hk3) (by simp)) (Pl.one hb3 (hsl.keep0 hk3)) (by decide) (by decide)
  rw [show ([[97, 98, 99]] : List (List Int)).flatten = [97, 98, 99] from rfl] at hc
  obtain ⟨D, hD⟩ : ∃ D, D = ((Sha.sum [97, 98, 99]).map (Value.int .u8)).toArray := ⟨_, rfl⟩
  have hDs : D.size = 32 := by rw [hD]; simp [sum_length]
  have hD1 : D.all (·.oneCell') = true := by rw [hD]; exact arr_cell _
  have d0 : D[0]? = some (.int .u8 186) := by rw [hD, sum_abc_all]; rfl
  have d1 : D[1]? = some (.int .u8 120) := by rw [hD, sum_abc_all]; rfl
  have d2 : D[2]? = some (.int .u8 22) := by rw [hD, sum_abc_all]; rfl
  have d3 : D[3]? = some (.int .u8 191) := by rw [hD, sum_abc_all]; rfl
  unfold arr at hc
  rw [← hD] at hc
  have HC := Lib.hid hc
  have HK3 := Lib.hid ((HK.out.trans hk2).trans hk3)
  clear hc hw2 hw3 hz2 hsl hk2 hk3 hb3 kc hD
  go_upto_region 2 with (first
    | (go_at_call 10; with_reducible refine HC.out.mono ?_; rintro e w4 ⟨rfl, ht4, hk4⟩; have HK4 := Lib.hid (HK3.out.trans' hk4 (by intro x hx; right; simp at hx; have := HG.out; omega)); clear ht4 hk4)
    | (refine wl_store_row rfl _ _ _ rfl w4.heap.size rfl D rfl 28 _ (Blk.new w4 _ _) (by rw [hDs]; kernel_rfl) (by rw [hDs]; rfl) hD1 ?_; intro w5 hB5 hk5 hz5))
  have c0 := (hB5.cell 0).trans d0
  have c1 := (hB5.cell 1).trans d1
  have c2 := (hB5.cell 2).trans d2
  have c3 := (hB5.cell 3).trans d3
  have HK5 := Lib.hid (HK4.out.trans' ((Keep.refl [] w4).alloc _) (by simp) |>.trans' hk5 (by intro x hx; right; simp at hx; have := HK4.out.size; omega))
  clear hB5 hk5 hz5 d0 d1 d2 d3
  generalize w4.heap.size = G at *
  go_wp2
  go_ret
  exact ⟨rfl, HK5.out⟩
end Go.Proofs.Ytadpfgflkbfjcaa
