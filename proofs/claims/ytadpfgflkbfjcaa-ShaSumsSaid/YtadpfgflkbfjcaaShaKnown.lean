/-
  The law ShaKnown, over what New, Sum and Mark keep.
-/
import Derived.Test.YtadpfgflkbfjcaaShaLaw
import Derived.Deep.RegionWith
import Derived.Deep.DeepCutAuto
import Derived.Deep.CutBlock
import Derived.DeepKeys
namespace Go.Proofs.Ytadpfgflkbfjcaa
open Go.RowKit

theorem Pl.nil (w : World) : Pl w (.slice none 0 0) [] := ⟨[], none, 0, rfl, rfl, Nat.le_refl 0, by decide, Rd.nil _ _, fun j hj => absurd hj (by simp)⟩
theorem Pl.two {w : World} {g t : Nat} {u v : Value} {k l : List Int} (hb : Blk w g t #[u, v]) (hk : Sl .u8 w u k) (hs : Sl .u8 w v l) : Pl w (.slice (some ⟨g, 0, none⟩) 2 2) [k, l] := by
  refine ⟨[u, v], _, 2, rfl, rfl, Nat.le_refl 2, by decide, by simpa using Rd.of_blk hb, fun j hj => ?_⟩
  have : j = 0 ∨ j = 1 := by simp at hj; omega
  rcases this with rfl | rfl
  · exact hk
  · exact hs

theorem zero_eq (W : World) : (Op.equalIn 10000 28 (.agg #[.int .u8 0, .int .u8 0, .int .u8 0, .int .u8 0, .int .u8 0, .int .u8 0, .int .u8 0, .int .u8 0, .int .u8 0, .int .u8 0, .int .u8 0, .int .u8 0, .int .u8 0, .int .u8 0, .int .u8 0, .int .u8 0, .int .u8 0, .int .u8 0, .int .u8 0, .int .u8 0, .int .u8 0, .int .u8 0, .int .u8 0, .int .u8 0, .int .u8 0, .int .u8 0, .int .u8 0, .int .u8 0, .int .u8 0, .int .u8 0, .int .u8 0, .int .u8 0]) (.agg #[.int .u8 0, .int .u8 0, .int .u8 0, .int .u8 0, .int .u8 0, .int .u8 0, .int .u8 0, .int .u8 0, .int .u8 0, .int .u8 0, .int .u8 0, .int .u8 0, .int .u8 0, .int .u8 0, .int .u8 0, .int .u8 0, .int .u8 0, .int .u8 0, .int .u8 0, .int .u8 0, .int .u8 0, .int .u8 0, .int .u8 0, .int .u8 0, .int .u8 0, .int .u8 0, .int .u8 0, .int .u8 0, .int .u8 0, .int .u8 0, .int .u8 0, .int .u8 0])).run Try.prog W = .ok true W := by
  obtain ⟨r, hr, hi⟩ := run_equalIn_deep (P := Try.prog) 9990 10 28 (by kernel_rfl) W 10 10 (.agg #[.int .u8 0, .int .u8 0, .int .u8 0, .int .u8 0, .int .u8 0, .int .u8 0, .int .u8 0, .int .u8 0, .int .u8 0, .int .u8 0, .int .u8 0, .int .u8 0, .int .u8 0, .int .u8 0, .int .u8 0, .int .u8 0, .int .u8 0, .int .u8 0, .int .u8 0, .int .u8 0, .int .u8 0, .int .u8 0, .int .u8 0, .int .u8 0, .int .u8 0, .int .u8 0, .int .u8 0, .int .u8 0, .int .u8 0, .int .u8 0, .int .u8 0, .int .u8 0]) (.agg #[.int .u8 0, .int .u8 0, .int .u8 0, .int .u8 0, .int .u8 0, .int .u8 0, .int .u8 0, .int .u8 0, .int .u8 0, .int .u8 0, .int .u8 0, .int .u8 0, .int .u8 0, .int .u8 0, .int .u8 0, .int .u8 0, .int .u8 0, .int .u8 0, .int .u8 0, .int .u8 0, .int .u8 0, .int .u8 0, .int .u8 0, .int .u8 0, .int .u8 0, .int .u8 0, .int .u8 0, .int .u8 0, .int .u8 0, .int .u8 0, .int .u8 0, .int .u8 0]) (List.replicate 32 (.int .u8 0)) (List.replicate 32 (.int .u8 0)) (by kernel_rfl) (by kernel_rfl) (by kernel_rfl) (by kernel_rfl)
  rw [hi.2 rfl] at hr
  exact hr
theorem arr_at (l : List Int) (i : Nat) (h : i < l.length) : ((l.map (Value.int .u8)).toArray)[i]? = some (.int .u8 (l.getD i 0)) := by simp [h]

set_option maxRecDepth 100000 in
set_option maxHeartbeats 4000000 in
theorem shaKnown_any (hN : NewC) (hS : SumC) (hM : MarkC) (hSN : SumN) (hMN : MarkN) (n : Int) (w : World) (_hn : (Lit.int .u8 n).wf = true) :
    Calls Try.prog 5 #[.int .u8 n] w fun e w' => e = .returned (.bool true) ∧ Keep [] w w' := by
  have A := Lib.hid (awake3_any hN hS w)
  have N := fun w => Lib.hid (hN w)
  go_enter Try.func5, Try.ntmps5
  go_upto_region 4 with (first
    | (go_at_call 7; with_reducible refine A.out.mono ?_; rintro e w1 ⟨rfl, hk1⟩; have HK1 := Lib.hid hk1; clear hk1)
    | (go_at_call 8; with_reducible refine (N w1).out.mono ?_; rintro e w2 ⟨g, rfl, hg, ht, hk⟩; have HG := Lib.hid hg; have HT := Lib.hid ht; have HK2 := Lib.hid (HK1.out.trans hk); clear hg ht hk))
  have hc := hS w2 g _ _ HT.out (Pl.nil w2) (by decide) (by decide)
  rw [show ([] : List (List Int)).flatten = [] from rfl] at hc
  obtain ⟨D, hD⟩ : ∃ D, D = ((Sha.sum []).map (Value.int .u8)).toArray := ⟨_, rfl⟩
  have hDs : D.size = 32 := by rw [hD]; simp [sum_length]
  have hD1 : D.all (·.oneCell') = true := by rw [hD]; exact arr_cell _
  have hd0 : D[0]? = some (.int .u8 227) := by
    rw [hD, arr_at _ 0 (by rw [sum_length]; decide), Sha.sum_none.1]
  have hd31 : D[31]? = some (.int .u8 85) := by
    rw [hD, arr_at _ 31 (by rw [sum_length]; decide), Sha.sum_none.2]
  unfold arr at hc
  rw [← hD] at hc
  have HC := Lib.hid hc
  clear hc hD
  go_upto_region 5 with (first
    | (go_at_call 10; with_reducible refine HC.out.mono ?_; rintro e w4 ⟨rfl, ht4, hk4⟩; have HT4 := Lib.hid ht4; have HK4 := Lib.hid (HK2.out.trans' hk4 (by intro x hx; right; simp at hx; have h1 := HG.out; have h2 := HK1.out.size; omega)); clear ht4 hk4)
    | (refine wl_store_row rfl _ _ _ rfl w4.heap.size rfl D rfl 28 _ (Blk.new w4 _ _) (by rw [hDs]; kernel_rfl) (by rw [hDs]; rfl) hD1 ?_; intro w5 hB5 hk5 hz5))
  have HK5 := Lib.hid ((HK4.out.trans ((Keep.refl [] w4).alloc _)).trans' hk5 (by intro x hx; right; simp at hx; have := HK4.out.size; omega))
  have HB5 := Lib.hid hB5
  have HT5 := Lib.hid ((HT4.out.keep ((Keep.refl [] w4).alloc _) (by simp)).keep hk5 (by have := HT4.out.lt; simp; omega))
  have HZ5 := Lib.hid (show w5.heap.size = w4.heap.size + 1 by rw [hz5]; simp)
  obtain ⟨G4, hG4⟩ : ∃ G4, G4 = w4.heap.size := ⟨_, rfl⟩
  have HG4g := Lib.hid (show G4 ≠ g by have := HT4.out.lt; omega)
  rw [← hG4] at HB5 HZ5 ⊢
  clear hB5 hk5 hz5 HT4 HK4 hG4 HC
  obtain ⟨a1, h1⟩ : ∃ a1, a1 = w5.alloc (.cells #[.int .u8 74, .int .u8 101, .int .u8 102, .int .u8 101] 5 (4, 5)) := ⟨_, rfl⟩
  obtain ⟨a2, h2⟩ : ∃ a2, a2 = a1.alloc (.cells #[.int .u8 119, .int .u8 104, .int .u8 97, .int .u8 116, .int .u8 32, .int .u8 100, .int .u8 111, .int .u8 32, .int .u8 121, .int .u8 97, .int .u8 32, .int .u8 119, .int .u8 97, .int .u8 110, .int .u8 116, .int .u8 32] 5 (16, 17)) := ⟨_, rfl⟩
  obtain ⟨a3, h3⟩ : ∃ a3, a3 = a2.alloc (.cells #[.int .u8 102, .int .u8 111, .int .u8 114, .int .u8 32, .int .u8 110, .int .u8 111, .int .u8 116, .int .u8 104, .int .u8 105, .int .u8 110, .int .u8 103, .int .u8 63] 5 (12, 13)) := ⟨_, rfl⟩
  obtain ⟨a4, h4⟩ : ∃ a4, a4 = a3.alloc (.cells #[.slice (some ⟨a1.heap.size, 0, Option.none⟩) 16 16, .slice (some ⟨a2.heap.size, 0, Option.none⟩) 12 12] 22) := ⟨_, rfl⟩
  have z1 : a1.heap.size = w5.heap.size + 1 := by rw [h1]; simp
  have z2 : a2.heap.size = a1.heap.size + 1 := by rw [h2]; simp
  have z3 : a3.heap.size = a2.heap.size + 1 := by rw [h3]; simp
  have k1 : Keep [] w5 a1 := by rw [h1]; exact (Keep.refl _ _).alloc _
  have k2 : Keep [] a1 a2 := by rw [h2]; exact (Keep.refl _ _).alloc _
  have k3 : Keep [] a2 a3 := by rw [h3]; exact (Keep.refl _ _).alloc _
  have k4 : Keep [] a3 a4 := by rw [h4]; exact (Keep.refl _ _).alloc _
  have s1 : Sl .u8 a1 (.slice (some ⟨w5.heap.size, 0, Option.none⟩) 4 4) [74, 101, 102, 101] := Sl.of_marked [74, 101, 102, 101] (by rw [h1]; exact heap_new _ _) (by decide) (by decide)
  have s2 : Sl .u8 a2 (.slice (some ⟨a1.heap.size, 0, Option.none⟩) 16 16) [119, 104, 97, 116, 32, 100, 111, 32, 121, 97, 32, 119, 97, 110, 116, 32] := Sl.of_marked [119, 104, 97, 116, 32, 100, 111, 32, 121, 97, 32, 119, 97, 110, 116, 32] (by rw [h2]; exact heap_new _ _) (by decide) (by decide)
  have s3 : Sl .u8 a3 (.slice (some ⟨a2.heap.size, 0, Option.none⟩) 12 12) [102, 111, 114, 32, 110, 111, 116, 104, 105, 110, 103, 63] := Sl.of_marked [102, 111, 114, 32, 110, 111, 116, 104, 105, 110, 103, 63] (by rw [h3]; exact heap_new _ _) (by decide) (by decide)
  have b4 : Blk a4 a3.heap.size 22 #[.slice (some ⟨a1.heap.size, 0, Option.none⟩) 16 16, .slice (some ⟨a2.heap.size, 0, Option.none⟩) 12 12] := by rw [h4]; exact Blk.new _ _ _
  have k14 := (k2.trans k3).trans k4
  have hc := hM a4 g _ _ _ _ (HT5.out.keep (k1.trans k14) (by simp)) (s1.keep0 k14) (Pl.two b4 ((s2.keep0 k3).keep0 k4) (s3.keep0 k4)) (by decide) (by decide) (by decide)
  rw [show ([[119, 104, 97, 116, 32, 100, 111, 32, 121, 97, 32, 119, 97, 110, 116, 32], [102, 111, 114, 32, 110, 111, 116, 104, 105, 110, 103, 63]] : List (List Int)).flatten = [119, 104, 97, 116, 32, 100, 111, 32, 121, 97, 32, 119, 97, 110, 116, 32, 102, 111, 114, 32, 110, 111, 116, 104, 105, 110, 103, 63] from rfl] at hc
  obtain ⟨E, hE⟩ : ∃ E, E = ((Sha.mark [74, 101, 102, 101] [119, 104, 97, 116, 32, 100, 111, 32, 121, 97, 32, 119, 97, 110, 116, 32, 102, 111, 114, 32, 110, 111, 116, 104, 105, 110, 103, 63]).map (Value.int .u8)).toArray := ⟨_, rfl⟩
  have hEs : E.size = 32 := by rw [hE]; simp [Sha.mark, sum_length]
  have hE1 : E.all (·.oneCell') = true := by rw [hE]; exact arr_cell _
  have he0 : E[0]? = some (.int .u8 91) := by
    rw [hE, arr_at _ 0 (by simp [Sha.mark, sum_length]), Sha.mark_jefe.1]
  have he31 : E[31]? = some (.int .u8 67) := by
    rw [hE, arr_at _ 31 (by simp [Sha.mark, sum_length]), Sha.mark_jefe.2]
  unfold arr at hc
  rw [← hE] at hc
  have HC := Lib.hid hc
  have HKA := Lib.hid (HK5.out.trans (k1.trans k14))
  have HBA := Lib.hid ((HB5.out.keep k1 (by simp)).keep k14 (by simp))
  have HZA := Lib.hid (show G4 < a4.heap.size by have h1 := k1.size; have h2 := k14.size; have h3 := HZ5.out; omega)
  have F1 := Lib.hid h1
  have F2 := Lib.hid h2
  have F3 := Lib.hid h3
  have F4 := Lib.hid h4
  have Z1 := Lib.hid z1
  have Z2 := Lib.hid z2
  have Z3 := Lib.hid z3
  clear hc hE h1 h2 h3 h4 z1 z2 z3 k1 k2 k3 k4 s1 s2 s3 b4 k14 HB5 HK5 HT5
  go_upto_region 6 with (first
    | (refine wl_mark rfl 22 _ rfl 5 Try.underlying22 Try.underlying5 _ _ rfl _ _ _ rfl (by simp) ?_))
  rw [← F1.out, ← Z1.out, ← F2.out, ← Z2.out, ← F3.out, ← Z3.out, ← F4.out]
  go_upto_region 7 with (first
    | (go_at_call 11; with_reducible refine HC.out.mono ?_; rintro e w6 ⟨rfl, ht6, hk6⟩; have HK6 := Lib.hid hk6; clear ht6 hk6)
    | (refine wl_store_row rfl _ _ _ rfl w6.heap.size rfl E rfl 28 _ (Blk.new w6 _ _) (by rw [hEs]; kernel_rfl) (by rw [hEs]; rfl) hE1 ?_; intro w7 hB7 hk7 hz7))
  have hka : Keep [] w a4 := HKA.out
  have hg6 : w.heap.size ≤ g := by have h1 := HG.out; have h2 := HK1.out.size; omega
  have HK7 := Lib.hid (((HKA.out.trans' HK6.out (by intro x hx; right; simp at hx; omega)).trans ((Keep.refl [] w6).alloc _)).trans' hk7 (by intro x hx; right; simp at hx; have h1 := HKA.out.size; have h2 := HK6.out.size; omega))
  have hb7 : Blk w7 G4 28 D := ((HBA.out.keep HK6.out (by have := HG4g.out; simp; omega)).keep ((Keep.refl [] w6).alloc _) (by simp)).keep hk7 (by have h1 := HZA.out; have h2 := HK6.out.size; simp; omega)
  have c0 := (hb7.cell 0).trans hd0
  have c31 := (hb7.cell 31).trans hd31
  have e0 := (hB7.cell 0).trans he0
  have e31 := (hB7.cell 31).trans he31
  clear hka hb7 hB7 hk7 hz7 hd0 hd31 he0 he31 hg6
  obtain ⟨G6, hG6⟩ : ∃ G6, G6 = w6.heap.size := ⟨_, rfl⟩
  rw [← hG6] at e0 e31 ⊢
  clear hG6 HK6 HBA HZA HKA
  have zq := zero_eq
  have SN := fun W pv => Lib.hid (hSN W pv)
  have MN := fun W kv pv => Lib.hid (hMN W kv pv)
  go_wp2_with (first
    | (go_at_call 10; with_reducible refine (SN _ _).out.mono ?_; rintro e w8 ⟨rfl, hk8⟩; have HK8 := Lib.hid hk8; clear hk8; simp only [arr, List.map_replicate])
    | (go_at_call 11; with_reducible refine (MN _ _ _).out.mono ?_; rintro e w9 ⟨rfl, hk9⟩; have HK9 := Lib.hid hk9; clear hk9; simp only [arr, List.map_replicate]))
  go_ret
  exact ⟨rfl, (((((HK7.out.alloc _).alloc _)).trans HK8.out).alloc _ |>.alloc _).trans HK9.out⟩

end Go.Proofs.Ytadpfgflkbfjcaa
