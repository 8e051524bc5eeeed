/-
  The document's answer to Sum: a block's end, the blocks, and the bytes of the sum.
-/
import Derived.Test.YtiiifcfgfmoiaaaRSha5
namespace Go.Proofs.Ytiiifcfgfmoiaaa
open Go.RowKit

/-- The words, the first i of them added. -/
def adu (s t : Sha.St) (i : Nat) : List Nat := (s.add t).list.take i ++ s.list.drop i
theorem adu_set (s t : Sha.St) (i : Nat) (h : i < 8) : (adu s t i).set i ((s.list.getD i 0 + t.list.getD i 0) % 4294967296) = adu s t (i + 1) := by
  rcases (show i = 0 ∨ i = 1 ∨ i = 2 ∨ i = 3 ∨ i = 4 ∨ i = 5 ∨ i = 6 ∨ i = 7 by omega) with rfl | rfl | rfl | rfl | rfl | rfl | rfl | rfl <;> rfl
theorem adu_get (s t : Sha.St) (i : Nat) (h : i < 8) : (adu s t i).getD i 0 = s.list.getD i 0 := by
  rcases (show i = 0 ∨ i = 1 ∨ i = 2 ∨ i = 3 ∨ i = 4 ∨ i = 5 ∨ i = 6 ∨ i = 7 by omega) with rfl | rfl | rfl | rfl | rfl | rfl | rfl | rfl <;> rfl
theorem adu_length (s t : Sha.St) (i : Nat) (h : i ≤ 8) : (adu s t i).length = 8 := by
  rcases (show i = 0 ∨ i = 1 ∨ i = 2 ∨ i = 3 ∨ i = 4 ∨ i = 5 ∨ i = 6 ∨ i = 7 ∨ i = 8 by omega) with rfl | rfl | rfl | rfl | rfl | rfl | rfl | rfl | rfl <;> rfl
theorem St.list_length (s : Sha.St) : s.list.length = 8 := rfl
noncomputable def rb7 : Code := loopOf Try.f19 7

set_option maxRecDepth 100000 in
set_option maxHeartbeats 8000000 in
theorem rl7 (R : Act → World → Prop) (a : Act) (w : World) (xv kv pv : Value) (s t : Sha.St) (rest : List Value) (H gv cv : Nat) (hcv : Hid (8 ≤ cv ∧ cv ≤ 9223372036854775807)) (hne : Hid (gv ≠ H))
    (hB : Hid (Blk w H 55 (cellsN s.list).toArray)) (hV : Hid (Blk w gv 55 (cellsN t.list ++ rest).toArray))
    (hF : Fr 313 [(3, .slice (some ⟨H, 0, none⟩) 8 8), (5, xv), (7, kv), (8, pv), (14, .slice (some ⟨gv, 0, none⟩) 8 cv), (22, .int .i64 0)] a)
    (hQ : ∀ a' w', Fr 313 [(3, .slice (some ⟨H, 0, none⟩) 8 8), (5, xv), (7, kv), (8, pv)] a' →
      Blk w' H 55 (cellsN (s.add t).list).toArray → Keep [H] w w' → R a' w') :
    Code.wp Try.prog (.loop rb7) (OutX 14 R) a w := by
  refine wp_loop_ghost_k (fun m a wr => ∃ i, m + i = 8 ∧ Fr 313 [(3, .slice (some ⟨H, 0, none⟩) 8 8), (5, xv), (7, kv), (8, pv), (14, .slice (some ⟨gv, 0, none⟩) 8 cv), (22, .int .i64 i)] a ∧
    Blk wr H 55 (cellsN (adu s t i)).toArray ∧ Keep [H] w wr) 8 ⟨0, rfl, hF, hB.out, Keep.refl _ _⟩ ?_
  intro m a wr ⟨i, hmi, hFr, hBr, hk1⟩ J K hJ hK
  have HB := Lib.hid hBr
  have HK := Lib.hid hk1
  have HJ := Lib.hid hJ
  have HMI := Lib.hid hmi
  have hi8 : i ≤ 8 := by omega
  obtain ⟨f, ⟨f3, f5, f7, f8, f14, f22, -⟩, rfl⟩ := hFr.open313
  simp only [f3, f5, f7, f8, f14, f22]
  clear f3 f5 f7 f8 f14 f22 hF hFr hBr hk1 hJ hB hmi
  conv => arg 2; whnf
  by_cases hlt : i < 8
  · clear hQ
    have c1 : wr.cell? ⟨H, i, none⟩ = some (.int .u32 ((s.list.getD i 0 : Nat) : Int)) := by
      rw [HB.out.cell, ← adu_get s t i hlt]
      simpa using cellsN_get (adu s t i) i (by rw [adu_length s t i hi8]; exact hlt)
    have c2 : wr.cell? ⟨gv, i, none⟩ = some (.int .u32 ((t.list.getD i 0 : Nat) : Int)) := by
      rw [(hV.out.keep HK.out (by simpa using hne.out)).cell]
      simpa using row_get t.list rest i (by rw [St.list_length]; exact hlt)
    have fr1 := HB.out.frozen i
    have HS := Lib.hid (adu_set s t i hlt)
    have HRS := Lib.hid (row_set (adu s t i) [] i ((s.list.getD i 0 + t.list.getD i 0) % 4294967296) (by rw [adu_length s t i hi8]; exact hlt))
    generalize s.list.getD i 0 = x at *
    generalize t.list.getD i 0 = y at *
    obtain ⟨cv1, cv2⟩ := hcv.out
    have bi : (0 : Int) ≤ i ∧ (i : Int) < 8 := ⟨by omega, by omega⟩
    have e1 : IntKind.u32.wrap ((x : Int) + y) = (((x + y) % 4294967296 : Nat) : Int) := wrap2 x y
    go_wp2_with fail
    go_region_with (fail)
    all_goals
      have e2 : ((x : Int) + y) % 4294967296 = (((x + y) % 4294967296 : Nat) : Int) := by omega
      rw [e2]
      obtain ⟨W2, hW⟩ : ∃ W2, W2 = (wr.setCell ⟨H, i, none⟩ (.int .u32 (((x + y) % 4294967296 : Nat) : Int))).drew := ⟨_, rfl⟩
      have hB2 : Blk W2 H 55 (cellsN (adu s t (i + 1))).toArray := by
        have := (HB.out.set_ i (.int .u32 (((x + y) % 4294967296 : Nat) : Int))).drew
        rw [hW]
        have e := HRS.out
        rw [List.append_nil, List.append_nil, HS.out] at e
        rw [e] at this
        exact this
      have hk2 : Keep [H] w W2 := by rw [hW]; exact (HK.out.setCell (.inl (by simp)) _).drew
      rw [← hW]
      have HB2 := Lib.hid hB2
      have HK2 := Lib.hid hk2
      clear hW hB2 hk2 e1 e2 c1 c2 fr1 bi HS HRS
      go_wp2_with fail
      exact Handed.intro (m - 1) (by have := HMI.out; omega) (HJ.out _ _ _ ⟨i + 1, by have := HMI.out; omega, ⟨rfl, rfl, by repeat (first | exact trivial | refine ⟨rfl, ?_⟩)⟩, HB2.out, HK2.out⟩)
  · obtain rfl : i = 8 := by omega
    have hQ' := hQ
    clear hQ
    go_wp2
    exact ⟨rfl, hQ' _ _ ⟨rfl, rfl, by repeat (first | exact trivial | refine ⟨rfl, ?_⟩)⟩ HB.out HK.out⟩

end Go.Proofs.Ytiiifcfgfmoiaaa
