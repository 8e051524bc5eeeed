/-
  The document's answer to Sum: a word of a block out of its four bytes.
-/
import Derived.Test.YtiiifcfgfmoiaaaFrame
namespace Go.Proofs.Ytiiifcfgfmoiaaa
open Go.RowKit

theorem u32infB : (Try.prog.info? 55).map (fun i => (i.zero, i.size, i.bytes)) = some (some (.int .u32 0), 1, 4) := by kernel_rfl
/-- Words as numbers, and as cells. -/
def cellsN (l : List Nat) : List Value := l.map fun (n : Nat) => Value.int .u32 (n : Int)
theorem cellsN_length (l : List Nat) : (cellsN l).length = l.length := by simp [cellsN]
theorem cellsN_set (l : List Nat) (i n : Nat) : (cellsN l).set i (.int .u32 (n : Int)) = cellsN (l.set i n) := by simp [cellsN, List.map_set]
theorem cellsN_get (l : List Nat) (i : Nat) (h : i < l.length) : (cellsN l)[i]? = some (.int .u32 ((l.getD i 0 : Nat) : Int)) := by simp [cellsN, h]

noncomputable def rb4 : Code := loopOf Try.f19 4

/-- The bytes from p on, j of them, as a number. -/
def part (xs : List Int) (p j : Nat) : Nat := (be 0 ((xs.drop p).take j)).toNat

set_option maxRecDepth 100000 in
set_option maxHeartbeats 4000000 in
theorem rl4 (R : Act → World → Prop) (a : Act) (w : World) (xv hv kv : Value) (xs : List Int) (ws : List Nat) (gw p i : Nat)
    (hx : Hid (Sl .u8 w xv xs)) (hxb : Hid (∀ g, xv.ownBlock = some g → g ≠ gw)) (hi : i < 16) (hat : p + 64 ≤ xs.length) (hws : Hid (ws.length = 64)) (h0 : Hid (ws.getD i 0 = 0))
    (hB : Hid (Blk w gw 55 (cellsN ws).toArray))
    (hF : Fr 313 [(3, hv), (5, xv), (7, kv), (8, .int .i64 p), (9, .slice (some ⟨gw, 0, none⟩) 64 64), (10, .int .i64 i), (11, .int .i64 0)] a)
    (hQ : ∀ a' w', Fr 313 [(3, hv), (5, xv), (7, kv), (8, .int .i64 p), (9, .slice (some ⟨gw, 0, none⟩) 64 64), (10, .int .i64 i)] a' →
      Blk w' gw 55 (cellsN (ws.set i (part xs (p + 4 * i) 4))).toArray → Keep [gw] w w' → R a' w') :
    Code.wp Try.prog (.loop rb4) (OutX 8 R) a w := by
  refine wp_loop_ghost_k (fun m a wr => ∃ j, m + j = 4 ∧ Fr 313 [(3, hv), (5, xv), (7, kv), (8, .int .i64 p), (9, .slice (some ⟨gw, 0, none⟩) 64 64), (10, .int .i64 i), (11, .int .i64 j)] a ∧
    Blk wr gw 55 (cellsN (ws.set i (part xs (p + 4 * i) j))).toArray ∧ Keep [gw] w wr) 4 ⟨0, rfl, hF, ?_, Keep.refl _ _⟩ ?_
  · have e : ws.set i (part xs (p + 4 * i) 0) = ws := by
      have h1 := hws.out
      have h2 := h0.out
      rw [show part xs (p + 4 * i) 0 = ws.getD i 0 by rw [h2]; simp [part, be]]
      apply List.ext_getElem
      · simp
      · intro k h3 h4
        rw [List.getElem_set]
        split
        · subst k; simp [h4]
        · rfl
    rw [e]
    exact hB.out
  intro m a wr ⟨j, hmj, hFr, hBr, hk⟩ J K hJ hK
  have HB := Lib.hid hBr
  have HK := Lib.hid hk
  have HJ := Lib.hid hJ
  obtain ⟨f, ⟨f3, f5, f7, f8, f9, f10, f11, -⟩, rfl⟩ := hFr.open313
  simp only [f3, f5, f7, f8, f9, f10, f11]
  clear f3 f5 f7 f8 f9 f10 f11 hF hFr hBr hk hJ hB h0
  conv => arg 2; whnf
  by_cases hlt : j < 4
  · have hxr := hx.out.keep HK.out (fun _ g hg => by simpa using hxb.out g hg)
    obtain ⟨bx, ox, cx, rfl, hcx, hcm, hcell⟩ := hxr.cells (by omega)
    have hc2 := hcell (p + 4 * i + j) (by omega)
    have hyy := wf_u8 (wf_getD hxr.wf (p + 4 * i + j) (by omega))
    have hv : (part xs (p + 4 * i) j : Int) = be 0 ((xs.drop (p + 4 * i)).take j) := by
      have := be_bound 0 ((xs.drop (p + 4 * i)).take j) (by omega) (fun y hy => wf_u8 (hxr.wf y (List.mem_of_mem_drop (List.mem_of_mem_take hy))))
      unfold part; omega
    have hvb : (part xs (p + 4 * i) j : Int) < 16777216 := by
      rw [hv]
      have := (be_bound 0 ((xs.drop (p + 4 * i)).take j) (by omega) (fun y hy => wf_u8 (hxr.wf y (List.mem_of_mem_drop (List.mem_of_mem_take hy))))).2
      rw [List.length_take_of_le (by simp; omega)] at this
      have h3 : (256 : Int) ^ j ≤ 16777216 := by
        rcases (show j = 0 ∨ j = 1 ∨ j = 2 ∨ j = 3 by omega) with rfl | rfl | rfl | rfl <;> decide
      omega
    have hnext : (part xs (p + 4 * i) (j + 1) : Int) = part xs (p + 4 * i) j * 256 + xs[p + 4 * i + j]?.getD 0 := by
      rw [hv]
      have e : be 0 ((xs.drop (p + 4 * i)).take (j + 1)) = be 0 ((xs.drop (p + 4 * i)).take j) * 256 + xs[p + 4 * i + j]?.getD 0 := by
        rw [List.take_add_one, List.getElem?_drop]
        rw [List.getElem?_eq_getElem (by omega)]
        exact be_snoc _ _ _
      have := be_bound 0 ((xs.drop (p + 4 * i)).take (j + 1)) (by omega) (fun y hy => wf_u8 (hxr.wf y (List.mem_of_mem_drop (List.mem_of_mem_take hy))))
      unfold part; omega
    have hc1 : wr.cell? ⟨gw, i, none⟩ = some (.int .u32 (part xs (p + 4 * i) j)) := by
      have h64 := hws.out
      rw [HB.out.cell]
      simpa using (cellsN_get (ws.set i (part xs (p + 4 * i) j)) i (by simp; omega)).trans (by simp [show i < ws.length by omega])
    have hz1 := HB.out.frozen i
    have HNX := Lib.hid hnext
    have hv0 : 0 ≤ (part xs (p + 4 * i) j : Int) := Int.natCast_nonneg _
    generalize hV : (part xs (p + 4 * i) j : Int) = v at *
    generalize xs[p + 4 * i + j]?.getD 0 = y at *
    obtain ⟨hy0, hy1⟩ := hyy
    have HVV := Lib.hid hV
    have HMJ := Lib.hid hmj
    clear hnext hv hcell hxr hV hmj
    clear hQ
    go_upto_region 23 with fail
    have e1 : IntKind.i64.wrap (4 * (i : Int)) = 4 * i := IntWalk.i64_in _ ⟨by omega, by omega⟩
    have e2 : IntKind.i64.wrap ((p : Int) + 4 * i) = p + 4 * i := IntWalk.i64_in _ ⟨by omega, by omega⟩
    have e3 : IntKind.i64.wrap ((p : Int) + 4 * i + j) = p + 4 * i + j := IntWalk.i64_in _ ⟨by omega, by omega⟩
    have e4 : IntKind.u32.wrap (v * 256) = v * 256 := by rw [IntKind.wrap_u32']; omega
    have e5 : IntKind.u32.wrap (v * 256 + y) = v * 256 + y := by rw [IntKind.wrap_u32']; omega
    have e6 : ((p : Int) + 4 * i + j).toNat = p + 4 * i + j := by omega
    have b1 : 0 ≤ (p : Int) + 4 * i + j ∧ (p : Int) + 4 * i + j < xs.length := ⟨by omega, by omega⟩
    have b2 : (0 : Int) ≤ i ∧ (i : Int) < 64 := ⟨by omega, by omega⟩
    have e7 : IntKind.u32.wrap y = y := by rw [IntKind.wrap_u32']; omega
    go_region_with (fail)
    all_goals
      clear e1 e2 e3 e4 e5 e6 e7 b1 b2
      obtain ⟨W, hW⟩ : ∃ W, W = (wr.setCell ⟨gw, i, none⟩ (.int .u32 (v * 256 + y))).drew := ⟨_, rfl⟩
      have hB2 : Blk W gw 55 (cellsN (ws.set i (part xs (p + 4 * i) (j + 1)))).toArray := by
        have := (HB.out.set_ i (.int .u32 (v * 256 + y))).drew
        rw [hW]
        have e : ((cellsN (ws.set i (part xs (p + 4 * i) j))).toArray).setIfInBounds i (.int .u32 (v * 256 + y)) = (cellsN (ws.set i (part xs (p + 4 * i) (j + 1)))).toArray := by
          have h1 := cellsN_set (ws.set i (part xs (p + 4 * i) j)) i (part xs (p + 4 * i) (j + 1))
          rw [List.set_set, HNX.out] at h1
          rw [← h1]
          simp
        rw [e] at this
        exact this
      have hk2 : Keep [gw] w W := by rw [hW]; exact (HK.out.setCell (.inl (by simp)) _).drew
      rw [← hW]
      have HB2 := Lib.hid hB2
      have HK2 := Lib.hid hk2
      clear hW hB2 hk2
      go_wp2_with fail
      exact Handed.intro (m - 1) (by have := HMJ.out; omega) (HJ.out _ _ _ ⟨j + 1, by have := HMJ.out; omega, ⟨rfl, rfl, by repeat (first | exact trivial | refine ⟨rfl, ?_⟩)⟩, HB2.out, HK2.out⟩)
  · obtain rfl : j = 4 := by omega
    have hQ' := hQ
    clear hQ
    go_wp2
    exact ⟨rfl, hQ' _ _ ⟨rfl, rfl, by repeat (first | exact trivial | refine ⟨rfl, ?_⟩)⟩ HB.out HK.out⟩

end Go.Proofs.Ytiiifcfgfmoiaaa
