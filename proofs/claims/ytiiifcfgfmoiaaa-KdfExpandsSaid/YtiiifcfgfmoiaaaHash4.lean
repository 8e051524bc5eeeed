/-
  The landed sha: spread, whole.
-/
import Derived.Test.YtiiifcfgfmoiaaaHash3
namespace Go.Proofs.Ytiiifcfgfmoiaaa
open Go.RowKit

/-- The hash object's cells. -/
def hcs (s : Sha.St) (rp : Value) (n : Nat) (r : List Int) : Array Value := (cellsN s.list ++ (rp :: .int .u64 n :: r.map (Value.int .u8))).toArray
theorem hcs_size (s : Sha.St) (rp : Value) (n : Nat) (r : List Int) (hr : r.length = 64) : (hcs s rp n r).size = 74 := by simp [hcs, cellsN, Sha.St.list, hr]
theorem hcs_rest (s : Sha.St) (rp : Value) (n : Nat) (r : List Int) (hr : r.length = 64) : ((hcs s rp n r).extract 10 (10 + 64)).toList = r.map (Value.int .u8) := by
  have h : (cellsN s.list).length = 8 := by simp [cellsN, Sha.St.list]
  unfold hcs
  rw [Array.toList_extract, List.extract_eq_take_drop]
  show List.take (10 + 64 - 10) (List.drop 10 (cellsN s.list ++ (rp :: .int .u64 n :: r.map (Value.int .u8)))) = _
  rw [List.drop_append, h, List.drop_of_length_le (by omega)]
  show List.take 64 (r.map (Value.int .u8)) = _
  rw [List.take_of_length_le (by simp [hr])]

theorem u32x64 : ∃ Z : Array Value, Z = (cellsN (List.replicate 64 0)).toArray ∧ Z.size = 64 ∧ (Try.prog.info? 65).map (fun i => (i.zero, i.size)) = some (some (.agg Z), 64) := ⟨_, rfl, by kernel_rfl, by kernel_rfl⟩
/-- A new variable of an array type, its cells named. -/
theorem wl_alloc_rowZ {P : Program} {ops : Array Oper} {rest : List Oper} {o : Oper} {a : Act} {w : World} {Q : Exit → Act → World → Prop} (hgd : o.guard = none) (t : TypeId) (ho : o.op = .alloc t)
    (Z : Array Value) (n : Nat) (hz : (P.info? t).map (fun i => (i.zero, i.size)) = some (some (.agg Z), n))
    (h : ∀ w', Blk w' w.heap.size t Z → Keep [] w w' → w'.heap.size = w.heap.size + 1 → wpList P ops Q rest (a.put o.dst (.pointer (some ⟨w.heap.size, 0, none⟩))) w') : wpList P ops Q (o :: rest) a w :=
  wl_alloc_row hgd t ho (.agg Z) n hz h

set_option maxRecDepth 100000 in
set_option maxHeartbeats 4000000 in
theorem spread_any (H : Nat) (s : Sha.St) (rp : Value) (n : Nat) (r : List Int) (w : World) (hr : r.length = 64) (hwf : ∀ x ∈ r, (Lit.int .u8 x).wf = true) (hB : Blk w H 73 (hcs s rp n r)) :
    Calls Try.prog 39 #[.pointer (some ⟨H, 0, none⟩)] w fun e w' => e = .returned (.agg (cellsN (Sha.sched (Sha.words r 16) 48)).toArray) ∧ Keep [] w w' := by
  have HB := Lib.hid hB
  have HR := Lib.hid hr
  have HWF := Lib.hid hwf
  clear hB hr hwf
  obtain ⟨Z, hZ, hZs, hZi⟩ := u32x64
  have HZ := Lib.hid hZ
  have HZS := Lib.hid hZs
  have HZI := Lib.hid hZi
  clear hZ hZs hZi
  go_enter Try.func39, Try.ntmps39
  go_upto_region 1 with (refine wl_alloc_rowZ rfl _ rfl Z 64 HZI.out ?_; intro w1 hB1 hk1 hz1)
  go_upto_region 2 with (refine wl_alloc_rowZ rfl _ rfl Z 64 HZI.out ?_; intro w2 hB2 hk2 hz2)
  have hB1' := hB1.keep hk2 (by simp)
  have hne : w.heap.size ≠ w1.heap.size := by omega
  have hle : w.heap.size ≤ w1.heap.size := by omega
  have hB2' : Blk w2 w1.heap.size 65 (cellsN (fw r 0)).toArray := by rw [fw_zero, ← HZ.out]; exact hB2
  have hkk : Keep [] w w2 := hk1.trans hk2
  have hBH := (HB.out.keep hk1 (by simp)).keep hk2 (by simp)
  have hrg : w2.rangeAt H 10 (r.map (Value.int .u8)) := by
    have := World.rangeAt_of_block hBH 10 64
    rwa [hcs_rest s rp n r HR.out] at this
  have HB1 := Lib.hid hB1'
  have HB2 := Lib.hid hB2'
  have HKK := Lib.hid hkk
  have HRG := Lib.hid hrg
  clear hB1' hB2' hkk hrg hB1 hB2 hBH hk1 hk2 hz1 hz2
  generalize w1.heap.size = gw at *
  have HLE := Lib.hid hle
  have HNE := Lib.hid hne
  clear hle hne
  generalize hg0 : w.heap.size = g0 at *
  have HG0 := Lib.hid hg0
  clear hg0
  go_upto_block 0 with (refine wpList_load_mid rfl _ _ rfl H 10 rfl (r.map (Value.int .u8)) _ HRG.out Try.underlying71 rfl (by rw [List.length_map, HR.out]; kernel_rfl) ?_)
  go_wp2_with fail
  refine OutX.use (hl0 (fun a' w' => Fr 83 [(2, .pointer (some ⟨g0, 0, none⟩)), (3, .pointer (some ⟨gw, 0, none⟩))] a' ∧ Blk w' gw 65 (cellsN (filled r 0 16)).toArray ∧ Keep [gw] w2 w') _ w2 _ r gw HR HWF HB2
    ⟨rfl, rfl, by repeat (first | exact trivial | refine ⟨rfl, ?_⟩)⟩ (fun a' w' h1 h2 h3 => ⟨h1, by rw [← fw_full]; exact h2, h3⟩)) ?_
  intro a' w3 ⟨hF3, hB3, hk3⟩
  have HB3 := Lib.hid hB3
  have HK3 := Lib.hid hk3
  obtain ⟨f, ⟨f2, f3, -⟩, rfl⟩ := hF3.open83
  simp only [f2, f3]
  clear f2 f3 hF3 hB3 hk3
  go_upto_block 2 with fail
  go_wp2_with fail
  refine OutX.use (hl1 (fun a' w' => Fr 83 [(2, .pointer (some ⟨g0, 0, none⟩)), (3, .pointer (some ⟨gw, 0, none⟩))] a' ∧ Blk w' gw 65 (cellsN (pre r 0 64)).toArray ∧ Keep [gw] w3 w') _ w3 _ r gw HWF HB3
    ⟨rfl, rfl, by repeat (first | exact trivial | refine ⟨rfl, ?_⟩)⟩ (fun a' w' h1 h2 h3 => ⟨h1, h2, h3⟩)) ?_
  intro a' w4 ⟨hF4, hB4, hk4⟩
  have HK4 := Lib.hid hk4
  obtain ⟨f, ⟨f2, f3, -⟩, rfl⟩ := hF4.open83
  simp only [f2, f3]
  clear f2 f3 hF4 hk4
  have hpre : pre r 0 64 = Sha.sched (Sha.words r 16) 48 := by
    rw [pre_64 r 0 (by have := HR.out; omega), List.drop_zero, List.take_of_length_le (by have := HR.out; omega)]
  rw [hpre] at hB4
  have hsz : (cellsN (Sha.sched (Sha.words r 16) 48)).toArray.size = 64 := by rw [← hpre]; simp [cellsN, pre_length]
  have hone : (cellsN (Sha.sched (Sha.words r 16) 48)).toArray.all (·.oneCell') = true := by simp [cellsN, Value.oneCell']
  obtain ⟨D, hD⟩ : ∃ D, D = (cellsN (Sha.sched (Sha.words r 16) 48)).toArray := ⟨_, rfl⟩
  rw [← hD] at hB4 hsz hone
  have HD := Lib.hid hD
  clear hD
  have HB4 := Lib.hid hB4
  have hB0 := (HB1.out.keep HK3.out (by have := HNE.out; simp; omega)).keep HK4.out (by have := HNE.out; simp; omega)
  have HB0 := Lib.hid hB0
  have HSZ := Lib.hid hsz
  have HONE := Lib.hid hone
  clear hB0 hB4 hpre hsz hone HB1 HB2 HB3
  go_upto_region 13 with fail
  go_wp2_with (first
    | (refine wl_load_row rfl _ _ rfl gw rfl 64 55 Try.underlying65 _ D HB4.out (by rw [HSZ.out]; kernel_rfl) ?_)
    | (refine wl_store_row rfl _ _ _ rfl g0 rfl D rfl _ _ HB0.out (by rw [HSZ.out]; kernel_rfl) (by rw [HSZ.out]; exact HZS.out) HONE.out ?_; intro w5 hB5 hk5 hz5))
  have hkall : Keep [] w w5 := ((HKK.out.trans' HK3.out (fun g hg => by right; have := HLE.out; have := HG0.out; simp at hg; omega)).trans' HK4.out (fun g hg => by right; have := HLE.out; have := HG0.out; simp at hg; omega)).trans' hk5 (fun g hg => by right; have := HG0.out; simp at hg; omega)
  (try simp only [Exit.inBlock, Exit.then])
  refine bodyPost_ret (v := .agg D) ?_ rfl ?_
  · refine results_cell_row Try.results39 _ w5 g0 65 D (0, 0) _ ?_ hB5 Try.underlying65 rfl ?_
    · rfl
    · rw [HSZ.out]; kernel_rfl
  · exact ⟨by rw [HD.out], hkall⟩
end Go.Proofs.Ytiiifcfgfmoiaaa
