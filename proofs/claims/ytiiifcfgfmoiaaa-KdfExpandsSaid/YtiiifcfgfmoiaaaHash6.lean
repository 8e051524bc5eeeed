/-
  The landed sha: a block's words added; mix, whole.
-/
import Derived.Test.YtiiifcfgfmoiaaaHash5
namespace Go.Proofs.Ytiiifcfgfmoiaaa
open Go.RowKit

noncomputable def hmx1 : Code := loopOf Try.f33 1

/-- The first i words added. -/
def addn (s t : Sha.St) (i : Nat) : List Nat := (List.range 8).map fun j => if j < i then (s.list.getD j 0 + t.list.getD j 0) % 4294967296 else s.list.getD j 0
theorem addn_length (s t : Sha.St) (i : Nat) : (addn s t i).length = 8 := by simp [addn]
theorem addn_zero (s t : Sha.St) : addn s t 0 = s.list := rfl
theorem addn_full (s t : Sha.St) : addn s t 8 = (s.add t).list := rfl
theorem addn_get (s t : Sha.St) (i : Nat) (h : i < 8) : (addn s t i).getD i 0 = s.list.getD i 0 := by simp [addn, h]
theorem addn_set (s t : Sha.St) (i : Nat) : (addn s t i).set i ((s.list.getD i 0 + t.list.getD i 0) % 4294967296) = addn s t (i + 1) := by
  apply List.ext_getElem
  · simp [addn]
  · intro j h1 h2
    rw [List.getElem_set]
    simp only [addn, List.getElem_map, List.getElem_range]
    by_cases e : i = j
    · subst e; simp
    · rw [if_neg e]
      by_cases h3 : j < i
      · rw [if_pos h3, if_pos (by omega)]
      · rw [if_neg h3, if_neg (by omega)]

set_option maxRecDepth 100000 in
set_option maxHeartbeats 4000000 in
theorem ml1 (R : Act → World → Prop) (a : Act) (w : World) (H : Nat) (rp : Value) (s t : Sha.St) (n : Nat) (r : List Int) (C : Array Value) (hC : C = (cellsN t.list).toArray)
    (hB : Hid (Blk w H 73 (hcs s rp n r)))
    (hF : Fr 139 [(0, .pointer (some ⟨H, 0, none⟩)), (122, .agg C), (123, .int .i64 0)] a)
    (hQ : ∀ a' w', Fr 139 [] a' → Blk w' H 73 (hcs (s.add t) rp n r) → Keep [H] w w' → R a' w') :
    Code.wp Try.prog (.loop hmx1) (OutX 2 R) a w := by
  obtain ⟨rest, hrest⟩ : ∃ rest, rest = rp :: .int .u64 n :: r.map (Value.int .u8) := ⟨_, rfl⟩
  have hhc : ∀ s, hcs s rp n r = (cellsN s.list ++ rest).toArray := fun s => by rw [hrest]; rfl
  rw [hhc] at hB hQ
  clear hhc hrest
  refine wp_loop_ghost_k (fun m a wr => ∃ i, m + i = 8 ∧ Fr 139 [(0, .pointer (some ⟨H, 0, none⟩)), (122, .agg C), (123, .int .i64 i)] a ∧
    Blk wr H 73 (cellsN (addn s t i) ++ rest).toArray ∧ Keep [H] w wr) 8 ⟨0, rfl, hF, by rw [addn_zero]; exact hB.out, Keep.refl _ _⟩ ?_
  intro m a wr ⟨i, hmi, hFr, hBr, hk⟩ J K hJ hK
  have HB := Lib.hid hBr
  have HK := Lib.hid hk
  have HJ := Lib.hid hJ
  have HMI := Lib.hid hmi
  have hi8 : i ≤ 8 := by omega
  obtain ⟨f, ⟨f0, f122, f123, -⟩, rfl⟩ := hFr.open139
  simp only [f0, f122, f123]
  clear f0 f122 f123 hF hFr hBr hk hJ hB hmi
  conv => arg 2; whnf
  by_cases hlt : i < 8
  · clear hQ
    have hl := addn_length s t i
    have hc : wr.cell? ⟨H, i, none⟩ = some (.int .u32 ((s.list.getD i 0 : Nat) : Int)) := by
      rw [HB.out.cell, ← addn_get s t i hlt]
      simpa using row_get (addn s t i) rest i (by rw [hl]; exact hlt)
    have hz := HB.out.frozen i
    have hci : C[i]? = some (.int .u32 ((t.list.getD i 0 : Nat) : Int)) := by
      rw [hC]
      simpa using cellsN_get t.list i (by show i < 8; exact hlt)
    have HCI := Lib.hid hci
    have HS := Lib.hid (addn_set s t i)
    have HRS := Lib.hid (row_set (addn s t i) rest i ((s.list.getD i 0 + t.list.getD i 0) % 4294967296) (by rw [hl]; exact hlt))
    generalize s.list.getD i 0 = x at *
    generalize t.list.getD i 0 = y at *
    have bi : (0 : Int) ≤ i ∧ (i : Int) < 8 := ⟨by omega, by omega⟩
    clear hC hci hl
    have hcv : C[i]? = some (.int .u32 (y : Int)) := HCI.out
    go_upto_region 12 with (refine wl_index_agg rfl _ _ _ rfl 55 8 Try.underlying64 .u32 Try.underlying55 (by kernel_rfl) _ .i64 i rfl rfl hlt _ HCI.out ?_)
    go_region_with (fail)
    all_goals
      rw [wrap2]
      obtain ⟨W, hW⟩ : ∃ W, W = (wr.setCell ⟨H, i, none⟩ (.int .u32 ((x + y) % 4294967296 : Nat))).drew := ⟨_, rfl⟩
      have hB2 : Blk W H 73 (cellsN (addn s t (i + 1)) ++ rest).toArray := by
        have := (HB.out.set_ i (.int .u32 ((x + y) % 4294967296 : Nat))).drew
        rw [hW]
        rw [HRS.out, HS.out] at this
        exact this
      have hk2 : Keep [H] w W := by rw [hW]; exact (HK.out.setCell (.inl (by simp)) _).drew
      rw [← hW]
      have HB2 := Lib.hid hB2
      have HK2 := Lib.hid hk2
      clear hW hB2 hk2
      go_wp2_with fail
      exact Handed.intro (m - 1) (by have := HMI.out; omega) (HJ.out _ _ _ ⟨i + 1, by have := HMI.out; omega, ⟨rfl, rfl, by repeat (first | exact trivial | refine ⟨rfl, ?_⟩)⟩, HB2.out, HK2.out⟩)
  · obtain rfl : i = 8 := by omega
    have hQ' := hQ
    clear hQ
    go_wp2
    have hb := HB.out
    rw [addn_full] at hb
    exact ⟨rfl, hQ' _ _ ⟨rfl, rfl, trivial⟩ hb HK.out⟩

set_option maxRecDepth 100000 in
set_option maxHeartbeats 4000000 in
theorem mix_any (H g : Nat) (s : Sha.St) (n : Nat) (r : List Int) (w : World) (hr : r.length = 64) (hwf : ∀ x ∈ r, (Lit.int .u8 x).wf = true) (hs : St32 s)
    (hB : Blk w H 73 (hcs s (.pointer (some ⟨g, 11, none⟩)) n r))
    (hK : ∀ i, i < 64 → w.cell? ⟨g, 11 + i, none⟩ = some (.int .u32 ((Sha.K.getD i 0 : Nat) : Int))) (hgl : g < w.heap.size) :
    Calls Try.prog 33 #[.pointer (some ⟨H, 0, none⟩)] w fun e w' => e = .returned (.tuple #[]) ∧ Blk w' H 73 (hcs (Sha.blk s r) (.pointer (some ⟨g, 11, none⟩)) n r) ∧ Keep [H] w w' := by
  have HB := Lib.hid hB
  have HS := Lib.hid hs
  have HKT := Lib.hid hK
  have HGL := Lib.hid hgl
  have SP := Lib.hid (spread_any H s _ n r w hr hwf hB)
  obtain ⟨ws, hws⟩ : ∃ ws, ws = Sha.sched (Sha.words r 16) 48 := ⟨_, rfl⟩
  have hwl : ws.length = 64 := by
    rw [hws, show Sha.sched (Sha.words r 16) 48 = pre r 0 64 by rw [pre_64 r 0 (by omega), List.drop_zero, List.take_of_length_le (by omega)]]
    exact pre_length _ _ _
  rw [← hws] at SP
  have hblk : Sha.blk s r = s.add (Sha.rnds ws s 64) := by rw [hws]; rfl
  rw [hblk]
  have HWL := Lib.hid hwl
  obtain ⟨D, hD⟩ : ∃ D, D = (cellsN ws).toArray := ⟨_, rfl⟩
  have hds : D.size = 64 := by rw [hD]; simp [cellsN, hwl]
  have hd1 : D.all (·.oneCell') = true := by rw [hD]; simp [cellsN, Value.oneCell']
  rw [← hD] at SP
  have HD := Lib.hid hD
  have HDS := Lib.hid hds
  have HD1 := Lib.hid hd1
  clear hB hs hK hgl hr hwf hws hwl hblk hD hds hd1
  obtain ⟨Z, hZ, hZs, hZi⟩ := u32x64
  have HZS := Lib.hid hZs
  have HZI := Lib.hid hZi
  clear hZ hZs hZi
  go_enter Try.func33, Try.ntmps33
  go_upto_region 1 with (first
    | (go_at_call 39; with_reducible refine SP.out.mono ?_; rintro e w1 ⟨rfl, hk1⟩)
    | (refine wl_alloc_rowZ rfl _ rfl Z 64 HZI.out ?_; intro w2 hB2 hk2 hz2)
    | (refine wl_store_row rfl _ _ _ rfl w1.heap.size rfl D rfl _ _ hB2 (by rw [HDS.out]; kernel_rfl) (by rw [HDS.out]; exact HZS.out) HD1.out ?_; intro w3 hB3 hk3 hz3))
  have hkw3 : Keep [] w w3 := (hk1.trans hk2).trans' hk3 (fun g' hg => by right; have := hk1.size; simp at hg; omega)
  have hne : H ≠ w1.heap.size := by have := HB.out.lt; have := hk1.size; omega
  have hBH : Blk w3 H 73 (hcs s (.pointer (some ⟨g, 11, none⟩)) n r) := HB.out.keep hkw3 (by simp)
  have hc : ∀ i v, (hcs s (.pointer (some ⟨g, 11, none⟩)) n r)[i]? = some v → w3.cell? ⟨H, i, none⟩ = some v := fun i v h => by rw [hBH.cell]; exact h
  have c0 := hc 0 (.int .u32 s.a) rfl
  have c1 := hc 1 (.int .u32 s.b) rfl
  have c2 := hc 2 (.int .u32 s.c) rfl
  have c3 := hc 3 (.int .u32 s.d) rfl
  have c4 := hc 4 (.int .u32 s.e) rfl
  have c5 := hc 5 (.int .u32 s.f) rfl
  have c6 := hc 6 (.int .u32 s.g) rfl
  have c7 := hc 7 (.int .u32 s.h) rfl
  have HBH := Lib.hid hBH
  have HKW := Lib.hid hkw3
  have hW3 : Blk w3 w1.heap.size 65 (cellsN ws).toArray := by rw [← HD.out]; exact hB3
  have HW3 := Lib.hid hW3
  have HK3 : Hid (∀ i, i < 64 → w3.cell? ⟨g, 11 + i, none⟩ = some (.int .u32 ((Sha.K.getD i 0 : Nat) : Int))) := Lib.hid fun i hi => (HKW.out.cell HGL.out (by simp)).trans (HKT.out i hi)
  have HG3 := Lib.hid (Nat.lt_of_lt_of_le HGL.out HKW.out.size)
  clear hc hBH hkw3 hW3 hB2 hk1 hk2 hz2 hB3 hk3 hz3 HB HKT HGL SP hne
  generalize w1.heap.size = gw at *
  go_quiet (fail)
  have HBH' := Lib.hid (HBH.out.drewN nq)
  have HKW' := Lib.hid (HKW.out.drewN nq)
  have HW' := Lib.hid (HW3.out.drewN nq)
  have HKT' : Hid (∀ i, i < 64 → (w3.drewN nq).cell? ⟨g, 11 + i, none⟩ = some (.int .u32 ((Sha.K.getD i 0 : Nat) : Int))) := Lib.hid HK3.out
  have HGL' : Hid (g < (w3.drewN nq).heap.size) := Lib.hid HG3.out
  clear c0 c1 c2 c3 c4 c5 c6 c7 HBH HKW HW3 HK3 HG3
  generalize w3.drewN nq = W1 at *
  clear nq
  go_upto_block 0 with fail
  go_wp2_with fail
  refine OutX.use (ml0 (fun a' w' => Fr 139 ((0, .pointer (some ⟨H, 0, none⟩)) :: wfr (Sha.rnds ws s 64)) a' ∧ Keep [] W1 w') _ W1 H g gw s s ws n r HS HWL HBH' HW' HKT' HGL'
    ⟨rfl, rfl, by repeat (first | exact trivial | refine ⟨rfl, ?_⟩)⟩ (fun a' w' h1 h2 => ⟨h1, h2⟩)) ?_
  intro a' w4 ⟨hF4, hk4⟩
  have HB4 := Lib.hid (HBH'.out.keep hk4 (by simp))
  have HK4 := Lib.hid (HKW'.out.trans hk4)
  clear hk4 HBH' HKW' HW' HKT' HGL'
  obtain ⟨t, ht⟩ : ∃ t, t = Sha.rnds ws s 64 := ⟨_, rfl⟩
  rw [← ht] at hF4
  have HT := Lib.hid ht
  clear ht
  obtain ⟨f, ⟨f0, f3, f4, f5, f6, f7, f8, f9, f10, -⟩, rfl⟩ := hF4.open139
  simp only [f0, f3, f4, f5, f6, f7, f8, f9, f10]
  clear f0 f3 f4 f5 f6 f7 f8 f9 f10 hF4
  go_upto_block 2 with fail
  go_wp2_with fail
  refine OutX.use (ml1 (fun a' w' => Fr 139 [] a' ∧ Blk w' H 73 (hcs (s.add t) (.pointer (some ⟨g, 11, none⟩)) n r) ∧ Keep [H] w4 w') _ w4 H _ s t n r _ rfl HB4
    ⟨rfl, rfl, by repeat (first | exact trivial | refine ⟨rfl, ?_⟩)⟩ (fun a' w' h1 h2 h3 => ⟨h1, h2, h3⟩)) ?_
  intro a' w5 ⟨hF5, hB5, hk5⟩
  have HB5 := Lib.hid hB5
  have HK5 := Lib.hid (HK4.out.more0.trans hk5)
  obtain ⟨f, -, rfl⟩ := hF5.open139
  clear hF5 hB5 hk5
  go_wp2_with fail
  go_end0
  exact ⟨rfl, by rw [← HT.out]; exact HB5.out, HK5.out⟩
end Go.Proofs.Ytiiifcfgfmoiaaa
