/-
  The landed sha: the schedule; spread, whole.
-/
import Derived.Test.YtiiifcfgfmoiaaaHash2
import Derived.Deep.QuietTactic
import Derived.BigQuiet
namespace Go.Proofs.Ytiiifcfgfmoiaaa
open Go.RowKit

noncomputable def hsp1 : Code := loopOf Try.f39 1

set_option maxRecDepth 100000 in
set_option maxHeartbeats 4000000 in
theorem hl1 (R : Act → World → Prop) (a : Act) (w : World) (v2 : Value) (xs : List Int) (gw : Nat) (hwf : Hid (∀ x ∈ xs, (Lit.int .u8 x).wf = true))
    (hB : Hid (Blk w gw 65 (cellsN (filled xs 0 16)).toArray))
    (hF : Fr 83 [(2, v2), (3, .pointer (some ⟨gw, 0, none⟩)), (6, .int .i64 16)] a)
    (hQ : ∀ a' w', Fr 83 [(2, v2), (3, .pointer (some ⟨gw, 0, none⟩))] a' →
      Blk w' gw 65 (cellsN (pre xs 0 64)).toArray → Keep [gw] w w' → R a' w') :
    Code.wp Try.prog (.loop hsp1) (OutX 2 R) a w := by
  refine wp_loop_ghost_k (fun m a wr => ∃ i, m + i = 64 ∧ 16 ≤ i ∧ Fr 83 [(2, v2), (3, .pointer (some ⟨gw, 0, none⟩)), (6, .int .i64 i)] a ∧
    Blk wr gw 65 (cellsN (filled xs 0 i)).toArray ∧ Keep [gw] w wr) 48 ⟨16, rfl, by omega, hF, hB.out, Keep.refl _ _⟩ ?_
  intro m a wr ⟨i, hmi, h16, hFr, hBr, hk⟩ J K hJ hK
  have HB := Lib.hid hBr
  have HK := Lib.hid hk
  have HJ := Lib.hid hJ
  have HMI := Lib.hid hmi
  have hi64 : i ≤ 64 := by omega
  obtain ⟨f, ⟨f2, f3, f6, -⟩, rfl⟩ := hFr.open83
  simp only [f2, f3, f6]
  clear f2 f3 f6 hF hFr hBr hk hJ hB hmi
  conv => arg 2; whnf
  by_cases hlt : i < 64
  · clear hQ
    obtain ⟨n15, h15⟩ : ∃ n, n = i - 15 := ⟨_, rfl⟩
    obtain ⟨n2, h2⟩ : ∃ n, n = i - 2 := ⟨_, rfl⟩
    obtain ⟨n16, h16'⟩ : ∃ n, n = i - 16 := ⟨_, rfl⟩
    obtain ⟨n7, h7⟩ : ∃ n, n = i - 7 := ⟨_, rfl⟩
    have hwf' := pre_lt xs 0 i hwf.out
    have hcell : ∀ k, k < i → (cellsN (filled xs 0 i))[k]? = some (.int .u32 (((pre xs 0 i).getD k 0 : Nat) : Int)) := fun k hk => by
      rw [cellsN_get _ _ (by rw [filled_length xs 0 i hi64]; omega), filled_get xs 0 i k hk]
    have hlt' : ∀ k, k < i → (pre xs 0 i).getD k 0 < 4294967296 := fun k hk => hwf' _ (by
      rw [List.getD_eq_getElem?_getD, List.getElem?_eq_getElem (by rw [pre_length]; exact hk)]
      exact List.getElem_mem _)
    have hnx : Sha.wnext (pre xs 0 i) = ((pre xs 0 i).getD n16 0 + Sha.s0 ((pre xs 0 i).getD n15 0) + (pre xs 0 i).getD n7 0 + Sha.s1 ((pre xs 0 i).getD n2 0)) % 4294967296 := by
      unfold Sha.wnext
      rw [pre_length, h16', h15, h7, h2]
    have c15 : wr.cell? ⟨gw, n15, none⟩ = some (.int .u32 (((pre xs 0 i).getD n15 0 : Nat) : Int)) := by rw [HB.out.cell]; simpa using hcell n15 (by omega)
    have c2 : wr.cell? ⟨gw, n2, none⟩ = some (.int .u32 (((pre xs 0 i).getD n2 0 : Nat) : Int)) := by rw [HB.out.cell]; simpa using hcell n2 (by omega)
    have c16 : wr.cell? ⟨gw, n16, none⟩ = some (.int .u32 (((pre xs 0 i).getD n16 0 : Nat) : Int)) := by rw [HB.out.cell]; simpa using hcell n16 (by omega)
    have c7 : wr.cell? ⟨gw, n7, none⟩ = some (.int .u32 (((pre xs 0 i).getD n7 0 : Nat) : Int)) := by rw [HB.out.cell]; simpa using hcell n7 (by omega)
    have T15 := Lib.hid (hlt' n15 (by omega))
    have T2 := Lib.hid (hlt' n2 (by omega))
    have HNX := Lib.hid hnx
    have S15 := Lib.hid (s0_int _ T15.out)
    have S2 := Lib.hid (s1_int _ T2.out)
    have R15 := fun k kI hk W h => Lib.hid (rt_any ((pre xs 0 i).getD n15 0) k kI hk W T15.out h)
    have R2 := fun k kI hk W h => Lib.hid (rt_any ((pre xs 0 i).getD n2 0) k kI hk W T2.out h)
    generalize (pre xs 0 i).getD n15 0 = x15 at *
    generalize (pre xs 0 i).getD n2 0 = x2 at *
    generalize (pre xs 0 i).getD n16 0 = x16 at *
    generalize (pre xs 0 i).getD n7 0 = x7 at *
    have e15 : IntKind.i64.wrap ((i : Int) - 15) = (n15 : Int) := by rw [IntWalk.i64_in _ ⟨by omega, by omega⟩]; omega
    have e2 : IntKind.i64.wrap ((i : Int) - 2) = (n2 : Int) := by rw [IntWalk.i64_in _ ⟨by omega, by omega⟩]; omega
    have e16 : IntKind.i64.wrap ((i : Int) - 16) = (n16 : Int) := by rw [IntWalk.i64_in _ ⟨by omega, by omega⟩]; omega
    have e7 : IntKind.i64.wrap ((i : Int) - 7) = (n7 : Int) := by rw [IntWalk.i64_in _ ⟨by omega, by omega⟩]; omega
    have b15 : (0 : Int) ≤ n15 ∧ (n15 : Int) < 64 := ⟨by omega, by omega⟩
    have b2 : (0 : Int) ≤ n2 ∧ (n2 : Int) < 64 := ⟨by omega, by omega⟩
    have b16 : (0 : Int) ≤ n16 ∧ (n16 : Int) < 64 := ⟨by omega, by omega⟩
    have b7 : (0 : Int) ≤ n7 ∧ (n7 : Int) < 64 := ⟨by omega, by omega⟩
    have bi : (0 : Int) ≤ i ∧ (i : Int) < 64 := ⟨by omega, by omega⟩
    have E2 := Lib.hid e2
    have E16 := Lib.hid e16
    have E7 := Lib.hid e7
    have H16 := Lib.hid h16
    clear hwf' hcell hlt' hnx h15 h2 h16' h7 e2 e16 e7 h16
    go_upto_region 10 with fail
    go_quiet ((go_at_call 46; first | exact Calls.quiet_of_same (R15 7 7 rfl _ (by simp)).out | exact Calls.quiet_of_same (R15 18 18 rfl _ (by simp)).out))
    rw [S15.out]
    have c2' : (wr.drewN nq).cell? ⟨gw, n2, none⟩ = some (.int .u32 (x2 : Int)) := c2
    have c16' : (wr.drewN nq).cell? ⟨gw, n16, none⟩ = some (.int .u32 (x16 : Int)) := c16
    have c7' : (wr.drewN nq).cell? ⟨gw, n7, none⟩ = some (.int .u32 (x7 : Int)) := c7
    have HB1 := Lib.hid (HB.out.drewN nq)
    have HK1 := Lib.hid (HK.out.drewN nq)
    clear c15 c2 c16 c7 HB HK e15 b15 S15 R15
    generalize wr.drewN nq = W1 at *
    clear nq
    have e2 := E2.out
    go_wp2_with fail
    go_quiet ((go_at_call 46; first | exact Calls.quiet_of_same (R2 17 17 rfl _ (by simp)).out | exact Calls.quiet_of_same (R2 19 19 rfl _ (by simp)).out))
    rw [S2.out]
    have c16 : (W1.drewN nq).cell? ⟨gw, n16, none⟩ = some (.int .u32 (x16 : Int)) := c16'
    have c7 : (W1.drewN nq).cell? ⟨gw, n7, none⟩ = some (.int .u32 (x7 : Int)) := c7'
    have HB2 := Lib.hid (HB1.out.drewN nq)
    have HK2 := Lib.hid (HK1.out.drewN nq)
    clear c2' c16' c7' HB1 HK1 e2 b2 R2
    generalize W1.drewN nq = W2 at *
    have e16 := E16.out
    have e7 := E7.out
    have ci : W2.cell? ⟨gw, i, none⟩ = some (.int .u32 0) := by
      rw [HB2.out.cell]
      have := cellsN_get (filled xs 0 i) i (by rw [filled_length xs 0 i hi64]; exact hlt)
      rw [filled_at xs 0 i hlt] at this
      simpa using this
    have fi := HB2.out.frozen i
    go_wp2_with fail
    go_region_with (fail)
    all_goals
      rw [wrap4, ← HNX.out]
      obtain ⟨W3, hW⟩ : ∃ W3, W3 = (W2.setCell ⟨gw, i, none⟩ (.int .u32 (Sha.wnext (pre xs 0 i) : Nat))).drew := ⟨_, rfl⟩
      have hB3 : Blk W3 gw 65 (cellsN (filled xs 0 (i + 1))).toArray := by
        have := (HB2.out.set_ i (.int .u32 (Sha.wnext (pre xs 0 i) : Nat))).drew
        rw [hW]
        have e : ((cellsN (filled xs 0 i)).toArray).setIfInBounds i (.int .u32 (Sha.wnext (pre xs 0 i) : Nat)) = (cellsN (filled xs 0 (i + 1))).toArray := by
          rw [← filled_set xs 0 i (Sha.wnext (pre xs 0 i)) hlt (if_neg (by have := H16.out; omega)).symm, ← cellsN_set]
          simp
        rw [e] at this
        exact this
      have hk3 : Keep [gw] w W3 := by rw [hW]; exact (HK2.out.setCell (.inl (by simp)) _).drew
      rw [← hW]
      have HB3 := Lib.hid hB3
      have HK3 := Lib.hid hk3
      clear hW hB3 hk3 e16 e7 c16 c7 ci fi b16 b7 HNX S2
      go_wp2_with fail
      exact Handed.intro (m - 1) (by have := HMI.out; omega) (HJ.out _ _ _ ⟨i + 1, by have := HMI.out; omega, by have := H16.out; omega, ⟨rfl, rfl, by repeat (first | exact trivial | refine ⟨rfl, ?_⟩)⟩, HB3.out, HK3.out⟩)
  · obtain rfl : i = 64 := by omega
    have hQ' := hQ
    clear hQ
    go_wp2
    have hb := HB.out
    rw [show filled xs 0 64 = pre xs 0 64 by simp [filled]] at hb
    exact ⟨rfl, hQ' _ _ ⟨rfl, rfl, by repeat (first | exact trivial | refine ⟨rfl, ?_⟩)⟩ hb HK.out⟩
end Go.Proofs.Ytiiifcfgfmoiaaa
