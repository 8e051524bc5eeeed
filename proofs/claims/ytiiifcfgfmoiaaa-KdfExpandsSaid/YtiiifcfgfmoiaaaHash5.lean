/-
  The landed sha: the rounds over a block.
-/
import Derived.Test.YtiiifcfgfmoiaaaHash4
namespace Go.Proofs.Ytiiifcfgfmoiaaa
open Go.RowKit

noncomputable def hmx0 : Code := loopOf Try.f33 0

theorem ch_not (e f g : Nat) (he : e < 4294967296) (hf : f < 4294967296) (hg : g < 4294967296) :
    bits .xor .u32 (bits .and .u32 (e : Int) f) (bits .and .u32 (bits .xor .u32 (if IntKind.u32.signed = true then -1 else IntKind.u32.max) (e : Int)) g) = (Sha.ch e f g : Nat) := by
  rw [← ch_int e f g he hf hg, show (if IntKind.u32.signed = true then -1 else IntKind.u32.max) = ((4294967295 : Nat) : Int) from rfl, show (4294967295 : Int) = ((4294967295 : Nat) : Int) by rfl, u32_xor_nat _ _ (by decide) he, u32_xor_nat _ _ he (by decide), Nat.xor_comm]

/-- The eight words in the frame. -/
def wfr (s : Sha.St) : List (Nat × Value) := [(3, .int .u32 s.a), (4, .int .u32 s.b), (5, .int .u32 s.c), (6, .int .u32 s.d), (7, .int .u32 s.e), (8, .int .u32 s.f), (9, .int .u32 s.g), (10, .int .u32 s.h)]

set_option maxRecDepth 100000 in
set_option maxHeartbeats 4000000 in
theorem ml0 (R : Act → World → Prop) (a : Act) (w : World) (H g gw : Nat) (s s0 : Sha.St) (ws : List Nat) (n : Nat) (r : List Int)
    (hs : Hid (St32 s)) (hws : Hid (ws.length = 64)) (hB : Hid (Blk w H 73 (hcs s0 (.pointer (some ⟨g, 11, none⟩)) n r))) (hW : Hid (Blk w gw 65 (cellsN ws).toArray))
    (hK : Hid (∀ i, i < 64 → w.cell? ⟨g, 11 + i, none⟩ = some (.int .u32 ((Sha.K.getD i 0 : Nat) : Int)))) (hgl : Hid (g < w.heap.size))
    (hF : Fr 139 ((0, .pointer (some ⟨H, 0, none⟩)) :: (2, .pointer (some ⟨gw, 0, none⟩)) :: (58, .int .i64 0) :: wfr s) a)
    (hQ : ∀ a' w', Fr 139 ((0, .pointer (some ⟨H, 0, none⟩)) :: wfr (Sha.rnds ws s 64)) a' → Keep [] w w' → R a' w') :
    Code.wp Try.prog (.loop hmx0) (OutX 0 R) a w := by
  refine wp_loop_ghost_k (fun m a wr => ∃ i, m + i = 64 ∧ Fr 139 ((0, .pointer (some ⟨H, 0, none⟩)) :: (2, .pointer (some ⟨gw, 0, none⟩)) :: (58, .int .i64 i) :: wfr (Sha.rnds ws s i)) a ∧ Keep [] w wr) 64 ⟨0, rfl, hF, Keep.refl _ _⟩ ?_
  intro m a wr ⟨i, hmi, hFr, hk1⟩ J K hJ hK1
  have HK := Lib.hid hk1
  have HJ := Lib.hid hJ
  have HMI := Lib.hid hmi
  have hi64 : i ≤ 64 := by omega
  by_cases hlt : i < 64
  · clear hQ
    have h32 := rnds32 ws hs.out i
    have HN := Lib.hid (show Sha.rnds ws s (i + 1) = Sha.rnd (Sha.K.getD i 0) (ws.getD i 0) (Sha.rnds ws s i) from rfl)
    generalize Sha.rnds ws s i = t at *
    obtain ⟨a0, a1, a2, a3, a4, a5, a6, a7⟩ := t
    obtain ⟨l0, l1, l2, l3, l4, l5, l6, l7⟩ := h32
    simp only at l0 l1 l2 l3 l4 l5 l6 l7
    obtain ⟨f, ⟨f0, f2, f58, f3, f4, f5, f6, f7, f8, f9, f10, -⟩, rfl⟩ := hFr.open139
    simp only [f0, f2, f58, f3, f4, f5, f6, f7, f8, f9, f10]
    clear f0 f2 f58 f3 f4 f5 f6 f7 f8 f9 f10 hF hFr hk1 hJ hmi
    conv => arg 2; whnf
    have CH := Lib.hid (ch_not a4 a5 a6 l4 l5 l6)
    have MJ := Lib.hid (maj_int a0 a1 a2 l0 l1 l2)
    have R0 := fun W => Lib.hid (rots0_any a0 W l0)
    have R1 := fun W => Lib.hid (rots1_any a4 W l4)
    have kcell : wr.cell? ⟨g, 11 + i, none⟩ = some (.int .u32 ((Sha.K.getD i 0 : Nat) : Int)) := (HK.out.cell hgl.out (by simp)).trans (hK.out i hlt)
    have wcell : wr.cell? ⟨gw, i, none⟩ = some (.int .u32 ((ws.getD i 0 : Nat) : Int)) := by
      rw [(hW.out.keep HK.out (by simp)).cell]
      simpa using cellsN_get ws i (by rw [hws.out]; exact hlt)
    have pcell : wr.cell? ⟨H, 8, none⟩ = some (.pointer (some ⟨g, 11, none⟩)) := by
      rw [(hB.out.keep HK.out (by simp)).cell]; rfl
    generalize Sha.K.getD i 0 = k at *
    generalize ws.getD i 0 = x at *
    clear l0 l1 l2 l3 l5 l6 l7 l4
    have bi : (0 : Int) ≤ i ∧ (i : Int) < 64 := ⟨by omega, by omega⟩
    go_upto_region 5 with fail
    go_quiet ((go_at_call 40; exact Calls.quiet_of_same (R1 _).out))
    rw [CH.out, sum5]
    obtain ⟨o, ho⟩ : ∃ o : Int, o = (((a7 + Sha.S1 a4 + Sha.ch a4 a5 a6 + k + x) % 4294967296 : Nat) : Int) := ⟨_, rfl⟩
    rw [← ho]
    have HO := Lib.hid ho
    have HK2 := Lib.hid (HK.out.drewN nq)
    clear ho HK CH R1 kcell wcell pcell
    generalize wr.drewN nq = W1 at *
    clear nq
    go_upto_region 7 with (go_at_call 40; with_reducible refine (R0 _).out.mono ?_; rintro e w1 ⟨rfl, rfl⟩)
    rw [MJ.out]
    obtain ⟨q, hq⟩ : ∃ q : Int, q = ((Sha.S0 a0 : Int) + (Sha.maj a0 a1 a2 : Nat)) % 4294967296 := ⟨_, rfl⟩
    rw [← hq]
    have E7 : Value.int .u32 (((a3 : Int) + o) % 4294967296) = .int .u32 ((Sha.rnd k x ⟨a0, a1, a2, a3, a4, a5, a6, a7⟩).e : Nat) := by
      congr 1
      have h1 := HO.out
      simp only [Sha.rnd, Sha.one]
      omega
    have E3 : Value.int .u32 ((o + q) % 4294967296) = .int .u32 ((Sha.rnd k x ⟨a0, a1, a2, a3, a4, a5, a6, a7⟩).a : Nat) := by
      congr 1
      have h1 := HO.out
      simp only [Sha.rnd, Sha.one]
      omega
    have HE7 := Lib.hid E7
    have HE3 := Lib.hid E3
    clear hq E3 E7 MJ R0
    go_wp2
    refine Handed.intro (m - 1) (by have := HMI.out; omega) (HJ.out _ _ _ ⟨i + 1, by have := HMI.out; omega, ⟨rfl, rfl, ?_⟩, HK2.out⟩)
    rw [HN.out]
    refine ⟨rfl, rfl, rfl, HE3.out, rfl, rfl, rfl, HE7.out, rfl, rfl, rfl, trivial⟩
  · obtain rfl : i = 64 := by omega
    have hQ' := hQ
    have HFR := hFr
    obtain ⟨f, ⟨f0, f2, f58, f3, f4, f5, f6, f7, f8, f9, f10, -⟩, rfl⟩ := hFr.open139
    simp only [f0, f2, f58, f3, f4, f5, f6, f7, f8, f9, f10]
    clear f0 f2 f58 f3 f4 f5 f6 f7 f8 f9 f10 hF HFR hJ hmi hQ
    conv => arg 2; whnf
    obtain ⟨t, ht⟩ : ∃ t, t = Sha.rnds ws s 64 := ⟨_, rfl⟩
    rw [← ht] at hQ' ⊢
    obtain ⟨a0, a1, a2, a3, a4, a5, a6, a7⟩ := t
    have HQ := Lib.hid hQ'
    clear hQ' ht
    go_wp2
    exact ⟨rfl, HQ.out _ _ ⟨rfl, rfl, by repeat (first | exact trivial | refine ⟨rfl, ?_⟩)⟩ HK.out⟩
end Go.Proofs.Ytiiifcfgfmoiaaa
