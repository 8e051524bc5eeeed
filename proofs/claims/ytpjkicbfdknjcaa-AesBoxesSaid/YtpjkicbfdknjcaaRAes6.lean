/-
  The document's round keys.
-/
import Derived.Test.YtpjkicbfdknjcaaRAes5
namespace Go.Proofs.Ytpjkicbfdknjcaa
open Go.RowKit

theorem own_some {w : World} {base n : Nat} {e : TypeId} {v : Value} {xs : List Value} (h : w.ownsRow base e 1 v n xs) (hn : 0 < n) : ∃ g c, v = .slice (some ⟨g, 0, none⟩) n c ∧ base ≤ g ∧ g < w.heap.size := by
  have hlt := h.lt
  rcases h.2 with ⟨hv, h0⟩ | ⟨g, cap, cur, hv, hb, _⟩
  · omega
  · exact ⟨g, cap, hv, hb, (hlt g (by rw [hv]; rfl)).2⟩
theorem nb_app (l m : List Int) (j : Nat) (h : j < l.length) : nb (l ++ m) j = nb l j := by
  unfold nb
  rw [List.getD_eq_getElem?_getD, List.getElem?_append_left h, List.getD_eq_getElem?_getD]
/-- The word so far. -/
def kpart (l : List Int) (n : Nat → Nat) (i k : Nat) : List Int := l ++ (List.range k).map fun j => ((nb l (4 * i - 16 + j) ^^^ n j : Nat) : Int)
theorem kpart_length (l : List Int) (n : Nat → Nat) (i k : Nat) (hl : l.length = 4 * i) : (kpart l n i k).length = 4 * i + k := by simp [kpart, hl]
theorem kpart_succ (l : List Int) (n : Nat → Nat) (i k : Nat) : kpart l n i (k + 1) = kpart l n i k ++ [((nb l (4 * i - 16 + k) ^^^ n k : Nat) : Int)] := by simp [kpart, List.range_succ]
theorem kpart_wf {l : List Int} (h : ∀ x ∈ l, (Lit.int .u8 x).wf = true) (n : Nat → Nat) (hn : ∀ j, n j < 256) (i k : Nat) : ∀ x ∈ kpart l n i k, (Lit.int .u8 x).wf = true := by
  intro x hx
  rcases List.mem_append.1 hx with h1 | h1
  · exact h x h1
  · obtain ⟨j, _, rfl⟩ := List.mem_map.1 h1
    have := Nat.xor_lt_two_pow (n := 8) (nb_lt h (4 * i - 16 + j)) (hn j)
    exact u8_wf (by omega) (by omega)

noncomputable def hkeysI : Code := loopOf Try.f26 1

set_option maxRecDepth 100000 in
set_option maxHeartbeats 4000000 in
theorem keys_inner (R : Act → World → Prop) (a : Act) (w0 w : World) (gb ob bc i cc T : Nat) (v5 : Value) (l : List Int) (n : Nat → Nat) (hl : Hid (l.length = 4 * i)) (hwf : Hid (∀ x ∈ l, (Lit.int .u8 x).wf = true)) (hi4 : 4 ≤ i) (hi : i ≤ 43) (hn : Hid (∀ j, n j < 256))
    (hO : Hid (w.ownsRow w0.heap.size 5 1 v5 (4 * i) (l.map (Value.int .u8)))) (hT : Hid (Blk w T 5 #[.int .u8 (n 0 : Nat), .int .u8 (n 1 : Nat), .int .u8 (n 2 : Nat), .int .u8 (n 3 : Nat)])) (hTv : Hid (∀ q, v5.ownBlock = some q → q ≠ T)) (hk : Hid (Keep [] w0 w))
    (hF : Fr 95 [(0, .slice (some ⟨gb, ob, none⟩) 256 bc), (5, v5), (6, .int .u8 (cc : Nat)), (7, .int .i64 i), (8, .slice (some ⟨T, 0, none⟩) 4 4), (9, .int .i64 0)] a)
    (hQ : ∀ a' w' v', Fr 95 [(0, .slice (some ⟨gb, ob, none⟩) 256 bc), (5, v'), (6, .int .u8 (cc : Nat)), (7, .int .i64 i)] a' → w'.ownsRow w0.heap.size 5 1 v' (4 * i + 4) ((kpart l n i 4).map (Value.int .u8)) → Keep [] w0 w' → R a' w') :
    Code.wp Try.prog (.loop hkeysI) (OutX 2 R) a w := by
  refine wp_loop_ghost_k (fun m a wr => ∃ (k : Nat) (v : Value), m + k = 4 ∧ Fr 95 [(0, .slice (some ⟨gb, ob, none⟩) 256 bc), (5, v), (6, .int .u8 (cc : Nat)), (7, .int .i64 i), (8, .slice (some ⟨T, 0, none⟩) 4 4), (9, .int .i64 k)] a ∧
      wr.ownsRow w0.heap.size 5 1 v (4 * i + k) ((kpart l n i k).map (Value.int .u8)) ∧ Blk wr T 5 #[.int .u8 (n 0 : Nat), .int .u8 (n 1 : Nat), .int .u8 (n 2 : Nat), .int .u8 (n 3 : Nat)] ∧ (∀ q, v.ownBlock = some q → q ≠ T) ∧ Keep [] w0 wr)
    4 ⟨0, v5, rfl, hF, by simpa [kpart] using hO.out, hT.out, hTv.out, hk.out⟩ ?_
  clear hF hO hT hTv hk
  rintro m a wr ⟨k, v, hmk, hFr, hO, hT, hTv, hk⟩ J K hJ hK1
  have HJ := Lib.hid hJ
  have HMK := Lib.hid hmk
  have HO := Lib.hid hO
  have HT := Lib.hid hT
  have HTV := Lib.hid hTv
  have HK := Lib.hid hk
  have HQ := Lib.hid hQ
  obtain ⟨f, ⟨f0, f5, f6, f7, f8, f9, -⟩, rfl⟩ := hFr.open95
  by_cases hlt : k < 4
  · obtain ⟨g, c, rfl, hg1, hg2⟩ := own_some hO (by omega)
    have hwk := kpart_wf hwf.out n hn.out i k
    have hsl := Sl.of_own hO hwk
    have hxc := sl_cell hsl (4 * i - 16 + k) (by rw [kpart_length _ _ _ _ hl.out]; omega)
    have hxe : nb (kpart l n i k) (4 * i - 16 + k) = nb l (4 * i - 16 + k) := nb_app _ _ _ (by rw [hl.out]; omega)
    rw [hxe] at hxc
    have hyc : wr.cell? ⟨T, k, none⟩ = some (.int .u8 ((n k : Nat) : Int)) := by
      rw [hT.cell]
      rcases (show k = 0 ∨ k = 1 ∨ k = 2 ∨ k = 3 by omega) with rfl | rfl | rfl | rfl <;> rfl
    have hgT := hTv g rfl
    have HGT := Lib.hid hgT
    have HKS := Lib.hid (kpart_succ l n i k)
    have HXC := Lib.hid hxc
    have HYC := Lib.hid hyc
    have R13 := keys_reg13 (fun a' w' => ∃ v', Fr 95 [(5, v'), (0, .slice (some ⟨gb, ob, none⟩) 256 bc), (6, .int .u8 (cc : Nat)), (7, .int .i64 i), (8, .slice (some ⟨T, 0, none⟩) 4 4), (9, .int .i64 k)] a' ∧ w'.ownsRow w0.heap.size 5 1 v' (4 * i + k + 1) ((kpart l n i k).map (Value.int .u8) ++ [.int .u8 ((nb l (4 * i - 16 + k) ^^^ n k : Nat) : Int)]) ∧ Keep [g] wr w' ∧ (∀ q, v'.ownBlock = some q → q = g ∨ wr.heap.size ≤ q))
    simp only [f0, f5, f6, f7, f8, f9]
    clear f0 f5 f6 f7 f8 f9 hFr hJ hO hT hTv hk hQ hmk hwk hsl hxc hxe hyc
    conv => arg 2; whnf
    go_upto_region 13 with fail
    refine OutN.use (R13 _ wr w0.heap.size gb ob bc g 0 c i k cc T (nb l (4 * i - 16 + k)) (n k) ((kpart l n i k).map (Value.int .u8)) hi4 hi hlt (nb_lt hwf.out _) (hn.out k) HO (Lib.hid HK.out.size) HXC HYC
      ⟨rfl, rfl, by repeat (first | exact trivial | refine ⟨rfl, ?_⟩)⟩ (Lib.hid fun a' w' v' h1 h2 h3 h4 => ⟨v', h1, h2, h3, h4⟩)) ?_
    rintro a' w3 ⟨v', hF3, hO3, hk3, hown⟩
    have HO3 := Lib.hid (show w3.ownsRow w0.heap.size 5 1 v' (4 * i + (k + 1)) ((kpart l n i (k + 1)).map (Value.int .u8)) by rw [HKS.out, List.map_append]; exact hO3)
    have HT3 := Lib.hid (HT.out.keep hk3 (by have := HGT.out; simp; omega))
    have HTV3 := Lib.hid (show ∀ q, v'.ownBlock = some q → q ≠ T from fun q hq => by
      rcases hown q hq with rfl | h
      · exact HGT.out
      · have := HT.out.lt
        omega)
    have HK3 := Lib.hid (HK.out.trans' hk3 (fun x hx => by right; simp at hx; omega))
    obtain ⟨f, ⟨f5, f0, f6, f7, f8, f9, -⟩, rfl⟩ := hF3.open95
    simp only [f0, f5, f6, f7, f8, f9]
    clear f0 f5 f6 f7 f8 f9 hF3 hO3 hk3 hown R13
    go_wp2_with fail
    exact Handed.intro (m - 1) (by have := HMK.out; omega) (HJ.out _ _ _ ⟨k + 1, v', by have := HMK.out; omega, ⟨rfl, rfl, by repeat (first | exact trivial | refine ⟨rfl, ?_⟩)⟩, HO3.out, HT3.out, HTV3.out, HK3.out⟩)
  · obtain rfl : k = 4 := by omega
    simp only [f0, f5, f6, f7, f8, f9]
    clear f0 f5 f6 f7 f8 f9 hFr hJ hO hT hTv hk hQ hmk
    conv => arg 2; whnf
    go_wp2_with fail
    exact ⟨rfl, HQ.out _ _ v ⟨rfl, rfl, by repeat (first | exact trivial | refine ⟨rfl, ?_⟩)⟩ HO.out HK.out⟩
end Go.Proofs.Ytpjkicbfdknjcaa
