/-
  The landed sha: the end of a sum.
-/
import Derived.Test.YtiiifcfgfmoiaaaHash7
namespace Go.Proofs.Ytiiifcfgfmoiaaa
open Go.RowKit

theorem Sl.one8 (w : World) (t : TypeId) (x : Int) (hx : (Lit.int .u8 x).wf = true) : Sl .u8 (w.alloc (.cells #[.int .u8 x] t)) (.slice (some ⟨w.heap.size, 0, none⟩) 1 1) [x] :=
  ⟨_, 1, rfl, Nat.le_refl _, by decide, Rd.one w (.int .u8 x) t, by simpa using hx⟩
/-- One byte added, out of a new slice. -/
theorem add_one (w : World) (H g : Nat) (x : List Int) (b : Int) (hb : (Lit.int .u8 b).wf = true) (t : TypeId) (hl : x.length + 1 ≤ 2305843009213693951) (hgH : g ≠ H) (hK : KT w g) (hS : HS w H (.pointer (some ⟨g, 11, none⟩)) x) :
    Calls Try.prog 24 #[.pointer (some ⟨H, 0, none⟩), .slice (some ⟨w.heap.size, 0, none⟩) 1 1] (w.alloc (.cells #[.int .u8 b] t)) fun e w' => e = .returned (.tuple #[]) ∧ HS w' H (.pointer (some ⟨g, 11, none⟩)) (x ++ [b]) ∧ Keep [H] w w' := by
  have hk : Keep [] w (w.alloc (.cells #[.int .u8 b] t)) := (Keep.refl _ _).alloc _
  have hH : H < w.heap.size := by obtain ⟨r, _, hB⟩ := hS; exact hB.lt
  refine (add_any _ H g _ x [b] hl hgH (hK.keep hk (by simp)) (hS.keep hk (by simp)) (Sl.one8 w t b hb) (fun _ c hc => ?_)).mono ?_
  · simp [Value.ownBlock] at hc
    omega
  · rintro e w' ⟨rfl, h1, h2⟩
    exact ⟨rfl, h1, hk.more0.trans h2⟩

/-- A message with what ends it, j noughts. -/
def pads (x : List Int) (j : Nat) : List Int := x ++ 128 :: List.replicate j 0
theorem pads_length (x : List Int) (j : Nat) : (pads x j).length = x.length + 1 + j := by simp [pads]; omega
theorem pads_succ (x : List Int) (j : Nat) : pads x j ++ [0] = pads x (j + 1) := by simp [pads, List.replicate_succ']
/-- And q bytes of its length in bits. -/
def padq (x : List Int) (q : Nat) : List Int := pads x (Sha.gap x.length) ++ (bb ((x.length * 8 : Nat) : Int) 8).take q
theorem padq_full (x : List Int) : padq x 8 = Sha.pad x := by
  unfold padq Sha.pad pads
  rw [List.take_of_length_le (by rw [bb_length]; exact Nat.le_refl _)]
  simp
theorem padq_succ (x : List Int) (q : Nat) (h : q < 8) : padq x q ++ [((x.length * 8 : Nat) : Int) / 2 ^ (8 * (7 - q)) % 256] = padq x (q + 1) := by
  unfold padq
  rw [bb_take_succ _ 8 q h, List.append_assoc, show 8 - 1 - q = 7 - q by omega, Int.pow_mul]
  rfl
theorem padq_length (x : List Int) (q : Nat) (h : q ≤ 8) : (padq x q).length = x.length + 1 + Sha.gap x.length + q := by
  unfold padq
  rw [List.length_append, pads_length, List.length_take_of_le (by rw [bb_length]; exact h)]

noncomputable def hen0 : Code := loopOf Try.f25 0

set_option maxRecDepth 100000 in
set_option maxHeartbeats 4000000 in
theorem el0 (R : Act → World → Prop) (a : Act) (w : World) (H g : Nat) (v2 v3 : Value) (x : List Int) (hl : Hid (x.length ≤ 1152921504606846975)) (hgH : Hid (g ≠ H)) (hK : Hid (KT w g))
    (hS : Hid (HS w H (.pointer (some ⟨g, 11, none⟩)) (pads x 0)))
    (hF : Fr 62 [(0, .pointer (some ⟨H, 0, none⟩)), (2, v2), (3, v3)] a)
    (hQ : ∀ a' w', Fr 62 [(0, .pointer (some ⟨H, 0, none⟩)), (2, v2), (3, v3)] a' → HS w' H (.pointer (some ⟨g, 11, none⟩)) (pads x (Sha.gap x.length)) → Keep [H] w w' → R a' w') :
    Code.wp Try.prog (.loop hen0) (OutX 0 R) a w := by
  refine wp_loop_ghost_k (fun m a wr => ∃ j, m + j = Sha.gap x.length ∧ Fr 62 [(0, .pointer (some ⟨H, 0, none⟩)), (2, v2), (3, v3)] a ∧ HS wr H (.pointer (some ⟨g, 11, none⟩)) (pads x j) ∧ Keep [H] w wr)
    (Sha.gap x.length) ⟨0, rfl, hF, hS.out, Keep.refl _ _⟩ ?_
  clear hS hF
  intro m a wr ⟨j, hmj, hFr, hS, hk⟩ J K hJ hK1
  have HK := Lib.hid hk
  have HJ := Lib.hid hJ
  have HMJ := Lib.hid hmj
  have HKT := Lib.hid (hK.out.keep HK.out (by simpa using hgH.out))
  have HSS := Lib.hid hS
  obtain ⟨f, ⟨f0, f2, f3, -⟩, rfl⟩ := hFr.open62
  simp only [f0, f2, f3]
  clear f0 f2 f3 hFr hk hJ
  conv => arg 2; whnf
  have c9 : wr.cell? ⟨H, 9, none⟩ = some (.int .u64 ((x.length + 1 + j : Nat) : Int)) := by
    obtain ⟨r, _, hB⟩ := hS
    rw [hB.cell, pads_length]; rfl
  clear hS
  have hgap : Sha.gap x.length < 64 := Nat.mod_lt _ (by decide)
  by_cases hlt : j < Sha.gap x.length
  · clear hQ
    have hm : ((((x.length + 1 + j : Nat) : Int) % 64) == 56) = false := by
      unfold Sha.gap at hlt; simp; omega
    have AD := Lib.hid (add_one wr H g (pads x j) 0 (by decide) 5 (by have := hl.out; rw [pads_length]; omega) hgH.out HKT.out HSS.out)
    rw [pads_succ] at AD
    generalize x.length + 1 + j = n at *
    have HLT := Lib.hid hlt
    clear hmj hgap hlt
    go_wp2_with (go_at_call 24; with_reducible refine AD.out.mono ?_; rintro e w4 ⟨rfl, hS4, hk4⟩; have HS4 := Lib.hid hS4; have HK4 := Lib.hid hk4; clear hS4 hk4)
    exact Handed.intro (m - 1) (by have := HMJ.out; have := HLT.out; omega) (HJ.out _ _ _ ⟨j + 1, by have := HMJ.out; have := HLT.out; omega, ⟨rfl, rfl, by repeat (first | exact trivial | refine ⟨rfl, ?_⟩)⟩, HS4.out, HK.out.trans HK4.out⟩)
  · obtain rfl : j = Sha.gap x.length := by omega
    have hm : ((((x.length + 1 + Sha.gap x.length : Nat) : Int) % 64) == 56) = true := by
      unfold Sha.gap; simp; omega
    have hQ' := Lib.hid hQ
    clear hQ hmj hgap hlt
    generalize x.length + 1 + Sha.gap x.length = n at *
    go_wp2_with fail
    exact ⟨rfl, hQ'.out _ _ ⟨rfl, rfl, by repeat (first | exact trivial | refine ⟨rfl, ?_⟩)⟩ HSS.out HK.out⟩

noncomputable def hen1 : Code := loopOf Try.f25 1

set_option maxRecDepth 100000 in
set_option maxHeartbeats 4000000 in
theorem el1 (R : Act → World → Prop) (a : Act) (w : World) (H g : Nat) (v2 : Value) (x : List Int) (hl : Hid (x.length ≤ 1152921504606846975)) (hgH : Hid (g ≠ H)) (hK : Hid (KT w g)) (M : Int) (hM : Hid (M = ((x.length * 8 : Nat) : Int)))
    (hS : Hid (HS w H (.pointer (some ⟨g, 11, none⟩)) (padq x 0)))
    (hF : Fr 62 [(0, .pointer (some ⟨H, 0, none⟩)), (2, v2), (3, .int .u64 M), (4, .int .i64 56)] a)
    (hQ : ∀ a' w', Fr 62 [(0, .pointer (some ⟨H, 0, none⟩)), (2, v2)] a' → HS w' H (.pointer (some ⟨g, 11, none⟩)) (Sha.pad x) → Keep [H] w w' → R a' w') :
    Code.wp Try.prog (.loop hen1) (OutX 2 R) a w := by
  refine wp_loop_ghost_k (fun m a wr => m ≤ 8 ∧ Fr 62 [(0, .pointer (some ⟨H, 0, none⟩)), (2, v2), (3, .int .u64 M), (4, .int .i64 (8 * (m : Int) - 8))] a ∧ HS wr H (.pointer (some ⟨g, 11, none⟩)) (padq x (8 - m)) ∧ Keep [H] w wr)
    8 ⟨Nat.le_refl _, hF, by rw [Nat.sub_self]; exact hS.out, Keep.refl _ _⟩ ?_
  clear hS hF
  intro m a wr ⟨hm8, hFr, hS, hk⟩ J K hJ hK1
  have HK := Lib.hid hk
  have HJ := Lib.hid hJ
  have HKT := Lib.hid (hK.out.keep HK.out (by simpa using hgH.out))
  have HSS := Lib.hid hS
  obtain ⟨f, ⟨f0, f2, f3, f4, -⟩, rfl⟩ := hFr.open62
  simp only [f0, f2, f3, f4]
  clear f0 f2 f3 f4 hFr hk hJ hS
  conv => arg 2; whnf
  cases m with
  | zero =>
    have hQ' := Lib.hid hQ
    clear hQ
    go_wp2_with fail
    exact ⟨rfl, hQ'.out _ _ ⟨rfl, rfl, by repeat (first | exact trivial | refine ⟨rfl, ?_⟩)⟩ (by rw [← padq_full]; exact HSS.out) HK.out⟩
  | succ q =>
    clear hQ
    have hM0 : 0 ≤ M := by have := hM.out; omega
    have hM1 : M ≤ 9223372036854775800 := by have h1 := hM.out; have h2 := hl.out; omega
    have hgap : Sha.gap x.length < 64 := Nat.mod_lt _ (by decide)
    have hps := padq_succ x (8 - (q + 1)) (by omega)
    rw [← hM.out, show 7 - (8 - (q + 1)) = q by omega, show 8 - (q + 1) + 1 = 8 - q by omega] at hps
    have AD := Lib.hid (add_one wr H g (padq x (8 - (q + 1))) (M / 2 ^ (8 * q) % 256) (u8_wf (by omega) (by omega)) 5 (by have := hl.out; rw [padq_length x _ (by omega)]; omega) hgH.out HKT.out HSS.out)
    rw [hps] at AD
    clear hps hgap
    rw [show (8 * (((q + 1 : Nat) : Int)) - 8) = ((8 * q : Nat) : Int) by omega]
    go_wp2_with (go_at_call 24; with_reducible refine AD.out.mono ?_; rintro e w4 ⟨rfl, hS4, hk4⟩; have HS4 := Lib.hid hS4; have HK4 := Lib.hid hk4; clear hS4 hk4)
    exact Handed.intro q (Nat.lt_succ_self q) (HJ.out _ _ _ ⟨by omega, ⟨rfl, rfl, by repeat (first | exact trivial | refine ⟨rfl, ?_⟩)⟩, HS4.out, HK.out.trans HK4.out⟩)

theorem bytes_get (s : Sha.St) (i j : Nat) (hi : i < 8) (hj : j < 4) : (Sha.bytes s)[4 * i + j]? = some ((s.list.getD i 0 : Nat) / 2 ^ (24 - 8 * j) % 256) := by
  rcases (show i = 0 ∨ i = 1 ∨ i = 2 ∨ i = 3 ∨ i = 4 ∨ i = 5 ∨ i = 6 ∨ i = 7 by omega) with rfl | rfl | rfl | rfl | rfl | rfl | rfl | rfl <;>
  rcases (show j = 0 ∨ j = 1 ∨ j = 2 ∨ j = 3 by omega) with rfl | rfl | rfl | rfl <;> simp [Sha.bytes, Sha.St.list, bb]
theorem bytes_length (s : Sha.St) : (Sha.bytes s).length = 32 := by simp [Sha.bytes, Sha.St.list, bb_length]
/-- The row, its first n bytes laid. -/
def outR (L : List Int) (n : Nat) : List Value := (L.take n ++ List.replicate (32 - n) 0).map (Value.int .u8)
theorem outR_set (L : List Int) (n : Nat) (x : Int) (hL : L.length = 32) (h : n < 32) (hx : L[n]? = some x) : (outR L n).toArray.setIfInBounds n (.int .u8 x) = (outR L (n + 1)).toArray := by
  have ht : L.take (n + 1) = L.take n ++ [x] := by rw [List.take_add_one, hx]; rfl
  have hl : (L.take n).length = n := by rw [List.length_take_of_le (by omega)]
  unfold outR
  rw [ht, show 32 - n = (32 - (n + 1)) + 1 by omega, List.replicate_succ]
  simp only [List.map_append, List.map_cons, List.setIfInBounds_toArray]
  rw [List.set_append_right _ _ (by rw [List.length_map, hl]; exact Nat.le_refl _), List.length_map, hl, Nat.sub_self]
  simp
theorem outR_size (L : List Int) (n : Nat) (hL : L.length = 32) (h : n ≤ 32) : (outR L n).length = 32 := by
  unfold outR
  rw [List.length_map, List.length_append, List.length_take_of_le (by omega), List.length_replicate]
  omega

noncomputable def hen3 : Code := loopOf Try.f25 3

set_option maxRecDepth 100000 in
set_option maxHeartbeats 4000000 in
theorem el3 (R : Act → World → Prop) (a : Act) (w : World) (gs i x : Nat) (v2 : Value) (C : Array Value) (L : List Int) (hi : i < 8) (_hx : x < 4294967296) (hL : Hid (L.length = 32))
    (hg : Hid (∀ j, j < 4 → L[4 * i + j]? = some ((x : Int) / 2 ^ (24 - 8 * j) % 256)))
    (hB : Hid (Blk w gs 22 (outR L (4 * i)).toArray))
    (hF : Fr 62 [(2, v2), (5, .pointer (some ⟨gs, 0, none⟩)), (6, .int .i64 i), (7, .int .u32 x), (40, .agg C), (41, .int .i64 i), (45, .int .i64 0)] a)
    (hQ : ∀ a' w', Fr 62 [(2, v2), (5, .pointer (some ⟨gs, 0, none⟩)), (40, .agg C), (41, .int .i64 i)] a' → Blk w' gs 22 (outR L (4 * (i + 1))).toArray → Keep [gs] w w' → R a' w') :
    Code.wp Try.prog (.loop hen3) (OutX 6 R) a w := by
  refine wp_loop_ghost_k (fun m a wr => ∃ j, m + j = 4 ∧ Fr 62 [(2, v2), (5, .pointer (some ⟨gs, 0, none⟩)), (6, .int .i64 i), (7, .int .u32 x), (40, .agg C), (41, .int .i64 i), (45, .int .i64 j)] a ∧ Blk wr gs 22 (outR L (4 * i + j)).toArray ∧ Keep [gs] w wr)
    4 ⟨0, rfl, hF, hB.out, Keep.refl _ _⟩ ?_
  clear hB hF
  intro m a wr ⟨j, hmj, hFr, hB, hk⟩ J K hJ hK1
  have HB := Lib.hid hB
  have HK := Lib.hid hk
  have HJ := Lib.hid hJ
  have HMJ := Lib.hid hmj
  obtain ⟨f, ⟨f2, f5, f6, f7, f40, f41, f45, -⟩, rfl⟩ := hFr.open62
  simp only [f2, f5, f6, f7, f40, f41, f45]
  clear f2 f5 f6 f7 f40 f41 f45 hFr hk hJ hB
  conv => arg 2; whnf
  by_cases hlt : j < 4
  · clear hQ
    have HS := Lib.hid (outR_set L (4 * i + j) _ hL.out (by omega) (hg.out j hlt))
    obtain ⟨q, hq⟩ : ∃ q, q = 4 * i + j := ⟨_, rfl⟩
    have hsz := outR_size L (4 * i + j) hL.out (by omega)
    obtain ⟨u, hu0⟩ : ∃ u, (outR L (4 * i + j))[q]? = some u := ⟨_, List.getElem?_eq_getElem (by rw [hsz]; omega)⟩
    have hu : wr.cell? ⟨gs, q, none⟩ = some u := by rw [HB.out.cell]; simpa using hu0
    clear hsz hu0
    have fz := HB.out.frozen q
    have e1 : IntKind.i64.wrap (4 * (i : Int)) = 4 * i := IntWalk.i64_in _ ⟨by omega, by omega⟩
    have e2 : IntKind.i64.wrap (4 * (i : Int) + j) = (q : Nat) := by rw [IntWalk.i64_in _ ⟨by omega, by omega⟩]; omega
    have e3 : IntKind.i64.wrap (8 * (j : Int)) = 8 * j := IntWalk.i64_in _ ⟨by omega, by omega⟩
    have e4 : IntKind.i64.wrap (24 - 8 * (j : Int)) = ((24 - 8 * j : Nat) : Int) := by rw [IntWalk.i64_in _ ⟨by omega, by omega⟩]; omega
    have hq32 : q < 32 := by omega
    have HQ := Lib.hid hq
    clear hq hmj
    go_wp2_with fail
    have hb2 := HB.out.set_ q (.int .u8 ((x : Int) / 2 ^ (24 - 8 * j) % 256))
    rw [show (outR L (4 * i + j)).toArray.setIfInBounds q (.int .u8 ((x : Int) / 2 ^ (24 - 8 * j) % 256)) = (outR L (4 * i + j + 1)).toArray by rw [HQ.out]; exact HS.out] at hb2
    exact Handed.intro (m - 1) (by have := HMJ.out; omega) (HJ.out _ _ _ ⟨j + 1, by have := HMJ.out; omega, ⟨rfl, rfl, by repeat (first | exact trivial | refine ⟨rfl, ?_⟩)⟩, by rw [← Nat.add_assoc]; exact hb2, HK.out.setCell (.inl (by simp)) _⟩)
  · obtain rfl : j = 4 := by omega
    have hQ' := Lib.hid hQ
    clear hQ
    go_wp2_with fail
    exact ⟨rfl, hQ'.out _ _ ⟨rfl, rfl, by repeat (first | exact trivial | refine ⟨rfl, ?_⟩)⟩ (by rw [show 4 * (i + 1) = 4 * i + 4 by omega]; exact HB.out) HK.out⟩

noncomputable def hen2 : Code := loopOf Try.f25 2

set_option maxRecDepth 100000 in
set_option maxHeartbeats 4000000 in
theorem el2 (R : Act → World → Prop) (a : Act) (w : World) (gs : Nat) (s : Sha.St) (v2 : Value) (C : Array Value) (hC : Hid (C = (cellsN s.list).toArray)) (hs : Hid (St32 s))
    (hB : Hid (Blk w gs 22 (outR (Sha.bytes s) 0).toArray))
    (hF : Fr 62 [(2, v2), (5, .pointer (some ⟨gs, 0, none⟩)), (40, .agg C), (41, .int .i64 0)] a)
    (hQ : ∀ a' w', Fr 62 [(2, v2), (5, .pointer (some ⟨gs, 0, none⟩))] a' → Blk w' gs 22 (outR (Sha.bytes s) 32).toArray → Keep [gs] w w' → R a' w') :
    Code.wp Try.prog (.loop hen2) (OutX 4 R) a w := by
  refine wp_loop_ghost_k (fun m a wr => ∃ i, m + i = 8 ∧ Fr 62 [(2, v2), (5, .pointer (some ⟨gs, 0, none⟩)), (40, .agg C), (41, .int .i64 i)] a ∧ Blk wr gs 22 (outR (Sha.bytes s) (4 * i)).toArray ∧ Keep [gs] w wr)
    8 ⟨0, rfl, hF, hB.out, Keep.refl _ _⟩ ?_
  clear hB hF
  intro m a wr ⟨i, hmi, hFr, hB, hk⟩ J K hJ hK1
  have HB := Lib.hid hB
  have HK := Lib.hid hk
  have HJ := Lib.hid hJ
  have HMI := Lib.hid hmi
  obtain ⟨f, ⟨f2, f5, f40, f41, -⟩, rfl⟩ := hFr.open62
  simp only [f2, f5, f40, f41]
  clear f2 f5 f40 f41 hFr hk hJ hB
  conv => arg 2; whnf
  by_cases hlt : i < 8
  · clear hQ
    have hci : C[i]? = some (.int .u32 ((s.list.getD i 0 : Nat) : Int)) := by
      rw [hC.out]
      simpa using cellsN_get s.list i (by show i < 8; exact hlt)
    have HG := Lib.hid (fun j hj => bytes_get s i j hlt hj)
    have hx : s.list.getD i 0 < 4294967296 := by
      obtain ⟨l0, l1, l2, l3, l4, l5, l6, l7⟩ := hs.out
      rcases (show i = 0 ∨ i = 1 ∨ i = 2 ∨ i = 3 ∨ i = 4 ∨ i = 5 ∨ i = 6 ∨ i = 7 by omega) with rfl | rfl | rfl | rfl | rfl | rfl | rfl | rfl <;> assumption
    have HCI := Lib.hid hci
    have HX := Lib.hid hx
    generalize s.list.getD i 0 = x at *
    have HL := Lib.hid (bytes_length s)
    generalize Sha.bytes s = L at *
    clear hci hmi hx
    go_upto_block 6 with (refine wl_index_agg rfl _ _ _ rfl 55 8 Try.underlying64 .u32 Try.underlying55 (by kernel_rfl) _ .i64 i rfl rfl hlt _ HCI.out ?_)
    go_wp2_with fail
    refine OutX.use (el3 (fun a' w' => Fr 62 [(2, v2), (5, .pointer (some ⟨gs, 0, none⟩)), (40, .agg C), (41, .int .i64 i)] a' ∧ Blk w' gs 22 (outR L (4 * (i + 1))).toArray ∧ Keep [gs] wr w') _ wr gs i x v2 C L hlt HX.out HL HG HB
      ⟨rfl, rfl, by repeat (first | exact trivial | refine ⟨rfl, ?_⟩)⟩ (fun a' w' h1 h2 h3 => ⟨h1, h2, h3⟩)) ?_
    intro a' w2 ⟨hF2, hB2, hk2⟩
    have HB2 := Lib.hid hB2
    have HK2 := Lib.hid (HK.out.trans hk2)
    obtain ⟨f', ⟨f2, f5, f40, f41, -⟩, rfl⟩ := hF2.open62
    simp only [f2, f5, f40, f41]
    clear f2 f5 f40 f41 hF2 hB2 hk2
    go_wp2_with fail
    exact Handed.intro (m - 1) (by have := HMI.out; omega) (HJ.out _ _ _ ⟨i + 1, by have := HMI.out; omega, ⟨rfl, rfl, by repeat (first | exact trivial | refine ⟨rfl, ?_⟩)⟩, HB2.out, HK2.out⟩)
  · obtain rfl : i = 8 := by omega
    have hQ' := Lib.hid hQ
    clear hQ
    go_wp2_with fail
    exact ⟨rfl, hQ'.out _ _ ⟨rfl, rfl, by repeat (first | exact trivial | refine ⟨rfl, ?_⟩)⟩ HB.out HK.out⟩

theorem u8x32 : ∃ Z : Array Value, Z = (List.replicate 32 (Value.int .u8 0)).toArray ∧ Z.size = 32 ∧ (Try.prog.info? 22).map (fun i => (i.zero, i.size)) = some (some (.agg Z), 32) := ⟨_, rfl, by kernel_rfl, by kernel_rfl⟩
theorem hcs_words (s : Sha.St) (rp : Value) (n : Nat) (r : List Int) : ((hcs s rp n r).extract 0 (0 + 8)).toList = cellsN s.list := by
  have h : (cellsN s.list).length = 8 := by simp [cellsN, Sha.St.list]
  unfold hcs
  rw [Array.toList_extract, List.extract_eq_take_drop]
  show List.take (0 + 8 - 0) (List.drop 0 (cellsN s.list ++ (rp :: .int .u64 n :: r.map (Value.int .u8)))) = _
  rw [List.drop_zero, List.take_append_of_le_length (by omega), List.take_of_length_le (by omega)]

set_option maxRecDepth 100000 in
set_option maxHeartbeats 4000000 in
theorem end_any (w : World) (H g : Nat) (x : List Int) (hl : x.length ≤ 1152921504606846975) (hgH : g ≠ H) (hK : KT w g) (hS : HS w H (.pointer (some ⟨g, 11, none⟩)) x) :
    Calls Try.prog 25 #[.pointer (some ⟨H, 0, none⟩)] w fun e w' => e = .returned (arr (Sha.sum x)) ∧ Keep [H] w w' := by
  have HL := Lib.hid hl
  have HG := Lib.hid hgH
  have HK := Lib.hid hK
  have HSS := Lib.hid hS
  have hwH : H < w.heap.size := by obtain ⟨r, _, hB⟩ := hS; exact hB.lt
  have HWH := Lib.hid hwH
  obtain ⟨Z, hZ, hZs, hZi⟩ := u8x32
  have HZ := Lib.hid hZ
  have HZS := Lib.hid hZs
  have HZI := Lib.hid hZi
  clear hgH hK hS hwH hZ hZs hZi
  go_enter Try.func25, Try.ntmps25
  go_upto_region 1 with (refine wl_alloc_rowZ rfl _ rfl Z 32 HZI.out ?_; intro w1 hB1 hk1 hz1)
  have hS1 := HSS.out.keep hk1 (by simp)
  have hK1 := HK.out.keep hk1 (by simp)
  have c9 : w1.cell? ⟨H, 9, none⟩ = some (.int .u64 x.length) := by obtain ⟨r, _, hB⟩ := hS1; rw [hB.cell]; rfl
  obtain ⟨g2, hg2⟩ : ∃ g2, g2 = w.heap.size := ⟨_, rfl⟩
  rw [← hg2] at hB1 ⊢
  have hne : H ≠ g2 := by have := HWH.out; omega
  have AD := Lib.hid (add_one w1 H g x 128 (by decide) 5 (by omega) HG.out hK1 hS1)
  obtain ⟨M, hM⟩ : ∃ M : Int, M = ((x.length * 8 : Nat) : Int) := ⟨_, rfl⟩
  have hM8 : IntKind.u64.wrap ((x.length : Int) * 8) = M := by rw [IntWalk.u64_in _ ⟨by omega, by omega⟩, hM]; omega
  have HK1 := Lib.hid hK1
  have HB1 := Lib.hid hB1
  have HKK1 := Lib.hid hk1
  have HM := Lib.hid hM
  have HNE := Lib.hid hne
  have HG2 := Lib.hid hg2
  clear hS1 hK1 hB1 hk1 hz1 hM hne hg2 hl
  go_upto_block 0 with (go_at_call 24; with_reducible refine AD.out.mono ?_; rintro e w2 ⟨rfl, hS2, hk2⟩; have HS2 := Lib.hid hS2; have HK2 := Lib.hid hk2; clear hS2 hk2)
  go_wp2_with fail
  refine OutX.use (el0 (fun a' w' => Fr 62 [(0, .pointer (some ⟨H, 0, none⟩)), (2, .pointer (some ⟨g2, 0, none⟩)), (3, .int .u64 M)] a' ∧ HS w' H (.pointer (some ⟨g, 11, none⟩)) (padq x 0) ∧ Keep [H] w2 w') _ w2 H g _ _ x HL (Lib.hid HG.out) (Lib.hid (HK1.out.keep HK2.out (by simpa using HG.out))) (Lib.hid HS2.out)
    ⟨rfl, rfl, by repeat (first | exact trivial | refine ⟨rfl, ?_⟩)⟩ (fun a' w' h1 h2 h3 => ⟨h1, by unfold padq; rw [List.take_zero, List.append_nil]; exact h2, h3⟩)) ?_
  intro a' w3 ⟨hF3, hS3, hk3⟩
  have HS3 := Lib.hid hS3
  have HK3 := Lib.hid (HK2.out.trans hk3)
  obtain ⟨f, ⟨f0, f2, f3, -⟩, rfl⟩ := hF3.open62
  simp only [f0, f2, f3]
  clear f0 f2 f3 hF3 hS3 hk3
  go_upto_block 2 with fail
  go_wp2_with fail
  refine OutX.use (el1 (fun a' w' => Fr 62 [(0, .pointer (some ⟨H, 0, none⟩)), (2, .pointer (some ⟨g2, 0, none⟩))] a' ∧ HS w' H (.pointer (some ⟨g, 11, none⟩)) (Sha.pad x) ∧ Keep [H] w3 w') _ w3 H g _ x HL (Lib.hid HG.out) (Lib.hid (HK1.out.keep HK3.out (by simpa using HG.out))) M HM (Lib.hid HS3.out)
    ⟨rfl, rfl, by repeat (first | exact trivial | refine ⟨rfl, ?_⟩)⟩ (fun a' w' h1 h2 h3 => ⟨h1, h2, h3⟩)) ?_
  intro a' w4 ⟨hF4, hS4, hk4⟩
  have HK4 := Lib.hid (HK3.out.trans hk4)
  obtain ⟨f, ⟨f0, f2, -⟩, rfl⟩ := hF4.open62
  simp only [f0, f2]
  clear f0 f2 hF4 hk4
  obtain ⟨r, -, hB4⟩ := hS4
  obtain ⟨s, hs⟩ : ∃ s, s = Sha.blks (Sha.pad x) ((Sha.pad x).length / 64) := ⟨_, rfl⟩
  rw [← hs] at hB4
  have hs32 : St32 s := by rw [hs]; exact blks32 _ _
  have hsum : Sha.sum x = Sha.bytes s := by rw [hs]; rfl
  have HSUM := Lib.hid hsum
  have HS32 := Lib.hid hs32
  have HBH := Lib.hid hB4
  have HB2' := Lib.hid (HB1.out.keep HK4.out (by have := HNE.out; simp; omega))
  have HL32 := Lib.hid (bytes_length s)
  clear hs32 hsum hB4 hs HS3 HK2 HK3 HS2 HK1 AD hM8 HM c9
  go_upto_region 10 with (refine wl_alloc_rowZ rfl _ rfl Z 32 HZI.out ?_; intro w5 hB5 hk5 hz5)
  obtain ⟨g5, hg5⟩ : ∃ g5, g5 = w4.heap.size := ⟨_, rfl⟩
  rw [← hg5] at hB5 ⊢
  have hrg : w5.rangeAt H 0 (cellsN s.list) := by
    have := World.rangeAt_of_block (HBH.out.keep hk5 (by simp)) 0 8
    rwa [hcs_words] at this
  have hB0 : Blk w5 g5 22 (outR (Sha.bytes s) 0).toArray := by
    rw [show (outR (Sha.bytes s) 0).toArray = Z by rw [HZ.out]; rfl]
    exact hB5
  have HB0 := Lib.hid hB0
  have HRG := Lib.hid hrg
  have HB25 := Lib.hid (HB2'.out.keep hk5 (by simp))
  have HK5 := Lib.hid (HK4.out.trans0 hk5)
  have hne2 : g2 ≠ g5 := by have := HB2'.out.lt; omega
  have HNE2 := Lib.hid hne2
  have HG5 := Lib.hid (show w.heap.size ≤ g5 by have h1 := HKK1.out.size; have h2 := HK4.out.size; omega)
  clear hB5 hk5 hz5 hg5 hB0 hrg hne2 HB2' HBH HK4
  go_upto_block 4 with (refine wpList_load_mid rfl _ _ rfl H 0 rfl (cellsN s.list) _ HRG.out Try.underlying64 rfl (by rw [cellsN_length]; kernel_rfl) ?_)
  go_wp2_with fail
  refine OutX.use (el2 (fun a' w' => Fr 62 [(2, .pointer (some ⟨g2, 0, none⟩)), (5, .pointer (some ⟨g5, 0, none⟩))] a' ∧ Blk w' g5 22 (outR (Sha.bytes s) 32).toArray ∧ Keep [g5] w5 w') _ w5 g5 s _ _ (Lib.hid rfl) HS32 HB0
    ⟨rfl, rfl, by repeat (first | exact trivial | refine ⟨rfl, ?_⟩)⟩ (fun a' w' h1 h2 h3 => ⟨h1, h2, h3⟩)) ?_
  intro a' w6 ⟨hF6, hB6, hk6⟩
  obtain ⟨f, ⟨f2, f5, -⟩, rfl⟩ := hF6.open62
  simp only [f2, f5]
  clear f2 f5 hF6 HB0
  obtain ⟨D, hD⟩ : ∃ D, D = ((Sha.bytes s).map (Value.int .u8)).toArray := ⟨_, rfl⟩
  rw [show (outR (Sha.bytes s) 32).toArray = D by
    rw [hD]; unfold outR; rw [List.take_of_length_le (by rw [HL32.out]; exact Nat.le_refl _)]; simp] at hB6
  have hsz : D.size = 32 := by rw [hD]; simp [HL32.out]
  have hone : D.all (·.oneCell') = true := by rw [hD]; exact arr_cell _
  have HB6 := Lib.hid hB6
  have HK6 := Lib.hid hk6
  have HB26 := Lib.hid (HB25.out.keep hk6 (by have := HNE2.out; simp; omega))
  have HD := Lib.hid hD
  have HSZ := Lib.hid hsz
  have HONE := Lib.hid hone
  clear hB6 hk6 hD hsz hone HB25
  go_upto_region 19 with fail
  go_wp2_with (first
    | (refine wl_load_row rfl _ _ rfl g5 rfl 32 5 Try.underlying22 _ D HB6.out (by rw [HSZ.out]; kernel_rfl) ?_)
    | (refine wl_store_row rfl _ _ _ rfl g2 rfl D rfl _ _ HB26.out (by rw [HSZ.out]; kernel_rfl) (by rw [HSZ.out]; exact HZS.out) HONE.out ?_; intro w7 hB7 hk7 hz7))
  have hkall : Keep [H] w w7 := by
    have h0 : Keep [H] w w5 := HKK1.out.more0.trans HK5.out
    refine (h0.trans' HK6.out (fun g hg => ?_)).trans' hk7 (fun g hg => ?_)
    · right; have := HG5.out; simp at hg; omega
    · right; have := HG2.out; simp at hg; omega
  (try simp only [Exit.inBlock, Exit.then])
  refine bodyPost_ret (v := .agg D) ?_ rfl ?_
  · refine results_cell_row Try.results25 _ w7 g2 22 D (0, 0) _ ?_ hB7 Try.underlying22 rfl ?_
    · rfl
    · rw [HSZ.out]; kernel_rfl
  · exact ⟨by rw [HSUM.out, HD.out]; rfl, hkall⟩
end Go.Proofs.Ytiiifcfgfmoiaaa
