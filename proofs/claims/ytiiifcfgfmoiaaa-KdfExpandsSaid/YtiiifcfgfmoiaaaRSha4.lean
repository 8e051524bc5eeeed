/-
  The document's answer to Sum: the schedule of a block.
-/
import Derived.Test.YtiiifcfgfmoiaaaRSha3
import Derived.Deep.QuietTactic
import Derived.BigQuiet
namespace Go.Proofs.Ytiiifcfgfmoiaaa
open Go.RowKit

/-- The first n words of the schedule of the block at p. -/
def pre (xs : List Int) (p : Nat) : Nat → List Nat
  | 0 => []
  | n + 1 => pre xs p n ++ [if n < 16 then part xs (p + 4 * n) 4 else Sha.wnext (pre xs p n)]
theorem pre_length (xs : List Int) (p n : Nat) : (pre xs p n).length = n := by
  induction n with
  | zero => rfl
  | succ n ih => simp [pre, ih]
theorem xor32 {a b : Nat} (ha : a < 4294967296) (hb : b < 4294967296) : a ^^^ b < 4294967296 := Nat.xor_lt_two_pow (n := 32) ha hb
theorem and32 {a b : Nat} (hb : b < 4294967296) : a &&& b < 4294967296 := Nat.and_lt_two_pow (n := 32) a hb
theorem rr32 (x k : Nat) (h : x < 4294967296) : Sha.rr x k < 4294967296 := Nat.or_lt_two_pow (n := 32) (Nat.lt_of_le_of_lt (Nat.div_le_self _ _) h) (Nat.mod_lt _ (by decide))
theorem mod32 (x : Nat) : x % 4294967296 < 4294967296 := Nat.mod_lt _ (by decide)
theorem part_lt (xs : List Int) (p : Nat) (h : ∀ x ∈ xs, (Lit.int .u8 x).wf = true) : part xs p 4 < 4294967296 := by
  have h1 := be_bound 0 ((xs.drop p).take 4) (by omega) (fun y hy => wf_u8 (h y (List.mem_of_mem_drop (List.mem_of_mem_take hy))))
  have h2 : (256 : Int) ^ ((xs.drop p).take 4).length ≤ 256 ^ 4 := by
    have : ((xs.drop p).take 4).length ≤ 4 := List.length_take_le _ _
    rcases (show ((xs.drop p).take 4).length = 0 ∨ ((xs.drop p).take 4).length = 1 ∨ ((xs.drop p).take 4).length = 2 ∨ ((xs.drop p).take 4).length = 3 ∨ ((xs.drop p).take 4).length = 4 by omega) with e | e | e | e | e <;> rw [e] <;> decide
  unfold part
  omega
theorem pre_lt (xs : List Int) (p n : Nat) (h : ∀ x ∈ xs, (Lit.int .u8 x).wf = true) : ∀ x ∈ pre xs p n, x < 4294967296 := by
  induction n with
  | zero => simp [pre]
  | succ n ih =>
    intro x hx
    simp only [pre, List.mem_append, List.mem_singleton] at hx
    rcases hx with hx | rfl
    · exact ih x hx
    · split
      · exact part_lt xs _ h
      · exact mod32 _
theorem pre_sched (xs : List Int) (p m : Nat) : pre xs p (16 + m) = Sha.sched (pre xs p 16) m := by
  induction m with
  | zero => rfl
  | succ m ih => rw [show 16 + (m + 1) = (16 + m) + 1 by omega, pre, ih, if_neg (by omega), Sha.sched]
theorem pre_words (xs : List Int) (p n : Nat) (h : n ≤ 16) (hp : p + 64 ≤ xs.length) : pre xs p n = Sha.words ((xs.drop p).take 64) n := by
  induction n with
  | zero => rfl
  | succ n ih =>
    rw [pre, ih (by omega), if_pos (by omega), Sha.words]
    congr 2
    unfold part Sha.word
    rw [List.drop_take, List.take_take, List.drop_drop, Nat.min_eq_left (by omega)]
theorem pre_64 (xs : List Int) (p : Nat) (hp : p + 64 ≤ xs.length) : pre xs p 64 = Sha.sched (Sha.words ((xs.drop p).take 64) 16) 48 := by
  rw [← pre_words xs p 16 (by omega) hp, ← pre_sched]

/-- The words in the row, the rest nought. -/
def filled (xs : List Int) (p i : Nat) : List Nat := pre xs p i ++ List.replicate (64 - i) 0
theorem filled_length (xs : List Int) (p i : Nat) (h : i ≤ 64) : (filled xs p i).length = 64 := by simp [filled, pre_length]; omega
theorem filled_at (xs : List Int) (p i : Nat) (h : i < 64) : (filled xs p i).getD i 0 = 0 := by
  simp [filled, List.getElem?_append_right, pre_length, List.getElem?_replicate, show 0 < 64 - i by omega]
theorem filled_set (xs : List Int) (p i x : Nat) (h : i < 64) (hx : x = if i < 16 then part xs (p + 4 * i) 4 else Sha.wnext (pre xs p i)) : (filled xs p i).set i x = filled xs p (i + 1) := by
  unfold filled
  rw [show 64 - i = (64 - (i + 1)) + 1 by omega, List.replicate_succ, List.set_append_right _ _ (by rw [pre_length]; exact Nat.le_refl _), pre_length, Nat.sub_self, List.set_cons_zero, pre, hx]
  simp
theorem filled_get (xs : List Int) (p i k : Nat) (h : k < i) : (filled xs p i).getD k 0 = (pre xs p i).getD k 0 := by
  simp [filled, List.getElem?_append_left, pre_length, h]

theorem s0_int (x : Nat) (h : x < 4294967296) : bits .xor .u32 (bits .xor .u32 (Sha.rr x 7 : Int) (Sha.rr x 18)) ((x : Int) / 8) = (Sha.s0 x : Nat) := by
  rw [u32_xor_nat _ _ (rr32 x 7 h) (rr32 x 18 h), show ((x : Int) / 8) = ((x / 8 : Nat) : Int) by omega, u32_xor_nat _ _ (xor32 (rr32 x 7 h) (rr32 x 18 h)) (by omega)]
  rfl
theorem s1_int (x : Nat) (h : x < 4294967296) : bits .xor .u32 (bits .xor .u32 (Sha.rr x 17 : Int) (Sha.rr x 19)) ((x : Int) / 1024) = (Sha.s1 x : Nat) := by
  rw [u32_xor_nat _ _ (rr32 x 17 h) (rr32 x 19 h), show ((x : Int) / 1024) = ((x / 1024 : Nat) : Int) by omega, u32_xor_nat _ _ (xor32 (rr32 x 17 h) (rr32 x 19 h)) (by omega)]
  rfl

theorem wrap4 (a b c d : Nat) : IntKind.u32.wrap (IntKind.u32.wrap (IntKind.u32.wrap ((a : Int) + b) + c) + d) = (((a + b + c + d) % 4294967296 : Nat) : Int) := by
  simp only [IntKind.wrap_u32']; omega

noncomputable def rb3 : Code := loopOf Try.f19 3

set_option maxRecDepth 100000 in
set_option maxHeartbeats 4000000 in
theorem rl3 (R : Act → World → Prop) (a : Act) (w : World) (xv hv kv : Value) (xs : List Int) (gw p : Nat)
    (hx : Hid (Sl .u8 w xv xs)) (hxb : Hid (∀ g, xv.ownBlock = some g → g ≠ gw)) (hat : p + 64 ≤ xs.length)
    (hB : Hid (Blk w gw 55 (cellsN (filled xs p 0)).toArray))
    (hF : Fr 313 [(3, hv), (5, xv), (7, kv), (8, .int .i64 p), (9, .slice (some ⟨gw, 0, none⟩) 64 64), (10, .int .i64 0)] a)
    (hQ : ∀ a' w', Fr 313 [(3, hv), (5, xv), (7, kv), (8, .int .i64 p), (9, .slice (some ⟨gw, 0, none⟩) 64 64)] a' →
      Blk w' gw 55 (cellsN (pre xs p 64)).toArray → Keep [gw] w w' → R a' w') :
    Code.wp Try.prog (.loop rb3) (OutX 6 R) a w := by
  refine wp_loop_ghost_k (fun m a wr => ∃ i, m + i = 64 ∧ Fr 313 [(3, hv), (5, xv), (7, kv), (8, .int .i64 p), (9, .slice (some ⟨gw, 0, none⟩) 64 64), (10, .int .i64 i)] a ∧
    Blk wr gw 55 (cellsN (filled xs p i)).toArray ∧ Keep [gw] w wr) 64 ⟨0, rfl, hF, hB.out, Keep.refl _ _⟩ ?_
  intro m a wr ⟨i, hmi, hFr, hBr, hk⟩ J K hJ hK
  have HB := Lib.hid hBr
  have HK := Lib.hid hk
  have HJ := Lib.hid hJ
  have HMI := Lib.hid hmi
  have hi64 : i ≤ 64 := by omega
  obtain ⟨f, ⟨f3, f5, f7, f8, f9, f10, -⟩, rfl⟩ := hFr.open313
  simp only [f3, f5, f7, f8, f9, f10]
  clear f3 f5 f7 f8 f9 f10 hF hFr hBr hk hJ hB hmi
  conv => arg 2; whnf
  by_cases h16 : i < 16
  · clear hQ
    go_upto_block 8 with fail
    go_wp2_with fail
    refine OutX.use (rl4 (fun a' w' => Fr 313 [(3, hv), (5, xv), (7, kv), (8, .int .i64 p), (9, .slice (some ⟨gw, 0, none⟩) 64 64), (10, .int .i64 i)] a' ∧
      Blk w' gw 55 (cellsN ((filled xs p i).set i (part xs (p + 4 * i) 4))).toArray ∧ Keep [gw] wr w') _ wr xv hv kv xs (filled xs p i) gw p i
      (hx.out.keep HK.out (fun _ g hg => by simpa using hxb.out g hg)) hxb h16 hat (filled_length xs p i hi64) (filled_at xs p i (by omega)) HB
      ⟨rfl, rfl, by repeat (first | exact trivial | refine ⟨rfl, ?_⟩)⟩ (fun a' w' h1 h2 h3 => ⟨h1, h2, h3⟩)) ?_
    intro a' w2 ⟨hF2, hB2, hk2⟩
    rw [filled_set xs p i _ (by omega) (if_pos h16).symm] at hB2
    have HB2 := Lib.hid hB2
    have HK2 := Lib.hid (HK.out.trans hk2)
    obtain ⟨g, ⟨f3, f5, f7, f8, f9, f10, -⟩, rfl⟩ := hF2.open313
    simp only [f3, f5, f7, f8, f9, f10]
    clear f3 f5 f7 f8 f9 f10 hF2 hB2 hk2
    go_wp2_with fail
    exact Handed.intro (m - 1) (by have := HMI.out; omega) (HJ.out _ _ _ ⟨i + 1, by have := HMI.out; omega, ⟨rfl, rfl, by repeat (first | exact trivial | refine ⟨rfl, ?_⟩)⟩, HB2.out, HK2.out⟩)
  by_cases hlt : i < 64
  · clear hQ
    obtain ⟨n15, h15⟩ : ∃ n, n = i - 15 := ⟨_, rfl⟩
    obtain ⟨n2, h2⟩ : ∃ n, n = i - 2 := ⟨_, rfl⟩
    obtain ⟨n16, h16'⟩ : ∃ n, n = i - 16 := ⟨_, rfl⟩
    obtain ⟨n7, h7⟩ : ∃ n, n = i - 7 := ⟨_, rfl⟩
    have hwf := pre_lt xs p i hx.out.wf
    have hcell : ∀ k, k < i → (cellsN (filled xs p i))[k]? = some (.int .u32 (((pre xs p i).getD k 0 : Nat) : Int)) := fun k hk => by
      rw [cellsN_get _ _ (by rw [filled_length xs p i hi64]; omega), filled_get xs p i k hk]
    have hlt' : ∀ k, k < i → (pre xs p i).getD k 0 < 4294967296 := fun k hk => hwf _ (by
      rw [List.getD_eq_getElem?_getD, List.getElem?_eq_getElem (by rw [pre_length]; exact hk)]
      exact List.getElem_mem _)
    have hnx : Sha.wnext (pre xs p i) = ((pre xs p i).getD n16 0 + Sha.s0 ((pre xs p i).getD n15 0) + (pre xs p i).getD n7 0 + Sha.s1 ((pre xs p i).getD n2 0)) % 4294967296 := by
      unfold Sha.wnext
      rw [pre_length, h16', h15, h7, h2]
    have c15 : wr.cell? ⟨gw, n15, none⟩ = some (.int .u32 (((pre xs p i).getD n15 0 : Nat) : Int)) := by rw [HB.out.cell]; simpa using hcell n15 (by omega)
    have c2 : wr.cell? ⟨gw, n2, none⟩ = some (.int .u32 (((pre xs p i).getD n2 0 : Nat) : Int)) := by rw [HB.out.cell]; simpa using hcell n2 (by omega)
    have c16 : wr.cell? ⟨gw, n16, none⟩ = some (.int .u32 (((pre xs p i).getD n16 0 : Nat) : Int)) := by rw [HB.out.cell]; simpa using hcell n16 (by omega)
    have c7 : wr.cell? ⟨gw, n7, none⟩ = some (.int .u32 (((pre xs p i).getD n7 0 : Nat) : Int)) := by rw [HB.out.cell]; simpa using hcell n7 (by omega)
    have T15 := Lib.hid (hlt' n15 (by omega))
    have T2 := Lib.hid (hlt' n2 (by omega))
    have T16 := Lib.hid (hlt' n16 (by omega))
    have T7 := Lib.hid (hlt' n7 (by omega))
    have HNX := Lib.hid hnx
    have S15 := Lib.hid (s0_int _ T15.out)
    have S2 := Lib.hid (s1_int _ T2.out)
    have R15 := fun k W h => Lib.hid (right_any ((pre xs p i).getD n15 0) k W T15.out h)
    have R2 := fun k W h => Lib.hid (right_any ((pre xs p i).getD n2 0) k W T2.out h)
    generalize (pre xs p i).getD n15 0 = x15 at *
    generalize (pre xs p i).getD n2 0 = x2 at *
    generalize (pre xs p i).getD n16 0 = x16 at *
    generalize (pre xs p i).getD n7 0 = x7 at *
    have e15 : IntKind.i64.wrap ((i : Int) - 15) = (n15 : Int) := by rw [IntWalk.i64_in _ ⟨by omega, by omega⟩]; omega
    have e2 : IntKind.i64.wrap ((i : Int) - 2) = (n2 : Int) := by rw [IntWalk.i64_in _ ⟨by omega, by omega⟩]; omega
    have e16 : IntKind.i64.wrap ((i : Int) - 16) = (n16 : Int) := by rw [IntWalk.i64_in _ ⟨by omega, by omega⟩]; omega
    have e7 : IntKind.i64.wrap ((i : Int) - 7) = (n7 : Int) := by rw [IntWalk.i64_in _ ⟨by omega, by omega⟩]; omega
    have b15 : (0 : Int) ≤ n15 ∧ (n15 : Int) < 64 := ⟨by omega, by omega⟩
    have b2 : (0 : Int) ≤ n2 ∧ (n2 : Int) < 64 := ⟨by omega, by omega⟩
    have b16 : (0 : Int) ≤ n16 ∧ (n16 : Int) < 64 := ⟨by omega, by omega⟩
    have b7 : (0 : Int) ≤ n7 ∧ (n7 : Int) < 64 := ⟨by omega, by omega⟩
    have bi : (0 : Int) ≤ i ∧ (i : Int) < 64 := ⟨by omega, by omega⟩
    have E2 := Lib.hid e2
    have E16 := Lib.hid e16
    have E7 := Lib.hid e7
    clear hwf hcell hlt' hnx h15 h2 h16' h7 e2 e16 e7
    go_upto_region 24 with fail
    go_quiet ((go_at_call 27; exact Calls.quiet_of (R15 _ _ (by simp)).out))
    rw [S15.out]
    have c2' : (wr.drewN nq).cell? ⟨gw, n2, none⟩ = some (.int .u32 (x2 : Int)) := c2
    have c16' : (wr.drewN nq).cell? ⟨gw, n16, none⟩ = some (.int .u32 (x16 : Int)) := c16
    have c7' : (wr.drewN nq).cell? ⟨gw, n7, none⟩ = some (.int .u32 (x7 : Int)) := c7
    have HB1 := Lib.hid (HB.out.drewN nq)
    have HK1 := Lib.hid (HK.out.drewN nq)
    clear c15 c2 c16 c7 HB HK e15 b15
    generalize wr.drewN nq = W1 at *
    clear nq
    have e2 := E2.out
    go_wp2_with fail
    go_quiet ((go_at_call 27; exact Calls.quiet_of (R2 _ _ (by simp)).out))
    rw [S2.out]
    have c16 : (W1.drewN nq).cell? ⟨gw, n16, none⟩ = some (.int .u32 (x16 : Int)) := c16'
    have c7 : (W1.drewN nq).cell? ⟨gw, n7, none⟩ = some (.int .u32 (x7 : Int)) := c7'
    have HB2 := Lib.hid (HB1.out.drewN nq)
    have HK2 := Lib.hid (HK1.out.drewN nq)
    clear c2' c16' c7' HB1 HK1 e2 b2 R15 R2
    generalize W1.drewN nq = W2 at *
    have e16 := E16.out
    have e7 := E7.out
    have ci : W2.cell? ⟨gw, i, none⟩ = some (.int .u32 0) := by
      rw [HB2.out.cell]
      have := cellsN_get (filled xs p i) i (by rw [filled_length xs p i hi64]; exact hlt)
      rw [filled_at xs p i hlt] at this
      simpa using this
    have fi := HB2.out.frozen i
    go_wp2_with fail
    go_region_with (fail)
    all_goals
      rw [wrap4, ← HNX.out]
      obtain ⟨W3, hW⟩ : ∃ W3, W3 = (W2.setCell ⟨gw, i, none⟩ (.int .u32 (Sha.wnext (pre xs p i) : Nat))).drew := ⟨_, rfl⟩
      have hB3 : Blk W3 gw 55 (cellsN (filled xs p (i + 1))).toArray := by
        have := (HB2.out.set_ i (.int .u32 (Sha.wnext (pre xs p i) : Nat))).drew
        rw [hW]
        have e : ((cellsN (filled xs p i)).toArray).setIfInBounds i (.int .u32 (Sha.wnext (pre xs p i) : Nat)) = (cellsN (filled xs p (i + 1))).toArray := by
          rw [← filled_set xs p i (Sha.wnext (pre xs p i)) hlt (if_neg h16).symm, ← cellsN_set]
          simp
        rw [e] at this
        exact this
      have hk3 : Keep [gw] w W3 := by rw [hW]; exact (HK2.out.setCell (.inl (by simp)) _).drew
      rw [← hW]
      have HB3 := Lib.hid hB3
      have HK3 := Lib.hid hk3
      clear hW hB3 hk3 e16 e7 c16 c7 ci fi b16 b7 HNX S15 S2
      go_wp2_with fail
      exact Handed.intro (m - 1) (by have := HMI.out; omega) (HJ.out _ _ _ ⟨i + 1, by have := HMI.out; omega, ⟨rfl, rfl, by repeat (first | exact trivial | refine ⟨rfl, ?_⟩)⟩, HB3.out, HK3.out⟩)
  · obtain rfl : i = 64 := by omega
    have hQ' := hQ
    clear hQ
    go_wp2
    have hb := HB.out
    rw [show filled xs p 64 = pre xs p 64 by simp [filled]] at hb
    exact ⟨rfl, hQ' _ _ ⟨rfl, rfl, by repeat (first | exact trivial | refine ⟨rfl, ?_⟩)⟩ hb HK.out⟩
end Go.Proofs.Ytiiifcfgfmoiaaa
