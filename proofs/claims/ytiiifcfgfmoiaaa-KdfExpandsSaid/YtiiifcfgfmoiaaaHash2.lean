/-
  The landed sha: a block's words, and those that are made of them.
-/
import Derived.Test.YtiiifcfgfmoiaaaHash1
import Derived.Test.YtiiifcfgfmoiaaaOpens
import Derived.Test.YtiiifcfgfmoiaaaArr
import Derived.Deep.MidRow
namespace Go.Proofs.Ytiiifcfgfmoiaaa
open Go.RowKit

section
variable {P : Program}
theorem run_index_agg (w : World) (t e : TypeId) (n : Nat) (hu : P.underlying t = some (.array n e)) (ik : IntKind) (he : P.underlying e = some (.int ik)) (hs : (P.info? e).map (·.size) = some 1) (cs : Array Value) (k : IntKind) (i : Nat) (hi : i < n) (v : Value) (hc : cs[i]? = some v) :
    (Instr.index t (.agg cs) (.int k i)).run P w = .ok v w := by
  obtain ⟨ie, h1, h2⟩ := Option.map_eq_some_iff.1 hs
  simp [Instr.index, asIntOf, run_underlying hu, sizeOf, typeInfo, h1, h2, Go.part, isAgg, run_underlying he, hc, hi]
/-- An entry of an array by value. -/
theorem wl_index_agg {ops : Array Oper} {rest : List Oper} {o : Oper} {a : Act} {w : World} {Q : Exit → Act → World → Prop} (hgd : o.guard = none) (t : TypeId) (x y : Operand) (ho : o.op = .index t x y)
    (e : TypeId) (n : Nat) (hu : P.underlying t = some (.array n e)) (ik : IntKind) (he : P.underlying e = some (.int ik)) (hs : (P.info? e).map (·.size) = some 1) (cs : Array Value) (k : IntKind) (i : Nat) (hx : a.eval x = .agg cs) (hy : a.eval y = .int k i)
    (hi : i < n) (v : Value) (hc : cs[i]? = some v) (h : wpList P ops Q rest (a.put o.dst v) w) : wpList P ops Q (o :: rest) a w := by
  refine wpList_plain hgd fun K hK => ?_
  unfold Oper.wp execOp
  simp only [ho, hx, hy, Sem.run_bind, run_index_agg w t e n hu ik he hs cs k i hi v hc, Result.andThen_ok]
  exact hK _ _ h
end

theorem or_join32 (a y : Int) (h0 : 0 ≤ a) (h1 : a ≤ 16777215) (h2 : 0 ≤ y) (h3 : y ≤ 255) : bits .or .u32 (a * 256) y = a * 256 + y := by
  obtain ⟨m, rfl⟩ := Int.eq_ofNat_of_zero_le h0
  obtain ⟨n, rfl⟩ := Int.eq_ofNat_of_zero_le h2
  have := u32_or_nat (m * 256) n (by omega) (by omega)
  rw [show ((m * 256 : Nat) : Int) = (m : Int) * 256 by omega] at this
  rw [this, nat_join 8 (m * 256) n (by omega) (by omega)]
  omega

theorem part_next (xs : List Int) (p j : Nat) (hj : j < 4) (h : p + j < xs.length) (hwf : ∀ x ∈ xs, (Lit.int .u8 x).wf = true) :
    ((part xs p (j + 1) : Nat) : Int) = (part xs p j : Nat) * 256 + xs.getD (p + j) 0 ∧ part xs p j < 16777216 ∧ 0 ≤ xs.getD (p + j) 0 ∧ xs.getD (p + j) 0 ≤ 255 := by
  have hy := wf_u8 (wf_getD hwf (p + j) h)
  have b0 := be_bound 0 ((xs.drop p).take j) (by omega) (fun y hy => wf_u8 (hwf y (List.mem_of_mem_drop (List.mem_of_mem_take hy))))
  have b1 := be_bound 0 ((xs.drop p).take (j + 1)) (by omega) (fun y hy => wf_u8 (hwf y (List.mem_of_mem_drop (List.mem_of_mem_take hy))))
  have e : be 0 ((xs.drop p).take (j + 1)) = be 0 ((xs.drop p).take j) * 256 + xs.getD (p + j) 0 := by
    rw [List.take_add_one, List.getElem?_drop, List.getElem?_eq_getElem h, List.getD_eq_getElem?_getD, List.getElem?_eq_getElem h]
    exact be_snoc _ _ _
  have hl : ((xs.drop p).take j).length = j := by rw [List.length_take_of_le (by simp; omega)]
  rw [hl] at b0
  have h3 : (256 : Int) ^ j ≤ 16777216 := by
    rcases (show j = 0 ∨ j = 1 ∨ j = 2 ∨ j = 3 by omega) with rfl | rfl | rfl | rfl <;> decide
  refine ⟨?_, ?_, ?_, ?_⟩
  · unfold part; omega
  · unfold part; omega
  · simpa using hy.1
  · simpa using hy.2

/-- The words behind j bytes. -/
def fw (r : List Int) (j : Nat) : List Nat := (List.range 64).map fun i => part r (4 * i) (min 4 (j - 4 * i))
theorem fw_length (r : List Int) (j : Nat) : (fw r j).length = 64 := by simp [fw]
theorem fw_get (r : List Int) (j i : Nat) (h : i < 64) : (fw r j).getD i 0 = part r (4 * i) (min 4 (j - 4 * i)) := by
  simp [fw, h]
theorem fw_set (r : List Int) (j : Nat) (_h : j < 64) : (fw r j).set (j / 4) (part r (4 * (j / 4)) (j % 4 + 1)) = fw r (j + 1) := by
  apply List.ext_getElem
  · simp [fw]
  · intro i h1 h2
    rw [List.getElem_set]
    simp only [fw, List.getElem_map, List.getElem_range]
    split
    · next e =>
      subst e
      rw [show min 4 (j + 1 - 4 * (j / 4)) = j % 4 + 1 by omega]
    · next e =>
      rw [show min 4 (j + 1 - 4 * i) = min 4 (j - 4 * i) by omega]
theorem part_zero (r : List Int) (p : Nat) : part r p 0 = 0 := by simp [part, be]
theorem fw_zero (r : List Int) : fw r 0 = List.replicate 64 0 := by
  apply List.ext_getElem
  · simp [fw]
  · intro i h1 h2
    rw [List.getElem_replicate]
    simp [fw, part_zero]
theorem pre_get (xs : List Int) (p : Nat) : ∀ n, n ≤ 16 → ∀ i, i < n → (pre xs p n)[i]? = some (part xs (p + 4 * i) 4)
  | 0, _, i, hi => by omega
  | n + 1, h, i, hi => by
    rw [pre, if_pos (by omega)]
    by_cases e : i < n
    · rw [List.getElem?_append_left (by rw [pre_length]; exact e)]
      exact pre_get xs p n (by omega) i e
    · obtain rfl : i = n := by omega
      rw [List.getElem?_append_right (by rw [pre_length]; exact Nat.le_refl _), pre_length]
      simp
theorem fw_full (r : List Int) : fw r 64 = filled r 0 16 := by
  apply List.ext_getElem?
  intro i
  unfold filled
  by_cases h : i < 16
  · rw [List.getElem?_append_left (by rw [pre_length]; exact h), pre_get r 0 16 (by omega) i h]
    simp [fw, show i < 64 by omega, show min 4 (64 - 4 * i) = 4 by omega]
  · rw [List.getElem?_append_right (by rw [pre_length]; omega), pre_length]
    by_cases h2 : i < 64
    · rw [List.getElem?_replicate, if_pos (by omega)]
      simp [fw, h2, show 64 - 4 * i = 0 by omega, part_zero]
    · rw [List.getElem?_replicate, if_neg (by omega)]
      simp [fw, h2]

noncomputable def hsp0 : Code := loopOf Try.f39 0

set_option maxRecDepth 100000 in
set_option maxHeartbeats 4000000 in
theorem hl0 (R : Act → World → Prop) (a : Act) (w : World) (v2 : Value) (r : List Int) (gw : Nat) (hr : Hid (r.length = 64)) (hwf : Hid (∀ x ∈ r, (Lit.int .u8 x).wf = true))
    (hB : Hid (Blk w gw 65 (cellsN (fw r 0)).toArray))
    (hF : Fr 83 [(2, v2), (3, .pointer (some ⟨gw, 0, none⟩)), (12, arr r), (13, .int .i64 0)] a)
    (hQ : ∀ a' w', Fr 83 [(2, v2), (3, .pointer (some ⟨gw, 0, none⟩))] a' →
      Blk w' gw 65 (cellsN (fw r 64)).toArray → Keep [gw] w w' → R a' w') :
    Code.wp Try.prog (.loop hsp0) (OutX 0 R) a w := by
  refine wp_loop_ghost_k (fun m a wr => ∃ j, m + j = 64 ∧ Fr 83 [(2, v2), (3, .pointer (some ⟨gw, 0, none⟩)), (12, arr r), (13, .int .i64 j)] a ∧
    Blk wr gw 65 (cellsN (fw r j)).toArray ∧ Keep [gw] w wr) 64 ⟨0, rfl, hF, hB.out, Keep.refl _ _⟩ ?_
  intro m a wr ⟨j, hmj, hFr, hBr, hk⟩ J K hJ hK
  have HB := Lib.hid hBr
  have HK := Lib.hid hk
  have HJ := Lib.hid hJ
  obtain ⟨f, ⟨f2, f3, f12, f13, -⟩, rfl⟩ := hFr.open83
  simp only [f2, f3, f12, f13]
  clear f2 f3 f12 f13 hF hFr hBr hk hJ hB
  conv => arg 2; whnf
  by_cases hlt : j < 64
  · obtain ⟨hnx, hpb, hy0, hy1⟩ := part_next r (4 * (j / 4)) (j % 4) (by omega) (by have := hr.out; omega) hwf.out
    rw [show 4 * (j / 4) + j % 4 = j by omega] at hnx hy0 hy1
    have hc1 : wr.cell? ⟨gw, j / 4, none⟩ = some (.int .u32 (part r (4 * (j / 4)) (j % 4) : Nat)) := by
      rw [HB.out.cell]
      have := cellsN_get (fw r j) (j / 4) (by rw [fw_length]; omega)
      rw [fw_get r j (j / 4) (by omega), show min 4 (j - 4 * (j / 4)) = j % 4 by omega] at this
      simpa using this
    have hz1 := HB.out.frozen (j / 4)
    have hcs : (r.map (Value.int .u8)).toArray[j]? = some (.int .u8 (r.getD j 0)) := by
      have := hr.out
      simp [show j < r.length by omega]
    have HCS := Lib.hid hcs
    have HNX := Lib.hid hnx
    have HFS := Lib.hid (fw_set r j hlt)
    have hv0 : 0 ≤ (part r (4 * (j / 4)) (j % 4) : Int) := Int.natCast_nonneg _
    have hv1 : (part r (4 * (j / 4)) (j % 4) : Int) ≤ 16777215 := by omega
    have HOJ := Lib.hid (or_join32 _ _ hv0 hv1 hy0 hy1)
    generalize hV : (part r (4 * (j / 4)) (j % 4) : Int) = v at *
    have HVV := Lib.hid hV
    generalize r.getD j 0 = y at *
    obtain ⟨q, hq⟩ : ∃ q, q = j / 4 := ⟨_, rfl⟩
    have ed : Int.tdiv (j : Int) 4 = (q : Int) := by rw [hq]; rfl
    rw [← hq] at hc1 hz1
    have hq16 : q < 16 := by omega
    have HQ4 := Lib.hid hq
    have HMJ := Lib.hid hmj
    clear hnx hpb hcs hV hmj hq hQ
    have e1 : IntKind.u32.wrap (v * 256) = v * 256 := by rw [IntKind.wrap_u32']; omega
    have e2 : IntKind.u32.wrap y = y := by rw [IntKind.wrap_u32']; omega
    have oj := HOJ.out
    go_upto_region 5 with (refine wl_index_agg rfl _ _ _ rfl 5 64 Try.underlying71 .u8 Try.underlying5 (by kernel_rfl) _ .i64 j rfl rfl hlt _ HCS.out ?_)
    go_wp2
    have hset : ((cellsN (fw r j)).toArray).setIfInBounds q (.int .u32 (v * 256 + y)) = (cellsN (fw r (j + 1))).toArray := by
      rw [← HNX.out, HQ4.out, ← HFS.out, ← cellsN_set]
      simp
    have hb2 := HB.out.set_ q (.int .u32 (v * 256 + y))
    rw [hset] at hb2
    exact Handed.intro (m - 1) (by have := HMJ.out; omega) (HJ.out _ _ _ ⟨j + 1, by have := HMJ.out; omega, ⟨rfl, rfl, by repeat (first | exact trivial | refine ⟨rfl, ?_⟩)⟩, hb2, HK.out.setCell (.inl (by simp)) _⟩)
  · obtain rfl : j = 64 := by omega
    have hQ' := hQ
    clear hQ
    go_wp2
    exact ⟨rfl, hQ' _ _ ⟨rfl, rfl, by repeat (first | exact trivial | refine ⟨rfl, ?_⟩)⟩ HB.out HK.out⟩

end Go.Proofs.Ytiiifcfgfmoiaaa
