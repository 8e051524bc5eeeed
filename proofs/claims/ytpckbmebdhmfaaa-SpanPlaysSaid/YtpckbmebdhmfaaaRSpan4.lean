/-
  The law's words: Ref, an act's range; two lists of ranges held against each other.
-/
import Derived.Test.YtpckbmebdhmfaaaRSpan3
import Derived.DeepKeys
namespace Go.Proofs.Ytpckbmebdhmfaaa
open Go.RowKit

section
variable {P : Program}
theorem keyLits_pair {t e : TypeId} {fs : Array Field} {f0 f1 : Field} (hfs : fs = #[f0, f1]) (ht : P.underlying t = some (.struct fs)) (h0 : f0.type = e) (h1 : f1.type = e) (o0 : f0.offset = 0) (o1 : f1.offset = 1) (hn : fs.all (·.name != "_") = true)
    (he : P.underlying e = some (.int .u64)) (hc : P.cellsOf e = 1) (hct : P.cellsOf t = 2) (d : Nat) (x : Nat × Nat) (h1' : x.1 < 18446744073709551616) (h2' : x.2 < 18446744073709551616) :
    P.keyLits (d + 2) t (pc x) = some [Lit.int .u64 (x.1 : Nat), Lit.int .u64 (x.2 : Nat)] := by
  have w1 : (Lit.int .u64 ((x.1 : Nat) : Int)).wf = true := by simp [Lit.wf, IntKind.min, IntKind.max, IntKind.signed, IntKind.bits]; omega
  have w2 : (Lit.int .u64 ((x.2 : Nat) : Int)).wf = true := by simp [Lit.wf, IntKind.min, IntKind.max, IntKind.signed, IntKind.bits]; omega
  unfold Program.keyLits
  rw [ht]
  subst hfs
  simp only [hn, hct, pc, List.length_cons, List.length_nil, and_self, if_true]
  simp only [List.mapM_cons, List.mapM_nil, h0, h1, o0, o1, hc, List.drop_zero, List.drop_succ_cons, List.take_succ_cons, List.take_zero]
  unfold Program.keyLits
  rw [he]
  simp [w1, w2]
/-- Two pairs by value, held against each other. -/
theorem run_eq_pair {t e : TypeId} {fs : Array Field} {f0 f1 : Field} (hfs : fs = #[f0, f1]) (ht : P.underlying t = some (.struct fs)) (h0 : f0.type = e) (h1 : f1.type = e) (o0 : f0.offset = 0) (o1 : f1.offset = 1) (hn : fs.all (·.name != "_") = true)
    (he : P.underlying e = some (.int .u64)) (hc : P.cellsOf e = 1) (hct : P.cellsOf t = 2) (m : Nat) (hkt : P.keyTypeAt m t = true) (d : Nat) (x y : Nat × Nat) (hx : x.1 < 18446744073709551616 ∧ x.2 < 18446744073709551616) (hy : y.1 < 18446744073709551616 ∧ y.2 < 18446744073709551616) (W : World) :
    (Op.equalIn (d + m) t (.agg (pc x).toArray) (.agg (pc y).toArray)).run P W = .ok (decide (x = y)) W := by
  obtain ⟨r, hr, hi⟩ := run_equalIn_deep (P := P) d m t hkt W 2 2 (.agg (pc x).toArray) (.agg (pc y).toArray) _ _
    (by simp [Value.formed, ht, hct, pc]) (by simp [Value.formed, ht, hct, pc]) (keyLits_pair hfs ht h0 h1 o0 o1 hn he hc hct 0 x hx.1 hx.2) (keyLits_pair hfs ht h0 h1 o0 o1 hn he hc hct 0 y hy.1 hy.2)
  have hinj : ([Lit.int .u64 ((x.1 : Nat) : Int), Lit.int .u64 ((x.2 : Nat) : Int)] = [Lit.int .u64 ((y.1 : Nat) : Int), Lit.int .u64 ((y.2 : Nat) : Int)]) ↔ x = y := by
    constructor
    · intro h
      simp at h
      exact Prod.ext (by omega) (by omega)
    · rintro rfl; rfl
  rw [hinj] at hi
  rw [hr]
  congr 1
  cases r
  · by_cases h : x = y
    · exact absurd (hi.2 h) (by simp)
    · simp [h]
  · simp [hi.1 rfl]
end
theorem rrEq (d : Nat) (x y : Nat × Nat) (hx : x.1 < 18446744073709551616 ∧ x.2 < 18446744073709551616) (hy : y.1 < 18446744073709551616 ∧ y.2 < 18446744073709551616) (W : World) :
    (Op.equalIn (d + 2) 36 (.agg (pc x).toArray) (.agg (pc y).toArray)).run Try.prog W = .ok (decide (x = y)) W :=
  run_eq_pair rfl Try.underlying36 rfl rfl rfl rfl (by kernel_rfl) Try.underlying24 (by kernel_rfl) (by kernel_rfl) 2 (by kernel_rfl) d x y hx hy W
theorem srZ : (Try.prog.info? 26).map (fun i => (i.zero, i.size)) = some (some (.agg (pc (0, 0)).toArray), 2) := by kernel_rfl
theorem srSz : (Try.prog.info? 26).map (·.size) = some 2 := by kernel_rfl

set_option maxRecDepth 100000 in
theorem ref_any (x : Nat × Nat) (w : World) : Calls Try.prog 12 #[pv x] w fun e w' => e = .returned (pv x) ∧ Keep [] w w' := by
  obtain ⟨D, hD⟩ : ∃ D, D = (pc x).toArray := ⟨_, rfl⟩
  have HD := Lib.hid hD
  rw [pv_agg, ← hD]
  clear hD
  go_enter Try.func12, Try.ntmps12
  go_upto_region 1 with (first
    | (have _q := HB1; refine wl_alloc_rowZ rfl _ rfl (pc (0, 0)).toArray 2 rrZ ?_; intro w2 hB2 hk2 hz2; have HB2 := Lib.hid hB2; have HK2 := Lib.hid hk2; clear hB2 hk2 hz2)
    | (refine wl_box rfl _ _ rfl D rfl ?_; intro w1 hB1 hk1 hz1; have HB1 := Lib.hid hB1; have HK1 := Lib.hid hk1; clear hB1 hk1 hz1))
  obtain ⟨B, hB⟩ : ∃ B, B = w.heap.size := ⟨_, rfl⟩
  obtain ⟨C, hC⟩ : ∃ C, C = w1.heap.size := ⟨_, rfl⟩
  have HBB := Lib.hid (show Blk w2 B 26 (pc x).toArray by rw [hB, ← HD.out]; exact HB1.out.keep HK2.out (by simp))
  have HBC := Lib.hid (show Blk w2 C 36 (pc (0, 0)).toArray by rw [hC]; exact HB2.out)
  have HN := Lib.hid (show w.heap.size ≤ C by rw [hC]; exact HK1.out.size)
  have HK := Lib.hid (HK1.out.trans HK2.out)
  obtain ⟨c0, c1⟩ := HBB.out.pair
  rw [← hB, ← hC]
  clear hB hC HB1 HB2 HK1 HK2 _q
  go_wp2_with (refine wl_store_row rfl _ _ _ rfl C rfl (pc x).toArray rfl _ _ HBC.out rrSz pc_size (pc_all x) ?_; intro w5 hB5 hk5 hz5; have HB5 := Lib.hid hB5; have HK5 := Lib.hid hk5; clear hB5 hk5 hz5)
  (try simp only [Exit.inBlock, Exit.then])
  refine bodyPost_ret (v := .agg D) ?_ rfl ?_
  · rw [HD.out]
    refine results_cell_row Try.results12 _ w5 C 36 (pc x).toArray (0, 0) _ ?_ HB5.out Try.underlying36 rfl rrSz
    rfl
  · exact ⟨rfl, HK.out.trans' HK5.out (fun q hq => by right; have := HN.out; simp at hq; omega)⟩

/-- An act. -/
structure ActP where
  kind : Nat
  fr : Nat
  long : Nat
  any : Nat × Nat
  raw : Bool
def ac (a : ActP) : List Value := [.int .u8 (a.kind : Nat), .int .u8 (a.fr : Nat), .int .u8 (a.long : Nat), .int .u64 (a.any.1 : Nat), .int .u64 (a.any.2 : Nat), .bool a.raw]
def av (a : ActP) : Value := .agg (ac a).toArray
def ActP.ok (a : ActP) : Prop := a.kind < 256 ∧ a.fr < 256 ∧ a.long < 256 ∧ a.any.1 < 18446744073709551616 ∧ a.any.2 < 18446744073709551616
/-- What an act is about. -/
def ActP.range (a : ActP) : Nat × Nat := if a.raw then a.any else (a.fr % 60, a.fr % 60 + a.long % 9)
theorem ActP.range_lt {a : ActP} (h : a.ok) : a.range.1 < 18446744073709551616 ∧ a.range.2 < 18446744073709551616 := by
  obtain ⟨h1, h2, h3, h4, h5⟩ := h
  unfold ActP.range
  split
  · exact ⟨h4, h5⟩
  · exact ⟨by simp only; omega, by simp only; omega⟩

set_option maxRecDepth 100000 in
set_option maxHeartbeats 4000000 in
theorem act_any (a : ActP) (ha : a.ok) (w : World) : Calls Try.prog 9 #[av a] w fun e w' => e = .returned (pv a.range) ∧ Keep [] w w' := by
  obtain ⟨D, hD⟩ : ∃ D, D = (ac a).toArray := ⟨_, rfl⟩
  have HD := Lib.hid hD
  have HR := Lib.hid (show a.range = if a.raw then a.any else (a.fr % 60, a.fr % 60 + a.long % 9) from rfl)
  obtain ⟨rg, hrg⟩ : ∃ rg, rg = a.range := ⟨_, rfl⟩
  rw [← hrg] at HR
  rw [← hrg, show av a = .agg D by rw [hD]; rfl]
  clear hD hrg
  go_enter Try.func9, Try.ntmps9
  go_upto_region 1 with (first
    | (have _q := HB1; refine wl_alloc_rowZ rfl _ rfl (pc (0, 0)).toArray 2 srZ ?_; intro w2 hB2 hk2 hz2; have HB2 := Lib.hid hB2; have HK2 := Lib.hid hk2; clear hB2 hk2 hz2)
    | (refine wl_box rfl _ _ rfl D rfl ?_; intro w1 hB1 hk1 hz1; have HB1 := Lib.hid hB1; have HK1 := Lib.hid hk1; clear hB1 hk1 hz1))
  obtain ⟨B, hB⟩ : ∃ B, B = w.heap.size := ⟨_, rfl⟩
  obtain ⟨C, hC⟩ : ∃ C, C = w1.heap.size := ⟨_, rfl⟩
  have HBB := Lib.hid (show Blk w2 B 32 (ac a).toArray by rw [hB, ← HD.out]; exact HB1.out.keep HK2.out (by simp))
  have HBC := Lib.hid (show Blk w2 C 26 (pc (0, 0)).toArray by rw [hC]; exact HB2.out)
  have HN := Lib.hid (show w.heap.size ≤ C by rw [hC]; exact HK1.out.size)
  have HK := Lib.hid (HK1.out.trans HK2.out)
  have c1 : w2.cell? ⟨B, 1, none⟩ = some (.int .u8 (a.fr : Nat)) := by rw [HBB.out.cell]; rfl
  have c2 : w2.cell? ⟨B, 2, none⟩ = some (.int .u8 (a.long : Nat)) := by rw [HBB.out.cell]; rfl
  have c3 : w2.cell? ⟨B, 3, none⟩ = some (.int .u64 (a.any.1 : Nat)) := by rw [HBB.out.cell]; rfl
  have c4 : w2.cell? ⟨B, 3 + 1, none⟩ = some (.int .u64 (a.any.2 : Nat)) := by rw [HBB.out.cell]; rfl
  have c5 : w2.cell? ⟨B, 5, none⟩ = some (.bool a.raw) := by rw [HBB.out.cell]; rfl
  rw [← hB, ← hC]
  clear hB hC HB1 HB2 HK1 HK2 _q
  obtain ⟨h1, h2, h3, h4, h5⟩ := ha
  cases hraw : a.raw
  · rw [hraw] at c5 HR
    have b2 : (0 : Int) ≤ (a.fr : Nat) ∧ ((a.fr : Nat) : Int) < 256 := ⟨by omega, by omega⟩
    have b3 : (0 : Int) ≤ (a.long : Nat) ∧ ((a.long : Nat) : Int) < 256 := ⟨by omega, by omega⟩
    have e1 : ((a.fr : Nat) : Int).tmod 60 = ((a.fr % 60 : Nat) : Int) := by rw [Int.tmod_eq_emod_of_nonneg (by omega)]; omega
    have e2 : ((a.long : Nat) : Int).tmod 9 = ((a.long % 9 : Nat) : Int) := by rw [Int.tmod_eq_emod_of_nonneg (by omega)]; omega
    have l1 : a.fr % 60 < 60 := Nat.mod_lt _ (by decide)
    have l2 : a.long % 9 < 9 := Nat.mod_lt _ (by decide)
    generalize a.fr % 60 = p at *
    generalize a.long % 9 = q at *
    go_wp2_with (refine wl_store_row rfl _ _ _ rfl C rfl (pc (p, p + q)).toArray (by with_unfolding_all rfl) _ _ HBC.out srSz pc_size (pc_all _) ?_; intro w5 hB5 hk5 hz5; have HB5 := Lib.hid hB5; have HK5 := Lib.hid hk5; clear hB5 hk5 hz5)
    have HRE := Lib.hid (show rg = (p, p + q) by rw [HR.out]; rfl)
    (try simp only [Exit.inBlock, Exit.then])
    refine bodyPost_ret (v := pv rg) ?_ rfl ?_
    · rw [HRE.out]
      refine results_cell_row Try.results9 _ w5 C 26 (pc (p, p + q)).toArray (0, 0) _ ?_ HB5.out Try.underlying26 rfl srSz
      rfl
    · exact ⟨rfl, HK.out.trans' HK5.out (fun q hq => by right; have := HN.out; simp at hq; omega)⟩
  · rw [hraw] at c5 HR
    have HRE := Lib.hid (show rg = a.any by rw [HR.out]; rfl)
    go_wp2_with (first
      | (refine wl_load_pair rfl _ _ rfl B 3 a.any rfl _ Try.underlying26 rfl srSz c3 c4 ?_)
      | (refine wl_store_row rfl _ _ _ rfl C rfl (pc a.any).toArray rfl _ _ HBC.out srSz pc_size (pc_all _) ?_; intro w5 hB5 hk5 hz5; have HB5 := Lib.hid hB5; have HK5 := Lib.hid hk5; clear hB5 hk5 hz5))
    (try simp only [Exit.inBlock, Exit.then])
    refine bodyPost_ret (v := pv rg) ?_ rfl ?_
    · rw [HRE.out]
      refine results_cell_row Try.results9 _ w5 C 26 (pc a.any).toArray (0, 0) _ ?_ HB5.out Try.underlying26 rfl srSz
      rfl
    · exact ⟨rfl, HK.out.trans' HK5.out (fun q hq => by right; have := HN.out; simp at hq; omega)⟩
end Go.Proofs.Ytpckbmebdhmfaaa
