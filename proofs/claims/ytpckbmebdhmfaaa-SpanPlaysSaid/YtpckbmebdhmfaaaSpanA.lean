/-
  Span's laws over what its functions keep: Awake; SpanNone.
-/
import Derived.Test.YtpckbmebdhmfaaaSpanLaw
import Derived.Test.YtpckbmebdhmfaaaRSpan5
namespace Go.Proofs.Ytpckbmebdhmfaaa
open Go.RowKit

theorem grow_from {S S' : List Nat} {a b : Nat} (h : ∀ x ∈ S', x ∈ S ∨ b ≤ x) (h0 : ∀ x ∈ S, a ≤ x) (hab : a ≤ b) : ∀ x ∈ S', a ≤ x := fun x hx => by
  rcases h x hx with h | h
  · exact h0 x h
  · omega

set_option maxRecDepth 100000 in
set_option maxHeartbeats 4000000 in
theorem awake7_any {SS : World → List Nat → Nat → Nat → List (Nat × Nat) → Prop} (hC : SpanC SS) (w : World) :
    Calls Try.prog 7 #[] w fun e w' => e = .returned (.bool true) ∧ Keep [] w w' := by
  have N := Lib.hid (hC.newS w 5 (by decide))
  have AD := fun w S s l (r : Nat × Nat) h h1 h2 h3 => Lib.hid (hC.addS w S s 5 l r h h1 h2 h3)
  have a1 : Span.add [] (1, 3) = [(1, 3)] := by decide
  have a2 : Span.add [(1, 3)] (5, 7) = [(1, 3), (5, 7)] := by decide
  have a3 : Span.add [(1, 3), (5, 7)] (3, 5) = [(1, 7)] := by decide
  have A1 : ∀ w S s, SS w S s 5 [] → Hid (Calls Try.prog 13 #[.pointer (some ⟨s, 0, none⟩), .agg #[.int .u64 1, .int .u64 3]] w fun e w' => ∃ c S', e = .returned (.int .i64 c) ∧ SS w' S' s 5 [(1, 3)] ∧ (∀ x ∈ S', x ∈ S ∨ w.heap.size ≤ x) ∧ Keep S w w') := fun w S s h => by
    refine Lib.hid ((AD w S s [] (1, 3) h (by decide) (by decide) (by decide)).out.mono ?_)
    rintro e w' ⟨c, S', rfl, hr, h1, h2⟩
    rw [a1] at hr
    rcases hr with ⟨_, _, hs⟩ | ⟨hh, _⟩
    · exact ⟨_, S', rfl, hs, h1, h2⟩
    · exact absurd hh (by decide)
  have A2 : ∀ w S s, SS w S s 5 [(1, 3)] → Hid (Calls Try.prog 13 #[.pointer (some ⟨s, 0, none⟩), .agg #[.int .u64 5, .int .u64 7]] w fun e w' => ∃ c S', e = .returned (.int .i64 c) ∧ SS w' S' s 5 [(1, 3), (5, 7)] ∧ (∀ x ∈ S', x ∈ S ∨ w.heap.size ≤ x) ∧ Keep S w w') := fun w S s h => by
    refine Lib.hid ((AD w S s [(1, 3)] (5, 7) h (by decide) (by decide) (by decide)).out.mono ?_)
    rintro e w' ⟨c, S', rfl, hr, h1, h2⟩
    rw [a2] at hr
    rcases hr with ⟨_, _, hs⟩ | ⟨hh, _⟩
    · exact ⟨_, S', rfl, hs, h1, h2⟩
    · exact absurd hh (by decide)
  have A3 : ∀ w S s, SS w S s 5 [(1, 3), (5, 7)] → Hid (Calls Try.prog 13 #[.pointer (some ⟨s, 0, none⟩), .agg #[.int .u64 3, .int .u64 5]] w fun e w' => ∃ S', e = .returned (.int .i64 0) ∧ SS w' S' s 5 [(1, 7)] ∧ (∀ x ∈ S', x ∈ S ∨ w.heap.size ≤ x) ∧ Keep S w w') := fun w S s h => by
    refine Lib.hid ((AD w S s [(1, 3), (5, 7)] (3, 5) h (by decide) (by decide) (by decide)).out.mono ?_)
    rintro e w' ⟨c, S', rfl, hr, h1, h2⟩
    rw [a3] at hr
    rcases hr with ⟨_, rfl, hs⟩ | ⟨hh, _⟩
    · exact ⟨S', rfl, hs, h1, h2⟩
    · exact absurd hh (by decide)
  have LN : ∀ w S s, SS w S s 5 [(1, 7)] → Hid (Calls Try.prog 19 #[.pointer (some ⟨s, 0, none⟩)] w fun e w' => e = .returned (.int .i64 1) ∧ Keep [] w w') := fun w S s h => Lib.hid (hC.lenS w S s 5 _ h (by decide))
  have CV : ∀ w S s, SS w S s 5 [(1, 7)] → Hid (Calls Try.prog 22 #[.pointer (some ⟨s, 0, none⟩), .agg #[.int .u64 1, .int .u64 7]] w fun e w' => e = .returned (.bool true) ∧ Keep [] w w') := fun w S s h => Lib.hid (hC.covS w S s 5 _ (1, 7) h (by decide) (by decide) (by decide))
  have KS := Lib.hid (fun w w' S s h k => hC.keepS (w := w) (w' := w') (S := S) (s := s) (m := 5) (l := [(1, 7)]) (T := []) h k (by simp))
  clear a1 a2 a3 AD hC
  go_enter Try.func7, Try.ntmps7
  go_wp2_with (first
    | (go_at_call 8; with_reducible refine N.out.mono ?_; rintro e w1 ⟨s, S1, rfl, hs1, hS1, hk1⟩; have HS1 := Lib.hid hs1; have HN1 := Lib.hid hS1; have HK1 := Lib.hid hk1; clear hs1 hS1 hk1)
    | (go_at_call 13; with_reducible refine (A1 _ _ _ HS1.out).out.mono ?_; rintro e w2 ⟨c2, S2, rfl, hs2, hS2, hk2⟩; have HS2 := Lib.hid hs2; have HN2 := Lib.hid (grow_from hS2 HN1.out HK1.out.size); have HK2 := Lib.hid (show Keep [] w w2 from HK1.out.trans' hk2 (fun x hx => .inr (HN1.out x hx))); clear hs2 hS2 hk2)
    | (go_at_call 13; with_reducible refine (A2 _ _ _ HS2.out).out.mono ?_; rintro e w3 ⟨c3, S3, rfl, hs3, hS3, hk3⟩; have HS3 := Lib.hid hs3; have HN3 := Lib.hid (grow_from hS3 HN2.out HK2.out.size); have HK3 := Lib.hid (show Keep [] w w3 from HK2.out.trans' hk3 (fun x hx => .inr (HN2.out x hx))); clear hs3 hS3 hk3)
    | (go_at_call 13; with_reducible refine (A3 _ _ _ HS3.out).out.mono ?_; rintro e w4 ⟨S4, rfl, hs4, hS4, hk4⟩; have HS4 := Lib.hid hs4; have HK4 := Lib.hid (show Keep [] w w4 from HK3.out.trans' hk4 (fun x hx => .inr (HN3.out x hx))); clear hs4 hS4 hk4)
    | (go_at_call 19; with_reducible refine (LN _ _ _ HS4.out).out.mono ?_; rintro e w5 ⟨rfl, hk5⟩; have HK5 := Lib.hid (HK4.out.trans hk5); have HS5 := Lib.hid (KS.out _ _ _ _ HS4.out hk5); clear hk5)
    | (go_at_call 22; with_reducible refine (CV _ _ _ HS5.out).out.mono ?_; rintro e w6 ⟨rfl, hk6⟩; have HK6 := Lib.hid (HK5.out.trans hk6); clear hk6))
  go_ret
  exact ⟨rfl, HK6.out⟩

set_option maxRecDepth 100000 in
set_option maxHeartbeats 8000000 in
theorem spanNone_any {SS : World → List Nat → Nat → Nat → List (Nat × Nat) → Prop} (hC : SpanC SS) (r : Nat × Nat) (n : Int) (w : World) :
    Calls Try.prog 5 #[pv r, .int .u64 n] w fun e w' => e = .returned (.bool true) ∧ Keep [] w w' := by
  obtain ⟨D, hD⟩ : ∃ D, D = (pc r).toArray := ⟨_, rfl⟩
  have HD := Lib.hid hD
  have AW := Lib.hid (fun w => awake7_any hC w)
  have FN := fun w => Lib.hid (show Calls Try.prog 24 #[.pointer none, .int .u64 n] w fun e w' => e = .returned (.tuple #[.agg (pc (0, 0)).toArray, .bool false]) ∧ Keep [] w w' from hC.firstN w n)
  have TN := fun w => Lib.hid (show Calls Try.prog 20 #[.pointer none] w fun e w' => e = .returned (.tuple #[.agg (pc (0, 0)).toArray, .bool false]) ∧ Keep [] w w' from hC.topN w)
  have HN := fun w => Lib.hid (hC.hasN w n)
  have CVN := fun w => Lib.hid (show Calls Try.prog 22 #[.pointer none, .agg D] w fun e w' => e = .returned (.bool false) ∧ Keep [] w w' by rw [hD]; exact hC.covN w r)
  have ADN := fun w => Lib.hid (show Calls Try.prog 13 #[.pointer none, .agg D] w fun e w' => e = .returned (.int .i64 1) ∧ Keep [] w w' by rw [hD]; exact hC.addN w r)
  have ALN := fun w => Lib.hid (show Calls Try.prog 14 #[.pointer none, .agg D] w fun e w' => e = .returned (.int .i64 0) ∧ Keep [] w w' by rw [hD]; exact hC.lastN w r)
  have CUN := fun w => Lib.hid (show Calls Try.prog 16 #[.pointer none, .agg D] w fun e w' => e = .returned (.int .i64 1) ∧ Keep [] w w' by rw [hD]; exact hC.cutN w r)
  have LEN := fun w => Lib.hid (hC.lenN w)
  have LIN := fun w => Lib.hid (hC.listN w)
  have CON := fun w => Lib.hid (hC.countN w)
  have CPN := fun w => Lib.hid (hC.copyN w)
  have Z0 : ∃ Z, Z = (pc (0, 0)).toArray := ⟨_, rfl⟩
  rw [pv_agg, ← hD]
  clear hD hC
  go_enter Try.func5, Try.ntmps5
  go_upto_region 4 with (first
    | (refine wl_box rfl _ _ rfl D rfl ?_; intro w1 hB1 hk1 hz1; have HB1 := Lib.hid hB1; have HK1 := Lib.hid hk1; clear hB1 hk1 hz1)
    | (go_at_call 7; with_reducible refine (AW.out _).mono ?_; rintro e w2 ⟨rfl, hk2⟩; have HK2 := Lib.hid hk2; clear hk2))
  obtain ⟨B, hB⟩ : ∃ B, B = w.heap.size := ⟨_, rfl⟩
  have HB := Lib.hid (show Blk w2 B 26 (pc r).toArray by rw [hB, ← HD.out]; exact HB1.out.keep HK2.out (by simp))
  have HK := Lib.hid (HK1.out.trans HK2.out)
  rw [← hB]
  clear hB HB1 HK1 HK2
  go_upto_region 6 with (first
    | (go_at_call 24; with_reducible refine (FN _).out.mono ?_; rintro e w3 ⟨rfl, hk3⟩; have HK3 := Lib.hid (HK.out.trans hk3); have HB3 := Lib.hid (HB.out.keep hk3 (by simp)); clear hk3)
    | (have _q := HK5; refine wl_alloc_rowZ rfl _ rfl (pc (0, 0)).toArray 2 srZ ?_; intro w6 hB6 hk6 hz6; have HB6 := Lib.hid hB6; have HK6 := Lib.hid (HK5'.out.trans hk6); have HBB6 := Lib.hid (HBB5.out.keep hk6 (by simp)); clear hB6 hk6 hz6)
    | (refine wl_alloc_rowZ rfl _ rfl (pc (0, 0)).toArray 2 srZ ?_; intro w4 hB4 hk4 hz4; have HB4 := Lib.hid hB4; have HK4 := Lib.hid (HK3.out.trans hk4); have HBB4 := Lib.hid (HB3.out.keep hk4 (by simp)); have HLT := Lib.hid (show B < w3.heap.size ∧ w.heap.size ≤ w3.heap.size from ⟨HB3.out.lt, HK3.out.size⟩); clear hB4 hk4 hz4)
    | (refine wl_store_row rfl _ _ _ rfl w3.heap.size rfl (pc (0, 0)).toArray rfl _ _ HB4.out srSz pc_size (pc_all _) ?_; intro w5 hB5 hk5 hz5; have HK5 := Lib.hid (HK4.out.trans' hk5 (fun y hy => .inr (by simp at hy; have := HLT.out; omega))); have HBB5a := Lib.hid (HBB4.out.keep hk5 (by have := HLT.out; simp; omega)); clear hB5 hk5 hz5)
    | (go_at_call 20; with_reducible refine (TN _).out.mono ?_; rintro e w5b ⟨rfl, hk5b⟩; have HK5' := Lib.hid (HK5.out.trans hk5b); have HBB5 := Lib.hid (HBB5a.out.keep hk5b (by simp)); have HLT2 := Lib.hid (show B < w5b.heap.size ∧ w.heap.size ≤ w5b.heap.size from ⟨HBB5.out.lt, HK5'.out.size⟩); clear hk5b)
    | (refine wl_store_row rfl _ _ _ rfl w5b.heap.size rfl (pc (0, 0)).toArray rfl _ _ HB6.out srSz pc_size (pc_all _) ?_; intro w7 hB7 hk7 hz7; have HK7 := Lib.hid (HK6.out.trans' hk7 (fun y hy => .inr (by simp at hy; have := HLT2.out; omega))); have HBB7 := Lib.hid (HBB6.out.keep hk7 (by have := HLT2.out; simp; omega)); clear hB7 hk7 hz7))
  have HBc := HBB7
  have HKc := HK7
  clear HBB7 HK7 HBB6 HK6 HB6 HLT HLT2 HBB5 HBB5a HK5 HK5' HBB4 HK4 HB4 HB3 HK3 HB HK _q
  go_wp2_with (first
    | (refine wl_load_pairG rfl _ _ rfl B 0 r D HD.out rfl _ Try.underlying26 rfl srSz HBc.out.pair.1 HBc.out.pair.2 ?_)
    | (go_at_call 25; with_reducible refine (HN _).out.mono ?_; rintro e w8 ⟨rfl, hk8⟩; replace HBc := Lib.hid (HBc.out.keep hk8 (by simp)); replace HKc := Lib.hid (HKc.out.trans hk8); clear hk8)
    | (go_at_call 22; with_reducible refine (CVN _).out.mono ?_; rintro e w8 ⟨rfl, hk8⟩; replace HBc := Lib.hid (HBc.out.keep hk8 (by simp)); replace HKc := Lib.hid (HKc.out.trans hk8); clear hk8)
    | (go_at_call 13; with_reducible refine (ADN _).out.mono ?_; rintro e w8 ⟨rfl, hk8⟩; replace HBc := Lib.hid (HBc.out.keep hk8 (by simp)); replace HKc := Lib.hid (HKc.out.trans hk8); clear hk8)
    | (go_at_call 14; with_reducible refine (ALN _).out.mono ?_; rintro e w8 ⟨rfl, hk8⟩; replace HBc := Lib.hid (HBc.out.keep hk8 (by simp)); replace HKc := Lib.hid (HKc.out.trans hk8); clear hk8)
    | (go_at_call 16; with_reducible refine (CUN _).out.mono ?_; rintro e w8 ⟨rfl, hk8⟩; replace HBc := Lib.hid (HBc.out.keep hk8 (by simp)); replace HKc := Lib.hid (HKc.out.trans hk8); clear hk8)
    | (go_at_call 19; with_reducible refine (LEN _).out.mono ?_; rintro e w8 ⟨rfl, hk8⟩; replace HBc := Lib.hid (HBc.out.keep hk8 (by simp)); replace HKc := Lib.hid (HKc.out.trans hk8); clear hk8)
    | (go_at_call 18; with_reducible refine (LIN _).out.mono ?_; rintro e w8 ⟨A9, c9, rfl, hk8⟩; replace HBc := Lib.hid (HBc.out.keep hk8 (by simp)); replace HKc := Lib.hid (HKc.out.trans hk8); clear hk8)
    | (go_at_call 21; with_reducible refine (CON _).out.mono ?_; rintro e w8 ⟨rfl, hk8⟩; replace HBc := Lib.hid (HBc.out.keep hk8 (by simp)); replace HKc := Lib.hid (HKc.out.trans hk8); clear hk8)
    | (go_at_call 10; with_reducible refine (CPN _).out.mono ?_; rintro e w8 ⟨rfl, hk8⟩; replace HBc := Lib.hid (HBc.out.keep hk8 (by simp)); replace HKc := Lib.hid (HKc.out.trans hk8); clear hk8))
  go_ret
  exact ⟨rfl, HKc.out⟩
end Go.Proofs.Ytpckbmebdhmfaaa
