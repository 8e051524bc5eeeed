/-
  Span's laws: the loop over the acts.
-/
import Derived.Test.YtpckbmebdhmfaaaSpanQ
import Derived.Test.YtpckbmebdhmfaaaSpanA
import Derived.Test.YtpckbmebdhmfaaaOpenA
import Derived.Test.YtpckbmebdhmfaaaOpensSp
import Derived.Test.YtpckbmebdhmfaaaGen2
namespace Go.Proofs.Ytpckbmebdhmfaaa
open Go.RowKit

theorem flat_at {α : Type} (enc : α → List Value) (sz : Nat) (hsz : ∀ x, (enc x).length = sz) (l : List α) (i j : Nat) (x : α) (hx : l[i]? = some x) (hj : j < sz) : ((l.map enc).flatten)[i * sz + j]? = (enc x)[j]? := by
  induction l generalizing i with
  | nil => simp at hx
  | cons y l ih =>
    rw [List.map_cons, List.flatten_cons]
    cases i with
    | zero =>
      simp at hx
      subst hx
      rw [Nat.zero_mul, Nat.zero_add, List.getElem?_append_left (by rw [hsz]; exact hj)]
    | succ i =>
      rw [List.getElem?_append_right (by rw [hsz, Nat.add_mul]; omega), hsz, show (i + 1) * sz + j - sz = i * sz + j by rw [Nat.add_mul]; omega]
      exact ih i (by simpa using hx)
theorem SA.keep0 {w w' : World} {v : Value} {l : List ActP} (h : SA w v l) (hk : Keep [] w w') : SA w' v l := by
  obtain ⟨A, c, e, h1, h2, h3, h4⟩ := h
  exact ⟨A, c, e, h1, h2, h3.keep0 hk, h4⟩
/-- An act out of a slice of them. -/
theorem SA.at {w : World} {A : Option Addr} {n c : Nat} {l : List ActP} (h : SA w (.slice A n c) l) (i : Nat) (x : ActP) (hi : l[i]? = some x) : ∃ b off, A = some ⟨b, off, none⟩ ∧ w.rangeAt b (off + i * 6) (ac x) ∧ x.ok := by
  obtain ⟨A', c', e, h1, h2, h3, h4⟩ := h
  simp only [Value.slice.injEq] at e
  obtain ⟨rfl, rfl, rfl⟩ := e
  have hl := (List.getElem?_eq_some_iff.1 hi).1
  obtain ⟨b, off, rfl, hc⟩ := h3 (by rw [flat_length ac 6 (fun _ => rfl)]; omega)
  refine ⟨b, off, rfl, fun j u hu => ?_, h4 x (List.mem_of_getElem? hi)⟩
  have hj : j < 6 := (List.getElem?_eq_some_iff.1 hu).1
  rw [Nat.add_assoc]
  exact hc _ _ (by rw [flat_at ac 6 (fun _ => rfl) l i j x hi hj]; exact hu)
theorem actZ : (Try.prog.info? 32).map (fun i => (i.zero, i.size)) = some (some (.agg #[.int .u8 0, .int .u8 0, .int .u8 0, .int .u64 0, .int .u64 0, .bool false]), 6) := by kernel_rfl
theorem actSz : (Try.prog.info? 32).map (·.size) = some 6 := by kernel_rfl
theorem ac_size {x : ActP} : #[Value.int .u8 0, .int .u8 0, .int .u8 0, .int .u64 0, .int .u64 0, .bool false].size = (ac x).toArray.size := rfl
theorem ac_all (x : ActP) : (ac x).toArray.all (·.oneCell') = true := by simp [ac, Value.oneCell']
theorem av_agg (x : ActP) : av x = .agg (ac x).toArray := rfl

noncomputable def hasks_acts : Code := loopOf Try.f4 0
set_option maxRecDepth 100000 in
set_option maxHeartbeats 8000000 in
theorem asks_acts {SS : World → List Nat → Nat → Nat → List (Nat × Nat) → Prop} (hC : SpanC SS) (R : Act → World → Prop) (a : Act) (w0 w2 : World) (S : List Nat) (s n c : Nat) (A : Option Addr) (la : List ActP) (v3 : Value)
    (hn : Hid (n = la.length)) (hA : Hid (SA w0 (.slice A n c) la)) (hK : Hid (Keep [] w0 w2)) (hS : Hid (SS w2 S s 1000 [])) (hSb : Hid (∀ x ∈ S, w0.heap.size ≤ x))
    (hF : Fr 128 [(3, v3), (5, .pointer (some ⟨s, 0, none⟩)), (18, .slice A n c), (19, .int .i64 (n : Nat)), (20, .int .i64 0)] a)
    (hQ : ∀ a' w' S' l, Fr 128 [(3, v3), (5, .pointer (some ⟨s, 0, none⟩))] a' → SS w' S' s 1000 l → l.length ≤ 60 → (∀ x ∈ S', w0.heap.size ≤ x) → Keep [] w0 w' → R a' w') :
    Code.wp Try.prog (.loop hasks_acts) (OutX 0 R) a w2 := by
  refine wp_loop_ghost_k (fun μ a wr => ∃ (i : Nat) (S' : List Nat) (l : List (Nat × Nat)), μ + i = n ∧ Fr 128 [(3, v3), (5, .pointer (some ⟨s, 0, none⟩)), (18, .slice A n c), (19, .int .i64 (n : Nat)), (20, .int .i64 i)] a ∧ SS wr S' s 1000 l ∧ l.length ≤ min i 60 ∧ (∀ x ∈ S', w0.heap.size ≤ x) ∧ Keep [] w0 wr)
    n ⟨0, S, [], by omega, hF, hS.out, by simp, hSb.out, hK.out⟩ ?_
  clear hF hK hS hSb
  rintro μ a wr ⟨i, S', l, hmi, hFr, hss, hll, hsb, hk⟩ J K hJ hK1
  have HJ := Lib.hid hJ
  have HM := Lib.hid hmi
  have HSS := Lib.hid hss
  have HLL := Lib.hid hll
  have HSB := Lib.hid hsb
  have HK := Lib.hid hk
  have HQ := Lib.hid hQ
  have HC := Lib.hid hC
  obtain ⟨fr, ⟨f3, f5, f18, f19, f20, -⟩, rfl⟩ := hFr.open128
  simp only [f3, f5, f18, f19, f20]
  clear f3 f5 f18 f19 f20 hFr hJ hmi hss hll hsb hk hQ hC
  conv => arg 2; whnf
  by_cases hi : i < n
  · obtain ⟨x, hx⟩ : ∃ x, la[i]? = some x := ⟨_, List.getElem?_eq_getElem (by have := hn.out; omega)⟩
    obtain ⟨b, off, rfl, hrg, hok⟩ := (hA.out.keep0 HK.out).at i x hx
    have HRG := Lib.hid hrg
    have HOK := Lib.hid hok
    have bi : (0 : Int) ≤ i ∧ (i : Int) < n := ⟨by omega, by omega⟩
    have hn63 : (n : Int) ≤ 9223372036854775807 := by
      obtain ⟨A', c', e, h1, h2, -⟩ := hA.out
      simp only [Value.slice.injEq] at e
      have := hn.out
      omega
    clear hx hrg hok
    obtain ⟨D, hD⟩ : ∃ D, D = (ac x).toArray := ⟨_, rfl⟩
    have HD := Lib.hid hD
    have HDS := Lib.hid (show D.size = 6 by rw [hD]; rfl)
    have HD1 := Lib.hid (show D.all (·.oneCell') = true by rw [hD]; exact ac_all x)
    clear hD
    obtain ⟨T, hT⟩ : ∃ T, T = wr.heap.size := ⟨_, rfl⟩
    go_upto_region 7 with (first
      | (refine wpList_load_mid rfl _ _ rfl b (off + i * 6) rfl (ac x) _ HRG.out Try.underlying32 rfl actSz ?_; rw [← HD.out])
      | (refine wl_alloc_rowZ rfl _ rfl #[.int .u8 0, .int .u8 0, .int .u8 0, .int .u64 0, .int .u64 0, .bool false] 6 actZ ?_; intro w3 hB3 hk3 hz3; have HB3 := Lib.hid hB3; have HK3 := Lib.hid hk3; clear hB3 hk3 hz3)
      | (refine wl_store_row rfl _ _ _ rfl wr.heap.size rfl D rfl _ _ HB3.out (by rw [HDS.out]; exact actSz) (by rw [HDS.out]; rfl) HD1.out ?_; intro w4 hB4 hk4 hz4; have HB4 := Lib.hid hB4; have HK4 := Lib.hid hk4; clear hB4 hk4 hz4))
    have HK4' := Lib.hid (show Keep [] wr w4 from HK3.out.trans' HK4.out (fun q hq => by right; simp at hq; omega))
    have HSS4 := Lib.hid (HC.out.keepS HSS.out HK4'.out (by simp))
    have HKW4 := Lib.hid (HK.out.trans HK4'.out)
    rw [← hT] at HB4 ⊢
    clear hT HB3 HK3 HK4 HRG HSS
    by_cases h60 : i < 60
    · have c60 : (i : Int) < 60 := by omega
      have RG := fun W => Lib.hid (act_any x HOK.out W)
      rw [av_agg, ← HD.out] at RG
      have hl64 : (l.length : Nat) ≤ 1000000 := by have := HLL.out; omega
      have AD := fun W h => Lib.hid (HC.out.addS W S' s 1000 l x.range h hl64 (ActP.range_lt HOK.out).1 (ActP.range_lt HOK.out).2)
      go_wp2_with (first
        | (refine wl_load_rowD rfl _ _ rfl T rfl _ Try.underlying32 rfl _ D HB4.out (by rw [HDS.out]; exact actSz) ?_)
        | (go_at_call 9; with_reducible refine (RG _).out.mono ?_; rintro e w5 ⟨rfl, hk5⟩; have HK5 := Lib.hid hk5; have HSS5 := Lib.hid (HC.out.keepS HSS4.out hk5 (by simp)); clear hk5)
        | (go_at_call 13; with_reducible refine (AD _ HSS5.out).out.mono ?_; rintro e w6 ⟨c6, S6, rfl, hres, hS6, hk6⟩; have HR6 := Lib.hid hres; have HS6 := Lib.hid hS6; have HK6 := Lib.hid hk6; clear hres hS6 hk6))
      have hlen := Span.add_len l x.range
      have HSX : Hid (SS w6 S6 s 1000 (Span.add l x.range)) := Lib.hid (by
        have := HLL.out
        rcases HR6.out with h | h
        · exact h.2.2
        · have := h.1; omega)
      have HKW6 := Lib.hid ((HKW4.out.trans HK5.out).trans' HK6.out (fun q hq => .inr (HSB.out q hq)))
      exact Handed.intro (μ - 1) (by have := HM.out; omega) (HJ.out _ _ _ ⟨i + 1, S6, _, by have := HM.out; omega, ⟨rfl, rfl, by repeat (first | exact trivial | refine ⟨rfl, ?_⟩)⟩, HSX.out, by have := HLL.out; omega, fun q hq => by
        rcases HS6.out q hq with h | h
        · exact HSB.out q h
        · have h1 := HK5.out.size
          have h2 := HKW4.out.size
          omega, HKW6.out⟩)
    · have c60 : ¬ (i : Int) < 60 := by omega
      go_wp2_with fail
      exact Handed.intro (μ - 1) (by have := HM.out; omega) (HJ.out _ _ _ ⟨i + 1, S', l, by have := HM.out; omega, ⟨rfl, rfl, by repeat (first | exact trivial | refine ⟨rfl, ?_⟩)⟩, HSS4.out, by have := HLL.out; omega, HSB.out, HKW4.out⟩)
  · have hnl : ¬ (i : Int) < (n : Int) := by omega
    go_wp2_with fail
    exact ⟨rfl, HQ.out _ _ _ _ ⟨rfl, rfl, by repeat (first | exact trivial | refine ⟨rfl, ?_⟩)⟩ HSS.out (by have := HLL.out; omega) HSB.out HK.out⟩

noncomputable def hparts_acts : Code := loopOf Try.f6 0
set_option maxRecDepth 100000 in
set_option maxHeartbeats 8000000 in
theorem parts_acts {SS : World → List Nat → Nat → Nat → List (Nat × Nat) → Prop} (hC : SpanC SS) (R : Act → World → Prop) (a : Act) (w0 w2 : World) (S : List Nat) (s n c : Nat) (A : Option Addr) (la : List ActP) (v1 : Value)
    (hn : Hid (n = la.length)) (hA : Hid (SA w0 (.slice A n c) la)) (hK : Hid (Keep [] w0 w2)) (hS : Hid (SS w2 S s 1000 [])) (hSb : Hid (∀ x ∈ S, w0.heap.size ≤ x))
    (hF : Fr 120 [(1, v1), (5, .pointer (some ⟨s, 0, none⟩)), (20, .slice A n c), (21, .int .i64 (n : Nat)), (22, .int .i64 0)] a)
    (hQ : ∀ a' w' S' l, Fr 120 [(1, v1), (5, .pointer (some ⟨s, 0, none⟩))] a' → SS w' S' s 1000 l → l.length ≤ 60 → (∀ x ∈ S', w0.heap.size ≤ x) → Keep [] w0 w' → R a' w') :
    Code.wp Try.prog (.loop hparts_acts) (OutX 0 R) a w2 := by
  refine wp_loop_ghost_k (fun μ a wr => ∃ (i : Nat) (S' : List Nat) (l : List (Nat × Nat)), μ + i = n ∧ Fr 120 [(1, v1), (5, .pointer (some ⟨s, 0, none⟩)), (20, .slice A n c), (21, .int .i64 (n : Nat)), (22, .int .i64 i)] a ∧ SS wr S' s 1000 l ∧ l.length ≤ min i 60 ∧ (∀ x ∈ S', w0.heap.size ≤ x) ∧ Keep [] w0 wr)
    n ⟨0, S, [], by omega, hF, hS.out, by simp, hSb.out, hK.out⟩ ?_
  clear hF hK hS hSb
  rintro μ a wr ⟨i, S', l, hmi, hFr, hss, hll, hsb, hk⟩ J K hJ hK1
  have HJ := Lib.hid hJ
  have HM := Lib.hid hmi
  have HSS := Lib.hid hss
  have HLL := Lib.hid hll
  have HSB := Lib.hid hsb
  have HK := Lib.hid hk
  have HQ := Lib.hid hQ
  have HC := Lib.hid hC
  obtain ⟨fr, ⟨f1, f5, f20, f21, f22, -⟩, rfl⟩ := hFr.open120
  simp only [f1, f5, f20, f21, f22]
  clear f1 f5 f20 f21 f22 hFr hJ hmi hss hll hsb hk hQ hC
  conv => arg 2; whnf
  by_cases hi : i < n
  · obtain ⟨x, hx⟩ : ∃ x, la[i]? = some x := ⟨_, List.getElem?_eq_getElem (by have := hn.out; omega)⟩
    obtain ⟨b, off, rfl, hrg, hok⟩ := (hA.out.keep0 HK.out).at i x hx
    have HRG := Lib.hid hrg
    have HOK := Lib.hid hok
    have bi : (0 : Int) ≤ i ∧ (i : Int) < n := ⟨by omega, by omega⟩
    have hn63 : (n : Int) ≤ 9223372036854775807 := by
      obtain ⟨A', c', e, h1, h2, -⟩ := hA.out
      simp only [Value.slice.injEq] at e
      have := hn.out
      omega
    clear hx hrg hok
    obtain ⟨D, hD⟩ : ∃ D, D = (ac x).toArray := ⟨_, rfl⟩
    have HD := Lib.hid hD
    have HDS := Lib.hid (show D.size = 6 by rw [hD]; rfl)
    have HD1 := Lib.hid (show D.all (·.oneCell') = true by rw [hD]; exact ac_all x)
    clear hD
    obtain ⟨T, hT⟩ : ∃ T, T = wr.heap.size := ⟨_, rfl⟩
    go_upto_region 7 with (first
      | (refine wpList_load_mid rfl _ _ rfl b (off + i * 6) rfl (ac x) _ HRG.out Try.underlying32 rfl actSz ?_; rw [← HD.out])
      | (refine wl_alloc_rowZ rfl _ rfl #[.int .u8 0, .int .u8 0, .int .u8 0, .int .u64 0, .int .u64 0, .bool false] 6 actZ ?_; intro w3 hB3 hk3 hz3; have HB3 := Lib.hid hB3; have HK3 := Lib.hid hk3; clear hB3 hk3 hz3)
      | (refine wl_store_row rfl _ _ _ rfl wr.heap.size rfl D rfl _ _ HB3.out (by rw [HDS.out]; exact actSz) (by rw [HDS.out]; rfl) HD1.out ?_; intro w4 hB4 hk4 hz4; have HB4 := Lib.hid hB4; have HK4 := Lib.hid hk4; clear hB4 hk4 hz4))
    have HK4' := Lib.hid (show Keep [] wr w4 from HK3.out.trans' HK4.out (fun q hq => by right; simp at hq; omega))
    have HSS4 := Lib.hid (HC.out.keepS HSS.out HK4'.out (by simp))
    have HKW4 := Lib.hid (HK.out.trans HK4'.out)
    rw [← hT] at HB4 ⊢
    clear hT HB3 HK3 HK4 HRG HSS
    by_cases h60 : i < 60
    · have c60 : (i : Int) < 60 := by omega
      have RG := fun W => Lib.hid (act_any x HOK.out W)
      rw [av_agg, ← HD.out] at RG
      have hl64 : (l.length : Nat) ≤ 1000000 := by have := HLL.out; omega
      have AD := fun W h => Lib.hid (HC.out.addS W S' s 1000 l x.range h hl64 (ActP.range_lt HOK.out).1 (ActP.range_lt HOK.out).2)
      go_wp2_with (first
        | (refine wl_load_rowD rfl _ _ rfl T rfl _ Try.underlying32 rfl _ D HB4.out (by rw [HDS.out]; exact actSz) ?_)
        | (go_at_call 9; with_reducible refine (RG _).out.mono ?_; rintro e w5 ⟨rfl, hk5⟩; have HK5 := Lib.hid hk5; have HSS5 := Lib.hid (HC.out.keepS HSS4.out hk5 (by simp)); clear hk5)
        | (go_at_call 13; with_reducible refine (AD _ HSS5.out).out.mono ?_; rintro e w6 ⟨c6, S6, rfl, hres, hS6, hk6⟩; have HR6 := Lib.hid hres; have HS6 := Lib.hid hS6; have HK6 := Lib.hid hk6; clear hres hS6 hk6))
      have hlen := Span.add_len l x.range
      have HSX : Hid (SS w6 S6 s 1000 (Span.add l x.range)) := Lib.hid (by
        have := HLL.out
        rcases HR6.out with h | h
        · exact h.2.2
        · have := h.1; omega)
      have HKW6 := Lib.hid ((HKW4.out.trans HK5.out).trans' HK6.out (fun q hq => .inr (HSB.out q hq)))
      exact Handed.intro (μ - 1) (by have := HM.out; omega) (HJ.out _ _ _ ⟨i + 1, S6, _, by have := HM.out; omega, ⟨rfl, rfl, by repeat (first | exact trivial | refine ⟨rfl, ?_⟩)⟩, HSX.out, by have := HLL.out; omega, fun q hq => by
        rcases HS6.out q hq with h | h
        · exact HSB.out q h
        · have h1 := HK5.out.size
          have h2 := HKW4.out.size
          omega, HKW6.out⟩)
    · have c60 : ¬ (i : Int) < 60 := by omega
      go_wp2_with fail
      exact Handed.intro (μ - 1) (by have := HM.out; omega) (HJ.out _ _ _ ⟨i + 1, S', l, by have := HM.out; omega, ⟨rfl, rfl, by repeat (first | exact trivial | refine ⟨rfl, ?_⟩)⟩, HSS4.out, by have := HLL.out; omega, HSB.out, HKW4.out⟩)
  · have hnl : ¬ (i : Int) < (n : Int) := by omega
    go_wp2_with fail
    exact ⟨rfl, HQ.out _ _ _ _ ⟨rfl, rfl, by repeat (first | exact trivial | refine ⟨rfl, ?_⟩)⟩ HSS.out (by have := HLL.out; omega) HSB.out HK.out⟩
end Go.Proofs.Ytpckbmebdhmfaaa
