/-
  Span's laws: SpanParts' ranges put together again; SpanParts.
-/
import Derived.Test.YtpckbmebdhmfaaaSpanD
namespace Go.Proofs.Ytpckbmebdhmfaaa
open Go.RowKit

theorem Span.adds_cons_len (m rs : List (Nat × Nat)) (j : Nat) : (Span.adds m (rs.take j)).length ≤ m.length + rs.length := by
  have := Span.adds_len m (rs.take j)
  rw [List.length_take] at this
  omega

noncomputable def hpartsB : Code := loopOf Try.f6 2
set_option maxRecDepth 100000 in
set_option maxHeartbeats 8000000 in
theorem parts_back {SS : World → List Nat → Nat → Nat → List (Nat × Nat) → Prop} (hC : SpanC SS) (R : Act → World → Prop) (a : Act) (w0 w2 : World) (nn n c nh ch lo : Nat) (A H : Option Addr) (l m0 hs : List (Nat × Nat)) (v5 : Value) (SL : List Nat)
    (hnh : Hid (nh = hs.length)) (hm0 : m0.length ≤ 100) (hhs : hs.length ≤ 100) (hhigh : Hid (∀ x ∈ hs, nn ≤ x.1)) (hnn : nn < 18446744073709551616)
    (hA : Hid (S2 w2 (.slice A n c) l)) (hH : Hid (S2 w2 (.slice H nh ch) hs)) (hK : Hid (Keep [] w0 w2)) (hS : Hid (SS w2 SL lo 1000 m0)) (hSb : Hid (∀ x ∈ SL, w0.heap.size ≤ x))
    (hdA : Hid (0 < l.length → ∀ b, (Value.slice A n c).ownBlock = some b → b ∉ SL)) (hdH : Hid (0 < hs.length → ∀ b, (Value.slice H nh ch).ownBlock = some b → b ∉ SL))
    (hF : Fr 120 [(1, .int .u64 (nn : Nat)), (5, v5), (8, .slice A n c), (11, .pointer (some ⟨lo, 0, none⟩)), (77, .slice H nh ch), (78, .int .i64 (nh : Nat)), (79, .int .i64 0)] a)
    (hQ : ∀ a' w' SL', Fr 120 [(1, .int .u64 (nn : Nat)), (5, v5), (8, .slice A n c), (11, .pointer (some ⟨lo, 0, none⟩))] a' → SS w' SL' lo 1000 (Span.adds m0 hs) → (∀ x ∈ SL', w0.heap.size ≤ x) → S2 w' (.slice A n c) l → Keep [] w0 w' → R a' w') :
    Code.wp Try.prog (.loop hpartsB) (OutX 4 R) a w2 := by
  refine wp_loop_ghost_k (fun μ a wr => ∃ (i : Nat) (S' : List Nat), μ + i = nh ∧ Fr 120 [(1, .int .u64 (nn : Nat)), (5, v5), (8, .slice A n c), (11, .pointer (some ⟨lo, 0, none⟩)), (77, .slice H nh ch), (78, .int .i64 (nh : Nat)), (79, .int .i64 i)] a ∧
      SS wr S' lo 1000 (Span.adds m0 (hs.take i)) ∧ (∀ x ∈ S', w0.heap.size ≤ x) ∧ S2 wr (.slice A n c) l ∧ S2 wr (.slice H nh ch) hs ∧ (0 < l.length → ∀ b, (Value.slice A n c).ownBlock = some b → b ∉ S') ∧ (0 < hs.length → ∀ b, (Value.slice H nh ch).ownBlock = some b → b ∉ S') ∧ Keep [] w0 wr)
    nh ⟨0, SL, by omega, hF, hS.out, hSb.out, hA.out, hH.out, hdA.out, hdH.out, hK.out⟩ ?_
  clear hF hA hH hK hS hSb hdA hdH
  rintro μ a wr ⟨i, S', hmi, hFr, hss, hsb, h2a, h2h, hda, hdh, hk⟩ J K hJ hK1
  have HJ := Lib.hid hJ
  have HM := Lib.hid hmi
  have HSS := Lib.hid hss
  have HSB := Lib.hid hsb
  have H2A := Lib.hid h2a
  have H2H := Lib.hid h2h
  have HDA := Lib.hid hda
  have HDH := Lib.hid hdh
  have HK := Lib.hid hk
  have HQ := Lib.hid hQ
  have HC := Lib.hid hC
  obtain ⟨fr, ⟨f1, f5, f8, f11, f77, f78, f79, -⟩, rfl⟩ := hFr.open120
  simp only [f1, f5, f8, f11, f77, f78, f79]
  clear f1 f5 f8 f11 f77 f78 f79 hFr hJ hmi hss hsb h2a h2h hda hdh hk hQ hC
  conv => arg 2; whnf
  by_cases hi : i < nh
  · have bi : (0 : Int) ≤ i ∧ (i : Int) < nh := ⟨by omega, by omega⟩
    obtain ⟨b, off, eA, hb, c0, c1⟩ := H2H.out.at i (by have := hnh.out; omega)
    have hx := H2H.out.p64.getD i
    have hlow : nn ≤ (hs.getD i (0, 0)).1 := by
      have hl : i < hs.length := by have := hnh.out; omega
      rw [List.getD_eq_getElem?_getD, List.getElem?_eq_getElem hl]
      exact hhigh.out _ (List.getElem_mem hl)
    have hn63 : (nh : Int) ≤ 9223372036854775807 := by have := hnh.out; omega
    have hwr : wrap64 ((i : Int) + 1) = (i : Int) + 1 := by unfold wrap64; omega
    have htk := Span.adds_take m0 hs i (by have := hnh.out; omega)
    have hlen := Span.adds_cons_len m0 hs i
    have hlen2 := Span.adds_cons_len m0 hs (i + 1)
    obtain ⟨x, hxx⟩ : ∃ x, x = hs.getD i (0, 0) := ⟨_, rfl⟩
    rw [← hxx] at c0 c1 hx htk hlow
    have HTK := Lib.hid htk
    have HLEN := Lib.hid hlen
    have HLEN2 := Lib.hid hlen2
    subst eA
    obtain ⟨X, hX⟩ : ∃ X, X = (pc x).toArray := ⟨_, rfl⟩
    have HX := Lib.hid hX
    have HXS := Lib.hid (show X.size = 2 by rw [hX]; rfl)
    have HX1 := Lib.hid (show X.all (·.oneCell') = true by rw [hX]; exact pc_all x)
    clear hxx hX htk hlen hlen2
    obtain ⟨T, hT⟩ : ∃ T, T = wr.heap.size := ⟨_, rfl⟩
    go_upto_region 23 with (first
      | (refine wl_load_pair rfl _ _ rfl b (off + i * 2) x rfl _ Try.underlying26 rfl srSz c0 c1 ?_; rw [← HX.out])
      | (refine wl_alloc_rowZ rfl _ rfl (pc (0, 0)).toArray 2 srZ ?_; intro w3 hB3 hk3 hz3; have HB3 := Lib.hid hB3; have HK3 := Lib.hid hk3; clear hB3 hk3 hz3)
      | (refine wl_store_row rfl _ _ _ rfl wr.heap.size rfl X rfl _ _ HB3.out (by rw [HXS.out]; exact srSz) (by rw [HXS.out]; rfl) HX1.out ?_; intro w4 hB4 hk4 hz4; have HB4 := Lib.hid hB4; have HK4 := Lib.hid hk4; clear hB4 hk4 hz4))
    have HK4' := Lib.hid (show Keep [] wr w4 from HK3.out.trans' HK4.out (fun q hq => by right; simp at hq; omega))
    have HKW := Lib.hid (HK.out.trans HK4'.out)
    have HBT := Lib.hid (show Blk w4 T 26 (pc x).toArray by rw [hT, ← HX.out]; exact HB4.out)
    have HSS4 := Lib.hid (HC.out.keepS HSS.out HK4'.out (by simp))
    have AD := Lib.hid (HC.out.addS w4 S' lo 1000 _ x HSS4.out (by have := HLEN.out; omega) hx.1 hx.2)
    rw [show pv x = .agg X by rw [HX.out]; rfl] at AD
    rw [← hT]
    clear hT HB3 HB4 HK3 HK4 c0 c1 HSS
    obtain ⟨t0, t1⟩ := HBT.out.pair
    have d0 : ¬ ((x.1 : Nat) : Int) < (nn : Int) := by omega
    have bx1 := u64_lt hx.1
    have bnn := u64_lt hnn
    have h0 : Hid (∀ {c : Int}, ((Span.add (Span.adds m0 (hs.take i)) x).length ≤ 1000 ∧ c = 0) ∨ (1000 < (Span.add (Span.adds m0 (hs.take i)) x).length ∧ c = 7) → c = 0) := Lib.hid (fun h => by
      rw [← HTK.out] at h
      have := HLEN2.out
      rcases h with h | h
      · exact h.2
      · omega)
    go_wp2_with (first
      | (refine wl_load_pairG rfl _ _ rfl T 0 x X HX.out rfl _ Try.underlying26 rfl srSz HBT.out.pair.1 HBT.out.pair.2 ?_)
      | (go_at_call 13; with_reducible refine AD.out.mono ?_; rintro e w6 ⟨c6, S6, rfl, hres, hS6, hk6⟩; obtain rfl : c6 = 0 := h0.out (by rcases hres with h | h; exact .inl ⟨h.1, h.2.1⟩; exact .inr ⟨h.1, h.2.1⟩); have HR6 := Lib.hid hres; have HS6 := Lib.hid hS6; have HK6 := Lib.hid hk6; clear hres hS6 hk6))
    have HSX := Lib.hid (show SS w6 S6 lo 1000 (Span.adds m0 (hs.take (i + 1))) by
      rw [HTK.out]
      rcases HR6.out with h | h
      · exact h.2.2
      · exact absurd h.2.1 (by decide))
    have hlt : ∀ (v : Value) (q : List (Nat × Nat)), S2 wr v q → (0 < q.length → ∀ b, v.ownBlock = some b → b ∉ S') → (0 < q.length → ∀ b, v.ownBlock = some b → b ∉ S6) := fun v q h1 h2 hq b hb h3 => by
      rcases HS6.out b h3 with h4 | h4
      · exact h2 hq b hb h4
      · have h5 := h1.lt hq b hb
        have h6 := HK4'.out.size
        omega
    refine Handed.intro (μ - 1) (by have := HM.out; omega) (HJ.out _ _ _ ⟨i + 1, S6, by have := HM.out; omega, ⟨rfl, rfl, by repeat (first | exact trivial | refine ⟨rfl, ?_⟩)⟩, HSX.out, ?_, ?_, ?_, hlt _ _ H2A.out HDA.out, hlt _ _ H2H.out HDH.out, HKW.out.trans' HK6.out (fun q hq => .inr (HSB.out q hq))⟩)
    · intro q hq
      rcases HS6.out q hq with h | h
      · exact HSB.out q h
      · have h2 := HKW.out.size; omega
    · exact (H2A.out.keep0 HK4'.out).keep HK6.out HDA.out
    · exact (H2H.out.keep0 HK4'.out).keep HK6.out HDH.out
  · obtain rfl : i = nh := by have := HM.out; omega
    have HE := Lib.hid (show SS wr S' lo 1000 (Span.adds m0 hs) by
      have := HSS.out
      rwa [List.take_of_length_le (by have := hnh.out; omega)] at this)
    go_wp2_with fail
    exact ⟨rfl, HQ.out _ _ _ ⟨rfl, rfl, by repeat (first | exact trivial | refine ⟨rfl, ?_⟩)⟩ HE.out HSB.out H2A.out HK.out⟩
end Go.Proofs.Ytpckbmebdhmfaaa
