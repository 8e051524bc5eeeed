/-
  SpanPlays: the loop over the acts.
-/
import Derived.Test.YtpckbmebdhmfaaaSpanG
import Derived.Test.YtpckbmebdhmfaaaRSpan2
namespace Go.Proofs.Ytpckbmebdhmfaaa
open Go.RowKit

/-- What the document's answer lies in isn't a set's. -/
theorem own_apart {S : List Nat} {W1 W' : World} {mv xv : Value} {l lx : List (Nat × Nat)} (hS : ∀ x ∈ S, x < W1.heap.size) (hm : 0 < l.length → ∀ b, mv.ownBlock = some b → b ∉ S) (h2 : S2 W1 mv l) (hx : S2 W' xv lx)
    (hor : xv = mv ∨ ∀ b, xv.ownBlock = some b → W1.heap.size ≤ b) : 0 < lx.length → ∀ b, xv.ownBlock = some b → b ∉ S := by
  intro hl b hb hmem
  rcases hor with rfl | h
  · obtain ⟨A1, c1, e1, -⟩ := h2
    obtain ⟨A2, c2, e2, -⟩ := hx
    have : l.length = lx.length := by rw [e1] at e2; simp only [Value.slice.injEq] at e2; exact e2.2.1
    exact hm (by omega) b hb hmem
  · have h1 := h b hb
    have h2 := hS b hmem
    omega
theorem apart_more {S S' : List Nat} {W W' : World} {v : Value} {l : List (Nat × Nat)} (h2 : S2 W v l) (h : 0 < l.length → ∀ b, v.ownBlock = some b → b ∉ S) (hS : ∀ x ∈ S', x ∈ S ∨ W'.heap.size ≤ x) (hk : W.heap.size ≤ W'.heap.size) :
    0 < l.length → ∀ b, v.ownBlock = some b → b ∉ S' := by
  intro hl b hb hmem
  rcases hS b hmem with h1 | h1
  · exact h hl b hb h1
  · have := h2.lt hl b hb
    omega
/-- 'x[k:]', x a slice of pairs. -/
theorem run_from2 {P : Program} {t e : TypeId} (ht : P.underlying t = some (.slice e)) (hi : (P.info? e).map (·.size) = some 2) (A : Option Addr) (n c k : Nat) (hk : k ≤ n) (W : World) :
    (Instr.sliceAt t (.slice A n c) (some (.int .i64 (k : Int))) none none).run P W = .ok (.slice (if c = k then A else A.map fun a => a.add (k * 2)) (n - k) (c - k)) W := by
  obtain ⟨i, hi1, hi2⟩ := Option.map_eq_some_iff.1 hi
  have e2 : P.elem t = e := by simp [Program.elem, ht]
  have ht' : P.underlying t = some (.slice (P.elem t)) := by rw [e2]; exact ht
  rw [run_sliceAt_slice (h := ht'), run_slice_l (ht := ht') (h0 := by omega) (h1 := by omega), e2]
  simp [sizeOf, typeInfo, hi1, hi2, sliced]
theorem pcs_drop (l : List (Nat × Nat)) (k : Nat) : pcs (l.drop k) = (pcs l).drop (k * 2) := by
  induction k generalizing l with
  | zero => simp
  | succ k ih =>
    cases l with
    | nil => simp [pcs]
    | cons x l => rw [List.drop_succ_cons, ih, pcs_cons, show (k + 1) * 2 = k * 2 + 1 + 1 by omega]; rfl
theorem S2.drop {w : World} {A : Option Addr} {n c : Nat} {l : List (Nat × Nat)} (h : S2 w (.slice A n c) l) (k : Nat) (hk : k ≤ n) : S2 w (.slice (if c = k then A else A.map fun a => a.add (k * 2)) (n - k) (c - k)) (l.drop k) := by
  obtain ⟨A', c', e, h1, h2, h3, h4⟩ := h
  simp only [Value.slice.injEq] at e
  obtain ⟨rfl, rfl, rfl⟩ := e
  refine ⟨_, _, by rw [List.length_drop], by rw [List.length_drop]; omega, by omega, ?_, fun x hx => h4 x (List.mem_of_mem_drop hx)⟩
  rw [pcs_drop]
  refine h3.drop (k * 2) (fun hlt => ?_)
  rw [pcs_length] at hlt
  rw [if_neg (by omega)]
theorem own_from {A : Option Addr} {n c k b : Nat} {p q : Nat} (h : (Value.slice (if c = k then A else A.map fun a => a.add (k * 2)) p q).ownBlock = some b) : (Value.slice A n c).ownBlock = some b := by
  by_cases hck : c = k
  · rw [if_pos hck] at h
    cases A with
    | none => simp [Value.ownBlock] at h
    | some a => simpa [Value.ownBlock] using h
  · rw [if_neg hck] at h
    cases A with
    | none => simp [Value.ownBlock] at h
    | some a =>
      obtain ⟨b', o', sp⟩ := a
      simp only [Option.map_some, Addr.add, Value.ownBlock] at h ⊢
      split at h <;> simpa using h
theorem Span.add_empty {l : List (Nat × Nat)} {r : Nat × Nat} (h : ¬ r.1 < r.2) : Span.add l r = l := by unfold Span.add; rw [if_neg h]

noncomputable def hplaysA : Code := loopOf Try.f3 0
set_option maxRecDepth 100000 in
set_option maxHeartbeats 32000000 in
theorem plays_acts {SS : World → List Nat → Nat → Nat → List (Nat × Nat) → Prop} (hC : SpanC SS) (R : Act → World → Prop) (a : Act) (w0 w2 : World) (S : List Nat) (s n c m : Nat) (A : Option Addr) (la : List ActP) (v2 v7 : Value) (hm63 : (m : Int) ≤ 9223372036854775807)
    (hn : Hid (n = la.length)) (hA : Hid (SA w0 (.slice A n c) la)) (hK : Hid (Keep [] w0 w2)) (hS : Hid (SS w2 S s m [])) (hSb : Hid (∀ x ∈ S, w0.heap.size ≤ x))
    (hF : Fr 288 [(2, v2), (7, v7), (9, .pointer (some ⟨s, 0, none⟩)), (10, .slice none 0 0), (11, .int .i64 (m : Nat)), (44, .slice A n c), (45, .int .i64 (n : Nat)), (46, .int .i64 0)] a)
    (hQ : ∀ a' w' S' l mv, Fr 288 [(2, v2), (7, v7), (9, .pointer (some ⟨s, 0, none⟩)), (10, mv)] a' → SS w' S' s m l → S2 w' mv l → l.length ≤ 80 → (∀ x ∈ S', w0.heap.size ≤ x) → Keep [] w0 w' → R a' w') :
    Code.wp Try.prog (.loop hplaysA) (OutX 0 R) a w2 := by
  refine wp_loop_ghost_k (fun μ a wr => ∃ (i : Nat) (S' : List Nat) (l : List (Nat × Nat)) (mv : Value), μ + i = n ∧ Fr 288 [(2, v2), (7, v7), (9, .pointer (some ⟨s, 0, none⟩)), (10, mv), (11, .int .i64 (m : Nat)), (44, .slice A n c), (45, .int .i64 (n : Nat)), (46, .int .i64 i)] a ∧ SS wr S' s m l ∧ S2 wr mv l ∧ l.length ≤ min i 80 ∧ (0 < l.length → ∀ b, mv.ownBlock = some b → b ∉ S') ∧ (∀ x ∈ S', w0.heap.size ≤ x) ∧ Keep [] w0 wr)
    n ⟨0, S, [], _, by omega, hF, hS.out, S2.nil _, by simp, by simp, hSb.out, hK.out⟩ ?_
  clear hF hK hS hSb
  rintro μ a wr ⟨i, S', l, mv, hmi, hFr, hss, h2m, hll, hap, hsb, hk⟩ J K hJ hK1
  have HJ := Lib.hid hJ
  have HM := Lib.hid hmi
  have HSS := Lib.hid hss
  have H2M := Lib.hid h2m
  have HLL := Lib.hid hll
  have HAP := Lib.hid hap
  have HSB := Lib.hid hsb
  have HK := Lib.hid hk
  have HQ := Lib.hid hQ
  have HC := Lib.hid hC
  obtain ⟨MA, MC, rfl, hmc1, hmc2⟩ := h2m.at0
  obtain ⟨k0, hk0⟩ : ∃ k0, k0 = l.length := ⟨_, rfl⟩
  have HK0 := Lib.hid hk0
  rw [← hk0] at hFr H2M HAP hmc1
  have HAP := Lib.hid (show 0 < l.length → ∀ b, (Value.slice MA k0 MC).ownBlock = some b → b ∉ S' by have := HAP.out; rwa [hk0] at this ⊢)
  clear hk0
  obtain ⟨fr, ⟨f2, f7, f9, f10, f11, f44, f45, f46, -⟩, rfl⟩ := hFr.open288
  simp only [f2, f7, f9, f10, f11, f44, f45, f46]
  clear f2 f7 f9 f10 f11 f44 f45 f46 hFr hJ hmi hss h2m hll hap hsb hk hQ hC
  conv => arg 2; whnf
  by_cases hi : i < n
  · obtain ⟨x, hx⟩ : ∃ x, la[i]? = some x := ⟨_, List.getElem?_eq_getElem (by have := hn.out; omega)⟩
    obtain ⟨b, off, rfl, hrg, hok⟩ := (hA.out.keep0 HK.out).at i x hx
    have HRG := Lib.hid hrg
    have HOK := Lib.hid hok
    have bi : (0 : Int) ≤ i ∧ (i : Int) < n := ⟨by omega, by omega⟩
    have hn63 : (n : Int) ≤ 9223372036854775807 := by
      obtain ⟨A', c', e, h1, h2, -⟩ := hA.out
      simp only [Value.slice.injEq] at e
      have := hn.out
      omega
    have hwr : wrap64 ((i : Int) + 1) = (i : Int) + 1 := by unfold wrap64; omega
    clear hx hrg hok
    obtain ⟨D, hD⟩ : ∃ D, D = (ac x).toArray := ⟨_, rfl⟩
    have HD := Lib.hid hD
    have HDS := Lib.hid (show D.size = 6 by rw [hD]; rfl)
    have HD1 := Lib.hid (show D.all (·.oneCell') = true by rw [hD]; exact ac_all x)
    clear hD
    obtain ⟨T, hT⟩ : ∃ T, T = wr.heap.size := ⟨_, rfl⟩
    go_upto_region 11 with (first
      | (refine wpList_load_mid rfl _ _ rfl b (off + i * 6) rfl (ac x) _ HRG.out Try.underlying32 rfl actSz ?_; rw [← HD.out])
      | (refine wl_alloc_rowZ rfl _ rfl #[.int .u8 0, .int .u8 0, .int .u8 0, .int .u64 0, .int .u64 0, .bool false] 6 actZ ?_; intro w3 hB3 hk3 hz3; have HB3 := Lib.hid hB3; have HK3 := Lib.hid hk3; clear hB3 hk3 hz3)
      | (refine wl_store_row rfl _ _ _ rfl wr.heap.size rfl D rfl _ _ HB3.out (by rw [HDS.out]; exact actSz) (by rw [HDS.out]; rfl) HD1.out ?_; intro w4 hB4 hk4 hz4; have HB4 := Lib.hid hB4; have HK4 := Lib.hid hk4; clear hB4 hk4 hz4))
    have HK4' := Lib.hid (show Keep [] wr w4 from HK3.out.trans' HK4.out (fun q hq => by right; simp at hq; omega))
    have HTW := Lib.hid (show wr.heap.size ≤ T by omega)
    rw [← hT] at HB4 ⊢
    clear hT HB3 HK3 HK4 HRG
    by_cases h80 : i < 80
    · have c80 : (i : Int) < 80 := by omega
      have c80' : ¬ (80 : Int) ≤ (i : Int) := by omega
      have RG := fun W => Lib.hid (act_any x HOK.out W)
      obtain ⟨rg, hrg⟩ : ∃ rg, rg = x.range := ⟨_, rfl⟩
      have hrl := ActP.range_lt HOK.out
      rw [← hrg] at RG hrl
      rw [av_agg, ← HD.out] at RG
      obtain ⟨X, hX⟩ : ∃ X, X = (pc rg).toArray := ⟨_, rfl⟩
      have HX := Lib.hid hX
      have HXS := Lib.hid (show X.size = 2 by rw [hX]; rfl)
      have HX1 := Lib.hid (show X.all (·.oneCell') = true by rw [hX]; exact pc_all rg)
      rw [pv_agg, ← hX] at RG
      clear hrg hX
      have HSS4 := Lib.hid (HC.out.keepS HSS.out HK4'.out (by simp))
      have hl6 : l.length ≤ 1000000 := by have := HLL.out; omega
      have CP := fun W h => Lib.hid (HC.out.copyS W S' s m l h hl6)
      go_upto_region 14 with (first
        | (refine wl_load_rowD rfl _ _ rfl T rfl _ Try.underlying32 rfl _ D HB4.out (by rw [HDS.out]; exact actSz) ?_)
        | (go_at_call 9; with_reducible refine (RG _).out.mono ?_; rintro e w5 ⟨rfl, hk5⟩; have HK5 := Lib.hid hk5; clear hk5)
        | (refine wl_alloc_rowZ rfl _ rfl (pc (0, 0)).toArray 2 srZ ?_; intro w6 hB6 hk6 hz6; have HB6 := Lib.hid hB6; have HK6 := Lib.hid hk6; clear hB6 hk6 hz6)
        | (refine wl_store_row rfl _ _ _ rfl w5.heap.size rfl X rfl _ _ HB6.out (by rw [HXS.out]; exact srSz) (by rw [HXS.out]; rfl) HX1.out ?_; intro w7 hB7 hk7 hz7; have HB7 := Lib.hid hB7; have HK7 := Lib.hid hk7; clear hB7 hk7 hz7; have HK57 := Lib.hid (show Keep [] w4 w7 from (HK5.out.trans HK6.out).trans' HK7.out (fun q hq => by right; have := HK5.out.size; simp at hq; omega)))
        | (go_at_call 10; with_reducible refine (CP _ (HC.out.keepS HSS4.out HK57.out (by simp))).out.mono ?_; rintro e w8 ⟨sw, Sw, rfl, hsw, hsbw, hk8⟩; have HSW := Lib.hid hsw; have HSBW := Lib.hid hsbw; have HK8 := Lib.hid hk8; clear hsw hsbw hk8))
      obtain ⟨Q, hQQ⟩ : ∃ Q, Q = w5.heap.size := ⟨_, rfl⟩
      have HBQ := Lib.hid (show Blk w8 Q 26 (pc rg).toArray by rw [hQQ, ← HX.out]; exact HB7.out.keep HK8.out (by simp))
      have HQN := Lib.hid (show w0.heap.size ≤ Q ∧ Q < w7.heap.size ∧ w0.heap.size ≤ T ∧ T < Q by
        have h1 := HK.out.size
        have h2 := HK4'.out.size
        have h3 := HK5.out.size
        have h4 := HB7.out.lt
        have h5 := HB4.out.lt
        have h6 := (HB4.out.keep HK5.out (by simp)).lt
        have h7 := HTW.out
        rw [hQQ]
        omega)
      rw [← hQQ]
      clear hQQ
      have HSLT := Lib.hid (show ∀ x ∈ S', x < wr.heap.size from fun x hx => HC.out.ltS HSS.out x hx)
      have HBT8 := Lib.hid ((HB4.out.keep HK57.out (by simp)).keep HK8.out (by simp))
      have HSS7 := Lib.hid (HC.out.keepS HSS4.out HK57.out (by simp))
      have HSS8 := Lib.hid (HC.out.keepS HSS7.out HK8.out (by simp))
      have HK48 := Lib.hid (HK57.out.trans HK8.out)
      have HM8 := Lib.hid ((H2M.out.keep0 HK4'.out).keep0 HK48.out)
      have HKW8 := Lib.hid ((HK.out.trans HK4'.out).trans HK48.out)
      have HSWB := Lib.hid (show ∀ x ∈ Sw, w0.heap.size ≤ x from fun x hx => by
        have h1 := HSBW.out x hx
        have h2 := (HK.out.trans HK4'.out).size
        have h3 := HK57.out.size
        omega)
      have HDS0 := Lib.hid (show ∀ x ∈ S', x ∉ Sw from fun x hx h => by
        have h1 := HSBW.out x h
        have h2 := HC.out.ltS HSS7.out x hx
        omega)
      have HDM0 := Lib.hid (show 0 < l.length → ∀ b, (Value.slice MA k0 MC).ownBlock = some b → b ∉ Sw from fun hl b hb h => by
        have h1 := HSBW.out b h
        have h2 := (H2M.out.keep0 HK4'.out).lt hl b hb
        have h3 := HK57.out.size
        omega)
      have HNR := Lib.hid (HC.out.okS HSS8.out)
      obtain ⟨kd, hkd⟩ : ∃ kd, kd = x.kind := ⟨_, rfl⟩
      have HKD := Lib.hid hkd
      have hkd256 : kd < 256 := by rw [hkd]; exact HOK.out.1
      have HTC8 := HBT8.out.cell 0
      rw [HD.out] at HTC8
      simp [ac] at HTC8
      rw [← hkd] at HTC8
      have e6 : ((kd : Nat) : Int).tmod 6 = ((kd % 6 : Nat) : Int) := by rw [Int.tmod_eq_emod_of_nonneg (by omega)]; omega
      obtain ⟨k6, hk6⟩ : ∃ k6, k6 = kd % 6 := ⟨_, rfl⟩
      rw [← hk6] at e6
      have hk66 : k6 < 6 := by omega
      have RF := fun W => Lib.hid (ref_any rg W)
      rw [pv_agg, ← HX.out] at RF
      clear hkd hk6 CP HSS4 HB4 HB6 HB7 HK5 HK6 HK7 HSS RG
      by_cases hk3 : k6 < 3
      · have d3 : ((k6 : Nat) : Int) < 3 := by omega
        have hal := Span.add_len l rg
        obtain ⟨lx, hlx⟩ : ∃ lx, lx = Span.add l rg := ⟨_, rfl⟩
        have HLXE := Lib.hid hlx
        rw [← hlx] at hal
        clear hlx
        have hlx6 : lx.length ≤ 1000000 := by have := HLL.out; omega
        have RA := fun W (h : S2 W (.slice MA k0 MC) l) => Lib.hid (show Calls Try.prog 11 #[.slice MA k0 MC, .agg X] W fun e w' => ∃ v, e = .returned v ∧ S2 w' v lx ∧ (v = .slice MA k0 MC ∨ ∀ b, v.ownBlock = some b → W.heap.size ≤ b) ∧ Keep [] W w' by
          have := radd_any (.slice MA k0 MC) l rg W h hrl.1 hrl.2 hl6
          rwa [pv_agg, ← HX.out, ← HLXE.out] at this)
        have AD := fun W (h : SS W S' s m l) => Lib.hid (show Calls Try.prog 13 #[.pointer (some ⟨s, 0, none⟩), .agg X] W fun e w' => ∃ c S2', e = .returned (.int .i64 c) ∧ ((lx.length ≤ m ∧ c = 0 ∧ SS w' S2' s m lx) ∨ (m < lx.length ∧ c = 7 ∧ SS w' S2' s m l)) ∧ (∀ x ∈ S2', x ∈ S' ∨ W.heap.size ≤ x) ∧ Keep S' W w' by
          have := HC.out.addS W S' s m l rg h hl6 hrl.1 hrl.2
          rwa [pv_agg, ← HX.out, ← HLXE.out] at this)
        go_upto_region 24 with (first
          | (have _q := HK10; refine wl_load_pairG rfl _ _ rfl Q 0 rg X HX.out rfl _ Try.underlying26 rfl srSz (HBQ.out.keep HK10.out (by simp)).pair.1 (HBQ.out.keep HK10.out (by simp)).pair.2 ?_)
          | (refine wl_load_pairG rfl _ _ rfl Q 0 rg X HX.out rfl _ Try.underlying26 rfl srSz HBQ.out.pair.1 HBQ.out.pair.2 ?_)
          | (go_at_call 12; with_reducible refine (RF _).out.mono ?_; rintro e w9 ⟨rfl, hk9⟩; have HK9 := Lib.hid hk9; clear hk9)
          | (go_at_call 11; with_reducible refine (RA _ (HM8.out.keep0 HK9.out)).out.mono ?_; rintro e w10 ⟨xv, rfl, h2x, hor, hk10⟩; have H2X := Lib.hid h2x; have HOR := Lib.hid hor; have HK10 := Lib.hid (HK9.out.trans hk10); obtain ⟨XA, XC, rfl, hxc1, hxc2⟩ := h2x.at0; clear hor hk10)
          | (go_at_call 13; with_reducible refine (AD _ (HC.out.keepS HSS8.out HK10.out (by simp))).out.mono ?_; rintro e w11 ⟨c11, S11, rfl, hres, hs11, hk11⟩; have HR11 := Lib.hid hres; have HS11 := Lib.hid hs11; have HK11 := Lib.hid hk11; clear hres hs11 hk11))
        obtain ⟨kx, hkx⟩ : ∃ kx, kx = lx.length := ⟨_, rfl⟩
        have HKXX := Lib.hid hkx
        rw [← hkx] at H2X HOR hxc1 HR11 hal ⊢
        clear hkx
        have HNQ := Lib.hid (show (∀ x ∈ S', x < w8.heap.size) ∧ T ∉ S' ∧ Q ∉ S' from by
          have h1 := HTW.out
          have h2 := HQN.out
          refine ⟨fun x hx => HC.out.ltS HSS8.out x hx, fun h => ?_, fun h => ?_⟩
          · have h3 := HSLT.out T h; omega
          · have h3 := HSLT.out Q h; omega)
        have HSBX := Lib.hid (show ∀ x ∈ S11, w0.heap.size ≤ x from fun x hx => by
          rcases HS11.out x hx with h | h
          · exact HSB.out x h
          · have h1 := HKW8.out.size; have h2 := HK10.out.size; omega)
        have HKXW := Lib.hid (show Keep [] w0 w11 from (HKW8.out.trans HK10.out).trans' HK11.out (fun q hq => .inr (HSB.out q hq)))
        have HTX := Lib.hid ((HBT8.out.keep HK10.out (by simp)).keep HK11.out HNQ.out.2.1)
        have HWX := Lib.hid (HC.out.keepS (HC.out.keepS HSW.out HK10.out (by simp)) HK11.out (fun x hx h => HDS0.out x h hx))
        have HDSW := Lib.hid (show ∀ x ∈ S11, x ∉ Sw from fun x hx h => by
          rcases HS11.out x hx with h1 | h1
          · exact HDS0.out x h1 h
          · have h2 := HC.out.ltS HSW.out x h; have h3 := HK10.out.size; omega)
        have HM9 := Lib.hid (HM8.out.keep0 HK9.out)
        have HAPX := Lib.hid (own_apart (S := S') (W1 := w9) (fun x hx => by have h1 := HNQ.out.1 x hx; have h2 := HK9.out.size; omega) HAP.out HM9.out H2X.out HOR.out)
        have HAPW := Lib.hid (own_apart (S := Sw) (W1 := w9) (fun x hx => by have h1 := HC.out.ltS HSW.out x hx; have h2 := HK9.out.size; omega) HDM0.out HM9.out H2X.out HOR.out)
        have HM10 := Lib.hid (HM8.out.keep0 HK10.out)
        by_cases hle : kx ≤ m
        · have dle : ((kx : Nat) : Int) ≤ ((m : Nat) : Int) := by omega
          obtain ⟨rfl, hsx⟩ : c11 = 0 ∧ SS w11 S11 s m lx := by
            rcases HR11.out with h | h
            · exact h.2
            · have := h.1; omega
          have HSX := Lib.hid hsx
          have HMX := Lib.hid (H2X.out.keep HK11.out HAPX.out)
          have HDX := Lib.hid (apart_more H2X.out HAPX.out HS11.out (Nat.le_refl _))
          have HDMW := HAPW
          have HKX := HKXX
          have hlX6 := hlx6
          have HLX := Lib.hid (show lx.length ≤ min (i + 1) 80 by have := HLL.out; have := HKXX.out; omega)
          clear hsx
          have LI := fun W h => Lib.hid (HC.out.listS W S11 s m lx h hlX6)
          have LN := fun W h => Lib.hid (show Calls Try.prog 19 #[.pointer (some ⟨s, 0, none⟩)] W fun e w' => e = .returned (.int .i64 (kx : Nat)) ∧ Keep [] W w' by rw [HKX.out]; exact HC.out.lenS W S11 s m lx h hlX6)
          have SM := fun W lv (h1 : S2 W lv lx) h2 => Lib.hid (show Calls Try.prog 17 #[lv, .slice XA kx XC] W fun e w' => e = .returned (.bool true) ∧ Keep [] W w' by
            have := same_any lv (.slice XA kx XC) lx lx W h1 h2 hlX6
            rwa [decide_eq_true rfl] at this)
          go_upto_region 36 with (first
            | (go_at_call 18; with_reducible refine (LI _ HSX.out).out.mono ?_; rintro e w12 ⟨hv, rfl, h2h, -, hk12⟩; have H2H := Lib.hid h2h; have HK12 := Lib.hid hk12; clear h2h hk12)
            | (go_at_call 17; with_reducible refine (SM _ hv H2H.out (HMX.out.keep0 HK12.out)).out.mono ?_; rintro e w13 ⟨rfl, hk13⟩; have HK13 := Lib.hid (HK12.out.trans hk13); clear hk13)
            | (go_at_call 19; with_reducible refine (LN _ (HC.out.keepS HSX.out HK13.out (by simp))).out.mono ?_; rintro e w14 ⟨rfl, hk14⟩; have HK14 := Lib.hid (HK13.out.trans hk14); clear hk14))
          have HTC := (HTX.out.keep HK14.out (by simp)).cell 0
          rw [HD.out] at HTC
          simp [ac] at HTC
          rw [← HKD.out] at HTC
          have HKW14 := Lib.hid (HKXW.out.trans HK14.out)
          have HSX14 := Lib.hid (HC.out.keepS HSX.out HK14.out (by simp))
          have HMX14 := Lib.hid (HMX.out.keep0 HK14.out)
          by_cases h250 : 250 < kd
          · have c250 : (250 : Int) < (kd : Int) := by omega
            have AW := Lib.hid (HC.out.addS w14 Sw sw m l (500, 501) (HC.out.keepS HWX.out HK14.out (by simp)) hl6 (show 500 < 18446744073709551616 by omega) (show 501 < 18446744073709551616 by omega))
            have AW2 := Lib.hid (show Calls Try.prog 13 #[.pointer (some ⟨sw, 0, none⟩), .agg #[.int .u64 500, .int .u64 501]] w14 fun e w' => ∃ c, e = .returned (.int .i64 c) ∧ Keep Sw w14 w' from AW.out.mono (fun e w' h => by
              obtain ⟨c, S9, h1, -, -, h2⟩ := h
              exact ⟨c, h1, h2⟩))
            go_wp2_with (first
              | (go_at_call 13; with_reducible refine AW2.out.mono ?_; rintro e w15 ⟨c15, rfl, hk15⟩; have HK15 := Lib.hid hk15; have HSX15 := Lib.hid (HC.out.keepS HSX14.out hk15 HDSW.out); have HMX15 := Lib.hid (HMX14.out.keep hk15 HDMW.out); have HKW15 := Lib.hid (HKW14.out.trans' hk15 (fun q hq => .inr (HSWB.out q hq))); clear hk15)
              | (go_at_call 18; with_reducible refine (LI _ HSX15.out).out.mono ?_; rintro e w16 ⟨hv2, rfl, h2h2, -, hk16⟩; have H2H2 := Lib.hid h2h2; have HK16 := Lib.hid hk16; clear h2h2 hk16)
              | (go_at_call 17; with_reducible refine (SM _ hv2 H2H2.out (HMX15.out.keep0 HK16.out)).out.mono ?_; rintro e w17 ⟨rfl, hk17⟩; have HK17 := Lib.hid (HK16.out.trans hk17); clear hk17))
            exact Handed.intro (μ - 1) (by have := HM.out; omega) (HJ.out _ _ _ ⟨i + 1, S11, lx, .slice XA kx XC, by have := HM.out; omega, ⟨rfl, rfl, by repeat (first | exact trivial | refine ⟨rfl, ?_⟩)⟩, HC.out.keepS HSX15.out HK17.out (by simp), HMX15.out.keep0 HK17.out, by have := HLX.out; omega, HDX.out, HSBX.out, HKW15.out.trans HK17.out⟩)
          · have c250 : ¬ (250 : Int) < (kd : Int) := by omega
            go_wp2_with fail
            exact Handed.intro (μ - 1) (by have := HM.out; omega) (HJ.out _ _ _ ⟨i + 1, S11, lx, .slice XA kx XC, by have := HM.out; omega, ⟨rfl, rfl, by repeat (first | exact trivial | refine ⟨rfl, ?_⟩)⟩, HSX14.out, HMX14.out, by have := HLX.out; omega, HDX.out, HSBX.out, HKW14.out⟩)
        · have dle : ¬ ((kx : Nat) : Int) ≤ ((m : Nat) : Int) := by omega
          obtain ⟨rfl, hsx⟩ : c11 = 7 ∧ SS w11 S11 s m l := by
            rcases HR11.out with h | h
            · have := h.1; omega
            · exact h.2
          have hrr : rg.1 < rg.2 := by
            rcases Nat.lt_or_ge rg.1 rg.2 with h | h
            · exact h
            · have h1 := Span.add_empty (l := l) (r := rg) (by omega)
              have h2 := HNR.out.2.2
              have h3 := HKXX.out
              rw [HLXE.out, h1] at h3
              omega
          have drr : ¬ ((rg.2 : Nat) : Int) ≤ ((rg.1 : Nat) : Int) := by omega
          obtain ⟨p1, p2⟩ := ((HBQ.out.keep HK10.out (by simp)).keep HK11.out HNQ.out.2.2).pair
          have HSX := Lib.hid hsx
          have HMX := Lib.hid (HM10.out.keep HK11.out HAP.out)
          have HDX := Lib.hid (apart_more HM10.out HAP.out HS11.out (Nat.le_refl _))
          have HDMW := HDM0
          have HKX := HK0
          have hlX6 := hl6
          have HLX := Lib.hid (show l.length ≤ min (i + 1) 80 by have := HLL.out; omega)
          clear hsx
          have LI := fun W h => Lib.hid (HC.out.listS W S11 s m l h hlX6)
          have LN := fun W h => Lib.hid (show Calls Try.prog 19 #[.pointer (some ⟨s, 0, none⟩)] W fun e w' => e = .returned (.int .i64 (k0 : Nat)) ∧ Keep [] W w' by rw [HKX.out]; exact HC.out.lenS W S11 s m l h hlX6)
          have SM := fun W lv (h1 : S2 W lv l) h2 => Lib.hid (show Calls Try.prog 17 #[lv, .slice MA k0 MC] W fun e w' => e = .returned (.bool true) ∧ Keep [] W w' by
            have := same_any lv (.slice MA k0 MC) l l W h1 h2 hlX6
            rwa [decide_eq_true rfl] at this)
          go_upto_region 36 with (first
            | (go_at_call 18; with_reducible refine (LI _ HSX.out).out.mono ?_; rintro e w12 ⟨hv, rfl, h2h, -, hk12⟩; have H2H := Lib.hid h2h; have HK12 := Lib.hid hk12; clear h2h hk12)
            | (go_at_call 17; with_reducible refine (SM _ hv H2H.out (HMX.out.keep0 HK12.out)).out.mono ?_; rintro e w13 ⟨rfl, hk13⟩; have HK13 := Lib.hid (HK12.out.trans hk13); clear hk13)
            | (go_at_call 19; with_reducible refine (LN _ (HC.out.keepS HSX.out HK13.out (by simp))).out.mono ?_; rintro e w14 ⟨rfl, hk14⟩; have HK14 := Lib.hid (HK13.out.trans hk14); clear hk14))
          have HTC := (HTX.out.keep HK14.out (by simp)).cell 0
          rw [HD.out] at HTC
          simp [ac] at HTC
          rw [← HKD.out] at HTC
          have HKW14 := Lib.hid (HKXW.out.trans HK14.out)
          have HSX14 := Lib.hid (HC.out.keepS HSX.out HK14.out (by simp))
          have HMX14 := Lib.hid (HMX.out.keep0 HK14.out)
          by_cases h250 : 250 < kd
          · have c250 : (250 : Int) < (kd : Int) := by omega
            have AW := Lib.hid (HC.out.addS w14 Sw sw m l (500, 501) (HC.out.keepS HWX.out HK14.out (by simp)) hl6 (show 500 < 18446744073709551616 by omega) (show 501 < 18446744073709551616 by omega))
            have AW2 := Lib.hid (show Calls Try.prog 13 #[.pointer (some ⟨sw, 0, none⟩), .agg #[.int .u64 500, .int .u64 501]] w14 fun e w' => ∃ c, e = .returned (.int .i64 c) ∧ Keep Sw w14 w' from AW.out.mono (fun e w' h => by
              obtain ⟨c, S9, h1, -, -, h2⟩ := h
              exact ⟨c, h1, h2⟩))
            go_wp2_with (first
              | (go_at_call 13; with_reducible refine AW2.out.mono ?_; rintro e w15 ⟨c15, rfl, hk15⟩; have HK15 := Lib.hid hk15; have HSX15 := Lib.hid (HC.out.keepS HSX14.out hk15 HDSW.out); have HMX15 := Lib.hid (HMX14.out.keep hk15 HDMW.out); have HKW15 := Lib.hid (HKW14.out.trans' hk15 (fun q hq => .inr (HSWB.out q hq))); clear hk15)
              | (go_at_call 18; with_reducible refine (LI _ HSX15.out).out.mono ?_; rintro e w16 ⟨hv2, rfl, h2h2, -, hk16⟩; have H2H2 := Lib.hid h2h2; have HK16 := Lib.hid hk16; clear h2h2 hk16)
              | (go_at_call 17; with_reducible refine (SM _ hv2 H2H2.out (HMX15.out.keep0 HK16.out)).out.mono ?_; rintro e w17 ⟨rfl, hk17⟩; have HK17 := Lib.hid (HK16.out.trans hk17); clear hk17))
            exact Handed.intro (μ - 1) (by have := HM.out; omega) (HJ.out _ _ _ ⟨i + 1, S11, l, .slice MA k0 MC, by have := HM.out; omega, ⟨rfl, rfl, by repeat (first | exact trivial | refine ⟨rfl, ?_⟩)⟩, HC.out.keepS HSX15.out HK17.out (by simp), HMX15.out.keep0 HK17.out, by have := HLX.out; omega, HDX.out, HSBX.out, HKW15.out.trans HK17.out⟩)
          · have c250 : ¬ (250 : Int) < (kd : Int) := by omega
            go_wp2_with fail
            exact Handed.intro (μ - 1) (by have := HM.out; omega) (HJ.out _ _ _ ⟨i + 1, S11, l, .slice MA k0 MC, by have := HM.out; omega, ⟨rfl, rfl, by repeat (first | exact trivial | refine ⟨rfl, ?_⟩)⟩, HSX14.out, HMX14.out, by have := HLX.out; omega, HDX.out, HSBX.out, HKW14.out⟩)
      · have d3 : ¬ ((k6 : Nat) : Int) < 3 := by omega
        by_cases hk3' : k6 = 3
        · have d33 : ((k6 : Nat) : Int) = 3 := by omega
          have b33 : (((k6 : Nat) : Int) == 3) = true := beq_iff_eq.2 d33
          have hal := Span.add_len l rg
          obtain ⟨lx, hlx⟩ : ∃ lx, lx = Span.add l rg := ⟨_, rfl⟩
          have HLXE := Lib.hid hlx
          rw [← hlx] at hal
          clear hlx hk3'
          have hlx6 : lx.length ≤ 1000000 := by have := HLL.out; omega
          obtain ⟨kx, hkx⟩ : ∃ kx, kx = lx.length := ⟨_, rfl⟩
          have HKXX := Lib.hid hkx
          obtain ⟨gn, hgn⟩ : ∃ gn, gn = kx - m := ⟨_, rfl⟩
          have HGN := Lib.hid hgn
          have hkx6 : kx ≤ 1000000 := by omega
          rw [← hkx] at hal
          have RA := fun W (h : S2 W (.slice MA k0 MC) l) => Lib.hid (show Calls Try.prog 11 #[.slice MA k0 MC, .agg X] W fun e w' => ∃ XA XC, e = .returned (.slice XA kx XC) ∧ S2 w' (.slice XA kx XC) lx ∧ (Value.slice XA kx XC = .slice MA k0 MC ∨ ∀ b, (Value.slice XA kx XC).ownBlock = some b → W.heap.size ≤ b) ∧ Keep [] W w' by
            have := radd_any (.slice MA k0 MC) l rg W h hrl.1 hrl.2 hl6
            rw [pv_agg, ← HX.out, ← HLXE.out] at this
            refine this.mono ?_
            rintro e w' ⟨v, rfl, h1, h2, h3⟩
            obtain ⟨XA, XC, rfl, -, -⟩ := h1.at0
            rw [← HKXX.out] at h1 h2 ⊢
            exact ⟨XA, XC, rfl, h1, h2, h3⟩)
          have AL := fun W (h : SS W S' s m l) => Lib.hid (show Calls Try.prog 14 #[.pointer (some ⟨s, 0, none⟩), .agg X] W fun e w' => ∃ S2', e = .returned (.int .i64 (gn : Nat)) ∧ SS w' S2' s m (lx.drop gn) ∧ (∀ x ∈ S2', x ∈ S' ∨ W.heap.size ≤ x) ∧ Keep S' W w' by
            have := HC.out.lastS W S' s m l rg h hl6 hrl.1 hrl.2
            rwa [pv_agg, ← HX.out, ← HLXE.out, ← HKXX.out, ← HGN.out] at this)
          have emax : max (((kx : Nat) : Int) - ((m : Nat) : Int)) 0 = ((gn : Nat) : Int) := by omega
          have hgk : gn ≤ kx := by omega
          clear hkx hgn
          go_upto_region 33 with (first
            | (have _q := HK10; refine wl_load_pairG rfl _ _ rfl Q 0 rg X HX.out rfl _ Try.underlying26 rfl srSz (HBQ.out.keep HK10.out (by simp)).pair.1 (HBQ.out.keep HK10.out (by simp)).pair.2 ?_)
            | (refine wl_load_pairG rfl _ _ rfl Q 0 rg X HX.out rfl _ Try.underlying26 rfl srSz HBQ.out.pair.1 HBQ.out.pair.2 ?_)
            | (go_at_call 12; with_reducible refine (RF _).out.mono ?_; rintro e w9 ⟨rfl, hk9⟩; have HK9 := Lib.hid hk9; clear hk9)
            | (go_at_call 11; with_reducible refine (RA _ (HM8.out.keep0 HK9.out)).out.mono ?_; rintro e w10 ⟨XA, XC, rfl, h2x, hor, hk10⟩; have H2X := Lib.hid h2x; have HOR := Lib.hid hor; have HK10 := Lib.hid (HK9.out.trans hk10); clear h2x hor hk10)
            | (go_at_call 14; with_reducible refine (AL _ (HC.out.keepS HSS8.out HK10.out (by simp))).out.mono ?_; rintro e w11 ⟨S11, rfl, hres, hs11, hk11⟩; have HR11 := Lib.hid hres; have HS11 := Lib.hid hs11; have HK11 := Lib.hid hk11; clear hres hs11 hk11))
          have HNQ := Lib.hid (show (∀ x ∈ S', x < w8.heap.size) ∧ T ∉ S' ∧ Q ∉ S' from by
            have h1 := HTW.out
            have h2 := HQN.out
            refine ⟨fun x hx => HC.out.ltS HSS8.out x hx, fun h => ?_, fun h => ?_⟩
            · have h3 := HSLT.out T h; omega
            · have h3 := HSLT.out Q h; omega)
          have HSBX := Lib.hid (show ∀ x ∈ S11, w0.heap.size ≤ x from fun x hx => by
            rcases HS11.out x hx with h | h
            · exact HSB.out x h
            · have h1 := HKW8.out.size; have h2 := HK10.out.size; omega)
          have HKXW := Lib.hid (show Keep [] w0 w11 from (HKW8.out.trans HK10.out).trans' HK11.out (fun q hq => .inr (HSB.out q hq)))
          have HTX := Lib.hid ((HBT8.out.keep HK10.out (by simp)).keep HK11.out HNQ.out.2.1)
          have HWX := Lib.hid (HC.out.keepS (HC.out.keepS HSW.out HK10.out (by simp)) HK11.out (fun x hx h => HDS0.out x h hx))
          have HDSW := Lib.hid (show ∀ x ∈ S11, x ∉ Sw from fun x hx h => by
            rcases HS11.out x hx with h1 | h1
            · exact HDS0.out x h1 h
            · have h2 := HC.out.ltS HSW.out x h; have h3 := HK10.out.size; omega)
          have HM9 := Lib.hid (HM8.out.keep0 HK9.out)
          have HAPX := Lib.hid (own_apart (S := S') (W1 := w9) (fun x hx => by have h1 := HNQ.out.1 x hx; have h2 := HK9.out.size; omega) HAP.out HM9.out H2X.out HOR.out)
          have HAPW := Lib.hid (own_apart (S := Sw) (W1 := w9) (fun x hx => by have h1 := HC.out.ltS HSW.out x hx; have h2 := HK9.out.size; omega) HDM0.out HM9.out H2X.out HOR.out)
          have HM10 := Lib.hid (HM8.out.keep0 HK10.out)
          have r2 := fun W => run_from2 (P := Try.prog) (t := 30) (e := 36) Try.underlying30 rrSz XA kx XC gn hgk W
          obtain ⟨YA, hYA⟩ : ∃ YA, YA = (if XC = gn then XA else XA.map fun a => a.add (gn * 2)) := ⟨_, rfl⟩
          have HYA := Lib.hid hYA
          rw [← hYA] at r2
          clear hYA
          obtain ⟨ky, hky⟩ : ∃ ky, ky = kx - gn := ⟨_, rfl⟩
          have HKY := Lib.hid hky
          rw [← hky] at r2
          clear hky
          have HKX := Lib.hid (show ky = (lx.drop gn).length by rw [HKY.out, HKXX.out, List.length_drop])
          have HSX := HR11
          have HMX := Lib.hid (show S2 w11 (.slice YA ky (XC - gn)) (lx.drop gn) by
            have := (H2X.out.keep HK11.out HAPX.out).drop gn hgk
            rwa [← HYA.out, ← HKY.out] at this)
          have hown : ∀ b, (Value.slice YA ky (XC - gn)).ownBlock = some b → (Value.slice XA kx XC).ownBlock = some b := fun b hb => by rw [HYA.out] at hb; exact own_from hb
          have hpos : 0 < (lx.drop gn).length → 0 < lx.length := fun h => by rw [List.length_drop] at h; omega
          have HDX0 := Lib.hid (apart_more H2X.out HAPX.out HS11.out (Nat.le_refl _))
          have HDX := Lib.hid (show 0 < (lx.drop gn).length → ∀ b, (Value.slice YA ky (XC - gn)).ownBlock = some b → b ∉ S11 from fun hl b hb => HDX0.out (hpos hl) b (hown b hb))
          have HDMW := Lib.hid (show 0 < (lx.drop gn).length → ∀ b, (Value.slice YA ky (XC - gn)).ownBlock = some b → b ∉ Sw from fun hl b hb => HAPW.out (hpos hl) b (hown b hb))
          have hlX6 : (lx.drop gn).length ≤ 1000000 := by rw [List.length_drop]; omega
          have HLX := Lib.hid (show (lx.drop gn).length ≤ min (i + 1) 80 by have h1 := HLL.out; have h2 := HKXX.out; rw [List.length_drop]; omega)
          clear hown hpos
          have LI := fun W h => Lib.hid (HC.out.listS W S11 s m (lx.drop gn) h hlX6)
          have LN := fun W h => Lib.hid (show Calls Try.prog 19 #[.pointer (some ⟨s, 0, none⟩)] W fun e w' => e = .returned (.int .i64 (ky : Nat)) ∧ Keep [] W w' by rw [HKX.out]; exact HC.out.lenS W S11 s m (lx.drop gn) h hlX6)
          have SM := fun W lv (h1 : S2 W lv (lx.drop gn)) h2 => Lib.hid (show Calls Try.prog 17 #[lv, .slice YA ky (XC - gn)] W fun e w' => e = .returned (.bool true) ∧ Keep [] W w' by
            have := same_any lv (.slice YA ky (XC - gn)) (lx.drop gn) (lx.drop gn) W h1 h2 hlX6
            rwa [decide_eq_true rfl] at this)
          go_upto_region 36 with (first
            | (go_at_call 18; with_reducible refine (LI _ HSX.out).out.mono ?_; rintro e w12 ⟨hv, rfl, h2h, -, hk12⟩; have H2H := Lib.hid h2h; have HK12 := Lib.hid hk12; clear h2h hk12)
            | (go_at_call 17; with_reducible refine (SM _ hv H2H.out (HMX.out.keep0 HK12.out)).out.mono ?_; rintro e w13 ⟨rfl, hk13⟩; have HK13 := Lib.hid (HK12.out.trans hk13); clear hk13)
            | (go_at_call 19; with_reducible refine (LN _ (HC.out.keepS HSX.out HK13.out (by simp))).out.mono ?_; rintro e w14 ⟨rfl, hk14⟩; have HK14 := Lib.hid (HK13.out.trans hk14); clear hk14))
          have HTC := (HTX.out.keep HK14.out (by simp)).cell 0
          rw [HD.out] at HTC
          simp [ac] at HTC
          rw [← HKD.out] at HTC
          have HKW14 := Lib.hid (HKXW.out.trans HK14.out)
          have HSX14 := Lib.hid (HC.out.keepS HSX.out HK14.out (by simp))
          have HMX14 := Lib.hid (HMX.out.keep0 HK14.out)
          by_cases h250 : 250 < kd
          · have c250 : (250 : Int) < (kd : Int) := by omega
            have AW := Lib.hid (HC.out.addS w14 Sw sw m l (500, 501) (HC.out.keepS HWX.out HK14.out (by simp)) hl6 (show 500 < 18446744073709551616 by omega) (show 501 < 18446744073709551616 by omega))
            have AW2 := Lib.hid (show Calls Try.prog 13 #[.pointer (some ⟨sw, 0, none⟩), .agg #[.int .u64 500, .int .u64 501]] w14 fun e w' => ∃ c, e = .returned (.int .i64 c) ∧ Keep Sw w14 w' from AW.out.mono (fun e w' h => by
              obtain ⟨c, S9, h1, -, -, h2⟩ := h
              exact ⟨c, h1, h2⟩))
            go_wp2_with (first
              | (go_at_call 13; with_reducible refine AW2.out.mono ?_; rintro e w15 ⟨c15, rfl, hk15⟩; have HK15 := Lib.hid hk15; have HSX15 := Lib.hid (HC.out.keepS HSX14.out hk15 HDSW.out); have HMX15 := Lib.hid (HMX14.out.keep hk15 HDMW.out); have HKW15 := Lib.hid (HKW14.out.trans' hk15 (fun q hq => .inr (HSWB.out q hq))); clear hk15)
              | (go_at_call 18; with_reducible refine (LI _ HSX15.out).out.mono ?_; rintro e w16 ⟨hv2, rfl, h2h2, -, hk16⟩; have H2H2 := Lib.hid h2h2; have HK16 := Lib.hid hk16; clear h2h2 hk16)
              | (go_at_call 17; with_reducible refine (SM _ hv2 H2H2.out (HMX15.out.keep0 HK16.out)).out.mono ?_; rintro e w17 ⟨rfl, hk17⟩; have HK17 := Lib.hid (HK16.out.trans hk17); clear hk17))
            exact Handed.intro (μ - 1) (by have := HM.out; omega) (HJ.out _ _ _ ⟨i + 1, S11, (lx.drop gn), .slice YA ky (XC - gn), by have := HM.out; omega, ⟨rfl, rfl, by repeat (first | exact trivial | refine ⟨rfl, ?_⟩)⟩, HC.out.keepS HSX15.out HK17.out (by simp), HMX15.out.keep0 HK17.out, by have := HLX.out; omega, HDX.out, HSBX.out, HKW15.out.trans HK17.out⟩)
          · have c250 : ¬ (250 : Int) < (kd : Int) := by omega
            go_wp2_with fail
            exact Handed.intro (μ - 1) (by have := HM.out; omega) (HJ.out _ _ _ ⟨i + 1, S11, (lx.drop gn), .slice YA ky (XC - gn), by have := HM.out; omega, ⟨rfl, rfl, by repeat (first | exact trivial | refine ⟨rfl, ?_⟩)⟩, HSX14.out, HMX14.out, by have := HLX.out; omega, HDX.out, HSBX.out, HKW14.out⟩)
        · have d33 : ¬ ((k6 : Nat) : Int) = 3 := by omega
          have b33 : (((k6 : Nat) : Int) == 3) = false := beq_eq_false_iff_ne.2 d33
          have hal := Span.cut_len HNR.out.1 rg
          obtain ⟨lx, hlx⟩ : ∃ lx, lx = Span.cut l rg := ⟨_, rfl⟩
          have HLXE := Lib.hid hlx
          rw [← hlx] at hal
          clear hlx hk3'
          have hlx6 : lx.length ≤ 1000000 := by have := HLL.out; omega
          have RA := fun W (h : S2 W (.slice MA k0 MC) l) => Lib.hid (show Calls Try.prog 15 #[.slice MA k0 MC, .agg X] W fun e w' => ∃ v, e = .returned v ∧ S2 w' v lx ∧ (v = .slice MA k0 MC ∨ ∀ b, v.ownBlock = some b → W.heap.size ≤ b) ∧ Keep [] W w' by
            have := rcut_any (.slice MA k0 MC) l rg W h hrl.1 hrl.2 hl6
            rwa [pv_agg, ← HX.out, ← HLXE.out] at this)
          have AD := fun W (h : SS W S' s m l) => Lib.hid (show Calls Try.prog 16 #[.pointer (some ⟨s, 0, none⟩), .agg X] W fun e w' => ∃ c S2', e = .returned (.int .i64 c) ∧ ((lx.length ≤ m ∧ c = 0 ∧ SS w' S2' s m lx) ∨ (m < lx.length ∧ c = 7 ∧ SS w' S2' s m l)) ∧ (∀ x ∈ S2', x ∈ S' ∨ W.heap.size ≤ x) ∧ Keep S' W w' by
            have := HC.out.cutS W S' s m l rg h hl6 hrl.1 hrl.2
            rwa [pv_agg, ← HX.out, ← HLXE.out] at this)
          go_upto_region 17 with (first
            | (have _q := HK10; refine wl_load_pairG rfl _ _ rfl Q 0 rg X HX.out rfl _ Try.underlying26 rfl srSz (HBQ.out.keep HK10.out (by simp)).pair.1 (HBQ.out.keep HK10.out (by simp)).pair.2 ?_)
            | (refine wl_load_pairG rfl _ _ rfl Q 0 rg X HX.out rfl _ Try.underlying26 rfl srSz HBQ.out.pair.1 HBQ.out.pair.2 ?_)
            | (go_at_call 12; with_reducible refine (RF _).out.mono ?_; rintro e w9 ⟨rfl, hk9⟩; have HK9 := Lib.hid hk9; clear hk9)
            | (go_at_call 15; with_reducible refine (RA _ (HM8.out.keep0 HK9.out)).out.mono ?_; rintro e w10 ⟨xv, rfl, h2x, hor, hk10⟩; have H2X := Lib.hid h2x; have HOR := Lib.hid hor; have HK10 := Lib.hid (HK9.out.trans hk10); obtain ⟨XA, XC, rfl, hxc1, hxc2⟩ := h2x.at0; clear hor hk10)
            | (go_at_call 16; with_reducible refine (AD _ (HC.out.keepS HSS8.out HK10.out (by simp))).out.mono ?_; rintro e w11 ⟨c11, S11, rfl, hres, hs11, hk11⟩; have HR11 := Lib.hid hres; have HS11 := Lib.hid hs11; have HK11 := Lib.hid hk11; clear hres hs11 hk11))
          obtain ⟨kx, hkx⟩ : ∃ kx, kx = lx.length := ⟨_, rfl⟩
          have HKXX := Lib.hid hkx
          rw [← hkx] at H2X HOR hxc1 HR11 hal ⊢
          clear hkx
          have HNQ := Lib.hid (show (∀ x ∈ S', x < w8.heap.size) ∧ T ∉ S' ∧ Q ∉ S' from by
            have h1 := HTW.out
            have h2 := HQN.out
            refine ⟨fun x hx => HC.out.ltS HSS8.out x hx, fun h => ?_, fun h => ?_⟩
            · have h3 := HSLT.out T h; omega
            · have h3 := HSLT.out Q h; omega)
          have HSBX := Lib.hid (show ∀ x ∈ S11, w0.heap.size ≤ x from fun x hx => by
            rcases HS11.out x hx with h | h
            · exact HSB.out x h
            · have h1 := HKW8.out.size; have h2 := HK10.out.size; omega)
          have HKXW := Lib.hid (show Keep [] w0 w11 from (HKW8.out.trans HK10.out).trans' HK11.out (fun q hq => .inr (HSB.out q hq)))
          have HTX := Lib.hid ((HBT8.out.keep HK10.out (by simp)).keep HK11.out HNQ.out.2.1)
          have HWX := Lib.hid (HC.out.keepS (HC.out.keepS HSW.out HK10.out (by simp)) HK11.out (fun x hx h => HDS0.out x h hx))
          have HDSW := Lib.hid (show ∀ x ∈ S11, x ∉ Sw from fun x hx h => by
            rcases HS11.out x hx with h1 | h1
            · exact HDS0.out x h1 h
            · have h2 := HC.out.ltS HSW.out x h; have h3 := HK10.out.size; omega)
          have HM9 := Lib.hid (HM8.out.keep0 HK9.out)
          have HAPX := Lib.hid (own_apart (S := S') (W1 := w9) (fun x hx => by have h1 := HNQ.out.1 x hx; have h2 := HK9.out.size; omega) HAP.out HM9.out H2X.out HOR.out)
          have HAPW := Lib.hid (own_apart (S := Sw) (W1 := w9) (fun x hx => by have h1 := HC.out.ltS HSW.out x hx; have h2 := HK9.out.size; omega) HDM0.out HM9.out H2X.out HOR.out)
          have HM10 := Lib.hid (HM8.out.keep0 HK10.out)
          by_cases hle : kx ≤ m
          · have dle : ((kx : Nat) : Int) ≤ ((m : Nat) : Int) := by omega
            obtain ⟨rfl, hsx⟩ : c11 = 0 ∧ SS w11 S11 s m lx := by
              rcases HR11.out with h | h
              · exact h.2
              · have := h.1; omega
            have HSX := Lib.hid hsx
            have HMX := Lib.hid (H2X.out.keep HK11.out HAPX.out)
            have HDX := Lib.hid (apart_more H2X.out HAPX.out HS11.out (Nat.le_refl _))
            have HDMW := HAPW
            have HKX := HKXX
            have hlX6 := hlx6
            have HLX := Lib.hid (show lx.length ≤ min (i + 1) 80 by have := HLL.out; have := HKXX.out; omega)
            clear hsx
            have LI := fun W h => Lib.hid (HC.out.listS W S11 s m lx h hlX6)
            have LN := fun W h => Lib.hid (show Calls Try.prog 19 #[.pointer (some ⟨s, 0, none⟩)] W fun e w' => e = .returned (.int .i64 (kx : Nat)) ∧ Keep [] W w' by rw [HKX.out]; exact HC.out.lenS W S11 s m lx h hlX6)
            have SM := fun W lv (h1 : S2 W lv lx) h2 => Lib.hid (show Calls Try.prog 17 #[lv, .slice XA kx XC] W fun e w' => e = .returned (.bool true) ∧ Keep [] W w' by
              have := same_any lv (.slice XA kx XC) lx lx W h1 h2 hlX6
              rwa [decide_eq_true rfl] at this)
            go_upto_region 36 with (first
              | (go_at_call 18; with_reducible refine (LI _ HSX.out).out.mono ?_; rintro e w12 ⟨hv, rfl, h2h, -, hk12⟩; have H2H := Lib.hid h2h; have HK12 := Lib.hid hk12; clear h2h hk12)
              | (go_at_call 17; with_reducible refine (SM _ hv H2H.out (HMX.out.keep0 HK12.out)).out.mono ?_; rintro e w13 ⟨rfl, hk13⟩; have HK13 := Lib.hid (HK12.out.trans hk13); clear hk13)
              | (go_at_call 19; with_reducible refine (LN _ (HC.out.keepS HSX.out HK13.out (by simp))).out.mono ?_; rintro e w14 ⟨rfl, hk14⟩; have HK14 := Lib.hid (HK13.out.trans hk14); clear hk14))
            have HTC := (HTX.out.keep HK14.out (by simp)).cell 0
            rw [HD.out] at HTC
            simp [ac] at HTC
            rw [← HKD.out] at HTC
            have HKW14 := Lib.hid (HKXW.out.trans HK14.out)
            have HSX14 := Lib.hid (HC.out.keepS HSX.out HK14.out (by simp))
            have HMX14 := Lib.hid (HMX.out.keep0 HK14.out)
            by_cases h250 : 250 < kd
            · have c250 : (250 : Int) < (kd : Int) := by omega
              have AW := Lib.hid (HC.out.addS w14 Sw sw m l (500, 501) (HC.out.keepS HWX.out HK14.out (by simp)) hl6 (show 500 < 18446744073709551616 by omega) (show 501 < 18446744073709551616 by omega))
              have AW2 := Lib.hid (show Calls Try.prog 13 #[.pointer (some ⟨sw, 0, none⟩), .agg #[.int .u64 500, .int .u64 501]] w14 fun e w' => ∃ c, e = .returned (.int .i64 c) ∧ Keep Sw w14 w' from AW.out.mono (fun e w' h => by
                obtain ⟨c, S9, h1, -, -, h2⟩ := h
                exact ⟨c, h1, h2⟩))
              go_wp2_with (first
                | (go_at_call 13; with_reducible refine AW2.out.mono ?_; rintro e w15 ⟨c15, rfl, hk15⟩; have HK15 := Lib.hid hk15; have HSX15 := Lib.hid (HC.out.keepS HSX14.out hk15 HDSW.out); have HMX15 := Lib.hid (HMX14.out.keep hk15 HDMW.out); have HKW15 := Lib.hid (HKW14.out.trans' hk15 (fun q hq => .inr (HSWB.out q hq))); clear hk15)
                | (go_at_call 18; with_reducible refine (LI _ HSX15.out).out.mono ?_; rintro e w16 ⟨hv2, rfl, h2h2, -, hk16⟩; have H2H2 := Lib.hid h2h2; have HK16 := Lib.hid hk16; clear h2h2 hk16)
                | (go_at_call 17; with_reducible refine (SM _ hv2 H2H2.out (HMX15.out.keep0 HK16.out)).out.mono ?_; rintro e w17 ⟨rfl, hk17⟩; have HK17 := Lib.hid (HK16.out.trans hk17); clear hk17))
              exact Handed.intro (μ - 1) (by have := HM.out; omega) (HJ.out _ _ _ ⟨i + 1, S11, lx, .slice XA kx XC, by have := HM.out; omega, ⟨rfl, rfl, by repeat (first | exact trivial | refine ⟨rfl, ?_⟩)⟩, HC.out.keepS HSX15.out HK17.out (by simp), HMX15.out.keep0 HK17.out, by have := HLX.out; omega, HDX.out, HSBX.out, HKW15.out.trans HK17.out⟩)
            · have c250 : ¬ (250 : Int) < (kd : Int) := by omega
              go_wp2_with fail
              exact Handed.intro (μ - 1) (by have := HM.out; omega) (HJ.out _ _ _ ⟨i + 1, S11, lx, .slice XA kx XC, by have := HM.out; omega, ⟨rfl, rfl, by repeat (first | exact trivial | refine ⟨rfl, ?_⟩)⟩, HSX14.out, HMX14.out, by have := HLX.out; omega, HDX.out, HSBX.out, HKW14.out⟩)
          · have dle : ¬ ((kx : Nat) : Int) ≤ ((m : Nat) : Int) := by omega
            obtain ⟨rfl, hsx⟩ : c11 = 7 ∧ SS w11 S11 s m l := by
              rcases HR11.out with h | h
              · have := h.1; omega
              · exact h.2
            have HSX := Lib.hid hsx
            have HMX := Lib.hid (HM10.out.keep HK11.out HAP.out)
            have HDX := Lib.hid (apart_more HM10.out HAP.out HS11.out (Nat.le_refl _))
            have HDMW := HDM0
            have HKX := HK0
            have hlX6 := hl6
            have HLX := Lib.hid (show l.length ≤ min (i + 1) 80 by have := HLL.out; omega)
            clear hsx
            have LI := fun W h => Lib.hid (HC.out.listS W S11 s m l h hlX6)
            have LN := fun W h => Lib.hid (show Calls Try.prog 19 #[.pointer (some ⟨s, 0, none⟩)] W fun e w' => e = .returned (.int .i64 (k0 : Nat)) ∧ Keep [] W w' by rw [HKX.out]; exact HC.out.lenS W S11 s m l h hlX6)
            have SM := fun W lv (h1 : S2 W lv l) h2 => Lib.hid (show Calls Try.prog 17 #[lv, .slice MA k0 MC] W fun e w' => e = .returned (.bool true) ∧ Keep [] W w' by
              have := same_any lv (.slice MA k0 MC) l l W h1 h2 hlX6
              rwa [decide_eq_true rfl] at this)
            go_upto_region 36 with (first
              | (go_at_call 18; with_reducible refine (LI _ HSX.out).out.mono ?_; rintro e w12 ⟨hv, rfl, h2h, -, hk12⟩; have H2H := Lib.hid h2h; have HK12 := Lib.hid hk12; clear h2h hk12)
              | (go_at_call 17; with_reducible refine (SM _ hv H2H.out (HMX.out.keep0 HK12.out)).out.mono ?_; rintro e w13 ⟨rfl, hk13⟩; have HK13 := Lib.hid (HK12.out.trans hk13); clear hk13)
              | (go_at_call 19; with_reducible refine (LN _ (HC.out.keepS HSX.out HK13.out (by simp))).out.mono ?_; rintro e w14 ⟨rfl, hk14⟩; have HK14 := Lib.hid (HK13.out.trans hk14); clear hk14))
            have HTC := (HTX.out.keep HK14.out (by simp)).cell 0
            rw [HD.out] at HTC
            simp [ac] at HTC
            rw [← HKD.out] at HTC
            have HKW14 := Lib.hid (HKXW.out.trans HK14.out)
            have HSX14 := Lib.hid (HC.out.keepS HSX.out HK14.out (by simp))
            have HMX14 := Lib.hid (HMX.out.keep0 HK14.out)
            by_cases h250 : 250 < kd
            · have c250 : (250 : Int) < (kd : Int) := by omega
              have AW := Lib.hid (HC.out.addS w14 Sw sw m l (500, 501) (HC.out.keepS HWX.out HK14.out (by simp)) hl6 (show 500 < 18446744073709551616 by omega) (show 501 < 18446744073709551616 by omega))
              have AW2 := Lib.hid (show Calls Try.prog 13 #[.pointer (some ⟨sw, 0, none⟩), .agg #[.int .u64 500, .int .u64 501]] w14 fun e w' => ∃ c, e = .returned (.int .i64 c) ∧ Keep Sw w14 w' from AW.out.mono (fun e w' h => by
                obtain ⟨c, S9, h1, -, -, h2⟩ := h
                exact ⟨c, h1, h2⟩))
              go_wp2_with (first
                | (go_at_call 13; with_reducible refine AW2.out.mono ?_; rintro e w15 ⟨c15, rfl, hk15⟩; have HK15 := Lib.hid hk15; have HSX15 := Lib.hid (HC.out.keepS HSX14.out hk15 HDSW.out); have HMX15 := Lib.hid (HMX14.out.keep hk15 HDMW.out); have HKW15 := Lib.hid (HKW14.out.trans' hk15 (fun q hq => .inr (HSWB.out q hq))); clear hk15)
                | (go_at_call 18; with_reducible refine (LI _ HSX15.out).out.mono ?_; rintro e w16 ⟨hv2, rfl, h2h2, -, hk16⟩; have H2H2 := Lib.hid h2h2; have HK16 := Lib.hid hk16; clear h2h2 hk16)
                | (go_at_call 17; with_reducible refine (SM _ hv2 H2H2.out (HMX15.out.keep0 HK16.out)).out.mono ?_; rintro e w17 ⟨rfl, hk17⟩; have HK17 := Lib.hid (HK16.out.trans hk17); clear hk17))
              exact Handed.intro (μ - 1) (by have := HM.out; omega) (HJ.out _ _ _ ⟨i + 1, S11, l, .slice MA k0 MC, by have := HM.out; omega, ⟨rfl, rfl, by repeat (first | exact trivial | refine ⟨rfl, ?_⟩)⟩, HC.out.keepS HSX15.out HK17.out (by simp), HMX15.out.keep0 HK17.out, by have := HLX.out; omega, HDX.out, HSBX.out, HKW15.out.trans HK17.out⟩)
            · have c250 : ¬ (250 : Int) < (kd : Int) := by omega
              go_wp2_with fail
              exact Handed.intro (μ - 1) (by have := HM.out; omega) (HJ.out _ _ _ ⟨i + 1, S11, l, .slice MA k0 MC, by have := HM.out; omega, ⟨rfl, rfl, by repeat (first | exact trivial | refine ⟨rfl, ?_⟩)⟩, HSX14.out, HMX14.out, by have := HLX.out; omega, HDX.out, HSBX.out, HKW14.out⟩)
    · have c80 : ¬ (i : Int) < 80 := by omega
      have c80' : (80 : Int) ≤ (i : Int) := by omega
      have HSS4 := Lib.hid (HC.out.keepS HSS.out HK4'.out (by simp))
      go_wp2_with fail
      exact ⟨rfl, HQ.out _ _ _ _ _ ⟨rfl, rfl, by repeat (first | exact trivial | refine ⟨rfl, ?_⟩)⟩ HSS4.out (H2M.out.keep0 HK4'.out) (by have := HLL.out; omega) HSB.out (HK.out.trans HK4'.out)⟩
  · have hnl : ¬ (i : Int) < (n : Int) := by omega
    go_wp2_with fail
    exact ⟨rfl, HQ.out _ _ _ _ _ ⟨rfl, rfl, by repeat (first | exact trivial | refine ⟨rfl, ?_⟩)⟩ HSS.out H2M.out (by have := HLL.out; omega) HSB.out HK.out⟩
end Go.Proofs.Ytpckbmebdhmfaaa
