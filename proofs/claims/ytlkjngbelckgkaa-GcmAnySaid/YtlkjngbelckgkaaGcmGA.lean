/-
  The landed gcm: bytes gone over by the hash.
  The landed gcm: the tag.
  The landed gcm: the tag.
-/
import Derived.Test.YtlkjngbelckgkaaGcmFC
namespace Go.Proofs.Ytlkjngbelckgkaa
open Go.RowKit

theorem Sl.at0 {k : IntKind} {w : World} {v : Value} {l : List Int} (h : Sl k w v l) : ∃ A c, v = .slice A l.length c ∧ l.length ≤ c ∧ c ≤ 9223372036854775807 := by
  obtain ⟨A, c, rfl, h1, h2, -, -⟩ := h
  exact ⟨A, c, rfl, h1, h2⟩

noncomputable def hfollL : Code := loopOf Try.f31 0
set_option maxRecDepth 100000 in
set_option maxHeartbeats 8000000 in
theorem foll_loop (R : Act → World → Prop) (a : Act) (w2 : World) (s p V : Nat) (bv v6 : Value) (hl e bl : List Int) (he : e.length = 16) (hbl : bl.length ≤ 1000000) (hb : Hid (Sl .u8 w2 bv bl)) (hne : Hid (s ≠ V ∧ ∀ b, 0 < bl.length → bv.ownBlock = some b → b ≠ V))
    (hBV : Hid (Blk w2 V 43 (ec (Gcm.en e)))) (hBS : Hid (SB w2 s p (Gcm.en hl)))
    (hF : Fr 28 [(0, .pointer (some ⟨s, 0, none⟩)), (2, bv), (4, .pointer (some ⟨V, 0, none⟩)), (6, v6)] a)
    (hQ : ∀ a' w', Fr 28 [(4, .pointer (some ⟨V, 0, none⟩)), (6, v6)] a' → Blk w' V 43 (ec (Gcm.en (Gcm.over hl e bl))) → Keep [V] w2 w' → R a' w') :
    Code.wp Try.prog (.loop hfollL) (OutX 0 R) a w2 := by
  refine wp_loop_ghost_k (fun m a wr => ∃ (r : Nat) (v : Value), m + r = (bl.length + 15) / 16 ∧ Fr 28 [(0, .pointer (some ⟨s, 0, none⟩)), (2, v), (4, .pointer (some ⟨V, 0, none⟩)), (6, v6)] a ∧ Sl .u8 wr v (bl.drop (16 * r)) ∧ (16 * r < bl.length → v.ownBlock = bv.ownBlock) ∧ Blk wr V 43 (ec (Gcm.en (Gcm.ovL hl e bl r))) ∧ Keep [V] w2 wr)
    ((bl.length + 15) / 16) ⟨0, bv, by omega, hF, hb.out, fun _ => rfl, hBV.out, Keep.refl _ _⟩ ?_
  clear hF hb hBV
  rintro m a wr ⟨r, v, hmr, hFr, hs, hob, h1, hk⟩ J K hJ hK1
  have HJ := Lib.hid hJ
  have HM := Lib.hid hmr
  have HS := Lib.hid hs
  have HOB := Lib.hid hob
  have HB := Lib.hid h1
  have HK := Lib.hid hk
  have HQ := Lib.hid hQ
  have hlen : (bl.drop (16 * r)).length = bl.length - 16 * r := List.length_drop
  have HWF := Lib.hid (hs.wf)
  clear hJ hmr hob h1 hk hQ
  by_cases hlt : 16 * r < bl.length
  · obtain ⟨b, off, c, rfl, hc1, hc2, -⟩ := hs.cells (by omega)
    clear hs
    obtain ⟨fr, ⟨f0, f2, f4, f6, -⟩, rfl⟩ := hFr.open28
    simp only [f0, f2, f4, f6]
    clear f0 f2 f4 f6 hFr
    conv => arg 2; whnf
    obtain ⟨X, hX⟩ : ∃ X, X = bl.drop (16 * r) := ⟨_, rfl⟩
    rw [← hX] at HS hlen hc1 HWF ⊢
    have HX := Lib.hid hX
    clear hX
    obtain ⟨n, hn⟩ : ∃ n, n = X.length := ⟨_, rfl⟩
    rw [← hn] at HS hlen hc1 ⊢
    have HNX := Lib.hid hn
    have hn0 : 0 < n := by omega
    have HL := Lib.hid hlen
    have hnp : (0 : Int) < (n : Int) := by omega
    clear hn hlen
    obtain ⟨Z, hZ, hZs, hZi⟩ := blk16
    have HZ := Lib.hid hZ
    have HZI := Lib.hid hZi
    clear hZ hZs hZi
    obtain ⟨T, hT⟩ : ∃ T, T = wr.heap.size := ⟨_, rfl⟩
    go_upto_region 3 with (refine wl_alloc_rowZ rfl _ rfl Z 16 HZI.out ?_; intro w3 hB3 hk3 hz3; have HB3 := Lib.hid hB3; have HK3 := Lib.hid hk3; clear hB3 hk3 hz3)
    have HBT := Lib.hid (show Blk w3 T 23 (List.replicate 16 (Value.int .u8 0)).toArray by rw [hT, ← HZ.out]; exact HB3.out)
    have HTN := Lib.hid (show T ≠ V ∧ T ≠ b ∧ T ≠ s ∧ w2.heap.size ≤ T by
      have h5 := HK.out.size
      have h1 := HB.out.lt
      have h2 := HS.out.lt (by have := HNX.out; omega) b rfl
      have h3 := (hBS.out.keep HK.out (by have := hne.out.1; simpa using this))
      have h4 := Blk.lt h3
      omega)
    have HS3 := Lib.hid (HS.out.keep0 HK3.out)
    have HV3 := Lib.hid (HB.out.keep HK3.out (by simp))
    rw [← hT]
    clear hT HB3 HZ
    have HC1 := Lib.hid (show ((X.take 16).map (Value.int .u8)).length = Nat.min n 16 by rw [List.length_map, List.length_take, ← HNX.out]; show min 16 n = min n 16; omega)
    have HC2 := Lib.hid (show 0 + ((X.take 16).map (Value.int .u8)).length ≤ (List.replicate 16 (Value.int .u8 0)).length by rw [List.length_map, List.length_take, List.length_replicate]; omega)
    have HC3 := Lib.hid (show Rd w3 (some ⟨b, off, none⟩) ((X.take 16).map (Value.int .u8)) by have := HS3.out.rd.take 16; rwa [← List.map_take] at this)
    go_upto_region 4 with (refine wl_copy _ rfl _ _ _ _ rfl 5 Try.underlying26 u8sz T 0 16 16 rfl (some ⟨b, off, none⟩) n c rfl (List.replicate 16 (Value.int .u8 0)) 23 HBT.out ((X.take 16).map (Value.int .u8)) HC1.out HC3.out HC2.out (ints_one _ _) ?_; intro w4 hB4 hk4 hz4; have HB4 := Lib.hid hB4; have HK4 := Lib.hid hk4; clear hB4 hk4 hz4)
    have HB4 := Lib.hid (show Blk w4 T 23 ((Gcm.pad X).map (Value.int .u8)).toArray by
      have : splice (List.replicate 16 (Value.int .u8 0)) 0 ((X.take 16).map (Value.int .u8)) = (Gcm.pad X).map (Value.int .u8) := by
        unfold splice Gcm.pad
        rw [List.take_zero, List.nil_append, List.drop_replicate, List.map_append, List.map_replicate, List.length_map, List.length_take]
        congr 2
        omega
      rw [← this]; exact HB4.out)
    obtain ⟨k, hk⟩ : ∃ k, k = min 16 X.length := ⟨_, rfl⟩
    have HKK := Lib.hid (show k = min 16 n by rw [hk, HNX.out])
    rw [← hk]
    have hkn : k ≤ n := by have := HKK.out; omega
    clear hk
    have HS4 := Lib.hid (HS3.out.keep HK4.out (fun _ g hg => by
      have h1 := HTN.out.2.1
      have : b = g := by simpa [Value.ownBlock] using hg
      simp; omega))
    have HV4 := Lib.hid (HV3.out.keep HK4.out (by have := HTN.out.1; simp; omega))
    have HSB4 := Lib.hid (((hBS.out.keep HK.out (by have := hne.out.1; simpa using this)).keep HK3.out (by simp)).keep HK4.out (by have := HTN.out.2.2.1; simp; omega))
    have HK4W := Lib.hid ((HK.out.trans0 HK3.out).trans' HK4.out (fun q hq => by
      right
      have h1 := HTN.out.2.2.2
      simp at hq; omega))
    obtain ⟨D, hD⟩ : ∃ D, D = ((Gcm.pad X).map (Value.int .u8)).toArray := ⟨_, rfl⟩
    have HD := Lib.hid hD
    have HDS := Lib.hid (show D.size = 16 by rw [hD]; simp [Gcm.pad_length])
    rw [← hD] at HB4
    clear hD
    refine OutN.use (foll_reg4 (fun a' w' => Fr 28 [(0, .pointer (some ⟨s, 0, none⟩)), (2, .slice (some ⟨b, off, none⟩) n c), (4, .pointer (some ⟨V, 0, none⟩)), (6, v6), (7, .pointer (some ⟨T, 0, none⟩)), (8, .int .i64 (k : Nat))] a' ∧ Blk w' V 43 (ec (Gcm.en (Gcm.ovL hl e bl (r + 1)))) ∧ Keep [V] w4 w') _ w4 s p V T (Gcm.en (Gcm.ovL hl e bl r)) (Gcm.en hl) (Gcm.pad X) D _ _ _ ⟨Gcm.pad_length X, Gcm.pad_wf HWF.out⟩ HD HDS (Gcm.en_lt _) (Gcm.en_lt _) HV4 HB4 HSB4
      ⟨rfl, rfl, by repeat (first | exact trivial | refine ⟨rfl, ?_⟩)⟩ (Lib.hid fun a' w' h1 h2 h3 => ⟨h1, by
        rw [Gcm.en_ovL hl e bl he, ← HX.out]; exact h2, h3⟩)) ?_
    rintro a' w5 ⟨hF5, hb5, hk5⟩
    have HB5 := Lib.hid hb5
    have HK5 := Lib.hid (HK4W.out.trans hk5)
    have HS5 := Lib.hid (HS4.out.keep hk5 (fun _ g hg => by
      have : b = g := by simpa [Value.ownBlock] using hg
      have h2 := HOB.out hlt
      have h1 := hne.out.2 b (by omega) (by rw [← h2]; rfl)
      simp; omega))
    obtain ⟨fr, ⟨f0, f2, f4, f6, f7, f8, -⟩, rfl⟩ := hF5.open28
    simp only [f0, f2, f4, f6, f7, f8]
    clear f0 f2 f4 f6 f7 f8 hF5 hb5 hk5
    have hXd : X.drop k = bl.drop (16 * (r + 1)) := by
      rw [HX.out, List.drop_drop]
      have h1 := HL.out
      have h2 := HKK.out
      by_cases h16 : 16 ≤ n
      · rw [show k = 16 by omega, show 16 * r + 16 = 16 * (r + 1) by omega]
      · rw [List.drop_of_length_le (by omega), List.drop_of_length_le (by omega)]
    have HXD := Lib.hid hXd
    have HB5' := Lib.hid (show (16 * (r + 1) < bl.length → some b = bv.ownBlock) from fun _ => HOB.out hlt)
    have HS6 := Lib.hid (show ∀ A', (k < n → A' = some ⟨b, off + k, none⟩) → Sl .u8 w5 (.slice A' (n - k) (c - k)) (bl.drop (16 * (r + 1))) from fun A' hA => by
      rw [← HXD.out]
      have h := HS5.out
      have hn := HNX.out
      subst hn
      exact h.drop hkn (fun hlt => by rw [hA hlt, Option.map_some, Addr.add_lit]))
    clear hXd HL HX
    go_wp2_with fail
    · have h0 : n - k = 0 := by omega
      have h6 := HS6.out (some ⟨b, off, none⟩) (fun h => by omega)
      rw [show c - k = 0 by omega] at h6
      exact Handed.intro (m - 1) (by have := HM.out; omega) (HJ.out _ _ _ ⟨r + 1, _, by have := HM.out; omega, ⟨rfl, rfl, by repeat (first | exact trivial | refine ⟨rfl, ?_⟩)⟩, h6, fun h => HB5'.out h, HB5.out, HK5.out⟩)
    · exact Handed.intro (m - 1) (by have := HM.out; omega) (HJ.out _ _ _ ⟨r + 1, _, by have := HM.out; omega, ⟨rfl, rfl, by repeat (first | exact trivial | refine ⟨rfl, ?_⟩)⟩, HS6.out _ (fun _ => rfl), fun h => HB5'.out h, HB5.out, HK5.out⟩)
  · obtain ⟨A, c, rfl, hc1, hc2⟩ := hs.at0
    rw [show (bl.drop (16 * r)).length = 0 by omega] at hFr
    clear hs
    obtain ⟨fr, ⟨f0, f2, f4, f6, -⟩, rfl⟩ := hFr.open28
    simp only [f0, f2, f4, f6]
    clear f0 f2 f4 f6 hFr
    conv => arg 2; whnf
    have HRR := Lib.hid (show r = (bl.length + 15) / 16 by have := HM.out; omega)
    clear hlt hlen hc1 hc2
    go_wp2_with fail
    refine ⟨rfl, HQ.out _ _ ⟨rfl, rfl, by repeat (first | exact trivial | refine ⟨rfl, ?_⟩)⟩ ?_ HK.out⟩
    unfold Gcm.over
    rw [← HRR.out]
    exact HB.out

theorem elSzN (n : Nat) : (Try.prog.info? 43).map (·.size) = some (ec n).size := elSz
theorem elZb : Try.prog.built 43 [] = some #[.int .u64 0, .int .u64 0] := by kernel_rfl
theorem Sl.ne_new {k : IntKind} {w : World} {v : Value} {l : List Int} (h : Sl k w v l) {g : Nat} (hg : w.heap.size ≤ g) : ∀ b, 0 < l.length → v.ownBlock = some b → b ≠ g := fun b hl hb => by
  have := h.lt hl b hb
  omega

set_option maxRecDepth 100000 in
set_option maxHeartbeats 8000000 in
theorem foll_any (s p : Nat) (bv : Value) (hl e bl : List Int) (he : e.length = 16) (hbl : bl.length ≤ 1000000) (w : World) (hb : Sl .u8 w bv bl) (hBS : SB w s p (Gcm.en hl)) :
    Calls Try.prog 31 #[.pointer (some ⟨s, 0, none⟩), ev (Gcm.en e), bv] w fun r w' => r = .returned (ev (Gcm.en (Gcm.over hl e bl))) ∧ Keep [] w w' := by
  obtain ⟨n, hn⟩ : ∃ n, n = Gcm.en e := ⟨_, rfl⟩
  obtain ⟨o, ho⟩ : ∃ o, o = Gcm.en (Gcm.over hl e bl) := ⟨_, rfl⟩
  rw [← hn, ← ho]
  have HNE := Lib.hid hn
  have HOE := Lib.hid ho
  clear hn ho
  obtain ⟨D, hD⟩ : ∃ D, D = ec n := ⟨_, rfl⟩
  have HD := Lib.hid hD
  have HB := Lib.hid hb
  have HS := Lib.hid hBS
  rw [show ev n = .agg D by rw [hD]; rfl]
  clear hD hb hBS
  go_enter Try.func31, Try.ntmps31
  go_upto_block 0 with (first
    | (have _q := HB1; refine wl_alloc_rowZ rfl _ rfl #[.int .u64 0, .int .u64 0] 2 elZ ?_; intro w3 hB3 hk3 hz3; have HB3 := Lib.hid hB3; have HK3 := Lib.hid hk3; clear hB3 hk3 hz3)
    | (refine wl_box rfl _ _ rfl D rfl ?_; intro w1 hB1 hk1 hz1; have HB1 := Lib.hid hB1; have HK1 := Lib.hid hk1; clear hB1 hk1 hz1))
  obtain ⟨V, hV⟩ : ∃ V, V = w.heap.size := ⟨_, rfl⟩
  obtain ⟨C, hC⟩ : ∃ C, C = w1.heap.size := ⟨_, rfl⟩
  have HN := Lib.hid (show w.heap.size ≤ V ∧ w.heap.size ≤ C ∧ C ≠ V ∧ s ≠ V by
    have h4 := HK1.out.size
    have h5 := HB1.out.lt
    have h6 := Blk.lt HS.out
    omega)
  have HBV := Lib.hid (show Blk w3 V 43 (ec (Gcm.en e)) by rw [hV, ← HNE.out, ← HD.out]; exact HB1.out.keep HK3.out (by simp))
  have HBC := Lib.hid (show Blk w3 C 43 #[.int .u64 0, .int .u64 0] by rw [hC]; exact HB3.out)
  have HK := Lib.hid (HK1.out.trans HK3.out)
  rw [← hV, ← hC]
  clear hV hC HB1 HB3 HK1 HK3 _q
  go_wp2_with fail
  refine OutX.use (foll_loop (fun a' w' => Fr 28 [(4, .pointer (some ⟨V, 0, none⟩)), (6, .pointer (some ⟨C, 0, none⟩))] a' ∧ Blk w' V 43 (ec (Gcm.en (Gcm.over hl e bl))) ∧ Keep [V] w3 w') _ w3 s p V bv _ hl e bl he hbl (Lib.hid (HB.out.keep0 HK.out)) (Lib.hid ⟨HN.out.2.2.2, HB.out.ne_new HN.out.1⟩) HBV (Lib.hid (HS.out.keep HK.out (by simp)))
    ⟨rfl, rfl, by repeat (first | exact trivial | refine ⟨rfl, ?_⟩)⟩ (fun a' w' h1 h2 h3 => ⟨h1, h2, h3⟩)) ?_
  rintro a' w5 ⟨hF5, hb5, hk5⟩
  have HB5 := Lib.hid hb5
  have HC5 := Lib.hid (HBC.out.keep hk5 (by have := HN.out; simp; omega))
  have HK5 := Lib.hid (HK.out.trans' hk5 (fun q hq => by right; have := HN.out; simp at hq; omega))
  obtain ⟨fr', ⟨f4, f6, -⟩, rfl⟩ := hF5.open28
  simp only [f4, f6]
  clear f4 f6 hF5 hb5 hk5
  obtain ⟨E, hE⟩ : ∃ E, E = ec o := ⟨_, rfl⟩
  have HES := Lib.hid (show (Try.prog.info? 43).map (·.size) = some E.size by rw [hE]; exact elSz)
  have HEO := Lib.hid (show #[Value.int .u64 0, .int .u64 0].size = E.size ∧ E.all (·.oneCell') = true by rw [hE]; exact ⟨rfl, elOne _ _⟩)
  have HR := Lib.hid (show ev o = .agg E by rw [hE]; rfl)
  rw [← HOE.out, ← hE] at HB5
  clear hE
  go_wp2_with (first
    | (refine wl_load_rowD rfl _ _ rfl V rfl _ Try.underlying43 rfl _ E HB5.out HES.out ?_)
    | (refine wl_store_row rfl _ _ _ rfl C rfl E rfl _ _ HC5.out HES.out HEO.out.1 HEO.out.2 ?_; intro w6 hB6 hk6 hz6))
  (try simp only [Exit.inBlock, Exit.then])
  refine bodyPost_ret (v := .agg E) ?_ rfl ?_
  · exact results_cell_row Try.results31 _ w6 C 43 _ (0, 0) _ rfl hB6 Try.underlying43 rfl HES.out
  · exact ⟨by rw [HR.out], HK5.out.trans' hk6 (fun q hq => by right; have := HN.out; simp at hq; omega)⟩

set_option maxRecDepth 100000 in
set_option maxHeartbeats 8000000 in
theorem tag_any (s p g m : Nat) (ov tv : Value) (k nn ol tl : List Int) (hk : B16 k) (hnn : N12 nn) (hol : ol.length ≤ 1000000) (htl : tl.length ≤ 1000000) (hm : m ≤ 1000000) (w : World) (ho : Sl .u8 w ov ol) (ht : Sl .u8 w tv tl) (hBS : SB w s p (Gcm.en (Gcm.hk k))) (hsg : s ≠ g) (hAK : AK w p g k) (hAT : AT w g m) :
    Calls Try.prog 16 #[.pointer (some ⟨s, 0, none⟩), arr nn, ov, tv] w fun r w' => r = .returned (ev (Gcm.en (Gcm.tag k nn ol tl))) ∧ AT w' g (m + 1) ∧ Keep [g] w w' := by
  obtain ⟨D, hD⟩ : ∃ D, D = (nn.map (Value.int .u8)).toArray := ⟨_, rfl⟩
  have HD := Lib.hid hD
  have HDS := Lib.hid (show D.size = 12 by rw [hD]; simp [hnn.1])
  have HO := Lib.hid ho
  have HT := Lib.hid ht
  have HS := Lib.hid hBS
  have HK0 := Lib.hid hAK
  have HA0 := Lib.hid hAT
  obtain ⟨oA, oc, rfl, ho1, ho2⟩ := ho.at0
  obtain ⟨tA, tc, rfl, ht1, ht2⟩ := ht.at0
  have FO : ∀ (e : List Int), e.length = 16 → ∀ w : World, SB w s p (Gcm.en (Gcm.hk k)) → Sl .u8 w (.slice oA ol.length oc) ol → Hid (Calls Try.prog 31 #[.pointer (some ⟨s, 0, none⟩), .agg (ec (Gcm.en e)), .slice oA ol.length oc] w fun r w' => r = .returned (ev (Gcm.en (Gcm.over (Gcm.hk k) e ol))) ∧ Keep [] w w') := fun e he w h1 h2 => Lib.hid (foll_any s p _ _ e ol he hol w h2 h1)
  have FT : ∀ (e : List Int), e.length = 16 → ∀ w : World, SB w s p (Gcm.en (Gcm.hk k)) → Sl .u8 w (.slice tA tl.length tc) tl → Hid (Calls Try.prog 31 #[.pointer (some ⟨s, 0, none⟩), .agg (ec (Gcm.en e)), .slice tA tl.length tc] w fun r w' => r = .returned (ev (Gcm.en (Gcm.over (Gcm.hk k) e tl))) ∧ Keep [] w w') := fun e he w h1 h2 => Lib.hid (foll_any s p _ _ e tl he htl w h2 h1)
  obtain ⟨e1, he1⟩ : ∃ e1, e1 = Gcm.over (Gcm.hk k) (List.replicate 16 0) ol := ⟨_, rfl⟩
  obtain ⟨e2, he2⟩ : ∃ e2, e2 = Gcm.over (Gcm.hk k) e1 tl := ⟨_, rfl⟩
  have hl1 : e1.length = 16 := by rw [he1]; exact Gcm.over_length _ _ _ (by simp)
  have hH : Gcm.en (Gcm.hash k ol tl) = Gcm.pr (Gcm.en e2 ^^^ (ol.length * 8 * 2 ^ 64 + tl.length * 8)) (Gcm.en (Gcm.hk k)) 128 := by
    rw [Gcm.en_hash, ← he1, ← he2, Gcm.en_lens _ _ (by omega) (by omega)]
  have HR := Lib.hid (show Gcm.en (Gcm.tag k nn ol tl) = Gcm.pr (Gcm.en e2 ^^^ (ol.length * 8 * 2 ^ 64 + tl.length * 8)) (Gcm.en (Gcm.hk k)) 128 ^^^ Gcm.en (Aes.turn k (Gcm.ctr nn 1)) by
    unfold Gcm.tag; rw [Gcm.en_tag, hH]; rfl)
  obtain ⟨q, hq⟩ : ∃ q, q = ol.length * 8 * 2 ^ 64 + tl.length * 8 := ⟨_, rfl⟩
  have HQ := Lib.hid hq
  have hq2 : q < 2 ^ 128 := by omega
  have hec : ec q = #[.int .u64 ((ol.length * 8 : Nat) : Int), .int .u64 ((tl.length * 8 : Nat) : Int)] := ec_of q _ _ hq (by omega)
  rw [← hq] at HR
  have FO1 := FO (List.replicate 16 0) (by simp)
  rw [← he1, Gcm.en_zero, show ec 0 = #[Value.int .u64 0, .int .u64 0] from rfl] at FO1
  have FT1 := FT e1 hl1
  rw [← he2] at FT1
  have hh := Gcm.en_lt (Gcm.hk k)
  have hn2 := Gcm.en_lt e2
  clear FO FT hH hq he1 he2
  obtain ⟨n1, hn1⟩ : ∃ n1, n1 = Gcm.en e1 := ⟨_, rfl⟩
  obtain ⟨n2, hn2'⟩ : ∃ n2, n2 = Gcm.en e2 := ⟨_, rfl⟩
  obtain ⟨h, hh'⟩ : ∃ h, h = Gcm.en (Gcm.hk k) := ⟨_, rfl⟩
  obtain ⟨t, ht'⟩ : ∃ t, t = Gcm.en (Gcm.tag k nn ol tl) := ⟨_, rfl⟩
  rw [← hn1] at FO1 FT1
  rw [← hn2'] at FT1 HR hn2
  rw [← hh'] at FO1 FT1 HR hh HS
  rw [← ht'] at HR ⊢
  unfold ev at FO1 FT1
  clear hn1 hn2' hh' ht' hl1 hBS
  obtain ⟨lo, hlo⟩ : ∃ lo, lo = ol.length := ⟨_, rfl⟩
  obtain ⟨lt, hlt⟩ : ∃ lt, lt = tl.length := ⟨_, rfl⟩
  rw [← hlo] at HO ho1 FO1 hec hol ⊢
  rw [← hlt] at HT ht1 FT1 hec htl ⊢
  have HEC := Lib.hid (show ec q = #[.int .u64 ((lo : Int) * 8), .int .u64 ((lt : Int) * 8)] from hec)
  have w1 : IntKind.u64.wrap (8 * (lo : Int)) = ((lo * 8 : Nat) : Int) := by
    rw [show IntKind.u64.wrap (8 * (lo : Int)) = 8 * (lo : Int) from IntWalk.u64_in _ ⟨by omega, by omega⟩]; omega
  have w2 : IntKind.u64.wrap (8 * (lt : Int)) = ((lt * 8 : Nat) : Int) := by
    rw [show IntKind.u64.wrap (8 * (lt : Int)) = 8 * (lt : Int) from IntWalk.u64_in _ ⟨by omega, by omega⟩]; omega
  rw [arr_agg, ← hD]
  clear hD ho ht hAK hAT hlo hlt hec
  go_enter Try.func16, Try.ntmps16
  go_upto_region 1 with (first
    | (have _q := HB1; refine wl_alloc_rowZ rfl _ rfl #[.int .u64 0, .int .u64 0] 2 elZ ?_; intro w3 hB3 hk3 hz3; have HB3 := Lib.hid hB3; have HK3 := Lib.hid hk3; clear hB3 hk3 hz3)
    | (refine wl_box rfl _ _ rfl D rfl ?_; intro w1 hB1 hk1 hz1; have HB1 := Lib.hid hB1; have HK1 := Lib.hid hk1; clear hB1 hk1 hz1))
  obtain ⟨N, hN⟩ : ∃ N, N = w.heap.size := ⟨_, rfl⟩
  obtain ⟨C, hC⟩ : ∃ C, C = w1.heap.size := ⟨_, rfl⟩
  have hNN := (show N < w3.heap.size ∧ C < w3.heap.size ∧ w.heap.size ≤ C ∧ w.heap.size ≤ N by
    have h3 := HB3.out.lt
    have h4 := HK1.out.size
    have h5 := HB1.out.lt
    have h6 := HK3.out.size
    omega)
  have HBN := Lib.hid (show Blk w3 N 25 D by rw [hN]; exact HB1.out.keep HK3.out (by simp))
  have HBC := Lib.hid (show Blk w3 C 43 (ec 0) by rw [hC]; exact HB3.out)
  have HK := Lib.hid (HK1.out.trans HK3.out)
  have HNN := Lib.hid hNN
  rw [← hN, ← hC]
  clear hN hC HB1 HB3 HK1 HK3 _q hNN
  go_upto_region 2 with (first
    | (refine wl_build rfl _ _ rfl #[.int .u64 0, .int .u64 0] [] (by simp) elZb ?_)
    | (go_at_call 31; with_reducible refine (FO1 _ (HS.out.keep HK.out (by simp)) (HO.out.keep0 HK.out)).out.mono ?_; rintro e w4 ⟨rfl, hk4⟩; have HK4 := Lib.hid hk4; clear hk4)
    | (refine wl_alloc_rowZ rfl _ rfl #[.int .u64 0, .int .u64 0] 2 elZ ?_; intro w5 hB5 hk5 hz5; have HB5 := Lib.hid hB5; have HK5 := Lib.hid hk5; clear hB5 hk5 hz5)
    | (refine wl_store_row rfl _ _ _ rfl w4.heap.size rfl _ rfl _ _ HB5.out (elSzN _) rfl (elOne _ _) ?_; intro w6 hB6 hk6 hz6; have HB6 := Lib.hid hB6; have HK6 := Lib.hid hk6; clear hB6 hk6 hz6))
  obtain ⟨V, hV⟩ : ∃ V, V = w4.heap.size := ⟨_, rfl⟩
  have HBV := Lib.hid (show Blk w6 V 43 (ec n1) by rw [hV]; exact HB6.out)
  have hK6 : Keep [] w3 w6 := (HK4.out.trans HK5.out).trans' HK6.out (fun q hq => by right; have := HK4.out.size; simp at hq; omega)
  have HVN := Lib.hid (show w3.heap.size ≤ V ∧ V < w6.heap.size by rw [hV]; exact ⟨HK4.out.size, HB6.out.lt⟩)
  have HK6' := Lib.hid (HK.out.trans hK6)
  have HBN6 := Lib.hid (HBN.out.keep hK6 (by simp))
  have HBC6 := Lib.hid (HBC.out.keep hK6 (by simp))
  rw [← hV]
  clear hV hK6 HK4 HK5 HK6 HB5 HB6 HBN HBC
  go_upto_region 3 with (first
    | (refine wl_load_rowD rfl _ _ rfl V rfl _ Try.underlying43 rfl _ (ec n1) HBV.out (elSzN _) ?_)
    | (go_at_call 31; with_reducible refine (FT1 _ (HS.out.keep HK6'.out (by simp)) (HT.out.keep0 HK6'.out)).out.mono ?_; rintro e w7 ⟨rfl, hk7⟩; have HK7 := Lib.hid hk7; have HBV7 := Lib.hid (HBV.out.keep hk7 (by simp)); clear hk7)
    | (refine wl_store_row rfl _ _ _ rfl V rfl _ rfl _ _ HBV7.out (elSzN _) rfl (elOne _ _) ?_; intro w8 hB8 hk8 hz8; have HB8 := Lib.hid hB8; have HK8 := Lib.hid hk8; clear hB8 hk8 hz8))
  have HK8' := Lib.hid (show Keep [] w w8 from (HK6'.out.trans HK7.out).trans' HK8.out (fun q hq => by right; have := HVN.out; have := HK.out.size; simp at hq; omega))
  have HBN8 := Lib.hid ((HBN6.out.keep HK7.out (by simp)).keep HK8.out (by have := HVN.out; have := HNN.out; simp; omega))
  have HBC8 := Lib.hid ((HBC6.out.keep HK7.out (by simp)).keep HK8.out (by have := HVN.out; have := HNN.out; simp; omega))
  clear HBV7 HBV HBN6 HBC6 HK6'
  go_upto_region 4 with (first
    | (refine wl_build rfl _ _ rfl (ec q) [(0, .int .u64 ((lo : Int) * 8)), (1, .int .u64 ((lt : Int) * 8))] (by simp; with_unfolding_all exact ⟨rfl, rfl⟩) (by rw [HEC.out]; kernel_rfl) ?_)
    | (refine wl_alloc_rowZ rfl _ rfl #[.int .u64 0, .int .u64 0] 2 elZ ?_; intro w9 hB9 hk9 hz9; have HB9 := Lib.hid hB9; have HK9 := Lib.hid hk9; clear hB9 hk9 hz9)
    | (refine wl_store_row rfl _ _ _ rfl w8.heap.size rfl _ rfl _ _ HB9.out (elSzN _) rfl (elOne _ _) ?_; intro w10 hB10 hk10 hz10; have HB10 := Lib.hid hB10; have HK10 := Lib.hid hk10; clear hB10 hk10 hz10))
  obtain ⟨M, hM⟩ : ∃ M, M = w8.heap.size := ⟨_, rfl⟩
  have HBM := Lib.hid (show Blk w10 M 43 (ec q) by rw [hM]; exact HB10.out)
  have hK10 : Keep [] w8 w10 := HK9.out.trans' HK10.out (fun q hq => by right; simp at hq; omega)
  have HBV10 := Lib.hid (HB8.out.keep hK10 (by simp))
  have HBN10 := Lib.hid (HBN8.out.keep hK10 (by simp))
  have HBC10 := Lib.hid (HBC8.out.keep hK10 (by simp))
  have HK10' := Lib.hid (HK8'.out.trans hK10)
  have HS10 := Lib.hid (HS.out.keep HK10'.out (by simp))
  have HA10 := Lib.hid (HA0.out.keep HK10'.out (by simp))
  have HAK10 := Lib.hid (HK0.out.keep HK10'.out (by simp))
  have HNE := Lib.hid (show V ≠ M ∧ V ∉ [g] ∧ C ∉ [g] ∧ N ∉ [g] ∧ s ∉ [g] ∧ g ∉ [C] ∧ C ∉ [V] ∧ N ∉ [V] ∧ s ∉ [V] ∧ g ∉ [V] ∧ p ∉ [V] ∧ w.heap.size ≤ C ∧ w.heap.size ≤ V by
    have h1 := HVN.out
    have h2 := HNN.out
    have h3 := HK.out.size
    have h4 := HA0.out.lt
    have h5 := HB8.out.lt
    have h6 := HK0.out.lt
    have h7 := Blk.lt HS.out
    simp; omega)
  rw [← hM]
  clear hM hK10 HB9 HB10 HK9 HK10 HB8 HBN8 HBC8 HK8' HK7 HK8
  refine OutN.use (tag_reg4 (fun a' w' => Fr 46 [(0, .pointer (some ⟨s, 0, none⟩)), (5, .pointer (some ⟨N, 0, none⟩)), (8, .pointer (some ⟨C, 0, none⟩)), (9, .pointer (some ⟨V, 0, none⟩))] a' ∧ Blk w' V 43 (ec (Gcm.pr (n2 ^^^ q) h 128)) ∧ Keep [V] w10 w') _ w10 s p V M n2 q h _ _ hn2 hq2 hh HBV10 HBM HS10
    ⟨rfl, rfl, by repeat (first | exact trivial | refine ⟨rfl, ?_⟩)⟩ (Lib.hid fun a' w' h1 h2 h3 => ⟨⟨h1.1, h1.2, h1.3.1, h1.3.2.1, h1.3.2.2.1, h1.3.2.2.2.1, trivial⟩, h2, h3⟩)) ?_
  rintro a' w11 ⟨hF11, hb11, hk11⟩
  have HB11 := Lib.hid hb11
  have HK11 := Lib.hid hk11
  obtain ⟨fr, ⟨f0, f5, f8, f9, -⟩, rfl⟩ := hF11.open46
  simp only [f0, f5, f8, f9]
  clear f0 f5 f8 f9 hF11 hb11 hk11
  go_upto_region 5 with fail
  refine OutN.use (tag_reg5 (fun a' w' => Fr 46 [(8, .pointer (some ⟨C, 0, none⟩))] a' ∧ Blk w' C 43 (ec t) ∧ AT w' g (m + 1) ∧ Keep [g, C] w11 w') _ w11 s p g V N C (Gcm.pr (n2 ^^^ q) h 128) m 0 h k nn D (Gcm.pr_lt _ _ _ hh) hk hnn HD HDS hm (Lib.hid ⟨HNE.out.2.1, HNE.out.2.2.1, HNE.out.2.2.2.1, HNE.out.2.2.2.2.1, HNE.out.2.2.2.2.2.1⟩)
    HB11 (Lib.hid (HBC10.out.keep HK11.out HNE.out.2.2.2.2.2.2.1)) (Lib.hid (HBN10.out.keep HK11.out HNE.out.2.2.2.2.2.2.2.1)) (Lib.hid (HS10.out.keep HK11.out HNE.out.2.2.2.2.2.2.2.2.1)) (Lib.hid (HA10.out.keep HK11.out HNE.out.2.2.2.2.2.2.2.2.2.1)) (Lib.hid (HAK10.out.keep HK11.out HNE.out.2.2.2.2.2.2.2.2.2.2.1))
    ⟨rfl, rfl, by repeat (first | exact trivial | refine ⟨rfl, ?_⟩)⟩ (Lib.hid fun a' w' h1 h2 h3 h4 => ⟨⟨h1.1, h1.2, h1.3.2.2.1, trivial⟩, by rw [HR.out]; exact h2, h3, h4⟩)) ?_
  rintro a' w12 ⟨hF12, hb12, hat12, hk12⟩
  have HB12 := Lib.hid hb12
  have HK12 := Lib.hid hk12
  have HA12 := Lib.hid hat12
  obtain ⟨fr', ⟨f8, -⟩, rfl⟩ := hF12.open46
  simp only [f8]
  clear f8 hF12 hb12 hat12 hk12
  go_wp2_with fail
  (try simp only [Exit.inBlock, Exit.then])
  refine bodyPost_ret (v := .agg (ec t)) ?_ rfl ?_
  · exact results_cell_row Try.results16 _ w12 C 43 _ (0, 0) _ rfl HB12.out Try.underlying43 rfl (elSzN t)
  · have hN := HNE.out
    exact ⟨rfl, HA12.out, (HK10'.out.more0.trans' HK11.out (fun q hq => by right; simp at hq; omega)).trans' HK12.out (fun q hq => by simp at hq; rcases hq with rfl | rfl; left; simp; right; omega)⟩
end Go.Proofs.Ytlkjngbelckgkaa
