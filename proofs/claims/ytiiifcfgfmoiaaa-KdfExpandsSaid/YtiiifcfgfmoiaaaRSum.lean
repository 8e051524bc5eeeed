/-
  The document's answer to Sum.
-/
import Derived.Test.YtiiifcfgfmoiaaaRSha8
namespace Go.Proofs.Ytiiifcfgfmoiaaa
open Go.RowKit


theorem pad_wf {l : List Int} (h : ∀ x ∈ l, (Lit.int .u8 x).wf = true) : ∀ x ∈ Sha.pad l, (Lit.int .u8 x).wf = true := by
  intro x hx
  simp only [Sha.pad, List.mem_append, List.mem_cons, List.mem_replicate] at hx
  rcases hx with hx | rfl | ⟨_, rfl⟩ | hx
  · exact h x hx
  · decide
  · decide
  · exact u8_wf (bb_wf _ _ x hx).1 (bb_wf _ _ x hx).2
theorem pad_len (l : List Int) : 64 * ((Sha.pad l).length / 64) = (Sha.pad l).length := by
  have : (Sha.pad l).length = l.length + 1 + Sha.gap l.length + 8 := by simp [Sha.pad, bb_length]; omega
  have h2 : Sha.gap l.length = (119 - l.length % 64) % 64 := rfl
  omega
def lenOf : Value → Nat
  | .slice _ n _ => n
  | _ => 0
theorem keep_own {w0 W w' : World} {base size n : Nat} {e : TypeId} {v : Value} {xs : List Value} (h : W.ownsRow base e size v n xs) (hb : w0.heap.size ≤ base) (h0 : Keep [] w0 W) (hk : Keep v.ownBlock.toList W w') : Keep [] w0 w' :=
  h0.trans' hk fun g hg => by
    right
    have := (h.lt g (by simpa using hg)).1
    omega

set_option maxRecDepth 100000 in
set_option maxHeartbeats 8000000 in
theorem rsum_any (v : Value) (l : List Int) (w : World) (hv : Sl .u8 w v l) (hl : l.length ≤ 1099511627776) :
    Calls Try.prog 19 #[v] w fun e w' => ∃ v', e = .returned v' ∧ w'.ownsRow w.heap.size 5 1 v' 32 ((Sha.sum l).map (Value.int .u8)) ∧ Keep [] w w' := by
  have HV := Lib.hid hv
  obtain ⟨A, c, rfl, hlc, hcm, -, -⟩ := hv
  obtain ⟨H, hH⟩ : ∃ H, H = w.heap.size := ⟨_, rfl⟩
  obtain ⟨w0, hw0⟩ : ∃ w0, w0 = w.alloc (.cells #[.int .u32 1779033703, .int .u32 3144134277, .int .u32 1013904242, .int .u32 2773480762, .int .u32 1359893119, .int .u32 2600822924, .int .u32 528734635, .int .u32 1541459225] 55) := ⟨_, rfl⟩
  have hB0 : Blk w0 H 55 (cellsN Sha.start.list).toArray := by rw [hw0, hH]; exact Blk.new _ _ _
  have hk0 : Keep [] w w0 := by rw [hw0]; exact (Keep.refl _ _).alloc _
  have hz0 : w0.heap.size = H + 1 := by rw [hw0, hH]; simp
  have HB0 := Lib.hid hB0
  have HK0 := Lib.hid hk0
  have HZ0 := Lib.hid hz0
  have HL := Lib.hid hl
  have HW0 := Lib.hid hw0
  have HH := Lib.hid hH
  clear hB0 hk0 hz0 hw0 hH
  go_enter Try.func19, Try.ntmps19
  go_upto_region 2 with (fail)
  rw [← HW0.out, ← HH.out]
  go_upto_region 3 with (fail)
  have hr0 : Rd (w0.alloc (.cells #[] 5)) A (l.map (Value.int .u8)) := ((HV.out.keep0 HK0.out).keep0 ((Keep.refl _ _).alloc _)).rd
  go_upto_region 4 with (at_builtin; refine wl_append _ rfl _ _ _ rfl (H + 1) 5 (.int .u8 0) 1 1 Try.underlying24 u8infB rfl (by decide) (.slice (some ⟨w0.heap.size, 0, none⟩) 0 0) 0 [] rfl (own_base (own_of_blk (Blk.new _ _ _) rfl (Nat.le_refl _) (by omega) rfl) ?c1) A l.length c (l.map (Value.int .u8)) rfl (by simp) ?c2 (ints_one _ _) ?c3 ?c4 ?c5 ?_; rotate_right; intro v1 w1 ho1 hk1 hat1)
  case c1 => rw [HZ0.out]; exact Nat.le_refl _
  case c2 => exact hr0
  case c3 => simp only [maxLen]; omega
  case c4 => omega
  case c5 => have := HZ0.out; simp; omega
  have hk1' : Keep [] w0 w1 := ((Keep.refl _ _).alloc _).trans' hk1 (by intro g hg; right; simp [Value.ownBlock] at hg; omega)
  have HO1 := Lib.hid ho1
  have HK1 := Lib.hid hk1'
  clear ho1 hk1 hk1' hat1 hr0
  obtain ⟨A1, c1, rfl⟩ := own_slice HO1.out
  go_upto_block 0 with (at_builtin; refine wl_append _ rfl _ _ _ rfl (H + 1) 5 (.int .u8 0) 1 1 Try.underlying24 u8infB rfl (by decide) (.slice A1 (0 + l.length) c1) _ _ rfl (HO1.out.alloc _) (some ⟨w1.heap.size, 0, none⟩) 1 1 [.int .u8 128] rfl rfl (Rd.one _ _ _) (by simp [Value.oneCell']) ?c3 ?c4 ?c5 ?_; rotate_right; intro v2 w2 ho2 hk2 hat2)
  case c3 => simp only [maxLen]; omega
  case c4 => omega
  case c5 => have h1 := HZ0.out; have h2 := HK1.out.size; simp; omega
  have hk2' : Keep [] w0 w2 := keep_own (HO1.out.alloc _) (by rw [HZ0.out]; exact Nat.le_refl _) (HK1.out.alloc _) hk2
  have ho2' : w2.ownsRow (H + 1) 5 1 v2 (l.length + 1) ((l ++ [128]).map (Value.int .u8)) := by
    have := ho2
    simp only [Nat.zero_add, List.nil_append] at this
    simpa using this
  have HO2 := Lib.hid ho2'
  have HK2 := Lib.hid hk2'
  clear ho2 hk2 hk2' hat2 ho2' HO1 HK1
  go_cut [5] (fun s5 wc => wc.ownsRow (H + 1) 5 1 s5 (l.length + 1 + Sha.gap l.length) ((l ++ 128 :: List.replicate (Sha.gap l.length) 0).map (Value.int .u8)) ∧ Keep [] w0 wc)
  case first =>
    go_wp2_with fail
    go_loopw [5] (fun s5 wr => ∃ j : Nat, j ≤ Sha.gap l.length ∧ wr.ownsRow (H + 1) 5 1 s5 (l.length + 1 + j) ((l ++ 128 :: List.replicate j 0).map (Value.int .u8)) ∧ Keep [] w0 wr) (fun s5 _ => l.length + 1 + Sha.gap l.length - lenOf s5)
    case atStart => exact ⟨0, Nat.zero_le _, by simpa using HO2.out, HK2.out⟩
    case round =>
      obtain ⟨j, hj, ho, hk⟩ := hrel
      obtain ⟨A3, c3, e3⟩ := own_slice ho
      subst e3
      by_cases hlt : j < Sha.gap l.length
      · have hm : ((((l.length + 1 + j : Nat) : Int) % 64) == 56) = false := by
          unfold Sha.gap at hlt; simp; omega
        have HO := Lib.hid ho
        have HLT := Lib.hid hlt
        clear ho hlt
        have hlen := HL.out
        have hgap : Sha.gap l.length < 64 := Nat.mod_lt _ (by decide)
        generalize hn : l.length + 1 + j = n at *
        go_wp2_with (at_builtin; refine wl_append _ rfl _ _ _ rfl (H + 1) 5 (.int .u8 0) 1 1 Try.underlying24 u8infB rfl (by decide) (.slice A3 n c3) _ _ rfl (HO.out.alloc _) (some ⟨wr.heap.size, 0, none⟩) 1 1 [.int .u8 0] rfl rfl (Rd.one _ _ _) (by simp [Value.oneCell']) ?c3 ?c4 ?c5 ?_; rotate_right; intro v3 w3 ho3 hk3 hat3)
        case c3 => simp only [maxLen]; omega
        case c4 => omega
        case c5 => have hz := HZ0.out; have hsz := hk.size; simp; omega
        go_roundw
        case rel =>
          refine ⟨j + 1, HLT.out, ?_, keep_own (HO.out.alloc _) (by rw [HZ0.out]; exact Nat.le_refl _) (hk.alloc _) hk3⟩
          have := ho3
          rw [← hn] at this
          rw [List.replicate_succ']
          simpa [List.append_assoc, Nat.add_assoc] using this
        case measure =>
          obtain ⟨A4, c4, e4⟩ := own_slice ho3
          subst e4
          have := HLT.out
          simp [lenOf]; omega
      · obtain rfl : j = Sha.gap l.length := by omega
        have hm : ((((l.length + 1 + Sha.gap l.length : Nat) : Int) % 64) == 56) = true := by
          unfold Sha.gap; simp; omega
        have HO := Lib.hid ho
        clear ho hlt
        generalize hn : l.length + 1 + Sha.gap l.length = n at *
        go_wp2_with fail
        go_meet
        case rel => exact ⟨HO.out, hk⟩
  case rest =>
    obtain ⟨ho3, hk3⟩ := hcut
    clear HO2 HK2 hlc hcm
    obtain ⟨M, hM⟩ : ∃ M : Int, M = (l.length : Int) * 8 := ⟨_, rfl⟩
    have hM0 : 0 ≤ M := by omega
    have hM1 : M ≤ 8796093022208 := by omega
    obtain ⟨n, hn⟩ : ∃ n, n = l.length + 1 + Sha.gap l.length := ⟨_, rfl⟩
    have hn1 : n ≤ 1099511627776 + 65 := by
      have hgap : Sha.gap l.length < 64 := Nat.mod_lt _ (by decide)
      omega
    rw [← hM]
    rw [← hn] at ho3
    have HO3 := Lib.hid ho3
    have HK3 := Lib.hid hk3
    have HM := Lib.hid hM
    have HN := Lib.hid hn
    clear ho3 hk3 hM hn hl
    go_upto_block 2 with fail
    go_cut [5] (fun s5 wc => wc.ownsRow (H + 1) 5 1 s5 (n + 8) ((Sha.pad l).map (Value.int .u8)) ∧ Keep [] w0 wc)
    case first =>
      go_wp2_with fail
      go_loopw [5, 6] (fun s5 i wr => ∃ r : Nat, r ≤ 8 ∧ i = .int .i64 (8 * (r : Int) - 8) ∧ wr.ownsRow (H + 1) 5 1 s5 (n + (8 - r)) ((l ++ 128 :: List.replicate (Sha.gap l.length) 0 ++ (bb M 8).take (8 - r)).map (Value.int .u8)) ∧ Keep [] w0 wr) (fun _ i _ => (intOf i + 8).toNat)
      case atStart => exact ⟨8, Nat.le_refl _, rfl, by simpa using HO3.out, HK3.out⟩
      case round =>
        obtain ⟨r, hr, rfl, ho, hk⟩ := hrel
        obtain ⟨A3, c3, e3⟩ := own_slice ho
        subst e3
        have HO := Lib.hid ho
        clear ho
        cases r with
        | zero =>
          go_wp2_with fail
          go_meet
          case rel =>
            refine ⟨?_, hk⟩
            have := HO.out
            rw [show (bb M 8).take (8 - 0) = bb M 8 from List.take_of_length_le (by rw [bb_length]; exact Nat.le_refl _), HM.out] at this
            simpa [Sha.pad] using this
        | succ q =>
          have hnew : (bb M 8).take (8 - q) = (bb M 8).take (8 - (q + 1)) ++ [M / 2 ^ (8 * q) % 256] := by
            rw [show 8 - q = 8 - (q + 1) + 1 by omega, bb_take_succ M 8 _ (by omega), show 8 - 1 - (8 - (q + 1)) = q by omega, Int.pow_mul]
            rfl
          have HN2 := Lib.hid hnew
          clear hnew
          rw [show (8 * (((q + 1 : Nat) : Int)) - 8) = ((8 * q : Nat) : Int) by omega]
          obtain ⟨t, ht⟩ : ∃ t, t = n + (8 - (q + 1)) := ⟨_, rfl⟩
          have HO' := Lib.hid HO.out
          rw [← ht] at HO' ⊢
          have htn : t ≤ n + 8 := by omega
          have HT := Lib.hid ht
          clear HO ht
          go_wp2_with (at_builtin; refine wl_append _ rfl _ _ _ rfl (H + 1) 5 (.int .u8 0) 1 1 Try.underlying24 u8infB rfl (by decide) (.slice A3 t c3) _ _ rfl (HO'.out.alloc _) (some ⟨wr.heap.size, 0, none⟩) 1 1 [.int .u8 (M / 2 ^ (8 * q) % 256)] rfl rfl (Rd.one _ _ _) (by simp [Value.oneCell']) ?c3 ?c4 ?c5 ?_; rotate_right; intro v3 w3 ho3 hk3 hat3)
          case c3 => simp only [maxLen]; omega
          case c4 => omega
          case c5 => have hz := HZ0.out; have hsz := hk.size; simp; omega
          go_roundw
          case rel =>
            refine ⟨q, by omega, rfl, ?_, keep_own (HO'.out.alloc _) (by rw [HZ0.out]; exact Nat.le_refl _) (hk.alloc _) hk3⟩
            have := ho3
            rw [HT.out] at this
            rw [HN2.out, show n + (8 - q) = n + (8 - (q + 1)) + 1 by omega, ← List.append_assoc, List.map_append]
            exact this
          case measure => simp [intOf]; omega
    case rest =>
      obtain ⟨ho4, hk4⟩ := hcut
      clear HO3 HK3
      have hpl : (Sha.pad l).length = n + 8 := by have := ho4.1; simpa using this
      have hxw : Sl .u8 wc u5 (Sha.pad l) := by
        rw [← hpl] at ho4
        exact Sl.of_own ho4 (pad_wf HV.out.wf)
      have hxb : ∀ g, u5.ownBlock = some g → H + 1 ≤ g := fun g hg => (ho4.lt g hg).1
      have HXW := Lib.hid hxw
      have HXB := Lib.hid hxb
      have HK4 := Lib.hid hk4
      have HPL := Lib.hid hpl
      clear ho4 hk4 hxw hxb hpl
      go_upto_block 4 with (go_at_call 26; with_reducible refine (rounds_any _).mono ?_; rintro e w5 ⟨vk, rfl, hsk, hk5, hvk⟩)
      obtain ⟨T, hT⟩ : ∃ T, T = (Sha.pad l).length / 64 := ⟨_, rfl⟩
      have hTl := pad_len l
      rw [← hT, HPL.out] at hTl
      have HX5 := Lib.hid ((HXW.out.keep0 hk5))
      have HK5 := Lib.hid hsk
      have hkw : Keep [] w w5 := (HK0.out.trans HK4.out).trans hk5
      have HB5 := Lib.hid ((HB0.out.keep HK4.out (by simp)).keep hk5 (by simp))
      have HKW := Lib.hid hkw
      have HVK := Lib.hid (show ∀ g, vk.ownBlock = some g → g ≠ H from fun g hg => by
        have h1 := hvk g hg
        have h2 := HK4.out.size
        have h3 := HZ0.out
        omega)
      have HHw := Lib.hid (show w.heap.size ≤ H by rw [HH.out]; exact Nat.le_refl _)
      have HTL := Lib.hid hTl
      have HTT := Lib.hid hT
      have hn8 : n + 8 ≤ 2199023255552 := by omega
      clear hsk hk5 hvk hkw hTl HXW HK4 HB0 HW0 HK0 HV HM HN HZ0 hM0 hM1 HL HH hT
      obtain ⟨A5, c5, e5, hc51, hc52, -, -⟩ := HX5.out
      rw [HPL.out] at e5 hc51
      subst e5
      go_wp2_with fail
      refine OutX.use (rl2 (fun a' w' => Fr 313 [(3, .slice (some ⟨H, 0, none⟩) 8 8)] a' ∧ Blk w' H 55 (cellsN (Sha.blks (Sha.pad l) T).list).toArray ∧ Keep [H] w5 w') _ w5 A5 vk (Sha.pad l) H (n + 8) c5 T HTL hn8 HPL HX5
        (fun g hg => by have := HXB.out g hg; omega) HK5 HVK HB5 ⟨rfl, rfl, by repeat (first | exact trivial | refine ⟨rfl, ?_⟩)⟩ (fun a' w' h1 h2 h3 => ⟨h1, h2, h3⟩)) ?_
      intro a' w6 ⟨hF6, hB6, hk6⟩
      have HB6 := Lib.hid hB6
      have HK6 := Lib.hid (show Keep [] w w6 from HKW.out.trans' hk6 (fun g hg => by right; simp at hg; have := HHw.out; omega))
      obtain ⟨f, ⟨f3, -⟩, rfl⟩ := hF6.open313
      simp only [f3]
      clear f3 hF6 hB6 hk6 HB5 HX5 HK5 HXB HVK
      go_upto_block 16 with fail
      go_wp2_with fail
      refine OutX.use (rl8 (fun a' w' => ∃ v, Fr 313 [(23, v)] a' ∧ w'.ownsRow w6.heap.size 5 1 v 32 ((Sha.bytes (Sha.blks (Sha.pad l) T)).map (Value.int .u8)) ∧ Keep [] w6 w') _ w6 (Sha.blks (Sha.pad l) T) H (blks32 _ _) HB6
        ⟨rfl, rfl, by repeat (first | exact trivial | refine ⟨rfl, ?_⟩)⟩ (fun a' w' v h1 h2 h3 => ⟨v, h1, h2, h3⟩)) ?_
      rintro a' w7 ⟨vo, hF7, hO7, hk7⟩
      have hlen : (Sha.bytes (Sha.blks (Sha.pad l) T)).length = 32 := by have := hO7.1; simpa using this
      have hsl : w7.ownsRow w6.heap.size 5 1 vo 32 ((Sha.sum l).map (Value.int .u8)) := by
        rw [HTT.out] at hO7
        exact hO7
      have HO7 := Lib.hid hsl
      have HK7 := Lib.hid (HK6.out.trans hk7)
      have HK67 := Lib.hid hk7
      obtain ⟨g, ⟨f23, -⟩, rfl⟩ := hF7.open313
      simp only [f23]
      clear f23 hF7 hO7 hk7 hsl HB6 hlen
      go_wp2_with fail
      go_ret
      exact ⟨vo, rfl, own_base HO7.out HK6.out.size, HK7.out⟩

end Go.Proofs.Ytiiifcfgfmoiaaa
