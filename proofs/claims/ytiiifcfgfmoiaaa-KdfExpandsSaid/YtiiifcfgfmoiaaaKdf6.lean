/-
  The landed kdf: Label.
-/
import Derived.Test.YtiiifcfgfmoiaaaKdf5
namespace Go.Proofs.Ytiiifcfgfmoiaaa
open Go.RowKit

theorem secCells : (Try.prog.info? 23).map (·.size) = some 32 := by kernel_rfl
theorem sby_append (a b : ByteArray) : sby (a ++ b) = sby a ++ sby b := by
  simp [sby]
theorem tls13 : sby ⟨#[116, 108, 115, 49, 51, 32]⟩ = [116, 108, 115, 49, 51, 32] := by decide +kernel

set_option maxRecDepth 100000 in
set_option maxHeartbeats 4000000 in
theorem label_fwd (w : World) (k : Nat) (sl : List Int) (lab : ByteArray) (cv : Value) (cl : List Int) (many : Nat) (hs : Secr sl) (hc : Sl .u8 w cv cl) (hl : lab.size ≤ 249) (hcl : cl.length ≤ 255) (hm : many ≤ 65535) (R : Value → Int → World → World → Prop)
    (hE : ∀ W av, Keep [] w W → Sl .u8 W av (Sha.about (sby lab) cl many) → Calls Try.prog 9 #[.pointer (some ⟨k, 0, none⟩), arr sl, av, .int .i64 many] W fun e w' => ∃ v n, e = .returned (.tuple #[v, .int .i64 n]) ∧ R v n W w') :
    Calls Try.prog 11 #[.pointer (some ⟨k, 0, none⟩), arr sl, .string lab, cv, .int .i64 many] w fun e w' => ∃ v n W, e = .returned (.tuple #[v, .int .i64 n]) ∧ Keep [] w W ∧ R v n W w' := by
  obtain ⟨D0, hD0⟩ : ∃ D0, D0 = (sl.map (Value.int .u8)).toArray := ⟨_, rfl⟩
  have hDs : D0.size = 32 := by rw [hD0]; simp [hs.1]
  simp only [arr_agg, ← hD0] at hE ⊢
  have HDS := Lib.hid hDs
  have HE := Lib.hid hE
  have HC := Lib.hid hc
  have HLA := Lib.hid (sby_length lab)
  obtain ⟨cA, cc, rfl, hcc1, hcc2, -, -⟩ := hc
  clear hD0 hDs hs hE
  go_enter Try.func11, Try.ntmps11
  go_upto_region 8 with (first
    | (refine wl_box rfl _ _ rfl D0 rfl ?_; intro w1 hB1 hk1 hz1; have HB1 := Lib.hid hB1; have HK1 := Lib.hid hk1; clear hB1 hk1 hz1))
  obtain ⟨l3, hl3⟩ : ∃ l3 : List Int, l3 = [((many / 256 % 256 : Nat) : Int), ((many % 256 : Nat) : Int), (((6 + lab.size) % 256 : Nat) : Int)] := ⟨_, rfl⟩
  have h3l : l3.length = 3 := by rw [hl3]; rfl
  have h3w : ∀ x ∈ l3, (Lit.int .u8 x).wf = true := by
    intro x hx
    rw [hl3] at hx
    rcases List.mem_cons.1 hx with rfl | hx
    · exact u8_wf (by omega) (by omega)
    rcases List.mem_cons.1 hx with rfl | hx
    · exact u8_wf (by omega) (by omega)
    rcases List.mem_cons.1 hx with rfl | hx
    · exact u8_wf (by omega) (by omega)
    · cases hx
  have H3W := Lib.hid h3w
  obtain ⟨W0, hW0⟩ : ∃ W0, W0 = w1.alloc (.cells (l3.map (Value.int .u8)).toArray 5) := ⟨_, rfl⟩
  have hcs : (#[Value.int IntKind.u8 (↑many / 256), Value.int IntKind.u8 (↑many % 256), Value.int IntKind.u8 (6 + ↑lab.size)] : Array Value) = (l3.map (Value.int .u8)).toArray := by
    rw [hl3, show ((many / 256 % 256 : Nat) : Int) = (many : Int) / 256 by omega, show ((many % 256 : Nat) : Int) = (many : Int) % 256 by omega, show (((6 + lab.size) % 256 : Nat) : Int) = 6 + (lab.size : Int) by omega]
    rfl
  rw [hcs, ← hW0]
  obtain ⟨g0, hg0⟩ : ∃ g0, g0 = w.heap.size := ⟨_, rfl⟩
  have HBS := Lib.hid (show Blk w1 g0 23 D0 by rw [hg0]; exact HB1.out)
  rw [← hg0]
  have ho0 : W0.ownsRow w1.heap.size 5 1 (.slice (some ⟨w1.heap.size, 0, none⟩) 3 3) 3 (l3.map (Value.int .u8)) := own_of_blk (by rw [hW0]; exact Blk.new _ _ _) (by simp [h3l]) (Nat.le_refl _) (by decide) (by rw [List.take_of_length_le (by simp [h3l])])
  have HO0 := Lib.hid ho0
  have HK0 := Lib.hid (show Keep [] w1 W0 by rw [hW0]; exact (Keep.refl _ _).alloc _)
  have HC1 := Lib.hid (HC.out.keep0 HK1.out)
  have HAB := Lib.hid (show Sha.about (sby lab) cl many = l3 ++ sby (⟨#[116, 108, 115, 49, 51, 32]⟩ ++ lab) ++ [((cl.length % 256 : Nat) : Int)] ++ cl by
    rw [sby_append, tls13, hl3]
    unfold Sha.about
    rw [sby_length]
    simp)
  have hl6 : ((⟨#[116, 108, 115, 49, 51, 32]⟩ : ByteArray) ++ lab).size = 6 + lab.size := by rw [ByteArray.size_append]; rfl
  obtain ⟨tl, htl⟩ : ∃ tl, tl = (⟨#[116, 108, 115, 49, 51, 32]⟩ : ByteArray) ++ lab := ⟨_, rfl⟩
  rw [← htl] at hl6 HAB
  have HTL := Lib.hid htl
  have HL6 := Lib.hid hl6
  have H3 := Lib.hid hl3
  clear hl3 h3w hW0 hcs hg0 ho0 HB1 htl hl6
  go_wp2_with (first
      | (at_builtin
         refine wl_append_str _ rfl _ _ _ _ rfl w1.heap.size 5 Try.underlying24 Try.underlying9 u8infB _ 3 _ rfl HO0.out tl (by rw [HTL.out]; rfl) (by rw [HL6.out]; simp only [maxLen]; omega) (by rw [HL6.out]; omega) HK0.out.size ?_
         intro x1 w2 ho1 hk1
         rw [← List.map_append, HL6.out] at ho1
         have HX1 := Lib.hid ho1
         have HK2 := Lib.hid (show Keep [] w1 w2 from keep_own HO0.out (Nat.le_refl _) HK0.out hk1)
         clear ho1 hk1
         obtain ⟨A1, c1, rfl⟩ := own_slice HX1.out)
      | (at_builtin
         refine wl_append _ rfl _ _ _ rfl w1.heap.size 5 (.int .u8 0) 1 1 Try.underlying24 u8infB rfl (by decide) (.slice A1 (3 + (6 + lab.size)) c1) _ _ rfl (HX1.out.alloc _) (some ⟨w2.heap.size, 0, Option.none⟩) 1 1 [.int .u8 (cl.length : Int)] rfl rfl (Rd.one _ _ _) (by simp [Value.oneCell']) (by simp only [maxLen]; omega) (by omega) (by have := HK2.out.size; simp; omega) ?_
         intro x2 w3 ho2 hk2 hat2
         have HX2 := Lib.hid (show w3.ownsRow w1.heap.size 5 1 x2 (3 + (6 + lab.size) + 1) ((l3 ++ sby tl ++ [((cl.length % 256 : Nat) : Int)]).map (Value.int .u8)) by
           rw [List.map_append, show ((cl.length % 256 : Nat) : Int) = (cl.length : Int) by omega]; exact ho2)
         have HK3 := Lib.hid (show Keep [] w1 w3 from keep_own (HX1.out.alloc _) (Nat.le_refl _) (HK2.out.alloc _) hk2)
         clear ho2 hk2 hat2
         obtain ⟨A2, c2, rfl⟩ := own_slice HX2.out)
      | (at_builtin
         refine wl_append _ rfl _ _ _ rfl w1.heap.size 5 (.int .u8 0) 1 1 Try.underlying24 u8infB rfl (by decide) (.slice A2 (3 + (6 + lab.size) + 1) c2) _ _ rfl HX2.out cA cl.length cc (cl.map (Value.int .u8)) rfl (by simp) (HC1.out.keep0 HK3.out).rd (ints_one _ _) (by simp only [maxLen]; omega) (by omega) HK3.out.size ?_
         intro x3 w4 ho3 hk3 hat3
         rw [← List.map_append] at ho3
         have HX3 := Lib.hid ho3
         have HK4 := Lib.hid (show Keep [] w1 w4 from keep_own HX2.out (Nat.le_refl _) HK3.out hk3)
         have HB4 := Lib.hid (HBS.out.keep HK4.out (by simp))
         clear ho3 hk3 hat3)
      | (refine wl_load_row rfl _ _ rfl g0 rfl 32 5 Try.underlying23 _ D0 HB4.out (by rw [HDS.out]; exact secCells) ?_)
      | (go_at_call 9
         with_reducible refine (HE.out w4 x3 (HK1.out.trans HK4.out) (Sl.of_own (by rw [HAB.out]; exact HX3.out) (about_wf HC.out.wf))).mono ?_
         rintro e w5 ⟨v, n, rfl, hr⟩))
  go_ret2
  exact ⟨v, n, w4, rfl, HK1.out.trans HK4.out, hr⟩

theorem NewB.from {w W w' : World} {v : Value} {l : List Int} (hk : Keep [] w W) (h : NewB W w' v l) : NewB w w' v l := ⟨h.1, fun g hg => Nat.le_trans hk.size (h.2 g hg)⟩
theorem labelC : LabelC := by
  intro w k t sl lab cv cl many hK hs hc hl hcl hm
  refine (label_fwd w k sl lab cv cl many hs hc hl hcl (by omega) (fun v n W w' => n = 0 ∧ NewB W w' v (Sha.label sl (sby lab) cl many) ∧ KS w' k t ∧ Keep [k, t] W w') (fun W av hk ha => ?_)).mono ?_
  · refine (expandC W k t sl av _ many (hK.keep0 hk) hs ha (by rw [about_len]; omega) hm).mono ?_
    rintro e w' ⟨v, rfl, h1, h2, h3⟩
    exact ⟨v, 0, rfl, rfl, h1, h2, h3⟩
  · rintro e w' ⟨v, n, W, rfl, hk, rfl, h1, h2, h3⟩
    exact ⟨v, rfl, h1.from hk, h2, hk.more0.trans h3⟩
theorem labelE : LabelE := by
  intro w k t sl lab cv cl many hK hs hc hm hl hcl hr
  by_cases hmid : 0 ≤ many ∧ many ≤ 65535
  · obtain ⟨q, rfl⟩ := Int.eq_ofNat_of_zero_le hmid.1
    refine (label_fwd w k sl lab cv cl q hs hc hl hcl (by omega) (fun v n W w' => n = 2 ∧ NewB W w' v [] ∧ KS w' k t ∧ Keep [k, t] W w') (fun W av hk ha => ?_)).mono ?_
    · refine (expandE W k t sl av _ q (hK.keep0 hk) hs ha (by rw [about_len]; omega) hm hr).mono ?_
      rintro e w' ⟨v, rfl, h1, h2, h3⟩
      exact ⟨v, 2, rfl, rfl, h1, h2, h3⟩
    · rintro e w' ⟨v, n, W, rfl, hk, rfl, h1, h2, h3⟩
      exact ⟨v, rfl, h1.from hk, h2, hk.more0.trans h3⟩
  obtain ⟨D, hD⟩ : ∃ D, D = (sl.map (Value.int .u8)).toArray := ⟨_, rfl⟩
  rw [arr_agg, ← hD]
  have HK := Lib.hid hK
  obtain ⟨cA, cc, rfl, hcc1, hcc2, -, -⟩ := hc
  obtain ⟨hm0, hm1⟩ := wf_i64 hm
  clear hD hs hK hm
  go_enter Try.func11, Try.ntmps11
  by_cases hneg : many < 0
  · go_wp2_with (refine wl_box rfl _ _ rfl D rfl ?_; intro w0 hB0 hk0 hz0; clear hz0)
    go_ret2
    exact ⟨_, rfl, ⟨Sl.nil _ _, by simp [Value.ownBlock]⟩, HK.out.keep0 hk0, hk0.more0⟩
  · have hbig : 65535 < many := by omega
    go_wp2_with (refine wl_box rfl _ _ rfl D rfl ?_; intro w0 hB0 hk0 hz0; clear hz0)
    go_ret2
    exact ⟨_, rfl, ⟨Sl.nil _ _, by simp [Value.ownBlock]⟩, HK.out.keep0 hk0, hk0.more0⟩
end Go.Proofs.Ytiiifcfgfmoiaaa
