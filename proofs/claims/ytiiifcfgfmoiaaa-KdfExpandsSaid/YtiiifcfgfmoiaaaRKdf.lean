/-
  The document's answers to Expand, Label and Derive.
-/
import Derived.Test.YtiiifcfgfmoiaaaRMark
import Derived.Test.YtiiifcfgfmoiaaaArr
namespace Go.Proofs.Ytiiifcfgfmoiaaa
open Go.RowKit

namespace Sha
/-- T i. -/
def tI (s about : List Int) : Nat → List Int
  | 0 => []
  | i + 1 => mark s (tI s about i ++ about ++ [((i + 1 : Nat) : Int) % 256])
/-- T 1, T 2 and so on, n of them. -/
def tAll (s about : List Int) : Nat → List Int
  | 0 => []
  | n + 1 => tAll s about n ++ tI s about (n + 1)
def expand (s about : List Int) (many : Nat) : List Int := (tAll s about ((many + 31) / 32)).take many
end Sha

theorem mark_length (k l : List Int) : (Sha.mark k l).length = 32 := sum_length _
theorem mark_wf (k l : List Int) : ∀ x ∈ Sha.mark k l, (Lit.int .u8 x).wf = true := sum_wf _
theorem tI_len (s about : List Int) (i : Nat) : (Sha.tI s about i).length ≤ 32 := by
  cases i with
  | zero => simp [Sha.tI]
  | succ i => rw [Sha.tI, mark_length]; exact Nat.le_refl _
theorem tI_wf (s about : List Int) (i : Nat) : ∀ x ∈ Sha.tI s about i, (Lit.int .u8 x).wf = true := by
  cases i with
  | zero => simp [Sha.tI]
  | succ i => exact mark_wf _ _
theorem tAll_len (s about : List Int) (n : Nat) : (Sha.tAll s about n).length = 32 * n := by
  induction n with
  | zero => rfl
  | succ n ih => rw [Sha.tAll, List.length_append, ih, Sha.tI, mark_length]; omega
theorem tAll_wf (s about : List Int) (n : Nat) : ∀ x ∈ Sha.tAll s about n, (Lit.int .u8 x).wf = true := by
  induction n with
  | zero => simp [Sha.tAll]
  | succ n ih =>
    intro x hx
    rcases List.mem_append.1 hx with h | h
    · exact ih x h
    · exact tI_wf _ _ _ x h

set_option maxHeartbeats 4000000 in
theorem rexpand_any (sv av : Value) (sl al : List Int) (many : Nat) (w : World) (hs : Sl .u8 w sv sl) (ha : Sl .u8 w av al) (hsl : sl.length ≤ 1000000) (hal : al.length ≤ 1000000) (hm : many ≤ 100000) :
    Calls Try.prog 10 #[sv, av, .int .i64 many] w fun e w' => ∃ v', e = .returned v' ∧ Sl .u8 w' v' (Sha.expand sl al many) ∧ Keep [] w w' := by
  have HS := Lib.hid hs
  have HA := Lib.hid ha
  have HSL := Lib.hid hsl
  have HAL := Lib.hid hal
  obtain ⟨sA, sc, rfl, hsc1, hsc2, -, -⟩ := hs
  obtain ⟨aA, ac, rfl, hac1, hac2, -, -⟩ := ha
  go_enter Try.func10, Try.ntmps10
  go_wp2_with fail
  go_loopw [7, 8, 9] (fun s7 s8 s9 wr => ∃ (j : Nat), 32 * j < many + 32 ∧ s9 = .int .i64 ((j + 1 : Nat) : Int) ∧ wr.ownsRow w.heap.size 5 1 s7 (32 * j) ((Sha.tAll sl al j).map (Value.int .u8)) ∧ Sl .u8 wr s8 (Sha.tI sl al j) ∧ (∀ g, s8.ownBlock = some g → w.heap.size ≤ g ∧ s7.ownBlock ≠ some g) ∧ Keep [] w wr) (fun s7 _ _ _ => many + 32 - lenOf s7)
  case atStart =>
    exact ⟨0, by omega, rfl, World.ownsRow_nil _ _ _ _, Sl.nil _ _, by simp [Value.ownBlock], Keep.refl _ _⟩
  case round =>
    obtain ⟨j, hj, rfl, hO, hL, hLb, hk⟩ := hrel
    have HO := Lib.hid hO
    have HL := Lib.hid hL
    have HLB := Lib.hid hLb
    have HK := Lib.hid hk
    have hll := tI_len sl al j
    obtain ⟨oA, oc, rfl⟩ := own_slice hO
    obtain ⟨lA, lc, rfl, hlc1, hlc2, -, -⟩ := hL
    by_cases hlt : 32 * j < many
    · have HJ := Lib.hid (show 32 * (j + 1) < many + 32 by omega)
      obtain ⟨L, hLL⟩ : ∃ L, L = (Sha.tI sl al j).length := ⟨_, rfl⟩
      have HLL := Lib.hid hLL
      rw [← hLL] at hlc1 hll ⊢
      have HL' : Hid (Sl .u8 wr (.slice lA L lc) (Sha.tI sl al j)) := by rw [hLL]; exact HL.out
      have HLB' : Hid (∀ g, (Value.slice lA L lc).ownBlock = some g → w.heap.size ≤ g ∧ (Value.slice oA (32 * j) oc).ownBlock ≠ some g) := by rw [hLL]; exact HLB.out
      have hlt32 : (32 * (j : Int)) < many := by omega
      clear hO hLb hk hLL HL HLB hlt
      go_upto_region 5 with fail
      have HR1 : Hid (Rd (wr.alloc (.cells #[] 5)) lA ((Sha.tI sl al j).map (Value.int .u8))) := (HL'.out.keep0 ((Keep.refl _ _).alloc _)).rd
      have HB1 : Hid (∀ g, (Value.slice oA (32 * j) oc).ownBlock = some g → g < wr.heap.size) := fun g hg => (HO.out.lt g hg).2
      go_upto_region 8 with (first
        | (at_builtin
           refine wl_append _ rfl _ _ _ rfl wr.heap.size 5 (.int .u8 0) 1 1 Try.underlying24 u8infB rfl (by decide) (.slice (some ⟨wr.heap.size, 0, Option.none⟩) 0 0) 0 [] rfl (own_of_blk (Blk.new wr _ _) rfl (Nat.le_refl _) (by omega) rfl) lA L lc ((Sha.tI sl al j).map (Value.int .u8)) rfl (by rw [HLL.out]; simp) HR1.out (ints_one _ _) (by simp only [maxLen]; omega) (by omega) (by simp) ?_
           intro x1 w1 ho1 hk1 hat1
           simp only [Nat.zero_add, List.nil_append] at ho1
           have HX1 := Lib.hid ho1
           have HK1 := Lib.hid (show Keep [] wr w1 from ((Keep.refl [] wr).alloc (.cells #[] 5)).trans' hk1 (by intro y hy; right; simp [Value.ownBlock] at hy; omega))
           clear ho1 hk1 hat1
           obtain ⟨A1, c1, rfl⟩ := own_slice HX1.out)
        | (at_builtin
           refine wl_append _ rfl _ _ _ rfl wr.heap.size 5 (.int .u8 0) 1 1 Try.underlying24 u8infB rfl (by decide) (.slice A1 L c1) _ _ rfl HX1.out aA al.length ac (al.map (Value.int .u8)) rfl (by simp) ((HA.out.keep0 HK.out).keep0 HK1.out).rd (ints_one _ _) (by simp only [maxLen]; omega) (by omega) HK1.out.size ?_
           intro x2 w2 ho2 hk2 hat2
           rw [← List.map_append] at ho2
           have HX2 := Lib.hid ho2
           have HK2 := Lib.hid (show Keep [] wr w2 from keep_own HX1.out (Nat.le_refl _) HK1.out hk2)
           clear ho2 hk2 hat2
           obtain ⟨A2, c2, rfl⟩ := own_slice HX2.out)
        | (at_builtin
           refine wl_append _ rfl _ _ _ rfl wr.heap.size 5 (.int .u8 0) 1 1 Try.underlying24 u8infB rfl (by decide) (.slice A2 (L + al.length) c2) _ _ rfl (HX2.out.alloc _) (some ⟨w2.heap.size, 0, Option.none⟩) 1 1 [.int .u8 (((j : Int) + 1) % 256)] rfl rfl (Rd.one _ _ _) (by simp [Value.oneCell']) (by simp only [maxLen]; omega) (by omega) (by have := HK2.out.size; simp; omega) ?_
           intro x3 w3 ho3 hk3 hat3
           have HX3 := Lib.hid (show w3.ownsRow wr.heap.size 5 1 x3 (L + al.length + 1) ((Sha.tI sl al j ++ al ++ [((j + 1 : Nat) : Int) % 256]).map (Value.int .u8)) by
             rw [List.map_append]; exact ho3)
           have HK3 := Lib.hid (show Keep [] wr w3 from keep_own (HX2.out.alloc _) (Nat.le_refl _) (HK2.out.alloc _) hk3)
           clear ho3 hk3 hat3)
        | (go_at_call 17
           with_reducible refine (rmark_any (.slice sA sl.length sc) x3 sl (Sha.tI sl al j ++ al ++ [((j + 1 : Nat) : Int) % 256]) w3 ((HS.out.keep0 HK.out).keep0 HK3.out) (Sl.of_own HX3.out (by
               intro y hy
               rcases List.mem_append.1 hy with hy | hy
               · rcases List.mem_append.1 hy with hy | hy
                 · exact tI_wf _ _ _ y hy
                 · exact HA.out.wf y hy
               · rw [List.mem_singleton.1 hy]; exact u8_wf (by omega) (by omega))) (by have := HSL.out; omega) (by have := HLL.out; simp; omega)).mono ?_
           rintro e w4 ⟨x4, rfl, ho4, hk4⟩
           have HX4 := Lib.hid (show w4.ownsRow w3.heap.size 5 1 x4 32 ((Sha.tI sl al (j + 1)).map (Value.int .u8)) from ho4)
           have HK4 := Lib.hid (HK3.out.trans hk4)
           have HZ3 := Lib.hid HK3.out.size
           clear ho4 hk4))
      obtain ⟨A4, c4, rfl⟩ := own_slice HX4.out
      have HO4 : Hid (w4.ownsRow w.heap.size 5 1 (.slice oA (32 * j) oc) (32 * j) ((Sha.tAll sl al j).map (Value.int .u8))) := own_keep0 HO.out HK4.out
      have HZ4 : Hid (w.heap.size ≤ w4.heap.size) := Nat.le_trans HK.out.size HK4.out.size
      go_wp2_with (at_builtin
                   refine wl_append _ rfl _ _ _ rfl w.heap.size 5 (.int .u8 0) 1 1 Try.underlying24 u8infB rfl (by decide) (.slice oA (32 * j) oc) _ _ rfl HO4.out A4 32 c4 ((Sha.tI sl al (j + 1)).map (Value.int .u8)) rfl (by simp [Sha.tI, mark_length]) (Rd.of_own HX4.out) (ints_one _ _) (by simp only [maxLen]; omega) (by omega) HZ4.out ?_
                   intro x5 w5 ho5 hk5 hat5
                   rw [← List.map_append] at ho5
                   have HX5 := Lib.hid ho5
                   have HK5 := Lib.hid hk5
                   have HAT := Lib.hid hat5
                   clear ho5 hk5 hat5)
      have hown4 : ∀ y, (Value.slice A4 32 c4).ownBlock = some y → wr.heap.size ≤ y ∧ y < w4.heap.size := fun y hy => by
        have h1 := HX4.out.lt y hy
        have h2 := HZ3.out
        exact ⟨by omega, h1.2⟩
      go_roundw
      case rel =>
        refine ⟨j + 1, HJ.out, by go_num, HX5.out, ?_, ?_, ?_⟩
        · refine (Sl.of_own HX4.out (tI_wf _ _ _)).keep HK5.out (fun _ y hy hm => ?_)
          have h1 := (hown4 y hy).1
          have h2 := HB1.out y (by simpa using hm)
          omega
        · intro y hy
          have h1 := hown4 y hy
          have h0 := HK.out.size
          refine ⟨by omega, fun he => ?_⟩
          rcases HAT.out with h | h
          · rw [h] at he
            have h2 := HB1.out y he
            omega
          · rw [h] at he
            have := Option.some.inj he
            omega
        · exact (HK.out.trans HK4.out).trans' HK5.out (fun y hy => by right; exact (HO4.out.lt y (by simpa using hy)).1)
      case measure =>
        obtain ⟨A5, c5, e5⟩ := own_slice HX5.out
        subst e5
        simp [lenOf]; omega
    · have hcap : (many : Int) ≤ oc := by
        have h1 : 32 * j ≤ oc := by
          rcases HO.out.2 with ⟨e, h0⟩ | ⟨g, cap, cur, e, _, _, h2, _⟩
          · omega
          · simp only [Value.slice.injEq] at e; omega
        omega
      have hj2 : (many + 31) / 32 = j := by omega
      have HJ2 := Lib.hid hj2
      have HM0 := Lib.hid (show many ≤ 32 * j by omega)
      clear hO hLb hk HL HLB hj2 hll
      have hb0 : (0 : Int) ≤ many ∧ (many : Int) ≤ oc := ⟨by omega, hcap⟩
      go_wp2_with fail
      go_ret
      refine ⟨.slice oA many oc, rfl, ?_, HK.out⟩
      have h1 := Sl.of_own HO.out (tAll_wf sl al j)
      unfold Sha.expand
      rw [HJ2.out]
      rw [← tAll_len sl al j] at h1
      exact h1.take (by rw [tAll_len]; exact HM0.out)

end Go.Proofs.Ytiiifcfgfmoiaaa
