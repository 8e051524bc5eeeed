/-
  The document's answer to a key's words.
-/
import Derived.Test.YtpjkicbfdknjcaaRAes7
namespace Go.Proofs.Ytpjkicbfdknjcaa
open Go.RowKit

set_option maxRecDepth 100000 in
set_option maxHeartbeats 4000000 in
theorem rkeys_any (bv kv : Value) (key : List Int) (w : World) (hb : Sl .u8 w bv (boxL 256)) (hk : Sl .u8 w kv key) (hkl : key.length = 16) :
    Calls Try.prog 26 #[bv, kv] w fun e w' => ∃ v', e = .returned v' ∧ w'.ownsRow w.heap.size 5 1 v' 176 ((Aes.keys key 40).map (Value.int .u8)) ∧ Keep [] w w' := by
  obtain ⟨gb, ob, bc, rfl, hbc1, hbc2, -⟩ := hb.cells (by rw [boxL_length]; decide)
  rw [boxL_length] at hb hbc1 ⊢
  have HB := Lib.hid hb
  have HK := Lib.hid hk
  have HKW := Lib.hid hk.wf
  have HKL := Lib.hid hkl
  obtain ⟨kA, kc, rfl, hkc1, hkc2, -, -⟩ := hk
  have HKD := Lib.hid (HK.out.rd)
  rw [hkl] at hkc1 ⊢
  clear hb
  go_enter Try.func26, Try.ntmps26
  have HR1 : Hid (Rd (w.alloc (.cells #[] 5)) kA (key.map (Value.int .u8))) := HKD.out.keep0 ((Keep.refl [] w).alloc _)
  go_upto_block 0 with (first
    | (at_builtin
       refine wl_append _ rfl _ _ _ rfl w.heap.size 5 (.int .u8 0) 1 1 Try.underlying30 u8infB rfl (by decide) (.slice (some ⟨w.heap.size, 0, Option.none⟩) 0 0) 0 [] rfl (own_of_blk (Blk.new w _ _) rfl (Nat.le_refl _) (by omega) rfl) kA 16 kc (key.map (Value.int .u8)) rfl (by rw [List.length_map, HKL.out]) HR1.out (ints_one _ _) (by simp only [maxLen]; omega) (by omega) (by simp) ?_
       intro x1 w1 ho1 hk1 hat1
       simp only [Nat.zero_add, List.nil_append] at ho1
       have HX1 := Lib.hid ho1
       have HK1 := Lib.hid (show Keep [] w w1 from ((Keep.refl [] w).alloc (.cells #[] 5)).trans' hk1 (by intro y hy; right; simp [Value.ownBlock] at hy; omega))
       clear ho1 hk1 hat1))
  go_wp2_with fail
  refine OutX.use (keys_outer (fun a' w' => ∃ v', Fr 95 [(5, v')] a' ∧ w'.ownsRow w.heap.size 5 1 v' 176 ((Aes.keys key 40).map (Value.int .u8)) ∧ Keep [] w w') _ w w1 gb ob bc x1 key HKL HKW HB HX1 HK1
    ⟨rfl, rfl, by repeat (first | exact trivial | refine ⟨rfl, ?_⟩)⟩ (fun a' w' v' h1 h2 h3 => ⟨v', h1, h2, h3⟩)) ?_
  rintro a' w2 ⟨v', hF, hO, hk2⟩
  have HO := Lib.hid hO
  have HK2 := Lib.hid hk2
  obtain ⟨f, ⟨f5, -⟩, rfl⟩ := hF.open95
  simp only [f5]
  clear f5 hF hO hk2
  go_wp2_with fail
  go_ret
  exact ⟨_, rfl, HO.out, HK2.out⟩
end Go.Proofs.Ytpjkicbfdknjcaa
