/-
  The landed kdf: Expand.
-/
import Derived.Test.YtiiifcfgfmoiaaaKdf4
namespace Go.Proofs.Ytiiifcfgfmoiaaa
open Go.RowKit

set_option maxRecDepth 100000 in
set_option maxHeartbeats 4000000 in
theorem expandC : ExpandC := by
  intro w k t sl av al many hK hs ha hal hm
  obtain ⟨D0, hD0⟩ : ∃ D0, D0 = (sl.map (Value.int .u8)).toArray := ⟨_, rfl⟩
  rw [arr_agg, ← hD0]
  have HK := Lib.hid hK
  have HS := Lib.hid hs
  have HA := Lib.hid ha
  have HAL := Lib.hid hal
  have HD0 := Lib.hid hD0
  have HAP := Lib.hid (fun hl => hK.ts.apart ha hl)
  have HLT := Lib.hid hK.lt
  obtain ⟨aA, ac, rfl, hac1, hac2, -, -⟩ := ha
  clear hK hs hal hD0
  go_enter Try.func9, Try.ntmps9
  go_upto_block 0 with (first
    | (refine wl_box rfl _ _ rfl D0 rfl ?_; intro w1 hB1 hk1 hz1; have HB1 := Lib.hid hB1; have HK1 := Lib.hid hk1; clear hB1 hk1 hz1)
    | (at_make; refine wl_make _ rfl _ _ 24 rfl 5 (.int .u8 0) 1 Try.underlying24 u8infB rfl _ _ _ _ many many rfl rfl rfl rfl (Nat.le_refl _) (by omega) (by omega) ?_; intro w2 hB2 hk2 hz2; have HB2 := Lib.hid hB2; have HK2 := Lib.hid hk2; clear hB2 hk2 hz2))
  have hlt := HLT.out
  have hz1 := HB1.out.lt
  have hz2 := HK1.out.size
  obtain ⟨b, hb⟩ : ∃ b, b = w.heap.size := ⟨_, rfl⟩
  obtain ⟨G, hG⟩ : ∃ G, G = w1.heap.size := ⟨_, rfl⟩
  have HB := Lib.hid (show Blk w2 b 23 D0 by rw [hb]; exact HB1.out.keep HK2.out (by simp))
  have HG := Lib.hid (show Blk w2 G 5 (List.replicate many (Value.int .u8 0)).toArray by rw [hG]; exact HB2.out)
  have HK12 := Lib.hid (HK1.out.trans HK2.out)
  have HBT := Lib.hid (show b ≠ t ∧ b ≠ G ∧ G ≠ t ∧ G ≠ k from ⟨by omega, by omega, by omega, by omega⟩)
  have HAG := Lib.hid (show 0 < al.length → ∀ g, (Value.slice aA al.length ac).ownBlock = some g → g ∉ [t, G] from fun hl g hg => by
    have h1 := HAP.out hl g hg
    have h2 := HA.out.lt hl g hg
    simp; omega)
  have HGN := Lib.hid (show w.heap.size ≤ G by omega)
  rw [← hb, ← hG]
  clear hlt hz1 hz2 hb hG HB1 HB2
  go_wp2_with fail
  refine OutX.use (exp_loop (fun a' w' => Fr 49 [(10, .slice (some ⟨G, 0, none⟩) many many)] a' ∧ Blk w' G 5 ((Sha.expand sl al many).map (Value.int .u8)).toArray ∧ KS w' k t ∧ Keep [t, G] w2 w') _ w2 k t b G aA ac many al sl D0
    (Lib.hid (HK.out.keep0 HK12.out)) HB HD0 HS (Lib.hid (HA.out.keep0 HK12.out)) HAL hm HG HBT HAG
    ⟨rfl, rfl, by repeat (first | exact trivial | refine ⟨rfl, ?_⟩)⟩ (fun a' w' h1 h2 h3 h4 => ⟨h1, h2, h3, h4⟩)) ?_
  rintro a' w4 ⟨hF4, hB4, hS4, hk4⟩
  obtain ⟨f', ⟨f10, -⟩, rfl⟩ := hF4.open49
  simp only [f10]
  clear f10 hF4
  have HB4 := Lib.hid hB4
  have HS4 := Lib.hid hS4
  have HK4 := Lib.hid hk4
  clear hB4 hS4 hk4
  go_wp2_with fail
  go_ret2
  have hlen : (Sha.expand sl al many).length = many := by
    unfold Sha.expand
    rw [List.length_take, tAll_len]
    omega
  refine ⟨_, rfl, ⟨Sl.of_blk HB4.out hlen (by omega) ?_, ?_⟩, HS4.out, (HK12.out.more0).trans' HK4.out ?_⟩
  · intro x hx
    exact tAll_wf _ _ _ x (List.mem_of_mem_take hx)
  · intro g hg
    have : G = g := by simpa [Value.ownBlock] using hg
    rw [← this]; exact HGN.out
  · intro x hx
    have := HGN.out
    simp at hx ⊢
    omega
end Go.Proofs.Ytiiifcfgfmoiaaa
