/-
  The landed kdf: Expand's loop.
-/
import Derived.Test.YtiiifcfgfmoiaaaKdf3
namespace Go.Proofs.Ytiiifcfgfmoiaaa
open Go.RowKit

/-- What the loop has outOf in after j marks. -/
def outOf (sl al : List Int) (many j : Nat) : List Int := (Sha.tAll sl al j).take many ++ List.replicate (many - 32 * j) 0
theorem outOf_length (sl al : List Int) (many j : Nat) : (outOf sl al many j).length = many := by
  simp [outOf, tAll_len]; omega
theorem outOf_zero (sl al : List Int) (many : Nat) : outOf sl al many 0 = List.replicate many 0 := by simp [outOf, Sha.tAll]
theorem outOf_step (sl al : List Int) (many j : Nat) (hj : 32 * j < many) :
    splice ((outOf sl al many j).map (Value.int .u8)) (32 * j) ((((Sha.tI sl al (j + 1)).take (many - 32 * j)).map (Value.int .u8))) = (outOf sl al many (j + 1)).map (Value.int .u8) := by
  have h1 : (Sha.tAll sl al j).take many = Sha.tAll sl al j := List.take_of_length_le (by rw [tAll_len]; omega)
  have h2 : (Sha.tI sl al (j + 1)).length = 32 := mark_length _ _
  have h3 : (Sha.tAll sl al j).length = 32 * j := tAll_len _ _ _
  unfold splice outOf
  rw [h1, Sha.tAll, List.take_append, h3, List.take_of_length_le (l := Sha.tAll sl al j) (by omega)]
  simp only [List.map_append, List.append_assoc]
  rw [List.take_append_of_le_length (by simp [h3]), List.take_of_length_le (by simp [h3])]
  congr 2
  simp only [List.length_map, List.length_take, h2]
  rw [List.drop_append, List.drop_of_length_le (by simp [h3])]
  simp [h3]
  omega
theorem outOf_end (sl al : List Int) (many j : Nat) (h1 : 32 * j < many + 32) (h2 : many ≤ 32 * j) : outOf sl al many j = Sha.expand sl al many := by
  have : (many + 31) / 32 = j := by omega
  unfold outOf Sha.expand
  rw [this]
  simp [show many - 32 * j = 0 by omega]
theorem outOf_wf (sl al : List Int) (many j : Nat) : ∀ x ∈ outOf sl al many j, (Lit.int .u8 x).wf = true := by
  intro x hx
  rcases List.mem_append.1 hx with h | h
  · exact tAll_wf _ _ _ x (List.mem_of_mem_take h)
  · rw [(List.mem_replicate.1 h).2]; decide

noncomputable def hexpL : Code := loopOf Try.f9 0

set_option maxRecDepth 100000 in
set_option maxHeartbeats 4000000 in
theorem exp_loop (R : Act → World → Prop) (a : Act) (w : World) (k t b G : Nat) (aA : Option Addr) (ac many : Nat) (al sl : List Int) (D0 : Array Value)
    (hK : Hid (KS w k t)) (hB : Hid (Blk w b 23 D0)) (hD0 : Hid (D0 = (sl.map (Value.int .u8)).toArray)) (hs : Hid (Secr sl)) (hA : Hid (Sl .u8 w (.slice aA al.length ac) al))
    (hal : Hid (al.length ≤ 10000)) (hm : many ≤ 8160) (hG : Hid (Blk w G 5 (List.replicate many (Value.int .u8 0)).toArray)) (hbt : Hid (b ≠ t ∧ b ≠ G ∧ G ≠ t ∧ G ≠ k)) (hAG : Hid (0 < al.length → ∀ g, (Value.slice aA al.length ac).ownBlock = some g → g ∉ [t, G]))
    (hF : Fr 49 [(0, .pointer (some ⟨k, 0, none⟩)), (2, .slice aA al.length ac), (5, .pointer (some ⟨b, 0, none⟩)), (10, .slice (some ⟨G, 0, none⟩) many many), (11, .slice (some ⟨G, 0, none⟩) many many), (12, .slice none 0 0), (13, .int .u8 1)] a)
    (hQ : ∀ a' w', Fr 49 [(10, .slice (some ⟨G, 0, none⟩) many many)] a' → Blk w' G 5 ((Sha.expand sl al many).map (Value.int .u8)).toArray → KS w' k t → Keep [t, G] w w' → R a' w') :
    Code.wp Try.prog (.loop hexpL) (OutX 0 R) a w := by
  refine wp_loop_ghost_k (fun n a wr => ∃ (j : Nat) (A11 lA : Option Addr) (c11 lc : Nat), n + j = (many + 31) / 32 ∧ 32 * j < many + 32 ∧
      Fr 49 [(0, .pointer (some ⟨k, 0, none⟩)), (2, .slice aA al.length ac), (5, .pointer (some ⟨b, 0, none⟩)), (10, .slice (some ⟨G, 0, none⟩) many many), (11, .slice A11 (many - 32 * j : Nat) c11), (12, .slice lA (Sha.tI sl al j).length lc), (13, .int .u8 (((j + 1) % 256 : Nat) : Int))] a ∧
      (32 * j < many → A11 = some ⟨G, 32 * j, none⟩) ∧ many - 32 * j ≤ c11 ∧ c11 ≤ 9223372036854775807 ∧ Blk wr G 5 ((outOf sl al many j).map (Value.int .u8)).toArray ∧ Sl .u8 wr (.slice lA (Sha.tI sl al j).length lc) (Sha.tI sl al j) ∧
      (∀ g, (Value.slice lA (Sha.tI sl al j).length lc).ownBlock = some g → g ≠ G) ∧ KS wr k t ∧ Keep [t, G] w wr)
    ((many + 31) / 32) ⟨0, _, none, many, 0, rfl, by omega, hF, fun _ => rfl, by omega, by omega, by rw [outOf_zero]; simpa using hG.out, Sl.nil _ _, by simp [Value.ownBlock], hK.out, Keep.refl _ _⟩ ?_
  clear hF
  rintro n a wr ⟨j, A11, lA, c11, lc, hnj, hj, hFr, hA11, hc1, hc2, hbG, hl, hlb, hks, hk⟩ J K hJ hK1
  have HJ := Lib.hid hJ
  have HNJ := Lib.hid hnj
  have HJ32 := Lib.hid hj
  have HBG := Lib.hid hbG
  have HL := Lib.hid hl
  have HLB := Lib.hid hlb
  have HKS := Lib.hid hks
  have HK := Lib.hid hk
  have HB := Lib.hid (hB.out.keep hk (by have := hbt.out; simp; omega))
  have HA := Lib.hid (hA.out.keep hk hAG.out)
  have hll := tI_len sl al j
  obtain ⟨f, ⟨f0, f2, f5, f10, f11, f12, f13, -⟩, rfl⟩ := hFr.open49
  by_cases hlt : 32 * j < many
  · obtain rfl := hA11 hlt
    obtain ⟨L1, hL1⟩ : ∃ L1, L1 = many - 32 * j := ⟨_, rfl⟩
    have h1 : 0 < L1 := by omega
    have HL1 := Lib.hid hL1
    have HLT := Lib.hid hlt
    obtain ⟨i, hi⟩ : ∃ i : Int, i = (((j + 1) % 256 : Nat) : Int) := ⟨_, rfl⟩
    obtain ⟨D, hD⟩ : ∃ D, D = ((Sha.tI sl al (j + 1)).map (Value.int .u8)).toArray := ⟨_, rfl⟩
    have hiw : (Lit.int .u8 i).wf = true := u8_wf (by omega) (by omega)
    have E11 := exp_reg11 (fun a' w' => ∃ m, Fr 49 [(0, .pointer (some ⟨k, 0, none⟩)), (2, .slice aA al.length ac), (5, .pointer (some ⟨b, 0, none⟩)), (10, .slice (some ⟨G, 0, none⟩) many many), (11, .slice (some ⟨G, 32 * j, none⟩) L1 c11), (13, .int .u8 i), (14, .pointer (some ⟨m, 0, none⟩))] a' ∧ wr.heap.size ≤ m ∧ Blk w' m 22 D ∧ TS w' t ∧ Keep [t] wr w')
    rw [← hL1] at f11
    rw [← hi] at f13
    simp only [f0, f2, f5, f10, f11, f12, f13]
    clear f0 f2 f5 f10 f11 f12 f13 hFr hJ hbG hl hlb hks hk hA11 hj hnj hlt hQ
    conv => arg 2; whnf
    go_upto_region 11 with fail
    refine OutN.use (E11 _ wr k t b lA aA _ lc _ ac (Sha.tI sl al j) al sl i (.slice (some ⟨G, 0, none⟩) many many) (.slice (some ⟨G, 32 * j, none⟩) L1 c11) D0 D HKS HB hD0 hs HL HA hiw (Lib.hid hll) hal (Lib.hid (by rw [hD, hi, Sha.tI]; simp)) ⟨rfl, rfl, by repeat (first | exact trivial | refine ⟨rfl, ?_⟩)⟩ (Lib.hid fun a' w' m h1 h2 h3 h4 h5 => ⟨m, h1, h2, h3, h4, h5⟩)) ?_
    rintro a' w3 ⟨m, hF3, hm3, hB3, hT3, hk3⟩
    have hmG : G < wr.heap.size := HBG.out.lt
    have hkt : t < wr.heap.size := HKS.out.lt.2
    have HBG3 := Lib.hid (HBG.out.keep hk3 (by have := hbt.out; simp; omega))
    have HB3 := Lib.hid hB3
    have HK3 := Lib.hid (HK.out.trans' hk3 (fun x hx => by left; simp at hx; simp [hx]))
    have HKS3 := Lib.hid (show KS w3 k t by
      obtain ⟨cs, h1, h2, h3, h4⟩ := HKS.out
      exact ⟨cs, h1.keep hk3 (by simpa using h4), h2, hT3, h4⟩)
    have HM := Lib.hid (show m ≠ G ∧ m ≠ t from ⟨by omega, by omega⟩)
    have HD := Lib.hid hD
    have HI := Lib.hid hi
    obtain ⟨f, ⟨f0, f2, f5, f10, f11, f13, f14, -⟩, rfl⟩ := hF3.open49
    simp only [f0, f2, f5, f10, f11, f13, f14]
    clear f0 f2 f5 f10 f11 f13 f14 hF3 hm3 hB3 hT3 hk3 hD hi E11 hiw hmG hkt hL1
    have hcs : (((Sha.tI sl al (j + 1)).take L1).map (Value.int .u8)).length = Nat.min 32 L1 := by
      rw [List.length_map, List.length_take, Sha.tI, mark_length]; exact Nat.min_comm _ _
    have HCS := Lib.hid hcs
    clear hcs
    obtain ⟨c, hc⟩ : ∃ c, c = Nat.min 32 L1 := ⟨_, rfl⟩
    have hcl : c ≤ L1 := by rw [hc]; exact Nat.min_le_right _ _
    have HC := Lib.hid hc
    clear hc
    go_upto_region 10 with (with_reducible refine wl_copy _ rfl (.tmp 44) (.tmp 45) 24 24 rfl 5 Try.underlying24 u8sz G (32 * j) L1 c11 rfl (some ⟨m, 0, none⟩) 32 32 rfl _ 5 HBG3.out _ HCS.out ?c1 ?c2 (ints_one _ _) ?_; rotate_right; intro w4 hB4 hk4 hz4)
    case c1 =>
      have := Rd.of_blk HB3.out
      rw [HD.out] at this
      have h2 := this.take L1
      rw [List.map_take]
      simpa using h2
    case c2 =>
      rw [HCS.out, List.length_map, outOf_length]
      show 32 * j + min 32 L1 ≤ many
      have := HLT.out
      have := HL1.out
      omega
    have h32 : (Sha.tI sl al (j + 1)).length = 32 := mark_length _ _
    rw [h32]
    obtain ⟨c, hc⟩ : ∃ c, c = min L1 32 := ⟨_, rfl⟩
    rw [← hc]
    obtain ⟨A1, hA1⟩ : ∃ A1 : Option Addr, A1 = if c11 = c then some ⟨G, 32 * j, none⟩ else some ⟨G, 32 * j + c, none⟩ := ⟨_, rfl⟩
    rw [← hA1]
    have HA1 := Lib.hid hA1
    clear hA1
    have hB4' : Blk w4 G 5 ((outOf sl al many (j + 1)).map (Value.int .u8)).toArray := by
      rw [HL1.out, outOf_step _ _ _ _ HLT.out] at hB4
      exact hB4
    have HB4 := Lib.hid hB4'
    have HK4 := Lib.hid hk4
    have HC := Lib.hid hc
    have H32 := Lib.hid h32
    clear hB4 hB4' hk4 hz4 hc h32
    go_wp2_with fail
    have hL := HL1.out
    have hlt := HLT.out
    have hc := HC.out
    have hm0 := HM.out
    refine Handed.intro (n - 1) (by have := HNJ.out; omega) (HJ.out _ _ _ ⟨j + 1, A1, some ⟨m, 0, none⟩, c11 - c, 32, by have := HNJ.out; omega, by omega, ⟨rfl, rfl, rfl, rfl, rfl, rfl, ?_, ?_, ?_, trivial⟩, ?_, by omega, by omega, HB4.out, ?_, ?_, ?_, ?_⟩)
    · show Value.slice _ (L1 - c) _ = _
      rw [show L1 - c = many - 32 * (j + 1) by omega]
    · rw [H32.out]; rfl
    · show Value.int _ _ = _
      congr 1
      have := HI.out
      omega
    · intro hlt'
      rw [HA1.out, if_neg (by omega), show 32 * j + c = 32 * (j + 1) by omega]
    · rw [H32.out]
      have h1 := HB3.out
      rw [HD.out] at h1
      have h2 : Blk w4 m 22 ((Sha.tI sl al (j + 1)).map (Value.int .u8)).toArray := h1.keep HK4.out (by simp; omega)
      exact Sl.of_blk h2 H32.out (by decide) (tI_wf _ _ _)
    · intro g hg
      have : m = g := by simpa [Value.ownBlock] using hg
      omega
    · exact HKS3.out.keep HK4.out (by have := hbt.out; simp; omega) (by have := hbt.out; simp; omega)
    · exact HK3.out.trans' HK4.out (fun x hx => by left; simp at hx; simp [hx])
  · have hge : many ≤ 32 * j := by omega
    have hz : many - 32 * j = 0 := by omega
    have HQ := Lib.hid (hQ)
    rw [hz] at f11
    have HEND := Lib.hid (outOf_end sl al many j hj hge)
    simp only [f0, f2, f5, f10, f11, f12, f13]
    clear f0 f2 f5 f10 f11 f12 f13 hFr hJ hbG hl hlb hks hk hA11 hj hnj hlt hQ hge hz
    conv => arg 2; whnf
    go_wp2_with fail
    exact ⟨rfl, HQ.out _ _ ⟨rfl, rfl, rfl, trivial⟩ (by rw [← HEND.out]; exact HBG.out) HKS.out HK.out⟩
end Go.Proofs.Ytiiifcfgfmoiaaa
