/-
  The landed aes: Key, whole.
-/
import Derived.Test.YtpjkicbfdknjcaaA7
namespace Go.Proofs.Ytpjkicbfdknjcaa
open Go.RowKit

/-- The cells of a key of which so many round keys are made. -/
def kpl (g : Nat) (key : List Int) (r : Nat) : List Value := .pointer (some ⟨g, 0, none⟩) :: ((Aes.keys key (4 * r)).map (Value.int .u8) ++ List.replicate (160 - 16 * r) (.int .u8 0))
def KP (w : World) (P g : Nat) (key : List Int) (r : Nat) : Prop := Blk w P 62 (kpl g key r).toArray
def kpreA (g : Nat) (key : List Int) (r : Nat) : List Value := .pointer (some ⟨g, 0, none⟩) :: ((Aes.keys key (4 * r)).take (16 * r)).map (Value.int .u8)
def kpreB (g : Nat) (key : List Int) (r : Nat) : List Value := .pointer (some ⟨g, 0, none⟩) :: (Aes.keys key (4 * r)).map (Value.int .u8)
theorem kpl_a (g : Nat) (key : List Int) (r : Nat) : kpl g key r = kpreA g key r ++ ((Aes.rk key r).map (Value.int .u8) ++ List.replicate (160 - 16 * r) (.int .u8 0)) := by
  unfold kpl kpreA Aes.rk
  rw [List.cons_append, ← List.append_assoc, ← List.map_append, List.take_append_drop]
theorem kpl_b (g : Nat) (key : List Int) (r : Nat) (hr : r < 10) : kpl g key r = kpreB g key r ++ (List.replicate 16 (.int .u8 0) ++ List.replicate (160 - 16 * (r + 1)) (.int .u8 0)) := by
  unfold kpl kpreB
  rw [List.replicate_append_replicate, show 16 + (160 - 16 * (r + 1)) = 160 - 16 * r by omega]
  rfl
theorem kpl_c (g : Nat) (key : List Int) (hk : key.length = 16) (r : Nat) : kpreB g key r ++ ((Aes.foll (Aes.rk key r) (Aes.rcon r)).map (Value.int .u8) ++ List.replicate (160 - 16 * (r + 1)) (.int .u8 0)) = kpl g key (r + 1) := by
  unfold kpl kpreB
  rw [Aes.keys_next key hk r, List.map_append, List.cons_append, List.append_assoc]
theorem kpreA_length (g : Nat) (key : List Int) (hk : key.length = 16) (r : Nat) : (kpreA g key r).length = 1 + 16 * r := by
  unfold kpreA
  rw [List.length_cons, List.length_map, List.length_take_of_le (by rw [Aes.keys_length, hk]; omega)]
  omega
theorem kpreB_length (g : Nat) (key : List Int) (hk : key.length = 16) (r : Nat) : (kpreB g key r).length = 1 + 16 * (r + 1) := by
  unfold kpreB
  rw [List.length_cons, List.length_map, Aes.keys_length, hk]
  omega
theorem kpl_ten (g : Nat) (key : List Int) : (kpl g key 10).toArray = kcs5 g key := by
  unfold kpl kcs5
  simp
theorem rk_b16 {k : List Int} (hk : B16 k) (r : Nat) : B16 (Aes.rk k r) := ⟨Aes.rk_length k hk.1 r, Aes.rk_wf hk.2 r⟩

noncomputable def hkeyL : Code := loopOf Try.f14 0
set_option maxRecDepth 100000 in
set_option maxHeartbeats 8000000 in
theorem key_loop (R : Act → World → Prop) (a : Act) (w2 : World) (g P B n : Nat) (k : List Int) (hk : B16 k) (hne : P ≠ g) (hA : Hid (AT w2 g n)) (hP : Hid (KP w2 P g k 0))
    (hF : Fr 46 [(0, .pointer (some ⟨g, 0, none⟩)), (3, .pointer (some ⟨B, 0, none⟩)), (5, .pointer (some ⟨P, 0, none⟩)), (6, .int .u8 1), (24, .int .i64 0)] a)
    (hQ : ∀ a' w', Fr 46 [(5, .pointer (some ⟨P, 0, none⟩))] a' → KP w' P g k 10 → Keep [P] w2 w' → R a' w') :
    Code.wp Try.prog (.loop hkeyL) (OutX 0 R) a w2 := by
  refine wp_loop_ghost_k (fun m a wr => ∃ r : Nat, m + r = 10 ∧ Fr 46 [(0, .pointer (some ⟨g, 0, none⟩)), (3, .pointer (some ⟨B, 0, none⟩)), (5, .pointer (some ⟨P, 0, none⟩)), (6, .int .u8 (Aes.rcon r : Nat)), (24, .int .i64 r)] a ∧ KP wr P g k r ∧ Keep [P] w2 wr)
    10 ⟨0, rfl, hF, hP.out, Keep.refl _ _⟩ ?_
  clear hF hP
  rintro m a wr ⟨r, hmr, hFr, h1, hk1⟩ J K hJ hK1
  have HJ := Lib.hid hJ
  have HMR := Lib.hid hmr
  have HP := Lib.hid h1
  have HK := Lib.hid hk1
  have HQ := Lib.hid hQ
  obtain ⟨f, ⟨f0, f3, f5, f6, f24, -⟩, rfl⟩ := hFr.open46
  simp only [f0, f3, f5, f6, f24]
  clear f0 f3 f5 f6 f24 hFr hJ h1 hk1 hQ hmr
  conv => arg 2; whnf
  by_cases hlt : r < 10
  · have hrc := Aes.rcon_lt r
    obtain ⟨q, hq⟩ : ∃ q, q = Aes.rcon (r + 1) := ⟨_, rfl⟩
    have T : ∀ w, Hid (Calls Try.prog 9 #[.int .u8 (Aes.rcon r : Nat), .int .u8 2] w fun e w' => e = .returned (.int .u8 (q : Nat)) ∧ w' = w) := fun w => by
      rw [hq]
      exact Lib.hid (atimes_any (Aes.rcon r) 2 w hrc (by decide))
    have HQQ := Lib.hid hq
    obtain ⟨F, hF⟩ : ∃ F, F = ((Aes.foll (Aes.rk k r) (Aes.rcon r)).map (Value.int .u8)).toArray := ⟨_, rfl⟩
    have hC : ∀ W, AT W g n → Calls Try.prog 21 #[.pointer (some ⟨g, 0, none⟩), .agg ((Aes.rk k r).map (Value.int .u8)).toArray, .int .u8 (Aes.rcon r : Nat)] W fun e w' => e = .returned (.agg F) ∧ Keep [] W w' := fun W h => by
      have := afoll_any (Aes.rk k r) (rk_b16 hk r) (Aes.rcon r) hrc W g n h
      rw [arr_agg, arr_agg, ← hF] at this
      exact this
    have HC := Lib.hid hC
    have HFS := Lib.hid (show F.size = 16 by rw [hF]; simp [Aes.foll])
    have HF1 := Lib.hid (show F.all (·.oneCell') = true by rw [hF]; exact arr_cell _)
    have HF := Lib.hid hF
    have HB1 := Lib.hid (show Blk wr P 62 (kpreA g k r ++ ((Aes.rk k r).map (Value.int .u8) ++ List.replicate (160 - 16 * r) (Value.int .u8 0))).toArray by rw [← kpl_a]; exact HP.out)
    have HB2 := Lib.hid (show Blk wr P 62 (kpreB g k r ++ (List.replicate 16 (Value.int .u8 0) ++ List.replicate (160 - 16 * (r + 1)) (Value.int .u8 0))).toArray by rw [← kpl_b g k r hlt]; exact HP.out)
    have HA := Lib.hid (hA.out.keep HK.out (by simp; exact fun h => hne h.symm))
    clear hC hF hq
    go_upto_region 10 with fail
    refine OutN.use (key_reg10 (fun a' w' => Fr 46 [(0, .pointer (some ⟨g, 0, none⟩)), (3, .pointer (some ⟨B, 0, none⟩)), (5, .pointer (some ⟨P, 0, none⟩)), (6, .int .u8 (Aes.rcon r : Nat)), (24, .int .i64 r)] a' ∧ KP w' P g k (r + 1) ∧ Keep [P] wr w') _ wr g P B n r (Aes.rcon r : Nat) _ _ _ _ _ _ _ F hlt (Lib.hid rfl) HFS HF1
      (Lib.hid (kpreA_length g k hk.1 r)) (Lib.hid (by rw [List.length_map]; exact Aes.rk_length k hk.1 r)) (Lib.hid (kpreB_length g k hk.1 r)) (Lib.hid (by simp)) HB1 HB2 HA HC
      ⟨rfl, rfl, by repeat (first | exact trivial | refine ⟨rfl, ?_⟩)⟩ (Lib.hid fun a' w' h1 h2 h3 => ⟨h1, by
        rw [HF.out, show (((Aes.foll (Aes.rk k r) (Aes.rcon r)).map (Value.int .u8)).toArray).toList = (Aes.foll (Aes.rk k r) (Aes.rcon r)).map (Value.int .u8) from rfl, kpl_c g k hk.1 r] at h2
        exact h2, h3⟩)) ?_
    rintro a' w3 ⟨hF3, hp3, hk3⟩
    have HP3 := Lib.hid hp3
    have HK3 := Lib.hid (HK.out.trans hk3)
    obtain ⟨f, ⟨f0, f3, f5, f6, f24, -⟩, rfl⟩ := hF3.open46
    simp only [f0, f3, f5, f6, f24]
    clear f0 f3 f5 f6 f24 hF3 hp3 hk3
    go_wp2_with (go_at_call 9; with_reducible refine (T _).out.mono ?_; rintro e w4 ⟨rfl, rfl⟩)
    exact Handed.intro (m - 1) (by have := HMR.out; omega) (HJ.out _ _ _ ⟨r + 1, by have := HMR.out; omega, ⟨rfl, rfl, by rw [← HQQ.out]; repeat (first | exact trivial | refine ⟨rfl, ?_⟩)⟩, HP3.out, HK3.out⟩)
  · obtain rfl : r = 10 := by have := HMR.out; omega
    go_wp2_with fail
    exact ⟨rfl, HQ.out _ _ ⟨rfl, rfl, by repeat (first | exact trivial | refine ⟨rfl, ?_⟩)⟩ HP.out HK.out⟩

theorem blk16B : ∃ Z : Array Value, Z = (List.replicate 16 (Value.int .u8 0)).toArray ∧ Try.prog.built 29 [] = some Z := ⟨_, rfl, by kernel_rfl⟩
theorem keyZ (g : Nat) : Try.prog.built 62 [(0, .pointer (some ⟨g, 0, none⟩))] = some (.pointer (some ⟨g, 0, none⟩) :: List.replicate 176 (Value.int .u8 0)).toArray := by kernel_rfl

set_option maxRecDepth 100000 in
set_option maxHeartbeats 8000000 in
theorem aKeyC : AKeyC := by
  intro w g n k hA hk
  obtain ⟨D, hD⟩ : ∃ D, D = (k.map (Value.int .u8)).toArray := ⟨_, rfl⟩
  obtain ⟨KZ, hKZ⟩ : ∃ KZ, KZ = (.pointer (some ⟨g, 0, none⟩) :: List.replicate 176 (Value.int .u8 0)).toArray := ⟨_, rfl⟩
  have hb : Try.prog.built 62 [(0, .pointer (some ⟨g, 0, none⟩))] = some KZ := by rw [hKZ]; exact keyZ g
  have HD := Lib.hid hD
  have HKZ := Lib.hid hKZ
  have HB := Lib.hid hb
  have HG := Lib.hid hA.lt
  rw [arr_agg, ← hD]
  clear hD hKZ hb
  go_enter Try.func14, Try.ntmps14
  go_upto_region 3 with (refine wl_box rfl _ _ rfl D rfl ?_; intro w1 hB1 hk1 hz1; have HB1 := Lib.hid hB1; have HK1 := Lib.hid hk1; have HA1 := Lib.hid (hA.keep hk1 (by simp)); clear hB1 hk1 hz1)
  have DO := Lib.hid (ado_any w1 g n HA1.out)
  clear hA
  go_upto_region 5 with (first
    | (go_at_call 19; with_reducible refine DO.out.mono ?_; rintro e w2 ⟨rfl, hat, hk2⟩; have HA2 := Lib.hid hat; have HK2 := Lib.hid hk2; clear hat hk2)
    | (refine wl_build rfl _ _ rfl KZ [(0, .pointer (some ⟨g, 0, none⟩))] (by simp; with_unfolding_all rfl) HB.out ?_)
    | (refine wl_box rfl _ _ rfl KZ rfl ?_; intro w3 hB3 hk3 hz3; have HB3 := Lib.hid hB3; have HK3 := Lib.hid hk3; clear hB3 hk3 hz3))
  obtain ⟨B, hB⟩ : ∃ B, B = w.heap.size := ⟨_, rfl⟩
  obtain ⟨P, hP⟩ : ∃ P, P = w2.heap.size := ⟨_, rfl⟩
  have HN := Lib.hid (show P ≠ g ∧ B ≠ g ∧ P ≠ B ∧ w.heap.size ≤ P by
    have h1 := HB1.out.lt
    have h2 := HK2.out.size
    have h3 := HG.out
    have h4 := HK1.out.size
    omega)
  have HBB := Lib.hid (show Blk w3 B 29 D by rw [hB]; exact (HB1.out.keep HK2.out (by have := HG.out; simp; omega)).keep HK3.out (by simp))
  have HBP := Lib.hid (show Blk w3 P 62 ([Value.pointer (some ⟨g, 0, none⟩)] ++ (List.replicate 16 (Value.int .u8 0) ++ List.replicate 160 (Value.int .u8 0))).toArray by
    have h := HB3.out
    rw [HKZ.out, ← hP] at h
    exact h)
  have HA3 := Lib.hid (HA2.out.keep HK3.out (by simp))
  have HKW := Lib.hid (show Keep [g] w w3 from (HK1.out.more0.trans HK2.out).trans0 HK3.out)
  have HDS := Lib.hid (show D.size = 16 by rw [HD.out]; simp [hk.1])
  have HD1 := Lib.hid (show D.all (·.oneCell') = true by rw [HD.out]; exact arr_cell _)
  rw [← hB, ← hP]
  clear hB hP HB1 HB3 HK1 HK2 HK3 HA1 HA2 DO
  refine OutN.use (key_reg5 (fun a' w' => Fr 46 [(0, .pointer (some ⟨g, 0, none⟩)), (3, .pointer (some ⟨B, 0, none⟩)), (5, .pointer (some ⟨P, 0, none⟩))] a' ∧ KP w' P g k 0 ∧ Keep [P] w3 w') _ w3 g P B D _ _ _ HDS HD1 (Lib.hid rfl) (Lib.hid (by simp)) HBB HBP
    ⟨rfl, rfl, by repeat (first | exact trivial | refine ⟨rfl, ?_⟩)⟩ (Lib.hid fun a' w' h1 h2 h3 => ⟨h1, by rw [HD.out] at h2; exact h2, h3⟩)) ?_
  rintro a' w4 ⟨hF4, hp4, hk4⟩
  have HP4 := Lib.hid hp4
  have HK4 := Lib.hid hk4
  have HA4 := Lib.hid (HA3.out.keep hk4 (by have := HN.out.1; simp; omega))
  obtain ⟨f, ⟨f0, f3, f5, -⟩, rfl⟩ := hF4.open46
  simp only [f0, f3, f5]
  clear f0 f3 f5 hF4 hp4 hk4
  go_upto_block 0 with fail
  go_wp2_with fail
  refine OutX.use (key_loop (fun a' w' => Fr 46 [(5, .pointer (some ⟨P, 0, none⟩))] a' ∧ KP w' P g k 10 ∧ Keep [P] w4 w') _ w4 g P B n k hk HN.out.1 HA4 HP4
    ⟨rfl, rfl, by repeat (first | exact trivial | refine ⟨rfl, ?_⟩)⟩ (fun a' w' h1 h2 h3 => ⟨h1, h2, h3⟩)) ?_
  rintro a' w5 ⟨hF5, hp5, hk5⟩
  have HP5 := Lib.hid hp5
  have HK5 := Lib.hid hk5
  have HA5 := Lib.hid (HA4.out.keep hk5 (by have := HN.out.1; simp; omega))
  obtain ⟨f, ⟨f5, -⟩, rfl⟩ := hF5.open46
  simp only [f5]
  clear f5 hF5 hp5 hk5
  go_wp2_with fail
  go_ret
  refine ⟨P, rfl, HN.out.2.2.2, ⟨HN.out.1, ?_⟩, HA5.out, HKW.out.trans' (HK4.out.trans HK5.out) (fun q hq => by right; have := HN.out.2.2.2; simp at hq; omega)⟩
  have := HP5.out
  unfold KP at this
  rw [kpl_ten] at this
  exact this
end Go.Proofs.Ytpjkicbfdknjcaa
