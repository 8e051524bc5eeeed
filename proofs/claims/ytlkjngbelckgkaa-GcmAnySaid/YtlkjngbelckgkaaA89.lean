/-
  The landed aes: Key, whole.
  The landed aes: Turn, whole.
-/
import Derived.Test.YtlkjngbelckgkaaA67
namespace Go.Proofs.Ytlkjngbelckgkaa
open Go.RowKit

/-- The cells of a key of which so many round keys are made. -/
def kpl (g : Nat) (key : List Int) (r : Nat) : List Value := .pointer (some ⟨g, 0, none⟩) :: ((Aes.keys key (4 * r)).map (Value.int .u8) ++ List.replicate (160 - 16 * r) (.int .u8 0))
def KP (w : World) (P g : Nat) (key : List Int) (r : Nat) : Prop := Blk w P 75 (kpl g key r).toArray
def kpreA (g : Nat) (key : List Int) (r : Nat) : List Value := .pointer (some ⟨g, 0, none⟩) :: ((Aes.keys key (4 * r)).take (16 * r)).map (Value.int .u8)
def kpreB (g : Nat) (key : List Int) (r : Nat) : List Value := .pointer (some ⟨g, 0, none⟩) :: (Aes.keys key (4 * r)).map (Value.int .u8)
theorem kpl_a (g : Nat) (key : List Int) (r : Nat) : kpl g key r = kpreA g key r ++ ((Aes.rk key r).map (Value.int .u8) ++ List.replicate (160 - 16 * r) (.int .u8 0)) := by
  unfold kpl kpreA Aes.rk
  rw [List.cons_append, ← List.append_assoc, ← List.map_append, List.take_append_drop]
theorem kpl_b (g : Nat) (key : List Int) (r : Nat) (hr : r < 10) : kpl g key r = kpreB g key r ++ (List.replicate 16 (.int .u8 0) ++ List.replicate (160 - 16 * (r + 1)) (.int .u8 0)) := by
  unfold kpl kpreB
  rw [List.replicate_append_replicate, show 16 + (160 - 16 * (r + 1)) = 160 - 16 * r by omega]
  rfl
theorem kpl_c (g : Nat) (key : List Int) (hk : key.length = 16) (r : Nat) : kpreB g key r ++ ((Aes.foll (Aes.rk key r) (Aes.rcon r)).map (Value.int .u8) ++ List.replicate (160 - 16 * (r + 1)) (.int .u8 0)) = kpl g key (r + 1) := by
  unfold kpl kpreB
  rw [Aes.keys_next key hk r, List.map_append, List.cons_append, List.append_assoc]
theorem kpreA_length (g : Nat) (key : List Int) (hk : key.length = 16) (r : Nat) : (kpreA g key r).length = 1 + 16 * r := by
  unfold kpreA
  rw [List.length_cons, List.length_map, List.length_take_of_le (by rw [Aes.keys_length, hk]; omega)]
  omega
theorem kpreB_length (g : Nat) (key : List Int) (hk : key.length = 16) (r : Nat) : (kpreB g key r).length = 1 + 16 * (r + 1) := by
  unfold kpreB
  rw [List.length_cons, List.length_map, Aes.keys_length, hk]
  omega
theorem kpl_ten (g : Nat) (key : List Int) : (kpl g key 10).toArray = kcs5 g key := by
  unfold kpl kcs5
  simp
theorem rk_b16 {k : List Int} (hk : B16 k) (r : Nat) : B16 (Aes.rk k r) := ⟨Aes.rk_length k hk.1 r, Aes.rk_wf hk.2 r⟩

noncomputable def hkeyL : Code := loopOf Try.f12 0
set_option maxRecDepth 100000 in
set_option maxHeartbeats 8000000 in
theorem key_loop (R : Act → World → Prop) (a : Act) (w2 : World) (g P B n : Nat) (k : List Int) (hk : B16 k) (hne : P ≠ g) (hA : Hid (AT w2 g n)) (hP : Hid (KP w2 P g k 0))
    (hF : Fr 46 [(0, .pointer (some ⟨g, 0, none⟩)), (3, .pointer (some ⟨B, 0, none⟩)), (5, .pointer (some ⟨P, 0, none⟩)), (6, .int .u8 1), (24, .int .i64 0)] a)
    (hQ : ∀ a' w', Fr 46 [(5, .pointer (some ⟨P, 0, none⟩))] a' → KP w' P g k 10 → Keep [P] w2 w' → R a' w') :
    Code.wp Try.prog (.loop hkeyL) (OutX 0 R) a w2 := by
  refine wp_loop_ghost_k (fun m a wr => ∃ r : Nat, m + r = 10 ∧ Fr 46 [(0, .pointer (some ⟨g, 0, none⟩)), (3, .pointer (some ⟨B, 0, none⟩)), (5, .pointer (some ⟨P, 0, none⟩)), (6, .int .u8 (Aes.rcon r : Nat)), (24, .int .i64 r)] a ∧ KP wr P g k r ∧ Keep [P] w2 wr)
    10 ⟨0, rfl, hF, hP.out, Keep.refl _ _⟩ ?_
  clear hF hP
  rintro m a wr ⟨r, hmr, hFr, h1, hk1⟩ J K hJ hK1
  have HJ := Lib.hid hJ
  have HMR := Lib.hid hmr
  have HP := Lib.hid h1
  have HK := Lib.hid hk1
  have HQ := Lib.hid hQ
  obtain ⟨f, ⟨f0, f3, f5, f6, f24, -⟩, rfl⟩ := hFr.open46
  simp only [f0, f3, f5, f6, f24]
  clear f0 f3 f5 f6 f24 hFr hJ h1 hk1 hQ hmr
  conv => arg 2; whnf
  by_cases hlt : r < 10
  · have hrc := Aes.rcon_lt r
    obtain ⟨q, hq⟩ : ∃ q, q = Aes.rcon (r + 1) := ⟨_, rfl⟩
    have T : ∀ w, Hid (Calls Try.prog 25 #[.int .u8 (Aes.rcon r : Nat), .int .u8 2] w fun e w' => e = .returned (.int .u8 (q : Nat)) ∧ w' = w) := fun w => by
      rw [hq]
      exact Lib.hid (atimes_any (Aes.rcon r) 2 w hrc (by decide))
    have HQQ := Lib.hid hq
    obtain ⟨F, hF⟩ : ∃ F, F = ((Aes.foll (Aes.rk k r) (Aes.rcon r)).map (Value.int .u8)).toArray := ⟨_, rfl⟩
    have hC : ∀ W, AT W g n → Calls Try.prog 24 #[.pointer (some ⟨g, 0, none⟩), .agg ((Aes.rk k r).map (Value.int .u8)).toArray, .int .u8 (Aes.rcon r : Nat)] W fun e w' => e = .returned (.agg F) ∧ Keep [] W w' := fun W h => by
      have := afoll_any (Aes.rk k r) (rk_b16 hk r) (Aes.rcon r) hrc W g n h
      rw [arr_agg, arr_agg, ← hF] at this
      exact this
    have HC := Lib.hid hC
    have HFS := Lib.hid (show F.size = 16 by rw [hF]; simp [Aes.foll])
    have HF1 := Lib.hid (show F.all (·.oneCell') = true by rw [hF]; exact arr_cell _)
    have HF := Lib.hid hF
    have HB1 := Lib.hid (show Blk wr P 75 (kpreA g k r ++ ((Aes.rk k r).map (Value.int .u8) ++ List.replicate (160 - 16 * r) (Value.int .u8 0))).toArray by rw [← kpl_a]; exact HP.out)
    have HB2 := Lib.hid (show Blk wr P 75 (kpreB g k r ++ (List.replicate 16 (Value.int .u8 0) ++ List.replicate (160 - 16 * (r + 1)) (Value.int .u8 0))).toArray by rw [← kpl_b g k r hlt]; exact HP.out)
    have HA := Lib.hid (hA.out.keep HK.out (by simp; exact fun h => hne h.symm))
    clear hC hF hq
    go_upto_region 10 with fail
    refine OutN.use (key_reg10 (fun a' w' => Fr 46 [(0, .pointer (some ⟨g, 0, none⟩)), (3, .pointer (some ⟨B, 0, none⟩)), (5, .pointer (some ⟨P, 0, none⟩)), (6, .int .u8 (Aes.rcon r : Nat)), (24, .int .i64 r)] a' ∧ KP w' P g k (r + 1) ∧ Keep [P] wr w') _ wr g P B n r (Aes.rcon r : Nat) _ _ _ _ _ _ _ F hlt (Lib.hid rfl) HFS HF1
      (Lib.hid (kpreA_length g k hk.1 r)) (Lib.hid (by rw [List.length_map]; exact Aes.rk_length k hk.1 r)) (Lib.hid (kpreB_length g k hk.1 r)) (Lib.hid (by simp)) HB1 HB2 HA HC
      ⟨rfl, rfl, by repeat (first | exact trivial | refine ⟨rfl, ?_⟩)⟩ (Lib.hid fun a' w' h1 h2 h3 => ⟨h1, by
        rw [HF.out, show (((Aes.foll (Aes.rk k r) (Aes.rcon r)).map (Value.int .u8)).toArray).toList = (Aes.foll (Aes.rk k r) (Aes.rcon r)).map (Value.int .u8) from rfl, kpl_c g k hk.1 r] at h2
        exact h2, h3⟩)) ?_
    rintro a' w3 ⟨hF3, hp3, hk3⟩
    have HP3 := Lib.hid hp3
    have HK3 := Lib.hid (HK.out.trans hk3)
    obtain ⟨f, ⟨f0, f3, f5, f6, f24, -⟩, rfl⟩ := hF3.open46
    simp only [f0, f3, f5, f6, f24]
    clear f0 f3 f5 f6 f24 hF3 hp3 hk3
    go_wp2_with (go_at_call 25; with_reducible refine (T _).out.mono ?_; rintro e w4 ⟨rfl, rfl⟩)
    exact Handed.intro (m - 1) (by have := HMR.out; omega) (HJ.out _ _ _ ⟨r + 1, by have := HMR.out; omega, ⟨rfl, rfl, by rw [← HQQ.out]; repeat (first | exact trivial | refine ⟨rfl, ?_⟩)⟩, HP3.out, HK3.out⟩)
  · obtain rfl : r = 10 := by have := HMR.out; omega
    go_wp2_with fail
    exact ⟨rfl, HQ.out _ _ ⟨rfl, rfl, by repeat (first | exact trivial | refine ⟨rfl, ?_⟩)⟩ HP.out HK.out⟩

theorem blk16B : ∃ Z : Array Value, Z = (List.replicate 16 (Value.int .u8 0)).toArray ∧ Try.prog.built 23 [] = some Z := ⟨_, rfl, by kernel_rfl⟩
theorem keyZ (g : Nat) : Try.prog.built 75 [(0, .pointer (some ⟨g, 0, none⟩))] = some (.pointer (some ⟨g, 0, none⟩) :: List.replicate 176 (Value.int .u8 0)).toArray := by kernel_rfl

set_option maxRecDepth 100000 in
set_option maxHeartbeats 8000000 in
theorem aKeyC : AKeyC := by
  intro w g n k hA hk
  obtain ⟨D, hD⟩ : ∃ D, D = (k.map (Value.int .u8)).toArray := ⟨_, rfl⟩
  obtain ⟨KZ, hKZ⟩ : ∃ KZ, KZ = (.pointer (some ⟨g, 0, none⟩) :: List.replicate 176 (Value.int .u8 0)).toArray := ⟨_, rfl⟩
  have hb : Try.prog.built 75 [(0, .pointer (some ⟨g, 0, none⟩))] = some KZ := by rw [hKZ]; exact keyZ g
  have HD := Lib.hid hD
  have HKZ := Lib.hid hKZ
  have HB := Lib.hid hb
  have HG := Lib.hid hA.lt
  rw [arr_agg, ← hD]
  clear hD hKZ hb
  go_enter Try.func12, Try.ntmps12
  go_upto_region 3 with (refine wl_box rfl _ _ rfl D rfl ?_; intro w1 hB1 hk1 hz1; have HB1 := Lib.hid hB1; have HK1 := Lib.hid hk1; have HA1 := Lib.hid (hA.keep hk1 (by simp)); clear hB1 hk1 hz1)
  have DO := Lib.hid (ado_any w1 g n HA1.out)
  clear hA
  go_upto_region 5 with (first
    | (go_at_call 22; with_reducible refine DO.out.mono ?_; rintro e w2 ⟨rfl, hat, hk2⟩; have HA2 := Lib.hid hat; have HK2 := Lib.hid hk2; clear hat hk2)
    | (refine wl_build rfl _ _ rfl KZ [(0, .pointer (some ⟨g, 0, none⟩))] (by simp; with_unfolding_all rfl) HB.out ?_)
    | (refine wl_box rfl _ _ rfl KZ rfl ?_; intro w3 hB3 hk3 hz3; have HB3 := Lib.hid hB3; have HK3 := Lib.hid hk3; clear hB3 hk3 hz3))
  obtain ⟨B, hB⟩ : ∃ B, B = w.heap.size := ⟨_, rfl⟩
  obtain ⟨P, hP⟩ : ∃ P, P = w2.heap.size := ⟨_, rfl⟩
  have HN := Lib.hid (show P ≠ g ∧ B ≠ g ∧ P ≠ B ∧ w.heap.size ≤ P by
    have h1 := HB1.out.lt
    have h2 := HK2.out.size
    have h3 := HG.out
    have h4 := HK1.out.size
    omega)
  have HBB := Lib.hid (show Blk w3 B 23 D by rw [hB]; exact (HB1.out.keep HK2.out (by have := HG.out; simp; omega)).keep HK3.out (by simp))
  have HBP := Lib.hid (show Blk w3 P 75 ([Value.pointer (some ⟨g, 0, none⟩)] ++ (List.replicate 16 (Value.int .u8 0) ++ List.replicate 160 (Value.int .u8 0))).toArray by
    have h := HB3.out
    rw [HKZ.out, ← hP] at h
    exact h)
  have HA3 := Lib.hid (HA2.out.keep HK3.out (by simp))
  have HKW := Lib.hid (show Keep [g] w w3 from (HK1.out.more0.trans HK2.out).trans0 HK3.out)
  have HDS := Lib.hid (show D.size = 16 by rw [HD.out]; simp [hk.1])
  have HD1 := Lib.hid (show D.all (·.oneCell') = true by rw [HD.out]; exact arr_cell _)
  rw [← hB, ← hP]
  clear hB hP HB1 HB3 HK1 HK2 HK3 HA1 HA2 DO
  refine OutN.use (key_reg5 (fun a' w' => Fr 46 [(0, .pointer (some ⟨g, 0, none⟩)), (3, .pointer (some ⟨B, 0, none⟩)), (5, .pointer (some ⟨P, 0, none⟩))] a' ∧ KP w' P g k 0 ∧ Keep [P] w3 w') _ w3 g P B D _ _ _ HDS HD1 (Lib.hid rfl) (Lib.hid (by simp)) HBB HBP
    ⟨rfl, rfl, by repeat (first | exact trivial | refine ⟨rfl, ?_⟩)⟩ (Lib.hid fun a' w' h1 h2 h3 => ⟨h1, by rw [HD.out] at h2; exact h2, h3⟩)) ?_
  rintro a' w4 ⟨hF4, hp4, hk4⟩
  have HP4 := Lib.hid hp4
  have HK4 := Lib.hid hk4
  have HA4 := Lib.hid (HA3.out.keep hk4 (by have := HN.out.1; simp; omega))
  obtain ⟨f, ⟨f0, f3, f5, -⟩, rfl⟩ := hF4.open46
  simp only [f0, f3, f5]
  clear f0 f3 f5 hF4 hp4 hk4
  go_upto_block 0 with fail
  go_wp2_with fail
  refine OutX.use (key_loop (fun a' w' => Fr 46 [(5, .pointer (some ⟨P, 0, none⟩))] a' ∧ KP w' P g k 10 ∧ Keep [P] w4 w') _ w4 g P B n k hk HN.out.1 HA4 HP4
    ⟨rfl, rfl, by repeat (first | exact trivial | refine ⟨rfl, ?_⟩)⟩ (fun a' w' h1 h2 h3 => ⟨h1, h2, h3⟩)) ?_
  rintro a' w5 ⟨hF5, hp5, hk5⟩
  have HP5 := Lib.hid hp5
  have HK5 := Lib.hid hk5
  have HA5 := Lib.hid (HA4.out.keep hk5 (by have := HN.out.1; simp; omega))
  obtain ⟨f, ⟨f5, -⟩, rfl⟩ := hF5.open46
  simp only [f5]
  clear f5 hF5 hp5 hk5
  go_wp2_with fail
  go_ret
  refine ⟨P, rfl, HN.out.2.2.2, ⟨HN.out.1, ?_⟩, HA5.out, HKW.out.trans' (HK4.out.trans HK5.out) (fun q hq => by right; have := HN.out.2.2.2; simp at hq; omega)⟩
  have := HP5.out
  unfold KP at this
  rw [kpl_ten] at this
  exact this

theorem kcs5_split (g : Nat) (key : List Int) (hk : key.length = 16) (r : Nat) (hr : r ≤ 10) :
    ∃ pre post, kcs5 g key = (pre ++ ((Aes.rk key r).map (Value.int .u8) ++ post)).toArray ∧ pre.length = 1 + 16 * r := by
  obtain ⟨X, hX⟩ := Aes.keys_take key hk (10 - r) r
  rw [show 4 * (r + (10 - r)) = 40 by omega] at hX
  refine ⟨kpreA g key r, X.map (Value.int .u8), ?_, kpreA_length g key hk r⟩
  unfold kcs5 kpreA Aes.rk
  rw [hX]
  simp only [List.cons_append, ← List.append_assoc, ← List.map_append, List.take_append_drop]
theorem kcs5_zero (g : Nat) (key : List Int) : (kcs5 g key)[0]? = some (.pointer (some ⟨g, 0, none⟩)) := rfl
theorem run_loadTab {W : World} {P g : Nat} (h : W.cell? ⟨P, 0, none⟩ = some (.pointer (some ⟨g, 0, none⟩))) : (loadVar 30 ⟨P, 0, none⟩).run Try.prog W = .ok (.pointer (some ⟨g, 0, none⟩)) W := by
  go_simp
theorem add_b16 {s w : List Int} (hs : B16 s) (hw : B16 w) : B16 (Aes.add s w 0) := ⟨by simp [Aes.add], Aes.add_wf hs.2 hw.2 0⟩
theorem sub_b16 (s : List Int) : B16 (Aes.sub s) := ⟨by simp [Aes.sub], Aes.sub_wf s⟩
theorem mixed_b16 {s : List Int} (hs : B16 s) : B16 (Aes.mixed s) := ⟨by simp [Aes.mixed], Aes.mixed_wf hs.2⟩
/-- The block behind so many rounds of the landed Turn. -/
def trs (k b : List Int) : Nat → List Int
  | 0 => Aes.add b (Aes.rk k 0) 0
  | r + 1 => Aes.add (Aes.mixed (Aes.sub (trs k b r))) (Aes.rk k (r + 1)) 0
theorem trs_b16 {k b : List Int} (hk : B16 k) (hb : B16 b) (r : Nat) : B16 (trs k b r) := by
  cases r with
  | zero => exact add_b16 hb (rk_b16 hk 0)
  | succ r => exact add_b16 (mixed_b16 (sub_b16 _)) (rk_b16 hk (r + 1))
theorem trs_rounds {k : List Int} (hk : B16 k) (b : List Int) : ∀ r, r < 10 → trs k b r = Aes.rounds (Aes.keys k 40) (Aes.add b (Aes.keys k 40) 0) r
  | 0, _ => (Aes.add_rk b k hk.1 0 (by decide)).symm
  | r + 1, hr => by
    show Aes.add (Aes.mixed (Aes.sub (trs k b r))) (Aes.rk k (r + 1)) 0 = Aes.add (if r + 1 < 10 then _ else _) _ (16 * (r + 1))
    rw [if_pos hr, Aes.add_rk _ k hk.1 (r + 1) (by omega), ← trs_rounds hk b r (by omega)]
theorem turn_trs {k : List Int} (hk : B16 k) (b : List Int) : Aes.turn k b = Aes.add (Aes.sub (trs k b 9)) (Aes.rk k 10) 0 := by
  rw [← Aes.add_rk _ k hk.1 10 (by decide), trs_rounds hk b 9 (by decide)]
  rfl

noncomputable def hturnL : Code := loopOf Try.f14 0
set_option maxRecDepth 100000 in
set_option maxHeartbeats 8000000 in
theorem turn_loop (R : Act → World → Prop) (a : Act) (w2 : World) (g P B C n : Nat) (k b : List Int) (hk : B16 k) (hb : B16 b) (hne : Hid (B ≠ g ∧ B ≠ P)) (hA : Hid (AT w2 g n)) (hP : Hid (Blk w2 P 75 (kcs5 g k)))
    (hBB : Hid (Blk w2 B 23 ((trs k b 0).map (Value.int .u8)).toArray))
    (hF : Fr 61 [(0, .pointer (some ⟨P, 0, none⟩)), (3, .pointer (some ⟨B, 0, none⟩)), (4, .pointer (some ⟨C, 0, none⟩)), (5, .int .i64 1)] a)
    (hQ : ∀ a' w', Fr 61 [(0, .pointer (some ⟨P, 0, none⟩)), (3, .pointer (some ⟨B, 0, none⟩)), (4, .pointer (some ⟨C, 0, none⟩))] a' → Blk w' B 23 ((trs k b 9).map (Value.int .u8)).toArray → Keep [B] w2 w' → R a' w') :
    Code.wp Try.prog (.loop hturnL) (OutX 0 R) a w2 := by
  refine wp_loop_ghost_k (fun m a wr => ∃ r : Nat, m + r = 9 ∧ Fr 61 [(0, .pointer (some ⟨P, 0, none⟩)), (3, .pointer (some ⟨B, 0, none⟩)), (4, .pointer (some ⟨C, 0, none⟩)), (5, .int .i64 ((r + 1 : Nat) : Int))] a ∧ Blk wr B 23 ((trs k b r).map (Value.int .u8)).toArray ∧ Keep [B] w2 wr)
    9 ⟨0, rfl, hF, hBB.out, Keep.refl _ _⟩ ?_
  clear hF hBB
  rintro m a wr ⟨r, hmr, hFr, h1, hk1⟩ J K hJ hK1
  have HJ := Lib.hid hJ
  have HMR := Lib.hid hmr
  have HB := Lib.hid h1
  have HK := Lib.hid hk1
  have HQ := Lib.hid hQ
  obtain ⟨f, ⟨f0, f3, f4, f5, -⟩, rfl⟩ := hFr.open61
  simp only [f0, f3, f4, f5]
  clear f0 f3 f4 f5 hFr hJ h1 hk1 hQ hmr
  conv => arg 2; whnf
  by_cases hlt : r < 9
  · obtain ⟨q, hq⟩ : ∃ q, q = r + 1 := ⟨_, rfl⟩
    have hq10 : q < 10 := by omega
    have hB := trs_b16 hk hb r
    obtain ⟨pre, post, hsp, hpre⟩ := kcs5_split g k hk.1 q (by omega)
    have HP := Lib.hid (show Blk wr P 75 (pre ++ ((Aes.rk k q).map (Value.int .u8) ++ post)).toArray by rw [← hsp]; exact hP.out.keep HK.out (by have := hne.out.2; simp; omega))
    have HA := Lib.hid (hA.out.keep HK.out (by have := hne.out.1; simp; omega))
    have LP : ∀ W, Blk W P 75 (pre ++ ((Aes.rk k q).map (Value.int .u8) ++ post)).toArray → (loadVar 30 ⟨P, 0, none⟩).run Try.prog W = .ok (.pointer (some ⟨g, 0, none⟩)) W := fun W h => by
      rw [← hsp] at h
      exact run_loadTab (by rw [h.cell]; rfl)
    have C0 := Lib.hid (fun W (h : AT W g n) => aexch_any (trs k b r) hB W g n h)
    have C1 := Lib.hid (fun W => amixed_any (Aes.sub (trs k b r)) (sub_b16 _) W)
    have C2 := Lib.hid (fun W => asum_any (Aes.mixed (Aes.sub (trs k b r))) (Aes.rk k q) (mixed_b16 (sub_b16 _)) (rk_b16 hk q) W)
    have HPRE := Lib.hid hpre
    have HQQ := Lib.hid hq
    rw [show ((r + 1 : Nat) : Int) = (q : Int) by rw [hq]]
    clear hsp hpre hq
    go_upto_region 7 with fail
    refine OutN.use (turn_reg7 (fun a' w' => Fr 61 [(0, .pointer (some ⟨P, 0, none⟩)), (3, .pointer (some ⟨B, 0, none⟩)), (4, .pointer (some ⟨C, 0, none⟩)), (5, .int .i64 q)] a' ∧ Blk w' B 23 ((trs k b (r + 1)).map (Value.int .u8)).toArray ∧ Keep [B] wr w') _ wr P B C _ ((trs k b (r + 1)).map (Value.int .u8)).toArray ((Aes.rk k q).map (Value.int .u8)).toArray pre ((Aes.rk k q).map (Value.int .u8)) post (Lib.hid (by simp [hB.1])) (Lib.hid (by simp [(trs_b16 hk hb (r + 1)).1])) (Lib.hid (arr_cell _)) (Lib.hid rfl) (Lib.hid (by simp [(rk_b16 hk q).1])) HB HP g n q _ _ hq10 HPRE
      (Lib.hid fun W h => HA.out.keep h (by simp)) LP C0 C1 (Lib.hid fun W => by have := C2.out W; rw [HQQ.out] at this; rw [HQQ.out]; exact this)
      ⟨rfl, rfl, by repeat (first | exact trivial | refine ⟨rfl, ?_⟩)⟩ (Lib.hid fun a' w' h1 h2 h3 => ⟨h1, h2, h3⟩)) ?_
    rintro a' w3 ⟨hF3, hb3, hk3⟩
    have HB3 := Lib.hid hb3
    have HK3 := Lib.hid (HK.out.trans hk3)
    obtain ⟨f, ⟨f0, f3, f4, f5, -⟩, rfl⟩ := hF3.open61
    simp only [f0, f3, f4, f5]
    clear f0 f3 f4 f5 hF3 hb3 hk3
    go_wp2_with fail
    exact Handed.intro (m - 1) (by have := HMR.out; omega) (HJ.out _ _ _ ⟨r + 1, by have := HMR.out; omega, ⟨rfl, rfl, by rw [← HQQ.out]; repeat (first | exact trivial | refine ⟨rfl, ?_⟩)⟩, HB3.out, HK3.out⟩)
  · obtain rfl : r = 9 := by have := HMR.out; omega
    go_wp2_with fail
    exact ⟨rfl, HQ.out _ _ ⟨rfl, rfl, by repeat (first | exact trivial | refine ⟨rfl, ?_⟩)⟩ HB.out HK.out⟩

set_option maxRecDepth 100000 in
set_option maxHeartbeats 8000000 in
theorem aTurnC : ATurnC := by
  intro w P g n k b hKK hA hn hk hb
  obtain ⟨hPg, hKB⟩ := hKK
  obtain ⟨D, hD⟩ : ∃ D, D = (b.map (Value.int .u8)).toArray := ⟨_, rfl⟩
  obtain ⟨F, hF⟩ : ∃ F, F = ((Aes.turn k b).map (Value.int .u8)).toArray := ⟨_, rfl⟩
  obtain ⟨Z, hZ, hZs, hZi⟩ := blk16
  have HZS := Lib.hid hZs
  have HZI := Lib.hid hZi
  have HD := Lib.hid hD
  have HF := Lib.hid hF
  have HKB := Lib.hid hKB
  have HA := Lib.hid hA
  have HL := Lib.hid (show g < w.heap.size ∧ P < w.heap.size from ⟨hA.lt, hKB.lt⟩)
  rw [arr_agg, arr_agg, ← hD, ← hF]
  clear hZ hZs hZi hD hF hKB hA
  go_enter Try.func14, Try.ntmps14
  go_upto_region 1 with (first
    | (have _q := HB1; refine wl_alloc_rowZ rfl _ rfl Z 16 HZI.out ?_; intro w2 hB2 hk2 hz2; have HB2 := Lib.hid hB2; have HK2 := Lib.hid hk2; clear hB2 hk2 hz2)
    | (refine wl_box rfl _ _ rfl D rfl ?_; intro w1 hB1 hk1 hz1; have HB1 := Lib.hid hB1; have HK1 := Lib.hid hk1; clear hB1 hk1 hz1))
  obtain ⟨B, hB⟩ : ∃ B, B = w.heap.size := ⟨_, rfl⟩
  obtain ⟨C, hC⟩ : ∃ C, C = w1.heap.size := ⟨_, rfl⟩
  have HN := Lib.hid (show B ≠ g ∧ B ≠ P ∧ C ≠ g ∧ C ≠ B ∧ w.heap.size ≤ B ∧ w.heap.size ≤ C by
    have h1 := HB1.out.lt
    have h3 := HL.out
    have h4 := HK1.out.size
    omega)
  have HBB := Lib.hid (show Blk w2 B 23 D by rw [hB]; exact HB1.out.keep HK2.out (by simp))
  have HBC := Lib.hid (show Blk w2 C 23 Z by rw [hC]; exact HB2.out)
  have HK := Lib.hid (show Keep [g] w w2 from (HK1.out.trans HK2.out).more0)
  have HP2 := Lib.hid ((HKB.out.keep HK1.out (by simp)).keep HK2.out (by simp))
  have HA2 := Lib.hid ((HA.out.keep HK1.out (by simp)).keep HK2.out (by simp))
  have c0 : w2.cell? ⟨P, 0, none⟩ = some (.pointer (some ⟨g, 0, none⟩)) := by rw [HP2.out.cell]; rfl
  rw [← hB, ← hC]
  clear hB hC HB1 HB2 HK1 HK2 _q HKB HA
  go_upto_region 3 with fail
  obtain ⟨pre0, post0, hsp0, hpre0⟩ := kcs5_split g k hk.1 0 (by decide)
  obtain ⟨pre1, post1, hsp1, hpre1⟩ := kcs5_split g k hk.1 10 (by decide)
  have HP20 := Lib.hid (show Blk w2 P 75 (pre0 ++ ((Aes.rk k 0).map (Value.int .u8) ++ post0)).toArray by rw [← hsp0]; exact HP2.out)
  have C1 := Lib.hid (fun W => asum_any b (Aes.rk k 0) hb (rk_b16 hk 0) W)
  simp only [arr_agg] at C1
  rw [← HD.out] at C1
  have HT0 := trs_b16 hk hb 0
  have HT9 := trs_b16 hk hb 9
  have HDS := Lib.hid (show D.size = 16 by rw [HD.out]; simp [hb.1])
  have HFS := Lib.hid (show F.size = 16 by rw [HF.out]; simp [Aes.turn_length])
  have HF1 := Lib.hid (show F.all (·.oneCell') = true by rw [HF.out]; exact arr_cell _)
  have HSP1 := Lib.hid hsp1
  have HPR0 := Lib.hid hpre0
  have HPR1 := Lib.hid hpre1
  clear hsp0 hsp1 hpre0 hpre1 c0
  refine OutN.use (turn_reg3 (fun a' w' => Fr 61 [(0, .pointer (some ⟨P, 0, none⟩)), (3, .pointer (some ⟨B, 0, none⟩)), (4, .pointer (some ⟨C, 0, none⟩))] a' ∧ Blk w' B 23 ((trs k b 0).map (Value.int .u8)).toArray ∧ Keep [B] w2 w') _ w2 P B C D ((trs k b 0).map (Value.int .u8)).toArray ((Aes.rk k 0).map (Value.int .u8)).toArray pre0 ((Aes.rk k 0).map (Value.int .u8)) post0 HDS (Lib.hid (by simp [HT0.1])) (Lib.hid (arr_cell _)) (Lib.hid rfl) (Lib.hid (by simp [(rk_b16 hk 0).1])) HBB HP20 HPR0 C1
      ⟨rfl, rfl, by repeat (first | exact trivial | refine ⟨rfl, ?_⟩)⟩ (Lib.hid fun a' w' h1 h2 h3 => ⟨h1, h2, h3⟩)) ?_
  rintro a' w3 ⟨hF3, hb3, hk3⟩
  have HB3 := Lib.hid hb3
  have HK3 := Lib.hid hk3
  have HA3 := Lib.hid (HA2.out.keep hk3 (by have := HN.out.1; simp; omega))
  have HP3 := Lib.hid (HP2.out.keep hk3 (by have := HN.out.2.1; simp; omega))
  obtain ⟨f, ⟨f0, f3, f4, -⟩, rfl⟩ := hF3.open61
  simp only [f0, f3, f4]
  clear f0 f3 f4 hF3 hb3 hk3
  go_upto_block 0 with fail
  go_wp2_with fail
  refine OutX.use (turn_loop (fun a' w' => Fr 61 [(0, .pointer (some ⟨P, 0, none⟩)), (3, .pointer (some ⟨B, 0, none⟩)), (4, .pointer (some ⟨C, 0, none⟩))] a' ∧ Blk w' B 23 ((trs k b 9).map (Value.int .u8)).toArray ∧ Keep [B] w3 w') _ w3 g P B C n k b hk hb (Lib.hid ⟨HN.out.1, HN.out.2.1⟩) HA3 HP3 HB3
    ⟨rfl, rfl, by repeat (first | exact trivial | refine ⟨rfl, ?_⟩)⟩ (fun a' w' h1 h2 h3 => ⟨h1, h2, h3⟩)) ?_
  rintro a' w4 ⟨hF4, hb4, hk4⟩
  have HB4 := Lib.hid hb4
  have HK4 := Lib.hid (HK3.out.trans hk4)
  have HA4 := Lib.hid (HA3.out.keep hk4 (by have := HN.out.1; simp; omega))
  have HP4 := Lib.hid (show Blk w4 P 75 (pre1 ++ ((Aes.rk k 10).map (Value.int .u8) ++ post1)).toArray by rw [← HSP1.out]; exact HP3.out.keep hk4 (by have := HN.out.2.1; simp; omega))
  have LP : ∀ W, Blk W P 75 (pre1 ++ ((Aes.rk k 10).map (Value.int .u8) ++ post1)).toArray → (loadVar 30 ⟨P, 0, none⟩).run Try.prog W = .ok (.pointer (some ⟨g, 0, none⟩)) W := fun W h => by
    rw [← HSP1.out] at h
    exact run_loadTab (by rw [h.cell]; rfl)
  have D0 := Lib.hid (fun W (h : AT W g n) => aexch_any (trs k b 9) HT9 W g n h)
  have D2 := Lib.hid (fun W => asum_any (Aes.sub (trs k b 9)) (Aes.rk k 10) (sub_b16 _) (rk_b16 hk 10) W)
  rw [← turn_trs hk b] at D2
  simp only [arr_agg] at D2
  rw [← HF.out] at D2
  obtain ⟨f, ⟨f0, f3, f4, -⟩, rfl⟩ := hF4.open61
  simp only [f0, f3, f4]
  clear f0 f3 f4 hF4 hb4 hk4
  go_upto_region 8 with fail
  refine OutN.use (turn_reg8 (fun a' w' => Fr 61 [(0, .pointer (some ⟨P, 0, none⟩)), (3, .pointer (some ⟨B, 0, none⟩)), (4, .pointer (some ⟨C, 0, none⟩))] a' ∧ Blk w' B 23 F ∧ Keep [B] w4 w') _ w4 P B C _ F ((Aes.rk k 10).map (Value.int .u8)).toArray pre1 ((Aes.rk k 10).map (Value.int .u8)) post1 (Lib.hid (by simp [HT9.1])) HFS HF1 (Lib.hid rfl) (Lib.hid (by simp [(rk_b16 hk 10).1])) HB4 HP4 g n _ HPR1
      (Lib.hid fun W h => HA4.out.keep h (by simp)) LP D0 D2
      ⟨rfl, rfl, by repeat (first | exact trivial | refine ⟨rfl, ?_⟩)⟩ (Lib.hid fun a' w' h1 h2 h3 => ⟨h1, h2, h3⟩)) ?_
  rintro a' w5 ⟨hF5, hb5, hk5⟩
  have HB5 := Lib.hid hb5
  have HK5 := Lib.hid (HK4.out.trans hk5)
  have HA5 := Lib.hid (HA4.out.keep hk5 (by have := HN.out.1; simp; omega))
  have HP5 := Lib.hid (HP4.out.keep hk5 (by have := HN.out.2.1; simp; omega))
  have HC5 := Lib.hid (HBC.out.keep HK5.out (by have := HN.out.2.2.2.1; simp; omega))
  have c0 : w5.cell? ⟨P, 0, none⟩ = some (.pointer (some ⟨g, 0, none⟩)) := by
    have h := HP5.out
    rw [← HSP1.out] at h
    rw [h.cell]; rfl
  have cn : w5.cell? ⟨g, 259, none⟩ = some (.int .i64 (n : Int)) := by
    rw [show w5.cell? ⟨g, 259, none⟩ = _ from Blk.cell HA5.out 259]; exact tcs5_last _ _ _ _ (by simp [boxes])
  have fz : w5.frozen? ⟨g, 259, none⟩ = false := Blk.frozen HA5.out 259
  have hwr : IntKind.i64.wrap ((n : Int) + 1) = ((n + 1 : Nat) : Int) := by
    rw [IntWalk.i64_in _ ⟨by omega, by omega⟩]; omega
  have hadd := run_call_add (P := Try.prog) Try.func43 (by kernel_rfl) (by kernel_rfl) (by kernel_rfl) .i64 (by kernel_rfl) (y := 1) (s := ((n + 1 : Nat) : Int)) cn fz (by simp [go_sem, hwr])
  obtain ⟨f, ⟨f0, f3, f4, -⟩, rfl⟩ := hF5.open61
  simp only [f0, f3, f4]
  clear f0 f3 f4 hF5 hb5 hk5
  go_upto_region 10 with (go_at_call 29; go_in)
  obtain ⟨w6, hw6⟩ : ∃ w6, w6 = w5.setCell ⟨g, 259, none⟩ (.int .i64 ((n : Int) + 1)) := ⟨_, rfl⟩
  rw [← hw6]
  have HA6 := Lib.hid (show AT w6 g (n + 1) by
    have h := Blk.set_ HA5.out 259 (.int .i64 ((n : Int) + 1))
    rw [tcs5_setLast _ _ _ _ _ (by simp [boxes]), ← hw6] at h
    exact h)
  have HK6 := Lib.hid (show Keep [g] w5 w6 by rw [hw6]; exact (Keep.refl _ _).setCell (.inl (by simp)) _)
  clear hw6 cn fz hwr hadd c0
  have HB6 := Lib.hid (HB5.out.keep HK6.out (by have := HN.out.1; simp; omega))
  have HC6 := Lib.hid (HC5.out.keep HK6.out (by have := HN.out.2.2.1; simp; omega))
  go_wp2_with (first
    | (refine wl_load_row rfl _ _ rfl B rfl 16 5 Try.underlying23 _ F HB6.out (by rw [HFS.out]; exact blkCells) ?_)
    | (refine wl_store_row rfl _ _ _ rfl C rfl F rfl _ _ HC6.out (by rw [HFS.out]; exact blkCells) (by rw [HFS.out]; exact HZS.out) HF1.out ?_; intro w7 hB7 hk7 hz7))
  (try simp only [Exit.inBlock, Exit.then])
  refine bodyPost_ret (v := .agg F) ?_ rfl ?_
  · refine results_cell_row Try.results14 _ w7 C 23 F (0, 0) _ ?_ hB7 Try.underlying23 rfl ?_
    · rfl
    · rw [HFS.out]; exact blkCells
  · have hN := HN.out
    exact ⟨rfl, HA6.out.keep hk7 (by simp; omega), ((HK.out.trans' HK5.out (fun q hq => by right; simp at hq; omega)).trans HK6.out).trans' hk7 (fun q hq => by right; simp at hq; omega)⟩
end Go.Proofs.Ytlkjngbelckgkaa
