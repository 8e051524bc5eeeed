/-
  The landed aes: Turn, whole; nil ones.
-/
import Derived.Test.YtpjkicbfdknjcaaA8
import Derived.Test.YtpjkicbfdknjcaaAesCounts
namespace Go.Proofs.Ytpjkicbfdknjcaa
open Go.RowKit

theorem kcs5_split (g : Nat) (key : List Int) (hk : key.length = 16) (r : Nat) (hr : r ≤ 10) :
    ∃ pre post, kcs5 g key = (pre ++ ((Aes.rk key r).map (Value.int .u8) ++ post)).toArray ∧ pre.length = 1 + 16 * r := by
  obtain ⟨X, hX⟩ := Aes.keys_take key hk (10 - r) r
  rw [show 4 * (r + (10 - r)) = 40 by omega] at hX
  refine ⟨kpreA g key r, X.map (Value.int .u8), ?_, kpreA_length g key hk r⟩
  unfold kcs5 kpreA Aes.rk
  rw [hX]
  simp only [List.cons_append, ← List.append_assoc, ← List.map_append, List.take_append_drop]
theorem kcs5_zero (g : Nat) (key : List Int) : (kcs5 g key)[0]? = some (.pointer (some ⟨g, 0, none⟩)) := rfl
theorem run_loadTab {W : World} {P g : Nat} (h : W.cell? ⟨P, 0, none⟩ = some (.pointer (some ⟨g, 0, none⟩))) : (loadVar 23 ⟨P, 0, none⟩).run Try.prog W = .ok (.pointer (some ⟨g, 0, none⟩)) W := by
  go_simp
theorem add_b16 {s w : List Int} (hs : B16 s) (hw : B16 w) : B16 (Aes.add s w 0) := ⟨by simp [Aes.add], Aes.add_wf hs.2 hw.2 0⟩
theorem sub_b16 (s : List Int) : B16 (Aes.sub s) := ⟨by simp [Aes.sub], Aes.sub_wf s⟩
theorem mixed_b16 {s : List Int} (hs : B16 s) : B16 (Aes.mixed s) := ⟨by simp [Aes.mixed], Aes.mixed_wf hs.2⟩
/-- The block behind so many rounds of the landed Turn. -/
def trs (k b : List Int) : Nat → List Int
  | 0 => Aes.add b (Aes.rk k 0) 0
  | r + 1 => Aes.add (Aes.mixed (Aes.sub (trs k b r))) (Aes.rk k (r + 1)) 0
theorem trs_b16 {k b : List Int} (hk : B16 k) (hb : B16 b) (r : Nat) : B16 (trs k b r) := by
  cases r with
  | zero => exact add_b16 hb (rk_b16 hk 0)
  | succ r => exact add_b16 (mixed_b16 (sub_b16 _)) (rk_b16 hk (r + 1))
theorem trs_rounds {k : List Int} (hk : B16 k) (b : List Int) : ∀ r, r < 10 → trs k b r = Aes.rounds (Aes.keys k 40) (Aes.add b (Aes.keys k 40) 0) r
  | 0, _ => (Aes.add_rk b k hk.1 0 (by decide)).symm
  | r + 1, hr => by
    show Aes.add (Aes.mixed (Aes.sub (trs k b r))) (Aes.rk k (r + 1)) 0 = Aes.add (if r + 1 < 10 then _ else _) _ (16 * (r + 1))
    rw [if_pos hr, Aes.add_rk _ k hk.1 (r + 1) (by omega), ← trs_rounds hk b r (by omega)]
theorem turn_trs {k : List Int} (hk : B16 k) (b : List Int) : Aes.turn k b = Aes.add (Aes.sub (trs k b 9)) (Aes.rk k 10) 0 := by
  rw [← Aes.add_rk _ k hk.1 10 (by decide), trs_rounds hk b 9 (by decide)]
  rfl

noncomputable def hturnL : Code := loopOf Try.f15 0
set_option maxRecDepth 100000 in
set_option maxHeartbeats 8000000 in
theorem turn_loop (R : Act → World → Prop) (a : Act) (w2 : World) (g P B C n : Nat) (k b : List Int) (hk : B16 k) (hb : B16 b) (hne : Hid (B ≠ g ∧ B ≠ P)) (hA : Hid (AT w2 g n)) (hP : Hid (Blk w2 P 62 (kcs5 g k)))
    (hBB : Hid (Blk w2 B 29 ((trs k b 0).map (Value.int .u8)).toArray))
    (hF : Fr 61 [(0, .pointer (some ⟨P, 0, none⟩)), (3, .pointer (some ⟨B, 0, none⟩)), (4, .pointer (some ⟨C, 0, none⟩)), (5, .int .i64 1)] a)
    (hQ : ∀ a' w', Fr 61 [(0, .pointer (some ⟨P, 0, none⟩)), (3, .pointer (some ⟨B, 0, none⟩)), (4, .pointer (some ⟨C, 0, none⟩))] a' → Blk w' B 29 ((trs k b 9).map (Value.int .u8)).toArray → Keep [B] w2 w' → R a' w') :
    Code.wp Try.prog (.loop hturnL) (OutX 0 R) a w2 := by
  refine wp_loop_ghost_k (fun m a wr => ∃ r : Nat, m + r = 9 ∧ Fr 61 [(0, .pointer (some ⟨P, 0, none⟩)), (3, .pointer (some ⟨B, 0, none⟩)), (4, .pointer (some ⟨C, 0, none⟩)), (5, .int .i64 ((r + 1 : Nat) : Int))] a ∧ Blk wr B 29 ((trs k b r).map (Value.int .u8)).toArray ∧ Keep [B] w2 wr)
    9 ⟨0, rfl, hF, hBB.out, Keep.refl _ _⟩ ?_
  clear hF hBB
  rintro m a wr ⟨r, hmr, hFr, h1, hk1⟩ J K hJ hK1
  have HJ := Lib.hid hJ
  have HMR := Lib.hid hmr
  have HB := Lib.hid h1
  have HK := Lib.hid hk1
  have HQ := Lib.hid hQ
  obtain ⟨f, ⟨f0, f3, f4, f5, -⟩, rfl⟩ := hFr.open61
  simp only [f0, f3, f4, f5]
  clear f0 f3 f4 f5 hFr hJ h1 hk1 hQ hmr
  conv => arg 2; whnf
  by_cases hlt : r < 9
  · obtain ⟨q, hq⟩ : ∃ q, q = r + 1 := ⟨_, rfl⟩
    have hq10 : q < 10 := by omega
    have hB := trs_b16 hk hb r
    obtain ⟨pre, post, hsp, hpre⟩ := kcs5_split g k hk.1 q (by omega)
    have HP := Lib.hid (show Blk wr P 62 (pre ++ ((Aes.rk k q).map (Value.int .u8) ++ post)).toArray by rw [← hsp]; exact hP.out.keep HK.out (by have := hne.out.2; simp; omega))
    have HA := Lib.hid (hA.out.keep HK.out (by have := hne.out.1; simp; omega))
    have LP : ∀ W, Blk W P 62 (pre ++ ((Aes.rk k q).map (Value.int .u8) ++ post)).toArray → (loadVar 23 ⟨P, 0, none⟩).run Try.prog W = .ok (.pointer (some ⟨g, 0, none⟩)) W := fun W h => by
      rw [← hsp] at h
      exact run_loadTab (by rw [h.cell]; rfl)
    have C0 := Lib.hid (fun W (h : AT W g n) => aexch_any (trs k b r) hB W g n h)
    have C1 := Lib.hid (fun W => amixed_any (Aes.sub (trs k b r)) (sub_b16 _) W)
    have C2 := Lib.hid (fun W => asum_any (Aes.mixed (Aes.sub (trs k b r))) (Aes.rk k q) (mixed_b16 (sub_b16 _)) (rk_b16 hk q) W)
    have HPRE := Lib.hid hpre
    have HQQ := Lib.hid hq
    rw [show ((r + 1 : Nat) : Int) = (q : Int) by rw [hq]]
    clear hsp hpre hq
    go_upto_region 7 with fail
    refine OutN.use (turn_reg7 (fun a' w' => Fr 61 [(0, .pointer (some ⟨P, 0, none⟩)), (3, .pointer (some ⟨B, 0, none⟩)), (4, .pointer (some ⟨C, 0, none⟩)), (5, .int .i64 q)] a' ∧ Blk w' B 29 ((trs k b (r + 1)).map (Value.int .u8)).toArray ∧ Keep [B] wr w') _ wr P B C _ ((trs k b (r + 1)).map (Value.int .u8)).toArray ((Aes.rk k q).map (Value.int .u8)).toArray pre ((Aes.rk k q).map (Value.int .u8)) post (Lib.hid (by simp [hB.1])) (Lib.hid (by simp [(trs_b16 hk hb (r + 1)).1])) (Lib.hid (arr_cell _)) (Lib.hid rfl) (Lib.hid (by simp [(rk_b16 hk q).1])) HB HP g n q _ _ hq10 HPRE
      (Lib.hid fun W h => HA.out.keep h (by simp)) LP C0 C1 (Lib.hid fun W => by have := C2.out W; rw [HQQ.out] at this; rw [HQQ.out]; exact this)
      ⟨rfl, rfl, by repeat (first | exact trivial | refine ⟨rfl, ?_⟩)⟩ (Lib.hid fun a' w' h1 h2 h3 => ⟨h1, h2, h3⟩)) ?_
    rintro a' w3 ⟨hF3, hb3, hk3⟩
    have HB3 := Lib.hid hb3
    have HK3 := Lib.hid (HK.out.trans hk3)
    obtain ⟨f, ⟨f0, f3, f4, f5, -⟩, rfl⟩ := hF3.open61
    simp only [f0, f3, f4, f5]
    clear f0 f3 f4 f5 hF3 hb3 hk3
    go_wp2_with fail
    exact Handed.intro (m - 1) (by have := HMR.out; omega) (HJ.out _ _ _ ⟨r + 1, by have := HMR.out; omega, ⟨rfl, rfl, by rw [← HQQ.out]; repeat (first | exact trivial | refine ⟨rfl, ?_⟩)⟩, HB3.out, HK3.out⟩)
  · obtain rfl : r = 9 := by have := HMR.out; omega
    go_wp2_with fail
    exact ⟨rfl, HQ.out _ _ ⟨rfl, rfl, by repeat (first | exact trivial | refine ⟨rfl, ?_⟩)⟩ HB.out HK.out⟩

set_option maxRecDepth 100000 in
set_option maxHeartbeats 8000000 in
theorem aTurnC : ATurnC := by
  intro w P g n k b hKK hA hn hk hb
  obtain ⟨hPg, hKB⟩ := hKK
  obtain ⟨D, hD⟩ : ∃ D, D = (b.map (Value.int .u8)).toArray := ⟨_, rfl⟩
  obtain ⟨F, hF⟩ : ∃ F, F = ((Aes.turn k b).map (Value.int .u8)).toArray := ⟨_, rfl⟩
  obtain ⟨Z, hZ, hZs, hZi⟩ := blk16
  have HZS := Lib.hid hZs
  have HZI := Lib.hid hZi
  have HD := Lib.hid hD
  have HF := Lib.hid hF
  have HKB := Lib.hid hKB
  have HA := Lib.hid hA
  have HL := Lib.hid (show g < w.heap.size ∧ P < w.heap.size from ⟨hA.lt, hKB.lt⟩)
  rw [arr_agg, arr_agg, ← hD, ← hF]
  clear hZ hZs hZi hD hF hKB hA
  go_enter Try.func15, Try.ntmps15
  go_upto_region 1 with (first
    | (have _q := HB1; refine wl_alloc_rowZ rfl _ rfl Z 16 HZI.out ?_; intro w2 hB2 hk2 hz2; have HB2 := Lib.hid hB2; have HK2 := Lib.hid hk2; clear hB2 hk2 hz2)
    | (refine wl_box rfl _ _ rfl D rfl ?_; intro w1 hB1 hk1 hz1; have HB1 := Lib.hid hB1; have HK1 := Lib.hid hk1; clear hB1 hk1 hz1))
  obtain ⟨B, hB⟩ : ∃ B, B = w.heap.size := ⟨_, rfl⟩
  obtain ⟨C, hC⟩ : ∃ C, C = w1.heap.size := ⟨_, rfl⟩
  have HN := Lib.hid (show B ≠ g ∧ B ≠ P ∧ C ≠ g ∧ C ≠ B ∧ w.heap.size ≤ B ∧ w.heap.size ≤ C by
    have h1 := HB1.out.lt
    have h3 := HL.out
    have h4 := HK1.out.size
    omega)
  have HBB := Lib.hid (show Blk w2 B 29 D by rw [hB]; exact HB1.out.keep HK2.out (by simp))
  have HBC := Lib.hid (show Blk w2 C 29 Z by rw [hC]; exact HB2.out)
  have HK := Lib.hid (show Keep [g] w w2 from (HK1.out.trans HK2.out).more0)
  have HP2 := Lib.hid ((HKB.out.keep HK1.out (by simp)).keep HK2.out (by simp))
  have HA2 := Lib.hid ((HA.out.keep HK1.out (by simp)).keep HK2.out (by simp))
  have c0 : w2.cell? ⟨P, 0, none⟩ = some (.pointer (some ⟨g, 0, none⟩)) := by rw [HP2.out.cell]; rfl
  rw [← hB, ← hC]
  clear hB hC HB1 HB2 HK1 HK2 _q HKB HA
  go_upto_region 3 with fail
  obtain ⟨pre0, post0, hsp0, hpre0⟩ := kcs5_split g k hk.1 0 (by decide)
  obtain ⟨pre1, post1, hsp1, hpre1⟩ := kcs5_split g k hk.1 10 (by decide)
  have HP20 := Lib.hid (show Blk w2 P 62 (pre0 ++ ((Aes.rk k 0).map (Value.int .u8) ++ post0)).toArray by rw [← hsp0]; exact HP2.out)
  have C1 := Lib.hid (fun W => asum_any b (Aes.rk k 0) hb (rk_b16 hk 0) W)
  simp only [arr_agg] at C1
  rw [← HD.out] at C1
  have HT0 := trs_b16 hk hb 0
  have HT9 := trs_b16 hk hb 9
  have HDS := Lib.hid (show D.size = 16 by rw [HD.out]; simp [hb.1])
  have HFS := Lib.hid (show F.size = 16 by rw [HF.out]; simp [Aes.turn_length])
  have HF1 := Lib.hid (show F.all (·.oneCell') = true by rw [HF.out]; exact arr_cell _)
  have HSP1 := Lib.hid hsp1
  have HPR0 := Lib.hid hpre0
  have HPR1 := Lib.hid hpre1
  clear hsp0 hsp1 hpre0 hpre1 c0
  refine OutN.use (turn_reg3 (fun a' w' => Fr 61 [(0, .pointer (some ⟨P, 0, none⟩)), (3, .pointer (some ⟨B, 0, none⟩)), (4, .pointer (some ⟨C, 0, none⟩))] a' ∧ Blk w' B 29 ((trs k b 0).map (Value.int .u8)).toArray ∧ Keep [B] w2 w') _ w2 P B C D ((trs k b 0).map (Value.int .u8)).toArray ((Aes.rk k 0).map (Value.int .u8)).toArray pre0 ((Aes.rk k 0).map (Value.int .u8)) post0 HDS (Lib.hid (by simp [HT0.1])) (Lib.hid (arr_cell _)) (Lib.hid rfl) (Lib.hid (by simp [(rk_b16 hk 0).1])) HBB HP20 HPR0 C1
      ⟨rfl, rfl, by repeat (first | exact trivial | refine ⟨rfl, ?_⟩)⟩ (Lib.hid fun a' w' h1 h2 h3 => ⟨h1, h2, h3⟩)) ?_
  rintro a' w3 ⟨hF3, hb3, hk3⟩
  have HB3 := Lib.hid hb3
  have HK3 := Lib.hid hk3
  have HA3 := Lib.hid (HA2.out.keep hk3 (by have := HN.out.1; simp; omega))
  have HP3 := Lib.hid (HP2.out.keep hk3 (by have := HN.out.2.1; simp; omega))
  obtain ⟨f, ⟨f0, f3, f4, -⟩, rfl⟩ := hF3.open61
  simp only [f0, f3, f4]
  clear f0 f3 f4 hF3 hb3 hk3
  go_upto_block 0 with fail
  go_wp2_with fail
  refine OutX.use (turn_loop (fun a' w' => Fr 61 [(0, .pointer (some ⟨P, 0, none⟩)), (3, .pointer (some ⟨B, 0, none⟩)), (4, .pointer (some ⟨C, 0, none⟩))] a' ∧ Blk w' B 29 ((trs k b 9).map (Value.int .u8)).toArray ∧ Keep [B] w3 w') _ w3 g P B C n k b hk hb (Lib.hid ⟨HN.out.1, HN.out.2.1⟩) HA3 HP3 HB3
    ⟨rfl, rfl, by repeat (first | exact trivial | refine ⟨rfl, ?_⟩)⟩ (fun a' w' h1 h2 h3 => ⟨h1, h2, h3⟩)) ?_
  rintro a' w4 ⟨hF4, hb4, hk4⟩
  have HB4 := Lib.hid hb4
  have HK4 := Lib.hid (HK3.out.trans hk4)
  have HA4 := Lib.hid (HA3.out.keep hk4 (by have := HN.out.1; simp; omega))
  have HP4 := Lib.hid (show Blk w4 P 62 (pre1 ++ ((Aes.rk k 10).map (Value.int .u8) ++ post1)).toArray by rw [← HSP1.out]; exact HP3.out.keep hk4 (by have := HN.out.2.1; simp; omega))
  have LP : ∀ W, Blk W P 62 (pre1 ++ ((Aes.rk k 10).map (Value.int .u8) ++ post1)).toArray → (loadVar 23 ⟨P, 0, none⟩).run Try.prog W = .ok (.pointer (some ⟨g, 0, none⟩)) W := fun W h => by
    rw [← HSP1.out] at h
    exact run_loadTab (by rw [h.cell]; rfl)
  have D0 := Lib.hid (fun W (h : AT W g n) => aexch_any (trs k b 9) HT9 W g n h)
  have D2 := Lib.hid (fun W => asum_any (Aes.sub (trs k b 9)) (Aes.rk k 10) (sub_b16 _) (rk_b16 hk 10) W)
  rw [← turn_trs hk b] at D2
  simp only [arr_agg] at D2
  rw [← HF.out] at D2
  obtain ⟨f, ⟨f0, f3, f4, -⟩, rfl⟩ := hF4.open61
  simp only [f0, f3, f4]
  clear f0 f3 f4 hF4 hb4 hk4
  go_upto_region 8 with fail
  refine OutN.use (turn_reg8 (fun a' w' => Fr 61 [(0, .pointer (some ⟨P, 0, none⟩)), (3, .pointer (some ⟨B, 0, none⟩)), (4, .pointer (some ⟨C, 0, none⟩))] a' ∧ Blk w' B 29 F ∧ Keep [B] w4 w') _ w4 P B C _ F ((Aes.rk k 10).map (Value.int .u8)).toArray pre1 ((Aes.rk k 10).map (Value.int .u8)) post1 (Lib.hid (by simp [HT9.1])) HFS HF1 (Lib.hid rfl) (Lib.hid (by simp [(rk_b16 hk 10).1])) HB4 HP4 g n _ HPR1
      (Lib.hid fun W h => HA4.out.keep h (by simp)) LP D0 D2
      ⟨rfl, rfl, by repeat (first | exact trivial | refine ⟨rfl, ?_⟩)⟩ (Lib.hid fun a' w' h1 h2 h3 => ⟨h1, h2, h3⟩)) ?_
  rintro a' w5 ⟨hF5, hb5, hk5⟩
  have HB5 := Lib.hid hb5
  have HK5 := Lib.hid (HK4.out.trans hk5)
  have HA5 := Lib.hid (HA4.out.keep hk5 (by have := HN.out.1; simp; omega))
  have HP5 := Lib.hid (HP4.out.keep hk5 (by have := HN.out.2.1; simp; omega))
  have HC5 := Lib.hid (HBC.out.keep HK5.out (by have := HN.out.2.2.2.1; simp; omega))
  have c0 : w5.cell? ⟨P, 0, none⟩ = some (.pointer (some ⟨g, 0, none⟩)) := by
    have h := HP5.out
    rw [← HSP1.out] at h
    rw [h.cell]; rfl
  have cn : w5.cell? ⟨g, 259, none⟩ = some (.int .i64 (n : Int)) := by
    rw [show w5.cell? ⟨g, 259, none⟩ = _ from Blk.cell HA5.out 259]; exact tcs5_last _ _ _ _ (by simp [boxes])
  have fz : w5.frozen? ⟨g, 259, none⟩ = false := Blk.frozen HA5.out 259
  have hwr : IntKind.i64.wrap ((n : Int) + 1) = ((n + 1 : Nat) : Int) := by
    rw [IntWalk.i64_in _ ⟨by omega, by omega⟩]; omega
  have hadd := run_call_add (P := Try.prog) Try.func33 (by kernel_rfl) (by kernel_rfl) (by kernel_rfl) .i64 (by kernel_rfl) (y := 1) (s := ((n + 1 : Nat) : Int)) cn fz (by simp [go_sem, hwr])
  obtain ⟨f, ⟨f0, f3, f4, -⟩, rfl⟩ := hF5.open61
  simp only [f0, f3, f4]
  clear f0 f3 f4 hF5 hb5 hk5
  go_upto_region 10 with (go_at_call 25; go_in)
  obtain ⟨w6, hw6⟩ : ∃ w6, w6 = w5.setCell ⟨g, 259, none⟩ (.int .i64 ((n : Int) + 1)) := ⟨_, rfl⟩
  rw [← hw6]
  have HA6 := Lib.hid (show AT w6 g (n + 1) by
    have h := Blk.set_ HA5.out 259 (.int .i64 ((n : Int) + 1))
    rw [tcs5_setLast _ _ _ _ _ (by simp [boxes]), ← hw6] at h
    exact h)
  have HK6 := Lib.hid (show Keep [g] w5 w6 by rw [hw6]; exact (Keep.refl _ _).setCell (.inl (by simp)) _)
  clear hw6 cn fz hwr hadd c0
  have HB6 := Lib.hid (HB5.out.keep HK6.out (by have := HN.out.1; simp; omega))
  have HC6 := Lib.hid (HC5.out.keep HK6.out (by have := HN.out.2.2.1; simp; omega))
  go_wp2_with (first
    | (refine wl_load_row rfl _ _ rfl B rfl 16 5 Try.underlying29 _ F HB6.out (by rw [HFS.out]; exact blkCells) ?_)
    | (refine wl_store_row rfl _ _ _ rfl C rfl F rfl _ _ HC6.out (by rw [HFS.out]; exact blkCells) (by rw [HFS.out]; exact HZS.out) HF1.out ?_; intro w7 hB7 hk7 hz7))
  (try simp only [Exit.inBlock, Exit.then])
  refine bodyPost_ret (v := .agg F) ?_ rfl ?_
  · refine results_cell_row Try.results15 _ w7 C 29 F (0, 0) _ ?_ hB7 Try.underlying29 rfl ?_
    · rfl
    · rw [HFS.out]; exact blkCells
  · have hN := HN.out
    exact ⟨rfl, HA6.out.keep hk7 (by simp; omega), ((HK.out.trans' HK5.out (fun q hq => by right; simp at hq; omega)).trans HK6.out).trans' hk7 (fun q hq => by right; simp at hq; omega)⟩

set_option maxRecDepth 100000 in
theorem aNilC : ANilC := by
  intro w k b x hk hb
  obtain ⟨D, hD⟩ : ∃ D, D = (k.map (Value.int .u8)).toArray := ⟨_, rfl⟩
  obtain ⟨E, hE⟩ : ∃ E, E = (b.map (Value.int .u8)).toArray := ⟨_, rfl⟩
  obtain ⟨Z, hZ, hZs, hZi⟩ := blk16
  obtain ⟨Z', hZ', hZb⟩ := blk16B
  obtain rfl : Z' = Z := by rw [hZ', hZ]
  have HZS := Lib.hid hZs
  have HZI := Lib.hid hZi
  have HB := Lib.hid hZb
  have HZ := Lib.hid hZ
  have HONE := Lib.hid (show Z'.all (·.oneCell') = true by rw [hZ]; simp [Value.oneCell'])
  rw [arr_agg, arr_agg, arr_agg, ← hD, ← hE, show ((List.replicate 16 (0 : Int)).map (Value.int .u8)).toArray = Z' by rw [hZ]; simp]
  clear hZ hZs hZi hZ' hZb hD hE
  refine ⟨?_, ?_, ?_, ?_⟩
  · go_enter Try.func14, Try.ntmps14
    go_wp2_with (refine wl_box rfl _ _ rfl D rfl ?_; intro w1 hB1 hk1 hz1)
    go_ret
    exact ⟨rfl, hk1⟩
  · go_enter Try.func11, Try.ntmps11
    go_wp2_with fail
    go_ret
    exact ⟨rfl, Keep.refl _ _⟩
  · go_enter Try.func17, Try.ntmps17
    go_wp2_with fail
    go_ret
    exact ⟨rfl, Keep.refl _ _⟩
  · go_enter Try.func15, Try.ntmps15
    go_wp2_with (first
      | (have _q := HB1; refine wl_alloc_rowZ rfl _ rfl Z' 16 HZI.out ?_; intro w2 hB2 hk2 hz2; have HB2 := Lib.hid hB2; have HK2 := Lib.hid hk2; clear hB2 hk2 hz2)
      | (refine wl_box rfl _ _ rfl E rfl ?_; intro w1 hB1 hk1 hz1; have HB1 := Lib.hid hB1; have HK1 := Lib.hid hk1; clear hB1 hk1 hz1)
      | (refine wl_build rfl _ _ rfl Z' [] (by simp) HB.out ?_)
      | (refine wl_store_row rfl _ _ _ rfl w1.heap.size rfl Z' rfl _ _ HB2.out (by rw [HZS.out]; exact blkCells) rfl HONE.out ?_; intro w3 hB3 hk3 hz3; have HB3 := Lib.hid hB3; have HK3 := Lib.hid hk3; clear hB3 hk3 hz3))
    (try simp only [Exit.inBlock, Exit.then])
    refine bodyPost_ret (v := .agg Z') ?_ rfl ?_
    · refine results_cell_row Try.results15 _ w3 w1.heap.size 29 Z' (0, 0) _ ?_ HB3.out Try.underlying29 rfl ?_
      · rfl
      · rw [HZS.out]; exact blkCells
    · refine ⟨rfl, (HK1.out.trans HK2.out).trans' HK3.out (fun q hq => by right; have := HK1.out.size; simp at hq; omega)⟩

/-- AesFields: true for every input. -/
theorem aesFields_walk (a b c : Int) (w : World) (ha : (Lit.int .u8 a).wf = true) (hb : (Lit.int .u8 b).wf = true) (hc : (Lit.int .u8 c).wf = true) :
    Calls Try.prog 3 #[.int .u8 a, .int .u8 b, .int .u8 c] w fun e w' => e = .returned (.bool true) ∧ Keep [] w w' :=
  aesFields_any anewC aKeyC aTurnC aTimesC aBoxC a b c w ha hb hc
theorem aesTurns_walk (kl bl : List Int) (w : World) (hkl : B16 kl) (hbl : B16 bl) :
    Calls Try.prog 4 #[arr kl, arr bl] w fun e w' => e = .returned (.bool true) ∧ Keep [] w w' :=
  aesTurns_any anewC aKeyC aTurnC kl bl w hkl hbl
theorem aesBoxes_walk (a : Int) (w : World) (ha : (Lit.int .u8 a).wf = true) :
    Calls Try.prog 5 #[.int .u8 a] w fun e w' => e = .returned (.bool true) ∧ Keep [] w w' :=
  aesBoxes_any anewC aKeyC aTurnC aBoxC a w ha
theorem aesCounts_walk (kl al bl : List Int) (many : Int) (w : World) (hkl : B16 kl) (hal : B16 al) (hbl : B16 bl) (hm : (Lit.int .u8 many).wf = true) :
    Calls Try.prog 6 #[arr kl, arr al, arr bl, .int .u8 many] w fun e w' => e = .returned (.bool true) ∧ Keep [] w w' :=
  aesCounts_any anewC aKeyC aTurnC aTurnedC aNilC kl al bl many w hkl hal hbl hm
end Go.Proofs.Ytpjkicbfdknjcaa
