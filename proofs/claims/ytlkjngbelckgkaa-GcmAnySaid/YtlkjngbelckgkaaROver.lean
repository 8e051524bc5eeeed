/-
  The document's field of 2^128: bytes gone over: the drawn region.
  The document's field of 2^128: bytes gone over.
  The document's field of 2^128: bytes gone over, whole.
-/
import Derived.Test.YtlkjngbelckgkaaRProd
namespace Go.Proofs.Ytlkjngbelckgkaa
open Go.RowKit

noncomputable def hov8 : Code := regionOf Try.f19 8
set_option maxRecDepth 100000 in
set_option maxHeartbeats 4000000 in
theorem ov_reg8 (R : Act → World → Prop) (a : Act) (w2 : World) (v0 : Value) (gb ob lb cb G c8 t j x y : Nat) (hx : x < 256) (hy : y < 256) (hj : j < 16) (htj : t + j < lb) (hlb : lb ≤ 1000000)
    (hcx : Hid (w2.cell? ⟨G, j, none⟩ = some (.int .u8 (x : Int)))) (hcy : Hid (w2.cell? ⟨gb, ob + (t + j), none⟩ = some (.int .u8 (y : Int)))) (hfG : Hid (∀ W : World, Keep [] w2 W → W.frozen? ⟨G, j, none⟩ = false))
    (hF : Fr 49 [(0, v0), (2, .slice (some ⟨gb, ob, none⟩) lb cb), (7, .int .i64 t), (8, .slice (some ⟨G, 0, none⟩) 16 c8), (9, .int .i64 j)] a)
    (hR : Hid (∀ a' W, Fr 49 [(0, v0), (2, .slice (some ⟨gb, ob, none⟩) lb cb), (7, .int .i64 t), (8, .slice (some ⟨G, 0, none⟩) 16 c8), (9, .int .i64 j)] a' → Keep [] w2 W → R a' (W.setCell ⟨G, j, none⟩ (.int .u8 ((x ^^^ y : Nat) : Int))))) :
    Code.wp Try.prog hov8 (OutN R) a w2 := by
  have X := u8_xor_nat x y hx hy
  have LX : ∀ W, Keep [] w2 W → W.cell? ⟨G, j, none⟩ = some (.int .u8 (x : Int)) := fun W hk => (hk.cell (World.block_lt_of_cell? _ _ hcx.out) (by simp)).trans hcx.out
  have LY : ∀ W, Keep [] w2 W → W.cell? ⟨gb, ob + (t + j), none⟩ = some (.int .u8 (y : Int)) := fun W hk => (hk.cell (World.block_lt_of_cell? _ _ hcy.out) (by simp)).trans hcy.out
  have bj : (0 : Int) ≤ (j : Int) ∧ (j : Int) < 16 := ⟨by omega, by omega⟩
  have w1 : IntKind.i64.wrap ((t : Int) + j) = (t : Int) + j := IntWalk.i64_in _ ⟨by omega, by omega⟩
  have e1 : ((t : Int) + (j : Int)).toNat = t + j := by omega
  have b1 : (0 : Int) ≤ (t : Int) + j ∧ (t : Int) + j < lb := ⟨by omega, by omega⟩
  obtain ⟨f, ⟨f0, f2, f7, f8, f9, -⟩, rfl⟩ := hF.open49
  simp only [f0, f2, f7, f8, f9]
  clear f0 f2 f7 f8 f9 hF
  conv => arg 2; whnf
  refine wp_region_any (by kernel_rfl) ?_
  change wpAny _ _ _ _ _ _ _ (World.drew _)
  obtain ⟨W0, hW0⟩ : ∃ W0, W0 = w2.drew := ⟨_, rfl⟩
  rw [← hW0]
  have hk0 : Keep [] w2 W0 := by rw [hW0]; exact (Keep.refl [] w2).drew
  clear hW0
  go_simp
  refine wpAny_take (i := 0) (v := ?_) rfl (by kernel_rfl) (by kernel_rfl) (by kernel_rfl) (fun _ _ _ h => h) (Or.inl ⟨by rfl, ?_⟩) ?_
  rotate_left
  · intro y; go_simp; try (with_reducible rfl)
  rotate_left
  go_simp
  refine wpAny_take (i := 1) (v := ?_) rfl (by kernel_rfl) (by kernel_rfl) (by kernel_rfl) (fun _ _ _ h => h) (Or.inl ⟨by rfl, ?_⟩) ?_
  rotate_left
  · intro y; go_simp; try (with_reducible rfl)
  rotate_left
  go_simp
  refine wpAny_take (i := 2) (v := ?_) rfl (by kernel_rfl) (by kernel_rfl) (by kernel_rfl) (fun _ _ _ h => h) (Or.inl ⟨by rfl, ?_⟩) ?_
  rotate_left
  · intro y; go_simp; try (with_reducible rfl)
  rotate_left
  go_simp
  refine wpAny_take (i := 3) (v := ?_) rfl (by kernel_rfl) (by kernel_rfl) (by kernel_rfl) (fun _ _ _ h => h) (Or.inl ⟨by rfl, ?_⟩) ?_
  rotate_left
  · intro y; go_simp; try (with_reducible rfl)
  rotate_left
  go_simp
  refine wpAny_take (i := 4) (v := ?_) rfl (by kernel_rfl) (by kernel_rfl) (by kernel_rfl) (fun _ _ _ h => h) (Or.inl ⟨by rfl, ?_⟩) ?_
  rotate_left
  · intro y; go_simp; try (with_reducible rfl)
  rotate_left
  go_simp
  refine wpAny_take (i := 6) (v := ?_) rfl (by kernel_rfl) (by kernel_rfl) (by kernel_rfl) (fun _ _ _ h => h) (Or.inl ⟨by rfl, ?_⟩) ?_
  rotate_left
  · intro y; go_simp; try (with_reducible rfl)
  rotate_left
  go_simp
  refine wpAny_take (i := 7) (v := ?_) rfl (by kernel_rfl) (by kernel_rfl) (by kernel_rfl) (fun _ _ _ h => h) (Or.inl ⟨by rfl, ?_⟩) ?_
  rotate_left
  · intro y; go_simp; try (with_reducible rfl)
  rotate_left
  go_simp
  refine wpAny_take (i := 8) (v := ?_) rfl (by kernel_rfl) (by kernel_rfl) (by kernel_rfl) (fun _ _ _ h => h) (Or.inl ⟨by rfl, ?_⟩) ?_
  rotate_left
  · intro y; go_simp; try (with_reducible rfl)
  rotate_left
  go_simp
  refine wpAny_take (i := 9) (v := ?_) rfl (by kernel_rfl) (by kernel_rfl) (by kernel_rfl) (fun _ _ _ h => h) (Or.inl ⟨by rfl, ?_⟩) ?_
  rotate_left
  · intro y; go_simp; try (with_reducible rfl)
  rotate_left
  go_simp
  refine wpAny_take (i := 10) (v := ?_) rfl (by kernel_rfl) (by kernel_rfl) (by kernel_rfl) (fun _ _ _ h => h) (Or.inl ⟨by rfl, ?_⟩) ?_
  rotate_left
  · intro y; go_simp; try (with_reducible rfl)
  rotate_left
  go_simp
  refine wpAny_ready (rs := [5, 11]) (by kernel_rfl) (by simp) ?_
  refine AllReady.cons rfl (fun K hK => ?_) ?_
  ·
    apply step_wp
    · rfl
    have q := LX _ hk0
    refine ow_load1 _ _ rfl _ rfl (.int .u8 (x : Int)) (by simp [go_sem, q]) ?_
    clear q
    apply hK
    clear hK K
    go_simp
    refine wpAny_ready (rs := [11]) (by kernel_rfl) (by simp) ?_
    refine AllReady.cons rfl (fun K hK => ?_) ?_
    ·
      apply step_wp
      · rfl
      have q := LY _ hk0
      refine ow_load1 _ _ rfl _ rfl (.int .u8 (y : Int)) (by simp [go_sem, q]) ?_
      clear q
      apply hK
      clear hK K
      go_simp
      refine wpAny_take (i := 12) (v := ?_) rfl (by kernel_rfl) (by kernel_rfl) (by kernel_rfl) (fun _ _ _ h => h) (Or.inl ⟨by rfl, ?_⟩) ?_
      rotate_left
      · intro y; go_simp; try (with_reducible rfl)
      rotate_left
      go_simp
      refine wpAny_take (i := 13) (v := ?_) rfl (by kernel_rfl) (by kernel_rfl) (by kernel_rfl) (fun _ _ _ h => h) (Or.inl ⟨by rfl, ?_⟩) ?_
      rotate_left
      · intro y; go_simp; try (with_reducible rfl)
      rotate_left
      go_simp
      refine wpAny_ready (rs := [14]) (by kernel_rfl) (by simp) ?_
      refine AllReady.cons rfl (fun K hK => ?_) ?_
      ·
        apply step_wp
        · rfl
        refine ow_store1 _ _ _ rfl ⟨G, j, none⟩ (.int .u8 ((x ^^^ y : Nat) : Int)) rfl rfl (sto1 (LX _ hk0) (hfG.out _ hk0)) ?_
        apply hK
        clear hK K
        go_simp
        refine wpAny_done (by kernel_rfl) ?_ _
        exact hR.out _ _ ⟨rfl, rfl, by repeat (first | exact trivial | refine ⟨rfl, ?_⟩)⟩ hk0
      exact AllReady.nil
    exact AllReady.nil
  refine AllReady.cons rfl (fun K hK => ?_) ?_
  ·
    apply step_wp
    · rfl
    have q := LY _ hk0
    refine ow_load1 _ _ rfl _ rfl (.int .u8 (y : Int)) (by simp [go_sem, q]) ?_
    clear q
    apply hK
    clear hK K
    go_simp
    refine wpAny_ready (rs := [5]) (by kernel_rfl) (by simp) ?_
    refine AllReady.cons rfl (fun K hK => ?_) ?_
    ·
      apply step_wp
      · rfl
      have q := LX _ hk0
      refine ow_load1 _ _ rfl _ rfl (.int .u8 (x : Int)) (by simp [go_sem, q]) ?_
      clear q
      apply hK
      clear hK K
      go_simp
      refine wpAny_take (i := 12) (v := ?_) rfl (by kernel_rfl) (by kernel_rfl) (by kernel_rfl) (fun _ _ _ h => h) (Or.inl ⟨by rfl, ?_⟩) ?_
      rotate_left
      · intro y; go_simp; try (with_reducible rfl)
      rotate_left
      go_simp
      refine wpAny_take (i := 13) (v := ?_) rfl (by kernel_rfl) (by kernel_rfl) (by kernel_rfl) (fun _ _ _ h => h) (Or.inl ⟨by rfl, ?_⟩) ?_
      rotate_left
      · intro y; go_simp; try (with_reducible rfl)
      rotate_left
      go_simp
      refine wpAny_ready (rs := [14]) (by kernel_rfl) (by simp) ?_
      refine AllReady.cons rfl (fun K hK => ?_) ?_
      ·
        apply step_wp
        · rfl
        refine ow_store1 _ _ _ rfl ⟨G, j, none⟩ (.int .u8 ((x ^^^ y : Nat) : Int)) rfl rfl (sto1 (LX _ hk0) (hfG.out _ hk0)) ?_
        apply hK
        clear hK K
        go_simp
        refine wpAny_done (by kernel_rfl) ?_ _
        exact hR.out _ _ ⟨rfl, rfl, by repeat (first | exact trivial | refine ⟨rfl, ?_⟩)⟩ hk0
      exact AllReady.nil
    exact AllReady.nil
  exact AllReady.nil

noncomputable def hovI : Code := loopOf Try.f19 1
set_option maxRecDepth 100000 in
set_option maxHeartbeats 4000000 in
theorem ov_inner (R : Act → World → Prop) (a : Act) (w : World) (v0 : Value) (gb ob cb G c8 t : Nat) (e b : List Int) (he : e.length = 16) (hew : Hid (∀ x ∈ e, (Lit.int .u8 x).wf = true)) (hbw : Hid (∀ x ∈ b, (Lit.int .u8 x).wf = true)) (htb : t < b.length) (hlb : b.length ≤ 1000000)
    (hB : Hid (∀ W, Keep [G] w W → Sl .u8 W (.slice (some ⟨gb, ob, none⟩) b.length cb) b)) (hG : Hid (Row w G e))
    (hF : Fr 49 [(0, v0), (2, .slice (some ⟨gb, ob, none⟩) b.length cb), (7, .int .i64 t), (8, .slice (some ⟨G, 0, none⟩) 16 c8), (9, .int .i64 0)] a)
    (hQ : ∀ a' w', Fr 49 [(0, v0), (2, .slice (some ⟨gb, ob, none⟩) b.length cb), (7, .int .i64 t), (8, .slice (some ⟨G, 0, none⟩) 16 c8)] a' → Row w' G (Gcm.ovX e b t) → Keep [G] w w' → R a' w') :
    Code.wp Try.prog (.loop hovI) (OutX 2 R) a w := by
  obtain ⟨cnt, hcnt⟩ : ∃ cnt, cnt = min 16 (b.length - t) := ⟨_, rfl⟩
  have HCNT := Lib.hid hcnt
  refine wp_loop_ghost_k (fun m a wr => ∃ j : Nat, m + j = cnt ∧ Fr 49 [(0, v0), (2, .slice (some ⟨gb, ob, none⟩) b.length cb), (7, .int .i64 t), (8, .slice (some ⟨G, 0, none⟩) 16 c8), (9, .int .i64 j)] a ∧ Row wr G (upd (Gcm.ovAt e b t) e j) ∧ Keep [G] w wr)
    cnt ⟨0, by omega, hF, by rw [upd_zero]; exact hG.out, Keep.refl _ _⟩ ?_
  clear hF
  rintro m a wr ⟨j, hmj, hFr, hb, hk⟩ J K hJ hK1
  have HJ := Lib.hid hJ
  have HMJ := Lib.hid hmj
  have HR := Lib.hid hb
  have HK := Lib.hid hk
  have HQ := Lib.hid hQ
  obtain ⟨f, ⟨f0, f2, f7, f8, f9, -⟩, rfl⟩ := hFr.open49
  have w1 : IntKind.i64.wrap ((t : Int) + j) = (t : Int) + j := IntWalk.i64_in _ ⟨by omega, by omega⟩
  by_cases hlt : j < cnt
  · have hj16 : j < 16 := by omega
    have hjl : t + j < b.length := by omega
    have HCX := Lib.hid (show wr.cell? ⟨G, j, none⟩ = some (.int .u8 ((nb e j : Nat) : Int)) by
      rw [hb.cell j (by rw [upd_length _ _ _ (by omega)]; omega), upd_get _ _ _ _ (Nat.le_refl j), nb_int hew.out])
    have HCY := Lib.hid (sl_cell (hB.out wr hk) (t + j) hjl)
    have HFZ := Lib.hid (show ∀ W : World, Keep [] wr W → W.frozen? ⟨G, j, none⟩ = false from fun W h => fr_out HR.out h)
    have c1 : (j : Int) < 16 := by omega
    have c2 : (t : Int) + j < b.length := by omega
    simp only [f0, f2, f7, f8, f9]
    clear f0 f2 f7 f8 f9 hFr hJ hb hk hQ hmj hcnt
    conv => arg 2; whnf
    go_upto_region 8 with fail
    refine OutN.use (ov_reg8 (fun a' w' => ∃ W, w' = W.setCell ⟨G, j, none⟩ (.int .u8 ((nb e j ^^^ nb b (t + j) : Nat) : Int)) ∧ Fr 49 [(0, v0), (2, .slice (some ⟨gb, ob, none⟩) b.length cb), (7, .int .i64 t), (8, .slice (some ⟨G, 0, none⟩) 16 c8), (9, .int .i64 j)] a' ∧ Keep [] wr W) _ wr v0 gb ob b.length cb G c8 t j _ _ (nb_lt hew.out _) (nb_lt hbw.out _) hj16 hjl hlb HCX HCY HFZ
      ⟨rfl, rfl, by repeat (first | exact trivial | refine ⟨rfl, ?_⟩)⟩ (Lib.hid fun a' W h1 h2 => ⟨W, rfl, h1, h2⟩)) ?_
    rintro a' w3 ⟨W, rfl, hF3, hkW⟩
    have HR3 := Lib.hid ((HR.out.keep hkW (by simp)).upd (by omega) (v := ((nb e j ^^^ nb b (t + j) : Nat) : Int)) rfl)
    have HK3 := Lib.hid ((HK.out.trans0 hkW).cellset (List.mem_singleton.2 rfl) (G := G) (j := j) (.int .u8 ((nb e j ^^^ nb b (t + j) : Nat) : Int)))
    obtain ⟨f, ⟨f0, f2, f7, f8, f9, -⟩, rfl⟩ := hF3.open49
    obtain ⟨W', hW'⟩ : ∃ W', W' = W.setCell ⟨G, j, none⟩ (.int .u8 ((nb e j ^^^ nb b (t + j) : Nat) : Int)) := ⟨_, rfl⟩
    rw [← hW'] at HR3 HK3 ⊢
    simp only [f0, f2, f7, f8, f9]
    clear f0 f2 f7 f8 f9 hF3 hkW hW'
    go_wp2_with fail
    exact Handed.intro (m - 1) (by have := HMJ.out; omega) (HJ.out _ _ _ ⟨j + 1, by have := HMJ.out; omega, ⟨rfl, rfl, by repeat (first | exact trivial | refine ⟨rfl, ?_⟩)⟩, HR3.out, HK3.out⟩)
  · obtain rfl : j = cnt := by omega
    simp only [f0, f2, f7, f8, f9]
    clear f0 f2 f7 f8 f9 hFr hJ hb hk hQ hmj
    conv => arg 2; whnf
    by_cases hc : (j : Int) < 16
    · have c2 : ¬ (t : Int) + j < b.length := by omega
      go_wp2_with fail
      refine ⟨rfl, HQ.out _ _ ⟨rfl, rfl, by repeat (first | exact trivial | refine ⟨rfl, ?_⟩)⟩ ?_ HK.out⟩
      unfold Gcm.ovX
      rw [← HCNT.out]
      exact HR.out
    · go_wp2_with fail
      refine ⟨rfl, HQ.out _ _ ⟨rfl, rfl, by repeat (first | exact trivial | refine ⟨rfl, ?_⟩)⟩ ?_ HK.out⟩
      unfold Gcm.ovX
      rw [← HCNT.out]
      exact HR.out

theorem product_cells (a b : List Int) : cells8 (Gcm.outS (Gcm.reds (Gcm.rows a b 128) 127) 128) = ((Gcm.product a b).map (Value.int .u8)).toArray := by
  simp only [cells8, Gcm.product, List.map_map]
  rfl

noncomputable def hovO : Code := loopOf Try.f19 0
set_option maxRecDepth 100000 in
set_option maxHeartbeats 8000000 in
theorem ov_outer (R : Act → World → Prop) (a : Act) (w0 w : World) (hv v1 : Value) (bA : Option Addr) (cb : Nat) (h e b : List Int) (hh : Hid (Sl .u8 w0 hv h)) (hhl : Hid (h.length = 16)) (hel : Hid (e.length = 16)) (hew : Hid (∀ x ∈ e, (Lit.int .u8 x).wf = true)) (hlb : b.length ≤ 1000000)
    (hb : Hid (Sl .u8 w0 (.slice bA b.length cb) b)) (he : Hid (Sl .u8 w v1 e)) (hk : Hid (Keep [] w0 w))
    (hF : Fr 49 [(0, hv), (1, v1), (2, .slice bA b.length cb), (7, .int .i64 0)] a)
    (hQ : ∀ a' w' v', Fr 49 [(1, v')] a' → Sl .u8 w' v' (Gcm.over h e b) → (0 < b.length → ∀ q, v'.ownBlock = some q → w0.heap.size ≤ q) → Keep [] w0 w' → R a' w') :
    Code.wp Try.prog (.loop hovO) (OutX 0 R) a w := by
  obtain ⟨cnt, hcnt⟩ : ∃ cnt, cnt = (b.length + 15) / 16 := ⟨_, rfl⟩
  have HCNT := Lib.hid hcnt
  refine wp_loop_ghost_k (fun m a wr => ∃ (n : Nat) (v : Value), m + n = cnt ∧ Fr 49 [(0, hv), (1, v), (2, .slice bA b.length cb), (7, .int .i64 ((16 * n : Nat) : Int))] a ∧ Sl .u8 wr v (Gcm.ovL h e b n) ∧ (0 < n → ∀ q, v.ownBlock = some q → w0.heap.size ≤ q) ∧ Keep [] w0 wr)
    cnt ⟨0, v1, by omega, hF, he.out, fun h => absurd h (by omega), hk.out⟩ ?_
  clear hF he hk
  rintro m a wr ⟨n, v, hmn, hFr, hs, hnew, hk⟩ J K hJ hK1
  have HJ := Lib.hid hJ
  have HMN := Lib.hid hmn
  have HQ := Lib.hid hQ
  have HS := Lib.hid hs
  have HNW := Lib.hid hnew
  clear hnew
  have HK := Lib.hid hk
  obtain ⟨t, ht⟩ : ∃ t, t = 16 * n := ⟨_, rfl⟩
  obtain ⟨f, ⟨f0, f1, f2, f7, -⟩, rfl⟩ := hFr.open49
  rw [← ht] at f7
  have HT := Lib.hid ht
  obtain ⟨cur, hcur⟩ : ∃ cur, cur = Gcm.ovL h e b n := ⟨_, rfl⟩
  have HCL := Lib.hid (show cur.length = 16 by rw [hcur]; exact Gcm.ovL_length h e b hel.out n)
  have HCW := Lib.hid (show ∀ x ∈ cur, (Lit.int .u8 x).wf = true by rw [hcur]; exact Gcm.ovL_wf h e b hew.out n)
  have HCUR := Lib.hid hcur
  rw [← hcur] at HS
  by_cases hlt : t < b.length
  · obtain ⟨gb, ob, cb', hbe, -, -, -⟩ := hb.out.cells (by omega)
    injection hbe with e1 e2 e3
    subst e1
    subst e3
    clear e2
    have hw16 : IntKind.i64.wrap ((t : Int) + 16) = (t : Int) + 16 := IntWalk.i64_in _ ⟨by omega, by omega⟩
    have c1 : (t : Int) < b.length := by omega
    obtain ⟨sA, sc, hve, hsc1, hsc2, hrd, -⟩ := HS.out
    have HRD := Lib.hid hrd
    subst hve
    clear hrd
    rw [HCL.out] at hsc1 f1
    have HR1 : Hid (Rd (wr.alloc (.cells #[] 5)) sA (cur.map (Value.int .u8))) := Lib.hid (HRD.out.keep0 ((Keep.refl [] wr).alloc _))
    simp only [f0, f1, f2, f7]
    clear f0 f1 f2 f7 hFr hJ hs hk hQ hmn ht hcur
    conv => arg 2; whnf
    go_upto_block 2 with (first
      | (at_builtin
         refine wl_append _ rfl _ _ _ rfl wr.heap.size 5 (.int .u8 0) 1 1 Try.underlying26 u8infB rfl (by decide) (.slice (some ⟨wr.heap.size, 0, Option.none⟩) 0 0) 0 [] rfl (own_of_blk (Blk.new wr _ _) rfl (Nat.le_refl _) (by omega) rfl) sA 16 sc (cur.map (Value.int .u8)) rfl (by rw [List.length_map, HCL.out]) HR1.out (ints_one _ _) (by simp only [maxLen]; omega) (by omega) (by simp) ?_
         intro x2 w2 ho2 hk2 hat2
         simp only [Nat.zero_add, List.nil_append] at ho2
         have HX2 := Lib.hid ho2
         have HK2 := Lib.hid (show Keep [] wr w2 from ((Keep.refl [] wr).alloc (.cells #[] 5)).trans' hk2 (by intro y hy; right; simp [Value.ownBlock] at hy; omega))
         clear ho2 hk2 hat2))
    obtain ⟨G, c8, rfl, hG1, hG2⟩ := own_some HX2.out (by decide)
    have hcap := HX2.out
    have hc8 : 16 ≤ c8 ∧ c8 ≤ 9223372036854775807 := by
      rcases hcap.2 with ⟨hv, h0⟩ | ⟨g', cap, cu, hv, hb', hh, hn, hm, hs', ht⟩
      · omega
      · simp only [Value.slice.injEq] at hv
        simp only [maxLen] at hm
        omega
    have HC8 := Lib.hid hc8
    have HRG := Lib.hid (Row.of_own HX2.out)
    have HK02 := Lib.hid (HK.out.trans HK2.out)
    have HG0 := Lib.hid (show w0.heap.size ≤ G by have := HK.out.size; omega)
    have HBB := Lib.hid (show ∀ W, Keep [G] w2 W → Sl .u8 W (.slice (some ⟨gb, ob, none⟩) b.length cb) b from fun W h => hb.out.keep0 (HK02.out.trans' h (fun x hx => by right; have := HG0.out; simp at hx; omega)))
    clear hG1 hG2 hcap hc8
    go_wp2_with fail
    refine OutX.use (ov_inner (fun a' w' => Fr 49 [(0, hv), (2, .slice (some ⟨gb, ob, none⟩) b.length cb), (7, .int .i64 t), (8, .slice (some ⟨G, 0, none⟩) 16 c8)] a' ∧ Row w' G (Gcm.ovX cur b t) ∧ Keep [G] w2 w') _ w2 hv gb ob cb G c8 t cur b HCL.out HCW (Lib.hid hb.out.wf) hlt hlb HBB HRG
      ⟨rfl, rfl, by repeat (first | exact trivial | refine ⟨rfl, ?_⟩)⟩ (fun a' w' h1 h2 h3 => ⟨h1, h2, h3⟩)) ?_
    rintro a' w3 ⟨hF3, hR3, hk3⟩
    have hXl : (Gcm.ovX cur b t).length = 16 := by unfold Gcm.ovX; rw [upd_length _ _ _ (by rw [HCL.out]; omega)]; exact HCL.out
    have HK3 := Lib.hid (HK02.out.trans' hk3 (fun x hx => by right; have := HG0.out; simp at hx; omega))
    have hS3 : Sl .u8 w3 (.slice (some ⟨G, 0, none⟩) 16 c8) (Gcm.ovX cur b t) := by
      have h := hR3.sl (c := c8) (upd_wf _ _ _ (fun i => Gcm.ovAt_wf HCW.out hb.out.wf t i) HCW.out) (by rw [hXl]; exact HC8.out.1) HC8.out.2
      rwa [hXl] at h
    have HPR := Lib.hid (rproduct_any _ _ _ _ w3 hS3 (hh.out.keep0 HK3.out) hXl hhl.out)
    obtain ⟨f, ⟨f0, f2, f7, f8, -⟩, rfl⟩ := hF3.open49
    simp only [f0, f2, f7, f8]
    clear f0 f2 f7 f8 hF3 hR3 hk3 hS3
    go_wp2_with (first | (go_at_call 36; with_reducible refine HPR.out.mono ?_; rintro e4 w4 ⟨g4, rfl, hg4, hB4, hk4⟩; have HB4 := Lib.hid hB4; have HK4 := Lib.hid (HK3.out.trans hk4); have HG4 := Lib.hid (show w0.heap.size ≤ g4 from Nat.le_trans HK3.out.size hg4); clear hB4 hk4 hg4))
    have HNQ : ∀ q, (Value.slice (some ⟨g4, 0, none⟩) 16 16).ownBlock = some q → w0.heap.size ≤ q := fun q hq => by
      have h2 : g4 = q := by simpa [Value.ownBlock] using hq
      rw [← h2]; exact HG4.out
    refine Handed.intro (m - 1) (by have := HMN.out; have := HT.out; have := HCNT.out; omega) (HJ.out _ _ _ ⟨n + 1, _, by have := HMN.out; have := HT.out; have := HCNT.out; omega, ⟨rfl, rfl, rfl, rfl, rfl, ?_, trivial⟩, ?_, fun _ q hq => HNQ q hq, HK4.out⟩)
    · show Value.int .i64 _ = Value.int .i64 _
      congr 1
      have := HT.out
      omega
    · have e : Gcm.ovL h e b (n + 1) = Gcm.product (Gcm.ovX cur b t) h := by rw [Gcm.ovL, ← HCUR.out, ← HT.out]
      rw [e]
      have hB4 := HB4.out
      rw [product_cells] at hB4
      exact Sl.of_blk hB4 (product_length _ _) (by decide) (product_wf _ _)
  · obtain rfl : n = cnt := by omega
    have c1 : ¬ (t : Int) < b.length := by omega
    simp only [f0, f1, f2, f7]
    clear f0 f1 f2 f7 hFr hJ hs hk hQ hmn ht hcur
    conv => arg 2; whnf
    go_wp2_with fail
    refine ⟨rfl, HQ.out _ _ _ ⟨rfl, rfl, by repeat (first | exact trivial | refine ⟨rfl, ?_⟩)⟩ ?_ (fun h => HNW.out (by have := HCNT.out; omega)) HK.out⟩
    unfold Gcm.over
    rw [← HCNT.out, ← HCUR.out]
    exact HS.out

set_option maxRecDepth 100000 in
set_option maxHeartbeats 4000000 in
theorem rover_any (hv ev bv : Value) (h e b : List Int) (w : World) (hh : Sl .u8 w hv h) (he : Sl .u8 w ev e) (hb : Sl .u8 w bv b) (hhl : h.length = 16) (hel : e.length = 16) (hlb : b.length ≤ 1000000) :
    Calls Try.prog 19 #[hv, ev, bv] w fun x w' => ∃ v', x = .returned v' ∧ Sl .u8 w' v' (Gcm.over h e b) ∧ (0 < b.length → ∀ q, v'.ownBlock = some q → w.heap.size ≤ q) ∧ Keep [] w w' := by
  have HH := Lib.hid hh
  have HE := Lib.hid he
  have HB := Lib.hid hb
  obtain ⟨bA, cb, rfl, -, -, -, -⟩ := hb
  have HHL := Lib.hid hhl
  have HEL := Lib.hid hel
  clear hh he hhl hel
  go_enter Try.func19, Try.ntmps19
  go_upto_block 0 with fail
  go_wp2_with fail
  refine OutX.use (ov_outer (fun a' w' => ∃ v', Fr 49 [(1, v')] a' ∧ Sl .u8 w' v' (Gcm.over h e b) ∧ (0 < b.length → ∀ q, v'.ownBlock = some q → w.heap.size ≤ q) ∧ Keep [] w w') _ w w hv ev bA cb h e b HH HHL HEL (Lib.hid HE.out.wf) hlb HB HE (Lib.hid (Keep.refl _ _))
    ⟨rfl, rfl, by repeat (first | exact trivial | refine ⟨rfl, ?_⟩)⟩ (fun a' w' v' h1 h2 h3 h4 => ⟨v', h1, h2, h3, h4⟩)) ?_
  rintro a' w2 ⟨v', hF, hS, hnw, hk2⟩
  have HNW := Lib.hid hnw
  clear hnw
  have HS := Lib.hid hS
  have HK2 := Lib.hid hk2
  obtain ⟨f, ⟨f1, -⟩, rfl⟩ := hF.open49
  simp only [f1]
  clear f1 hF hS hk2
  go_wp2_with fail
  go_ret
  exact ⟨_, rfl, HS.out, HNW.out, HK2.out⟩
end Go.Proofs.Ytlkjngbelckgkaa
