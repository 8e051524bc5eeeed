/-
  The document's round keys: its drawn regions.
-/
import Derived.Test.YtpjkicbfdknjcaaRAes3
import Derived.Test.YtpjkicbfdknjcaaOpens5
namespace Go.Proofs.Ytpjkicbfdknjcaa
open Go.RowKit

theorem wf_i64' (x : Int) (h0 : -1000000 ≤ x) (h1 : x ≤ 1000000) : IntKind.i64.wrap x = x := IntWalk.i64_in _ ⟨by omega, by omega⟩
theorem sl_cell {w : World} {g off L c : Nat} {l : List Int} (h : Sl .u8 w (.slice (some ⟨g, off, none⟩) L c) l) (j : Nat) (hj : j < l.length) : w.cell? ⟨g, off + j, none⟩ = some (.int .u8 ((nb l j : Nat) : Int)) := by
  obtain ⟨b, o, c', e, _, _, hc⟩ := h.cells (by omega)
  simp only [Value.slice.injEq, Option.some.injEq, Addr.mk.injEq, and_true] at e
  obtain ⟨⟨rfl, rfl⟩, rfl, rfl⟩ := e
  rw [hc j hj, ← nb_int h.wf j, List.getD_eq_getElem?_getD]

noncomputable def hkeys6 : Code := regionOf Try.f26 6
set_option maxRecDepth 100000 in
set_option maxHeartbeats 8000000 in
theorem keys_reg6 (R : Act → World → Prop) (a : Act) (w2 : World) (gb ob bc g off oc i cc : Nat) (l : List Int) (hl : Hid (l.length = 4 * i)) (hi4 : 4 ≤ i) (hi : i ≤ 43) (hS : Hid (Sl .u8 w2 (.slice (some ⟨g, off, none⟩) (4 * i) oc) l))
    (hF : Fr 95 [(0, .slice (some ⟨gb, ob, none⟩) 256 bc), (5, .slice (some ⟨g, off, none⟩) (4 * i) oc), (6, .int .u8 (cc : Nat)), (7, .int .i64 i)] a)
    (hR : Hid (∀ a' w' T, Fr 95 [(0, .slice (some ⟨gb, ob, none⟩) 256 bc), (5, .slice (some ⟨g, off, none⟩) (4 * i) oc), (6, .int .u8 (cc : Nat)), (7, .int .i64 i), (8, .slice (some ⟨T, 0, none⟩) 4 4)] a' → w2.heap.size ≤ T → Blk w' T 5 #[.int .u8 ((nb l (4 * i - 4) : Nat) : Int), .int .u8 ((nb l (4 * i - 3) : Nat) : Int), .int .u8 ((nb l (4 * i - 2) : Nat) : Int), .int .u8 ((nb l (4 * i - 1) : Nat) : Int)] → Keep [] w2 w' → R a' w')) :
    Code.wp Try.prog hkeys6 (OutN R) a w2 := by
  have LD : ∀ y, Keep [] w2 y → ∀ j, j < 4 * i → y.cell? ⟨g, off + j, none⟩ = some (.int .u8 ((nb l j : Nat) : Int)) := fun y hk j hj => sl_cell (hS.out.keep0 hk) j (by rw [hl.out]; exact hj)
  have m1 : IntKind.i64.wrap (4 * (i : Int)) = 4 * i := wf_i64' _ (by omega) (by omega)
  have s4 : IntKind.i64.wrap (4 * (i : Int) - 4) = 4 * i - 4 := wf_i64' _ (by omega) (by omega)
  have e4 : (4 * (i : Int) - 4).toNat = 4 * i - 4 := by omega
  have g4 : (4 : Int) ≤ 4 * (i : Int) := by omega
  have b4 : (0 : Int) ≤ 4 * (i : Int) - 4 ∧ 4 * (i : Int) - 4 < 4 * i := ⟨by omega, by omega⟩
  have s3 : IntKind.i64.wrap (4 * (i : Int) - 3) = 4 * i - 3 := wf_i64' _ (by omega) (by omega)
  have e3 : (4 * (i : Int) - 3).toNat = 4 * i - 3 := by omega
  have g3 : (3 : Int) ≤ 4 * (i : Int) := by omega
  have b3 : (0 : Int) ≤ 4 * (i : Int) - 3 ∧ 4 * (i : Int) - 3 < 4 * i := ⟨by omega, by omega⟩
  have s2 : IntKind.i64.wrap (4 * (i : Int) - 2) = 4 * i - 2 := wf_i64' _ (by omega) (by omega)
  have e2 : (4 * (i : Int) - 2).toNat = 4 * i - 2 := by omega
  have g2 : (2 : Int) ≤ 4 * (i : Int) := by omega
  have b2 : (0 : Int) ≤ 4 * (i : Int) - 2 ∧ 4 * (i : Int) - 2 < 4 * i := ⟨by omega, by omega⟩
  have s1 : IntKind.i64.wrap (4 * (i : Int) - 1) = 4 * i - 1 := wf_i64' _ (by omega) (by omega)
  have e1 : (4 * (i : Int) - 1).toNat = 4 * i - 1 := by omega
  have g1 : (1 : Int) ≤ 4 * (i : Int) := by omega
  have b1 : (0 : Int) ≤ 4 * (i : Int) - 1 ∧ 4 * (i : Int) - 1 < 4 * i := ⟨by omega, by omega⟩
  obtain ⟨f, ⟨f0, f5, f6, f7, -⟩, rfl⟩ := hF.open95
  simp only [f0, f5, f6, f7]
  clear f0 f5 f6 f7 hF
  conv => arg 2; whnf
  refine wp_region_held_drew (S := fun y => Keep [] w2 y) (by kernel_rfl) ((Keep.refl [] w2).drew) (fun hk0 => ?_)
  obtain ⟨W0, hW0⟩ : ∃ W0, W0 = w2.drew := ⟨_, rfl⟩
  rw [← hW0] at hk0 ⊢
  clear hW0
  go_simp
  refine wpAnyH_take (i := 0) (v := ?_) rfl (by kernel_rfl) (by kernel_rfl) (by kernel_rfl) (fun _ _ _ h => h) (Or.inl ⟨by rfl, fun y hy => ?_⟩) hk0 ?_
  rotate_left
  · go_simp; try (with_reducible rfl)
  rotate_left
  go_simp
  refine wpAnyH_take (i := 1) (v := ?_) rfl (by kernel_rfl) (by kernel_rfl) (by kernel_rfl) (fun _ _ _ h => h) (Or.inl ⟨by rfl, fun y hy => ?_⟩) hk0 ?_
  rotate_left
  · go_simp; try (with_reducible rfl)
  rotate_left
  go_simp
  refine wpAnyH_take (i := 2) (v := ?_) rfl (by kernel_rfl) (by kernel_rfl) (by kernel_rfl) (fun _ _ _ h => h) (Or.inl ⟨by rfl, fun y hy => ?_⟩) hk0 ?_
  rotate_left
  · go_simp; try (with_reducible rfl)
  rotate_left
  go_simp
  refine wpAnyH_take (i := 3) (v := ?_) rfl (by kernel_rfl) (by kernel_rfl) (by kernel_rfl) (fun _ _ _ h => h) (Or.inl ⟨by rfl, fun y hy => ?_⟩) hk0 ?_
  rotate_left
  · go_simp; try (with_reducible rfl)
  rotate_left
  go_simp
  refine wpAnyH_take (i := 4) (v := ?_) rfl (by kernel_rfl) (by kernel_rfl) (by kernel_rfl) (fun _ _ _ h => h) (Or.inl ⟨by rfl, fun y hy => ?_⟩) hk0 ?_
  rotate_left
  · go_simp; try (with_reducible rfl)
  rotate_left
  go_simp
  refine wpAnyH_take (i := 5) (v := ?_) rfl (by kernel_rfl) (by kernel_rfl) (by kernel_rfl) (fun _ _ _ h => h) (Or.inl ⟨by rfl, fun y hy => ?_⟩) hk0 ?_
  rotate_left
  · have q := LD y hy (4 * i - 4) (by omega); go_simp; try (with_reducible rfl)
  rotate_left
  go_simp
  refine wpAnyH_take (i := 6) (v := ?_) rfl (by kernel_rfl) (by kernel_rfl) (by kernel_rfl) (fun _ _ _ h => h) (Or.inl ⟨by rfl, fun y hy => ?_⟩) hk0 ?_
  rotate_left
  · go_simp; try (with_reducible rfl)
  rotate_left
  go_simp
  refine wpAnyH_take (i := 7) (v := ?_) rfl (by kernel_rfl) (by kernel_rfl) (by kernel_rfl) (fun _ _ _ h => h) (Or.inl ⟨by rfl, fun y hy => ?_⟩) hk0 ?_
  rotate_left
  · go_simp; try (with_reducible rfl)
  rotate_left
  go_simp
  refine wpAnyH_take (i := 8) (v := ?_) rfl (by kernel_rfl) (by kernel_rfl) (by kernel_rfl) (fun _ _ _ h => h) (Or.inl ⟨by rfl, fun y hy => ?_⟩) hk0 ?_
  rotate_left
  · go_simp; try (with_reducible rfl)
  rotate_left
  go_simp
  refine wpAnyH_take (i := 9) (v := ?_) rfl (by kernel_rfl) (by kernel_rfl) (by kernel_rfl) (fun _ _ _ h => h) (Or.inl ⟨by rfl, fun y hy => ?_⟩) hk0 ?_
  rotate_left
  · go_simp; try (with_reducible rfl)
  rotate_left
  go_simp
  refine wpAnyH_take (i := 10) (v := ?_) rfl (by kernel_rfl) (by kernel_rfl) (by kernel_rfl) (fun _ _ _ h => h) (Or.inl ⟨by rfl, fun y hy => ?_⟩) hk0 ?_
  rotate_left
  · go_simp; try (with_reducible rfl)
  rotate_left
  go_simp
  refine wpAnyH_take (i := 11) (v := ?_) rfl (by kernel_rfl) (by kernel_rfl) (by kernel_rfl) (fun _ _ _ h => h) (Or.inl ⟨by rfl, fun y hy => ?_⟩) hk0 ?_
  rotate_left
  · have q := LD y hy (4 * i - 3) (by omega); go_simp; try (with_reducible rfl)
  rotate_left
  go_simp
  refine wpAnyH_take (i := 12) (v := ?_) rfl (by kernel_rfl) (by kernel_rfl) (by kernel_rfl) (fun _ _ _ h => h) (Or.inl ⟨by rfl, fun y hy => ?_⟩) hk0 ?_
  rotate_left
  · go_simp; try (with_reducible rfl)
  rotate_left
  go_simp
  refine wpAnyH_take (i := 13) (v := ?_) rfl (by kernel_rfl) (by kernel_rfl) (by kernel_rfl) (fun _ _ _ h => h) (Or.inl ⟨by rfl, fun y hy => ?_⟩) hk0 ?_
  rotate_left
  · go_simp; try (with_reducible rfl)
  rotate_left
  go_simp
  refine wpAnyH_take (i := 14) (v := ?_) rfl (by kernel_rfl) (by kernel_rfl) (by kernel_rfl) (fun _ _ _ h => h) (Or.inl ⟨by rfl, fun y hy => ?_⟩) hk0 ?_
  rotate_left
  · go_simp; try (with_reducible rfl)
  rotate_left
  go_simp
  refine wpAnyH_take (i := 15) (v := ?_) rfl (by kernel_rfl) (by kernel_rfl) (by kernel_rfl) (fun _ _ _ h => h) (Or.inl ⟨by rfl, fun y hy => ?_⟩) hk0 ?_
  rotate_left
  · go_simp; try (with_reducible rfl)
  rotate_left
  go_simp
  refine wpAnyH_take (i := 16) (v := ?_) rfl (by kernel_rfl) (by kernel_rfl) (by kernel_rfl) (fun _ _ _ h => h) (Or.inl ⟨by rfl, fun y hy => ?_⟩) hk0 ?_
  rotate_left
  · go_simp; try (with_reducible rfl)
  rotate_left
  go_simp
  refine wpAnyH_take (i := 17) (v := ?_) rfl (by kernel_rfl) (by kernel_rfl) (by kernel_rfl) (fun _ _ _ h => h) (Or.inl ⟨by rfl, fun y hy => ?_⟩) hk0 ?_
  rotate_left
  · have q := LD y hy (4 * i - 2) (by omega); go_simp; try (with_reducible rfl)
  rotate_left
  go_simp
  refine wpAnyH_take (i := 18) (v := ?_) rfl (by kernel_rfl) (by kernel_rfl) (by kernel_rfl) (fun _ _ _ h => h) (Or.inl ⟨by rfl, fun y hy => ?_⟩) hk0 ?_
  rotate_left
  · go_simp; try (with_reducible rfl)
  rotate_left
  go_simp
  refine wpAnyH_take (i := 19) (v := ?_) rfl (by kernel_rfl) (by kernel_rfl) (by kernel_rfl) (fun _ _ _ h => h) (Or.inl ⟨by rfl, fun y hy => ?_⟩) hk0 ?_
  rotate_left
  · go_simp; try (with_reducible rfl)
  rotate_left
  go_simp
  refine wpAnyH_take (i := 20) (v := ?_) rfl (by kernel_rfl) (by kernel_rfl) (by kernel_rfl) (fun _ _ _ h => h) (Or.inl ⟨by rfl, fun y hy => ?_⟩) hk0 ?_
  rotate_left
  · go_simp; try (with_reducible rfl)
  rotate_left
  go_simp
  refine wpAnyH_take (i := 21) (v := ?_) rfl (by kernel_rfl) (by kernel_rfl) (by kernel_rfl) (fun _ _ _ h => h) (Or.inl ⟨by rfl, fun y hy => ?_⟩) hk0 ?_
  rotate_left
  · go_simp; try (with_reducible rfl)
  rotate_left
  go_simp
  refine wpAnyH_take (i := 22) (v := ?_) rfl (by kernel_rfl) (by kernel_rfl) (by kernel_rfl) (fun _ _ _ h => h) (Or.inl ⟨by rfl, fun y hy => ?_⟩) hk0 ?_
  rotate_left
  · go_simp; try (with_reducible rfl)
  rotate_left
  go_simp
  refine wpAnyH_take (i := 23) (v := ?_) rfl (by kernel_rfl) (by kernel_rfl) (by kernel_rfl) (fun _ _ _ h => h) (Or.inl ⟨by rfl, fun y hy => ?_⟩) hk0 ?_
  rotate_left
  · have q := LD y hy (4 * i - 1) (by omega); go_simp; try (with_reducible rfl)
  rotate_left
  go_simp
  refine wpAnyH_ready (rs := [24]) (by kernel_rfl) (by simp) ?_
  refine AllReadyH.cons rfl (fun K hK => ?_) AllReadyH.nil
  apply step_wp
  · rfl
  refine ow_slice _ 5 4 _ rfl Try.underlying30 #[.int .u8 ((nb l (4 * i - 4) : Nat) : Int), .int .u8 ((nb l (4 * i - 3) : Nat) : Int), .int .u8 ((nb l (4 * i - 2) : Nat) : Int), .int .u8 ((nb l (4 * i - 1) : Nat) : Int)] [(0, .int .u8 ((nb l (4 * i - 4) : Nat) : Int)), (1, .int .u8 ((nb l (4 * i - 3) : Nat) : Int)), (2, .int .u8 ((nb l (4 * i - 2) : Nat) : Int)), (3, .int .u8 ((nb l (4 * i - 1) : Nat) : Int))] (by kernel_rfl) (by kernel_rfl) ?_
  intro T W1 hT hbT hs1
  replace hT : w2.heap.size ≤ T := by rw [hT]; exact hk0.size
  have hk1 : Keep [] w2 W1 := hk0.trans hs1
  refine hK.out _ _ hk1 (fun _ => ?_)
  clear hK K
  go_simp
  refine wpAnyH_take (i := 25) (v := ?_) rfl (by kernel_rfl) (by kernel_rfl) (by kernel_rfl) (fun _ _ _ h => h) (Or.inl ⟨by rfl, fun y hy => ?_⟩) hk1 ?_
  rotate_left
  · go_simp; try (with_reducible rfl)
  rotate_left
  go_simp
  exact wpAnyH_done (by kernel_rfl) (hR.out _ _ T ⟨rfl, rfl, by repeat (first | exact trivial | refine ⟨rfl, ?_⟩)⟩ hT hbT hk1) _

theorem box_cell {y : World} {gb ob bc : Nat} (h : Sl .u8 y (.slice (some ⟨gb, ob, none⟩) 256 bc) (boxL 256)) (x : Nat) (hx : x < 256) : y.cell? ⟨gb, ob + x, none⟩ = some (.int .u8 ((Aes.box x : Nat) : Int)) := by
  have := sl_cell h x (by rw [boxL_length]; exact hx)
  rw [this]
  have h1 : nb (boxL 256) x = Aes.box x := by
    unfold nb boxL
    rw [List.getD_eq_getElem?_getD, List.getElem?_map, List.getElem?_range hx]
    simp
  rw [h1]
noncomputable def hkeys8 : Code := regionOf Try.f26 8
set_option maxRecDepth 100000 in
set_option maxHeartbeats 8000000 in
theorem keys_reg8 (R : Act → World → Prop) (a : Act) (w2 : World) (gb ob bc g off oc i cc T n0 n1 n2 n3 : Nat) (hb : Hid (Sl .u8 w2 (.slice (some ⟨gb, ob, none⟩) 256 bc) (boxL 256))) (hT : Hid (Blk w2 T 5 #[.int .u8 (n0 : Int), .int .u8 (n1 : Int), .int .u8 (n2 : Int), .int .u8 (n3 : Int)]))
    (h0 : n0 < 256) (h1 : n1 < 256) (h2 : n2 < 256) (h3 : n3 < 256) (hcc : cc < 256)
    (hF : Fr 95 [(0, .slice (some ⟨gb, ob, none⟩) 256 bc), (5, .slice (some ⟨g, off, none⟩) (4 * i) oc), (6, .int .u8 (cc : Nat)), (8, .slice (some ⟨T, 0, none⟩) 4 4), (7, .int .i64 i)] a)
    (hR : Hid (∀ a' w' T, Fr 95 [(0, .slice (some ⟨gb, ob, none⟩) 256 bc), (5, .slice (some ⟨g, off, none⟩) (4 * i) oc), (6, .int .u8 (cc : Nat)), (8, .slice (some ⟨T, 0, none⟩) 4 4), (7, .int .i64 i)] a' → w2.heap.size ≤ T → Blk w' T 5 #[.int .u8 ((Aes.box n1 ^^^ cc : Nat) : Int), .int .u8 ((Aes.box n2 : Nat) : Int), .int .u8 ((Aes.box n3 : Nat) : Int), .int .u8 ((Aes.box n0 : Nat) : Int)] → Keep [] w2 w' → R a' w')) :
    Code.wp Try.prog hkeys8 (OutN R) a w2 := by
  have LB : ∀ y, Keep [] w2 y → ∀ x, x < 256 → y.cell? ⟨gb, ob + x, none⟩ = some (.int .u8 ((Aes.box x : Nat) : Int)) := fun y hk x hx => box_cell (hb.out.keep0 hk) x hx
  have LT : ∀ y, Keep [] w2 y → y.cell? ⟨T, 0, none⟩ = some (.int .u8 (n0 : Int)) ∧ y.cell? ⟨T, 1, none⟩ = some (.int .u8 (n1 : Int)) ∧ y.cell? ⟨T, 2, none⟩ = some (.int .u8 (n2 : Int)) ∧ y.cell? ⟨T, 3, none⟩ = some (.int .u8 (n3 : Int)) := fun y hk => by
    have h := hT.out.keep hk (by simp)
    exact ⟨h.cell 0, h.cell 1, h.cell 2, h.cell 3⟩
  have X := Lib.hid (u8_xor_nat (Aes.box n1) cc (Aes.box_lt n1) hcc)
  have y0 : (0 : Int) ≤ (n0 : Int) ∧ (n0 : Int) < 256 := ⟨by omega, by omega⟩
  have y1 : (0 : Int) ≤ (n1 : Int) ∧ (n1 : Int) < 256 := ⟨by omega, by omega⟩
  have y2 : (0 : Int) ≤ (n2 : Int) ∧ (n2 : Int) < 256 := ⟨by omega, by omega⟩
  have y3 : (0 : Int) ≤ (n3 : Int) ∧ (n3 : Int) < 256 := ⟨by omega, by omega⟩
  obtain ⟨f, ⟨f0, f5, f6, f8, f7, -⟩, rfl⟩ := hF.open95
  simp only [f0, f5, f6, f8, f7]
  clear f0 f5 f6 f8 f7 hF
  conv => arg 2; whnf
  refine wp_region_held_drew (S := fun y => Keep [] w2 y) (by kernel_rfl) ((Keep.refl [] w2).drew) (fun hk0 => ?_)
  obtain ⟨W0, hW0⟩ : ∃ W0, W0 = w2.drew := ⟨_, rfl⟩
  rw [← hW0] at hk0 ⊢
  clear hW0
  go_simp
  refine wpAnyH_take (i := 0) (v := ?_) rfl (by kernel_rfl) (by kernel_rfl) (by kernel_rfl) (fun _ _ _ h => h) (Or.inl ⟨by rfl, fun y hy => ?_⟩) hk0 ?_
  rotate_left
  · go_simp; try (with_reducible rfl)
  rotate_left
  go_simp
  refine wpAnyH_take (i := 1) (v := ?_) rfl (by kernel_rfl) (by kernel_rfl) (by kernel_rfl) (fun _ _ _ h => h) (Or.inl ⟨by rfl, fun y hy => ?_⟩) hk0 ?_
  rotate_left
  · go_simp; try (with_reducible rfl)
  rotate_left
  go_simp
  refine wpAnyH_take (i := 2) (v := ?_) rfl (by kernel_rfl) (by kernel_rfl) (by kernel_rfl) (fun _ _ _ h => h) (Or.inl ⟨by rfl, fun y hy => ?_⟩) hk0 ?_
  rotate_left
  · go_simp; try (with_reducible rfl)
  rotate_left
  go_simp
  refine wpAnyH_take (i := 3) (v := ?_) rfl (by kernel_rfl) (by kernel_rfl) (by kernel_rfl) (fun _ _ _ h => h) (Or.inl ⟨by rfl, fun y hy => ?_⟩) hk0 ?_
  rotate_left
  · have q := (LT y hy).2.1; go_simp; try (with_reducible rfl)
  rotate_left
  go_simp
  refine wpAnyH_take (i := 4) (v := ?_) rfl (by kernel_rfl) (by kernel_rfl) (by kernel_rfl) (fun _ _ _ h => h) (Or.inl ⟨by rfl, fun y hy => ?_⟩) hk0 ?_
  rotate_left
  · go_simp; try (with_reducible rfl)
  rotate_left
  go_simp
  refine wpAnyH_take (i := 5) (v := ?_) rfl (by kernel_rfl) (by kernel_rfl) (by kernel_rfl) (fun _ _ _ h => h) (Or.inl ⟨by rfl, fun y hy => ?_⟩) hk0 ?_
  rotate_left
  · have q := LB y hy n1 h1; go_simp; try (with_reducible rfl)
  rotate_left
  go_simp
  refine wpAnyH_take (i := 6) (v := ?_) rfl (by kernel_rfl) (by kernel_rfl) (by kernel_rfl) (fun _ _ _ h => h) (Or.inl ⟨by rfl, fun y hy => ?_⟩) hk0 ?_
  rotate_left
  · go_simp; try (with_reducible rfl)
  rotate_left
  go_simp
  refine wpAnyH_take (i := 7) (v := ?_) rfl (by kernel_rfl) (by kernel_rfl) (by kernel_rfl) (fun _ _ _ h => h) (Or.inl ⟨by rfl, fun y hy => ?_⟩) hk0 ?_
  rotate_left
  · go_simp; try (with_reducible rfl)
  rotate_left
  go_simp
  refine wpAnyH_take (i := 8) (v := ?_) rfl (by kernel_rfl) (by kernel_rfl) (by kernel_rfl) (fun _ _ _ h => h) (Or.inl ⟨by rfl, fun y hy => ?_⟩) hk0 ?_
  rotate_left
  · go_simp; try (with_reducible rfl)
  rotate_left
  go_simp
  refine wpAnyH_take (i := 9) (v := ?_) rfl (by kernel_rfl) (by kernel_rfl) (by kernel_rfl) (fun _ _ _ h => h) (Or.inl ⟨by rfl, fun y hy => ?_⟩) hk0 ?_
  rotate_left
  · go_simp; try (with_reducible rfl)
  rotate_left
  go_simp
  refine wpAnyH_take (i := 10) (v := ?_) rfl (by kernel_rfl) (by kernel_rfl) (by kernel_rfl) (fun _ _ _ h => h) (Or.inl ⟨by rfl, fun y hy => ?_⟩) hk0 ?_
  rotate_left
  · go_simp; try (with_reducible rfl)
  rotate_left
  go_simp
  refine wpAnyH_take (i := 11) (v := ?_) rfl (by kernel_rfl) (by kernel_rfl) (by kernel_rfl) (fun _ _ _ h => h) (Or.inl ⟨by rfl, fun y hy => ?_⟩) hk0 ?_
  rotate_left
  · have q := (LT y hy).2.2.1; go_simp; try (with_reducible rfl)
  rotate_left
  go_simp
  refine wpAnyH_take (i := 12) (v := ?_) rfl (by kernel_rfl) (by kernel_rfl) (by kernel_rfl) (fun _ _ _ h => h) (Or.inl ⟨by rfl, fun y hy => ?_⟩) hk0 ?_
  rotate_left
  · go_simp; try (with_reducible rfl)
  rotate_left
  go_simp
  refine wpAnyH_take (i := 13) (v := ?_) rfl (by kernel_rfl) (by kernel_rfl) (by kernel_rfl) (fun _ _ _ h => h) (Or.inl ⟨by rfl, fun y hy => ?_⟩) hk0 ?_
  rotate_left
  · have q := LB y hy n2 h2; go_simp; try (with_reducible rfl)
  rotate_left
  go_simp
  refine wpAnyH_take (i := 14) (v := ?_) rfl (by kernel_rfl) (by kernel_rfl) (by kernel_rfl) (fun _ _ _ h => h) (Or.inl ⟨by rfl, fun y hy => ?_⟩) hk0 ?_
  rotate_left
  · go_simp; try (with_reducible rfl)
  rotate_left
  go_simp
  refine wpAnyH_take (i := 15) (v := ?_) rfl (by kernel_rfl) (by kernel_rfl) (by kernel_rfl) (fun _ _ _ h => h) (Or.inl ⟨by rfl, fun y hy => ?_⟩) hk0 ?_
  rotate_left
  · go_simp; try (with_reducible rfl)
  rotate_left
  go_simp
  refine wpAnyH_take (i := 16) (v := ?_) rfl (by kernel_rfl) (by kernel_rfl) (by kernel_rfl) (fun _ _ _ h => h) (Or.inl ⟨by rfl, fun y hy => ?_⟩) hk0 ?_
  rotate_left
  · go_simp; try (with_reducible rfl)
  rotate_left
  go_simp
  refine wpAnyH_take (i := 17) (v := ?_) rfl (by kernel_rfl) (by kernel_rfl) (by kernel_rfl) (fun _ _ _ h => h) (Or.inl ⟨by rfl, fun y hy => ?_⟩) hk0 ?_
  rotate_left
  · have q := (LT y hy).2.2.2; go_simp; try (with_reducible rfl)
  rotate_left
  go_simp
  refine wpAnyH_take (i := 18) (v := ?_) rfl (by kernel_rfl) (by kernel_rfl) (by kernel_rfl) (fun _ _ _ h => h) (Or.inl ⟨by rfl, fun y hy => ?_⟩) hk0 ?_
  rotate_left
  · go_simp; try (with_reducible rfl)
  rotate_left
  go_simp
  refine wpAnyH_take (i := 19) (v := ?_) rfl (by kernel_rfl) (by kernel_rfl) (by kernel_rfl) (fun _ _ _ h => h) (Or.inl ⟨by rfl, fun y hy => ?_⟩) hk0 ?_
  rotate_left
  · have q := LB y hy n3 h3; go_simp; try (with_reducible rfl)
  rotate_left
  go_simp
  refine wpAnyH_take (i := 20) (v := ?_) rfl (by kernel_rfl) (by kernel_rfl) (by kernel_rfl) (fun _ _ _ h => h) (Or.inl ⟨by rfl, fun y hy => ?_⟩) hk0 ?_
  rotate_left
  · go_simp; try (with_reducible rfl)
  rotate_left
  go_simp
  refine wpAnyH_take (i := 21) (v := ?_) rfl (by kernel_rfl) (by kernel_rfl) (by kernel_rfl) (fun _ _ _ h => h) (Or.inl ⟨by rfl, fun y hy => ?_⟩) hk0 ?_
  rotate_left
  · go_simp; try (with_reducible rfl)
  rotate_left
  go_simp
  refine wpAnyH_take (i := 22) (v := ?_) rfl (by kernel_rfl) (by kernel_rfl) (by kernel_rfl) (fun _ _ _ h => h) (Or.inl ⟨by rfl, fun y hy => ?_⟩) hk0 ?_
  rotate_left
  · go_simp; try (with_reducible rfl)
  rotate_left
  go_simp
  refine wpAnyH_take (i := 23) (v := ?_) rfl (by kernel_rfl) (by kernel_rfl) (by kernel_rfl) (fun _ _ _ h => h) (Or.inl ⟨by rfl, fun y hy => ?_⟩) hk0 ?_
  rotate_left
  · have q := (LT y hy).1; go_simp; try (with_reducible rfl)
  rotate_left
  go_simp
  refine wpAnyH_take (i := 24) (v := ?_) rfl (by kernel_rfl) (by kernel_rfl) (by kernel_rfl) (fun _ _ _ h => h) (Or.inl ⟨by rfl, fun y hy => ?_⟩) hk0 ?_
  rotate_left
  · go_simp; try (with_reducible rfl)
  rotate_left
  go_simp
  refine wpAnyH_take (i := 25) (v := ?_) rfl (by kernel_rfl) (by kernel_rfl) (by kernel_rfl) (fun _ _ _ h => h) (Or.inl ⟨by rfl, fun y hy => ?_⟩) hk0 ?_
  rotate_left
  · have q := LB y hy n0 h0; go_simp; try (with_reducible rfl)
  rotate_left
  go_simp
  refine wpAnyH_ready (rs := [26]) (by kernel_rfl) (by simp) ?_
  refine AllReadyH.cons rfl (fun K hK => ?_) AllReadyH.nil
  apply step_wp
  · rfl
  refine ow_slice _ 5 4 _ rfl Try.underlying30 #[.int .u8 (bits .xor .u8 ((Aes.box n1 : Nat) : Int) (cc : Int)), .int .u8 ((Aes.box n2 : Nat) : Int), .int .u8 ((Aes.box n3 : Nat) : Int), .int .u8 ((Aes.box n0 : Nat) : Int)] [(0, .int .u8 (bits .xor .u8 ((Aes.box n1 : Nat) : Int) (cc : Int))), (1, .int .u8 ((Aes.box n2 : Nat) : Int)), (2, .int .u8 ((Aes.box n3 : Nat) : Int)), (3, .int .u8 ((Aes.box n0 : Nat) : Int))] (by kernel_rfl) (by kernel_rfl) ?_
  intro T1 W1 hT1 hbT hs1
  replace hT1 : w2.heap.size ≤ T1 := by rw [hT1]; exact hk0.size
  have hk1 : Keep [] w2 W1 := hk0.trans hs1
  refine hK.out _ _ hk1 (fun _ => ?_)
  clear hK K
  go_simp
  refine wpAnyH_take (i := 27) (v := ?_) rfl (by kernel_rfl) (by kernel_rfl) (by kernel_rfl) (fun _ _ _ h => h) (Or.inl ⟨by rfl, fun y hy => ?_⟩) hk1 ?_
  rotate_left
  · go_simp; try (with_reducible rfl)
  rotate_left
  go_simp
  rw [X.out] at hbT
  exact wpAnyH_done (by kernel_rfl) (hR.out _ _ T1 ⟨rfl, rfl, by repeat (first | exact trivial | refine ⟨rfl, ?_⟩)⟩ hT1 hbT hk1) _

end Go.Proofs.Ytpjkicbfdknjcaa
