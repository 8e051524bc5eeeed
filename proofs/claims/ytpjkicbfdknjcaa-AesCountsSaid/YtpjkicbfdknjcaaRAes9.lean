/-
  The document's answer to a block: its drawn regions.
-/
import Derived.Test.YtpjkicbfdknjcaaRAes8
import Derived.Test.YtpjkicbfdknjcaaOpens6
namespace Go.Proofs.Ytpjkicbfdknjcaa
open Go.RowKit

/-- One cell stored, in a region. -/
theorem ow_store1 {P : Program} {o : Oper} {a : Act} {w : World} {K : Act → World → Prop} {Q : Exit → Act → World → Prop} (t : TypeId) (x y : Operand) (ho : o.op = .store t x y) (p : Addr) (v : Value) (hx : a.eval x = .pointer (some p)) (hy : a.eval y = v)
    (hrun : (storeVar t p v).run P w = .ok () (w.setCell p v)) (h : K (a.put o.dst undef) (w.setCell p v)) : o.wp P a w K Q := by
  unfold Oper.wp execOp
  simp only [ho, hx, hy, Instr.storeAt, Instr.sureAddr, Sem.run_bind, Sem.run_pure, Result.andThen_ok, hrun]
  exact h
/-- In block g lie these bytes, and perhaps more behind them. -/
def Row (w : World) (g : Nat) (l : List Int) : Prop := ∃ cur : Array Value, Blk w g 5 cur ∧ l.length ≤ cur.size ∧ cur.toList.take l.length = l.map (Value.int .u8)
theorem Row.cell {w : World} {g : Nat} {l : List Int} (h : Row w g l) (j : Nat) (hj : j < l.length) : w.cell? ⟨g, j, none⟩ = some (.int .u8 (l.getD j 0)) := by
  obtain ⟨cur, hb, hl, ht⟩ := h
  rw [hb.cell]
  have := congrArg (fun L => L[j]?) ht
  simp only [List.getElem?_take, if_pos hj, List.getElem?_map] at this
  rw [List.getElem?_eq_getElem hj] at this
  simpa [List.getD_eq_getElem?_getD, hj] using this
theorem Row.frozen {w : World} {g : Nat} {l : List Int} (h : Row w g l) (j : Nat) : w.frozen? ⟨g, j, none⟩ = false := by
  obtain ⟨cur, hb, _⟩ := h
  exact hb.frozen j
theorem Row.keep {w w' : World} {g : Nat} {l : List Int} {S : List Nat} (h : Row w g l) (k : Keep S w w') (hg : g ∉ S) : Row w' g l := by
  obtain ⟨cur, hb, h1⟩ := h
  exact ⟨cur, hb.keep k hg, h1⟩
theorem Row.lt {w : World} {g : Nat} {l : List Int} (h : Row w g l) : g < w.heap.size := by obtain ⟨cur, hb, _⟩ := h; exact hb.lt
theorem Row.set {w : World} {g : Nat} {l : List Int} (h : Row w g l) (j : Nat) (v : Int) : Row (w.setCell ⟨g, j, none⟩ (.int .u8 v)) g (l.set j v) := by
  obtain ⟨cur, hb, hl, ht⟩ := h
  refine ⟨_, hb.set_ j _, by simpa using hl, ?_⟩
  rw [List.length_set, Array.toList_setIfInBounds, List.map_set, ← ht, List.take_set]
theorem Row.upd {w : World} {g : Nat} {f : Nat → Int} {s : List Int} {n : Nat} (h : Row w g (upd f s n)) (hn : n < s.length) {v : Int} (hv : v = f n) : Row (w.setCell ⟨g, n, none⟩ (.int .u8 v)) g (_root_.Go.Proofs.Ytpjkicbfdknjcaa.upd f s (n + 1)) := by
  subst hv
  have := h.set n (f n)
  rwa [upd_set f s n hn] at this
theorem Row.of_blk {w : World} {g : Nat} {l : List Int} (h : Blk w g 5 (l.map (Value.int .u8)).toArray) : Row w g l := ⟨_, h, by simp, by rw [List.take_of_length_le (by simp)]⟩
theorem Row.of_own {w : World} {base n g c : Nat} {l : List Int} (h : w.ownsRow base 5 1 (.slice (some ⟨g, 0, none⟩) n c) n (l.map (Value.int .u8))) : Row w g l := by
  have hl : l.length = n := by simpa using h.1
  rcases h.2 with ⟨hv, h0⟩ | ⟨g', cap, cur, hv, hb, hh, hn, hm, hs, ht⟩
  · simp at hv
  · simp only [Value.slice.injEq, Option.some.injEq, Addr.mk.injEq, and_true, true_and] at hv
    obtain ⟨rfl, rfl⟩ := hv
    refine ⟨cur, hh, ?_, ?_⟩
    · rw [hl]
      have := congrArg List.length ht
      simp at this
      omega
    · rw [hl]; simpa using ht
theorem Row.sl {w : World} {g c : Nat} {l : List Int} (h : Row w g l) (hw : ∀ x ∈ l, (Lit.int .u8 x).wf = true) (h1 : l.length ≤ c) (h2 : c ≤ 9223372036854775807) : Sl .u8 w (.slice (some ⟨g, 0, none⟩) l.length c) l := by
  refine ⟨_, c, rfl, h1, h2, fun hp => ⟨g, 0, rfl, fun j u hu => ?_⟩, hw⟩
  rw [List.getElem?_map] at hu
  by_cases hj : j < l.length
  · rw [Nat.zero_add, h.cell j hj]
    rw [List.getElem?_eq_getElem hj] at hu
    simpa [List.getD_eq_getElem?_getD, hj] using hu
  · rw [List.getElem?_eq_none (by omega)] at hu
    cases hu
theorem sto1 {w : World} {p : Addr} {u : Value} {v : Int} (h : w.cell? p = some u) (hf : w.frozen? p = false) : (storeVar 5 p (.int .u8 v)).run Try.prog w = .ok () (w.setCell p (.int .u8 v)) := by
  simp [go_sem, h, hf]

noncomputable def hturn6 : Code := regionOf Try.f16 6
set_option maxRecDepth 100000 in
set_option maxHeartbeats 4000000 in
theorem turn_reg6 (R : Act → World → Prop) (a : Act) (w2 : World) (gb ob bc gw cw G c8 j x y : Nat) (hcx : Hid (w2.cell? ⟨G, j, none⟩ = some (.int .u8 (x : Int)))) (hcy : Hid (w2.cell? ⟨gw, j, none⟩ = some (.int .u8 (y : Int)))) (hx : x < 256) (hy : y < 256) (hcG : Hid (∃ u, w2.cell? ⟨G, j, none⟩ = some u)) (hfG : Hid (∀ W : World, Keep [] w2 W → W.frozen? ⟨G, j, none⟩ = false)) (hj : j < 16)
    (hF : Fr 93 [(0, .slice (some ⟨gb, ob, none⟩) 256 bc), (7, .slice (some ⟨gw, 0, none⟩) 176 cw), (8, .slice (some ⟨G, 0, none⟩) 16 c8), (9, .int .i64 j)] a)
    (hR : Hid (∀ a' W, Fr 93 [(0, .slice (some ⟨gb, ob, none⟩) 256 bc), (7, .slice (some ⟨gw, 0, none⟩) 176 cw), (8, .slice (some ⟨G, 0, none⟩) 16 c8), (9, .int .i64 j)] a' → Keep [] w2 W → R a' (W.setCell ⟨G, j, none⟩ (.int .u8 ((x ^^^ y : Nat) : Int))))) :
    Code.wp Try.prog hturn6 (OutN R) a w2 := by
  have X := u8_xor_nat x y hx hy
  obtain ⟨u, hu⟩ := hcG.out
  have LG : ∀ W, Keep [] w2 W → W.cell? ⟨G, j, none⟩ = some u := fun W hk => (hk.cell (World.block_lt_of_cell? _ _ hu) (by simp)).trans hu
  have bj : (0 : Int) ≤ (j : Int) ∧ (j : Int) < 16 := ⟨by omega, by omega⟩
  have LX : ∀ W, Keep [] w2 W → W.cell? ⟨G, j, none⟩ = some (.int .u8 (x : Int)) := fun W hk => (hk.cell (World.block_lt_of_cell? _ _ hcx.out) (by simp)).trans hcx.out
  have LY : ∀ W, Keep [] w2 W → W.cell? ⟨gw, j, none⟩ = some (.int .u8 (y : Int)) := fun W hk => (hk.cell (World.block_lt_of_cell? _ _ hcy.out) (by simp)).trans hcy.out
  have bj2 : (j : Int) < 176 := by omega
  obtain ⟨f, ⟨f0, f7, f8, f9, -⟩, rfl⟩ := hF.open93
  simp only [f0, f7, f8, f9]
  clear f0 f7 f8 f9 hF hu
  conv => arg 2; whnf
  refine wp_region_any (by kernel_rfl) ?_
  change wpAny _ _ _ _ _ _ _ (World.drew _)
  obtain ⟨W0, hW0⟩ : ∃ W0, W0 = w2.drew := ⟨_, rfl⟩
  rw [← hW0]
  have hk0 : Keep [] w2 W0 := by rw [hW0]; exact (Keep.refl [] w2).drew
  clear hW0
  go_simp
  refine wpAny_take (i := 0) (v := ?_) rfl (by kernel_rfl) (by kernel_rfl) (by kernel_rfl) (fun _ _ _ h => h) (Or.inl ⟨by rfl, ?_⟩) ?_
  rotate_left
  · intro y; go_simp; try (with_reducible rfl)
  rotate_left
  go_simp
  refine wpAny_take (i := 1) (v := ?_) rfl (by kernel_rfl) (by kernel_rfl) (by kernel_rfl) (fun _ _ _ h => h) (Or.inl ⟨by rfl, ?_⟩) ?_
  rotate_left
  · intro y; go_simp; try (with_reducible rfl)
  rotate_left
  go_simp
  refine wpAny_take (i := 2) (v := ?_) rfl (by kernel_rfl) (by kernel_rfl) (by kernel_rfl) (fun _ _ _ h => h) (Or.inl ⟨by rfl, ?_⟩) ?_
  rotate_left
  · intro y; go_simp; try (with_reducible rfl)
  rotate_left
  go_simp
  refine wpAny_take (i := 3) (v := ?_) rfl (by kernel_rfl) (by kernel_rfl) (by kernel_rfl) (fun _ _ _ h => h) (Or.inl ⟨by rfl, ?_⟩) ?_
  rotate_left
  · intro y; go_simp; try (with_reducible rfl)
  rotate_left
  go_simp
  refine wpAny_take (i := 4) (v := ?_) rfl (by kernel_rfl) (by kernel_rfl) (by kernel_rfl) (fun _ _ _ h => h) (Or.inl ⟨by rfl, ?_⟩) ?_
  rotate_left
  · intro y; go_simp; try (with_reducible rfl)
  rotate_left
  go_simp
  refine wpAny_take (i := 6) (v := ?_) rfl (by kernel_rfl) (by kernel_rfl) (by kernel_rfl) (fun _ _ _ h => h) (Or.inl ⟨by rfl, ?_⟩) ?_
  rotate_left
  · intro y; go_simp; try (with_reducible rfl)
  rotate_left
  go_simp
  refine wpAny_take (i := 7) (v := ?_) rfl (by kernel_rfl) (by kernel_rfl) (by kernel_rfl) (fun _ _ _ h => h) (Or.inl ⟨by rfl, ?_⟩) ?_
  rotate_left
  · intro y; go_simp; try (with_reducible rfl)
  rotate_left
  go_simp
  refine wpAny_take (i := 8) (v := ?_) rfl (by kernel_rfl) (by kernel_rfl) (by kernel_rfl) (fun _ _ _ h => h) (Or.inl ⟨by rfl, ?_⟩) ?_
  rotate_left
  · intro y; go_simp; try (with_reducible rfl)
  rotate_left
  go_simp
  refine wpAny_ready (rs := [5, 9]) (by kernel_rfl) (by simp) ?_
  refine AllReady.cons rfl (fun K hK => ?_) ?_
  ·
    apply step_wp
    · rfl
    have q := LX _ hk0
    refine ow_load1 _ _ rfl _ rfl (.int .u8 (x : Int)) (by simp [go_sem, q]) ?_
    clear q
    apply hK
    clear hK K
    go_simp
    refine wpAny_ready (rs := [9]) (by kernel_rfl) (by simp) ?_
    refine AllReady.cons rfl (fun K hK => ?_) ?_
    ·
      apply step_wp
      · rfl
      have q := LY _ hk0
      refine ow_load1 _ _ rfl _ rfl (.int .u8 (y : Int)) (by simp [go_sem, q]) ?_
      clear q
      apply hK
      clear hK K
      go_simp
      refine wpAny_take (i := 10) (v := ?_) rfl (by kernel_rfl) (by kernel_rfl) (by kernel_rfl) (fun _ _ _ h => h) (Or.inl ⟨by rfl, ?_⟩) ?_
      rotate_left
      · intro y; go_simp; try (with_reducible rfl)
      rotate_left
      go_simp
      refine wpAny_take (i := 11) (v := ?_) rfl (by kernel_rfl) (by kernel_rfl) (by kernel_rfl) (fun _ _ _ h => h) (Or.inl ⟨by rfl, ?_⟩) ?_
      rotate_left
      · intro y; go_simp; try (with_reducible rfl)
      rotate_left
      go_simp
      refine wpAny_ready (rs := [12]) (by kernel_rfl) (by simp) ?_
      refine AllReady.cons rfl (fun K hK => ?_) ?_
      ·
        apply step_wp
        · rfl
        refine ow_store1 _ _ _ rfl ⟨G, j, none⟩ (.int .u8 ((x ^^^ y : Nat) : Int)) rfl rfl (sto1 (LG _ hk0) (hfG.out _ hk0)) ?_
        apply hK
        clear hK K
        go_simp
        refine wpAny_done (by kernel_rfl) ?_ _
        exact hR.out _ _ ⟨rfl, rfl, by repeat (first | exact trivial | refine ⟨rfl, ?_⟩)⟩ hk0
      exact AllReady.nil
    exact AllReady.nil
  refine AllReady.cons rfl (fun K hK => ?_) ?_
  ·
    apply step_wp
    · rfl
    have q := LY _ hk0
    refine ow_load1 _ _ rfl _ rfl (.int .u8 (y : Int)) (by simp [go_sem, q]) ?_
    clear q
    apply hK
    clear hK K
    go_simp
    refine wpAny_ready (rs := [5]) (by kernel_rfl) (by simp) ?_
    refine AllReady.cons rfl (fun K hK => ?_) ?_
    ·
      apply step_wp
      · rfl
      have q := LX _ hk0
      refine ow_load1 _ _ rfl _ rfl (.int .u8 (x : Int)) (by simp [go_sem, q]) ?_
      clear q
      apply hK
      clear hK K
      go_simp
      refine wpAny_take (i := 10) (v := ?_) rfl (by kernel_rfl) (by kernel_rfl) (by kernel_rfl) (fun _ _ _ h => h) (Or.inl ⟨by rfl, ?_⟩) ?_
      rotate_left
      · intro y; go_simp; try (with_reducible rfl)
      rotate_left
      go_simp
      refine wpAny_take (i := 11) (v := ?_) rfl (by kernel_rfl) (by kernel_rfl) (by kernel_rfl) (fun _ _ _ h => h) (Or.inl ⟨by rfl, ?_⟩) ?_
      rotate_left
      · intro y; go_simp; try (with_reducible rfl)
      rotate_left
      go_simp
      refine wpAny_ready (rs := [12]) (by kernel_rfl) (by simp) ?_
      refine AllReady.cons rfl (fun K hK => ?_) ?_
      ·
        apply step_wp
        · rfl
        refine ow_store1 _ _ _ rfl ⟨G, j, none⟩ (.int .u8 ((x ^^^ y : Nat) : Int)) rfl rfl (sto1 (LG _ hk0) (hfG.out _ hk0)) ?_
        apply hK
        clear hK K
        go_simp
        refine wpAny_done (by kernel_rfl) ?_ _
        exact hR.out _ _ ⟨rfl, rfl, by repeat (first | exact trivial | refine ⟨rfl, ?_⟩)⟩ hk0
      exact AllReady.nil
    exact AllReady.nil
  exact AllReady.nil

noncomputable def hturn23 : Code := regionOf Try.f16 23
set_option maxRecDepth 100000 in
set_option maxHeartbeats 4000000 in
theorem turn_reg23 (R : Act → World → Prop) (a : Act) (w2 : World) (gb ob bc gw cw G c8 j x y : Nat) (T r : Nat) (hr : r ≤ 10) (hcx : Hid (w2.cell? ⟨T, j, none⟩ = some (.int .u8 (x : Int)))) (hcy : Hid (w2.cell? ⟨gw, 16 * r + j, none⟩ = some (.int .u8 (y : Int)))) (hx : x < 256) (hy : y < 256) (hcG : Hid (∃ u, w2.cell? ⟨G, j, none⟩ = some u)) (hfG : Hid (∀ W : World, Keep [] w2 W → W.frozen? ⟨G, j, none⟩ = false)) (hj : j < 16)
    (hF : Fr 93 [(0, .slice (some ⟨gb, ob, none⟩) 256 bc), (7, .slice (some ⟨gw, 0, none⟩) 176 cw), (8, .slice (some ⟨G, 0, none⟩) 16 c8), (10, .int .i64 r), (11, .slice (some ⟨T, 0, none⟩) 16 16), (14, .int .i64 j)] a)
    (hR : Hid (∀ a' W, Fr 93 [(0, .slice (some ⟨gb, ob, none⟩) 256 bc), (7, .slice (some ⟨gw, 0, none⟩) 176 cw), (8, .slice (some ⟨G, 0, none⟩) 16 c8), (10, .int .i64 r), (11, .slice (some ⟨T, 0, none⟩) 16 16), (14, .int .i64 j)] a' → Keep [] w2 W → R a' (W.setCell ⟨G, j, none⟩ (.int .u8 ((x ^^^ y : Nat) : Int))))) :
    Code.wp Try.prog hturn23 (OutN R) a w2 := by
  have X := u8_xor_nat x y hx hy
  obtain ⟨u, hu⟩ := hcG.out
  have LG : ∀ W, Keep [] w2 W → W.cell? ⟨G, j, none⟩ = some u := fun W hk => (hk.cell (World.block_lt_of_cell? _ _ hu) (by simp)).trans hu
  have bj : (0 : Int) ≤ (j : Int) ∧ (j : Int) < 16 := ⟨by omega, by omega⟩
  have LX : ∀ W, Keep [] w2 W → W.cell? ⟨T, j, none⟩ = some (.int .u8 (x : Int)) := fun W hk => (hk.cell (World.block_lt_of_cell? _ _ hcx.out) (by simp)).trans hcx.out
  have LY : ∀ W, Keep [] w2 W → W.cell? ⟨gw, 16 * r + j, none⟩ = some (.int .u8 (y : Int)) := fun W hk => (hk.cell (World.block_lt_of_cell? _ _ hcy.out) (by simp)).trans hcy.out
  have w1 : IntKind.i64.wrap (16 * (r : Int)) = 16 * r := wf_i64' _ (by omega) (by omega)
  have w2' : IntKind.i64.wrap (16 * (r : Int) + j) = 16 * r + j := wf_i64' _ (by omega) (by omega)
  have e1 : (16 * (r : Int) + (j : Int)).toNat = 16 * r + j := by omega
  have bj2 : (0 : Int) ≤ 16 * (r : Int) + j ∧ 16 * (r : Int) + j < 176 := ⟨by omega, by omega⟩
  obtain ⟨f, ⟨f0, f7, f8, f10, f11, f14, -⟩, rfl⟩ := hF.open93
  simp only [f0, f7, f8, f10, f11, f14]
  clear f0 f7 f8 f10 f11 f14 hF hu
  conv => arg 2; whnf
  refine wp_region_any (by kernel_rfl) ?_
  change wpAny _ _ _ _ _ _ _ (World.drew _)
  obtain ⟨W0, hW0⟩ : ∃ W0, W0 = w2.drew := ⟨_, rfl⟩
  rw [← hW0]
  have hk0 : Keep [] w2 W0 := by rw [hW0]; exact (Keep.refl [] w2).drew
  clear hW0
  go_simp
  refine wpAny_take (i := 0) (v := ?_) rfl (by kernel_rfl) (by kernel_rfl) (by kernel_rfl) (fun _ _ _ h => h) (Or.inl ⟨by rfl, ?_⟩) ?_
  rotate_left
  · intro y; go_simp; try (with_reducible rfl)
  rotate_left
  go_simp
  refine wpAny_take (i := 1) (v := ?_) rfl (by kernel_rfl) (by kernel_rfl) (by kernel_rfl) (fun _ _ _ h => h) (Or.inl ⟨by rfl, ?_⟩) ?_
  rotate_left
  · intro y; go_simp; try (with_reducible rfl)
  rotate_left
  go_simp
  refine wpAny_take (i := 2) (v := ?_) rfl (by kernel_rfl) (by kernel_rfl) (by kernel_rfl) (fun _ _ _ h => h) (Or.inl ⟨by rfl, ?_⟩) ?_
  rotate_left
  · intro y; go_simp; try (with_reducible rfl)
  rotate_left
  go_simp
  refine wpAny_take (i := 3) (v := ?_) rfl (by kernel_rfl) (by kernel_rfl) (by kernel_rfl) (fun _ _ _ h => h) (Or.inl ⟨by rfl, ?_⟩) ?_
  rotate_left
  · intro y; go_simp; try (with_reducible rfl)
  rotate_left
  go_simp
  refine wpAny_take (i := 4) (v := ?_) rfl (by kernel_rfl) (by kernel_rfl) (by kernel_rfl) (fun _ _ _ h => h) (Or.inl ⟨by rfl, ?_⟩) ?_
  rotate_left
  · intro y; go_simp; try (with_reducible rfl)
  rotate_left
  go_simp
  refine wpAny_take (i := 6) (v := ?_) rfl (by kernel_rfl) (by kernel_rfl) (by kernel_rfl) (fun _ _ _ h => h) (Or.inl ⟨by rfl, ?_⟩) ?_
  rotate_left
  · intro y; go_simp; try (with_reducible rfl)
  rotate_left
  go_simp
  refine wpAny_take (i := 7) (v := ?_) rfl (by kernel_rfl) (by kernel_rfl) (by kernel_rfl) (fun _ _ _ h => h) (Or.inl ⟨by rfl, ?_⟩) ?_
  rotate_left
  · intro y; go_simp; try (with_reducible rfl)
  rotate_left
  go_simp
  refine wpAny_take (i := 8) (v := ?_) rfl (by kernel_rfl) (by kernel_rfl) (by kernel_rfl) (fun _ _ _ h => h) (Or.inl ⟨by rfl, ?_⟩) ?_
  rotate_left
  · intro y; go_simp; try (with_reducible rfl)
  rotate_left
  go_simp
  refine wpAny_take (i := 9) (v := ?_) rfl (by kernel_rfl) (by kernel_rfl) (by kernel_rfl) (fun _ _ _ h => h) (Or.inl ⟨by rfl, ?_⟩) ?_
  rotate_left
  · intro y; go_simp; try (with_reducible rfl)
  rotate_left
  go_simp
  refine wpAny_take (i := 10) (v := ?_) rfl (by kernel_rfl) (by kernel_rfl) (by kernel_rfl) (fun _ _ _ h => h) (Or.inl ⟨by rfl, ?_⟩) ?_
  rotate_left
  · intro y; go_simp; try (with_reducible rfl)
  rotate_left
  go_simp
  refine wpAny_take (i := 11) (v := ?_) rfl (by kernel_rfl) (by kernel_rfl) (by kernel_rfl) (fun _ _ _ h => h) (Or.inl ⟨by rfl, ?_⟩) ?_
  rotate_left
  · intro y; go_simp; try (with_reducible rfl)
  rotate_left
  go_simp
  refine wpAny_ready (rs := [5, 12]) (by kernel_rfl) (by simp) ?_
  refine AllReady.cons rfl (fun K hK => ?_) ?_
  ·
    apply step_wp
    · rfl
    have q := LX _ hk0
    refine ow_load1 _ _ rfl _ rfl (.int .u8 (x : Int)) (by simp [go_sem, q]) ?_
    clear q
    apply hK
    clear hK K
    go_simp
    refine wpAny_ready (rs := [12]) (by kernel_rfl) (by simp) ?_
    refine AllReady.cons rfl (fun K hK => ?_) ?_
    ·
      apply step_wp
      · rfl
      have q := LY _ hk0
      refine ow_load1 _ _ rfl _ rfl (.int .u8 (y : Int)) (by simp [go_sem, q]) ?_
      clear q
      apply hK
      clear hK K
      go_simp
      refine wpAny_take (i := 13) (v := ?_) rfl (by kernel_rfl) (by kernel_rfl) (by kernel_rfl) (fun _ _ _ h => h) (Or.inl ⟨by rfl, ?_⟩) ?_
      rotate_left
      · intro y; go_simp; try (with_reducible rfl)
      rotate_left
      go_simp
      refine wpAny_take (i := 14) (v := ?_) rfl (by kernel_rfl) (by kernel_rfl) (by kernel_rfl) (fun _ _ _ h => h) (Or.inl ⟨by rfl, ?_⟩) ?_
      rotate_left
      · intro y; go_simp; try (with_reducible rfl)
      rotate_left
      go_simp
      refine wpAny_ready (rs := [15]) (by kernel_rfl) (by simp) ?_
      refine AllReady.cons rfl (fun K hK => ?_) ?_
      ·
        apply step_wp
        · rfl
        refine ow_store1 _ _ _ rfl ⟨G, j, none⟩ (.int .u8 ((x ^^^ y : Nat) : Int)) rfl rfl (sto1 (LG _ hk0) (hfG.out _ hk0)) ?_
        apply hK
        clear hK K
        go_simp
        refine wpAny_done (by kernel_rfl) ?_ _
        exact hR.out _ _ ⟨rfl, rfl, by repeat (first | exact trivial | refine ⟨rfl, ?_⟩)⟩ hk0
      exact AllReady.nil
    exact AllReady.nil
  refine AllReady.cons rfl (fun K hK => ?_) ?_
  ·
    apply step_wp
    · rfl
    have q := LY _ hk0
    refine ow_load1 _ _ rfl _ rfl (.int .u8 (y : Int)) (by simp [go_sem, q]) ?_
    clear q
    apply hK
    clear hK K
    go_simp
    refine wpAny_ready (rs := [5]) (by kernel_rfl) (by simp) ?_
    refine AllReady.cons rfl (fun K hK => ?_) ?_
    ·
      apply step_wp
      · rfl
      have q := LX _ hk0
      refine ow_load1 _ _ rfl _ rfl (.int .u8 (x : Int)) (by simp [go_sem, q]) ?_
      clear q
      apply hK
      clear hK K
      go_simp
      refine wpAny_take (i := 13) (v := ?_) rfl (by kernel_rfl) (by kernel_rfl) (by kernel_rfl) (fun _ _ _ h => h) (Or.inl ⟨by rfl, ?_⟩) ?_
      rotate_left
      · intro y; go_simp; try (with_reducible rfl)
      rotate_left
      go_simp
      refine wpAny_take (i := 14) (v := ?_) rfl (by kernel_rfl) (by kernel_rfl) (by kernel_rfl) (fun _ _ _ h => h) (Or.inl ⟨by rfl, ?_⟩) ?_
      rotate_left
      · intro y; go_simp; try (with_reducible rfl)
      rotate_left
      go_simp
      refine wpAny_ready (rs := [15]) (by kernel_rfl) (by simp) ?_
      refine AllReady.cons rfl (fun K hK => ?_) ?_
      ·
        apply step_wp
        · rfl
        refine ow_store1 _ _ _ rfl ⟨G, j, none⟩ (.int .u8 ((x ^^^ y : Nat) : Int)) rfl rfl (sto1 (LG _ hk0) (hfG.out _ hk0)) ?_
        apply hK
        clear hK K
        go_simp
        refine wpAny_done (by kernel_rfl) ?_ _
        exact hR.out _ _ ⟨rfl, rfl, by repeat (first | exact trivial | refine ⟨rfl, ?_⟩)⟩ hk0
      exact AllReady.nil
    exact AllReady.nil
  exact AllReady.nil

end Go.Proofs.Ytpjkicbfdknjcaa
