/-
  Frames of the document's functions' sizes, opened (aes, Turn).
  The document's answer to a block: its drawn regions.
  The document's answer to a block: its loops.
  The document's answer to a block: bytes exchanged and moved.
  The document's answer to a block, by a key.
-/
import Derived.Test.YtlkjngbelckgkaaGen
import Derived.Test.YtlkjngbelckgkaaRKeys
namespace Go.Proofs.Ytlkjngbelckgkaa
open Go.RowKit

set_option maxRecDepth 100000 in
theorem letters93 (f : Nat → Value) : (List.range 93).map f = [f 0, f 1, f 2, f 3, f 4, f 5, f 6, f 7, f 8, f 9, f 10, f 11, f 12, f 13, f 14, f 15, f 16, f 17, f 18, f 19, f 20, f 21, f 22, f 23, f 24, f 25, f 26, f 27, f 28, f 29, f 30, f 31, f 32, f 33, f 34, f 35, f 36, f 37, f 38, f 39, f 40, f 41, f 42, f 43, f 44, f 45, f 46, f 47, f 48, f 49, f 50, f 51, f 52, f 53, f 54, f 55, f 56, f 57, f 58, f 59, f 60, f 61, f 62, f 63, f 64, f 65, f 66, f 67, f 68, f 69, f 70, f 71, f 72, f 73, f 74, f 75, f 76, f 77, f 78, f 79, f 80, f 81, f 82, f 83, f 84, f 85, f 86, f 87, f 88, f 89, f 90, f 91, f 92] := by kernel_rfl
set_option maxRecDepth 100000 in
theorem Fr.open93 {l : List (Nat × Value)} {a : Act} (h : Fr 93 l a) : ∃ f : Nat → Value, Holds f l ∧ a = ⟨#[f 0, f 1, f 2, f 3, f 4, f 5, f 6, f 7, f 8, f 9, f 10, f 11, f 12, f 13, f 14, f 15, f 16, f 17, f 18, f 19, f 20, f 21, f 22, f 23, f 24, f 25, f 26, f 27, f 28, f 29, f 30, f 31, f 32, f 33, f 34, f 35, f 36, f 37, f 38, f 39, f 40, f 41, f 42, f 43, f 44, f 45, f 46, f 47, f 48, f 49, f 50, f 51, f 52, f 53, f 54, f 55, f 56, f 57, f 58, f 59, f 60, f 61, f 62, f 63, f 64, f 65, f 66, f 67, f 68, f 69, f 70, f 71, f 72, f 73, f 74, f 75, f 76, f 77, f 78, f 79, f 80, f 81, f 82, f 83, f 84, f 85, f 86, f 87, f 88, f 89, f 90, f 91, f 92], []⟩ := by
  refine ⟨fun k => a.tmps.getD k undef, h.slot, ?_⟩
  obtain ⟨t, d⟩ := a
  obtain ⟨h1, h2, _⟩ := h
  simp only at h1 h2
  subst h1
  have e := arr_letters t 93 h2
  rw [letters93 (fun k => t.getD k undef)] at e
  exact congrArg (fun t => Act.mk t []) e

/-- One cell stored, in a region. -/
theorem ow_store1 {P : Program} {o : Oper} {a : Act} {w : World} {K : Act → World → Prop} {Q : Exit → Act → World → Prop} (t : TypeId) (x y : Operand) (ho : o.op = .store t x y) (p : Addr) (v : Value) (hx : a.eval x = .pointer (some p)) (hy : a.eval y = v)
    (hrun : (storeVar t p v).run P w = .ok () (w.setCell p v)) (h : K (a.put o.dst undef) (w.setCell p v)) : o.wp P a w K Q := by
  unfold Oper.wp execOp
  simp only [ho, hx, hy, Instr.storeAt, Instr.sureAddr, Sem.run_bind, Sem.run_pure, Result.andThen_ok, hrun]
  exact h
/-- In block g lie these bytes, and perhaps more behind them. -/
def Row (w : World) (g : Nat) (l : List Int) : Prop := ∃ cur : Array Value, Blk w g 5 cur ∧ l.length ≤ cur.size ∧ cur.toList.take l.length = l.map (Value.int .u8)
theorem Row.cell {w : World} {g : Nat} {l : List Int} (h : Row w g l) (j : Nat) (hj : j < l.length) : w.cell? ⟨g, j, none⟩ = some (.int .u8 (l.getD j 0)) := by
  obtain ⟨cur, hb, hl, ht⟩ := h
  rw [hb.cell]
  have := congrArg (fun L => L[j]?) ht
  simp only [List.getElem?_take, if_pos hj, List.getElem?_map] at this
  rw [List.getElem?_eq_getElem hj] at this
  simpa [List.getD_eq_getElem?_getD, hj] using this
theorem Row.frozen {w : World} {g : Nat} {l : List Int} (h : Row w g l) (j : Nat) : w.frozen? ⟨g, j, none⟩ = false := by
  obtain ⟨cur, hb, _⟩ := h
  exact hb.frozen j
theorem Row.keep {w w' : World} {g : Nat} {l : List Int} {S : List Nat} (h : Row w g l) (k : Keep S w w') (hg : g ∉ S) : Row w' g l := by
  obtain ⟨cur, hb, h1⟩ := h
  exact ⟨cur, hb.keep k hg, h1⟩
theorem Row.lt {w : World} {g : Nat} {l : List Int} (h : Row w g l) : g < w.heap.size := by obtain ⟨cur, hb, _⟩ := h; exact hb.lt
theorem Row.set {w : World} {g : Nat} {l : List Int} (h : Row w g l) (j : Nat) (v : Int) : Row (w.setCell ⟨g, j, none⟩ (.int .u8 v)) g (l.set j v) := by
  obtain ⟨cur, hb, hl, ht⟩ := h
  refine ⟨_, hb.set_ j _, by simpa using hl, ?_⟩
  rw [List.length_set, Array.toList_setIfInBounds, List.map_set, ← ht, List.take_set]
theorem Row.upd {w : World} {g : Nat} {f : Nat → Int} {s : List Int} {n : Nat} (h : Row w g (upd f s n)) (hn : n < s.length) {v : Int} (hv : v = f n) : Row (w.setCell ⟨g, n, none⟩ (.int .u8 v)) g (_root_.Go.Proofs.Ytlkjngbelckgkaa.upd f s (n + 1)) := by
  subst hv
  have := h.set n (f n)
  rwa [upd_set f s n hn] at this
theorem Row.of_blk {w : World} {g : Nat} {l : List Int} (h : Blk w g 5 (l.map (Value.int .u8)).toArray) : Row w g l := ⟨_, h, by simp, by rw [List.take_of_length_le (by simp)]⟩
theorem Row.of_own {w : World} {base n g c : Nat} {l : List Int} (h : w.ownsRow base 5 1 (.slice (some ⟨g, 0, none⟩) n c) n (l.map (Value.int .u8))) : Row w g l := by
  have hl : l.length = n := by simpa using h.1
  rcases h.2 with ⟨hv, h0⟩ | ⟨g', cap, cur, hv, hb, hh, hn, hm, hs, ht⟩
  · simp at hv
  · simp only [Value.slice.injEq, Option.some.injEq, Addr.mk.injEq, and_true, true_and] at hv
    obtain ⟨rfl, rfl⟩ := hv
    refine ⟨cur, hh, ?_, ?_⟩
    · rw [hl]
      have := congrArg List.length ht
      simp at this
      omega
    · rw [hl]; simpa using ht
theorem Row.sl {w : World} {g c : Nat} {l : List Int} (h : Row w g l) (hw : ∀ x ∈ l, (Lit.int .u8 x).wf = true) (h1 : l.length ≤ c) (h2 : c ≤ 9223372036854775807) : Sl .u8 w (.slice (some ⟨g, 0, none⟩) l.length c) l := by
  refine ⟨_, c, rfl, h1, h2, fun hp => ⟨g, 0, rfl, fun j u hu => ?_⟩, hw⟩
  rw [List.getElem?_map] at hu
  by_cases hj : j < l.length
  · rw [Nat.zero_add, h.cell j hj]
    rw [List.getElem?_eq_getElem hj] at hu
    simpa [List.getD_eq_getElem?_getD, hj] using hu
  · rw [List.getElem?_eq_none (by omega)] at hu
    cases hu
theorem sto1 {w : World} {p : Addr} {u : Value} {v : Int} (h : w.cell? p = some u) (hf : w.frozen? p = false) : (storeVar 5 p (.int .u8 v)).run Try.prog w = .ok () (w.setCell p (.int .u8 v)) := by
  simp [go_sem, h, hf]

noncomputable def hturn6 : Code := regionOf Try.f18 6
set_option maxRecDepth 100000 in
set_option maxHeartbeats 4000000 in
theorem turn_reg6 (R : Act → World → Prop) (a : Act) (w2 : World) (gb ob bc gw cw G c8 j x y : Nat) (hcx : Hid (w2.cell? ⟨G, j, none⟩ = some (.int .u8 (x : Int)))) (hcy : Hid (w2.cell? ⟨gw, j, none⟩ = some (.int .u8 (y : Int)))) (hx : x < 256) (hy : y < 256) (hcG : Hid (∃ u, w2.cell? ⟨G, j, none⟩ = some u)) (hfG : Hid (∀ W : World, Keep [] w2 W → W.frozen? ⟨G, j, none⟩ = false)) (hj : j < 16)
    (hF : Fr 93 [(0, .slice (some ⟨gb, ob, none⟩) 256 bc), (7, .slice (some ⟨gw, 0, none⟩) 176 cw), (8, .slice (some ⟨G, 0, none⟩) 16 c8), (9, .int .i64 j)] a)
    (hR : Hid (∀ a' W, Fr 93 [(0, .slice (some ⟨gb, ob, none⟩) 256 bc), (7, .slice (some ⟨gw, 0, none⟩) 176 cw), (8, .slice (some ⟨G, 0, none⟩) 16 c8), (9, .int .i64 j)] a' → Keep [] w2 W → R a' (W.setCell ⟨G, j, none⟩ (.int .u8 ((x ^^^ y : Nat) : Int))))) :
    Code.wp Try.prog hturn6 (OutN R) a w2 := by
  have X := u8_xor_nat x y hx hy
  obtain ⟨u, hu⟩ := hcG.out
  have LG : ∀ W, Keep [] w2 W → W.cell? ⟨G, j, none⟩ = some u := fun W hk => (hk.cell (World.block_lt_of_cell? _ _ hu) (by simp)).trans hu
  have bj : (0 : Int) ≤ (j : Int) ∧ (j : Int) < 16 := ⟨by omega, by omega⟩
  have LX : ∀ W, Keep [] w2 W → W.cell? ⟨G, j, none⟩ = some (.int .u8 (x : Int)) := fun W hk => (hk.cell (World.block_lt_of_cell? _ _ hcx.out) (by simp)).trans hcx.out
  have LY : ∀ W, Keep [] w2 W → W.cell? ⟨gw, j, none⟩ = some (.int .u8 (y : Int)) := fun W hk => (hk.cell (World.block_lt_of_cell? _ _ hcy.out) (by simp)).trans hcy.out
  have bj2 : (j : Int) < 176 := by omega
  obtain ⟨f, ⟨f0, f7, f8, f9, -⟩, rfl⟩ := hF.open93
  simp only [f0, f7, f8, f9]
  clear f0 f7 f8 f9 hF hu
  conv => arg 2; whnf
  refine wp_region_any (by kernel_rfl) ?_
  change wpAny _ _ _ _ _ _ _ (World.drew _)
  obtain ⟨W0, hW0⟩ : ∃ W0, W0 = w2.drew := ⟨_, rfl⟩
  rw [← hW0]
  have hk0 : Keep [] w2 W0 := by rw [hW0]; exact (Keep.refl [] w2).drew
  clear hW0
  go_simp
  refine wpAny_take (i := 0) (v := ?_) rfl (by kernel_rfl) (by kernel_rfl) (by kernel_rfl) (fun _ _ _ h => h) (Or.inl ⟨by rfl, ?_⟩) ?_
  rotate_left
  · intro y; go_simp; try (with_reducible rfl)
  rotate_left
  go_simp
  refine wpAny_take (i := 1) (v := ?_) rfl (by kernel_rfl) (by kernel_rfl) (by kernel_rfl) (fun _ _ _ h => h) (Or.inl ⟨by rfl, ?_⟩) ?_
  rotate_left
  · intro y; go_simp; try (with_reducible rfl)
  rotate_left
  go_simp
  refine wpAny_take (i := 2) (v := ?_) rfl (by kernel_rfl) (by kernel_rfl) (by kernel_rfl) (fun _ _ _ h => h) (Or.inl ⟨by rfl, ?_⟩) ?_
  rotate_left
  · intro y; go_simp; try (with_reducible rfl)
  rotate_left
  go_simp
  refine wpAny_take (i := 3) (v := ?_) rfl (by kernel_rfl) (by kernel_rfl) (by kernel_rfl) (fun _ _ _ h => h) (Or.inl ⟨by rfl, ?_⟩) ?_
  rotate_left
  · intro y; go_simp; try (with_reducible rfl)
  rotate_left
  go_simp
  refine wpAny_take (i := 4) (v := ?_) rfl (by kernel_rfl) (by kernel_rfl) (by kernel_rfl) (fun _ _ _ h => h) (Or.inl ⟨by rfl, ?_⟩) ?_
  rotate_left
  · intro y; go_simp; try (with_reducible rfl)
  rotate_left
  go_simp
  refine wpAny_take (i := 6) (v := ?_) rfl (by kernel_rfl) (by kernel_rfl) (by kernel_rfl) (fun _ _ _ h => h) (Or.inl ⟨by rfl, ?_⟩) ?_
  rotate_left
  · intro y; go_simp; try (with_reducible rfl)
  rotate_left
  go_simp
  refine wpAny_take (i := 7) (v := ?_) rfl (by kernel_rfl) (by kernel_rfl) (by kernel_rfl) (fun _ _ _ h => h) (Or.inl ⟨by rfl, ?_⟩) ?_
  rotate_left
  · intro y; go_simp; try (with_reducible rfl)
  rotate_left
  go_simp
  refine wpAny_take (i := 8) (v := ?_) rfl (by kernel_rfl) (by kernel_rfl) (by kernel_rfl) (fun _ _ _ h => h) (Or.inl ⟨by rfl, ?_⟩) ?_
  rotate_left
  · intro y; go_simp; try (with_reducible rfl)
  rotate_left
  go_simp
  refine wpAny_ready (rs := [5, 9]) (by kernel_rfl) (by simp) ?_
  refine AllReady.cons rfl (fun K hK => ?_) ?_
  ·
    apply step_wp
    · rfl
    have q := LX _ hk0
    refine ow_load1 _ _ rfl _ rfl (.int .u8 (x : Int)) (by simp [go_sem, q]) ?_
    clear q
    apply hK
    clear hK K
    go_simp
    refine wpAny_ready (rs := [9]) (by kernel_rfl) (by simp) ?_
    refine AllReady.cons rfl (fun K hK => ?_) ?_
    ·
      apply step_wp
      · rfl
      have q := LY _ hk0
      refine ow_load1 _ _ rfl _ rfl (.int .u8 (y : Int)) (by simp [go_sem, q]) ?_
      clear q
      apply hK
      clear hK K
      go_simp
      refine wpAny_take (i := 10) (v := ?_) rfl (by kernel_rfl) (by kernel_rfl) (by kernel_rfl) (fun _ _ _ h => h) (Or.inl ⟨by rfl, ?_⟩) ?_
      rotate_left
      · intro y; go_simp; try (with_reducible rfl)
      rotate_left
      go_simp
      refine wpAny_take (i := 11) (v := ?_) rfl (by kernel_rfl) (by kernel_rfl) (by kernel_rfl) (fun _ _ _ h => h) (Or.inl ⟨by rfl, ?_⟩) ?_
      rotate_left
      · intro y; go_simp; try (with_reducible rfl)
      rotate_left
      go_simp
      refine wpAny_ready (rs := [12]) (by kernel_rfl) (by simp) ?_
      refine AllReady.cons rfl (fun K hK => ?_) ?_
      ·
        apply step_wp
        · rfl
        refine ow_store1 _ _ _ rfl ⟨G, j, none⟩ (.int .u8 ((x ^^^ y : Nat) : Int)) rfl rfl (sto1 (LG _ hk0) (hfG.out _ hk0)) ?_
        apply hK
        clear hK K
        go_simp
        refine wpAny_done (by kernel_rfl) ?_ _
        exact hR.out _ _ ⟨rfl, rfl, by repeat (first | exact trivial | refine ⟨rfl, ?_⟩)⟩ hk0
      exact AllReady.nil
    exact AllReady.nil
  refine AllReady.cons rfl (fun K hK => ?_) ?_
  ·
    apply step_wp
    · rfl
    have q := LY _ hk0
    refine ow_load1 _ _ rfl _ rfl (.int .u8 (y : Int)) (by simp [go_sem, q]) ?_
    clear q
    apply hK
    clear hK K
    go_simp
    refine wpAny_ready (rs := [5]) (by kernel_rfl) (by simp) ?_
    refine AllReady.cons rfl (fun K hK => ?_) ?_
    ·
      apply step_wp
      · rfl
      have q := LX _ hk0
      refine ow_load1 _ _ rfl _ rfl (.int .u8 (x : Int)) (by simp [go_sem, q]) ?_
      clear q
      apply hK
      clear hK K
      go_simp
      refine wpAny_take (i := 10) (v := ?_) rfl (by kernel_rfl) (by kernel_rfl) (by kernel_rfl) (fun _ _ _ h => h) (Or.inl ⟨by rfl, ?_⟩) ?_
      rotate_left
      · intro y; go_simp; try (with_reducible rfl)
      rotate_left
      go_simp
      refine wpAny_take (i := 11) (v := ?_) rfl (by kernel_rfl) (by kernel_rfl) (by kernel_rfl) (fun _ _ _ h => h) (Or.inl ⟨by rfl, ?_⟩) ?_
      rotate_left
      · intro y; go_simp; try (with_reducible rfl)
      rotate_left
      go_simp
      refine wpAny_ready (rs := [12]) (by kernel_rfl) (by simp) ?_
      refine AllReady.cons rfl (fun K hK => ?_) ?_
      ·
        apply step_wp
        · rfl
        refine ow_store1 _ _ _ rfl ⟨G, j, none⟩ (.int .u8 ((x ^^^ y : Nat) : Int)) rfl rfl (sto1 (LG _ hk0) (hfG.out _ hk0)) ?_
        apply hK
        clear hK K
        go_simp
        refine wpAny_done (by kernel_rfl) ?_ _
        exact hR.out _ _ ⟨rfl, rfl, by repeat (first | exact trivial | refine ⟨rfl, ?_⟩)⟩ hk0
      exact AllReady.nil
    exact AllReady.nil
  exact AllReady.nil

noncomputable def hturn23 : Code := regionOf Try.f18 23
set_option maxRecDepth 100000 in
set_option maxHeartbeats 4000000 in
theorem turn_reg23 (R : Act → World → Prop) (a : Act) (w2 : World) (gb ob bc gw cw G c8 j x y : Nat) (T r : Nat) (hr : r ≤ 10) (hcx : Hid (w2.cell? ⟨T, j, none⟩ = some (.int .u8 (x : Int)))) (hcy : Hid (w2.cell? ⟨gw, 16 * r + j, none⟩ = some (.int .u8 (y : Int)))) (hx : x < 256) (hy : y < 256) (hcG : Hid (∃ u, w2.cell? ⟨G, j, none⟩ = some u)) (hfG : Hid (∀ W : World, Keep [] w2 W → W.frozen? ⟨G, j, none⟩ = false)) (hj : j < 16)
    (hF : Fr 93 [(0, .slice (some ⟨gb, ob, none⟩) 256 bc), (7, .slice (some ⟨gw, 0, none⟩) 176 cw), (8, .slice (some ⟨G, 0, none⟩) 16 c8), (10, .int .i64 r), (11, .slice (some ⟨T, 0, none⟩) 16 16), (14, .int .i64 j)] a)
    (hR : Hid (∀ a' W, Fr 93 [(0, .slice (some ⟨gb, ob, none⟩) 256 bc), (7, .slice (some ⟨gw, 0, none⟩) 176 cw), (8, .slice (some ⟨G, 0, none⟩) 16 c8), (10, .int .i64 r), (11, .slice (some ⟨T, 0, none⟩) 16 16), (14, .int .i64 j)] a' → Keep [] w2 W → R a' (W.setCell ⟨G, j, none⟩ (.int .u8 ((x ^^^ y : Nat) : Int))))) :
    Code.wp Try.prog hturn23 (OutN R) a w2 := by
  have X := u8_xor_nat x y hx hy
  obtain ⟨u, hu⟩ := hcG.out
  have LG : ∀ W, Keep [] w2 W → W.cell? ⟨G, j, none⟩ = some u := fun W hk => (hk.cell (World.block_lt_of_cell? _ _ hu) (by simp)).trans hu
  have bj : (0 : Int) ≤ (j : Int) ∧ (j : Int) < 16 := ⟨by omega, by omega⟩
  have LX : ∀ W, Keep [] w2 W → W.cell? ⟨T, j, none⟩ = some (.int .u8 (x : Int)) := fun W hk => (hk.cell (World.block_lt_of_cell? _ _ hcx.out) (by simp)).trans hcx.out
  have LY : ∀ W, Keep [] w2 W → W.cell? ⟨gw, 16 * r + j, none⟩ = some (.int .u8 (y : Int)) := fun W hk => (hk.cell (World.block_lt_of_cell? _ _ hcy.out) (by simp)).trans hcy.out
  have w1 : IntKind.i64.wrap (16 * (r : Int)) = 16 * r := wf_i64' _ (by omega) (by omega)
  have w2' : IntKind.i64.wrap (16 * (r : Int) + j) = 16 * r + j := wf_i64' _ (by omega) (by omega)
  have e1 : (16 * (r : Int) + (j : Int)).toNat = 16 * r + j := by omega
  have bj2 : (0 : Int) ≤ 16 * (r : Int) + j ∧ 16 * (r : Int) + j < 176 := ⟨by omega, by omega⟩
  obtain ⟨f, ⟨f0, f7, f8, f10, f11, f14, -⟩, rfl⟩ := hF.open93
  simp only [f0, f7, f8, f10, f11, f14]
  clear f0 f7 f8 f10 f11 f14 hF hu
  conv => arg 2; whnf
  refine wp_region_any (by kernel_rfl) ?_
  change wpAny _ _ _ _ _ _ _ (World.drew _)
  obtain ⟨W0, hW0⟩ : ∃ W0, W0 = w2.drew := ⟨_, rfl⟩
  rw [← hW0]
  have hk0 : Keep [] w2 W0 := by rw [hW0]; exact (Keep.refl [] w2).drew
  clear hW0
  go_simp
  refine wpAny_take (i := 0) (v := ?_) rfl (by kernel_rfl) (by kernel_rfl) (by kernel_rfl) (fun _ _ _ h => h) (Or.inl ⟨by rfl, ?_⟩) ?_
  rotate_left
  · intro y; go_simp; try (with_reducible rfl)
  rotate_left
  go_simp
  refine wpAny_take (i := 1) (v := ?_) rfl (by kernel_rfl) (by kernel_rfl) (by kernel_rfl) (fun _ _ _ h => h) (Or.inl ⟨by rfl, ?_⟩) ?_
  rotate_left
  · intro y; go_simp; try (with_reducible rfl)
  rotate_left
  go_simp
  refine wpAny_take (i := 2) (v := ?_) rfl (by kernel_rfl) (by kernel_rfl) (by kernel_rfl) (fun _ _ _ h => h) (Or.inl ⟨by rfl, ?_⟩) ?_
  rotate_left
  · intro y; go_simp; try (with_reducible rfl)
  rotate_left
  go_simp
  refine wpAny_take (i := 3) (v := ?_) rfl (by kernel_rfl) (by kernel_rfl) (by kernel_rfl) (fun _ _ _ h => h) (Or.inl ⟨by rfl, ?_⟩) ?_
  rotate_left
  · intro y; go_simp; try (with_reducible rfl)
  rotate_left
  go_simp
  refine wpAny_take (i := 4) (v := ?_) rfl (by kernel_rfl) (by kernel_rfl) (by kernel_rfl) (fun _ _ _ h => h) (Or.inl ⟨by rfl, ?_⟩) ?_
  rotate_left
  · intro y; go_simp; try (with_reducible rfl)
  rotate_left
  go_simp
  refine wpAny_take (i := 6) (v := ?_) rfl (by kernel_rfl) (by kernel_rfl) (by kernel_rfl) (fun _ _ _ h => h) (Or.inl ⟨by rfl, ?_⟩) ?_
  rotate_left
  · intro y; go_simp; try (with_reducible rfl)
  rotate_left
  go_simp
  refine wpAny_take (i := 7) (v := ?_) rfl (by kernel_rfl) (by kernel_rfl) (by kernel_rfl) (fun _ _ _ h => h) (Or.inl ⟨by rfl, ?_⟩) ?_
  rotate_left
  · intro y; go_simp; try (with_reducible rfl)
  rotate_left
  go_simp
  refine wpAny_take (i := 8) (v := ?_) rfl (by kernel_rfl) (by kernel_rfl) (by kernel_rfl) (fun _ _ _ h => h) (Or.inl ⟨by rfl, ?_⟩) ?_
  rotate_left
  · intro y; go_simp; try (with_reducible rfl)
  rotate_left
  go_simp
  refine wpAny_take (i := 9) (v := ?_) rfl (by kernel_rfl) (by kernel_rfl) (by kernel_rfl) (fun _ _ _ h => h) (Or.inl ⟨by rfl, ?_⟩) ?_
  rotate_left
  · intro y; go_simp; try (with_reducible rfl)
  rotate_left
  go_simp
  refine wpAny_take (i := 10) (v := ?_) rfl (by kernel_rfl) (by kernel_rfl) (by kernel_rfl) (fun _ _ _ h => h) (Or.inl ⟨by rfl, ?_⟩) ?_
  rotate_left
  · intro y; go_simp; try (with_reducible rfl)
  rotate_left
  go_simp
  refine wpAny_take (i := 11) (v := ?_) rfl (by kernel_rfl) (by kernel_rfl) (by kernel_rfl) (fun _ _ _ h => h) (Or.inl ⟨by rfl, ?_⟩) ?_
  rotate_left
  · intro y; go_simp; try (with_reducible rfl)
  rotate_left
  go_simp
  refine wpAny_ready (rs := [5, 12]) (by kernel_rfl) (by simp) ?_
  refine AllReady.cons rfl (fun K hK => ?_) ?_
  ·
    apply step_wp
    · rfl
    have q := LX _ hk0
    refine ow_load1 _ _ rfl _ rfl (.int .u8 (x : Int)) (by simp [go_sem, q]) ?_
    clear q
    apply hK
    clear hK K
    go_simp
    refine wpAny_ready (rs := [12]) (by kernel_rfl) (by simp) ?_
    refine AllReady.cons rfl (fun K hK => ?_) ?_
    ·
      apply step_wp
      · rfl
      have q := LY _ hk0
      refine ow_load1 _ _ rfl _ rfl (.int .u8 (y : Int)) (by simp [go_sem, q]) ?_
      clear q
      apply hK
      clear hK K
      go_simp
      refine wpAny_take (i := 13) (v := ?_) rfl (by kernel_rfl) (by kernel_rfl) (by kernel_rfl) (fun _ _ _ h => h) (Or.inl ⟨by rfl, ?_⟩) ?_
      rotate_left
      · intro y; go_simp; try (with_reducible rfl)
      rotate_left
      go_simp
      refine wpAny_take (i := 14) (v := ?_) rfl (by kernel_rfl) (by kernel_rfl) (by kernel_rfl) (fun _ _ _ h => h) (Or.inl ⟨by rfl, ?_⟩) ?_
      rotate_left
      · intro y; go_simp; try (with_reducible rfl)
      rotate_left
      go_simp
      refine wpAny_ready (rs := [15]) (by kernel_rfl) (by simp) ?_
      refine AllReady.cons rfl (fun K hK => ?_) ?_
      ·
        apply step_wp
        · rfl
        refine ow_store1 _ _ _ rfl ⟨G, j, none⟩ (.int .u8 ((x ^^^ y : Nat) : Int)) rfl rfl (sto1 (LG _ hk0) (hfG.out _ hk0)) ?_
        apply hK
        clear hK K
        go_simp
        refine wpAny_done (by kernel_rfl) ?_ _
        exact hR.out _ _ ⟨rfl, rfl, by repeat (first | exact trivial | refine ⟨rfl, ?_⟩)⟩ hk0
      exact AllReady.nil
    exact AllReady.nil
  refine AllReady.cons rfl (fun K hK => ?_) ?_
  ·
    apply step_wp
    · rfl
    have q := LY _ hk0
    refine ow_load1 _ _ rfl _ rfl (.int .u8 (y : Int)) (by simp [go_sem, q]) ?_
    clear q
    apply hK
    clear hK K
    go_simp
    refine wpAny_ready (rs := [5]) (by kernel_rfl) (by simp) ?_
    refine AllReady.cons rfl (fun K hK => ?_) ?_
    ·
      apply step_wp
      · rfl
      have q := LX _ hk0
      refine ow_load1 _ _ rfl _ rfl (.int .u8 (x : Int)) (by simp [go_sem, q]) ?_
      clear q
      apply hK
      clear hK K
      go_simp
      refine wpAny_take (i := 13) (v := ?_) rfl (by kernel_rfl) (by kernel_rfl) (by kernel_rfl) (fun _ _ _ h => h) (Or.inl ⟨by rfl, ?_⟩) ?_
      rotate_left
      · intro y; go_simp; try (with_reducible rfl)
      rotate_left
      go_simp
      refine wpAny_take (i := 14) (v := ?_) rfl (by kernel_rfl) (by kernel_rfl) (by kernel_rfl) (fun _ _ _ h => h) (Or.inl ⟨by rfl, ?_⟩) ?_
      rotate_left
      · intro y; go_simp; try (with_reducible rfl)
      rotate_left
      go_simp
      refine wpAny_ready (rs := [15]) (by kernel_rfl) (by simp) ?_
      refine AllReady.cons rfl (fun K hK => ?_) ?_
      ·
        apply step_wp
        · rfl
        refine ow_store1 _ _ _ rfl ⟨G, j, none⟩ (.int .u8 ((x ^^^ y : Nat) : Int)) rfl rfl (sto1 (LG _ hk0) (hfG.out _ hk0)) ?_
        apply hK
        clear hK K
        go_simp
        refine wpAny_done (by kernel_rfl) ?_ _
        exact hR.out _ _ ⟨rfl, rfl, by repeat (first | exact trivial | refine ⟨rfl, ?_⟩)⟩ hk0
      exact AllReady.nil
    exact AllReady.nil
  exact AllReady.nil

theorem fr_out {w W : World} {G j : Nat} {l : List Int} (h : Row w G l) (k : Keep [] w W) : W.frozen? ⟨G, j, none⟩ = false := (h.keep k (by simp)).frozen j
theorem Keep.cellset {S : List Nat} {w W : World} {G j : Nat} (k : Keep S w W) (h : G ∈ S) (v : Value) : Keep S w (W.setCell ⟨G, j, none⟩ v) := k.setCell (.inl h) v

noncomputable def hturnA : Code := loopOf Try.f18 0

set_option maxRecDepth 100000 in
set_option maxHeartbeats 4000000 in
theorem turn_l0 (R : Act → World → Prop) (a : Act) (w : World) (gb ob bc gw cw G c8 : Nat) (s wl : List Int) (hs : s.length = 16) (hsw : Hid (∀ x ∈ s, (Lit.int .u8 x).wf = true)) (hwl : Hid (wl.length = 176)) (hww : Hid (∀ x ∈ wl, (Lit.int .u8 x).wf = true))
    (hG : Hid (Row w G s)) (hW : Hid (Row w gw wl)) (hne : Hid (gw ≠ G))
    (hF : Fr 93 [(0, .slice (some ⟨gb, ob, none⟩) 256 bc), (7, .slice (some ⟨gw, 0, none⟩) 176 cw), (8, .slice (some ⟨G, 0, none⟩) 16 c8), (9, .int .i64 0)] a)
    (hQ : ∀ a' w', Fr 93 [(0, .slice (some ⟨gb, ob, none⟩) 256 bc), (7, .slice (some ⟨gw, 0, none⟩) 176 cw), (8, .slice (some ⟨G, 0, none⟩) 16 c8)] a' → Row w' G (Aes.add s wl 0) → Keep [G] w w' → R a' w') :
    Code.wp Try.prog (.loop hturnA) (OutX 0 R) a w := by
  refine wp_loop_ghost_k (fun m a wr => ∃ j : Nat, m + j = 16 ∧ Fr 93 [(0, .slice (some ⟨gb, ob, none⟩) 256 bc), (7, .slice (some ⟨gw, 0, none⟩) 176 cw), (8, .slice (some ⟨G, 0, none⟩) 16 c8), (9, .int .i64 j)] a ∧ Row wr G (upd (Aes.xorAt s wl 0) s j) ∧ Keep [G] w wr)
    16 ⟨0, rfl, hF, by rw [upd_zero]; exact hG.out, Keep.refl _ _⟩ ?_
  clear hF
  rintro m a wr ⟨j, hmj, hFr, hB, hk⟩ J K hJ hK1
  have HJ := Lib.hid hJ
  have HMJ := Lib.hid hmj
  have HB := Lib.hid hB
  have HK := Lib.hid hk
  have HQ := Lib.hid hQ
  obtain ⟨f, ⟨f0, f7, f8, f9, -⟩, rfl⟩ := hFr.open93
  by_cases hlt : j < 16
  · have hWr : Row wr gw wl := hW.out.keep hk (by simpa using hne.out)
    have HCX := Lib.hid (show wr.cell? ⟨G, j, none⟩ = some (.int .u8 ((nb s j : Nat) : Int)) by
      rw [hB.cell j (by rw [upd_length _ _ _ (by omega)]; omega), upd_get _ _ _ _ (Nat.le_refl j), nb_int hsw.out])
    have HCY := Lib.hid (show wr.cell? ⟨gw, j, none⟩ = some (.int .u8 ((nb wl j : Nat) : Int)) by
      rw [hWr.cell j (by rw [hwl.out]; omega), nb_int hww.out])
    have R6 := turn_reg6 (fun a' w' => ∃ W, w' = W.setCell ⟨G, j, none⟩ (.int .u8 ((nb s j ^^^ nb wl j : Nat) : Int)) ∧ Fr 93 [(0, .slice (some ⟨gb, ob, none⟩) 256 bc), (7, .slice (some ⟨gw, 0, none⟩) 176 cw), (8, .slice (some ⟨G, 0, none⟩) 16 c8), (9, .int .i64 j)] a' ∧ Keep [] wr W)
    simp only [f0, f7, f8, f9]
    clear f0 f7 f8 f9 hFr hJ hB hk hQ hmj hWr
    conv => arg 2; whnf
    go_upto_region 6 with fail
    refine OutN.use (R6 _ wr gb ob bc gw cw G c8 j _ _ HCX HCY (nb_lt hsw.out _) (nb_lt hww.out _) (Lib.hid ⟨_, HCX.out⟩) (Lib.hid fun W hk => fr_out HB.out hk) hlt
      ⟨rfl, rfl, by repeat (first | exact trivial | refine ⟨rfl, ?_⟩)⟩ (Lib.hid fun a' W h1 h2 => ⟨W, rfl, h1, h2⟩)) ?_
    rintro a' w3 ⟨W, rfl, hF3, hkW⟩
    have HB3 := Lib.hid ((HB.out.keep hkW (by simp)).upd (by omega) (v := ((nb s j ^^^ nb wl j : Nat) : Int)) (by unfold Aes.xorAt; rw [Nat.zero_add]))
    have HK3 := Lib.hid ((HK.out.trans0 hkW).cellset (List.mem_singleton.2 rfl) (G := G) (j := j) (.int .u8 ((nb s j ^^^ nb wl j : Nat) : Int)))
    obtain ⟨f, ⟨f0, f7, f8, f9, -⟩, rfl⟩ := hF3.open93
    obtain ⟨W', hW'⟩ : ∃ W', W' = W.setCell ⟨G, j, none⟩ (.int .u8 ((nb s j ^^^ nb wl j : Nat) : Int)) := ⟨_, rfl⟩
    rw [← hW'] at HB3 HK3 ⊢
    simp only [f0, f7, f8, f9]
    clear f0 f7 f8 f9 hF3 hkW R6 hW'
    go_wp2_with fail
    exact Handed.intro (m - 1) (by have := HMJ.out; omega) (HJ.out _ _ _ ⟨j + 1, by have := HMJ.out; omega, ⟨rfl, rfl, by repeat (first | exact trivial | refine ⟨rfl, ?_⟩)⟩, HB3.out, HK3.out⟩)
  · obtain rfl : j = 16 := by omega
    simp only [f0, f7, f8, f9]
    clear f0 f7 f8 f9 hFr hJ hB hk hQ hmj
    conv => arg 2; whnf
    go_wp2_with fail
    refine ⟨rfl, HQ.out _ _ ⟨rfl, rfl, by repeat (first | exact trivial | refine ⟨rfl, ?_⟩)⟩ ?_ HK.out⟩
    have := HB.out
    rw [upd_full _ _ _ hs] at this
    exact this

noncomputable def hturnE : Code := loopOf Try.f18 4

set_option maxRecDepth 100000 in
set_option maxHeartbeats 4000000 in
theorem turn_l4 (R : Act → World → Prop) (a : Act) (w : World) (gb ob bc gw cw G c8 T r : Nat) (hr : r ≤ 10) (s t wl : List Int) (hs : s.length = 16) (ht : Hid (t.length = 16)) (htw : Hid (∀ x ∈ t, (Lit.int .u8 x).wf = true)) (hwl : Hid (wl.length = 176)) (hww : Hid (∀ x ∈ wl, (Lit.int .u8 x).wf = true))
    (hG : Hid (Row w G s)) (hT : Hid (Row w T t)) (hW : Hid (Row w gw wl)) (hne : Hid (gw ≠ G ∧ T ≠ G))
    (hF : Fr 93 [(0, .slice (some ⟨gb, ob, none⟩) 256 bc), (7, .slice (some ⟨gw, 0, none⟩) 176 cw), (8, .slice (some ⟨G, 0, none⟩) 16 c8), (10, .int .i64 r), (11, .slice (some ⟨T, 0, none⟩) 16 16), (14, .int .i64 0)] a)
    (hQ : ∀ a' w', Fr 93 [(0, .slice (some ⟨gb, ob, none⟩) 256 bc), (7, .slice (some ⟨gw, 0, none⟩) 176 cw), (8, .slice (some ⟨G, 0, none⟩) 16 c8), (10, .int .i64 r)] a' → Row w' G (Aes.add t wl (16 * r)) → Keep [G] w w' → R a' w') :
    Code.wp Try.prog (.loop hturnE) (OutX 8 R) a w := by
  refine wp_loop_ghost_k (fun m a wr => ∃ j : Nat, m + j = 16 ∧ Fr 93 [(0, .slice (some ⟨gb, ob, none⟩) 256 bc), (7, .slice (some ⟨gw, 0, none⟩) 176 cw), (8, .slice (some ⟨G, 0, none⟩) 16 c8), (10, .int .i64 r), (11, .slice (some ⟨T, 0, none⟩) 16 16), (14, .int .i64 j)] a ∧ Row wr G (upd (Aes.xorAt t wl (16 * r)) s j) ∧ Keep [G] w wr)
    16 ⟨0, rfl, hF, by rw [upd_zero]; exact hG.out, Keep.refl _ _⟩ ?_
  clear hF
  rintro m a wr ⟨j, hmj, hFr, hB, hk⟩ J K hJ hK1
  have HJ := Lib.hid hJ
  have HMJ := Lib.hid hmj
  have HB := Lib.hid hB
  have HK := Lib.hid hk
  have HQ := Lib.hid hQ
  obtain ⟨f, ⟨f0, f7, f8, f10, f11, f14, -⟩, rfl⟩ := hFr.open93
  by_cases hlt : j < 16
  · have hWr : Row wr gw wl := hW.out.keep hk (by simpa using hne.out.1)
    have hTr : Row wr T t := hT.out.keep hk (by simpa using hne.out.2)
    have HCG := Lib.hid (show ∃ u, wr.cell? ⟨G, j, none⟩ = some u from ⟨_, hB.cell j (by rw [upd_length _ _ _ (by omega)]; omega)⟩)
    have HCX := Lib.hid (show wr.cell? ⟨T, j, none⟩ = some (.int .u8 ((nb t j : Nat) : Int)) by
      rw [hTr.cell j (by rw [ht.out]; omega), nb_int htw.out])
    have HCY := Lib.hid (show wr.cell? ⟨gw, 16 * r + j, none⟩ = some (.int .u8 ((nb wl (16 * r + j) : Nat) : Int)) by
      rw [hWr.cell (16 * r + j) (by rw [hwl.out]; omega), nb_int hww.out])
    have R23 := turn_reg23 (fun a' w' => ∃ W, w' = W.setCell ⟨G, j, none⟩ (.int .u8 ((nb t j ^^^ nb wl (16 * r + j) : Nat) : Int)) ∧ Fr 93 [(0, .slice (some ⟨gb, ob, none⟩) 256 bc), (7, .slice (some ⟨gw, 0, none⟩) 176 cw), (8, .slice (some ⟨G, 0, none⟩) 16 c8), (10, .int .i64 r), (11, .slice (some ⟨T, 0, none⟩) 16 16), (14, .int .i64 j)] a' ∧ Keep [] wr W)
    simp only [f0, f7, f8, f10, f11, f14]
    clear f0 f7 f8 f10 f11 f14 hFr hJ hB hk hQ hmj hWr hTr
    conv => arg 2; whnf
    go_upto_region 23 with fail
    refine OutN.use (R23 _ wr gb ob bc gw cw G c8 j _ _ T r hr HCX HCY (nb_lt htw.out _) (nb_lt hww.out _) HCG (Lib.hid fun W hk => fr_out HB.out hk) hlt
      ⟨rfl, rfl, by repeat (first | exact trivial | refine ⟨rfl, ?_⟩)⟩ (Lib.hid fun a' W h1 h2 => ⟨W, rfl, h1, h2⟩)) ?_
    rintro a' w3 ⟨W, rfl, hF3, hkW⟩
    have HB3 := Lib.hid ((HB.out.keep hkW (by simp)).upd (by omega) (v := ((nb t j ^^^ nb wl (16 * r + j) : Nat) : Int)) rfl)
    have HK3 := Lib.hid ((HK.out.trans0 hkW).cellset (List.mem_singleton.2 rfl) (G := G) (j := j) (.int .u8 ((nb t j ^^^ nb wl (16 * r + j) : Nat) : Int)))
    obtain ⟨f, ⟨f0, f7, f8, f10, f11, f14, -⟩, rfl⟩ := hF3.open93
    obtain ⟨W', hW'⟩ : ∃ W', W' = W.setCell ⟨G, j, none⟩ (.int .u8 ((nb t j ^^^ nb wl (16 * r + j) : Nat) : Int)) := ⟨_, rfl⟩
    rw [← hW'] at HB3 HK3 ⊢
    simp only [f0, f7, f8, f10, f11, f14]
    clear f0 f7 f8 f10 f11 f14 hF3 hkW R23 hW'
    go_wp2_with fail
    exact Handed.intro (m - 1) (by have := HMJ.out; omega) (HJ.out _ _ _ ⟨j + 1, by have := HMJ.out; omega, ⟨rfl, rfl, by repeat (first | exact trivial | refine ⟨rfl, ?_⟩)⟩, HB3.out, HK3.out⟩)
  · obtain rfl : j = 16 := by omega
    simp only [f0, f7, f8, f10, f11, f14]
    clear f0 f7 f8 f10 f11 f14 hFr hJ hB hk hQ hmj
    conv => arg 2; whnf
    go_wp2_with fail
    refine ⟨rfl, HQ.out _ _ ⟨rfl, rfl, by repeat (first | exact trivial | refine ⟨rfl, ?_⟩)⟩ ?_ HK.out⟩
    have := HB.out
    rw [upd_full _ _ _ hs] at this
    exact this

def z16 : List Int := List.replicate 16 0
noncomputable def hturnD : Code := loopOf Try.f18 3

set_option maxRecDepth 100000 in
set_option maxHeartbeats 4000000 in
theorem turn_l3 (R : Act → World → Prop) (a : Act) (w : World) (gb ob bc gw cw G c8 T r c : Nat) (hc : c < 4) (s : List Int) (hs : Hid (s.length = 16)) (hsw : Hid (∀ x ∈ s, (Lit.int .u8 x).wf = true)) (hb : Hid (∀ W, Keep [T] w W → Sl .u8 W (.slice (some ⟨gb, ob, none⟩) 256 bc) (boxL 256)))
    (hG : Hid (Row w G s)) (hT : Hid (Row w T (upd (Aes.subAt s) z16 (4 * c)))) (hne : Hid (G ≠ T))
    (hF : Fr 93 [(0, .slice (some ⟨gb, ob, none⟩) 256 bc), (7, .slice (some ⟨gw, 0, none⟩) 176 cw), (8, .slice (some ⟨G, 0, none⟩) 16 c8), (10, .int .i64 r), (11, .slice (some ⟨T, 0, none⟩) 16 16), (12, .int .i64 c), (13, .int .i64 0)] a)
    (hQ : ∀ a' w', Fr 93 [(0, .slice (some ⟨gb, ob, none⟩) 256 bc), (7, .slice (some ⟨gw, 0, none⟩) 176 cw), (8, .slice (some ⟨G, 0, none⟩) 16 c8), (10, .int .i64 r), (11, .slice (some ⟨T, 0, none⟩) 16 16), (12, .int .i64 c)] a' → Row w' T (upd (Aes.subAt s) z16 (4 * c + 4)) → Keep [T] w w' → R a' w') :
    Code.wp Try.prog (.loop hturnD) (OutX 6 R) a w := by
  refine wp_loop_ghost_k (fun m a wr => ∃ j : Nat, m + j = 4 ∧ Fr 93 [(0, .slice (some ⟨gb, ob, none⟩) 256 bc), (7, .slice (some ⟨gw, 0, none⟩) 176 cw), (8, .slice (some ⟨G, 0, none⟩) 16 c8), (10, .int .i64 r), (11, .slice (some ⟨T, 0, none⟩) 16 16), (12, .int .i64 c), (13, .int .i64 j)] a ∧ Row wr T (upd (Aes.subAt s) z16 (4 * c + j)) ∧ Keep [T] w wr)
    4 ⟨0, rfl, hF, hT.out, Keep.refl _ _⟩ ?_
  clear hF
  rintro m a wr ⟨j, hmj, hFr, hB, hk⟩ J K hJ hK1
  have HJ := Lib.hid hJ
  have HMJ := Lib.hid hmj
  have HB := Lib.hid hB
  have HK := Lib.hid hk
  have HQ := Lib.hid hQ
  obtain ⟨f, ⟨f0, f7, f8, f10, f11, f12, f13, -⟩, rfl⟩ := hFr.open93
  by_cases hlt : j < 4
  · have hGr : Row wr G s := hG.out.keep hk (by simpa using hne.out)
    obtain ⟨q, hq⟩ : ∃ q, q = (c + j) % 4 := ⟨_, rfl⟩
    have hq4 : q < 4 := by omega
    have cT := hB.cell (4 * c + j) (by rw [upd_length _ _ _ (by simp [z16]; omega)]; simp [z16]; omega)
    have fT := hB.frozen (4 * c + j)
    have cS : wr.cell? ⟨G, 4 * q + j, none⟩ = some (.int .u8 ((nb s (4 * q + j) : Nat) : Int)) := by
      rw [hGr.cell _ (by rw [hs.out]; omega), nb_int hsw.out]
    have hx := nb_lt hsw.out (4 * q + j)
    have HSUB := Lib.hid (show Aes.subAt s (4 * c + j) = ((Aes.box (nb s (4 * q + j)) : Nat) : Int) by
      unfold Aes.subAt
      rw [show (4 * c + j) / 4 = c by omega, show (4 * c + j) % 4 = j by omega, ← hq])
    generalize nb s (4 * q + j) = x at *
    have cB := box_cell (hb.out wr hk) x hx
    have bx : (0 : Int) ≤ (x : Int) ∧ (x : Int) < 256 := ⟨by omega, by omega⟩
    have d1 : Int.tmod ((c : Int) + j) 4 = (q : Int) := by rw [Int.tmod_eq_emod_of_nonneg (by omega)]; omega
    have b1 : (0 : Int) ≤ 4 * (q : Int) + j ∧ 4 * (q : Int) + j < 16 := ⟨by omega, by omega⟩
    have b2 : (0 : Int) ≤ 4 * (c : Int) + j ∧ 4 * (c : Int) + j < 16 := ⟨by omega, by omega⟩
    have e1 : (4 * (q : Int) + (j : Int)).toNat = 4 * q + j := by omega
    have e2 : (4 * (c : Int) + (j : Int)).toNat = 4 * c + j := by omega
    simp only [f0, f7, f8, f10, f11, f12, f13]
    clear f0 f7 f8 f10 f11 f12 f13 hFr hJ hB hk hQ hmj hGr hq
    conv => arg 2; whnf
    go_wp2_with fail
    exact Handed.intro (m - 1) (by have := HMJ.out; omega) (HJ.out _ _ _ ⟨j + 1, by have := HMJ.out; omega, ⟨rfl, rfl, by repeat (first | exact trivial | refine ⟨rfl, ?_⟩)⟩, HB.out.upd (by simp [z16]; omega) HSUB.out.symm, HK.out.cellset (List.mem_singleton.2 rfl) _⟩)
  · obtain rfl : j = 4 := by omega
    simp only [f0, f7, f8, f10, f11, f12, f13]
    clear f0 f7 f8 f10 f11 f12 f13 hFr hJ hB hk hQ hmj
    conv => arg 2; whnf
    go_wp2_with fail
    exact ⟨rfl, HQ.out _ _ ⟨rfl, rfl, by repeat (first | exact trivial | refine ⟨rfl, ?_⟩)⟩ HB.out HK.out⟩

noncomputable def hturnC : Code := loopOf Try.f18 2

set_option maxRecDepth 100000 in
set_option maxHeartbeats 4000000 in
theorem turn_l2 (R : Act → World → Prop) (a : Act) (w : World) (gb ob bc gw cw G c8 T r : Nat) (s : List Int) (hs : Hid (s.length = 16)) (hsw : Hid (∀ x ∈ s, (Lit.int .u8 x).wf = true)) (hb : Hid (∀ W, Keep [T] w W → Sl .u8 W (.slice (some ⟨gb, ob, none⟩) 256 bc) (boxL 256)))
    (hG : Hid (Row w G s)) (hT : Hid (Row w T z16)) (hne : Hid (G ≠ T))
    (hF : Fr 93 [(0, .slice (some ⟨gb, ob, none⟩) 256 bc), (7, .slice (some ⟨gw, 0, none⟩) 176 cw), (8, .slice (some ⟨G, 0, none⟩) 16 c8), (10, .int .i64 r), (11, .slice (some ⟨T, 0, none⟩) 16 16), (12, .int .i64 0)] a)
    (hQ : ∀ a' w', Fr 93 [(0, .slice (some ⟨gb, ob, none⟩) 256 bc), (7, .slice (some ⟨gw, 0, none⟩) 176 cw), (8, .slice (some ⟨G, 0, none⟩) 16 c8), (10, .int .i64 r), (11, .slice (some ⟨T, 0, none⟩) 16 16)] a' → Row w' T (Aes.sub s) → Keep [T] w w' → R a' w') :
    Code.wp Try.prog (.loop hturnC) (OutX 4 R) a w := by
  refine wp_loop_ghost_k (fun m a wr => ∃ j : Nat, m + j = 4 ∧ Fr 93 [(0, .slice (some ⟨gb, ob, none⟩) 256 bc), (7, .slice (some ⟨gw, 0, none⟩) 176 cw), (8, .slice (some ⟨G, 0, none⟩) 16 c8), (10, .int .i64 r), (11, .slice (some ⟨T, 0, none⟩) 16 16), (12, .int .i64 j)] a ∧ Row wr T (upd (Aes.subAt s) z16 (4 * j)) ∧ Keep [T] w wr)
    4 ⟨0, rfl, hF, by rw [Nat.mul_zero, upd_zero]; exact hT.out, Keep.refl _ _⟩ ?_
  clear hF
  rintro m a wr ⟨j, hmj, hFr, hB, hk⟩ J K hJ hK1
  have HJ := Lib.hid hJ
  have HMJ := Lib.hid hmj
  have HB := Lib.hid hB
  have HK := Lib.hid hk
  have HQ := Lib.hid hQ
  obtain ⟨f, ⟨f0, f7, f8, f10, f11, f12, -⟩, rfl⟩ := hFr.open93
  by_cases hlt : j < 4
  · have HGr := Lib.hid (hG.out.keep hk (by simpa using hne.out))
    have HBX := Lib.hid (show ∀ W, Keep [T] wr W → Sl .u8 W (.slice (some ⟨gb, ob, none⟩) 256 bc) (boxL 256) from fun W h => hb.out W (HK.out.trans h))
    have L3 := turn_l3 (fun a' w' => Fr 93 [(0, .slice (some ⟨gb, ob, none⟩) 256 bc), (7, .slice (some ⟨gw, 0, none⟩) 176 cw), (8, .slice (some ⟨G, 0, none⟩) 16 c8), (10, .int .i64 r), (11, .slice (some ⟨T, 0, none⟩) 16 16), (12, .int .i64 j)] a' ∧ Row w' T (upd (Aes.subAt s) z16 (4 * j + 4)) ∧ Keep [T] wr w')
    simp only [f0, f7, f8, f10, f11, f12]
    clear f0 f7 f8 f10 f11 f12 hFr hJ hB hk hQ hmj
    conv => arg 2; whnf
    go_upto_block 6 with fail
    go_wp2_with fail
    refine OutX.use (L3 _ wr gb ob bc gw cw G c8 T r j hlt s hs hsw HBX HGr HB hne
      ⟨rfl, rfl, by repeat (first | exact trivial | refine ⟨rfl, ?_⟩)⟩ (fun a' w' h1 h2 h3 => ⟨h1, h2, h3⟩)) ?_
    rintro a' w3 ⟨hF3, hB3, hk3⟩
    have HB3 := Lib.hid (show Row w3 T (upd (Aes.subAt s) z16 (4 * (j + 1))) from hB3)
    have HK3 := Lib.hid (HK.out.trans hk3)
    obtain ⟨f, ⟨f0, f7, f8, f10, f11, f12, -⟩, rfl⟩ := hF3.open93
    simp only [f0, f7, f8, f10, f11, f12]
    clear f0 f7 f8 f10 f11 f12 hF3 hB3 hk3 L3
    go_wp2_with fail
    exact Handed.intro (m - 1) (by have := HMJ.out; omega) (HJ.out _ _ _ ⟨j + 1, by have := HMJ.out; omega, ⟨rfl, rfl, by repeat (first | exact trivial | refine ⟨rfl, ?_⟩)⟩, HB3.out, HK3.out⟩)
  · obtain rfl : j = 4 := by omega
    simp only [f0, f7, f8, f10, f11, f12]
    clear f0 f7 f8 f10 f11 f12 hFr hJ hB hk hQ hmj
    conv => arg 2; whnf
    go_wp2_with fail
    refine ⟨rfl, HQ.out _ _ ⟨rfl, rfl, by repeat (first | exact trivial | refine ⟨rfl, ?_⟩)⟩ ?_ HK.out⟩
    have := HB.out
    rw [show 4 * 4 = 16 from rfl, upd_full _ _ _ (by simp [z16])] at this
    exact this

noncomputable def hturnB : Code := loopOf Try.f18 1

set_option maxRecDepth 100000 in
set_option maxHeartbeats 8000000 in
theorem turn_l1 (R : Act → World → Prop) (a : Act) (w0 w : World) (gb ob bc gw cw G c8 : Nat) (s wl : List Int) (hs : Hid (s.length = 16)) (hsw : Hid (∀ x ∈ s, (Lit.int .u8 x).wf = true)) (hwl : Hid (wl.length = 176)) (hww : Hid (∀ x ∈ wl, (Lit.int .u8 x).wf = true)) (hb : Hid (Sl .u8 w0 (.slice (some ⟨gb, ob, none⟩) 256 bc) (boxL 256)))
    (hG : Hid (Row w G s)) (hW : Hid (Row w gw wl)) (hne : Hid (gw ≠ G ∧ w0.heap.size ≤ G ∧ w0.heap.size ≤ gw)) (hk : Hid (Keep [] w0 w))
    (hF : Fr 93 [(0, .slice (some ⟨gb, ob, none⟩) 256 bc), (7, .slice (some ⟨gw, 0, none⟩) 176 cw), (8, .slice (some ⟨G, 0, none⟩) 16 c8), (10, .int .i64 1)] a)
    (hQ : ∀ a' w', Fr 93 [(8, .slice (some ⟨G, 0, none⟩) 16 c8)] a' → Row w' G (Aes.rounds wl s 10) → Keep [] w0 w' → R a' w') :
    Code.wp Try.prog (.loop hturnB) (OutX 2 R) a w := by
  refine wp_loop_ghost_k (fun m a wr => ∃ n : Nat, m + n = 10 ∧ Fr 93 [(0, .slice (some ⟨gb, ob, none⟩) 256 bc), (7, .slice (some ⟨gw, 0, none⟩) 176 cw), (8, .slice (some ⟨G, 0, none⟩) 16 c8), (10, .int .i64 ((n + 1 : Nat) : Int))] a ∧ Row wr G (Aes.rounds wl s n) ∧ Row wr gw wl ∧ Keep [] w0 wr)
    10 ⟨0, rfl, hF, hG.out, hW.out, hk.out⟩ ?_
  clear hF hG hW hk
  rintro m a wr ⟨n, hmn, hFr, hB, hW, hk⟩ J K hJ hK1
  have HJ := Lib.hid hJ
  have HMN := Lib.hid hmn
  have HB := Lib.hid hB
  have HW := Lib.hid hW
  have HK := Lib.hid hk
  have HQ := Lib.hid hQ
  obtain ⟨f, ⟨f0, f7, f8, f10, -⟩, rfl⟩ := hFr.open93
  by_cases hlt : n < 10
  · obtain ⟨r, hr⟩ : ∃ r, r = n + 1 := ⟨_, rfl⟩
    have HR := Lib.hid hr
    obtain ⟨t, ht⟩ : ∃ t, t = Aes.rounds wl s n := ⟨_, rfl⟩
    have htl : t.length = 16 := by rw [ht]; exact Aes.rounds_length hs.out n
    have HTL := Lib.hid htl
    have HTW := Lib.hid (show ∀ x ∈ t, (Lit.int .u8 x).wf = true by rw [ht]; exact Aes.rounds_wf hww.out hsw.out n)
    have HT := Lib.hid ht
    have hr10 : r ≤ 10 := by omega
    have hr1 : 1 ≤ r := by omega
    rw [← ht] at HB
    rw [← hr] at f10
    have HGL := Lib.hid hB.lt
    have HWL := Lib.hid hW.lt
    simp only [f0, f7, f8, f10]
    clear f0 f7 f8 f10 hFr hJ hB hW hk hQ hmn hr ht htl
    conv => arg 2; whnf
    go_upto_block 4 with (at_make; refine wl_make _ rfl _ _ 26 rfl 5 (.int .u8 0) 1 Try.underlying26 u8infB rfl _ _ _ _ 16 16 rfl rfl rfl rfl (Nat.le_refl _) (by omega) (by omega) ?_; intro w2 hB2 hk2 hz2; have HB2 := Lib.hid hB2; have HK2 := Lib.hid hk2; clear hB2 hk2 hz2)
    obtain ⟨T, hT⟩ : ∃ T, T = wr.heap.size := ⟨_, rfl⟩
    have HT2 := Lib.hid (show Row w2 T z16 from Row.of_blk (by rw [hT]; simpa [z16] using HB2.out))
    have HB22 := Lib.hid (HB.out.keep HK2.out (by simp))
    have HW2 := Lib.hid (HW.out.keep HK2.out (by simp))
    have HK02 := Lib.hid (HK.out.trans HK2.out)
    have HGT := Lib.hid (show G ≠ T ∧ gw ≠ T ∧ w0.heap.size ≤ T from ⟨by have := HGL.out; omega, by have := HWL.out; omega, by have := HK.out.size; omega⟩)
    have HSB := Lib.hid (show ∀ W, Keep [T] w2 W → Sl .u8 W (.slice (some ⟨gb, ob, none⟩) 256 bc) (boxL 256) from fun W h => hb.out.keep0 (HK02.out.trans' h (fun x hx => by right; have := HGT.out.2.2; simp at hx; omega)))
    rw [← hT]
    clear hT HB2
    go_wp2_with fail
    refine OutX.use (turn_l2 (fun a' w' => Fr 93 [(0, .slice (some ⟨gb, ob, none⟩) 256 bc), (7, .slice (some ⟨gw, 0, none⟩) 176 cw), (8, .slice (some ⟨G, 0, none⟩) 16 c8), (10, .int .i64 r), (11, .slice (some ⟨T, 0, none⟩) 16 16)] a' ∧ Row w' T (Aes.sub t) ∧ Keep [T] w2 w') _ w2 gb ob bc gw cw G c8 T r t HTL HTW HSB HB22 HT2 (Lib.hid HGT.out.1)
      ⟨rfl, rfl, by repeat (first | exact trivial | refine ⟨rfl, ?_⟩)⟩ (fun a' w' h1 h2 h3 => ⟨h1, h2, h3⟩)) ?_
    rintro a' w3 ⟨hF3, hT3, hk3⟩
    have HT3 := Lib.hid hT3
    have HB3 := Lib.hid (HB22.out.keep hk3 (by simpa using HGT.out.1))
    have HW3 := Lib.hid (HW2.out.keep hk3 (by simpa using HGT.out.2.1))
    have HK3 := Lib.hid (HK02.out.trans' hk3 (fun x hx => by right; have := HGT.out.2.2; simp at hx; omega))
    obtain ⟨f, ⟨f0, f7, f8, f10, f11, -⟩, rfl⟩ := hF3.open93
    simp only [f0, f7, f8, f10, f11]
    clear f0 f7 f8 f10 f11 hF3 hT3 hk3
    by_cases hlast : r < 10
    · have MX := Lib.hid (rmixed_any (.slice (some ⟨T, 0, none⟩) 16 16) (Aes.sub t) w3 (by
        have h := HT3.out.sl (c := 16) (Aes.sub_wf t) (by simp [Aes.sub]) (by decide)
        simpa [Aes.sub] using h) (by simp [Aes.sub]))
      go_upto_block 8 with (go_at_call 35; with_reducible refine MX.out.mono ?_; rintro e w4 ⟨T2, rfl, hT4, hB4, hk4⟩; have HB4 := Lib.hid hB4; have HT4 := Lib.hid hT4; have HK4 := Lib.hid hk4; clear hB4 hT4 hk4)
      have HX4 := Lib.hid (show Row w4 T2 (Aes.mixed (Aes.sub t)) from Row.of_blk HB4.out)
      have HG4 := Lib.hid (HB3.out.keep HK4.out (by simp))
      have HW4 := Lib.hid (HW3.out.keep HK4.out (by simp))
      have HK04 := Lib.hid (HK3.out.trans HK4.out)
      have HNE := Lib.hid (show gw ≠ G ∧ T2 ≠ G from ⟨hne.out.1, by have := HB3.out.lt; have := HT4.out; omega⟩)
      go_wp2_with fail
      refine OutX.use (turn_l4 (fun a' w' => Fr 93 [(0, .slice (some ⟨gb, ob, none⟩) 256 bc), (7, .slice (some ⟨gw, 0, none⟩) 176 cw), (8, .slice (some ⟨G, 0, none⟩) 16 c8), (10, .int .i64 r)] a' ∧ Row w' G (Aes.add (Aes.mixed (Aes.sub t)) wl (16 * r)) ∧ Keep [G] w4 w') _ w4 gb ob bc gw cw G c8 T2 r hr10 t (Aes.mixed (Aes.sub t)) wl HTL.out (Lib.hid (by simp [Aes.mixed])) (Lib.hid (Aes.mixed_wf (Aes.sub_wf t))) hwl hww HG4 HX4 HW4 HNE
        ⟨rfl, rfl, by repeat (first | exact trivial | refine ⟨rfl, ?_⟩)⟩ (fun a' w' h1 h2 h3 => ⟨h1, h2, h3⟩)) ?_
      rintro a' w5 ⟨hF5, hB5, hk5⟩
      have HB5 := Lib.hid (show Row w5 G (Aes.rounds wl s (n + 1)) by
        have e : Aes.rounds wl s (n + 1) = Aes.add (Aes.mixed (Aes.sub t)) wl (16 * r) := by
          rw [Aes.rounds, ← HT.out, ← HR.out, Aes.round, if_pos hlast]
        rw [e]; exact hB5)
      have HW5 := Lib.hid (HW4.out.keep hk5 (by simpa using hne.out.1))
      have HK5 := Lib.hid (HK04.out.trans' hk5 (fun x hx => by right; have := hne.out.2.1; simp at hx; omega))
      obtain ⟨f, ⟨f0, f7, f8, f10, -⟩, rfl⟩ := hF5.open93
      simp only [f0, f7, f8, f10]
      clear f0 f7 f8 f10 hF5 hB5 hk5
      go_wp2_with fail
      refine Handed.intro (m - 1) (by have := HMN.out; omega) (HJ.out _ _ _ ⟨n + 1, by have := HMN.out; omega, ⟨rfl, rfl, rfl, rfl, rfl, ?_, trivial⟩, HB5.out, HW5.out, HK5.out⟩)
      show Value.int .i64 _ = Value.int .i64 _
      congr 1
      have := HR.out
      omega
    · have HNE := Lib.hid (show gw ≠ G ∧ T ≠ G from ⟨hne.out.1, fun h => HGT.out.1 h.symm⟩)
      go_upto_block 8 with fail
      go_wp2_with fail
      refine OutX.use (turn_l4 (fun a' w' => Fr 93 [(0, .slice (some ⟨gb, ob, none⟩) 256 bc), (7, .slice (some ⟨gw, 0, none⟩) 176 cw), (8, .slice (some ⟨G, 0, none⟩) 16 c8), (10, .int .i64 r)] a' ∧ Row w' G (Aes.add (Aes.sub t) wl (16 * r)) ∧ Keep [G] w3 w') _ w3 gb ob bc gw cw G c8 T r hr10 t (Aes.sub t) wl HTL.out (Lib.hid (by simp [Aes.sub])) (Lib.hid (Aes.sub_wf t)) hwl hww HB3 HT3 HW3 HNE
        ⟨rfl, rfl, by repeat (first | exact trivial | refine ⟨rfl, ?_⟩)⟩ (fun a' w' h1 h2 h3 => ⟨h1, h2, h3⟩)) ?_
      rintro a' w5 ⟨hF5, hB5, hk5⟩
      have HB5 := Lib.hid (show Row w5 G (Aes.rounds wl s (n + 1)) by
        have e : Aes.rounds wl s (n + 1) = Aes.add (Aes.sub t) wl (16 * r) := by
          rw [Aes.rounds, ← HT.out, ← HR.out, Aes.round, if_neg hlast]
        rw [e]; exact hB5)
      have HW5 := Lib.hid (HW3.out.keep hk5 (by simpa using hne.out.1))
      have HK5 := Lib.hid (HK3.out.trans' hk5 (fun x hx => by right; have := hne.out.2.1; simp at hx; omega))
      obtain ⟨f, ⟨f0, f7, f8, f10, -⟩, rfl⟩ := hF5.open93
      simp only [f0, f7, f8, f10]
      clear f0 f7 f8 f10 hF5 hB5 hk5
      go_wp2_with fail
      refine Handed.intro (m - 1) (by have := HMN.out; omega) (HJ.out _ _ _ ⟨n + 1, by have := HMN.out; omega, ⟨rfl, rfl, rfl, rfl, rfl, ?_, trivial⟩, HB5.out, HW5.out, HK5.out⟩)
      show Value.int .i64 _ = Value.int .i64 _
      congr 1
      have := HR.out
      omega
  · obtain rfl : n = 10 := by omega
    simp only [f0, f7, f8, f10]
    clear f0 f7 f8 f10 hFr hJ hB hW hk hQ hmn
    conv => arg 2; whnf
    go_wp2_with fail
    exact ⟨rfl, HQ.out _ _ ⟨rfl, rfl, rfl, trivial⟩ HB.out HK.out⟩

set_option maxRecDepth 100000 in
set_option maxHeartbeats 4000000 in
theorem rturn_new (bv kv sv : Value) (key block : List Int) (w : World) (hb : Sl .u8 w bv (boxL 256)) (hk : Sl .u8 w kv key) (hs : Sl .u8 w sv block) (hkl : key.length = 16) (hsl : block.length = 16) :
    Calls Try.prog 18 #[bv, kv, sv] w fun e w' => ∃ g c, e = .returned (.slice (some ⟨g, 0, none⟩) 16 c) ∧ w.heap.size ≤ g ∧ Row w' g (Aes.turn key block) ∧ 16 ≤ c ∧ c ≤ 9223372036854775807 ∧ Keep [] w w' := by
  have HKY := Lib.hid (rkeys_any bv kv key w hb hk hkl)
  have HSW := Lib.hid hs.wf
  have HSL := Lib.hid hsl
  have HS := Lib.hid hs
  have HWL := Lib.hid (show (Aes.keys key 40).length = 176 by rw [Aes.keys_length, hkl])
  have HWW := Lib.hid (Aes.keys_wf hk.wf 40)
  obtain ⟨gb, ob, bc, rfl, hbc1, hbc2, -⟩ := hb.cells (by rw [boxL_length]; decide)
  rw [boxL_length] at hb hbc1 HKY ⊢
  have HB := Lib.hid hb
  obtain ⟨kA, kc, rfl, -, -, -, -⟩ := hk
  obtain ⟨sA, sc, rfl, hsc1, hsc2, -, -⟩ := hs
  have HSR := Lib.hid (HS.out.rd)
  rw [hkl] at HKY ⊢
  rw [hsl] at hsc1 ⊢
  clear hb
  go_enter Try.func18, Try.ntmps18
  go_upto_region 2 with (first
    | (go_at_call 34; with_reducible refine HKY.out.mono ?_; rintro e w1 ⟨vw, rfl, hO1, hk1⟩; have HO1 := Lib.hid hO1; have HK1 := Lib.hid hk1; clear hO1 hk1))
  obtain ⟨gw, cw, rfl, hgw1, hgw2⟩ := own_some HO1.out (by decide)
  have HR1 : Hid (Rd (w1.alloc (.cells #[] 5)) sA (block.map (Value.int .u8))) := Lib.hid ((HSR.out.keep0 HK1.out).keep0 ((Keep.refl [] w1).alloc _))
  have HGW := Lib.hid (And.intro hgw1 hgw2)
  clear hgw1 hgw2
  go_upto_block 0 with (first
    | (at_builtin
       refine wl_append _ rfl _ _ _ rfl w1.heap.size 5 (.int .u8 0) 1 1 Try.underlying26 u8infB rfl (by decide) (.slice (some ⟨w1.heap.size, 0, Option.none⟩) 0 0) 0 [] rfl (own_of_blk (Blk.new w1 _ _) rfl (Nat.le_refl _) (by omega) rfl) sA 16 sc (block.map (Value.int .u8)) rfl (by rw [List.length_map, HSL.out]) HR1.out (ints_one _ _) (by simp only [maxLen]; omega) (by omega) (by simp) ?_
       intro x2 w2 ho2 hk2 hat2
       simp only [Nat.zero_add, List.nil_append] at ho2
       have HX2 := Lib.hid ho2
       have HK2 := Lib.hid (show Keep [] w1 w2 from ((Keep.refl [] w1).alloc (.cells #[] 5)).trans' hk2 (by intro y hy; right; simp [Value.ownBlock] at hy; omega))
       clear ho2 hk2 hat2))
  obtain ⟨G, c8, rfl, hG1, hG2⟩ := own_some HX2.out (by decide)
  have hcap := HX2.out
  have hc8 : 16 ≤ c8 ∧ c8 ≤ 9223372036854775807 := by
    rcases hcap.2 with ⟨hv, h0⟩ | ⟨g', cap, cur, hv, hb', hh, hn, hm, hs', ht⟩
    · omega
    · simp only [Value.slice.injEq] at hv
      simp only [maxLen] at hm
      omega
  have HC8 := Lib.hid hc8
  have HNE := Lib.hid (show gw ≠ G ∧ w.heap.size ≤ G ∧ w.heap.size ≤ gw from ⟨by have := HGW.out; omega, by have := HK1.out.size; omega, HGW.out.1⟩)
  have HRG := Lib.hid (Row.of_own HX2.out)
  have HRW := Lib.hid ((Row.of_own HO1.out).keep HK2.out (by simp))
  have HK02 := Lib.hid (HK1.out.trans HK2.out)
  clear hG1 hG2 hcap hc8
  go_wp2_with fail
  refine OutX.use (turn_l0 (fun a' w' => Fr 93 [(0, .slice (some ⟨gb, ob, none⟩) 256 bc), (7, .slice (some ⟨gw, 0, none⟩) 176 cw), (8, .slice (some ⟨G, 0, none⟩) 16 c8)] a' ∧ Row w' G (Aes.add block (Aes.keys key 40) 0) ∧ Keep [G] w2 w') _ w2 gb ob bc gw cw G c8 block (Aes.keys key 40) hsl HSW HWL HWW HRG HRW (Lib.hid HNE.out.1)
    ⟨rfl, rfl, by repeat (first | exact trivial | refine ⟨rfl, ?_⟩)⟩ (fun a' w' h1 h2 h3 => ⟨h1, h2, h3⟩)) ?_
  rintro a' w3 ⟨hF3, hB3, hk3⟩
  have HB3 := Lib.hid hB3
  have HW3 := Lib.hid (HRW.out.keep hk3 (by simpa using HNE.out.1))
  have HK3 := Lib.hid (HK02.out.trans' hk3 (fun x hx => by right; have := HNE.out.2.1; simp at hx; omega))
  obtain ⟨f, ⟨f0, f7, f8, -⟩, rfl⟩ := hF3.open93
  simp only [f0, f7, f8]
  clear f0 f7 f8 hF3 hB3 hk3
  go_upto_block 2 with fail
  go_wp2_with fail
  refine OutX.use (turn_l1 (fun a' w' => Fr 93 [(8, .slice (some ⟨G, 0, none⟩) 16 c8)] a' ∧ Row w' G (Aes.rounds (Aes.keys key 40) (Aes.add block (Aes.keys key 40) 0) 10) ∧ Keep [] w w') _ w w3 gb ob bc gw cw G c8 (Aes.add block (Aes.keys key 40) 0) (Aes.keys key 40) (Lib.hid (by simp [Aes.add])) (Lib.hid (Aes.add_wf HSW.out HWW.out 0)) HWL HWW HB HB3 HW3 HNE HK3
    ⟨rfl, rfl, by repeat (first | exact trivial | refine ⟨rfl, ?_⟩)⟩ (fun a' w' h1 h2 h3 => ⟨h1, h2, h3⟩)) ?_
  rintro a' w4 ⟨hF4, hB4, hk4⟩
  have HB4 := Lib.hid hB4
  have HK4 := Lib.hid hk4
  obtain ⟨f, ⟨f8, -⟩, rfl⟩ := hF4.open93
  simp only [f8]
  clear f8 hF4 hB4 hk4
  go_wp2_with fail
  go_ret
  exact ⟨G, c8, rfl, HNE.out.2.1, HB4.out, HC8.out.1, HC8.out.2, HK4.out⟩

theorem rturn_any (bv kv sv : Value) (key block : List Int) (w : World) (hb : Sl .u8 w bv (boxL 256)) (hk : Sl .u8 w kv key) (hs : Sl .u8 w sv block) (hkl : key.length = 16) (hsl : block.length = 16) :
    Calls Try.prog 18 #[bv, kv, sv] w fun e w' => ∃ g c, e = .returned (.slice (some ⟨g, 0, none⟩) 16 c) ∧ Row w' g (Aes.turn key block) ∧ 16 ≤ c ∧ c ≤ 9223372036854775807 ∧ Keep [] w w' := by
  refine (rturn_new bv kv sv key block w hb hk hs hkl hsl).mono ?_
  rintro e w' ⟨g, c, h1, -, h2⟩
  exact ⟨g, c, h1, h2⟩
end Go.Proofs.Ytlkjngbelckgkaa
