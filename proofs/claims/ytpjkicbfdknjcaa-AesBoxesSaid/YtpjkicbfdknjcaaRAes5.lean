/-
  The document's round keys: its last drawn region.
-/
import Derived.Test.YtpjkicbfdknjcaaRAes4
namespace Go.Proofs.Ytpjkicbfdknjcaa
open Go.RowKit

/-- Appended, in a region. -/
theorem ow_append {P : Program} {o : Oper} {a : Act} {w : World} {K : Act → World → Prop} {Q : Exit → Act → World → Prop}
    (s x : Operand) (t : TypeId) (hop : o.op = Op.call { callee := Callee.builtin Builtin.append, args := #[s, x], argTypes := #[t, t] })
    (base : Nat) (e : TypeId) (z : Value) (size bytes : Nat) (ht : P.underlying t = some (.slice e)) (hinfo : (P.info? e).map (fun i => (i.zero, i.size, i.bytes)) = some (some z, size, bytes))
    (hzs : z.cells.size = size) (hsz : 0 < size) (v : Value) (n : Nat) (xs : List Value) (hs : a.eval s = v) (hown : w.ownsRow base e size v n xs)
    (A : Option Addr) (m c : Nat) (news : List Value) (hx : a.eval x = .slice A m c) (hl : news.length = m * size) (hr : Rd w A news) (h1 : ∀ u ∈ news, u.oneCell' = true)
    (h63 : n + m ≤ maxLen) (hbytes : (n + m) * bytes ≤ 140737488355328) (hbase : base ≤ w.heap.size)
    (h : ∀ v' w', w'.ownsRow base e size v' (n + m) (xs ++ news) → Keep v.ownBlock.toList w w' → (v'.ownBlock = v.ownBlock ∨ v'.ownBlock = some w.heap.size) → K (a.put o.dst v') w') : o.wp P a w K Q := by
  obtain ⟨v', w', hrun, h2, h3, h4⟩ := run_app (P := P) w base t o.type e z size bytes ht hinfo hzs hsz v n xs hown A m c news hl hr h1 h63 hbytes hbase
  unfold Oper.wp
  simp [execOp, hop, resolve, invoke, builtin, hs, hx, hrun, Result.andThen]
  exact h v' w' h2 h3 h4

noncomputable def hkeys13 : Code := regionOf Try.f26 13
set_option maxRecDepth 100000 in
set_option maxHeartbeats 8000000 in
theorem keys_reg13 (R : Act → World → Prop) (a : Act) (w2 : World) (base gb ob bc g off oc i k cc T x y : Nat) (xs : List Value) (hi4 : 4 ≤ i) (hi : i ≤ 43) (hk4 : k < 4) (hx : x < 256) (hy : y < 256) (hO : Hid (w2.ownsRow base 5 1 (.slice (some ⟨g, off, none⟩) (4 * i + k) oc) (4 * i + k) xs)) (hbase : Hid (base ≤ w2.heap.size))
    (hcx : Hid (w2.cell? ⟨g, off + (4 * i - 16 + k), none⟩ = some (.int .u8 (x : Int)))) (hcy : Hid (w2.cell? ⟨T, k, none⟩ = some (.int .u8 (y : Int))))
    (hF : Fr 95 [(5, .slice (some ⟨g, off, none⟩) (4 * i + k) oc), (0, .slice (some ⟨gb, ob, none⟩) 256 bc), (6, .int .u8 (cc : Nat)), (7, .int .i64 i), (8, .slice (some ⟨T, 0, none⟩) 4 4), (9, .int .i64 k)] a)
    (hR : Hid (∀ a' w' v', Fr 95 [(5, v'), (0, .slice (some ⟨gb, ob, none⟩) 256 bc), (6, .int .u8 (cc : Nat)), (7, .int .i64 i), (8, .slice (some ⟨T, 0, none⟩) 4 4), (9, .int .i64 k)] a' → w'.ownsRow base 5 1 v' (4 * i + k + 1) (xs ++ [.int .u8 ((x ^^^ y : Nat) : Int)]) → Keep [g] w2 w' → (∀ q, v'.ownBlock = some q → q = g ∨ w2.heap.size ≤ q) → R a' w')) :
    Code.wp Try.prog hkeys13 (OutN R) a w2 := by
  have X := u8_xor_nat x y hx hy
  have LX : ∀ W, Keep [] w2 W → W.cell? ⟨g, off + (4 * i - 16 + k), none⟩ = some (.int .u8 (x : Int)) := fun W hk => (hk.cell (World.block_lt_of_cell? _ _ hcx.out) (by simp)).trans hcx.out
  have LY : ∀ W, Keep [] w2 W → W.cell? ⟨T, k, none⟩ = some (.int .u8 (y : Int)) := fun W hk => (hk.cell (World.block_lt_of_cell? _ _ hcy.out) (by simp)).trans hcy.out
  have LO : ∀ W, Keep [] w2 W → W.ownsRow base 5 1 (.slice (some ⟨g, off, none⟩) (4 * i + k) oc) (4 * i + k) xs := fun W hk => own_keep0 hO.out hk
  have m1 : IntKind.i64.wrap (4 * (i : Int)) = 4 * i := wf_i64' _ (by omega) (by omega)
  have s1 : IntKind.i64.wrap (4 * (i : Int) - 16) = 4 * i - 16 := wf_i64' _ (by omega) (by omega)
  have s2 : IntKind.i64.wrap (4 * (i : Int) - 16 + k) = 4 * i - 16 + k := wf_i64' _ (by omega) (by omega)
  have e1 : (4 * (i : Int) - 16 + k).toNat = 4 * i - 16 + k := by omega
  have b1 : (0 : Int) ≤ 4 * (i : Int) - 16 + k ∧ 4 * (i : Int) - 16 + k < 4 * i + k := ⟨by omega, by omega⟩
  have b2 : (16 : Int) ≤ 4 * (i : Int) := by omega
  have b3 : (0 : Int) ≤ (k : Int) ∧ (k : Int) < 4 := ⟨by omega, by omega⟩
  obtain ⟨f, ⟨f5, f0, f6, f7, f8, f9, -⟩, rfl⟩ := hF.open95
  simp only [f5, f0, f6, f7, f8, f9]
  clear f5 f0 f6 f7 f8 f9 hF
  conv => arg 2; whnf
  refine wp_region_any (by kernel_rfl) ?_
  change wpAny _ _ _ _ _ _ _ (World.drew _)
  obtain ⟨W0, hW0⟩ : ∃ W0, W0 = w2.drew := ⟨_, rfl⟩
  rw [← hW0]
  have hk0 : Keep [] w2 W0 := by rw [hW0]; exact (Keep.refl [] w2).drew
  clear hW0
  go_simp
  refine wpAny_take (i := 0) (v := ?_) rfl (by kernel_rfl) (by kernel_rfl) (by kernel_rfl) (fun _ _ _ h => h) (Or.inl ⟨by rfl, ?_⟩) ?_
  rotate_left
  · intro y; go_simp; try (with_reducible rfl)
  rotate_left
  go_simp
  refine wpAny_take (i := 1) (v := ?_) rfl (by kernel_rfl) (by kernel_rfl) (by kernel_rfl) (fun _ _ _ h => h) (Or.inl ⟨by rfl, ?_⟩) ?_
  rotate_left
  · intro y; go_simp; try (with_reducible rfl)
  rotate_left
  go_simp
  refine wpAny_take (i := 2) (v := ?_) rfl (by kernel_rfl) (by kernel_rfl) (by kernel_rfl) (fun _ _ _ h => h) (Or.inl ⟨by rfl, ?_⟩) ?_
  rotate_left
  · intro y; go_simp; try (with_reducible rfl)
  rotate_left
  go_simp
  refine wpAny_take (i := 3) (v := ?_) rfl (by kernel_rfl) (by kernel_rfl) (by kernel_rfl) (fun _ _ _ h => h) (Or.inl ⟨by rfl, ?_⟩) ?_
  rotate_left
  · intro y; go_simp; try (with_reducible rfl)
  rotate_left
  go_simp
  refine wpAny_take (i := 4) (v := ?_) rfl (by kernel_rfl) (by kernel_rfl) (by kernel_rfl) (fun _ _ _ h => h) (Or.inl ⟨by rfl, ?_⟩) ?_
  rotate_left
  · intro y; go_simp; try (with_reducible rfl)
  rotate_left
  go_simp
  refine wpAny_take (i := 5) (v := ?_) rfl (by kernel_rfl) (by kernel_rfl) (by kernel_rfl) (fun _ _ _ h => h) (Or.inl ⟨by rfl, ?_⟩) ?_
  rotate_left
  · intro y; go_simp; try (with_reducible rfl)
  rotate_left
  go_simp
  refine wpAny_take (i := 6) (v := ?_) rfl (by kernel_rfl) (by kernel_rfl) (by kernel_rfl) (fun _ _ _ h => h) (Or.inl ⟨by rfl, ?_⟩) ?_
  rotate_left
  · intro y; go_simp; try (with_reducible rfl)
  rotate_left
  go_simp
  refine wpAny_take (i := 7) (v := ?_) rfl (by kernel_rfl) (by kernel_rfl) (by kernel_rfl) (fun _ _ _ h => h) (Or.inl ⟨by rfl, ?_⟩) ?_
  rotate_left
  · intro y; go_simp; try (with_reducible rfl)
  rotate_left
  go_simp
  refine wpAny_take (i := 9) (v := ?_) rfl (by kernel_rfl) (by kernel_rfl) (by kernel_rfl) (fun _ _ _ h => h) (Or.inl ⟨by rfl, ?_⟩) ?_
  rotate_left
  · intro y; go_simp; try (with_reducible rfl)
  rotate_left
  go_simp
  refine wpAny_take (i := 10) (v := ?_) rfl (by kernel_rfl) (by kernel_rfl) (by kernel_rfl) (fun _ _ _ h => h) (Or.inl ⟨by rfl, ?_⟩) ?_
  rotate_left
  · intro y; go_simp; try (with_reducible rfl)
  rotate_left
  go_simp
  refine wpAny_take (i := 11) (v := ?_) rfl (by kernel_rfl) (by kernel_rfl) (by kernel_rfl) (fun _ _ _ h => h) (Or.inl ⟨by rfl, ?_⟩) ?_
  rotate_left
  · intro y; go_simp; try (with_reducible rfl)
  rotate_left
  go_simp
  refine wpAny_ready (rs := [8, 12]) (by kernel_rfl) (by simp) ?_
  refine AllReady.cons rfl (fun K hK => ?_) ?_
  ·
    apply step_wp
    · rfl
    have q := LX _ hk0
    refine ow_load1 _ _ rfl _ rfl (.int .u8 (x : Int)) (by simp [go_sem, q]) ?_
    clear q
    apply hK
    clear hK K
    go_simp
    refine wpAny_ready (rs := [12]) (by kernel_rfl) (by simp) ?_
    refine AllReady.cons rfl (fun K hK => ?_) ?_
    ·
      apply step_wp
      · rfl
      have q := LY _ hk0
      refine ow_load1 _ _ rfl _ rfl (.int .u8 (y : Int)) (by simp [go_sem, q]) ?_
      clear q
      apply hK
      clear hK K
      go_simp
      refine wpAny_take (i := 13) (v := ?_) rfl (by kernel_rfl) (by kernel_rfl) (by kernel_rfl) (fun _ _ _ h => h) (Or.inl ⟨by rfl, ?_⟩) ?_
      rotate_left
      · intro y; go_simp; try (with_reducible rfl)
      rotate_left
      go_simp
      refine wpAny_ready (rs := [14]) (by kernel_rfl) (by simp) ?_
      refine AllReady.cons rfl (fun K hK => ?_) ?_
      ·
        apply step_wp
        · rfl
        refine ow_slice _ 5 1 _ rfl Try.underlying30 #[.int .u8 ((x ^^^ y : Nat) : Int)] [(0, .int .u8 ((x ^^^ y : Nat) : Int))] (by kernel_rfl) (by kernel_rfl) ?_
        intro n8 W8 hn8 hb8 hs8
        replace hn8 : w2.heap.size ≤ n8 := by rw [hn8]; exact hk0.size
        have hk8 : Keep [] w2 W8 := hk0.trans0 hs8
        apply hK
        clear hK K
        go_simp
        refine wpAny_ready (rs := [15]) (by kernel_rfl) (by simp) ?_
        refine AllReady.cons rfl (fun K hK => ?_) ?_
        ·
          apply step_wp
          · rfl
          refine ow_append _ _ _ rfl base 5 (.int .u8 0) 1 1 Try.underlying30 u8infB rfl (by decide) (.slice (some ⟨g, off, Option.none⟩) (4 * i + k) oc) (4 * i + k) xs rfl (LO _ hk8) (some ⟨n8, 0, none⟩) 1 1 [.int .u8 ((x ^^^ y : Nat) : Int)] rfl rfl (by simpa using Rd.of_blk hb8) (by simp [Value.oneCell']) (by simp only [maxLen]; omega) (by omega) (by have := hbase.out; have := hk8.size; omega) ?_
          intro v9 W9 ho9 hs9 hat9
          have hk9 : Keep [g] w2 W9 := hk8.more0.trans' hs9 (fun q hq => by left; simpa [Value.ownBlock, eq_comm] using hq)
          apply hK
          clear hK K
          go_simp
          refine wpAny_take (i := 16) (v := ?_) rfl (by kernel_rfl) (by kernel_rfl) (by kernel_rfl) (fun _ _ _ h => h) (Or.inl ⟨by rfl, ?_⟩) ?_
          rotate_left
          · intro y; go_simp; try (with_reducible rfl)
          rotate_left
          go_simp
          refine wpAny_done (by kernel_rfl) ?_ _
          refine hR.out _ _ v9 ⟨rfl, rfl, by repeat (first | exact trivial | refine ⟨rfl, ?_⟩)⟩ ho9 hk9 (fun q hq => ?_)
          rcases hat9 with h | h
          · left; rw [h] at hq; simpa [Value.ownBlock, eq_comm] using hq
          · right; rw [h] at hq; have := Option.some.inj hq; have := hk8.size; omega
        exact AllReady.nil
      exact AllReady.nil
    exact AllReady.nil
  refine AllReady.cons rfl (fun K hK => ?_) ?_
  ·
    apply step_wp
    · rfl
    have q := LY _ hk0
    refine ow_load1 _ _ rfl _ rfl (.int .u8 (y : Int)) (by simp [go_sem, q]) ?_
    clear q
    apply hK
    clear hK K
    go_simp
    refine wpAny_ready (rs := [8]) (by kernel_rfl) (by simp) ?_
    refine AllReady.cons rfl (fun K hK => ?_) ?_
    ·
      apply step_wp
      · rfl
      have q := LX _ hk0
      refine ow_load1 _ _ rfl _ rfl (.int .u8 (x : Int)) (by simp [go_sem, q]) ?_
      clear q
      apply hK
      clear hK K
      go_simp
      refine wpAny_take (i := 13) (v := ?_) rfl (by kernel_rfl) (by kernel_rfl) (by kernel_rfl) (fun _ _ _ h => h) (Or.inl ⟨by rfl, ?_⟩) ?_
      rotate_left
      · intro y; go_simp; try (with_reducible rfl)
      rotate_left
      go_simp
      refine wpAny_ready (rs := [14]) (by kernel_rfl) (by simp) ?_
      refine AllReady.cons rfl (fun K hK => ?_) ?_
      ·
        apply step_wp
        · rfl
        refine ow_slice _ 5 1 _ rfl Try.underlying30 #[.int .u8 ((x ^^^ y : Nat) : Int)] [(0, .int .u8 ((x ^^^ y : Nat) : Int))] (by kernel_rfl) (by kernel_rfl) ?_
        intro n8 W8 hn8 hb8 hs8
        replace hn8 : w2.heap.size ≤ n8 := by rw [hn8]; exact hk0.size
        have hk8 : Keep [] w2 W8 := hk0.trans0 hs8
        apply hK
        clear hK K
        go_simp
        refine wpAny_ready (rs := [15]) (by kernel_rfl) (by simp) ?_
        refine AllReady.cons rfl (fun K hK => ?_) ?_
        ·
          apply step_wp
          · rfl
          refine ow_append _ _ _ rfl base 5 (.int .u8 0) 1 1 Try.underlying30 u8infB rfl (by decide) (.slice (some ⟨g, off, Option.none⟩) (4 * i + k) oc) (4 * i + k) xs rfl (LO _ hk8) (some ⟨n8, 0, none⟩) 1 1 [.int .u8 ((x ^^^ y : Nat) : Int)] rfl rfl (by simpa using Rd.of_blk hb8) (by simp [Value.oneCell']) (by simp only [maxLen]; omega) (by omega) (by have := hbase.out; have := hk8.size; omega) ?_
          intro v9 W9 ho9 hs9 hat9
          have hk9 : Keep [g] w2 W9 := hk8.more0.trans' hs9 (fun q hq => by left; simpa [Value.ownBlock, eq_comm] using hq)
          apply hK
          clear hK K
          go_simp
          refine wpAny_take (i := 16) (v := ?_) rfl (by kernel_rfl) (by kernel_rfl) (by kernel_rfl) (fun _ _ _ h => h) (Or.inl ⟨by rfl, ?_⟩) ?_
          rotate_left
          · intro y; go_simp; try (with_reducible rfl)
          rotate_left
          go_simp
          refine wpAny_done (by kernel_rfl) ?_ _
          refine hR.out _ _ v9 ⟨rfl, rfl, by repeat (first | exact trivial | refine ⟨rfl, ?_⟩)⟩ ho9 hk9 (fun q hq => ?_)
          rcases hat9 with h | h
          · left; rw [h] at hq; simpa [Value.ownBlock, eq_comm] using hq
          · right; rw [h] at hq; have := Option.some.inj hq; have := hk8.size; omega
        exact AllReady.nil
      exact AllReady.nil
    exact AllReady.nil
  exact AllReady.nil

end Go.Proofs.Ytpjkicbfdknjcaa
