/-
  Contracts of TrailingZeros (at the four sizes) and extend.
-/
import Derived.Test.YtaifocfnkhgpoaaDoorMath
namespace Go.Proofs.YtaifocfnkhgpoaaDoor
open Go.RowKit

/-- The table that TrailingZeros64 reads, at the four places that are met. -/
structure Tabs (w : World) : Prop where
  c0 : w.cell? ⟨1, 0, none⟩ = some (.int .u8 0)
  c1 : w.cell? ⟨1, 1, none⟩ = some (.int .u8 1)
  c3 : w.cell? ⟨1, 3, none⟩ = some (.int .u8 2)
  c7 : w.cell? ⟨1, 7, none⟩ = some (.int .u8 3)
theorem Tabs.lt {w : World} (h : Tabs w) : 1 < w.heap.size := World.block_lt_of_cell? w _ h.c0
theorem Tabs.keep {w w' : World} {S : List Nat} (h : Tabs w) (k : Keep S w w') (hS : 1 ∉ S) : Tabs w' :=
  ⟨(k.cell h.lt hS).trans h.c0, (k.cell h.lt hS).trans h.c1, (k.cell h.lt hS).trans h.c3, (k.cell h.lt hS).trans h.c7⟩

set_option maxHeartbeats 400000 in
theorem tz64_any (s k : Int) (w : World) (h : (s = 1 ∧ k = 0) ∨ (s = 2 ∧ k = 1) ∨ (s = 4 ∧ k = 2) ∨ (s = 8 ∧ k = 3)) (ht : Tabs w) :
    Calls Tryd.prog 45 #[.int .u64 s] w fun e w' => e = .returned (.int .i64 k) ∧ w = w' := by
  obtain ⟨h0, h1, h3, h7⟩ := ht
  have e1 : bits BinOp.and IntKind.u64 1 (IntKind.u64.wrap (-1)) = 1 := by kernel_rfl
  have e2 : bits BinOp.and IntKind.u64 2 (IntKind.u64.wrap (-2)) = 2 := by kernel_rfl
  have e4 : bits BinOp.and IntKind.u64 4 (IntKind.u64.wrap (-4)) = 4 := by kernel_rfl
  have e8 : bits BinOp.and IntKind.u64 8 (IntKind.u64.wrap (-8)) = 8 := by kernel_rfl
  rcases h with ⟨rfl, rfl⟩ | ⟨rfl, rfl⟩ | ⟨rfl, rfl⟩ | ⟨rfl, rfl⟩
  all_goals
    go_enter Tryd.func45, Tryd.ntmps45
    go_wp2
    go_ret
    exact ⟨rfl, rfl⟩

set_option maxHeartbeats 400000 in
theorem tz_any (s k : Int) (w : World) (h : (s = 1 ∧ k = 0) ∨ (s = 2 ∧ k = 1) ∨ (s = 4 ∧ k = 2) ∨ (s = 8 ∧ k = 3)) (ht : Tabs w) :
    Calls Tryd.prog 43 #[.int .u64 s] w fun e w' => e = .returned (.int .i64 k) ∧ w = w' := by
  go_enter Tryd.func43, Tryd.ntmps43
  go_wp2_with (go_at_call 45; refine (tz64_any _ _ _ h ht).mono ?_; rintro e w' ⟨rfl, rfl⟩)
  go_ret
  exact ⟨rfl, rfl⟩

/-- What the two highest bits say. -/
def tag (s : Nat) : Int := if s = 1 then 0 else if s = 2 then 1 else if s = 4 then 2 else 3
/-- A number's encoding in s bytes. -/
def enc (m : Int) (s : Nat) : List Int := bb (m + tag s * 2 ^ (8 * s - 2)) s

theorem or_tag (s : Nat) (k m : Int) (hs : (s = 1 ∧ k = 0) ∨ (s = 2 ∧ k = 1) ∨ (s = 4 ∧ k = 2) ∨ (s = 8 ∧ k = 3)) (hm0 : 0 ≤ m) (hm : m < 2 ^ (8 * s - 2)) :
    bits .or .u64 m (IntKind.u64.wrap (k * 2 ^ (8 * s - 2))) = m + tag s * 2 ^ (8 * s - 2) := by
  have key : ∀ (i : Nat) (y : Int), m < 2 ^ i → i ≤ 62 → 0 ≤ y → y < 18446744073709551616 → y.toNat % 2 ^ i = 0 → bits .or .u64 m y = m + y := by
    intro i y h1 h2 h3 h4 h5
    have h6 : (2 : Int) ^ i ≤ 2 ^ 62 := by exact_mod_cast Nat.pow_le_pow_right (n := 2) (by omega) h2
    have h7 : (2 : Int) ^ 62 = 4611686018427387904 := by decide
    have h8 : m.toNat < 2 ^ i := by
      have : (m.toNat : Int) = m := by omega
      rw [← this] at h1
      exact_mod_cast h1
    rw [u64_or _ _ (by omega) (by omega) (by omega) (by omega), Nat.or_comm, nat_join i _ _ h5 h8]
    omega
  rcases hs with ⟨rfl, rfl⟩ | ⟨rfl, rfl⟩ | ⟨rfl, rfl⟩ | ⟨rfl, rfl⟩
  · exact key 6 0 hm (by omega) (by omega) (by omega) (by decide)
  · exact key 14 16384 hm (by omega) (by omega) (by omega) (by decide)
  · exact key 30 2147483648 hm (by omega) (by omega) (by omega) (by decide)
  · exact key 62 13835058055282163712 hm (by omega) (by omega) (by omega) (by decide)

theorem enc_bound (s : Nat) (k m : Int) (hs : (s = 1 ∧ k = 0) ∨ (s = 2 ∧ k = 1) ∨ (s = 4 ∧ k = 2) ∨ (s = 8 ∧ k = 3)) (hm0 : 0 ≤ m) (hm : m < 2 ^ (8 * s - 2)) :
    0 ≤ m + tag s * 2 ^ (8 * s - 2) ∧ m + tag s * 2 ^ (8 * s - 2) ≤ 18446744073709551615 := by
  rcases hs with ⟨rfl, rfl⟩ | ⟨rfl, rfl⟩ | ⟨rfl, rfl⟩ | ⟨rfl, rfl⟩ <;> simp [tag] at hm ⊢ <;> omega

theorem u8info : (Tryd.prog.info? 5).map (fun i => (i.zero, i.size, i.bytes)) = some (some (.int .u8 0), 1, 1) := by kernel_rfl

set_option maxHeartbeats 1000000 in
theorem ext_any (base : Nat) (v : Value) (n s : Nat) (k m : Int) (xs : List Value) (w : World) (ht : Tabs w)
    (hs : (s = 1 ∧ k = 0) ∨ (s = 2 ∧ k = 1) ∨ (s = 4 ∧ k = 2) ∨ (s = 8 ∧ k = 3)) (hm0 : 0 ≤ m) (hm : m < 2 ^ (8 * s - 2))
    (hown : w.ownsRow base 5 1 v n xs) (hn : n ≤ 70368744177664) (hbase : base ≤ w.heap.size) :
    Calls Tryd.prog 37 #[v, .int .u64 m, .int .i64 s] w fun e w' => ∃ v', e = .returned v' ∧ w'.ownsRow base 5 1 v' (n + s) (xs ++ (enc m s).map (Value.int .u8)) ∧
      Keep v.ownBlock.toList w w' ∧ (v'.ownBlock = v.ownBlock ∨ ∀ g, v'.ownBlock = some g → w.heap.size ≤ g) := by
  have hsI : ((s : Int) = 1 ∧ k = 0) ∨ ((s : Int) = 2 ∧ k = 1) ∨ ((s : Int) = 4 ∧ k = 2) ∨ ((s : Int) = 8 ∧ k = 3) := by omega
  have hs1 : 1 ≤ s := by omega
  have hs8 : s ≤ 8 := by omega
  have hk0 : 0 ≤ k := by omega
  have hk3 : k ≤ 3 := by omega
  have T := Lib.hid (tz_any s k w hsI ht)
  have hor := or_tag s k m hs hm0 hm
  have hMb := enc_bound s k m hs hm0 hm
  unfold enc
  generalize m + tag s * 2 ^ (8 * s - 2) = M at *
  obtain ⟨hM0, hM1⟩ := hMb
  clear hs hsI
  go_enter Tryd.func37, Tryd.ntmps37
  go_wp2_with (go_at_call 43; with_reducible refine T.out.mono ?_; rintro e w' ⟨rfl, rfl⟩)
  clear hor
  go_loopw [0, 8] (fun t i wr => ∃ r : Nat, r ≤ s ∧ i = .int .i64 ((r : Int) - 1) ∧ wr.ownsRow base 5 1 t (n + (s - r)) (xs ++ ((bb M s).take (s - r)).map (Value.int .u8)) ∧ Keep v.ownBlock.toList w wr ∧
      (t.ownBlock = v.ownBlock ∨ ∀ g, t.ownBlock = some g → w.heap.size ≤ g)) (fun _ i _ => (intOf i + 1).toNat)
  case atStart => exact ⟨s, Nat.le_refl _, rfl, by simpa using hown, Keep.refl _ _, .inl rfl⟩
  case round =>
    obtain ⟨r, hr, rfl, ho, hkeep, hat⟩ := hrel
    cases r with
    | zero =>
      have hl : (bb M s).take (s - 0) = bb M s := List.take_of_length_le (by rw [bb_length]; omega)
      rw [hl] at ho
      have HO := Lib.hid ho
      clear ho hl
      go_wp2
      go_ret
      exact ⟨u0, rfl, HO.out, hkeep, hat⟩
    | succ q =>
      have hnew : (bb M s).take (s - q) = (bb M s).take (s - (q + 1)) ++ [M / 2 ^ (8 * q) % 256] := by
        rw [show s - q = s - (q + 1) + 1 by omega, bb_take_succ M s _ (by omega), show s - 1 - (s - (q + 1)) = q by omega, Int.pow_mul]
        rfl
      have HN := Lib.hid hnew
      clear hnew
      rw [show (((q + 1 : Nat) : Int) - 1) = (q : Int) by omega]
      go_wp2_with (at_builtin; refine wl_append _ rfl (.tmp 26) (.tmp 32) _ rfl base 5 (.int .u8 0) 1 1 Tryd.underlying23 u8info rfl (by decide) u0 _ _ rfl (ho.alloc _) (some ⟨wr.heap.size, 0, none⟩) 1 1 [.int .u8 (M / 2 ^ (8 * q) % 256)] rfl rfl (Rd.one _ _ _) (by simp [Value.oneCell']) ?c1 ?c2 ?c3 ?_; rotate_right; intro v1 w1 ho1 hk1 hat1; clear ho)
      case c1 => simp only [maxLen]; omega
      case c2 => omega
      case c3 => simp; have := hkeep.size; omega
      go_roundw
      case rel =>
        refine ⟨q, by omega, rfl, ?_, ?_, ?_⟩
        · rw [HN.out, List.map_append, ← List.append_assoc]
          rw [show n + (s - q) = n + (s - (q + 1)) + 1 by omega]
          exact ho1
        · refine (hkeep.alloc _).trans' hk1 fun g hg => ?_
          rcases hat with e | e
          · left; rw [← e]; exact hg
          · right; exact e g (by simpa using hg)
        · rcases hat1 with e | e
          · rw [e]; exact hat
          · right
            intro g hg
            rw [e] at hg
            obtain rfl := Option.some.inj hg
            have := hkeep.size
            simp; omega
      case measure => simp [intOf]

end Go.Proofs.YtaifocfnkhgpoaaDoor
