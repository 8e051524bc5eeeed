/-
  The contract of Whole, and of Awake.
-/
import Derived.Test.YtfjhdlgcjbgnfaaCut
import Derived.Deep.RegionWith
namespace Go.Proofs.Ytfjhdlgcjbgnfaa
open Go.RowKit

set_option maxHeartbeats 400000 in
theorem whole_size (v : Value) (l : List Int) (g : Int) (w : World) (hv : Sl .u8 w v l) (hl : l.length < 1 ∨ 4 < l.length) :
    Calls Try.prog 7 #[v, .int .i64 g] w fun e w' => e = .returned (.tuple #[.int .u64 0, .int .i64 6]) ∧ w = w' := by
  obtain ⟨A, c, rfl, hc1, hc2, hr, hwf⟩ := hv
  clear hr hwf
  by_cases h0 : l.length < 1
  · generalize l.length = n at *
    clear hl
    go_enter Try.func7, Try.ntmps7
    go_wp2
    go_ret2
    exact ⟨rfl, rfl⟩
  · generalize l.length = n at *
    have h4 : 4 < n := by omega
    clear hl
    go_enter Try.func7, Try.ntmps7
    go_wp2
    go_ret2
    exact ⟨rfl, rfl⟩

set_option maxHeartbeats 400000 in
theorem whole_range (v : Value) (l : List Int) (g : Int) (w : World) (hv : Sl .u8 w v l) (h1 : 1 ≤ l.length) (h4 : l.length ≤ 4) (hg : 4611686018427387903 ≤ g) :
    Calls Try.prog 7 #[v, .int .i64 g] w fun e w' => e = .returned (.tuple #[.int .u64 0, .int .i64 2]) ∧ w = w' := by
  obtain ⟨A, c, rfl, hc1, hc2, hr, hwf⟩ := hv
  clear hr hwf
  generalize l.length = n at *
  go_enter Try.func7, Try.ntmps7
  go_wp2
  go_ret2
  exact ⟨rfl, rfl⟩

theorem low_put (x y : Int) (i : Nat) (M : Int) (hi : i = 8 ∧ M = 256 ∨ i = 16 ∧ M = 65536 ∨ i = 24 ∧ M = 16777216 ∨ i = 32 ∧ M = 4294967296) (x0 : 0 ≤ x) (x1 : x ≤ 4611686018427387903) (y0 : 0 ≤ y) (y1 : y < M) :
    bits .or .u64 (bits .andNot .u64 x (M - 1)) y = x - x % M + y := by
  rcases hi with ⟨rfl, rfl⟩ | ⟨rfl, rfl⟩ | ⟨rfl, rfl⟩ | ⟨rfl, rfl⟩
  · rw [u64_andNot x _ x0 (by omega) (by omega) (by omega), show 18446744073709551615 - (256 - 1 : Int).toNat = 18446744073709551360 by rfl, nat_hi64_8]
    rw [u64_or _ _ (by omega) (by omega) (by omega) (by omega), nat_join 8 _ _ (by omega) (by omega)]
    omega
  · rw [u64_andNot x _ x0 (by omega) (by omega) (by omega), show 18446744073709551615 - (65536 - 1 : Int).toNat = 18446744073709486080 by rfl, nat_hi64_16]
    rw [u64_or _ _ (by omega) (by omega) (by omega) (by omega), nat_join 16 _ _ (by omega) (by omega)]
    omega
  · rw [u64_andNot x _ x0 (by omega) (by omega) (by omega), show 18446744073709551615 - (16777216 - 1 : Int).toNat = 18446744073692774400 by rfl, nat_hi64_24]
    rw [u64_or _ _ (by omega) (by omega) (by omega) (by omega), nat_join 24 _ _ (by omega) (by omega)]
    omega
  · rw [u64_andNot x _ x0 (by omega) (by omega) (by omega), show 18446744073709551615 - (4294967296 - 1 : Int).toNat = 18446744069414584320 by rfl, nat_hi64_32]
    rw [u64_or _ _ (by omega) (by omega) (by omega) (by omega), nat_join 32 _ _ (by omega) (by omega)]
    omega

/-- What is expected behind the greatest that came. -/
def expd (g : Int) : Int := if g < 0 then 0 else g + 1
/-- What Whole answers. -/
def whl (l : List Int) (g : Int) : Int := nst (expd g - expd g % 256 ^ l.length + be 0 l) (expd g) (256 ^ l.length)

set_option maxHeartbeats 1000000 in
theorem whole_ok (v : Value) (l : List Int) (g : Int) (w : World) (hv : Sl .u8 w v l) (h1 : 1 ≤ l.length) (h4 : l.length ≤ 4) (hg0 : -9223372036854775808 ≤ g) (hg : g < 4611686018427387903) :
    Calls Try.prog 7 #[v, .int .i64 g] w fun e w' => e = .returned (.tuple #[.int .u64 (whl l g), .int .i64 0]) ∧ w = w' := by
  have N := Lib.hid (number_any v l w hv h4)
  have hb := be_bound 0 l (by omega) (fun y hy => wf_u8 (hv.wf y hy))
  have he : 0 ≤ expd g ∧ expd g ≤ 4611686018427387903 := by unfold expd; split <;> omega
  have hx : max g (-1) + 1 = expd g := by unfold expd; split <;> omega
  have hi : 8 * l.length = 8 ∧ (256 : Int) ^ l.length = 256 ∨ 8 * l.length = 16 ∧ (256 : Int) ^ l.length = 65536 ∨ 8 * l.length = 24 ∧ (256 : Int) ^ l.length = 16777216 ∨ 8 * l.length = 32 ∧ (256 : Int) ^ l.length = 4294967296 := by
    rcases (show l.length = 1 ∨ l.length = 2 ∨ l.length = 3 ∨ l.length = 4 by omega) with h | h | h | h <;> rw [h] <;> decide
  have hp := low_put (expd g) (be 0 l) (8 * l.length) (256 ^ l.length) hi he.1 he.2 hb.1 (by have := hb.2; omega)
  have hM : 2 ≤ (256 : Int) ^ l.length ∧ (256 : Int) ^ l.length ≤ 4294967296 := by omega
  have hbase : 0 ≤ expd g - expd g % 256 ^ l.length + be 0 l ∧ expd g - expd g % 256 ^ l.length + be 0 l ≤ 4611686022722355199 := by
    have h2 := hb.2
    have h3 := hb.1
    rcases hi with h | h | h | h <;> rw [h.2] at h2 ⊢ <;> omega
  have R := fun W => Lib.hid (nearest_any (expd g - expd g % 256 ^ l.length + be 0 l) (expd g) (256 ^ l.length) W hbase.1 hbase.2 he.1 he.2 hM.1 hM.2)
  change ∀ W, Hid (Calls _ _ _ W fun e w' => e = .returned (.int .u64 (whl l g)) ∧ W = w') at R
  obtain ⟨A, c, rfl, hc1, hc2, hr, hwf⟩ := hv
  clear hr hwf
  generalize whl l g = z at *
  generalize be 0 l = y at *
  generalize hE : expd g = E at *
  generalize l.length = n at *
  obtain ⟨he0, he1⟩ := he
  clear hb hx hM hi
  have hcase : g = -1 ∧ E = 0 ∨ g < -1 ∧ E = 0 ∨ 0 ≤ g ∧ E = g + 1 := by
    unfold expd at hE
    split at hE <;> omega
  clear hE
  rcases (show n = 1 ∨ n = 2 ∨ n = 3 ∨ n = 4 by omega) with rfl | rfl | rfl | rfl
  · simp only [show (256 : Int) ^ 1 = 256 by rfl, show (256 : Int) - 1 = 255 by rfl] at *
    generalize E - E % 256 + y = B at *
    have HP := Lib.hid hp
    clear hp
    rcases hcase with ⟨rfl, rfl⟩ | ⟨hgn, rfl⟩ | ⟨hgn, rfl⟩ <;>
    · go_enter Try.func7, Try.ntmps7
      go_wp2_with (first
        | (go_at_call 12; with_reducible refine N.out.mono ?_; rintro e w' ⟨rfl, rfl⟩)
        | (go_at_call 11; rw [HP.out]; with_reducible refine (R _).out.mono ?_; rintro e w' ⟨rfl, rfl⟩))
      go_ret2
      exact ⟨rfl, rfl⟩
  · simp only [show (256 : Int) ^ 2 = 65536 by rfl, show (65536 : Int) - 1 = 65535 by rfl] at *
    generalize E - E % 65536 + y = B at *
    have HP := Lib.hid hp
    clear hp
    rcases hcase with ⟨rfl, rfl⟩ | ⟨hgn, rfl⟩ | ⟨hgn, rfl⟩ <;>
    · go_enter Try.func7, Try.ntmps7
      go_wp2_with (first
        | (go_at_call 12; with_reducible refine N.out.mono ?_; rintro e w' ⟨rfl, rfl⟩)
        | (go_at_call 11; rw [HP.out]; with_reducible refine (R _).out.mono ?_; rintro e w' ⟨rfl, rfl⟩))
      go_ret2
      exact ⟨rfl, rfl⟩
  · simp only [show (256 : Int) ^ 3 = 16777216 by rfl, show (16777216 : Int) - 1 = 16777215 by rfl] at *
    generalize E - E % 16777216 + y = B at *
    have HP := Lib.hid hp
    clear hp
    rcases hcase with ⟨rfl, rfl⟩ | ⟨hgn, rfl⟩ | ⟨hgn, rfl⟩ <;>
    · go_enter Try.func7, Try.ntmps7
      go_wp2_with (first
        | (go_at_call 12; with_reducible refine N.out.mono ?_; rintro e w' ⟨rfl, rfl⟩)
        | (go_at_call 11; rw [HP.out]; with_reducible refine (R _).out.mono ?_; rintro e w' ⟨rfl, rfl⟩))
      go_ret2
      exact ⟨rfl, rfl⟩
  · simp only [show (256 : Int) ^ 4 = 4294967296 by rfl, show (4294967296 : Int) - 1 = 4294967295 by rfl] at *
    generalize E - E % 4294967296 + y = B at *
    have HP := Lib.hid hp
    clear hp
    rcases hcase with ⟨rfl, rfl⟩ | ⟨hgn, rfl⟩ | ⟨hgn, rfl⟩ <;>
    · go_enter Try.func7, Try.ntmps7
      go_wp2_with (first
        | (go_at_call 12; with_reducible refine N.out.mono ?_; rintro e w' ⟨rfl, rfl⟩)
        | (go_at_call 11; rw [HP.out]; with_reducible refine (R _).out.mono ?_; rintro e w' ⟨rfl, rfl⟩))
      go_ret2
      exact ⟨rfl, rfl⟩

end Go.Proofs.Ytfjhdlgcjbgnfaa
