/-
  The landed sha: the constants: a root's fraction.
-/
import Derived.Test.YtiiifcfgfmoiaaaSha
import Derived.Test.YtiiifcfgfmoiaaaOpens
namespace Go.Proofs.Ytiiifcfgfmoiaaa
open Go.RowKit

namespace Tab
/-- What Mul64 reckons, as it reckons it. -/
def mA (x y : Int) : Int := IntKind.u64.wrap (bits .and .u64 x 4294967295 * bits .and .u64 y 4294967295)
def mT (x y : Int) : Int := IntKind.u64.wrap (IntKind.u64.wrap (x / 4294967296 * bits .and .u64 y 4294967295) + mA x y / 4294967296)
def mW (x y : Int) : Int := IntKind.u64.wrap (bits .and .u64 (mT x y) 4294967295 + IntKind.u64.wrap (bits .and .u64 x 4294967295 * (y / 4294967296)))
def mH (x y : Int) : Int := IntKind.u64.wrap (IntKind.u64.wrap (IntKind.u64.wrap (x / 4294967296 * (y / 4294967296)) + mT x y / 4294967296) + mW x y / 4294967296)
def mL (x y : Int) : Int := IntKind.u64.wrap (x * y)
/-- The two halves behind k rounds of upper. -/
def ups (n : Int) : Nat → Int × Int
  | 0 => (0, 1)
  | k + 1 => (IntKind.u64.wrap (IntKind.u64.wrap ((ups n k).1 * n) + mH (ups n k).2 n), mL (ups n k).2 n)
def bitK (k : Nat) : Int := 137438953472 / 2 ^ k
/-- The root behind k rounds of fraction. -/
def root (b : Int) (d : Nat) : Nat → Int
  | 0 => 0
  | k + 1 => if (ups (bits .or .u64 (root b d k) (bitK k)) d).1 < b then bits .or .u64 (root b d k) (bitK k) else root b d k
def frac (b : Int) (d : Nat) : Int := IntKind.u32.wrap (root b d 38)
end Tab

theorem frac2 : Tab.frac 2 2 = 0x6a09e667 := by decide +kernel
theorem frac3 : Tab.frac (2 * 4294967296) 3 = 0x428a2f98 := by decide +kernel
theorem frac3b : Tab.frac (311 * 4294967296) 3 = 0xc67178f2 := by decide +kernel

set_option maxHeartbeats 1000000 in
theorem mul64_any (x y : Int) (w : World) :
    Calls Try.prog 45 #[.int .u64 x, .int .u64 y] w fun e w' => e = .returned (.tuple #[.int .u64 (Tab.mH x y), .int .u64 (Tab.mL x y)]) ∧ w' = w := by
  go_enter Try.func45, Try.ntmps45
  go_wp2
  go_ret2
  exact ⟨rfl, rfl⟩

set_option maxHeartbeats 1000000 in
theorem upper_any (n : Int) (d : Nat) (hd : d ≤ 4) (w : World) :
    Calls Try.prog 38 #[.int .u64 n, .int .i64 d] w fun e w' => e = .returned (.int .u64 (Tab.ups n d).1) ∧ w' = w := by
  go_enter Try.func38, Try.ntmps38
  go_wp2
  go_loop [5, 6, 10] (fun h l i => ∃ k : Nat, k ≤ d ∧ i = .int .i64 k ∧ h = .int .u64 (Tab.ups n k).1 ∧ l = .int .u64 (Tab.ups n k).2) (fun _ _ i => d - (intOf i).toNat)
  case atStart => exact ⟨0, by omega, rfl, rfl, rfl⟩
  case round =>
    obtain ⟨k, hk, rfl, rfl, rfl⟩ := hrel
    by_cases hlt : k < d
    · have M := fun W => Lib.hid (mul64_any (Tab.ups n k).2 n W)
      have E1 := Lib.hid (show (Tab.ups n (k + 1)).1 = IntKind.u64.wrap (IntKind.u64.wrap ((Tab.ups n k).1 * n) + Tab.mH (Tab.ups n k).2 n) from rfl)
      have E2 := Lib.hid (show (Tab.ups n (k + 1)).2 = Tab.mL (Tab.ups n k).2 n from rfl)
      generalize (Tab.ups n k).1 = a at *
      generalize (Tab.ups n k).2 = b at *
      go_wp2_with (go_at_call 45; with_reducible refine (M _).out.mono ?_; rintro e w1 ⟨rfl, rfl⟩)
      go_round
      case rel => exact ⟨k + 1, by omega, by go_num, by rw [E1.out], by rw [E2.out]⟩
      case measure => simp [intOf]; omega
    · obtain rfl : k = d := by omega
      go_wp2
      go_ret
      exact ⟨rfl, rfl⟩

theorem bitK_succ (k : Nat) (h : k < 38) : Tab.bitK k / 2 = Tab.bitK (k + 1) ∧ 0 < Tab.bitK k := by
  have : ∀ k : Fin 38, Tab.bitK k.val / 2 = Tab.bitK (k.val + 1) ∧ 0 < Tab.bitK k.val := by decide +kernel
  exact this ⟨k, h⟩

set_option maxHeartbeats 1000000 in
theorem fraction_any (p b dI : Int) (d : Nat) (hdI : dI = (d : Int)) (hp0 : 0 ≤ p) (hp1 : p ≤ 4095) (hb : d = 2 ∧ b = p ∨ d = 3 ∧ b = p * 4294967296) (w : World) :
    Calls Try.prog 32 #[.int .u64 p, .int .i64 dI] w fun e w' => e = .returned (.int .u32 (Tab.frac b d)) ∧ w' = w := by
  subst hdI
  have hd4 : d ≤ 4 := by omega
  have hb0 : 0 ≤ b ∧ b ≤ 17587891077120 := by omega
  have hsb : IntKind.u64.wrap (p * 2 ^ (32 * d - 64)) = b := by
    rcases hb with ⟨rfl, rfl⟩ | ⟨rfl, rfl⟩
    · rw [IntWalk.u64_in _ ⟨by simp; omega, by simp; omega⟩]; simp
    · rw [IntWalk.u64_in _ ⟨by simp; omega, by simp; omega⟩]; rfl
  have hs : 0 ≤ 32 * (d : Int) - 64 := by omega
  clear hb
  go_enter Try.func32, Try.ntmps32
  go_upto_region 2 with fail
  rw [hsb]
  clear hsb
  go_wp2
  go_loop [6, 7] (fun r t => ∃ k : Nat, k ≤ 38 ∧ r = .int .u64 (Tab.root b d k) ∧ t = .int .u64 (Tab.bitK k)) (fun _ t => (intOf t).toNat)
  case atStart => exact ⟨0, by omega, rfl, rfl⟩
  case round =>
    obtain ⟨k, hk, rfl, rfl⟩ := hrel
    by_cases hlt : k < 38
    · obtain ⟨h2, h0⟩ := bitK_succ k hlt
      obtain ⟨u, hu⟩ : ∃ u, u = (Tab.ups (bits .or .u64 (Tab.root b d k) (Tab.bitK k)) d).1 := ⟨_, rfl⟩
      have UP := fun W => Lib.hid (upper_any (bits .or .u64 (Tab.root b d k) (Tab.bitK k)) d hd4 W)
      rw [← hu] at UP
      have ER := Lib.hid (show Tab.root b d (k + 1) = if u < b then bits .or .u64 (Tab.root b d k) (Tab.bitK k) else Tab.root b d k from by rw [hu]; rfl)
      have HK2 := Lib.hid h2
      have H0 := Lib.hid h0
      generalize Tab.root b d k = r at *
      generalize hB : Tab.bitK k = B at *
      have HBB := Lib.hid hB
      clear hu h2 hB
      by_cases hub : u < b
      · rw [if_pos hub] at ER
        go_wp2_with (go_at_call 38; with_reducible refine (UP _).out.mono ?_; rintro e w1 ⟨rfl, rfl⟩)
        go_round
        case rel => exact ⟨k + 1, by omega, by rw [ER.out], by rw [← HK2.out]⟩
        case measure => have := H0.out; simp [intOf]; omega
      · rw [if_neg hub] at ER
        go_wp2_with (go_at_call 38; with_reducible refine (UP _).out.mono ?_; rintro e w1 ⟨rfl, rfl⟩)
        go_round
        case rel => exact ⟨k + 1, by omega, by rw [ER.out], by rw [← HK2.out]⟩
        case measure => have := H0.out; simp [intOf]; omega
    · obtain rfl : k = 38 := by omega
      have hz : Tab.bitK 38 = 0 := by decide
      rw [hz]
      go_wp2
      go_ret
      exact ⟨rfl, rfl⟩
end Go.Proofs.Ytiiifcfgfmoiaaa
