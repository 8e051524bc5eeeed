/-
  The landed span: what a set is in memory; how a place in it is found.
-/
import Derived.Test.YtpckbmebdhmfaaaSpN1
namespace Go.Proofs.Ytpckbmebdhmfaaa
open Go.RowKit

/-- The set's own cells: its limit, its row. -/
def SpS (w : World) (S : List Nat) (s m : Nat) (l : List (Nat × Nat)) : Prop :=
  ∃ lim v, Blk w s 58 #[.int .i64 lim, v] ∧ (Lit.int .i64 lim).wf = true ∧ m = (max lim 1).toNat ∧ w.ownsRow 0 26 2 v l.length (pcs l) ∧ S = s :: v.ownBlock.toList ∧ Span.Nrm l ∧ P64 l ∧ l.length ≤ m

section
variable (w : World)
set_option maxRecDepth 100000
set_option maxHeartbeats 2000000
theorem at_any {l : List (Nat × Nat)} {lim : Int} {v : Value} {s HB SB g i : Nat} {lb : Array Value} {b : Bool} (hs : Blk w s 58 #[.int .i64 lim, v]) (hv : S2 w v l) (hH : Blk w HB 48 #[.func (.func g) #[] lb]) (hS : Blk w SB 28 #[.pointer (some ⟨s, 0, none⟩)])
    (hi : i < l.length) (hn : l.length ≤ 1000000) (eg : ∀ args w, (callFunc g args).run Try.prog w = .ok (.enter g args) w)
    (hp : ∀ W, Keep [] w W → Calls Try.prog g (#[pv (l.getD i (0, 0))] ++ lb) W fun e W' => e = .returned (.bool b) ∧ Keep [] W W') :
    Calls Try.prog 46 #[.int .i64 (i : Nat), .pointer (some ⟨HB, 0, none⟩), .pointer (some ⟨SB, 0, none⟩)] w fun e w' => e = .returned (.bool b) ∧ Keep [] w w' := by
  obtain ⟨B, off, c, rfl, hc1, hc2, hlt, hcell⟩ := hv.cells (by omega)
  obtain ⟨x1, x2⟩ := hcell i hi
  have s0 : w.cell? ⟨s, 1, none⟩ = some (.slice (some ⟨B, off, none⟩) l.length c) := hs.cell 1
  have h0 : w.cell? ⟨HB, 0, none⟩ = some (.func (.func g) #[] lb) := hH.cell 0
  have b0 : w.cell? ⟨SB, 0, none⟩ = some (.pointer (some ⟨s, 0, none⟩)) := hS.cell 0
  have HP := Lib.hid hp
  clear hp hcell hs hH hS hv
  obtain ⟨x, hx⟩ : ∃ x, x = l.getD i (0, 0) := ⟨_, rfl⟩
  rw [← hx] at HP x1 x2
  clear hx
  obtain ⟨xa, xb⟩ := x
  obtain ⟨n, hnl⟩ : ∃ n, n = l.length := ⟨_, rfl⟩
  rw [← hnl] at s0 hi hc1 hn
  clear hnl
  have bi : (0 : Int) ≤ i ∧ (i : Int) < n := ⟨by omega, by omega⟩
  have HP2 : Hid (∀ W, Keep [] w W → Calls Try.prog g (#[.agg #[.int .u64 (xa : Nat), .int .u64 (xb : Nat)]] ++ lb) W fun e W' => e = .returned (.bool b) ∧ Keep [] W W') := HP
  clear HP
  simp only at x1 x2
  go_enter Try.func46, Try.ntmps46
  go_upto_region 1 with fail
  go_region_with (go_at_fn g; with_reducible refine (HP2.out _ (Keep.refl _ _).drew).mono ?_; rintro e w1 ⟨rfl, hk1⟩; have HK1 := Lib.hid ((Keep.refl [] w).drew.trans hk1); clear hk1)
  all_goals go_simp
  all_goals (go_wp2_with fail; go_ret; exact ⟨rfl, HK1.out⟩)
theorem find_any {l : List (Nat × Nat)} {lim : Int} {v : Value} {s g : Nat} {lb : Array Value} (p : Nat × Nat → Bool) (hs : Blk w s 58 #[.int .i64 lim, v]) (hv : S2 w v l) (hn : l.length ≤ 1000000) (eg : ∀ args w, (callFunc g args).run Try.prog w = .ok (.enter g args) w)
    (hp : ∀ W x, Keep [] w W → x ∈ l → Calls Try.prog g (#[pv x] ++ lb) W fun e W' => e = .returned (.bool (p x)) ∧ Keep [] W W') (hm : ∀ i j, i ≤ j → j < l.length → p (l.getD i (0, 0)) = true → p (l.getD j (0, 0)) = true) :
    Calls Try.prog 34 #[.pointer (some ⟨s, 0, none⟩), .func (.func g) #[] lb] w fun e w' => e = .returned (.int .i64 ((Span.fi p l : Nat) : Int)) ∧ Keep [] w w' := by
  have HM := Lib.hid hm
  have HP := Lib.hid hp
  have HS := Lib.hid hs
  have HV := Lib.hid hv
  obtain ⟨n, hnl⟩ : ∃ n, n = l.length := ⟨_, rfl⟩
  have HN := Lib.hid hnl
  obtain ⟨A, c, rfl, hc1, hc2, -, -⟩ := hv
  have eg2 := enters_of Try.func46 (by kernel_rfl) rfl
  have FIND : Hid (∀ W SB HB, Keep [] w W → Blk W SB 28 #[.pointer (some ⟨s, 0, none⟩)] → Blk W HB 48 #[.func (.func g) #[] lb] →
      Calls Try.prog 45 #[.int .i64 (n : Nat), .func (.func 46) #[] #[.pointer (some ⟨HB, 0, none⟩), .pointer (some ⟨SB, 0, none⟩)]] W fun e w' => e = .returned (.int .i64 ((Span.fi p l : Nat) : Int)) ∧ Keep [] W w') := by
    intro W SB HB hW hSB hHB
    have hN := HN.out
    refine (search_any W n _ _ (fun i => p (l.getD i (0, 0))) (by omega) eg2 (fun W' i hk hi => ?_) (fun i j h1 h2 h3 => HM.out i j h1 (by omega) h3)).mono ?_
    · have hk2 := hW.trans hk
      refine at_any W' ((HS.out.keep hk2 (by simp))) (HV.out.keep0 hk2) (hHB.keep hk (by simp)) (hSB.keep hk (by simp)) (by omega) (by omega) eg (fun W2 hk3 => HP.out W2 _ (hk2.trans hk3) ?_)
      rw [List.getD_eq_getElem?_getD, List.getElem?_eq_getElem (by omega)]
      exact List.getElem_mem _
    · rintro e w' ⟨k, rfl, h1, h2, h3, h4⟩
      refine ⟨?_, h4⟩
      rw [Span.fi_uniq p l k (by omega) h2 (fun h => h3 (by omega))]
  have s0 : w.cell? ⟨s, 1, none⟩ = some (.slice A n c) := by rw [hnl]; exact hs.cell 1
  have s1 := fun o => Lib.cell?_alloc_some (W := w) o s0
  have s2 := fun o o' => Lib.cell?_alloc_some (W := w.alloc o) o' (s1 o)
  clear hm hp hs hnl hc1 hc2
  go_enter Try.func34, Try.ntmps34
  go_wp2_with (go_at_call 45; with_reducible refine (FIND.out _ w.heap.size (w.heap.size + 1) (((Keep.refl [] w).alloc _).alloc _) ((Blk.new w 28 #[.pointer (some ⟨s, 0, none⟩)]).alloc _) (by have := Blk.new (w.alloc (.cells #[.pointer (some ⟨s, 0, none⟩)] 28)) 48 #[.func (.func g) #[] lb]; simpa using this)).mono ?_; rintro e w1 ⟨rfl, hk1⟩; have HK1 := Lib.hid ((((Keep.refl [] w).alloc _).alloc _).trans hk1); clear hk1)
  go_ret
  exact ⟨rfl, HK1.out⟩
end
end Go.Proofs.Ytpckbmebdhmfaaa
