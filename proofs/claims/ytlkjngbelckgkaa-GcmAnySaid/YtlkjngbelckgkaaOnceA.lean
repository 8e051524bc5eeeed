/-
  sync.Once of one goroutine: Do, not yet done: the function is called, done is stored; Do, done: nothing.
-/
import Derived.Test.YtlkjngbelckgkaaBase
import Derived.Defers
import Derived.Laws.Pointers
import Derived.Laws.LoneSync
import Derived.RegionTactic
import Derived.RegionCalls
namespace Go.Proofs.Ytlkjngbelckgkaa
open Go.RowKit

theorem raceA_disable (w : World) : (callFunc 55 #[]).run Try.prog w = .ok (.value (.tuple #[])) w := run_call_mark0 Try.func55 (by kernel_rfl) (by kernel_rfl) (by kernel_rfl) .disable (by kernel_rfl) w
theorem raceA_enable (w : World) : (callFunc 57 #[]).run Try.prog w = .ok (.value (.tuple #[])) w := run_call_mark0 Try.func57 (by kernel_rfl) (by kernel_rfl) (by kernel_rfl) .enable (by kernel_rfl) w
theorem raceA_acquire (a : Addr) (w : World) : (callFunc 58 #[.pointer (some a)]).run Try.prog w = .ok (.value (.tuple #[])) w := run_call_marked Try.func58 (by kernel_rfl) (by kernel_rfl) (by kernel_rfl) .acquire (by kernel_rfl) a w
theorem raceA_release (a : Addr) (w : World) : (callFunc 60 #[.pointer (some a)]).run Try.prog w = .ok (.value (.tuple #[])) w := run_call_marked Try.func60 (by kernel_rfl) (by kernel_rfl) (by kernel_rfl) .releaseMerge (by kernel_rfl) a w

set_option maxRecDepth 100000 in
/-- Bool.Store(true), deferred: the cell holds 1. -/
theorem onceA_stored (a : Addr) (x : Value) (u : FrameMode) (w : World) (hc : w.cell? a = some x) (hz : w.frozen? a = false) :
    CallsD Try.prog 50 #[.pointer (some a), .bool true] u w fun e u' w' => u' = u ∧ (e = .returned (.tuple #[]) ∧ w' = w.drew.setCell a (.int .u32 1)) := by
  have hc' : w.drew.cell? a = some x := by go_simp
  have hz' : w.drew.frozen? a = false := by go_simp
  have hst := run_call_store (P := Try.prog) Try.func53 (by kernel_rfl) (by kernel_rfl) (by kernel_rfl) (by kernel_rfl) (k := .u32) (y := 1) hc' hz'
  go_enter_d Try.func50, Try.ntmps50
  go_wp2
  go_region_calls
  all_goals (go_end0; exact ⟨rfl, rfl⟩)

set_option maxRecDepth 100000 in
/-- Unlock, deferred, the lock held and nobody waiting. -/
theorem onceA_unlocked (a : Addr) (u : FrameMode) (w : World) (hc : w.cell? a = some (.int .i32 1)) (hz : w.frozen? a = false) :
    CallsD Try.prog 49 #[.pointer (some a)] u w fun e u' w' => u' = u ∧ (e = .returned (.tuple #[]) ∧ w' = w.setCell a (.int .i32 0)) := by
  have hd := raceA_disable
  have he := raceA_enable
  have hr := raceA_release
  have hadd := run_call_add (P := Try.prog) Try.func61 (by kernel_rfl) (by kernel_rfl) (by kernel_rfl) .i32 (by kernel_rfl) (y := -1) (s := 0) hc hz (by simp [go_sem]; rfl)
  have hcv := run_convert_to_unsafe (P := Try.prog) (src := 102) (dst := 106) Try.underlying102 Try.underlying106 (by kernel_rfl) hc
  go_enter_d Try.func49, Try.ntmps49
  go_wp2
  go_end0
  go_wp2
  go_end0
  exact ⟨rfl, rfl⟩

set_option maxRecDepth 100000 in
/-- Lock, the lock free. -/
theorem onceA_locked (a : Addr) (w : World) (hc : w.cell? a = some (.int .i32 0)) (hz : w.frozen? a = false) :
    Calls Try.prog 48 #[.pointer (some a)] w fun e w' => e = .returned (.tuple #[]) ∧ w' = w.setCell a (.int .i32 1) := by
  have hd := raceA_disable
  have he := raceA_enable
  have ha := raceA_acquire
  have hcas := run_call_cas_hit (P := Try.prog) Try.func56 (by kernel_rfl) (by kernel_rfl) (by kernel_rfl) .i32 (by kernel_rfl) (y := 1) hc hz
  have hc' : (w.setCell a (.int .i32 1)).cell? a = some (.int .i32 1) := World.cell?_setCell_same w a _ hc
  have hcv := run_convert_to_unsafe (P := Try.prog) (src := 102) (dst := 106) Try.underlying102 Try.underlying106 (by kernel_rfl) hc'
  go_enter Try.func48, Try.ntmps48
  go_wp2
  first | go_end0 | (simp only [Exit.inBlock, Exit.then]; refine bodyPost_ret (results_none rfl _ _ _) rfl ?_) | refine bodyPost_ret (results_none rfl _ _ _) rfl ?_
  go_wp2
  go_end0
  exact ⟨rfl, rfl⟩

set_option maxRecDepth 100000 in
set_option maxHeartbeats 1600000 in
theorem onceA_slow (g o : Nat) (T : TypeId) (cs cs2 : Array Value) (recv : Value) (w : World) (hB : Blk w g T cs) (hd : cs[o]? = some (.int .u32 0)) (hm : cs[o + 1]? = some (.int .i32 0))
    (hF : ∀ w1, Blk w1 g T (cs.setIfInBounds (o + 1) (.int .i32 1)) → Keep [g] w w1 → Calls Try.prog 23 #[recv] w1 fun e w2 => e = .returned (.tuple #[]) ∧ Blk w2 g T cs2 ∧ Keep [g] w1 w2)
    (h2d : cs2[o]? = some (.int .u32 0)) (h2m : cs2[o + 1]? = some (.int .i32 1)) :
    Calls Try.prog 39 #[.pointer (some ⟨g, o, none⟩), .func (.func 23) #[recv] #[]] w fun e w' => e = .returned (.tuple #[]) ∧
      Blk w' g T ((cs2.setIfInBounds o (.int .u32 1)).setIfInBounds (o + 1) (.int .i32 0)) ∧ Keep [g] w w' := by
  have hc0 : w.cell? ⟨g, o, none⟩ = some (.int .u32 0) := by rw [hB.cell]; exact hd
  have hc1 : w.cell? ⟨g, o + 1, none⟩ = some (.int .i32 0) := by rw [hB.cell]; exact hm
  have hB1 := hB.set_ (o + 1) (.int .i32 1)
  have hk1 : Keep [g] w (w.setCell ⟨g, o + 1, none⟩ (.int .i32 1)) := (Keep.refl _ _).setCell (.inl (by simp)) _
  have hl := run_call_load (P := Try.prog) Try.func47 (by kernel_rfl) (by kernel_rfl) (by kernel_rfl) .u32 (by kernel_rfl) (w := w.setCell ⟨g, o + 1, none⟩ (.int .i32 1)) (a := ⟨g, o, none⟩) (x := 0) ((World.cell?_setCell_other _ ⟨g, o + 1, none⟩ ⟨g, o, none⟩ _ (by simp)).trans hc0)
  have LK := Lib.hid (onceA_locked ⟨g, o + 1, none⟩ w hc1 (hB.frozen _))
  have F := Lib.hid (hF _ hB1 hk1)
  have HK1 := Lib.hid hk1
  have H2D := Lib.hid h2d
  have H2M := Lib.hid h2m
  clear hF hB1 hk1 h2d h2m hd hm hc0 hc1 hB
  have hnot : ∀ (x : Bool) (w : World), (Op.unary .not (.bool x)).run Try.prog w = .ok (.bool (!x)) w := fun _ _ => rfl
  go_enter_defers Try.func39, Try.ntmps39
  go_wp2_with (first
    | (go_at_call 48; with_reducible refine LK.out.mono ?_; rintro e w' ⟨rfl, rfl⟩)
    | (go_at_call 23; with_reducible refine F.out.mono ?_; rintro e w2 ⟨rfl, hB2, hk2⟩; have HB2 := Lib.hid hB2; have HK2 := Lib.hid hk2; clear hB2 hk2)
    | (go_at_call 38; go_in))
  have hz0 : w2.frozen? ⟨g, o, none⟩ = false := HB2.out.frozen _
  have ho0 : w2.cell? ⟨g, o, none⟩ = some (.int .u32 0) := by rw [HB2.out.cell]; exact H2D.out
  have hz1 : w2.frozen? ⟨g, o + 1, none⟩ = false := HB2.out.frozen _
  have ho1 : w2.cell? ⟨g, o + 1, none⟩ = some (.int .i32 1) := by rw [HB2.out.cell]; exact H2M.out
  refine leaves_cons (f := 50) (args := #[.pointer (some ⟨g, o, none⟩), .bool true]) (by simp) (by simp [go_sem]) ?_
  refine (onceA_stored ⟨g, o, none⟩ (.int .u32 0) .returning _ ho0 hz0).mono ?_
  rintro e u' w'' ⟨rfl, rfl, rfl⟩
  refine leaves_cons (f := 49) (args := #[.pointer (some ⟨g, o + 1, none⟩)]) (by simp [settle]) (by simp [go_sem]) ?_
  refine (onceA_unlocked ⟨g, o + 1, none⟩ _ _ ?_ (by simp [hz1])).mono ?_
  · refine (World.cell?_setCell_other _ ⟨g, o, none⟩ ⟨g, o + 1, none⟩ _ (by simp)).trans ?_
    rw [World.cell?_drew]
    exact ho1
  rintro e u' w'' ⟨rfl, rfl, rfl⟩
  have hB3 : Blk ((w2.drew.setCell ⟨g, o, none⟩ (.int .u32 1)).setCell ⟨g, o + 1, none⟩ (.int .i32 0)) g T ((cs2.setIfInBounds o (.int .u32 1)).setIfInBounds (o + 1) (.int .i32 0)) := (HB2.out.drew.set_ o (.int .u32 1)).set_ (o + 1) (.int .i32 0)
  have hk3 : Keep [g] w ((w2.drew.setCell ⟨g, o, none⟩ (.int .u32 1)).setCell ⟨g, o + 1, none⟩ (.int .i32 0)) := ((HK1.out.trans HK2.out).drew.setCell (.inl (by simp)) _).setCell (.inl (by simp)) _
  have HB3 := Lib.hid hB3
  have HK3 := Lib.hid hk3
  clear hB3 hk3 hz0 ho0 hz1 ho1 hl hnot HB2 HK2
  generalize (w2.drew.setCell ⟨g, o, none⟩ (.int .u32 1)).setCell ⟨g, o + 1, none⟩ (.int .i32 0) = W3 at *
  simp [Leaves, settle, results, Try.results39]
  exact ⟨HB3.out, HK3.out⟩

set_option maxRecDepth 100000 in
/-- Do, not yet done. -/
theorem onceA_first (g o : Nat) (T : TypeId) (cs cs2 : Array Value) (recv : Value) (w : World) (hB : Blk w g T cs) (hd : cs[o]? = some (.int .u32 0)) (hm : cs[o + 1]? = some (.int .i32 0))
    (hF : ∀ w1, Blk w1 g T (cs.setIfInBounds (o + 1) (.int .i32 1)) → Keep [g] w w1 → Calls Try.prog 23 #[recv] w1 fun e w2 => e = .returned (.tuple #[]) ∧ Blk w2 g T cs2 ∧ Keep [g] w1 w2)
    (h2d : cs2[o]? = some (.int .u32 0)) (h2m : cs2[o + 1]? = some (.int .i32 1)) :
    Calls Try.prog 22 #[.pointer (some ⟨g, o, none⟩), .func (.func 23) #[recv] #[]] w fun e w' => e = .returned (.tuple #[]) ∧
      Blk w' g T ((cs2.setIfInBounds o (.int .u32 1)).setIfInBounds (o + 1) (.int .i32 0)) ∧ Keep [g] w w' := by
  have hc0 : w.cell? ⟨g, o, none⟩ = some (.int .u32 0) := by rw [hB.cell]; exact hd
  have hl := run_call_load (P := Try.prog) Try.func47 (by kernel_rfl) (by kernel_rfl) (by kernel_rfl) .u32 (by kernel_rfl) hc0
  have hnot : ∀ (x : Bool) (w : World), (Op.unary .not (.bool x)).run Try.prog w = .ok (.bool (!x)) w := fun _ _ => rfl
  have SL := Lib.hid (onceA_slow g o T cs cs2 recv w hB hd hm hF h2d h2m)
  clear hF hB hd hm h2d h2m
  go_enter Try.func22, Try.ntmps22
  go_wp2_with (first
    | (go_at_call 39; with_reducible refine SL.out.mono ?_; rintro e w' ⟨rfl, hb, hk⟩; have HB := Lib.hid hb; have HK := Lib.hid hk; clear hb hk)
    | (go_at_call 38; go_in))
  go_end0
  exact ⟨rfl, HB.out, HK.out⟩

set_option maxRecDepth 100000 in
/-- Do, done already. -/
theorem onceA_done (g o : Nat) (d : Int) (hd : (d != 0) = true) (fv : Value) (w : World) (h0 : w.cell? ⟨g, o, none⟩ = some (.int .u32 d)) :
    Calls Try.prog 22 #[.pointer (some ⟨g, o, none⟩), fv] w fun e w' => e = .returned (.tuple #[]) ∧ w = w' := by
  have hl := run_call_load (P := Try.prog) Try.func47 (by kernel_rfl) (by kernel_rfl) (by kernel_rfl) .u32 (by kernel_rfl) h0
  have hnot : ∀ (x : Bool) (w : World), (Op.unary .not (.bool x)).run Try.prog w = .ok (.bool (!x)) w := fun _ _ => rfl
  go_enter Try.func22, Try.ntmps22
  go_wp2
  go_end0
  exact ⟨rfl, rfl⟩
end Go.Proofs.Ytlkjngbelckgkaa
