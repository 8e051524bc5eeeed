/-
  The document's answer to Sum: the bytes of the words; the whole.
-/
import Derived.Test.YtiiifcfgfmoiaaaRSha7
import Derived.Deep.RegionHeld3
import Derived.Deep.AppendLies
namespace Go.Proofs.Ytiiifcfgfmoiaaa
open Go.RowKit

theorem u8infB : (Try.prog.info? 5).map (fun i => (i.zero, i.size, i.bytes)) = some (some (.int .u8 0), 1, 1) := by kernel_rfl
/-- append onto a row of the call's own, as one step of a region that draws. -/
theorem step_app {P : Program} {ops : Array Oper} {o : Oper} {a : Act} {w : World} {K : Act → World → Prop} {Q : Exit → Act → World → Prop} {E : Prop}
    (hg : o.guard = none) (s x : Operand) (t : TypeId) (hop : o.op = Op.call { callee := Callee.builtin Builtin.append, args := #[s, x], argTypes := #[t, t] })
    (base : Nat) (e : TypeId) (z : Value) (size bytes : Nat) (ht : P.underlying t = some (.slice e)) (hinfo : (P.info? e).map (fun i => (i.zero, i.size, i.bytes)) = some (some z, size, bytes))
    (hzs : z.cells.size = size) (hsz : 0 < size) (v : Value) (n : Nat) (xs : List Value) (hs : a.eval s = v) (hown : w.ownsRow base e size v n xs)
    (A : Option Addr) (m c : Nat) (news : List Value) (hx : a.eval x = .slice A m c) (hl : news.length = m * size) (hr : Rd w A news) (h1 : ∀ u ∈ news, u.oneCell' = true)
    (h63 : n + m ≤ maxLen) (hbytes : (n + m) * bytes ≤ 140737488355328) (hbase : base ≤ w.heap.size)
    (h : ∀ v' w', w'.ownsRow base e size v' (n + m) (xs ++ news) → Keep v.ownBlock.toList w w' → (v'.ownBlock = v.ownBlock ∨ v'.ownBlock = some w.heap.size) → K (a.put o.dst v') w') :
    if Region.wanted o (yielded ops a.tmps) = true then Oper.wp P o a w K Q else E := by
  have hw : Region.wanted o (yielded ops a.tmps) = true := by simp [Region.wanted, hg]
  rw [if_pos hw]
  obtain ⟨v', w', hrun, h2, h3, h4⟩ := run_app (P := P) w base t o.type e z size bytes ht hinfo hzs hsz v n xs hown A m c news hl hr h1 h63 hbytes hbase
  unfold Oper.wp
  simp [execOp, hop, resolve, invoke, builtin, hs, hx, hrun, Result.andThen]
  exact h v' w' h2 h3 h4

/-- The bytes of the first i words. -/
def outB (s : Sha.St) (i : Nat) : List Int := (s.list.take i).flatMap fun (x : Nat) => bb (x : Int) 4
theorem outB_length (s : Sha.St) (i : Nat) (h : i ≤ 8) : (outB s i).length = 4 * i := by
  rcases (show i = 0 ∨ i = 1 ∨ i = 2 ∨ i = 3 ∨ i = 4 ∨ i = 5 ∨ i = 6 ∨ i = 7 ∨ i = 8 by omega) with rfl | rfl | rfl | rfl | rfl | rfl | rfl | rfl | rfl <;> rfl
theorem outB_succ (s : Sha.St) (i : Nat) (h : i < 8) : outB s (i + 1) = outB s i ++ bb (s.list.getD i 0 : Nat) 4 := by
  rcases (show i = 0 ∨ i = 1 ∨ i = 2 ∨ i = 3 ∨ i = 4 ∨ i = 5 ∨ i = 6 ∨ i = 7 by omega) with rfl | rfl | rfl | rfl | rfl | rfl | rfl | rfl <;> simp [outB, Sha.St.list]

noncomputable def rb8 : Code := loopOf Try.f19 8

set_option maxRecDepth 100000 in
set_option maxHeartbeats 8000000 in
theorem rl8 (R : Act → World → Prop) (a : Act) (w : World) (s : Sha.St) (H : Nat) (hs : Hid (St32 s))
    (hB : Hid (Blk w H 55 (cellsN s.list).toArray))
    (hF : Fr 313 [(3, .slice (some ⟨H, 0, none⟩) 8 8), (23, .slice none 0 0), (24, .int .i64 0)] a)
    (hQ : ∀ a' w' v, Fr 313 [(23, v)] a' → w'.ownsRow w.heap.size 5 1 v 32 ((Sha.bytes s).map (Value.int .u8)) → Keep [] w w' → R a' w') :
    Code.wp Try.prog (.loop rb8) (OutX 16 R) a w := by
  refine wp_loop_ghost_k (fun m a wr => ∃ i v, m + i = 8 ∧ Fr 313 [(3, .slice (some ⟨H, 0, none⟩) 8 8), (23, v), (24, .int .i64 i)] a ∧
    wr.ownsRow w.heap.size 5 1 v (4 * i) ((outB s i).map (Value.int .u8)) ∧ Keep [] w wr) 8 ⟨0, .slice none 0 0, rfl, hF, World.ownsRow_nil _ _ _ _, Keep.refl _ _⟩ ?_
  intro m a wr ⟨i, v, hmi, hFr, hO, hk1⟩ J K hJ hK
  obtain ⟨vA, vc, rfl⟩ := own_slice hO
  have HO := Lib.hid hO
  have HK := Lib.hid hk1
  have HJ := Lib.hid hJ
  have HMI := Lib.hid hmi
  have hi8 : i ≤ 8 := by omega
  obtain ⟨f, ⟨f3, f23, f24, -⟩, rfl⟩ := hFr.open313
  simp only [f3, f23, f24]
  clear f3 f23 f24 hF hFr hO hk1 hJ hmi
  conv => arg 2; whnf
  by_cases hlt : i < 8
  · clear hQ
    have c1 : wr.cell? ⟨H, i, none⟩ = some (.int .u32 ((s.list.getD i 0 : Nat) : Int)) := by
      rw [(hB.out.keep HK.out (by simp)).cell]
      simpa using cellsN_get s.list i (by rw [St.list_length]; exact hlt)
    have HS := Lib.hid (outB_succ s i hlt)
    generalize s.list.getD i 0 = x at *
    have bi : (0 : Int) ≤ i ∧ (i : Int) < 8 := ⟨by omega, by omega⟩
    go_upto_region 50 with fail
    have hbs : bb (x : Int) 4 = [(x : Int) / 16777216 % 256, (x : Int) / 65536 % 256, (x : Int) / 256 % 256, (x : Int) % 256] := by simp [bb]
    have HBS := Lib.hid hbs
    clear hbs
    have hHw : H < w.heap.size := hB.out.lt
    have hown : ∀ g, (Value.slice vA (4 * i) vc).ownBlock = some g → g ≠ H := fun g hg => by have := (HO.out.lt g hg).1; omega
    have HOWN := Lib.hid hown
    have HHW := Lib.hid hHw
    have HHr := Lib.hid (show H < wr.heap.size by have := HK.out.size; omega)
    clear hown hHw
    go_region_held3 (fun w' => w'.cell? ⟨H, i, none⟩ = some (.int .u32 (x : Int)))
      (first
        | go_keep
        | exact (hk1.cell (p := ⟨H, i, none⟩) (Nat.lt_of_lt_of_le HHr.out (by simp)) (fun hm => HOWN.out H (by simpa using hm) rfl)).trans ((World.cell?_alloc_past _ _ _ HHr.out).trans c1))
      ((refine step_app rfl _ _ _ rfl w.heap.size 5 (.int .u8 0) 1 1 Try.underlying24 u8infB rfl (by decide) (.slice vA (4 * i) vc) _ _ (by rfl) ((HO.out.alloc _).drew) (some ⟨wr.heap.size, 0, none⟩) 4 4 [.int .u8 ((x : Int) / 16777216 % 256), .int .u8 ((x : Int) / 65536 % 256), .int .u8 ((x : Int) / 256 % 256), .int .u8 ((x : Int) % 256)] (by rfl) rfl (Rd.of_blk (Blk.new wr 5 #[.int .u8 ((x : Int) / 16777216 % 256), .int .u8 ((x : Int) / 65536 % 256), .int .u8 ((x : Int) / 256 % 256), .int .u8 ((x : Int) % 256)])) (by simp [Value.oneCell']) (by simp only [maxLen]; omega) (by omega) (by have := HK.out.size; simp; omega) ?_; intro v1 w1 ho1 hk1 hat1))
    have hO2 : w1.ownsRow w.heap.size 5 1 v1 (4 * (i + 1)) ((outB s (i + 1)).map (Value.int .u8)) := by
      rw [HS.out, HBS.out, List.map_append]
      exact ho1
    have hk2 : Keep [] w w1 := by
      refine Keep.trans' (w1 := (wr.alloc (.cells #[.int .u8 ((x : Int) / 16777216 % 256), .int .u8 ((x : Int) / 65536 % 256), .int .u8 ((x : Int) / 256 % 256), .int .u8 ((x : Int) % 256)] 5)).drew) ((HK.out.alloc _).drew) hk1 fun g hg => ?_
      right
      exact (HO.out.lt g (by simpa using hg)).1
    have HO2 := Lib.hid hO2
    have HK2 := Lib.hid hk2
    clear hO2 hk2 ho1 hk1 hat1 c1 bi
    go_wp2_with fail
    exact Handed.intro (m - 1) (by have := HMI.out; omega) (HJ.out _ _ _ ⟨i + 1, v1, by have := HMI.out; omega, ⟨rfl, rfl, by repeat (first | exact trivial | refine ⟨rfl, ?_⟩)⟩, HO2.out, HK2.out⟩)
  · obtain rfl : i = 8 := by omega
    have hQ' := hQ
    clear hQ
    go_wp2
    exact ⟨rfl, hQ' _ _ _ ⟨rfl, rfl, by repeat (first | exact trivial | refine ⟨rfl, ?_⟩)⟩ HO.out HK.out⟩
end Go.Proofs.Ytiiifcfgfmoiaaa
