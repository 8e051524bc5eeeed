/-
  The law KdfDerives: its drawn regions.
-/
import Derived.Test.YtiiifcfgfmoiaaaKdf7
import Derived.Test.YtiiifcfgfmoiaaaOpens3
namespace Go.Proofs.Ytiiifcfgfmoiaaa
open Go.RowKit

theorem step_wpG {P : Program} {ops : Array Oper} {o : Oper} {a : Act} {w : World} {K : Act → World → Prop} {Q : Exit → Act → World → Prop} {E : Prop} (hw : Region.wanted o (yielded ops a.tmps) = true) (h : Oper.wp P o a w K Q) :
    if Region.wanted o (yielded ops a.tmps) = true then Oper.wp P o a w K Q else E := by
  rw [if_pos hw]
  exact h
/-- A conversion. -/
theorem ow_conv {P : Program} {o : Oper} {a : Act} {w : World} {K : Act → World → Prop} {Q : Exit → Act → World → Prop} (src dst : TypeId) (x : Operand) (ho : o.op = Op.convert src dst x) (v u : Value) (hx : a.eval x = v) (hrun : (convert src dst v).run P w = .ok u w) (h : K (a.put o.dst u) w) : o.wp P a w K Q := by
  unfold Oper.wp
  simp [execOp, ho, hx, hrun, Result.andThen]
  exact h

noncomputable def hder6 : Code := regionOf Try.f5 6

set_option maxRecDepth 100000 in
set_option maxHeartbeats 8000000 in
theorem der_reg6 (hX : ExtractC) (hDe : DeriveC) (R : Act → World → Prop) (a : Act) (w2 : World) (k t g0 : Nat) (sA nA dA : Option Addr) (sc nc dc : Nat) (sl nl dl kl : List Int) (lab : ByteArray) (D0 DX DD : Array Value)
    (hK : Hid (KS w2 k t)) (hB : Hid (Blk w2 g0 23 D0)) (hg0 : Hid (g0 ≠ k ∧ g0 ≠ t)) (hD0 : Hid (D0 = (kl.map (Value.int .u8)).toArray)) (hs : Hid (Secr kl))
    (hS : Hid (Sl .u8 w2 (.slice sA sl.length sc) sl)) (hN : Hid (Sl .u8 w2 (.slice nA nl.length nc) nl)) (hD : Hid (Sl .u8 w2 (.slice dA dl.length dc) dl)) (hap : Hid (0 < dl.length → ∀ g, (Value.slice dA dl.length dc).ownBlock = some g → g ∉ [k, t]))
    (hsl : Hid (sl.length ≤ 10000)) (hnl : Hid (nl.length ≤ 10000)) (hdl : Hid (dl.length ≤ 10000)) (hlab : Hid (lab.size ≤ 249))
    (hDX : Hid (DX = ((Sha.mark sl nl).map (Value.int .u8)).toArray)) (hDD : Hid (DD = ((Sha.label kl (sby lab) (Sha.sum dl) 32).map (Value.int .u8)).toArray))
    (hF : Fr 75 [(1, .slice sA sl.length sc), (2, .slice nA nl.length nc), (3, .slice dA dl.length dc), (4, .string lab), (5, .pointer (some ⟨g0, 0, none⟩)), (10, .bool false), (11, .pointer (some ⟨k, 0, none⟩))] a)
    (hR : Hid (∀ a' w' m12 m13, Fr 75 [(1, .slice sA sl.length sc), (2, .slice nA nl.length nc), (3, .slice dA dl.length dc), (4, .string lab), (5, .pointer (some ⟨g0, 0, none⟩)), (10, .bool false), (11, .pointer (some ⟨k, 0, none⟩)), (12, .pointer (some ⟨m12, 0, none⟩)), (13, .pointer (some ⟨m13, 0, none⟩))] a' → w2.heap.size ≤ m12 → w2.heap.size ≤ m13 → Blk w' m12 23 DX → Blk w' m13 23 DD → KS w' k t → Keep [k, t] w2 w' → R a' w')) :
    Code.wp Try.prog hder6 (OutN R) a w2 := by
  obtain ⟨Z, hZ, hZs, hZi⟩ := sec32
  have HZS := Lib.hid hZs
  have HZI := Lib.hid hZi
  have H0S := Lib.hid (show D0.size = 32 by rw [hD0.out]; simp [hs.out.1])
  have HXS := Lib.hid (show DX.size = 32 by rw [hDX.out]; simp [mark_length])
  have HX1 := Lib.hid (show DX.all (·.oneCell') = true by rw [hDX.out]; exact arr_cell _)
  have HDS := Lib.hid (show DD.size = 32 by rw [hDD.out]; simp [label_len])
  have HD1 := Lib.hid (show DD.all (·.oneCell') = true by rw [hDD.out]; exact arr_cell _)
  have HLT := Lib.hid hK.out.lt
  clear hZ hZs hZi
  have LD : ∀ W, Keep [k, t] w2 W → Blk W g0 23 D0 := fun W hk => hB.out.keep hk (by have := hg0.out; simp; omega)
  have EX : ∀ W, Keep [] w2 W → KS W k t → Calls Try.prog 13 #[.pointer (some ⟨k, 0, none⟩), .slice sA sl.length sc, .slice nA nl.length nc] W fun e w' => e = .returned (.agg DX) ∧ KS w' k t ∧ Keep [k, t] W w' := by
    intro W hk hks
    have := hX W k t _ _ sl nl hks (hS.out.keep0 hk) (hN.out.keep0 hk) hsl.out hnl.out
    rw [arr_agg, ← hDX.out] at this
    exact this
  have DE : ∀ W, Keep [k, t] w2 W → KS W k t → Calls Try.prog 14 #[.pointer (some ⟨k, 0, none⟩), .agg D0, .string lab, .slice dA dl.length dc] W fun e w' => e = .returned (.agg DD) ∧ KS w' k t ∧ Keep [k, t] W w' := by
    intro W hk hks
    have := hDe W k t kl lab _ dl hks hs.out (hD.out.keep hk hap.out) hlab.out hdl.out
    rw [arr_agg, arr_agg, ← hDD.out, ← hD0.out] at this
    exact this
  obtain ⟨f, ⟨f1, f2, f3, f4, f5, f10, f11, -⟩, rfl⟩ := hF.open75
  simp only [f1, f2, f3, f4, f5, f10, f11]
  clear f1 f2 f3 f4 f5 f10 f11 hF
  conv => arg 2; whnf
  refine wp_region_any (by kernel_rfl) ?_
  change wpAny _ _ _ _ _ _ _ (World.drew _)
  obtain ⟨W0, hW0⟩ : ∃ W0, W0 = w2.drew := ⟨_, rfl⟩
  rw [← hW0]
  have hk0 : Keep [] w2 W0 := by rw [hW0]; exact (Keep.refl [] w2).drew
  have hS0 : KS W0 k t := hK.out.keep0 hk0
  clear hW0
  go_simp
  refine wpAny_take (i := 0) (v := ?_) rfl (by kernel_rfl) (by kernel_rfl) (by kernel_rfl) (fun _ _ _ h => h) (Or.inl ⟨by rfl, ?_⟩) ?_
  rotate_left
  · intro y; go_simp; try (with_reducible rfl)
  rotate_left
  go_simp
  refine wpAny_take (i := 1) (v := ?_) rfl (by kernel_rfl) (by kernel_rfl) (by kernel_rfl) (fun _ _ _ h => h) (Or.inl ⟨by rfl, ?_⟩) ?_
  rotate_left
  · intro y; go_simp; try (with_reducible rfl)
  rotate_left
  go_simp
  refine wpAny_take (i := 2) (v := ?_) rfl (by kernel_rfl) (by kernel_rfl) (by kernel_rfl) (fun _ _ _ h => h) (Or.inl ⟨by rfl, ?_⟩) ?_
  rotate_left
  · intro y; go_simp; try (with_reducible rfl)
  rotate_left
  go_simp
  refine wpAny_take (i := 4) (v := ?_) rfl (by kernel_rfl) (by kernel_rfl) (by kernel_rfl) (fun _ _ _ h => h) (Or.inl ⟨by rfl, ?_⟩) ?_
  rotate_left
  · intro y; go_simp; try (with_reducible rfl)
  rotate_left
  go_simp
  refine wpAny_take (i := 6) (v := ?_) rfl (by kernel_rfl) (by kernel_rfl) (by kernel_rfl) (fun _ _ _ h => h) (Or.inl ⟨by rfl, ?_⟩) ?_
  rotate_left
  · intro y; go_simp; try (with_reducible rfl)
  rotate_left
  go_simp
  refine wpAny_take (i := 7) (v := ?_) rfl (by kernel_rfl) (by kernel_rfl) (by kernel_rfl) (fun _ _ _ h => h) (Or.inl ⟨by rfl, ?_⟩) ?_
  rotate_left
  · intro y; go_simp; try (with_reducible rfl)
  rotate_left
  go_simp
  refine wpAny_ready (rs := [3, 5, 9, 10]) (by kernel_rfl) (by simp) ?_
  refine AllReady.cons rfl (fun K hK => ?_) ?_
  ·
    apply step_wp
    · rfl
    refine ow_call _ _ _ (by kernel_rfl) (EX _ hk0 hS0) ?_
    rintro e W3 ⟨rfl, hS3, hs3⟩
    refine ⟨_, rfl, ?_⟩
    have hk3 : Keep [k, t] w2 W3 := hk0.more0.trans hs3
    clear hs3
    apply hK
    clear hK K
    go_simp
    refine wpAny_ready (rs := [5, 9, 10]) (by kernel_rfl) (by simp) ?_
    refine AllReady.cons rfl (fun K hK => ?_) ?_
    ·
      apply step_wp
      · rfl
      refine ow_load _ _ rfl g0 rfl 32 5 Try.underlying23 _ D0 (LD _ hk3) (by rw [H0S.out]; exact secCells) ?_
      apply hK
      clear hK K
      go_simp
      refine wpAny_ready (rs := [8, 9, 10]) (by kernel_rfl) (by simp) ?_
      refine AllReady.cons rfl (fun K hK => ?_) ?_
      ·
        apply step_wp
        · rfl
        refine ow_call _ _ _ (by kernel_rfl) (DE _ hk3 hS3) ?_
        rintro e W8 ⟨rfl, hS8, hs8⟩
        refine ⟨_, rfl, ?_⟩
        have hk8 : Keep [k, t] w2 W8 := hk3.trans hs8
        clear hs8
        apply hK
        clear hK K
        go_simp
        refine wpAny_ready (rs := [9, 10]) (by kernel_rfl) (by simp) ?_
        refine AllReady.cons rfl (fun K hK => ?_) ?_
        ·
          apply step_wp
          · rfl
          refine ow_alloc _ rfl Z 32 HZI.out ?_
          intro m9 W9 hn9 hb9 hs9
          replace hn9 : w2.heap.size ≤ m9 := by rw [hn9]; exact hk8.size
          have hk9 : Keep [k, t] w2 W9 := hk8.trans0 hs9
          have hS9 : KS W9 k t := hS8.keep0 hs9
          clear hs9
          apply hK
          clear hK K
          go_simp
          refine wpAny_ready (rs := [10]) (by kernel_rfl) (by simp) ?_
          refine AllReady.cons rfl (fun K hK => ?_) ?_
          ·
            apply step_wp
            · rfl
            refine ow_alloc _ rfl Z 32 HZI.out ?_
            intro m10 W10 hn10 hb10 hs10
            have hne := hb9.lt
            replace hne : m9 ≠ m10 := by omega
            replace hn10 : w2.heap.size ≤ m10 := by rw [hn10]; exact hk9.size
            have hk10 : Keep [k, t] w2 W10 := hk9.trans0 hs10
            have hS10 : KS W10 k t := hS9.keep0 hs10
            replace hb9 := hb9.keep hs10 (by simp)
            clear hs10
            apply hK
            clear hK K
            go_simp
            refine wpAny_ready (rs := [11]) (by kernel_rfl) (by simp) ?_
            refine AllReady.cons rfl (fun K hK => ?_) ?_
            ·
              apply step_wp
              · rfl
              refine ow_store _ _ _ rfl m9 DX rfl rfl _ _ hb9 (by rw [HXS.out]; exact secCells) (by rw [HXS.out]; exact HZS.out) HX1.out ?_
              intro W11 hb9x hs11
              have hk11 : Keep [k, t] w2 W11 := hk10.trans' hs11 (fun x hx => by right; simp at hx; omega)
              have hS11 : KS W11 k t := hS10.keep hs11 (by have := HLT.out; simp; omega) (by have := HLT.out; simp; omega)
              replace hb9 := hb9x
              replace hb10 := hb10.keep hs11 (by simp; omega)
              clear hs11
              apply hK
              clear hK K
              go_simp
              refine wpAny_ready (rs := [12]) (by kernel_rfl) (by simp) ?_
              refine AllReady.cons rfl (fun K hK => ?_) ?_
              ·
                apply step_wp
                · rfl
                refine ow_store _ _ _ rfl m10 DD rfl rfl _ _ hb10 (by rw [HDS.out]; exact secCells) (by rw [HDS.out]; exact HZS.out) HD1.out ?_
                intro W12 hb10x hs12
                have hk12 : Keep [k, t] w2 W12 := hk11.trans' hs12 (fun x hx => by right; simp at hx; omega)
                have hS12 : KS W12 k t := hS11.keep hs12 (by have := HLT.out; simp; omega) (by have := HLT.out; simp; omega)
                replace hb10 := hb10x
                replace hb9 := hb9.keep hs12 (by simp; omega)
                clear hs12
                apply hK
                clear hK K
                go_simp
                refine wpAny_done (by kernel_rfl) ?_ _
                exact hR.out _ _ _ _ ⟨rfl, rfl, by repeat (first | exact trivial | refine ⟨rfl, ?_⟩)⟩ hn9 hn10 hb9 hb10 hS12 hk12
              exact AllReady.nil
            exact AllReady.nil
          exact AllReady.nil
        refine AllReady.cons rfl (fun K hK => ?_) ?_
        ·
          apply step_wp
          · rfl
          refine ow_alloc _ rfl Z 32 HZI.out ?_
          intro m10 W10 hn10 hb10 hs10
          replace hn10 : w2.heap.size ≤ m10 := by rw [hn10]; exact hk8.size
          have hk10 : Keep [k, t] w2 W10 := hk8.trans0 hs10
          have hS10 : KS W10 k t := hS8.keep0 hs10
          clear hs10
          apply hK
          clear hK K
          go_simp
          refine wpAny_ready (rs := [9]) (by kernel_rfl) (by simp) ?_
          refine AllReady.cons rfl (fun K hK => ?_) ?_
          ·
            apply step_wp
            · rfl
            refine ow_alloc _ rfl Z 32 HZI.out ?_
            intro m9 W9 hn9 hb9 hs9
            have hne := hb10.lt
            replace hne : m10 ≠ m9 := by omega
            replace hn9 : w2.heap.size ≤ m9 := by rw [hn9]; exact hk10.size
            have hk9 : Keep [k, t] w2 W9 := hk10.trans0 hs9
            have hS9 : KS W9 k t := hS10.keep0 hs9
            replace hb10 := hb10.keep hs9 (by simp)
            clear hs9
            apply hK
            clear hK K
            go_simp
            refine wpAny_ready (rs := [11]) (by kernel_rfl) (by simp) ?_
            refine AllReady.cons rfl (fun K hK => ?_) ?_
            ·
              apply step_wp
              · rfl
              refine ow_store _ _ _ rfl m9 DX rfl rfl _ _ hb9 (by rw [HXS.out]; exact secCells) (by rw [HXS.out]; exact HZS.out) HX1.out ?_
              intro W11 hb9x hs11
              have hk11 : Keep [k, t] w2 W11 := hk9.trans' hs11 (fun x hx => by right; simp at hx; omega)
              have hS11 : KS W11 k t := hS9.keep hs11 (by have := HLT.out; simp; omega) (by have := HLT.out; simp; omega)
              replace hb9 := hb9x
              replace hb10 := hb10.keep hs11 (by simp; omega)
              clear hs11
              apply hK
              clear hK K
              go_simp
              refine wpAny_ready (rs := [12]) (by kernel_rfl) (by simp) ?_
              refine AllReady.cons rfl (fun K hK => ?_) ?_
              ·
                apply step_wp
                · rfl
                refine ow_store _ _ _ rfl m10 DD rfl rfl _ _ hb10 (by rw [HDS.out]; exact secCells) (by rw [HDS.out]; exact HZS.out) HD1.out ?_
                intro W12 hb10x hs12
                have hk12 : Keep [k, t] w2 W12 := hk11.trans' hs12 (fun x hx => by right; simp at hx; omega)
                have hS12 : KS W12 k t := hS11.keep hs12 (by have := HLT.out; simp; omega) (by have := HLT.out; simp; omega)
                replace hb10 := hb10x
                replace hb9 := hb9.keep hs12 (by simp; omega)
                clear hs12
                apply hK
                clear hK K
                go_simp
                refine wpAny_done (by kernel_rfl) ?_ _
                exact hR.out _ _ _ _ ⟨rfl, rfl, by repeat (first | exact trivial | refine ⟨rfl, ?_⟩)⟩ hn9 hn10 hb9 hb10 hS12 hk12
              exact AllReady.nil
            exact AllReady.nil
          exact AllReady.nil
        exact AllReady.nil
      refine AllReady.cons rfl (fun K hK => ?_) ?_
      ·
        apply step_wp
        · rfl
        refine ow_alloc _ rfl Z 32 HZI.out ?_
        intro m9 W9 hn9 hb9 hs9
        replace hn9 : w2.heap.size ≤ m9 := by rw [hn9]; exact hk3.size
        have hk9 : Keep [k, t] w2 W9 := hk3.trans0 hs9
        have hS9 : KS W9 k t := hS3.keep0 hs9
        clear hs9
        apply hK
        clear hK K
        go_simp
        refine wpAny_ready (rs := [8, 10]) (by kernel_rfl) (by simp) ?_
        refine AllReady.cons rfl (fun K hK => ?_) ?_
        ·
          apply step_wp
          · rfl
          refine ow_call _ _ _ (by kernel_rfl) (DE _ hk9 hS9) ?_
          rintro e W8 ⟨rfl, hS8, hs8⟩
          refine ⟨_, rfl, ?_⟩
          have hk8 : Keep [k, t] w2 W8 := hk9.trans hs8
          replace hb9 := hb9.keep hs8 (by have := HLT.out; simp; omega)
          clear hs8
          apply hK
          clear hK K
          go_simp
          refine wpAny_ready (rs := [10]) (by kernel_rfl) (by simp) ?_
          refine AllReady.cons rfl (fun K hK => ?_) ?_
          ·
            apply step_wp
            · rfl
            refine ow_alloc _ rfl Z 32 HZI.out ?_
            intro m10 W10 hn10 hb10 hs10
            have hne := hb9.lt
            replace hne : m9 ≠ m10 := by omega
            replace hn10 : w2.heap.size ≤ m10 := by rw [hn10]; exact hk8.size
            have hk10 : Keep [k, t] w2 W10 := hk8.trans0 hs10
            have hS10 : KS W10 k t := hS8.keep0 hs10
            replace hb9 := hb9.keep hs10 (by simp)
            clear hs10
            apply hK
            clear hK K
            go_simp
            refine wpAny_ready (rs := [11]) (by kernel_rfl) (by simp) ?_
            refine AllReady.cons rfl (fun K hK => ?_) ?_
            ·
              apply step_wp
              · rfl
              refine ow_store _ _ _ rfl m9 DX rfl rfl _ _ hb9 (by rw [HXS.out]; exact secCells) (by rw [HXS.out]; exact HZS.out) HX1.out ?_
              intro W11 hb9x hs11
              have hk11 : Keep [k, t] w2 W11 := hk10.trans' hs11 (fun x hx => by right; simp at hx; omega)
              have hS11 : KS W11 k t := hS10.keep hs11 (by have := HLT.out; simp; omega) (by have := HLT.out; simp; omega)
              replace hb9 := hb9x
              replace hb10 := hb10.keep hs11 (by simp; omega)
              clear hs11
              apply hK
              clear hK K
              go_simp
              refine wpAny_ready (rs := [12]) (by kernel_rfl) (by simp) ?_
              refine AllReady.cons rfl (fun K hK => ?_) ?_
              ·
                apply step_wp
                · rfl
                refine ow_store _ _ _ rfl m10 DD rfl rfl _ _ hb10 (by rw [HDS.out]; exact secCells) (by rw [HDS.out]; exact HZS.out) HD1.out ?_
                intro W12 hb10x hs12
                have hk12 : Keep [k, t] w2 W12 := hk11.trans' hs12 (fun x hx => by right; simp at hx; omega)
                have hS12 : KS W12 k t := hS11.keep hs12 (by have := HLT.out; simp; omega) (by have := HLT.out; simp; omega)
                replace hb10 := hb10x
                replace hb9 := hb9.keep hs12 (by simp; omega)
                clear hs12
                apply hK
                clear hK K
                go_simp
                refine wpAny_done (by kernel_rfl) ?_ _
                exact hR.out _ _ _ _ ⟨rfl, rfl, by repeat (first | exact trivial | refine ⟨rfl, ?_⟩)⟩ hn9 hn10 hb9 hb10 hS12 hk12
              exact AllReady.nil
            exact AllReady.nil
          exact AllReady.nil
        refine AllReady.cons rfl (fun K hK => ?_) ?_
        ·
          apply step_wp
          · rfl
          refine ow_alloc _ rfl Z 32 HZI.out ?_
          intro m10 W10 hn10 hb10 hs10
          have hne := hb9.lt
          replace hne : m9 ≠ m10 := by omega
          replace hn10 : w2.heap.size ≤ m10 := by rw [hn10]; exact hk9.size
          have hk10 : Keep [k, t] w2 W10 := hk9.trans0 hs10
          have hS10 : KS W10 k t := hS9.keep0 hs10
          replace hb9 := hb9.keep hs10 (by simp)
          clear hs10
          apply hK
          clear hK K
          go_simp
          refine wpAny_ready (rs := [8]) (by kernel_rfl) (by simp) ?_
          refine AllReady.cons rfl (fun K hK => ?_) ?_
          ·
            apply step_wp
            · rfl
            refine ow_call _ _ _ (by kernel_rfl) (DE _ hk10 hS10) ?_
            rintro e W8 ⟨rfl, hS8, hs8⟩
            refine ⟨_, rfl, ?_⟩
            have hk8 : Keep [k, t] w2 W8 := hk10.trans hs8
            replace hb9 := hb9.keep hs8 (by have := HLT.out; simp; omega)
            replace hb10 := hb10.keep hs8 (by have := HLT.out; simp; omega)
            clear hs8
            apply hK
            clear hK K
            go_simp
            refine wpAny_ready (rs := [11]) (by kernel_rfl) (by simp) ?_
            refine AllReady.cons rfl (fun K hK => ?_) ?_
            ·
              apply step_wp
              · rfl
              refine ow_store _ _ _ rfl m9 DX rfl rfl _ _ hb9 (by rw [HXS.out]; exact secCells) (by rw [HXS.out]; exact HZS.out) HX1.out ?_
              intro W11 hb9x hs11
              have hk11 : Keep [k, t] w2 W11 := hk8.trans' hs11 (fun x hx => by right; simp at hx; omega)
              have hS11 : KS W11 k t := hS8.keep hs11 (by have := HLT.out; simp; omega) (by have := HLT.out; simp; omega)
              replace hb9 := hb9x
              replace hb10 := hb10.keep hs11 (by simp; omega)
              clear hs11
              apply hK
              clear hK K
              go_simp
              refine wpAny_ready (rs := [12]) (by kernel_rfl) (by simp) ?_
              refine AllReady.cons rfl (fun K hK => ?_) ?_
              ·
                apply step_wp
                · rfl
                refine ow_store _ _ _ rfl m10 DD rfl rfl _ _ hb10 (by rw [HDS.out]; exact secCells) (by rw [HDS.out]; exact HZS.out) HD1.out ?_
                intro W12 hb10x hs12
                have hk12 : Keep [k, t] w2 W12 := hk11.trans' hs12 (fun x hx => by right; simp at hx; omega)
                have hS12 : KS W12 k t := hS11.keep hs12 (by have := HLT.out; simp; omega) (by have := HLT.out; simp; omega)
                replace hb10 := hb10x
                replace hb9 := hb9.keep hs12 (by simp; omega)
                clear hs12
                apply hK
                clear hK K
                go_simp
                refine wpAny_done (by kernel_rfl) ?_ _
                exact hR.out _ _ _ _ ⟨rfl, rfl, by repeat (first | exact trivial | refine ⟨rfl, ?_⟩)⟩ hn9 hn10 hb9 hb10 hS12 hk12
              exact AllReady.nil
            exact AllReady.nil
          exact AllReady.nil
        exact AllReady.nil
      refine AllReady.cons rfl (fun K hK => ?_) ?_
      ·
        apply step_wp
        · rfl
        refine ow_alloc _ rfl Z 32 HZI.out ?_
        intro m10 W10 hn10 hb10 hs10
        replace hn10 : w2.heap.size ≤ m10 := by rw [hn10]; exact hk3.size
        have hk10 : Keep [k, t] w2 W10 := hk3.trans0 hs10
        have hS10 : KS W10 k t := hS3.keep0 hs10
        clear hs10
        apply hK
        clear hK K
        go_simp
        refine wpAny_ready (rs := [8, 9]) (by kernel_rfl) (by simp) ?_
        refine AllReady.cons rfl (fun K hK => ?_) ?_
        ·
          apply step_wp
          · rfl
          refine ow_call _ _ _ (by kernel_rfl) (DE _ hk10 hS10) ?_
          rintro e W8 ⟨rfl, hS8, hs8⟩
          refine ⟨_, rfl, ?_⟩
          have hk8 : Keep [k, t] w2 W8 := hk10.trans hs8
          replace hb10 := hb10.keep hs8 (by have := HLT.out; simp; omega)
          clear hs8
          apply hK
          clear hK K
          go_simp
          refine wpAny_ready (rs := [9]) (by kernel_rfl) (by simp) ?_
          refine AllReady.cons rfl (fun K hK => ?_) ?_
          ·
            apply step_wp
            · rfl
            refine ow_alloc _ rfl Z 32 HZI.out ?_
            intro m9 W9 hn9 hb9 hs9
            have hne := hb10.lt
            replace hne : m10 ≠ m9 := by omega
            replace hn9 : w2.heap.size ≤ m9 := by rw [hn9]; exact hk8.size
            have hk9 : Keep [k, t] w2 W9 := hk8.trans0 hs9
            have hS9 : KS W9 k t := hS8.keep0 hs9
            replace hb10 := hb10.keep hs9 (by simp)
            clear hs9
            apply hK
            clear hK K
            go_simp
            refine wpAny_ready (rs := [11]) (by kernel_rfl) (by simp) ?_
            refine AllReady.cons rfl (fun K hK => ?_) ?_
            ·
              apply step_wp
              · rfl
              refine ow_store _ _ _ rfl m9 DX rfl rfl _ _ hb9 (by rw [HXS.out]; exact secCells) (by rw [HXS.out]; exact HZS.out) HX1.out ?_
              intro W11 hb9x hs11
              have hk11 : Keep [k, t] w2 W11 := hk9.trans' hs11 (fun x hx => by right; simp at hx; omega)
              have hS11 : KS W11 k t := hS9.keep hs11 (by have := HLT.out; simp; omega) (by have := HLT.out; simp; omega)
              replace hb9 := hb9x
              replace hb10 := hb10.keep hs11 (by simp; omega)
              clear hs11
              apply hK
              clear hK K
              go_simp
              refine wpAny_ready (rs := [12]) (by kernel_rfl) (by simp) ?_
              refine AllReady.cons rfl (fun K hK => ?_) ?_
              ·
                apply step_wp
                · rfl
                refine ow_store _ _ _ rfl m10 DD rfl rfl _ _ hb10 (by rw [HDS.out]; exact secCells) (by rw [HDS.out]; exact HZS.out) HD1.out ?_
                intro W12 hb10x hs12
                have hk12 : Keep [k, t] w2 W12 := hk11.trans' hs12 (fun x hx => by right; simp at hx; omega)
                have hS12 : KS W12 k t := hS11.keep hs12 (by have := HLT.out; simp; omega) (by have := HLT.out; simp; omega)
                replace hb10 := hb10x
                replace hb9 := hb9.keep hs12 (by simp; omega)
                clear hs12
                apply hK
                clear hK K
                go_simp
                refine wpAny_done (by kernel_rfl) ?_ _
                exact hR.out _ _ _ _ ⟨rfl, rfl, by repeat (first | exact trivial | refine ⟨rfl, ?_⟩)⟩ hn9 hn10 hb9 hb10 hS12 hk12
              exact AllReady.nil
            exact AllReady.nil
          exact AllReady.nil
        refine AllReady.cons rfl (fun K hK => ?_) ?_
        ·
          apply step_wp
          · rfl
          refine ow_alloc _ rfl Z 32 HZI.out ?_
          intro m9 W9 hn9 hb9 hs9
          have hne := hb10.lt
          replace hne : m10 ≠ m9 := by omega
          replace hn9 : w2.heap.size ≤ m9 := by rw [hn9]; exact hk10.size
          have hk9 : Keep [k, t] w2 W9 := hk10.trans0 hs9
          have hS9 : KS W9 k t := hS10.keep0 hs9
          replace hb10 := hb10.keep hs9 (by simp)
          clear hs9
          apply hK
          clear hK K
          go_simp
          refine wpAny_ready (rs := [8]) (by kernel_rfl) (by simp) ?_
          refine AllReady.cons rfl (fun K hK => ?_) ?_
          ·
            apply step_wp
            · rfl
            refine ow_call _ _ _ (by kernel_rfl) (DE _ hk9 hS9) ?_
            rintro e W8 ⟨rfl, hS8, hs8⟩
            refine ⟨_, rfl, ?_⟩
            have hk8 : Keep [k, t] w2 W8 := hk9.trans hs8
            replace hb10 := hb10.keep hs8 (by have := HLT.out; simp; omega)
            replace hb9 := hb9.keep hs8 (by have := HLT.out; simp; omega)
            clear hs8
            apply hK
            clear hK K
            go_simp
            refine wpAny_ready (rs := [11]) (by kernel_rfl) (by simp) ?_
            refine AllReady.cons rfl (fun K hK => ?_) ?_
            ·
              apply step_wp
              · rfl
              refine ow_store _ _ _ rfl m9 DX rfl rfl _ _ hb9 (by rw [HXS.out]; exact secCells) (by rw [HXS.out]; exact HZS.out) HX1.out ?_
              intro W11 hb9x hs11
              have hk11 : Keep [k, t] w2 W11 := hk8.trans' hs11 (fun x hx => by right; simp at hx; omega)
              have hS11 : KS W11 k t := hS8.keep hs11 (by have := HLT.out; simp; omega) (by have := HLT.out; simp; omega)
              replace hb9 := hb9x
              replace hb10 := hb10.keep hs11 (by simp; omega)
              clear hs11
              apply hK
              clear hK K
              go_simp
              refine wpAny_ready (rs := [12]) (by kernel_rfl) (by simp) ?_
              refine AllReady.cons rfl (fun K hK => ?_) ?_
              ·
                apply step_wp
                · rfl
                refine ow_store _ _ _ rfl m10 DD rfl rfl _ _ hb10 (by rw [HDS.out]; exact secCells) (by rw [HDS.out]; exact HZS.out) HD1.out ?_
                intro W12 hb10x hs12
                have hk12 : Keep [k, t] w2 W12 := hk11.trans' hs12 (fun x hx => by right; simp at hx; omega)
                have hS12 : KS W12 k t := hS11.keep hs12 (by have := HLT.out; simp; omega) (by have := HLT.out; simp; omega)
                replace hb10 := hb10x
                replace hb9 := hb9.keep hs12 (by simp; omega)
                clear hs12
                apply hK
                clear hK K
                go_simp
                refine wpAny_done (by kernel_rfl) ?_ _
                exact hR.out _ _ _ _ ⟨rfl, rfl, by repeat (first | exact trivial | refine ⟨rfl, ?_⟩)⟩ hn9 hn10 hb9 hb10 hS12 hk12
              exact AllReady.nil
            exact AllReady.nil
          exact AllReady.nil
        exact AllReady.nil
      exact AllReady.nil
    refine AllReady.cons rfl (fun K hK => ?_) ?_
    ·
      apply step_wp
      · rfl
      refine ow_alloc _ rfl Z 32 HZI.out ?_
      intro m9 W9 hn9 hb9 hs9
      replace hn9 : w2.heap.size ≤ m9 := by rw [hn9]; exact hk3.size
      have hk9 : Keep [k, t] w2 W9 := hk3.trans0 hs9
      have hS9 : KS W9 k t := hS3.keep0 hs9
      clear hs9
      apply hK
      clear hK K
      go_simp
      refine wpAny_ready (rs := [5, 10]) (by kernel_rfl) (by simp) ?_
      refine AllReady.cons rfl (fun K hK => ?_) ?_
      ·
        apply step_wp
        · rfl
        refine ow_load _ _ rfl g0 rfl 32 5 Try.underlying23 _ D0 (LD _ hk9) (by rw [H0S.out]; exact secCells) ?_
        apply hK
        clear hK K
        go_simp
        refine wpAny_ready (rs := [8, 10]) (by kernel_rfl) (by simp) ?_
        refine AllReady.cons rfl (fun K hK => ?_) ?_
        ·
          apply step_wp
          · rfl
          refine ow_call _ _ _ (by kernel_rfl) (DE _ hk9 hS9) ?_
          rintro e W8 ⟨rfl, hS8, hs8⟩
          refine ⟨_, rfl, ?_⟩
          have hk8 : Keep [k, t] w2 W8 := hk9.trans hs8
          replace hb9 := hb9.keep hs8 (by have := HLT.out; simp; omega)
          clear hs8
          apply hK
          clear hK K
          go_simp
          refine wpAny_ready (rs := [10]) (by kernel_rfl) (by simp) ?_
          refine AllReady.cons rfl (fun K hK => ?_) ?_
          ·
            apply step_wp
            · rfl
            refine ow_alloc _ rfl Z 32 HZI.out ?_
            intro m10 W10 hn10 hb10 hs10
            have hne := hb9.lt
            replace hne : m9 ≠ m10 := by omega
            replace hn10 : w2.heap.size ≤ m10 := by rw [hn10]; exact hk8.size
            have hk10 : Keep [k, t] w2 W10 := hk8.trans0 hs10
            have hS10 : KS W10 k t := hS8.keep0 hs10
            replace hb9 := hb9.keep hs10 (by simp)
            clear hs10
            apply hK
            clear hK K
            go_simp
            refine wpAny_ready (rs := [11]) (by kernel_rfl) (by simp) ?_
            refine AllReady.cons rfl (fun K hK => ?_) ?_
            ·
              apply step_wp
              · rfl
              refine ow_store _ _ _ rfl m9 DX rfl rfl _ _ hb9 (by rw [HXS.out]; exact secCells) (by rw [HXS.out]; exact HZS.out) HX1.out ?_
              intro W11 hb9x hs11
              have hk11 : Keep [k, t] w2 W11 := hk10.trans' hs11 (fun x hx => by right; simp at hx; omega)
              have hS11 : KS W11 k t := hS10.keep hs11 (by have := HLT.out; simp; omega) (by have := HLT.out; simp; omega)
              replace hb9 := hb9x
              replace hb10 := hb10.keep hs11 (by simp; omega)
              clear hs11
              apply hK
              clear hK K
              go_simp
              refine wpAny_ready (rs := [12]) (by kernel_rfl) (by simp) ?_
              refine AllReady.cons rfl (fun K hK => ?_) ?_
              ·
                apply step_wp
                · rfl
                refine ow_store _ _ _ rfl m10 DD rfl rfl _ _ hb10 (by rw [HDS.out]; exact secCells) (by rw [HDS.out]; exact HZS.out) HD1.out ?_
                intro W12 hb10x hs12
                have hk12 : Keep [k, t] w2 W12 := hk11.trans' hs12 (fun x hx => by right; simp at hx; omega)
                have hS12 : KS W12 k t := hS11.keep hs12 (by have := HLT.out; simp; omega) (by have := HLT.out; simp; omega)
                replace hb10 := hb10x
                replace hb9 := hb9.keep hs12 (by simp; omega)
                clear hs12
                apply hK
                clear hK K
                go_simp
                refine wpAny_done (by kernel_rfl) ?_ _
                exact hR.out _ _ _ _ ⟨rfl, rfl, by repeat (first | exact trivial | refine ⟨rfl, ?_⟩)⟩ hn9 hn10 hb9 hb10 hS12 hk12
              exact AllReady.nil
            exact AllReady.nil
          exact AllReady.nil
        refine AllReady.cons rfl (fun K hK => ?_) ?_
        ·
          apply step_wp
          · rfl
          refine ow_alloc _ rfl Z 32 HZI.out ?_
          intro m10 W10 hn10 hb10 hs10
          have hne := hb9.lt
          replace hne : m9 ≠ m10 := by omega
          replace hn10 : w2.heap.size ≤ m10 := by rw [hn10]; exact hk9.size
          have hk10 : Keep [k, t] w2 W10 := hk9.trans0 hs10
          have hS10 : KS W10 k t := hS9.keep0 hs10
          replace hb9 := hb9.keep hs10 (by simp)
          clear hs10
          apply hK
          clear hK K
          go_simp
          refine wpAny_ready (rs := [8]) (by kernel_rfl) (by simp) ?_
          refine AllReady.cons rfl (fun K hK => ?_) ?_
          ·
            apply step_wp
            · rfl
            refine ow_call _ _ _ (by kernel_rfl) (DE _ hk10 hS10) ?_
            rintro e W8 ⟨rfl, hS8, hs8⟩
            refine ⟨_, rfl, ?_⟩
            have hk8 : Keep [k, t] w2 W8 := hk10.trans hs8
            replace hb9 := hb9.keep hs8 (by have := HLT.out; simp; omega)
            replace hb10 := hb10.keep hs8 (by have := HLT.out; simp; omega)
            clear hs8
            apply hK
            clear hK K
            go_simp
            refine wpAny_ready (rs := [11]) (by kernel_rfl) (by simp) ?_
            refine AllReady.cons rfl (fun K hK => ?_) ?_
            ·
              apply step_wp
              · rfl
              refine ow_store _ _ _ rfl m9 DX rfl rfl _ _ hb9 (by rw [HXS.out]; exact secCells) (by rw [HXS.out]; exact HZS.out) HX1.out ?_
              intro W11 hb9x hs11
              have hk11 : Keep [k, t] w2 W11 := hk8.trans' hs11 (fun x hx => by right; simp at hx; omega)
              have hS11 : KS W11 k t := hS8.keep hs11 (by have := HLT.out; simp; omega) (by have := HLT.out; simp; omega)
              replace hb9 := hb9x
              replace hb10 := hb10.keep hs11 (by simp; omega)
              clear hs11
              apply hK
              clear hK K
              go_simp
              refine wpAny_ready (rs := [12]) (by kernel_rfl) (by simp) ?_
              refine AllReady.cons rfl (fun K hK => ?_) ?_
              ·
                apply step_wp
                · rfl
                refine ow_store _ _ _ rfl m10 DD rfl rfl _ _ hb10 (by rw [HDS.out]; exact secCells) (by rw [HDS.out]; exact HZS.out) HD1.out ?_
                intro W12 hb10x hs12
                have hk12 : Keep [k, t] w2 W12 := hk11.trans' hs12 (fun x hx => by right; simp at hx; omega)
                have hS12 : KS W12 k t := hS11.keep hs12 (by have := HLT.out; simp; omega) (by have := HLT.out; simp; omega)
                replace hb10 := hb10x
                replace hb9 := hb9.keep hs12 (by simp; omega)
                clear hs12
                apply hK
                clear hK K
                go_simp
                refine wpAny_done (by kernel_rfl) ?_ _
                exact hR.out _ _ _ _ ⟨rfl, rfl, by repeat (first | exact trivial | refine ⟨rfl, ?_⟩)⟩ hn9 hn10 hb9 hb10 hS12 hk12
              exact AllReady.nil
            exact AllReady.nil
          exact AllReady.nil
        exact AllReady.nil
      refine AllReady.cons rfl (fun K hK => ?_) ?_
      ·
        apply step_wp
        · rfl
        refine ow_alloc _ rfl Z 32 HZI.out ?_
        intro m10 W10 hn10 hb10 hs10
        have hne := hb9.lt
        replace hne : m9 ≠ m10 := by omega
        replace hn10 : w2.heap.size ≤ m10 := by rw [hn10]; exact hk9.size
        have hk10 : Keep [k, t] w2 W10 := hk9.trans0 hs10
        have hS10 : KS W10 k t := hS9.keep0 hs10
        replace hb9 := hb9.keep hs10 (by simp)
        clear hs10
        apply hK
        clear hK K
        go_simp
        refine wpAny_ready (rs := [5]) (by kernel_rfl) (by simp) ?_
        refine AllReady.cons rfl (fun K hK => ?_) ?_
        ·
          apply step_wp
          · rfl
          refine ow_load _ _ rfl g0 rfl 32 5 Try.underlying23 _ D0 (LD _ hk10) (by rw [H0S.out]; exact secCells) ?_
          apply hK
          clear hK K
          go_simp
          refine wpAny_ready (rs := [8]) (by kernel_rfl) (by simp) ?_
          refine AllReady.cons rfl (fun K hK => ?_) ?_
          ·
            apply step_wp
            · rfl
            refine ow_call _ _ _ (by kernel_rfl) (DE _ hk10 hS10) ?_
            rintro e W8 ⟨rfl, hS8, hs8⟩
            refine ⟨_, rfl, ?_⟩
            have hk8 : Keep [k, t] w2 W8 := hk10.trans hs8
            replace hb9 := hb9.keep hs8 (by have := HLT.out; simp; omega)
            replace hb10 := hb10.keep hs8 (by have := HLT.out; simp; omega)
            clear hs8
            apply hK
            clear hK K
            go_simp
            refine wpAny_ready (rs := [11]) (by kernel_rfl) (by simp) ?_
            refine AllReady.cons rfl (fun K hK => ?_) ?_
            ·
              apply step_wp
              · rfl
              refine ow_store _ _ _ rfl m9 DX rfl rfl _ _ hb9 (by rw [HXS.out]; exact secCells) (by rw [HXS.out]; exact HZS.out) HX1.out ?_
              intro W11 hb9x hs11
              have hk11 : Keep [k, t] w2 W11 := hk8.trans' hs11 (fun x hx => by right; simp at hx; omega)
              have hS11 : KS W11 k t := hS8.keep hs11 (by have := HLT.out; simp; omega) (by have := HLT.out; simp; omega)
              replace hb9 := hb9x
              replace hb10 := hb10.keep hs11 (by simp; omega)
              clear hs11
              apply hK
              clear hK K
              go_simp
              refine wpAny_ready (rs := [12]) (by kernel_rfl) (by simp) ?_
              refine AllReady.cons rfl (fun K hK => ?_) ?_
              ·
                apply step_wp
                · rfl
                refine ow_store _ _ _ rfl m10 DD rfl rfl _ _ hb10 (by rw [HDS.out]; exact secCells) (by rw [HDS.out]; exact HZS.out) HD1.out ?_
                intro W12 hb10x hs12
                have hk12 : Keep [k, t] w2 W12 := hk11.trans' hs12 (fun x hx => by right; simp at hx; omega)
                have hS12 : KS W12 k t := hS11.keep hs12 (by have := HLT.out; simp; omega) (by have := HLT.out; simp; omega)
                replace hb10 := hb10x
                replace hb9 := hb9.keep hs12 (by simp; omega)
                clear hs12
                apply hK
                clear hK K
                go_simp
                refine wpAny_done (by kernel_rfl) ?_ _
                exact hR.out _ _ _ _ ⟨rfl, rfl, by repeat (first | exact trivial | refine ⟨rfl, ?_⟩)⟩ hn9 hn10 hb9 hb10 hS12 hk12
              exact AllReady.nil
            exact AllReady.nil
          exact AllReady.nil
        exact AllReady.nil
      exact AllReady.nil
    refine AllReady.cons rfl (fun K hK => ?_) ?_
    ·
      apply step_wp
      · rfl
      refine ow_alloc _ rfl Z 32 HZI.out ?_
      intro m10 W10 hn10 hb10 hs10
      replace hn10 : w2.heap.size ≤ m10 := by rw [hn10]; exact hk3.size
      have hk10 : Keep [k, t] w2 W10 := hk3.trans0 hs10
      have hS10 : KS W10 k t := hS3.keep0 hs10
      clear hs10
      apply hK
      clear hK K
      go_simp
      refine wpAny_ready (rs := [5, 9]) (by kernel_rfl) (by simp) ?_
      refine AllReady.cons rfl (fun K hK => ?_) ?_
      ·
        apply step_wp
        · rfl
        refine ow_load _ _ rfl g0 rfl 32 5 Try.underlying23 _ D0 (LD _ hk10) (by rw [H0S.out]; exact secCells) ?_
        apply hK
        clear hK K
        go_simp
        refine wpAny_ready (rs := [8, 9]) (by kernel_rfl) (by simp) ?_
        refine AllReady.cons rfl (fun K hK => ?_) ?_
        ·
          apply step_wp
          · rfl
          refine ow_call _ _ _ (by kernel_rfl) (DE _ hk10 hS10) ?_
          rintro e W8 ⟨rfl, hS8, hs8⟩
          refine ⟨_, rfl, ?_⟩
          have hk8 : Keep [k, t] w2 W8 := hk10.trans hs8
          replace hb10 := hb10.keep hs8 (by have := HLT.out; simp; omega)
          clear hs8
          apply hK
          clear hK K
          go_simp
          refine wpAny_ready (rs := [9]) (by kernel_rfl) (by simp) ?_
          refine AllReady.cons rfl (fun K hK => ?_) ?_
          ·
            apply step_wp
            · rfl
            refine ow_alloc _ rfl Z 32 HZI.out ?_
            intro m9 W9 hn9 hb9 hs9
            have hne := hb10.lt
            replace hne : m10 ≠ m9 := by omega
            replace hn9 : w2.heap.size ≤ m9 := by rw [hn9]; exact hk8.size
            have hk9 : Keep [k, t] w2 W9 := hk8.trans0 hs9
            have hS9 : KS W9 k t := hS8.keep0 hs9
            replace hb10 := hb10.keep hs9 (by simp)
            clear hs9
            apply hK
            clear hK K
            go_simp
            refine wpAny_ready (rs := [11]) (by kernel_rfl) (by simp) ?_
            refine AllReady.cons rfl (fun K hK => ?_) ?_
            ·
              apply step_wp
              · rfl
              refine ow_store _ _ _ rfl m9 DX rfl rfl _ _ hb9 (by rw [HXS.out]; exact secCells) (by rw [HXS.out]; exact HZS.out) HX1.out ?_
              intro W11 hb9x hs11
              have hk11 : Keep [k, t] w2 W11 := hk9.trans' hs11 (fun x hx => by right; simp at hx; omega)
              have hS11 : KS W11 k t := hS9.keep hs11 (by have := HLT.out; simp; omega) (by have := HLT.out; simp; omega)
              replace hb9 := hb9x
              replace hb10 := hb10.keep hs11 (by simp; omega)
              clear hs11
              apply hK
              clear hK K
              go_simp
              refine wpAny_ready (rs := [12]) (by kernel_rfl) (by simp) ?_
              refine AllReady.cons rfl (fun K hK => ?_) ?_
              ·
                apply step_wp
                · rfl
                refine ow_store _ _ _ rfl m10 DD rfl rfl _ _ hb10 (by rw [HDS.out]; exact secCells) (by rw [HDS.out]; exact HZS.out) HD1.out ?_
                intro W12 hb10x hs12
                have hk12 : Keep [k, t] w2 W12 := hk11.trans' hs12 (fun x hx => by right; simp at hx; omega)
                have hS12 : KS W12 k t := hS11.keep hs12 (by have := HLT.out; simp; omega) (by have := HLT.out; simp; omega)
                replace hb10 := hb10x
                replace hb9 := hb9.keep hs12 (by simp; omega)
                clear hs12
                apply hK
                clear hK K
                go_simp
                refine wpAny_done (by kernel_rfl) ?_ _
                exact hR.out _ _ _ _ ⟨rfl, rfl, by repeat (first | exact trivial | refine ⟨rfl, ?_⟩)⟩ hn9 hn10 hb9 hb10 hS12 hk12
              exact AllReady.nil
            exact AllReady.nil
          exact AllReady.nil
        refine AllReady.cons rfl (fun K hK => ?_) ?_
        ·
          apply step_wp
          · rfl
          refine ow_alloc _ rfl Z 32 HZI.out ?_
          intro m9 W9 hn9 hb9 hs9
          have hne := hb10.lt
          replace hne : m10 ≠ m9 := by omega
          replace hn9 : w2.heap.size ≤ m9 := by rw [hn9]; exact hk10.size
          have hk9 : Keep [k, t] w2 W9 := hk10.trans0 hs9
          have hS9 : KS W9 k t := hS10.keep0 hs9
          replace hb10 := hb10.keep hs9 (by simp)
          clear hs9
          apply hK
          clear hK K
          go_simp
          refine wpAny_ready (rs := [8]) (by kernel_rfl) (by simp) ?_
          refine AllReady.cons rfl (fun K hK => ?_) ?_
          ·
            apply step_wp
            · rfl
            refine ow_call _ _ _ (by kernel_rfl) (DE _ hk9 hS9) ?_
            rintro e W8 ⟨rfl, hS8, hs8⟩
            refine ⟨_, rfl, ?_⟩
            have hk8 : Keep [k, t] w2 W8 := hk9.trans hs8
            replace hb10 := hb10.keep hs8 (by have := HLT.out; simp; omega)
            replace hb9 := hb9.keep hs8 (by have := HLT.out; simp; omega)
            clear hs8
            apply hK
            clear hK K
            go_simp
            refine wpAny_ready (rs := [11]) (by kernel_rfl) (by simp) ?_
            refine AllReady.cons rfl (fun K hK => ?_) ?_
            ·
              apply step_wp
              · rfl
              refine ow_store _ _ _ rfl m9 DX rfl rfl _ _ hb9 (by rw [HXS.out]; exact secCells) (by rw [HXS.out]; exact HZS.out) HX1.out ?_
              intro W11 hb9x hs11
              have hk11 : Keep [k, t] w2 W11 := hk8.trans' hs11 (fun x hx => by right; simp at hx; omega)
              have hS11 : KS W11 k t := hS8.keep hs11 (by have := HLT.out; simp; omega) (by have := HLT.out; simp; omega)
              replace hb9 := hb9x
              replace hb10 := hb10.keep hs11 (by simp; omega)
              clear hs11
              apply hK
              clear hK K
              go_simp
              refine wpAny_ready (rs := [12]) (by kernel_rfl) (by simp) ?_
              refine AllReady.cons rfl (fun K hK => ?_) ?_
              ·
                apply step_wp
                · rfl
                refine ow_store _ _ _ rfl m10 DD rfl rfl _ _ hb10 (by rw [HDS.out]; exact secCells) (by rw [HDS.out]; exact HZS.out) HD1.out ?_
                intro W12 hb10x hs12
                have hk12 : Keep [k, t] w2 W12 := hk11.trans' hs12 (fun x hx => by right; simp at hx; omega)
                have hS12 : KS W12 k t := hS11.keep hs12 (by have := HLT.out; simp; omega) (by have := HLT.out; simp; omega)
                replace hb10 := hb10x
                replace hb9 := hb9.keep hs12 (by simp; omega)
                clear hs12
                apply hK
                clear hK K
                go_simp
                refine wpAny_done (by kernel_rfl) ?_ _
                exact hR.out _ _ _ _ ⟨rfl, rfl, by repeat (first | exact trivial | refine ⟨rfl, ?_⟩)⟩ hn9 hn10 hb9 hb10 hS12 hk12
              exact AllReady.nil
            exact AllReady.nil
          exact AllReady.nil
        exact AllReady.nil
      refine AllReady.cons rfl (fun K hK => ?_) ?_
      ·
        apply step_wp
        · rfl
        refine ow_alloc _ rfl Z 32 HZI.out ?_
        intro m9 W9 hn9 hb9 hs9
        have hne := hb10.lt
        replace hne : m10 ≠ m9 := by omega
        replace hn9 : w2.heap.size ≤ m9 := by rw [hn9]; exact hk10.size
        have hk9 : Keep [k, t] w2 W9 := hk10.trans0 hs9
        have hS9 : KS W9 k t := hS10.keep0 hs9
        replace hb10 := hb10.keep hs9 (by simp)
        clear hs9
        apply hK
        clear hK K
        go_simp
        refine wpAny_ready (rs := [5]) (by kernel_rfl) (by simp) ?_
        refine AllReady.cons rfl (fun K hK => ?_) ?_
        ·
          apply step_wp
          · rfl
          refine ow_load _ _ rfl g0 rfl 32 5 Try.underlying23 _ D0 (LD _ hk9) (by rw [H0S.out]; exact secCells) ?_
          apply hK
          clear hK K
          go_simp
          refine wpAny_ready (rs := [8]) (by kernel_rfl) (by simp) ?_
          refine AllReady.cons rfl (fun K hK => ?_) ?_
          ·
            apply step_wp
            · rfl
            refine ow_call _ _ _ (by kernel_rfl) (DE _ hk9 hS9) ?_
            rintro e W8 ⟨rfl, hS8, hs8⟩
            refine ⟨_, rfl, ?_⟩
            have hk8 : Keep [k, t] w2 W8 := hk9.trans hs8
            replace hb10 := hb10.keep hs8 (by have := HLT.out; simp; omega)
            replace hb9 := hb9.keep hs8 (by have := HLT.out; simp; omega)
            clear hs8
            apply hK
            clear hK K
            go_simp
            refine wpAny_ready (rs := [11]) (by kernel_rfl) (by simp) ?_
            refine AllReady.cons rfl (fun K hK => ?_) ?_
            ·
              apply step_wp
              · rfl
              refine ow_store _ _ _ rfl m9 DX rfl rfl _ _ hb9 (by rw [HXS.out]; exact secCells) (by rw [HXS.out]; exact HZS.out) HX1.out ?_
              intro W11 hb9x hs11
              have hk11 : Keep [k, t] w2 W11 := hk8.trans' hs11 (fun x hx => by right; simp at hx; omega)
              have hS11 : KS W11 k t := hS8.keep hs11 (by have := HLT.out; simp; omega) (by have := HLT.out; simp; omega)
              replace hb9 := hb9x
              replace hb10 := hb10.keep hs11 (by simp; omega)
              clear hs11
              apply hK
              clear hK K
              go_simp
              refine wpAny_ready (rs := [12]) (by kernel_rfl) (by simp) ?_
              refine AllReady.cons rfl (fun K hK => ?_) ?_
              ·
                apply step_wp
                · rfl
                refine ow_store _ _ _ rfl m10 DD rfl rfl _ _ hb10 (by rw [HDS.out]; exact secCells) (by rw [HDS.out]; exact HZS.out) HD1.out ?_
                intro W12 hb10x hs12
                have hk12 : Keep [k, t] w2 W12 := hk11.trans' hs12 (fun x hx => by right; simp at hx; omega)
                have hS12 : KS W12 k t := hS11.keep hs12 (by have := HLT.out; simp; omega) (by have := HLT.out; simp; omega)
                replace hb10 := hb10x
                replace hb9 := hb9.keep hs12 (by simp; omega)
                clear hs12
                apply hK
                clear hK K
                go_simp
                refine wpAny_done (by kernel_rfl) ?_ _
                exact hR.out _ _ _ _ ⟨rfl, rfl, by repeat (first | exact trivial | refine ⟨rfl, ?_⟩)⟩ hn9 hn10 hb9 hb10 hS12 hk12
              exact AllReady.nil
            exact AllReady.nil
          exact AllReady.nil
        exact AllReady.nil
      exact AllReady.nil
    exact AllReady.nil
  refine AllReady.cons rfl (fun K hK => ?_) ?_
  ·
    apply step_wp
    · rfl
    refine ow_load _ _ rfl g0 rfl 32 5 Try.underlying23 _ D0 (LD _ hk0.more0) (by rw [H0S.out]; exact secCells) ?_
    apply hK
    clear hK K
    go_simp
    refine wpAny_ready (rs := [3, 9, 10]) (by kernel_rfl) (by simp) ?_
    refine AllReady.cons rfl (fun K hK => ?_) ?_
    ·
      apply step_wp
      · rfl
      refine ow_call _ _ _ (by kernel_rfl) (EX _ hk0 hS0) ?_
      rintro e W3 ⟨rfl, hS3, hs3⟩
      refine ⟨_, rfl, ?_⟩
      have hk3 : Keep [k, t] w2 W3 := hk0.more0.trans hs3
      clear hs3
      apply hK
      clear hK K
      go_simp
      refine wpAny_ready (rs := [8, 9, 10]) (by kernel_rfl) (by simp) ?_
      refine AllReady.cons rfl (fun K hK => ?_) ?_
      ·
        apply step_wp
        · rfl
        refine ow_call _ _ _ (by kernel_rfl) (DE _ hk3 hS3) ?_
        rintro e W8 ⟨rfl, hS8, hs8⟩
        refine ⟨_, rfl, ?_⟩
        have hk8 : Keep [k, t] w2 W8 := hk3.trans hs8
        clear hs8
        apply hK
        clear hK K
        go_simp
        refine wpAny_ready (rs := [9, 10]) (by kernel_rfl) (by simp) ?_
        refine AllReady.cons rfl (fun K hK => ?_) ?_
        ·
          apply step_wp
          · rfl
          refine ow_alloc _ rfl Z 32 HZI.out ?_
          intro m9 W9 hn9 hb9 hs9
          replace hn9 : w2.heap.size ≤ m9 := by rw [hn9]; exact hk8.size
          have hk9 : Keep [k, t] w2 W9 := hk8.trans0 hs9
          have hS9 : KS W9 k t := hS8.keep0 hs9
          clear hs9
          apply hK
          clear hK K
          go_simp
          refine wpAny_ready (rs := [10]) (by kernel_rfl) (by simp) ?_
          refine AllReady.cons rfl (fun K hK => ?_) ?_
          ·
            apply step_wp
            · rfl
            refine ow_alloc _ rfl Z 32 HZI.out ?_
            intro m10 W10 hn10 hb10 hs10
            have hne := hb9.lt
            replace hne : m9 ≠ m10 := by omega
            replace hn10 : w2.heap.size ≤ m10 := by rw [hn10]; exact hk9.size
            have hk10 : Keep [k, t] w2 W10 := hk9.trans0 hs10
            have hS10 : KS W10 k t := hS9.keep0 hs10
            replace hb9 := hb9.keep hs10 (by simp)
            clear hs10
            apply hK
            clear hK K
            go_simp
            refine wpAny_ready (rs := [11]) (by kernel_rfl) (by simp) ?_
            refine AllReady.cons rfl (fun K hK => ?_) ?_
            ·
              apply step_wp
              · rfl
              refine ow_store _ _ _ rfl m9 DX rfl rfl _ _ hb9 (by rw [HXS.out]; exact secCells) (by rw [HXS.out]; exact HZS.out) HX1.out ?_
              intro W11 hb9x hs11
              have hk11 : Keep [k, t] w2 W11 := hk10.trans' hs11 (fun x hx => by right; simp at hx; omega)
              have hS11 : KS W11 k t := hS10.keep hs11 (by have := HLT.out; simp; omega) (by have := HLT.out; simp; omega)
              replace hb9 := hb9x
              replace hb10 := hb10.keep hs11 (by simp; omega)
              clear hs11
              apply hK
              clear hK K
              go_simp
              refine wpAny_ready (rs := [12]) (by kernel_rfl) (by simp) ?_
              refine AllReady.cons rfl (fun K hK => ?_) ?_
              ·
                apply step_wp
                · rfl
                refine ow_store _ _ _ rfl m10 DD rfl rfl _ _ hb10 (by rw [HDS.out]; exact secCells) (by rw [HDS.out]; exact HZS.out) HD1.out ?_
                intro W12 hb10x hs12
                have hk12 : Keep [k, t] w2 W12 := hk11.trans' hs12 (fun x hx => by right; simp at hx; omega)
                have hS12 : KS W12 k t := hS11.keep hs12 (by have := HLT.out; simp; omega) (by have := HLT.out; simp; omega)
                replace hb10 := hb10x
                replace hb9 := hb9.keep hs12 (by simp; omega)
                clear hs12
                apply hK
                clear hK K
                go_simp
                refine wpAny_done (by kernel_rfl) ?_ _
                exact hR.out _ _ _ _ ⟨rfl, rfl, by repeat (first | exact trivial | refine ⟨rfl, ?_⟩)⟩ hn9 hn10 hb9 hb10 hS12 hk12
              exact AllReady.nil
            exact AllReady.nil
          exact AllReady.nil
        refine AllReady.cons rfl (fun K hK => ?_) ?_
        ·
          apply step_wp
          · rfl
          refine ow_alloc _ rfl Z 32 HZI.out ?_
          intro m10 W10 hn10 hb10 hs10
          replace hn10 : w2.heap.size ≤ m10 := by rw [hn10]; exact hk8.size
          have hk10 : Keep [k, t] w2 W10 := hk8.trans0 hs10
          have hS10 : KS W10 k t := hS8.keep0 hs10
          clear hs10
          apply hK
          clear hK K
          go_simp
          refine wpAny_ready (rs := [9]) (by kernel_rfl) (by simp) ?_
          refine AllReady.cons rfl (fun K hK => ?_) ?_
          ·
            apply step_wp
            · rfl
            refine ow_alloc _ rfl Z 32 HZI.out ?_
            intro m9 W9 hn9 hb9 hs9
            have hne := hb10.lt
            replace hne : m10 ≠ m9 := by omega
            replace hn9 : w2.heap.size ≤ m9 := by rw [hn9]; exact hk10.size
            have hk9 : Keep [k, t] w2 W9 := hk10.trans0 hs9
            have hS9 : KS W9 k t := hS10.keep0 hs9
            replace hb10 := hb10.keep hs9 (by simp)
            clear hs9
            apply hK
            clear hK K
            go_simp
            refine wpAny_ready (rs := [11]) (by kernel_rfl) (by simp) ?_
            refine AllReady.cons rfl (fun K hK => ?_) ?_
            ·
              apply step_wp
              · rfl
              refine ow_store _ _ _ rfl m9 DX rfl rfl _ _ hb9 (by rw [HXS.out]; exact secCells) (by rw [HXS.out]; exact HZS.out) HX1.out ?_
              intro W11 hb9x hs11
              have hk11 : Keep [k, t] w2 W11 := hk9.trans' hs11 (fun x hx => by right; simp at hx; omega)
              have hS11 : KS W11 k t := hS9.keep hs11 (by have := HLT.out; simp; omega) (by have := HLT.out; simp; omega)
              replace hb9 := hb9x
              replace hb10 := hb10.keep hs11 (by simp; omega)
              clear hs11
              apply hK
              clear hK K
              go_simp
              refine wpAny_ready (rs := [12]) (by kernel_rfl) (by simp) ?_
              refine AllReady.cons rfl (fun K hK => ?_) ?_
              ·
                apply step_wp
                · rfl
                refine ow_store _ _ _ rfl m10 DD rfl rfl _ _ hb10 (by rw [HDS.out]; exact secCells) (by rw [HDS.out]; exact HZS.out) HD1.out ?_
                intro W12 hb10x hs12
                have hk12 : Keep [k, t] w2 W12 := hk11.trans' hs12 (fun x hx => by right; simp at hx; omega)
                have hS12 : KS W12 k t := hS11.keep hs12 (by have := HLT.out; simp; omega) (by have := HLT.out; simp; omega)
                replace hb10 := hb10x
                replace hb9 := hb9.keep hs12 (by simp; omega)
                clear hs12
                apply hK
                clear hK K
                go_simp
                refine wpAny_done (by kernel_rfl) ?_ _
                exact hR.out _ _ _ _ ⟨rfl, rfl, by repeat (first | exact trivial | refine ⟨rfl, ?_⟩)⟩ hn9 hn10 hb9 hb10 hS12 hk12
              exact AllReady.nil
            exact AllReady.nil
          exact AllReady.nil
        exact AllReady.nil
      refine AllReady.cons rfl (fun K hK => ?_) ?_
      ·
        apply step_wp
        · rfl
        refine ow_alloc _ rfl Z 32 HZI.out ?_
        intro m9 W9 hn9 hb9 hs9
        replace hn9 : w2.heap.size ≤ m9 := by rw [hn9]; exact hk3.size
        have hk9 : Keep [k, t] w2 W9 := hk3.trans0 hs9
        have hS9 : KS W9 k t := hS3.keep0 hs9
        clear hs9
        apply hK
        clear hK K
        go_simp
        refine wpAny_ready (rs := [8, 10]) (by kernel_rfl) (by simp) ?_
        refine AllReady.cons rfl (fun K hK => ?_) ?_
        ·
          apply step_wp
          · rfl
          refine ow_call _ _ _ (by kernel_rfl) (DE _ hk9 hS9) ?_
          rintro e W8 ⟨rfl, hS8, hs8⟩
          refine ⟨_, rfl, ?_⟩
          have hk8 : Keep [k, t] w2 W8 := hk9.trans hs8
          replace hb9 := hb9.keep hs8 (by have := HLT.out; simp; omega)
          clear hs8
          apply hK
          clear hK K
          go_simp
          refine wpAny_ready (rs := [10]) (by kernel_rfl) (by simp) ?_
          refine AllReady.cons rfl (fun K hK => ?_) ?_
          ·
            apply step_wp
            · rfl
            refine ow_alloc _ rfl Z 32 HZI.out ?_
            intro m10 W10 hn10 hb10 hs10
            have hne := hb9.lt
            replace hne : m9 ≠ m10 := by omega
            replace hn10 : w2.heap.size ≤ m10 := by rw [hn10]; exact hk8.size
            have hk10 : Keep [k, t] w2 W10 := hk8.trans0 hs10
            have hS10 : KS W10 k t := hS8.keep0 hs10
            replace hb9 := hb9.keep hs10 (by simp)
            clear hs10
            apply hK
            clear hK K
            go_simp
            refine wpAny_ready (rs := [11]) (by kernel_rfl) (by simp) ?_
            refine AllReady.cons rfl (fun K hK => ?_) ?_
            ·
              apply step_wp
              · rfl
              refine ow_store _ _ _ rfl m9 DX rfl rfl _ _ hb9 (by rw [HXS.out]; exact secCells) (by rw [HXS.out]; exact HZS.out) HX1.out ?_
              intro W11 hb9x hs11
              have hk11 : Keep [k, t] w2 W11 := hk10.trans' hs11 (fun x hx => by right; simp at hx; omega)
              have hS11 : KS W11 k t := hS10.keep hs11 (by have := HLT.out; simp; omega) (by have := HLT.out; simp; omega)
              replace hb9 := hb9x
              replace hb10 := hb10.keep hs11 (by simp; omega)
              clear hs11
              apply hK
              clear hK K
              go_simp
              refine wpAny_ready (rs := [12]) (by kernel_rfl) (by simp) ?_
              refine AllReady.cons rfl (fun K hK => ?_) ?_
              ·
                apply step_wp
                · rfl
                refine ow_store _ _ _ rfl m10 DD rfl rfl _ _ hb10 (by rw [HDS.out]; exact secCells) (by rw [HDS.out]; exact HZS.out) HD1.out ?_
                intro W12 hb10x hs12
                have hk12 : Keep [k, t] w2 W12 := hk11.trans' hs12 (fun x hx => by right; simp at hx; omega)
                have hS12 : KS W12 k t := hS11.keep hs12 (by have := HLT.out; simp; omega) (by have := HLT.out; simp; omega)
                replace hb10 := hb10x
                replace hb9 := hb9.keep hs12 (by simp; omega)
                clear hs12
                apply hK
                clear hK K
                go_simp
                refine wpAny_done (by kernel_rfl) ?_ _
                exact hR.out _ _ _ _ ⟨rfl, rfl, by repeat (first | exact trivial | refine ⟨rfl, ?_⟩)⟩ hn9 hn10 hb9 hb10 hS12 hk12
              exact AllReady.nil
            exact AllReady.nil
          exact AllReady.nil
        refine AllReady.cons rfl (fun K hK => ?_) ?_
        ·
          apply step_wp
          · rfl
          refine ow_alloc _ rfl Z 32 HZI.out ?_
          intro m10 W10 hn10 hb10 hs10
          have hne := hb9.lt
          replace hne : m9 ≠ m10 := by omega
          replace hn10 : w2.heap.size ≤ m10 := by rw [hn10]; exact hk9.size
          have hk10 : Keep [k, t] w2 W10 := hk9.trans0 hs10
          have hS10 : KS W10 k t := hS9.keep0 hs10
          replace hb9 := hb9.keep hs10 (by simp)
          clear hs10
          apply hK
          clear hK K
          go_simp
          refine wpAny_ready (rs := [8]) (by kernel_rfl) (by simp) ?_
          refine AllReady.cons rfl (fun K hK => ?_) ?_
          ·
            apply step_wp
            · rfl
            refine ow_call _ _ _ (by kernel_rfl) (DE _ hk10 hS10) ?_
            rintro e W8 ⟨rfl, hS8, hs8⟩
            refine ⟨_, rfl, ?_⟩
            have hk8 : Keep [k, t] w2 W8 := hk10.trans hs8
            replace hb9 := hb9.keep hs8 (by have := HLT.out; simp; omega)
            replace hb10 := hb10.keep hs8 (by have := HLT.out; simp; omega)
            clear hs8
            apply hK
            clear hK K
            go_simp
            refine wpAny_ready (rs := [11]) (by kernel_rfl) (by simp) ?_
            refine AllReady.cons rfl (fun K hK => ?_) ?_
            ·
              apply step_wp
              · rfl
              refine ow_store _ _ _ rfl m9 DX rfl rfl _ _ hb9 (by rw [HXS.out]; exact secCells) (by rw [HXS.out]; exact HZS.out) HX1.out ?_
              intro W11 hb9x hs11
              have hk11 : Keep [k, t] w2 W11 := hk8.trans' hs11 (fun x hx => by right; simp at hx; omega)
              have hS11 : KS W11 k t := hS8.keep hs11 (by have := HLT.out; simp; omega) (by have := HLT.out; simp; omega)
              replace hb9 := hb9x
              replace hb10 := hb10.keep hs11 (by simp; omega)
              clear hs11
              apply hK
              clear hK K
              go_simp
              refine wpAny_ready (rs := [12]) (by kernel_rfl) (by simp) ?_
              refine AllReady.cons rfl (fun K hK => ?_) ?_
              ·
                apply step_wp
                · rfl
                refine ow_store _ _ _ rfl m10 DD rfl rfl _ _ hb10 (by rw [HDS.out]; exact secCells) (by rw [HDS.out]; exact HZS.out) HD1.out ?_
                intro W12 hb10x hs12
                have hk12 : Keep [k, t] w2 W12 := hk11.trans' hs12 (fun x hx => by right; simp at hx; omega)
                have hS12 : KS W12 k t := hS11.keep hs12 (by have := HLT.out; simp; omega) (by have := HLT.out; simp; omega)
                replace hb10 := hb10x
                replace hb9 := hb9.keep hs12 (by simp; omega)
                clear hs12
                apply hK
                clear hK K
                go_simp
                refine wpAny_done (by kernel_rfl) ?_ _
                exact hR.out _ _ _ _ ⟨rfl, rfl, by repeat (first | exact trivial | refine ⟨rfl, ?_⟩)⟩ hn9 hn10 hb9 hb10 hS12 hk12
              exact AllReady.nil
            exact AllReady.nil
          exact AllReady.nil
        exact AllReady.nil
      refine AllReady.cons rfl (fun K hK => ?_) ?_
      ·
        apply step_wp
        · rfl
        refine ow_alloc _ rfl Z 32 HZI.out ?_
        intro m10 W10 hn10 hb10 hs10
        replace hn10 : w2.heap.size ≤ m10 := by rw [hn10]; exact hk3.size
        have hk10 : Keep [k, t] w2 W10 := hk3.trans0 hs10
        have hS10 : KS W10 k t := hS3.keep0 hs10
        clear hs10
        apply hK
        clear hK K
        go_simp
        refine wpAny_ready (rs := [8, 9]) (by kernel_rfl) (by simp) ?_
        refine AllReady.cons rfl (fun K hK => ?_) ?_
        ·
          apply step_wp
          · rfl
          refine ow_call _ _ _ (by kernel_rfl) (DE _ hk10 hS10) ?_
          rintro e W8 ⟨rfl, hS8, hs8⟩
          refine ⟨_, rfl, ?_⟩
          have hk8 : Keep [k, t] w2 W8 := hk10.trans hs8
          replace hb10 := hb10.keep hs8 (by have := HLT.out; simp; omega)
          clear hs8
          apply hK
          clear hK K
          go_simp
          refine wpAny_ready (rs := [9]) (by kernel_rfl) (by simp) ?_
          refine AllReady.cons rfl (fun K hK => ?_) ?_
          ·
            apply step_wp
            · rfl
            refine ow_alloc _ rfl Z 32 HZI.out ?_
            intro m9 W9 hn9 hb9 hs9
            have hne := hb10.lt
            replace hne : m10 ≠ m9 := by omega
            replace hn9 : w2.heap.size ≤ m9 := by rw [hn9]; exact hk8.size
            have hk9 : Keep [k, t] w2 W9 := hk8.trans0 hs9
            have hS9 : KS W9 k t := hS8.keep0 hs9
            replace hb10 := hb10.keep hs9 (by simp)
            clear hs9
            apply hK
            clear hK K
            go_simp
            refine wpAny_ready (rs := [11]) (by kernel_rfl) (by simp) ?_
            refine AllReady.cons rfl (fun K hK => ?_) ?_
            ·
              apply step_wp
              · rfl
              refine ow_store _ _ _ rfl m9 DX rfl rfl _ _ hb9 (by rw [HXS.out]; exact secCells) (by rw [HXS.out]; exact HZS.out) HX1.out ?_
              intro W11 hb9x hs11
              have hk11 : Keep [k, t] w2 W11 := hk9.trans' hs11 (fun x hx => by right; simp at hx; omega)
              have hS11 : KS W11 k t := hS9.keep hs11 (by have := HLT.out; simp; omega) (by have := HLT.out; simp; omega)
              replace hb9 := hb9x
              replace hb10 := hb10.keep hs11 (by simp; omega)
              clear hs11
              apply hK
              clear hK K
              go_simp
              refine wpAny_ready (rs := [12]) (by kernel_rfl) (by simp) ?_
              refine AllReady.cons rfl (fun K hK => ?_) ?_
              ·
                apply step_wp
                · rfl
                refine ow_store _ _ _ rfl m10 DD rfl rfl _ _ hb10 (by rw [HDS.out]; exact secCells) (by rw [HDS.out]; exact HZS.out) HD1.out ?_
                intro W12 hb10x hs12
                have hk12 : Keep [k, t] w2 W12 := hk11.trans' hs12 (fun x hx => by right; simp at hx; omega)
                have hS12 : KS W12 k t := hS11.keep hs12 (by have := HLT.out; simp; omega) (by have := HLT.out; simp; omega)
                replace hb10 := hb10x
                replace hb9 := hb9.keep hs12 (by simp; omega)
                clear hs12
                apply hK
                clear hK K
                go_simp
                refine wpAny_done (by kernel_rfl) ?_ _
                exact hR.out _ _ _ _ ⟨rfl, rfl, by repeat (first | exact trivial | refine ⟨rfl, ?_⟩)⟩ hn9 hn10 hb9 hb10 hS12 hk12
              exact AllReady.nil
            exact AllReady.nil
          exact AllReady.nil
        refine AllReady.cons rfl (fun K hK => ?_) ?_
        ·
          apply step_wp
          · rfl
          refine ow_alloc _ rfl Z 32 HZI.out ?_
          intro m9 W9 hn9 hb9 hs9
          have hne := hb10.lt
          replace hne : m10 ≠ m9 := by omega
          replace hn9 : w2.heap.size ≤ m9 := by rw [hn9]; exact hk10.size
          have hk9 : Keep [k, t] w2 W9 := hk10.trans0 hs9
          have hS9 : KS W9 k t := hS10.keep0 hs9
          replace hb10 := hb10.keep hs9 (by simp)
          clear hs9
          apply hK
          clear hK K
          go_simp
          refine wpAny_ready (rs := [8]) (by kernel_rfl) (by simp) ?_
          refine AllReady.cons rfl (fun K hK => ?_) ?_
          ·
            apply step_wp
            · rfl
            refine ow_call _ _ _ (by kernel_rfl) (DE _ hk9 hS9) ?_
            rintro e W8 ⟨rfl, hS8, hs8⟩
            refine ⟨_, rfl, ?_⟩
            have hk8 : Keep [k, t] w2 W8 := hk9.trans hs8
            replace hb10 := hb10.keep hs8 (by have := HLT.out; simp; omega)
            replace hb9 := hb9.keep hs8 (by have := HLT.out; simp; omega)
            clear hs8
            apply hK
            clear hK K
            go_simp
            refine wpAny_ready (rs := [11]) (by kernel_rfl) (by simp) ?_
            refine AllReady.cons rfl (fun K hK => ?_) ?_
            ·
              apply step_wp
              · rfl
              refine ow_store _ _ _ rfl m9 DX rfl rfl _ _ hb9 (by rw [HXS.out]; exact secCells) (by rw [HXS.out]; exact HZS.out) HX1.out ?_
              intro W11 hb9x hs11
              have hk11 : Keep [k, t] w2 W11 := hk8.trans' hs11 (fun x hx => by right; simp at hx; omega)
              have hS11 : KS W11 k t := hS8.keep hs11 (by have := HLT.out; simp; omega) (by have := HLT.out; simp; omega)
              replace hb9 := hb9x
              replace hb10 := hb10.keep hs11 (by simp; omega)
              clear hs11
              apply hK
              clear hK K
              go_simp
              refine wpAny_ready (rs := [12]) (by kernel_rfl) (by simp) ?_
              refine AllReady.cons rfl (fun K hK => ?_) ?_
              ·
                apply step_wp
                · rfl
                refine ow_store _ _ _ rfl m10 DD rfl rfl _ _ hb10 (by rw [HDS.out]; exact secCells) (by rw [HDS.out]; exact HZS.out) HD1.out ?_
                intro W12 hb10x hs12
                have hk12 : Keep [k, t] w2 W12 := hk11.trans' hs12 (fun x hx => by right; simp at hx; omega)
                have hS12 : KS W12 k t := hS11.keep hs12 (by have := HLT.out; simp; omega) (by have := HLT.out; simp; omega)
                replace hb10 := hb10x
                replace hb9 := hb9.keep hs12 (by simp; omega)
                clear hs12
                apply hK
                clear hK K
                go_simp
                refine wpAny_done (by kernel_rfl) ?_ _
                exact hR.out _ _ _ _ ⟨rfl, rfl, by repeat (first | exact trivial | refine ⟨rfl, ?_⟩)⟩ hn9 hn10 hb9 hb10 hS12 hk12
              exact AllReady.nil
            exact AllReady.nil
          exact AllReady.nil
        exact AllReady.nil
      exact AllReady.nil
    refine AllReady.cons rfl (fun K hK => ?_) ?_
    ·
      apply step_wp
      · rfl
      refine ow_alloc _ rfl Z 32 HZI.out ?_
      intro m9 W9 hn9 hb9 hs9
      replace hn9 : w2.heap.size ≤ m9 := by rw [hn9]; exact hk0.size
      have hk9 : Keep [] w2 W9 := hk0.trans0 hs9
      have hS9 : KS W9 k t := hS0.keep0 hs9
      clear hs9
      apply hK
      clear hK K
      go_simp
      refine wpAny_ready (rs := [3, 10]) (by kernel_rfl) (by simp) ?_
      refine AllReady.cons rfl (fun K hK => ?_) ?_
      ·
        apply step_wp
        · rfl
        refine ow_call _ _ _ (by kernel_rfl) (EX _ hk9 hS9) ?_
        rintro e W3 ⟨rfl, hS3, hs3⟩
        refine ⟨_, rfl, ?_⟩
        have hk3 : Keep [k, t] w2 W3 := hk9.more0.trans hs3
        replace hb9 := hb9.keep hs3 (by have := HLT.out; simp; omega)
        clear hs3
        apply hK
        clear hK K
        go_simp
        refine wpAny_ready (rs := [8, 10]) (by kernel_rfl) (by simp) ?_
        refine AllReady.cons rfl (fun K hK => ?_) ?_
        ·
          apply step_wp
          · rfl
          refine ow_call _ _ _ (by kernel_rfl) (DE _ hk3 hS3) ?_
          rintro e W8 ⟨rfl, hS8, hs8⟩
          refine ⟨_, rfl, ?_⟩
          have hk8 : Keep [k, t] w2 W8 := hk3.trans hs8
          replace hb9 := hb9.keep hs8 (by have := HLT.out; simp; omega)
          clear hs8
          apply hK
          clear hK K
          go_simp
          refine wpAny_ready (rs := [10]) (by kernel_rfl) (by simp) ?_
          refine AllReady.cons rfl (fun K hK => ?_) ?_
          ·
            apply step_wp
            · rfl
            refine ow_alloc _ rfl Z 32 HZI.out ?_
            intro m10 W10 hn10 hb10 hs10
            have hne := hb9.lt
            replace hne : m9 ≠ m10 := by omega
            replace hn10 : w2.heap.size ≤ m10 := by rw [hn10]; exact hk8.size
            have hk10 : Keep [k, t] w2 W10 := hk8.trans0 hs10
            have hS10 : KS W10 k t := hS8.keep0 hs10
            replace hb9 := hb9.keep hs10 (by simp)
            clear hs10
            apply hK
            clear hK K
            go_simp
            refine wpAny_ready (rs := [11]) (by kernel_rfl) (by simp) ?_
            refine AllReady.cons rfl (fun K hK => ?_) ?_
            ·
              apply step_wp
              · rfl
              refine ow_store _ _ _ rfl m9 DX rfl rfl _ _ hb9 (by rw [HXS.out]; exact secCells) (by rw [HXS.out]; exact HZS.out) HX1.out ?_
              intro W11 hb9x hs11
              have hk11 : Keep [k, t] w2 W11 := hk10.trans' hs11 (fun x hx => by right; simp at hx; omega)
              have hS11 : KS W11 k t := hS10.keep hs11 (by have := HLT.out; simp; omega) (by have := HLT.out; simp; omega)
              replace hb9 := hb9x
              replace hb10 := hb10.keep hs11 (by simp; omega)
              clear hs11
              apply hK
              clear hK K
              go_simp
              refine wpAny_ready (rs := [12]) (by kernel_rfl) (by simp) ?_
              refine AllReady.cons rfl (fun K hK => ?_) ?_
              ·
                apply step_wp
                · rfl
                refine ow_store _ _ _ rfl m10 DD rfl rfl _ _ hb10 (by rw [HDS.out]; exact secCells) (by rw [HDS.out]; exact HZS.out) HD1.out ?_
                intro W12 hb10x hs12
                have hk12 : Keep [k, t] w2 W12 := hk11.trans' hs12 (fun x hx => by right; simp at hx; omega)
                have hS12 : KS W12 k t := hS11.keep hs12 (by have := HLT.out; simp; omega) (by have := HLT.out; simp; omega)
                replace hb10 := hb10x
                replace hb9 := hb9.keep hs12 (by simp; omega)
                clear hs12
                apply hK
                clear hK K
                go_simp
                refine wpAny_done (by kernel_rfl) ?_ _
                exact hR.out _ _ _ _ ⟨rfl, rfl, by repeat (first | exact trivial | refine ⟨rfl, ?_⟩)⟩ hn9 hn10 hb9 hb10 hS12 hk12
              exact AllReady.nil
            exact AllReady.nil
          exact AllReady.nil
        refine AllReady.cons rfl (fun K hK => ?_) ?_
        ·
          apply step_wp
          · rfl
          refine ow_alloc _ rfl Z 32 HZI.out ?_
          intro m10 W10 hn10 hb10 hs10
          have hne := hb9.lt
          replace hne : m9 ≠ m10 := by omega
          replace hn10 : w2.heap.size ≤ m10 := by rw [hn10]; exact hk3.size
          have hk10 : Keep [k, t] w2 W10 := hk3.trans0 hs10
          have hS10 : KS W10 k t := hS3.keep0 hs10
          replace hb9 := hb9.keep hs10 (by simp)
          clear hs10
          apply hK
          clear hK K
          go_simp
          refine wpAny_ready (rs := [8]) (by kernel_rfl) (by simp) ?_
          refine AllReady.cons rfl (fun K hK => ?_) ?_
          ·
            apply step_wp
            · rfl
            refine ow_call _ _ _ (by kernel_rfl) (DE _ hk10 hS10) ?_
            rintro e W8 ⟨rfl, hS8, hs8⟩
            refine ⟨_, rfl, ?_⟩
            have hk8 : Keep [k, t] w2 W8 := hk10.trans hs8
            replace hb9 := hb9.keep hs8 (by have := HLT.out; simp; omega)
            replace hb10 := hb10.keep hs8 (by have := HLT.out; simp; omega)
            clear hs8
            apply hK
            clear hK K
            go_simp
            refine wpAny_ready (rs := [11]) (by kernel_rfl) (by simp) ?_
            refine AllReady.cons rfl (fun K hK => ?_) ?_
            ·
              apply step_wp
              · rfl
              refine ow_store _ _ _ rfl m9 DX rfl rfl _ _ hb9 (by rw [HXS.out]; exact secCells) (by rw [HXS.out]; exact HZS.out) HX1.out ?_
              intro W11 hb9x hs11
              have hk11 : Keep [k, t] w2 W11 := hk8.trans' hs11 (fun x hx => by right; simp at hx; omega)
              have hS11 : KS W11 k t := hS8.keep hs11 (by have := HLT.out; simp; omega) (by have := HLT.out; simp; omega)
              replace hb9 := hb9x
              replace hb10 := hb10.keep hs11 (by simp; omega)
              clear hs11
              apply hK
              clear hK K
              go_simp
              refine wpAny_ready (rs := [12]) (by kernel_rfl) (by simp) ?_
              refine AllReady.cons rfl (fun K hK => ?_) ?_
              ·
                apply step_wp
                · rfl
                refine ow_store _ _ _ rfl m10 DD rfl rfl _ _ hb10 (by rw [HDS.out]; exact secCells) (by rw [HDS.out]; exact HZS.out) HD1.out ?_
                intro W12 hb10x hs12
                have hk12 : Keep [k, t] w2 W12 := hk11.trans' hs12 (fun x hx => by right; simp at hx; omega)
                have hS12 : KS W12 k t := hS11.keep hs12 (by have := HLT.out; simp; omega) (by have := HLT.out; simp; omega)
                replace hb10 := hb10x
                replace hb9 := hb9.keep hs12 (by simp; omega)
                clear hs12
                apply hK
                clear hK K
                go_simp
                refine wpAny_done (by kernel_rfl) ?_ _
                exact hR.out _ _ _ _ ⟨rfl, rfl, by repeat (first | exact trivial | refine ⟨rfl, ?_⟩)⟩ hn9 hn10 hb9 hb10 hS12 hk12
              exact AllReady.nil
            exact AllReady.nil
          exact AllReady.nil
        exact AllReady.nil
      refine AllReady.cons rfl (fun K hK => ?_) ?_
      ·
        apply step_wp
        · rfl
        refine ow_alloc _ rfl Z 32 HZI.out ?_
        intro m10 W10 hn10 hb10 hs10
        have hne := hb9.lt
        replace hne : m9 ≠ m10 := by omega
        replace hn10 : w2.heap.size ≤ m10 := by rw [hn10]; exact hk9.size
        have hk10 : Keep [] w2 W10 := hk9.trans0 hs10
        have hS10 : KS W10 k t := hS9.keep0 hs10
        replace hb9 := hb9.keep hs10 (by simp)
        clear hs10
        apply hK
        clear hK K
        go_simp
        refine wpAny_ready (rs := [3]) (by kernel_rfl) (by simp) ?_
        refine AllReady.cons rfl (fun K hK => ?_) ?_
        ·
          apply step_wp
          · rfl
          refine ow_call _ _ _ (by kernel_rfl) (EX _ hk10 hS10) ?_
          rintro e W3 ⟨rfl, hS3, hs3⟩
          refine ⟨_, rfl, ?_⟩
          have hk3 : Keep [k, t] w2 W3 := hk10.more0.trans hs3
          replace hb9 := hb9.keep hs3 (by have := HLT.out; simp; omega)
          replace hb10 := hb10.keep hs3 (by have := HLT.out; simp; omega)
          clear hs3
          apply hK
          clear hK K
          go_simp
          refine wpAny_ready (rs := [8]) (by kernel_rfl) (by simp) ?_
          refine AllReady.cons rfl (fun K hK => ?_) ?_
          ·
            apply step_wp
            · rfl
            refine ow_call _ _ _ (by kernel_rfl) (DE _ hk3 hS3) ?_
            rintro e W8 ⟨rfl, hS8, hs8⟩
            refine ⟨_, rfl, ?_⟩
            have hk8 : Keep [k, t] w2 W8 := hk3.trans hs8
            replace hb9 := hb9.keep hs8 (by have := HLT.out; simp; omega)
            replace hb10 := hb10.keep hs8 (by have := HLT.out; simp; omega)
            clear hs8
            apply hK
            clear hK K
            go_simp
            refine wpAny_ready (rs := [11]) (by kernel_rfl) (by simp) ?_
            refine AllReady.cons rfl (fun K hK => ?_) ?_
            ·
              apply step_wp
              · rfl
              refine ow_store _ _ _ rfl m9 DX rfl rfl _ _ hb9 (by rw [HXS.out]; exact secCells) (by rw [HXS.out]; exact HZS.out) HX1.out ?_
              intro W11 hb9x hs11
              have hk11 : Keep [k, t] w2 W11 := hk8.trans' hs11 (fun x hx => by right; simp at hx; omega)
              have hS11 : KS W11 k t := hS8.keep hs11 (by have := HLT.out; simp; omega) (by have := HLT.out; simp; omega)
              replace hb9 := hb9x
              replace hb10 := hb10.keep hs11 (by simp; omega)
              clear hs11
              apply hK
              clear hK K
              go_simp
              refine wpAny_ready (rs := [12]) (by kernel_rfl) (by simp) ?_
              refine AllReady.cons rfl (fun K hK => ?_) ?_
              ·
                apply step_wp
                · rfl
                refine ow_store _ _ _ rfl m10 DD rfl rfl _ _ hb10 (by rw [HDS.out]; exact secCells) (by rw [HDS.out]; exact HZS.out) HD1.out ?_
                intro W12 hb10x hs12
                have hk12 : Keep [k, t] w2 W12 := hk11.trans' hs12 (fun x hx => by right; simp at hx; omega)
                have hS12 : KS W12 k t := hS11.keep hs12 (by have := HLT.out; simp; omega) (by have := HLT.out; simp; omega)
                replace hb10 := hb10x
                replace hb9 := hb9.keep hs12 (by simp; omega)
                clear hs12
                apply hK
                clear hK K
                go_simp
                refine wpAny_done (by kernel_rfl) ?_ _
                exact hR.out _ _ _ _ ⟨rfl, rfl, by repeat (first | exact trivial | refine ⟨rfl, ?_⟩)⟩ hn9 hn10 hb9 hb10 hS12 hk12
              exact AllReady.nil
            exact AllReady.nil
          exact AllReady.nil
        exact AllReady.nil
      exact AllReady.nil
    refine AllReady.cons rfl (fun K hK => ?_) ?_
    ·
      apply step_wp
      · rfl
      refine ow_alloc _ rfl Z 32 HZI.out ?_
      intro m10 W10 hn10 hb10 hs10
      replace hn10 : w2.heap.size ≤ m10 := by rw [hn10]; exact hk0.size
      have hk10 : Keep [] w2 W10 := hk0.trans0 hs10
      have hS10 : KS W10 k t := hS0.keep0 hs10
      clear hs10
      apply hK
      clear hK K
      go_simp
      refine wpAny_ready (rs := [3, 9]) (by kernel_rfl) (by simp) ?_
      refine AllReady.cons rfl (fun K hK => ?_) ?_
      ·
        apply step_wp
        · rfl
        refine ow_call _ _ _ (by kernel_rfl) (EX _ hk10 hS10) ?_
        rintro e W3 ⟨rfl, hS3, hs3⟩
        refine ⟨_, rfl, ?_⟩
        have hk3 : Keep [k, t] w2 W3 := hk10.more0.trans hs3
        replace hb10 := hb10.keep hs3 (by have := HLT.out; simp; omega)
        clear hs3
        apply hK
        clear hK K
        go_simp
        refine wpAny_ready (rs := [8, 9]) (by kernel_rfl) (by simp) ?_
        refine AllReady.cons rfl (fun K hK => ?_) ?_
        ·
          apply step_wp
          · rfl
          refine ow_call _ _ _ (by kernel_rfl) (DE _ hk3 hS3) ?_
          rintro e W8 ⟨rfl, hS8, hs8⟩
          refine ⟨_, rfl, ?_⟩
          have hk8 : Keep [k, t] w2 W8 := hk3.trans hs8
          replace hb10 := hb10.keep hs8 (by have := HLT.out; simp; omega)
          clear hs8
          apply hK
          clear hK K
          go_simp
          refine wpAny_ready (rs := [9]) (by kernel_rfl) (by simp) ?_
          refine AllReady.cons rfl (fun K hK => ?_) ?_
          ·
            apply step_wp
            · rfl
            refine ow_alloc _ rfl Z 32 HZI.out ?_
            intro m9 W9 hn9 hb9 hs9
            have hne := hb10.lt
            replace hne : m10 ≠ m9 := by omega
            replace hn9 : w2.heap.size ≤ m9 := by rw [hn9]; exact hk8.size
            have hk9 : Keep [k, t] w2 W9 := hk8.trans0 hs9
            have hS9 : KS W9 k t := hS8.keep0 hs9
            replace hb10 := hb10.keep hs9 (by simp)
            clear hs9
            apply hK
            clear hK K
            go_simp
            refine wpAny_ready (rs := [11]) (by kernel_rfl) (by simp) ?_
            refine AllReady.cons rfl (fun K hK => ?_) ?_
            ·
              apply step_wp
              · rfl
              refine ow_store _ _ _ rfl m9 DX rfl rfl _ _ hb9 (by rw [HXS.out]; exact secCells) (by rw [HXS.out]; exact HZS.out) HX1.out ?_
              intro W11 hb9x hs11
              have hk11 : Keep [k, t] w2 W11 := hk9.trans' hs11 (fun x hx => by right; simp at hx; omega)
              have hS11 : KS W11 k t := hS9.keep hs11 (by have := HLT.out; simp; omega) (by have := HLT.out; simp; omega)
              replace hb9 := hb9x
              replace hb10 := hb10.keep hs11 (by simp; omega)
              clear hs11
              apply hK
              clear hK K
              go_simp
              refine wpAny_ready (rs := [12]) (by kernel_rfl) (by simp) ?_
              refine AllReady.cons rfl (fun K hK => ?_) ?_
              ·
                apply step_wp
                · rfl
                refine ow_store _ _ _ rfl m10 DD rfl rfl _ _ hb10 (by rw [HDS.out]; exact secCells) (by rw [HDS.out]; exact HZS.out) HD1.out ?_
                intro W12 hb10x hs12
                have hk12 : Keep [k, t] w2 W12 := hk11.trans' hs12 (fun x hx => by right; simp at hx; omega)
                have hS12 : KS W12 k t := hS11.keep hs12 (by have := HLT.out; simp; omega) (by have := HLT.out; simp; omega)
                replace hb10 := hb10x
                replace hb9 := hb9.keep hs12 (by simp; omega)
                clear hs12
                apply hK
                clear hK K
                go_simp
                refine wpAny_done (by kernel_rfl) ?_ _
                exact hR.out _ _ _ _ ⟨rfl, rfl, by repeat (first | exact trivial | refine ⟨rfl, ?_⟩)⟩ hn9 hn10 hb9 hb10 hS12 hk12
              exact AllReady.nil
            exact AllReady.nil
          exact AllReady.nil
        refine AllReady.cons rfl (fun K hK => ?_) ?_
        ·
          apply step_wp
          · rfl
          refine ow_alloc _ rfl Z 32 HZI.out ?_
          intro m9 W9 hn9 hb9 hs9
          have hne := hb10.lt
          replace hne : m10 ≠ m9 := by omega
          replace hn9 : w2.heap.size ≤ m9 := by rw [hn9]; exact hk3.size
          have hk9 : Keep [k, t] w2 W9 := hk3.trans0 hs9
          have hS9 : KS W9 k t := hS3.keep0 hs9
          replace hb10 := hb10.keep hs9 (by simp)
          clear hs9
          apply hK
          clear hK K
          go_simp
          refine wpAny_ready (rs := [8]) (by kernel_rfl) (by simp) ?_
          refine AllReady.cons rfl (fun K hK => ?_) ?_
          ·
            apply step_wp
            · rfl
            refine ow_call _ _ _ (by kernel_rfl) (DE _ hk9 hS9) ?_
            rintro e W8 ⟨rfl, hS8, hs8⟩
            refine ⟨_, rfl, ?_⟩
            have hk8 : Keep [k, t] w2 W8 := hk9.trans hs8
            replace hb10 := hb10.keep hs8 (by have := HLT.out; simp; omega)
            replace hb9 := hb9.keep hs8 (by have := HLT.out; simp; omega)
            clear hs8
            apply hK
            clear hK K
            go_simp
            refine wpAny_ready (rs := [11]) (by kernel_rfl) (by simp) ?_
            refine AllReady.cons rfl (fun K hK => ?_) ?_
            ·
              apply step_wp
              · rfl
              refine ow_store _ _ _ rfl m9 DX rfl rfl _ _ hb9 (by rw [HXS.out]; exact secCells) (by rw [HXS.out]; exact HZS.out) HX1.out ?_
              intro W11 hb9x hs11
              have hk11 : Keep [k, t] w2 W11 := hk8.trans' hs11 (fun x hx => by right; simp at hx; omega)
              have hS11 : KS W11 k t := hS8.keep hs11 (by have := HLT.out; simp; omega) (by have := HLT.out; simp; omega)
              replace hb9 := hb9x
              replace hb10 := hb10.keep hs11 (by simp; omega)
              clear hs11
              apply hK
              clear hK K
              go_simp
              refine wpAny_ready (rs := [12]) (by kernel_rfl) (by simp) ?_
              refine AllReady.cons rfl (fun K hK => ?_) ?_
              ·
                apply step_wp
                · rfl
                refine ow_store _ _ _ rfl m10 DD rfl rfl _ _ hb10 (by rw [HDS.out]; exact secCells) (by rw [HDS.out]; exact HZS.out) HD1.out ?_
                intro W12 hb10x hs12
                have hk12 : Keep [k, t] w2 W12 := hk11.trans' hs12 (fun x hx => by right; simp at hx; omega)
                have hS12 : KS W12 k t := hS11.keep hs12 (by have := HLT.out; simp; omega) (by have := HLT.out; simp; omega)
                replace hb10 := hb10x
                replace hb9 := hb9.keep hs12 (by simp; omega)
                clear hs12
                apply hK
                clear hK K
                go_simp
                refine wpAny_done (by kernel_rfl) ?_ _
                exact hR.out _ _ _ _ ⟨rfl, rfl, by repeat (first | exact trivial | refine ⟨rfl, ?_⟩)⟩ hn9 hn10 hb9 hb10 hS12 hk12
              exact AllReady.nil
            exact AllReady.nil
          exact AllReady.nil
        exact AllReady.nil
      refine AllReady.cons rfl (fun K hK => ?_) ?_
      ·
        apply step_wp
        · rfl
        refine ow_alloc _ rfl Z 32 HZI.out ?_
        intro m9 W9 hn9 hb9 hs9
        have hne := hb10.lt
        replace hne : m10 ≠ m9 := by omega
        replace hn9 : w2.heap.size ≤ m9 := by rw [hn9]; exact hk10.size
        have hk9 : Keep [] w2 W9 := hk10.trans0 hs9
        have hS9 : KS W9 k t := hS10.keep0 hs9
        replace hb10 := hb10.keep hs9 (by simp)
        clear hs9
        apply hK
        clear hK K
        go_simp
        refine wpAny_ready (rs := [3]) (by kernel_rfl) (by simp) ?_
        refine AllReady.cons rfl (fun K hK => ?_) ?_
        ·
          apply step_wp
          · rfl
          refine ow_call _ _ _ (by kernel_rfl) (EX _ hk9 hS9) ?_
          rintro e W3 ⟨rfl, hS3, hs3⟩
          refine ⟨_, rfl, ?_⟩
          have hk3 : Keep [k, t] w2 W3 := hk9.more0.trans hs3
          replace hb10 := hb10.keep hs3 (by have := HLT.out; simp; omega)
          replace hb9 := hb9.keep hs3 (by have := HLT.out; simp; omega)
          clear hs3
          apply hK
          clear hK K
          go_simp
          refine wpAny_ready (rs := [8]) (by kernel_rfl) (by simp) ?_
          refine AllReady.cons rfl (fun K hK => ?_) ?_
          ·
            apply step_wp
            · rfl
            refine ow_call _ _ _ (by kernel_rfl) (DE _ hk3 hS3) ?_
            rintro e W8 ⟨rfl, hS8, hs8⟩
            refine ⟨_, rfl, ?_⟩
            have hk8 : Keep [k, t] w2 W8 := hk3.trans hs8
            replace hb10 := hb10.keep hs8 (by have := HLT.out; simp; omega)
            replace hb9 := hb9.keep hs8 (by have := HLT.out; simp; omega)
            clear hs8
            apply hK
            clear hK K
            go_simp
            refine wpAny_ready (rs := [11]) (by kernel_rfl) (by simp) ?_
            refine AllReady.cons rfl (fun K hK => ?_) ?_
            ·
              apply step_wp
              · rfl
              refine ow_store _ _ _ rfl m9 DX rfl rfl _ _ hb9 (by rw [HXS.out]; exact secCells) (by rw [HXS.out]; exact HZS.out) HX1.out ?_
              intro W11 hb9x hs11
              have hk11 : Keep [k, t] w2 W11 := hk8.trans' hs11 (fun x hx => by right; simp at hx; omega)
              have hS11 : KS W11 k t := hS8.keep hs11 (by have := HLT.out; simp; omega) (by have := HLT.out; simp; omega)
              replace hb9 := hb9x
              replace hb10 := hb10.keep hs11 (by simp; omega)
              clear hs11
              apply hK
              clear hK K
              go_simp
              refine wpAny_ready (rs := [12]) (by kernel_rfl) (by simp) ?_
              refine AllReady.cons rfl (fun K hK => ?_) ?_
              ·
                apply step_wp
                · rfl
                refine ow_store _ _ _ rfl m10 DD rfl rfl _ _ hb10 (by rw [HDS.out]; exact secCells) (by rw [HDS.out]; exact HZS.out) HD1.out ?_
                intro W12 hb10x hs12
                have hk12 : Keep [k, t] w2 W12 := hk11.trans' hs12 (fun x hx => by right; simp at hx; omega)
                have hS12 : KS W12 k t := hS11.keep hs12 (by have := HLT.out; simp; omega) (by have := HLT.out; simp; omega)
                replace hb10 := hb10x
                replace hb9 := hb9.keep hs12 (by simp; omega)
                clear hs12
                apply hK
                clear hK K
                go_simp
                refine wpAny_done (by kernel_rfl) ?_ _
                exact hR.out _ _ _ _ ⟨rfl, rfl, by repeat (first | exact trivial | refine ⟨rfl, ?_⟩)⟩ hn9 hn10 hb9 hb10 hS12 hk12
              exact AllReady.nil
            exact AllReady.nil
          exact AllReady.nil
        exact AllReady.nil
      exact AllReady.nil
    exact AllReady.nil
  refine AllReady.cons rfl (fun K hK => ?_) ?_
  ·
    apply step_wp
    · rfl
    refine ow_alloc _ rfl Z 32 HZI.out ?_
    intro m9 W9 hn9 hb9 hs9
    replace hn9 : w2.heap.size ≤ m9 := by rw [hn9]; exact hk0.size
    have hk9 : Keep [] w2 W9 := hk0.trans0 hs9
    have hS9 : KS W9 k t := hS0.keep0 hs9
    clear hs9
    apply hK
    clear hK K
    go_simp
    refine wpAny_ready (rs := [3, 5, 10]) (by kernel_rfl) (by simp) ?_
    refine AllReady.cons rfl (fun K hK => ?_) ?_
    ·
      apply step_wp
      · rfl
      refine ow_call _ _ _ (by kernel_rfl) (EX _ hk9 hS9) ?_
      rintro e W3 ⟨rfl, hS3, hs3⟩
      refine ⟨_, rfl, ?_⟩
      have hk3 : Keep [k, t] w2 W3 := hk9.more0.trans hs3
      replace hb9 := hb9.keep hs3 (by have := HLT.out; simp; omega)
      clear hs3
      apply hK
      clear hK K
      go_simp
      refine wpAny_ready (rs := [5, 10]) (by kernel_rfl) (by simp) ?_
      refine AllReady.cons rfl (fun K hK => ?_) ?_
      ·
        apply step_wp
        · rfl
        refine ow_load _ _ rfl g0 rfl 32 5 Try.underlying23 _ D0 (LD _ hk3) (by rw [H0S.out]; exact secCells) ?_
        apply hK
        clear hK K
        go_simp
        refine wpAny_ready (rs := [8, 10]) (by kernel_rfl) (by simp) ?_
        refine AllReady.cons rfl (fun K hK => ?_) ?_
        ·
          apply step_wp
          · rfl
          refine ow_call _ _ _ (by kernel_rfl) (DE _ hk3 hS3) ?_
          rintro e W8 ⟨rfl, hS8, hs8⟩
          refine ⟨_, rfl, ?_⟩
          have hk8 : Keep [k, t] w2 W8 := hk3.trans hs8
          replace hb9 := hb9.keep hs8 (by have := HLT.out; simp; omega)
          clear hs8
          apply hK
          clear hK K
          go_simp
          refine wpAny_ready (rs := [10]) (by kernel_rfl) (by simp) ?_
          refine AllReady.cons rfl (fun K hK => ?_) ?_
          ·
            apply step_wp
            · rfl
            refine ow_alloc _ rfl Z 32 HZI.out ?_
            intro m10 W10 hn10 hb10 hs10
            have hne := hb9.lt
            replace hne : m9 ≠ m10 := by omega
            replace hn10 : w2.heap.size ≤ m10 := by rw [hn10]; exact hk8.size
            have hk10 : Keep [k, t] w2 W10 := hk8.trans0 hs10
            have hS10 : KS W10 k t := hS8.keep0 hs10
            replace hb9 := hb9.keep hs10 (by simp)
            clear hs10
            apply hK
            clear hK K
            go_simp
            refine wpAny_ready (rs := [11]) (by kernel_rfl) (by simp) ?_
            refine AllReady.cons rfl (fun K hK => ?_) ?_
            ·
              apply step_wp
              · rfl
              refine ow_store _ _ _ rfl m9 DX rfl rfl _ _ hb9 (by rw [HXS.out]; exact secCells) (by rw [HXS.out]; exact HZS.out) HX1.out ?_
              intro W11 hb9x hs11
              have hk11 : Keep [k, t] w2 W11 := hk10.trans' hs11 (fun x hx => by right; simp at hx; omega)
              have hS11 : KS W11 k t := hS10.keep hs11 (by have := HLT.out; simp; omega) (by have := HLT.out; simp; omega)
              replace hb9 := hb9x
              replace hb10 := hb10.keep hs11 (by simp; omega)
              clear hs11
              apply hK
              clear hK K
              go_simp
              refine wpAny_ready (rs := [12]) (by kernel_rfl) (by simp) ?_
              refine AllReady.cons rfl (fun K hK => ?_) ?_
              ·
                apply step_wp
                · rfl
                refine ow_store _ _ _ rfl m10 DD rfl rfl _ _ hb10 (by rw [HDS.out]; exact secCells) (by rw [HDS.out]; exact HZS.out) HD1.out ?_
                intro W12 hb10x hs12
                have hk12 : Keep [k, t] w2 W12 := hk11.trans' hs12 (fun x hx => by right; simp at hx; omega)
                have hS12 : KS W12 k t := hS11.keep hs12 (by have := HLT.out; simp; omega) (by have := HLT.out; simp; omega)
                replace hb10 := hb10x
                replace hb9 := hb9.keep hs12 (by simp; omega)
                clear hs12
                apply hK
                clear hK K
                go_simp
                refine wpAny_done (by kernel_rfl) ?_ _
                exact hR.out _ _ _ _ ⟨rfl, rfl, by repeat (first | exact trivial | refine ⟨rfl, ?_⟩)⟩ hn9 hn10 hb9 hb10 hS12 hk12
              exact AllReady.nil
            exact AllReady.nil
          exact AllReady.nil
        refine AllReady.cons rfl (fun K hK => ?_) ?_
        ·
          apply step_wp
          · rfl
          refine ow_alloc _ rfl Z 32 HZI.out ?_
          intro m10 W10 hn10 hb10 hs10
          have hne := hb9.lt
          replace hne : m9 ≠ m10 := by omega
          replace hn10 : w2.heap.size ≤ m10 := by rw [hn10]; exact hk3.size
          have hk10 : Keep [k, t] w2 W10 := hk3.trans0 hs10
          have hS10 : KS W10 k t := hS3.keep0 hs10
          replace hb9 := hb9.keep hs10 (by simp)
          clear hs10
          apply hK
          clear hK K
          go_simp
          refine wpAny_ready (rs := [8]) (by kernel_rfl) (by simp) ?_
          refine AllReady.cons rfl (fun K hK => ?_) ?_
          ·
            apply step_wp
            · rfl
            refine ow_call _ _ _ (by kernel_rfl) (DE _ hk10 hS10) ?_
            rintro e W8 ⟨rfl, hS8, hs8⟩
            refine ⟨_, rfl, ?_⟩
            have hk8 : Keep [k, t] w2 W8 := hk10.trans hs8
            replace hb9 := hb9.keep hs8 (by have := HLT.out; simp; omega)
            replace hb10 := hb10.keep hs8 (by have := HLT.out; simp; omega)
            clear hs8
            apply hK
            clear hK K
            go_simp
            refine wpAny_ready (rs := [11]) (by kernel_rfl) (by simp) ?_
            refine AllReady.cons rfl (fun K hK => ?_) ?_
            ·
              apply step_wp
              · rfl
              refine ow_store _ _ _ rfl m9 DX rfl rfl _ _ hb9 (by rw [HXS.out]; exact secCells) (by rw [HXS.out]; exact HZS.out) HX1.out ?_
              intro W11 hb9x hs11
              have hk11 : Keep [k, t] w2 W11 := hk8.trans' hs11 (fun x hx => by right; simp at hx; omega)
              have hS11 : KS W11 k t := hS8.keep hs11 (by have := HLT.out; simp; omega) (by have := HLT.out; simp; omega)
              replace hb9 := hb9x
              replace hb10 := hb10.keep hs11 (by simp; omega)
              clear hs11
              apply hK
              clear hK K
              go_simp
              refine wpAny_ready (rs := [12]) (by kernel_rfl) (by simp) ?_
              refine AllReady.cons rfl (fun K hK => ?_) ?_
              ·
                apply step_wp
                · rfl
                refine ow_store _ _ _ rfl m10 DD rfl rfl _ _ hb10 (by rw [HDS.out]; exact secCells) (by rw [HDS.out]; exact HZS.out) HD1.out ?_
                intro W12 hb10x hs12
                have hk12 : Keep [k, t] w2 W12 := hk11.trans' hs12 (fun x hx => by right; simp at hx; omega)
                have hS12 : KS W12 k t := hS11.keep hs12 (by have := HLT.out; simp; omega) (by have := HLT.out; simp; omega)
                replace hb10 := hb10x
                replace hb9 := hb9.keep hs12 (by simp; omega)
                clear hs12
                apply hK
                clear hK K
                go_simp
                refine wpAny_done (by kernel_rfl) ?_ _
                exact hR.out _ _ _ _ ⟨rfl, rfl, by repeat (first | exact trivial | refine ⟨rfl, ?_⟩)⟩ hn9 hn10 hb9 hb10 hS12 hk12
              exact AllReady.nil
            exact AllReady.nil
          exact AllReady.nil
        exact AllReady.nil
      refine AllReady.cons rfl (fun K hK => ?_) ?_
      ·
        apply step_wp
        · rfl
        refine ow_alloc _ rfl Z 32 HZI.out ?_
        intro m10 W10 hn10 hb10 hs10
        have hne := hb9.lt
        replace hne : m9 ≠ m10 := by omega
        replace hn10 : w2.heap.size ≤ m10 := by rw [hn10]; exact hk3.size
        have hk10 : Keep [k, t] w2 W10 := hk3.trans0 hs10
        have hS10 : KS W10 k t := hS3.keep0 hs10
        replace hb9 := hb9.keep hs10 (by simp)
        clear hs10
        apply hK
        clear hK K
        go_simp
        refine wpAny_ready (rs := [5]) (by kernel_rfl) (by simp) ?_
        refine AllReady.cons rfl (fun K hK => ?_) ?_
        ·
          apply step_wp
          · rfl
          refine ow_load _ _ rfl g0 rfl 32 5 Try.underlying23 _ D0 (LD _ hk10) (by rw [H0S.out]; exact secCells) ?_
          apply hK
          clear hK K
          go_simp
          refine wpAny_ready (rs := [8]) (by kernel_rfl) (by simp) ?_
          refine AllReady.cons rfl (fun K hK => ?_) ?_
          ·
            apply step_wp
            · rfl
            refine ow_call _ _ _ (by kernel_rfl) (DE _ hk10 hS10) ?_
            rintro e W8 ⟨rfl, hS8, hs8⟩
            refine ⟨_, rfl, ?_⟩
            have hk8 : Keep [k, t] w2 W8 := hk10.trans hs8
            replace hb9 := hb9.keep hs8 (by have := HLT.out; simp; omega)
            replace hb10 := hb10.keep hs8 (by have := HLT.out; simp; omega)
            clear hs8
            apply hK
            clear hK K
            go_simp
            refine wpAny_ready (rs := [11]) (by kernel_rfl) (by simp) ?_
            refine AllReady.cons rfl (fun K hK => ?_) ?_
            ·
              apply step_wp
              · rfl
              refine ow_store _ _ _ rfl m9 DX rfl rfl _ _ hb9 (by rw [HXS.out]; exact secCells) (by rw [HXS.out]; exact HZS.out) HX1.out ?_
              intro W11 hb9x hs11
              have hk11 : Keep [k, t] w2 W11 := hk8.trans' hs11 (fun x hx => by right; simp at hx; omega)
              have hS11 : KS W11 k t := hS8.keep hs11 (by have := HLT.out; simp; omega) (by have := HLT.out; simp; omega)
              replace hb9 := hb9x
              replace hb10 := hb10.keep hs11 (by simp; omega)
              clear hs11
              apply hK
              clear hK K
              go_simp
              refine wpAny_ready (rs := [12]) (by kernel_rfl) (by simp) ?_
              refine AllReady.cons rfl (fun K hK => ?_) ?_
              ·
                apply step_wp
                · rfl
                refine ow_store _ _ _ rfl m10 DD rfl rfl _ _ hb10 (by rw [HDS.out]; exact secCells) (by rw [HDS.out]; exact HZS.out) HD1.out ?_
                intro W12 hb10x hs12
                have hk12 : Keep [k, t] w2 W12 := hk11.trans' hs12 (fun x hx => by right; simp at hx; omega)
                have hS12 : KS W12 k t := hS11.keep hs12 (by have := HLT.out; simp; omega) (by have := HLT.out; simp; omega)
                replace hb10 := hb10x
                replace hb9 := hb9.keep hs12 (by simp; omega)
                clear hs12
                apply hK
                clear hK K
                go_simp
                refine wpAny_done (by kernel_rfl) ?_ _
                exact hR.out _ _ _ _ ⟨rfl, rfl, by repeat (first | exact trivial | refine ⟨rfl, ?_⟩)⟩ hn9 hn10 hb9 hb10 hS12 hk12
              exact AllReady.nil
            exact AllReady.nil
          exact AllReady.nil
        exact AllReady.nil
      exact AllReady.nil
    refine AllReady.cons rfl (fun K hK => ?_) ?_
    ·
      apply step_wp
      · rfl
      refine ow_load _ _ rfl g0 rfl 32 5 Try.underlying23 _ D0 (LD _ hk9.more0) (by rw [H0S.out]; exact secCells) ?_
      apply hK
      clear hK K
      go_simp
      refine wpAny_ready (rs := [3, 10]) (by kernel_rfl) (by simp) ?_
      refine AllReady.cons rfl (fun K hK => ?_) ?_
      ·
        apply step_wp
        · rfl
        refine ow_call _ _ _ (by kernel_rfl) (EX _ hk9 hS9) ?_
        rintro e W3 ⟨rfl, hS3, hs3⟩
        refine ⟨_, rfl, ?_⟩
        have hk3 : Keep [k, t] w2 W3 := hk9.more0.trans hs3
        replace hb9 := hb9.keep hs3 (by have := HLT.out; simp; omega)
        clear hs3
        apply hK
        clear hK K
        go_simp
        refine wpAny_ready (rs := [8, 10]) (by kernel_rfl) (by simp) ?_
        refine AllReady.cons rfl (fun K hK => ?_) ?_
        ·
          apply step_wp
          · rfl
          refine ow_call _ _ _ (by kernel_rfl) (DE _ hk3 hS3) ?_
          rintro e W8 ⟨rfl, hS8, hs8⟩
          refine ⟨_, rfl, ?_⟩
          have hk8 : Keep [k, t] w2 W8 := hk3.trans hs8
          replace hb9 := hb9.keep hs8 (by have := HLT.out; simp; omega)
          clear hs8
          apply hK
          clear hK K
          go_simp
          refine wpAny_ready (rs := [10]) (by kernel_rfl) (by simp) ?_
          refine AllReady.cons rfl (fun K hK => ?_) ?_
          ·
            apply step_wp
            · rfl
            refine ow_alloc _ rfl Z 32 HZI.out ?_
            intro m10 W10 hn10 hb10 hs10
            have hne := hb9.lt
            replace hne : m9 ≠ m10 := by omega
            replace hn10 : w2.heap.size ≤ m10 := by rw [hn10]; exact hk8.size
            have hk10 : Keep [k, t] w2 W10 := hk8.trans0 hs10
            have hS10 : KS W10 k t := hS8.keep0 hs10
            replace hb9 := hb9.keep hs10 (by simp)
            clear hs10
            apply hK
            clear hK K
            go_simp
            refine wpAny_ready (rs := [11]) (by kernel_rfl) (by simp) ?_
            refine AllReady.cons rfl (fun K hK => ?_) ?_
            ·
              apply step_wp
              · rfl
              refine ow_store _ _ _ rfl m9 DX rfl rfl _ _ hb9 (by rw [HXS.out]; exact secCells) (by rw [HXS.out]; exact HZS.out) HX1.out ?_
              intro W11 hb9x hs11
              have hk11 : Keep [k, t] w2 W11 := hk10.trans' hs11 (fun x hx => by right; simp at hx; omega)
              have hS11 : KS W11 k t := hS10.keep hs11 (by have := HLT.out; simp; omega) (by have := HLT.out; simp; omega)
              replace hb9 := hb9x
              replace hb10 := hb10.keep hs11 (by simp; omega)
              clear hs11
              apply hK
              clear hK K
              go_simp
              refine wpAny_ready (rs := [12]) (by kernel_rfl) (by simp) ?_
              refine AllReady.cons rfl (fun K hK => ?_) ?_
              ·
                apply step_wp
                · rfl
                refine ow_store _ _ _ rfl m10 DD rfl rfl _ _ hb10 (by rw [HDS.out]; exact secCells) (by rw [HDS.out]; exact HZS.out) HD1.out ?_
                intro W12 hb10x hs12
                have hk12 : Keep [k, t] w2 W12 := hk11.trans' hs12 (fun x hx => by right; simp at hx; omega)
                have hS12 : KS W12 k t := hS11.keep hs12 (by have := HLT.out; simp; omega) (by have := HLT.out; simp; omega)
                replace hb10 := hb10x
                replace hb9 := hb9.keep hs12 (by simp; omega)
                clear hs12
                apply hK
                clear hK K
                go_simp
                refine wpAny_done (by kernel_rfl) ?_ _
                exact hR.out _ _ _ _ ⟨rfl, rfl, by repeat (first | exact trivial | refine ⟨rfl, ?_⟩)⟩ hn9 hn10 hb9 hb10 hS12 hk12
              exact AllReady.nil
            exact AllReady.nil
          exact AllReady.nil
        refine AllReady.cons rfl (fun K hK => ?_) ?_
        ·
          apply step_wp
          · rfl
          refine ow_alloc _ rfl Z 32 HZI.out ?_
          intro m10 W10 hn10 hb10 hs10
          have hne := hb9.lt
          replace hne : m9 ≠ m10 := by omega
          replace hn10 : w2.heap.size ≤ m10 := by rw [hn10]; exact hk3.size
          have hk10 : Keep [k, t] w2 W10 := hk3.trans0 hs10
          have hS10 : KS W10 k t := hS3.keep0 hs10
          replace hb9 := hb9.keep hs10 (by simp)
          clear hs10
          apply hK
          clear hK K
          go_simp
          refine wpAny_ready (rs := [8]) (by kernel_rfl) (by simp) ?_
          refine AllReady.cons rfl (fun K hK => ?_) ?_
          ·
            apply step_wp
            · rfl
            refine ow_call _ _ _ (by kernel_rfl) (DE _ hk10 hS10) ?_
            rintro e W8 ⟨rfl, hS8, hs8⟩
            refine ⟨_, rfl, ?_⟩
            have hk8 : Keep [k, t] w2 W8 := hk10.trans hs8
            replace hb9 := hb9.keep hs8 (by have := HLT.out; simp; omega)
            replace hb10 := hb10.keep hs8 (by have := HLT.out; simp; omega)
            clear hs8
            apply hK
            clear hK K
            go_simp
            refine wpAny_ready (rs := [11]) (by kernel_rfl) (by simp) ?_
            refine AllReady.cons rfl (fun K hK => ?_) ?_
            ·
              apply step_wp
              · rfl
              refine ow_store _ _ _ rfl m9 DX rfl rfl _ _ hb9 (by rw [HXS.out]; exact secCells) (by rw [HXS.out]; exact HZS.out) HX1.out ?_
              intro W11 hb9x hs11
              have hk11 : Keep [k, t] w2 W11 := hk8.trans' hs11 (fun x hx => by right; simp at hx; omega)
              have hS11 : KS W11 k t := hS8.keep hs11 (by have := HLT.out; simp; omega) (by have := HLT.out; simp; omega)
              replace hb9 := hb9x
              replace hb10 := hb10.keep hs11 (by simp; omega)
              clear hs11
              apply hK
              clear hK K
              go_simp
              refine wpAny_ready (rs := [12]) (by kernel_rfl) (by simp) ?_
              refine AllReady.cons rfl (fun K hK => ?_) ?_
              ·
                apply step_wp
                · rfl
                refine ow_store _ _ _ rfl m10 DD rfl rfl _ _ hb10 (by rw [HDS.out]; exact secCells) (by rw [HDS.out]; exact HZS.out) HD1.out ?_
                intro W12 hb10x hs12
                have hk12 : Keep [k, t] w2 W12 := hk11.trans' hs12 (fun x hx => by right; simp at hx; omega)
                have hS12 : KS W12 k t := hS11.keep hs12 (by have := HLT.out; simp; omega) (by have := HLT.out; simp; omega)
                replace hb10 := hb10x
                replace hb9 := hb9.keep hs12 (by simp; omega)
                clear hs12
                apply hK
                clear hK K
                go_simp
                refine wpAny_done (by kernel_rfl) ?_ _
                exact hR.out _ _ _ _ ⟨rfl, rfl, by repeat (first | exact trivial | refine ⟨rfl, ?_⟩)⟩ hn9 hn10 hb9 hb10 hS12 hk12
              exact AllReady.nil
            exact AllReady.nil
          exact AllReady.nil
        exact AllReady.nil
      refine AllReady.cons rfl (fun K hK => ?_) ?_
      ·
        apply step_wp
        · rfl
        refine ow_alloc _ rfl Z 32 HZI.out ?_
        intro m10 W10 hn10 hb10 hs10
        have hne := hb9.lt
        replace hne : m9 ≠ m10 := by omega
        replace hn10 : w2.heap.size ≤ m10 := by rw [hn10]; exact hk9.size
        have hk10 : Keep [] w2 W10 := hk9.trans0 hs10
        have hS10 : KS W10 k t := hS9.keep0 hs10
        replace hb9 := hb9.keep hs10 (by simp)
        clear hs10
        apply hK
        clear hK K
        go_simp
        refine wpAny_ready (rs := [3]) (by kernel_rfl) (by simp) ?_
        refine AllReady.cons rfl (fun K hK => ?_) ?_
        ·
          apply step_wp
          · rfl
          refine ow_call _ _ _ (by kernel_rfl) (EX _ hk10 hS10) ?_
          rintro e W3 ⟨rfl, hS3, hs3⟩
          refine ⟨_, rfl, ?_⟩
          have hk3 : Keep [k, t] w2 W3 := hk10.more0.trans hs3
          replace hb9 := hb9.keep hs3 (by have := HLT.out; simp; omega)
          replace hb10 := hb10.keep hs3 (by have := HLT.out; simp; omega)
          clear hs3
          apply hK
          clear hK K
          go_simp
          refine wpAny_ready (rs := [8]) (by kernel_rfl) (by simp) ?_
          refine AllReady.cons rfl (fun K hK => ?_) ?_
          ·
            apply step_wp
            · rfl
            refine ow_call _ _ _ (by kernel_rfl) (DE _ hk3 hS3) ?_
            rintro e W8 ⟨rfl, hS8, hs8⟩
            refine ⟨_, rfl, ?_⟩
            have hk8 : Keep [k, t] w2 W8 := hk3.trans hs8
            replace hb9 := hb9.keep hs8 (by have := HLT.out; simp; omega)
            replace hb10 := hb10.keep hs8 (by have := HLT.out; simp; omega)
            clear hs8
            apply hK
            clear hK K
            go_simp
            refine wpAny_ready (rs := [11]) (by kernel_rfl) (by simp) ?_
            refine AllReady.cons rfl (fun K hK => ?_) ?_
            ·
              apply step_wp
              · rfl
              refine ow_store _ _ _ rfl m9 DX rfl rfl _ _ hb9 (by rw [HXS.out]; exact secCells) (by rw [HXS.out]; exact HZS.out) HX1.out ?_
              intro W11 hb9x hs11
              have hk11 : Keep [k, t] w2 W11 := hk8.trans' hs11 (fun x hx => by right; simp at hx; omega)
              have hS11 : KS W11 k t := hS8.keep hs11 (by have := HLT.out; simp; omega) (by have := HLT.out; simp; omega)
              replace hb9 := hb9x
              replace hb10 := hb10.keep hs11 (by simp; omega)
              clear hs11
              apply hK
              clear hK K
              go_simp
              refine wpAny_ready (rs := [12]) (by kernel_rfl) (by simp) ?_
              refine AllReady.cons rfl (fun K hK => ?_) ?_
              ·
                apply step_wp
                · rfl
                refine ow_store _ _ _ rfl m10 DD rfl rfl _ _ hb10 (by rw [HDS.out]; exact secCells) (by rw [HDS.out]; exact HZS.out) HD1.out ?_
                intro W12 hb10x hs12
                have hk12 : Keep [k, t] w2 W12 := hk11.trans' hs12 (fun x hx => by right; simp at hx; omega)
                have hS12 : KS W12 k t := hS11.keep hs12 (by have := HLT.out; simp; omega) (by have := HLT.out; simp; omega)
                replace hb10 := hb10x
                replace hb9 := hb9.keep hs12 (by simp; omega)
                clear hs12
                apply hK
                clear hK K
                go_simp
                refine wpAny_done (by kernel_rfl) ?_ _
                exact hR.out _ _ _ _ ⟨rfl, rfl, by repeat (first | exact trivial | refine ⟨rfl, ?_⟩)⟩ hn9 hn10 hb9 hb10 hS12 hk12
              exact AllReady.nil
            exact AllReady.nil
          exact AllReady.nil
        exact AllReady.nil
      exact AllReady.nil
    refine AllReady.cons rfl (fun K hK => ?_) ?_
    ·
      apply step_wp
      · rfl
      refine ow_alloc _ rfl Z 32 HZI.out ?_
      intro m10 W10 hn10 hb10 hs10
      have hne := hb9.lt
      replace hne : m9 ≠ m10 := by omega
      replace hn10 : w2.heap.size ≤ m10 := by rw [hn10]; exact hk9.size
      have hk10 : Keep [] w2 W10 := hk9.trans0 hs10
      have hS10 : KS W10 k t := hS9.keep0 hs10
      replace hb9 := hb9.keep hs10 (by simp)
      clear hs10
      apply hK
      clear hK K
      go_simp
      refine wpAny_ready (rs := [3, 5]) (by kernel_rfl) (by simp) ?_
      refine AllReady.cons rfl (fun K hK => ?_) ?_
      ·
        apply step_wp
        · rfl
        refine ow_call _ _ _ (by kernel_rfl) (EX _ hk10 hS10) ?_
        rintro e W3 ⟨rfl, hS3, hs3⟩
        refine ⟨_, rfl, ?_⟩
        have hk3 : Keep [k, t] w2 W3 := hk10.more0.trans hs3
        replace hb9 := hb9.keep hs3 (by have := HLT.out; simp; omega)
        replace hb10 := hb10.keep hs3 (by have := HLT.out; simp; omega)
        clear hs3
        apply hK
        clear hK K
        go_simp
        refine wpAny_ready (rs := [5]) (by kernel_rfl) (by simp) ?_
        refine AllReady.cons rfl (fun K hK => ?_) ?_
        ·
          apply step_wp
          · rfl
          refine ow_load _ _ rfl g0 rfl 32 5 Try.underlying23 _ D0 (LD _ hk3) (by rw [H0S.out]; exact secCells) ?_
          apply hK
          clear hK K
          go_simp
          refine wpAny_ready (rs := [8]) (by kernel_rfl) (by simp) ?_
          refine AllReady.cons rfl (fun K hK => ?_) ?_
          ·
            apply step_wp
            · rfl
            refine ow_call _ _ _ (by kernel_rfl) (DE _ hk3 hS3) ?_
            rintro e W8 ⟨rfl, hS8, hs8⟩
            refine ⟨_, rfl, ?_⟩
            have hk8 : Keep [k, t] w2 W8 := hk3.trans hs8
            replace hb9 := hb9.keep hs8 (by have := HLT.out; simp; omega)
            replace hb10 := hb10.keep hs8 (by have := HLT.out; simp; omega)
            clear hs8
            apply hK
            clear hK K
            go_simp
            refine wpAny_ready (rs := [11]) (by kernel_rfl) (by simp) ?_
            refine AllReady.cons rfl (fun K hK => ?_) ?_
            ·
              apply step_wp
              · rfl
              refine ow_store _ _ _ rfl m9 DX rfl rfl _ _ hb9 (by rw [HXS.out]; exact secCells) (by rw [HXS.out]; exact HZS.out) HX1.out ?_
              intro W11 hb9x hs11
              have hk11 : Keep [k, t] w2 W11 := hk8.trans' hs11 (fun x hx => by right; simp at hx; omega)
              have hS11 : KS W11 k t := hS8.keep hs11 (by have := HLT.out; simp; omega) (by have := HLT.out; simp; omega)
              replace hb9 := hb9x
              replace hb10 := hb10.keep hs11 (by simp; omega)
              clear hs11
              apply hK
              clear hK K
              go_simp
              refine wpAny_ready (rs := [12]) (by kernel_rfl) (by simp) ?_
              refine AllReady.cons rfl (fun K hK => ?_) ?_
              ·
                apply step_wp
                · rfl
                refine ow_store _ _ _ rfl m10 DD rfl rfl _ _ hb10 (by rw [HDS.out]; exact secCells) (by rw [HDS.out]; exact HZS.out) HD1.out ?_
                intro W12 hb10x hs12
                have hk12 : Keep [k, t] w2 W12 := hk11.trans' hs12 (fun x hx => by right; simp at hx; omega)
                have hS12 : KS W12 k t := hS11.keep hs12 (by have := HLT.out; simp; omega) (by have := HLT.out; simp; omega)
                replace hb10 := hb10x
                replace hb9 := hb9.keep hs12 (by simp; omega)
                clear hs12
                apply hK
                clear hK K
                go_simp
                refine wpAny_done (by kernel_rfl) ?_ _
                exact hR.out _ _ _ _ ⟨rfl, rfl, by repeat (first | exact trivial | refine ⟨rfl, ?_⟩)⟩ hn9 hn10 hb9 hb10 hS12 hk12
              exact AllReady.nil
            exact AllReady.nil
          exact AllReady.nil
        exact AllReady.nil
      refine AllReady.cons rfl (fun K hK => ?_) ?_
      ·
        apply step_wp
        · rfl
        refine ow_load _ _ rfl g0 rfl 32 5 Try.underlying23 _ D0 (LD _ hk10.more0) (by rw [H0S.out]; exact secCells) ?_
        apply hK
        clear hK K
        go_simp
        refine wpAny_ready (rs := [3]) (by kernel_rfl) (by simp) ?_
        refine AllReady.cons rfl (fun K hK => ?_) ?_
        ·
          apply step_wp
          · rfl
          refine ow_call _ _ _ (by kernel_rfl) (EX _ hk10 hS10) ?_
          rintro e W3 ⟨rfl, hS3, hs3⟩
          refine ⟨_, rfl, ?_⟩
          have hk3 : Keep [k, t] w2 W3 := hk10.more0.trans hs3
          replace hb9 := hb9.keep hs3 (by have := HLT.out; simp; omega)
          replace hb10 := hb10.keep hs3 (by have := HLT.out; simp; omega)
          clear hs3
          apply hK
          clear hK K
          go_simp
          refine wpAny_ready (rs := [8]) (by kernel_rfl) (by simp) ?_
          refine AllReady.cons rfl (fun K hK => ?_) ?_
          ·
            apply step_wp
            · rfl
            refine ow_call _ _ _ (by kernel_rfl) (DE _ hk3 hS3) ?_
            rintro e W8 ⟨rfl, hS8, hs8⟩
            refine ⟨_, rfl, ?_⟩
            have hk8 : Keep [k, t] w2 W8 := hk3.trans hs8
            replace hb9 := hb9.keep hs8 (by have := HLT.out; simp; omega)
            replace hb10 := hb10.keep hs8 (by have := HLT.out; simp; omega)
            clear hs8
            apply hK
            clear hK K
            go_simp
            refine wpAny_ready (rs := [11]) (by kernel_rfl) (by simp) ?_
            refine AllReady.cons rfl (fun K hK => ?_) ?_
            ·
              apply step_wp
              · rfl
              refine ow_store _ _ _ rfl m9 DX rfl rfl _ _ hb9 (by rw [HXS.out]; exact secCells) (by rw [HXS.out]; exact HZS.out) HX1.out ?_
              intro W11 hb9x hs11
              have hk11 : Keep [k, t] w2 W11 := hk8.trans' hs11 (fun x hx => by right; simp at hx; omega)
              have hS11 : KS W11 k t := hS8.keep hs11 (by have := HLT.out; simp; omega) (by have := HLT.out; simp; omega)
              replace hb9 := hb9x
              replace hb10 := hb10.keep hs11 (by simp; omega)
              clear hs11
              apply hK
              clear hK K
              go_simp
              refine wpAny_ready (rs := [12]) (by kernel_rfl) (by simp) ?_
              refine AllReady.cons rfl (fun K hK => ?_) ?_
              ·
                apply step_wp
                · rfl
                refine ow_store _ _ _ rfl m10 DD rfl rfl _ _ hb10 (by rw [HDS.out]; exact secCells) (by rw [HDS.out]; exact HZS.out) HD1.out ?_
                intro W12 hb10x hs12
                have hk12 : Keep [k, t] w2 W12 := hk11.trans' hs12 (fun x hx => by right; simp at hx; omega)
                have hS12 : KS W12 k t := hS11.keep hs12 (by have := HLT.out; simp; omega) (by have := HLT.out; simp; omega)
                replace hb10 := hb10x
                replace hb9 := hb9.keep hs12 (by simp; omega)
                clear hs12
                apply hK
                clear hK K
                go_simp
                refine wpAny_done (by kernel_rfl) ?_ _
                exact hR.out _ _ _ _ ⟨rfl, rfl, by repeat (first | exact trivial | refine ⟨rfl, ?_⟩)⟩ hn9 hn10 hb9 hb10 hS12 hk12
              exact AllReady.nil
            exact AllReady.nil
          exact AllReady.nil
        exact AllReady.nil
      exact AllReady.nil
    exact AllReady.nil
  refine AllReady.cons rfl (fun K hK => ?_) ?_
  ·
    apply step_wp
    · rfl
    refine ow_alloc _ rfl Z 32 HZI.out ?_
    intro m10 W10 hn10 hb10 hs10
    replace hn10 : w2.heap.size ≤ m10 := by rw [hn10]; exact hk0.size
    have hk10 : Keep [] w2 W10 := hk0.trans0 hs10
    have hS10 : KS W10 k t := hS0.keep0 hs10
    clear hs10
    apply hK
    clear hK K
    go_simp
    refine wpAny_ready (rs := [3, 5, 9]) (by kernel_rfl) (by simp) ?_
    refine AllReady.cons rfl (fun K hK => ?_) ?_
    ·
      apply step_wp
      · rfl
      refine ow_call _ _ _ (by kernel_rfl) (EX _ hk10 hS10) ?_
      rintro e W3 ⟨rfl, hS3, hs3⟩
      refine ⟨_, rfl, ?_⟩
      have hk3 : Keep [k, t] w2 W3 := hk10.more0.trans hs3
      replace hb10 := hb10.keep hs3 (by have := HLT.out; simp; omega)
      clear hs3
      apply hK
      clear hK K
      go_simp
      refine wpAny_ready (rs := [5, 9]) (by kernel_rfl) (by simp) ?_
      refine AllReady.cons rfl (fun K hK => ?_) ?_
      ·
        apply step_wp
        · rfl
        refine ow_load _ _ rfl g0 rfl 32 5 Try.underlying23 _ D0 (LD _ hk3) (by rw [H0S.out]; exact secCells) ?_
        apply hK
        clear hK K
        go_simp
        refine wpAny_ready (rs := [8, 9]) (by kernel_rfl) (by simp) ?_
        refine AllReady.cons rfl (fun K hK => ?_) ?_
        ·
          apply step_wp
          · rfl
          refine ow_call _ _ _ (by kernel_rfl) (DE _ hk3 hS3) ?_
          rintro e W8 ⟨rfl, hS8, hs8⟩
          refine ⟨_, rfl, ?_⟩
          have hk8 : Keep [k, t] w2 W8 := hk3.trans hs8
          replace hb10 := hb10.keep hs8 (by have := HLT.out; simp; omega)
          clear hs8
          apply hK
          clear hK K
          go_simp
          refine wpAny_ready (rs := [9]) (by kernel_rfl) (by simp) ?_
          refine AllReady.cons rfl (fun K hK => ?_) ?_
          ·
            apply step_wp
            · rfl
            refine ow_alloc _ rfl Z 32 HZI.out ?_
            intro m9 W9 hn9 hb9 hs9
            have hne := hb10.lt
            replace hne : m10 ≠ m9 := by omega
            replace hn9 : w2.heap.size ≤ m9 := by rw [hn9]; exact hk8.size
            have hk9 : Keep [k, t] w2 W9 := hk8.trans0 hs9
            have hS9 : KS W9 k t := hS8.keep0 hs9
            replace hb10 := hb10.keep hs9 (by simp)
            clear hs9
            apply hK
            clear hK K
            go_simp
            refine wpAny_ready (rs := [11]) (by kernel_rfl) (by simp) ?_
            refine AllReady.cons rfl (fun K hK => ?_) ?_
            ·
              apply step_wp
              · rfl
              refine ow_store _ _ _ rfl m9 DX rfl rfl _ _ hb9 (by rw [HXS.out]; exact secCells) (by rw [HXS.out]; exact HZS.out) HX1.out ?_
              intro W11 hb9x hs11
              have hk11 : Keep [k, t] w2 W11 := hk9.trans' hs11 (fun x hx => by right; simp at hx; omega)
              have hS11 : KS W11 k t := hS9.keep hs11 (by have := HLT.out; simp; omega) (by have := HLT.out; simp; omega)
              replace hb9 := hb9x
              replace hb10 := hb10.keep hs11 (by simp; omega)
              clear hs11
              apply hK
              clear hK K
              go_simp
              refine wpAny_ready (rs := [12]) (by kernel_rfl) (by simp) ?_
              refine AllReady.cons rfl (fun K hK => ?_) ?_
              ·
                apply step_wp
                · rfl
                refine ow_store _ _ _ rfl m10 DD rfl rfl _ _ hb10 (by rw [HDS.out]; exact secCells) (by rw [HDS.out]; exact HZS.out) HD1.out ?_
                intro W12 hb10x hs12
                have hk12 : Keep [k, t] w2 W12 := hk11.trans' hs12 (fun x hx => by right; simp at hx; omega)
                have hS12 : KS W12 k t := hS11.keep hs12 (by have := HLT.out; simp; omega) (by have := HLT.out; simp; omega)
                replace hb10 := hb10x
                replace hb9 := hb9.keep hs12 (by simp; omega)
                clear hs12
                apply hK
                clear hK K
                go_simp
                refine wpAny_done (by kernel_rfl) ?_ _
                exact hR.out _ _ _ _ ⟨rfl, rfl, by repeat (first | exact trivial | refine ⟨rfl, ?_⟩)⟩ hn9 hn10 hb9 hb10 hS12 hk12
              exact AllReady.nil
            exact AllReady.nil
          exact AllReady.nil
        refine AllReady.cons rfl (fun K hK => ?_) ?_
        ·
          apply step_wp
          · rfl
          refine ow_alloc _ rfl Z 32 HZI.out ?_
          intro m9 W9 hn9 hb9 hs9
          have hne := hb10.lt
          replace hne : m10 ≠ m9 := by omega
          replace hn9 : w2.heap.size ≤ m9 := by rw [hn9]; exact hk3.size
          have hk9 : Keep [k, t] w2 W9 := hk3.trans0 hs9
          have hS9 : KS W9 k t := hS3.keep0 hs9
          replace hb10 := hb10.keep hs9 (by simp)
          clear hs9
          apply hK
          clear hK K
          go_simp
          refine wpAny_ready (rs := [8]) (by kernel_rfl) (by simp) ?_
          refine AllReady.cons rfl (fun K hK => ?_) ?_
          ·
            apply step_wp
            · rfl
            refine ow_call _ _ _ (by kernel_rfl) (DE _ hk9 hS9) ?_
            rintro e W8 ⟨rfl, hS8, hs8⟩
            refine ⟨_, rfl, ?_⟩
            have hk8 : Keep [k, t] w2 W8 := hk9.trans hs8
            replace hb10 := hb10.keep hs8 (by have := HLT.out; simp; omega)
            replace hb9 := hb9.keep hs8 (by have := HLT.out; simp; omega)
            clear hs8
            apply hK
            clear hK K
            go_simp
            refine wpAny_ready (rs := [11]) (by kernel_rfl) (by simp) ?_
            refine AllReady.cons rfl (fun K hK => ?_) ?_
            ·
              apply step_wp
              · rfl
              refine ow_store _ _ _ rfl m9 DX rfl rfl _ _ hb9 (by rw [HXS.out]; exact secCells) (by rw [HXS.out]; exact HZS.out) HX1.out ?_
              intro W11 hb9x hs11
              have hk11 : Keep [k, t] w2 W11 := hk8.trans' hs11 (fun x hx => by right; simp at hx; omega)
              have hS11 : KS W11 k t := hS8.keep hs11 (by have := HLT.out; simp; omega) (by have := HLT.out; simp; omega)
              replace hb9 := hb9x
              replace hb10 := hb10.keep hs11 (by simp; omega)
              clear hs11
              apply hK
              clear hK K
              go_simp
              refine wpAny_ready (rs := [12]) (by kernel_rfl) (by simp) ?_
              refine AllReady.cons rfl (fun K hK => ?_) ?_
              ·
                apply step_wp
                · rfl
                refine ow_store _ _ _ rfl m10 DD rfl rfl _ _ hb10 (by rw [HDS.out]; exact secCells) (by rw [HDS.out]; exact HZS.out) HD1.out ?_
                intro W12 hb10x hs12
                have hk12 : Keep [k, t] w2 W12 := hk11.trans' hs12 (fun x hx => by right; simp at hx; omega)
                have hS12 : KS W12 k t := hS11.keep hs12 (by have := HLT.out; simp; omega) (by have := HLT.out; simp; omega)
                replace hb10 := hb10x
                replace hb9 := hb9.keep hs12 (by simp; omega)
                clear hs12
                apply hK
                clear hK K
                go_simp
                refine wpAny_done (by kernel_rfl) ?_ _
                exact hR.out _ _ _ _ ⟨rfl, rfl, by repeat (first | exact trivial | refine ⟨rfl, ?_⟩)⟩ hn9 hn10 hb9 hb10 hS12 hk12
              exact AllReady.nil
            exact AllReady.nil
          exact AllReady.nil
        exact AllReady.nil
      refine AllReady.cons rfl (fun K hK => ?_) ?_
      ·
        apply step_wp
        · rfl
        refine ow_alloc _ rfl Z 32 HZI.out ?_
        intro m9 W9 hn9 hb9 hs9
        have hne := hb10.lt
        replace hne : m10 ≠ m9 := by omega
        replace hn9 : w2.heap.size ≤ m9 := by rw [hn9]; exact hk3.size
        have hk9 : Keep [k, t] w2 W9 := hk3.trans0 hs9
        have hS9 : KS W9 k t := hS3.keep0 hs9
        replace hb10 := hb10.keep hs9 (by simp)
        clear hs9
        apply hK
        clear hK K
        go_simp
        refine wpAny_ready (rs := [5]) (by kernel_rfl) (by simp) ?_
        refine AllReady.cons rfl (fun K hK => ?_) ?_
        ·
          apply step_wp
          · rfl
          refine ow_load _ _ rfl g0 rfl 32 5 Try.underlying23 _ D0 (LD _ hk9) (by rw [H0S.out]; exact secCells) ?_
          apply hK
          clear hK K
          go_simp
          refine wpAny_ready (rs := [8]) (by kernel_rfl) (by simp) ?_
          refine AllReady.cons rfl (fun K hK => ?_) ?_
          ·
            apply step_wp
            · rfl
            refine ow_call _ _ _ (by kernel_rfl) (DE _ hk9 hS9) ?_
            rintro e W8 ⟨rfl, hS8, hs8⟩
            refine ⟨_, rfl, ?_⟩
            have hk8 : Keep [k, t] w2 W8 := hk9.trans hs8
            replace hb10 := hb10.keep hs8 (by have := HLT.out; simp; omega)
            replace hb9 := hb9.keep hs8 (by have := HLT.out; simp; omega)
            clear hs8
            apply hK
            clear hK K
            go_simp
            refine wpAny_ready (rs := [11]) (by kernel_rfl) (by simp) ?_
            refine AllReady.cons rfl (fun K hK => ?_) ?_
            ·
              apply step_wp
              · rfl
              refine ow_store _ _ _ rfl m9 DX rfl rfl _ _ hb9 (by rw [HXS.out]; exact secCells) (by rw [HXS.out]; exact HZS.out) HX1.out ?_
              intro W11 hb9x hs11
              have hk11 : Keep [k, t] w2 W11 := hk8.trans' hs11 (fun x hx => by right; simp at hx; omega)
              have hS11 : KS W11 k t := hS8.keep hs11 (by have := HLT.out; simp; omega) (by have := HLT.out; simp; omega)
              replace hb9 := hb9x
              replace hb10 := hb10.keep hs11 (by simp; omega)
              clear hs11
              apply hK
              clear hK K
              go_simp
              refine wpAny_ready (rs := [12]) (by kernel_rfl) (by simp) ?_
              refine AllReady.cons rfl (fun K hK => ?_) ?_
              ·
                apply step_wp
                · rfl
                refine ow_store _ _ _ rfl m10 DD rfl rfl _ _ hb10 (by rw [HDS.out]; exact secCells) (by rw [HDS.out]; exact HZS.out) HD1.out ?_
                intro W12 hb10x hs12
                have hk12 : Keep [k, t] w2 W12 := hk11.trans' hs12 (fun x hx => by right; simp at hx; omega)
                have hS12 : KS W12 k t := hS11.keep hs12 (by have := HLT.out; simp; omega) (by have := HLT.out; simp; omega)
                replace hb10 := hb10x
                replace hb9 := hb9.keep hs12 (by simp; omega)
                clear hs12
                apply hK
                clear hK K
                go_simp
                refine wpAny_done (by kernel_rfl) ?_ _
                exact hR.out _ _ _ _ ⟨rfl, rfl, by repeat (first | exact trivial | refine ⟨rfl, ?_⟩)⟩ hn9 hn10 hb9 hb10 hS12 hk12
              exact AllReady.nil
            exact AllReady.nil
          exact AllReady.nil
        exact AllReady.nil
      exact AllReady.nil
    refine AllReady.cons rfl (fun K hK => ?_) ?_
    ·
      apply step_wp
      · rfl
      refine ow_load _ _ rfl g0 rfl 32 5 Try.underlying23 _ D0 (LD _ hk10.more0) (by rw [H0S.out]; exact secCells) ?_
      apply hK
      clear hK K
      go_simp
      refine wpAny_ready (rs := [3, 9]) (by kernel_rfl) (by simp) ?_
      refine AllReady.cons rfl (fun K hK => ?_) ?_
      ·
        apply step_wp
        · rfl
        refine ow_call _ _ _ (by kernel_rfl) (EX _ hk10 hS10) ?_
        rintro e W3 ⟨rfl, hS3, hs3⟩
        refine ⟨_, rfl, ?_⟩
        have hk3 : Keep [k, t] w2 W3 := hk10.more0.trans hs3
        replace hb10 := hb10.keep hs3 (by have := HLT.out; simp; omega)
        clear hs3
        apply hK
        clear hK K
        go_simp
        refine wpAny_ready (rs := [8, 9]) (by kernel_rfl) (by simp) ?_
        refine AllReady.cons rfl (fun K hK => ?_) ?_
        ·
          apply step_wp
          · rfl
          refine ow_call _ _ _ (by kernel_rfl) (DE _ hk3 hS3) ?_
          rintro e W8 ⟨rfl, hS8, hs8⟩
          refine ⟨_, rfl, ?_⟩
          have hk8 : Keep [k, t] w2 W8 := hk3.trans hs8
          replace hb10 := hb10.keep hs8 (by have := HLT.out; simp; omega)
          clear hs8
          apply hK
          clear hK K
          go_simp
          refine wpAny_ready (rs := [9]) (by kernel_rfl) (by simp) ?_
          refine AllReady.cons rfl (fun K hK => ?_) ?_
          ·
            apply step_wp
            · rfl
            refine ow_alloc _ rfl Z 32 HZI.out ?_
            intro m9 W9 hn9 hb9 hs9
            have hne := hb10.lt
            replace hne : m10 ≠ m9 := by omega
            replace hn9 : w2.heap.size ≤ m9 := by rw [hn9]; exact hk8.size
            have hk9 : Keep [k, t] w2 W9 := hk8.trans0 hs9
            have hS9 : KS W9 k t := hS8.keep0 hs9
            replace hb10 := hb10.keep hs9 (by simp)
            clear hs9
            apply hK
            clear hK K
            go_simp
            refine wpAny_ready (rs := [11]) (by kernel_rfl) (by simp) ?_
            refine AllReady.cons rfl (fun K hK => ?_) ?_
            ·
              apply step_wp
              · rfl
              refine ow_store _ _ _ rfl m9 DX rfl rfl _ _ hb9 (by rw [HXS.out]; exact secCells) (by rw [HXS.out]; exact HZS.out) HX1.out ?_
              intro W11 hb9x hs11
              have hk11 : Keep [k, t] w2 W11 := hk9.trans' hs11 (fun x hx => by right; simp at hx; omega)
              have hS11 : KS W11 k t := hS9.keep hs11 (by have := HLT.out; simp; omega) (by have := HLT.out; simp; omega)
              replace hb9 := hb9x
              replace hb10 := hb10.keep hs11 (by simp; omega)
              clear hs11
              apply hK
              clear hK K
              go_simp
              refine wpAny_ready (rs := [12]) (by kernel_rfl) (by simp) ?_
              refine AllReady.cons rfl (fun K hK => ?_) ?_
              ·
                apply step_wp
                · rfl
                refine ow_store _ _ _ rfl m10 DD rfl rfl _ _ hb10 (by rw [HDS.out]; exact secCells) (by rw [HDS.out]; exact HZS.out) HD1.out ?_
                intro W12 hb10x hs12
                have hk12 : Keep [k, t] w2 W12 := hk11.trans' hs12 (fun x hx => by right; simp at hx; omega)
                have hS12 : KS W12 k t := hS11.keep hs12 (by have := HLT.out; simp; omega) (by have := HLT.out; simp; omega)
                replace hb10 := hb10x
                replace hb9 := hb9.keep hs12 (by simp; omega)
                clear hs12
                apply hK
                clear hK K
                go_simp
                refine wpAny_done (by kernel_rfl) ?_ _
                exact hR.out _ _ _ _ ⟨rfl, rfl, by repeat (first | exact trivial | refine ⟨rfl, ?_⟩)⟩ hn9 hn10 hb9 hb10 hS12 hk12
              exact AllReady.nil
            exact AllReady.nil
          exact AllReady.nil
        refine AllReady.cons rfl (fun K hK => ?_) ?_
        ·
          apply step_wp
          · rfl
          refine ow_alloc _ rfl Z 32 HZI.out ?_
          intro m9 W9 hn9 hb9 hs9
          have hne := hb10.lt
          replace hne : m10 ≠ m9 := by omega
          replace hn9 : w2.heap.size ≤ m9 := by rw [hn9]; exact hk3.size
          have hk9 : Keep [k, t] w2 W9 := hk3.trans0 hs9
          have hS9 : KS W9 k t := hS3.keep0 hs9
          replace hb10 := hb10.keep hs9 (by simp)
          clear hs9
          apply hK
          clear hK K
          go_simp
          refine wpAny_ready (rs := [8]) (by kernel_rfl) (by simp) ?_
          refine AllReady.cons rfl (fun K hK => ?_) ?_
          ·
            apply step_wp
            · rfl
            refine ow_call _ _ _ (by kernel_rfl) (DE _ hk9 hS9) ?_
            rintro e W8 ⟨rfl, hS8, hs8⟩
            refine ⟨_, rfl, ?_⟩
            have hk8 : Keep [k, t] w2 W8 := hk9.trans hs8
            replace hb10 := hb10.keep hs8 (by have := HLT.out; simp; omega)
            replace hb9 := hb9.keep hs8 (by have := HLT.out; simp; omega)
            clear hs8
            apply hK
            clear hK K
            go_simp
            refine wpAny_ready (rs := [11]) (by kernel_rfl) (by simp) ?_
            refine AllReady.cons rfl (fun K hK => ?_) ?_
            ·
              apply step_wp
              · rfl
              refine ow_store _ _ _ rfl m9 DX rfl rfl _ _ hb9 (by rw [HXS.out]; exact secCells) (by rw [HXS.out]; exact HZS.out) HX1.out ?_
              intro W11 hb9x hs11
              have hk11 : Keep [k, t] w2 W11 := hk8.trans' hs11 (fun x hx => by right; simp at hx; omega)
              have hS11 : KS W11 k t := hS8.keep hs11 (by have := HLT.out; simp; omega) (by have := HLT.out; simp; omega)
              replace hb9 := hb9x
              replace hb10 := hb10.keep hs11 (by simp; omega)
              clear hs11
              apply hK
              clear hK K
              go_simp
              refine wpAny_ready (rs := [12]) (by kernel_rfl) (by simp) ?_
              refine AllReady.cons rfl (fun K hK => ?_) ?_
              ·
                apply step_wp
                · rfl
                refine ow_store _ _ _ rfl m10 DD rfl rfl _ _ hb10 (by rw [HDS.out]; exact secCells) (by rw [HDS.out]; exact HZS.out) HD1.out ?_
                intro W12 hb10x hs12
                have hk12 : Keep [k, t] w2 W12 := hk11.trans' hs12 (fun x hx => by right; simp at hx; omega)
                have hS12 : KS W12 k t := hS11.keep hs12 (by have := HLT.out; simp; omega) (by have := HLT.out; simp; omega)
                replace hb10 := hb10x
                replace hb9 := hb9.keep hs12 (by simp; omega)
                clear hs12
                apply hK
                clear hK K
                go_simp
                refine wpAny_done (by kernel_rfl) ?_ _
                exact hR.out _ _ _ _ ⟨rfl, rfl, by repeat (first | exact trivial | refine ⟨rfl, ?_⟩)⟩ hn9 hn10 hb9 hb10 hS12 hk12
              exact AllReady.nil
            exact AllReady.nil
          exact AllReady.nil
        exact AllReady.nil
      refine AllReady.cons rfl (fun K hK => ?_) ?_
      ·
        apply step_wp
        · rfl
        refine ow_alloc _ rfl Z 32 HZI.out ?_
        intro m9 W9 hn9 hb9 hs9
        have hne := hb10.lt
        replace hne : m10 ≠ m9 := by omega
        replace hn9 : w2.heap.size ≤ m9 := by rw [hn9]; exact hk10.size
        have hk9 : Keep [] w2 W9 := hk10.trans0 hs9
        have hS9 : KS W9 k t := hS10.keep0 hs9
        replace hb10 := hb10.keep hs9 (by simp)
        clear hs9
        apply hK
        clear hK K
        go_simp
        refine wpAny_ready (rs := [3]) (by kernel_rfl) (by simp) ?_
        refine AllReady.cons rfl (fun K hK => ?_) ?_
        ·
          apply step_wp
          · rfl
          refine ow_call _ _ _ (by kernel_rfl) (EX _ hk9 hS9) ?_
          rintro e W3 ⟨rfl, hS3, hs3⟩
          refine ⟨_, rfl, ?_⟩
          have hk3 : Keep [k, t] w2 W3 := hk9.more0.trans hs3
          replace hb10 := hb10.keep hs3 (by have := HLT.out; simp; omega)
          replace hb9 := hb9.keep hs3 (by have := HLT.out; simp; omega)
          clear hs3
          apply hK
          clear hK K
          go_simp
          refine wpAny_ready (rs := [8]) (by kernel_rfl) (by simp) ?_
          refine AllReady.cons rfl (fun K hK => ?_) ?_
          ·
            apply step_wp
            · rfl
            refine ow_call _ _ _ (by kernel_rfl) (DE _ hk3 hS3) ?_
            rintro e W8 ⟨rfl, hS8, hs8⟩
            refine ⟨_, rfl, ?_⟩
            have hk8 : Keep [k, t] w2 W8 := hk3.trans hs8
            replace hb10 := hb10.keep hs8 (by have := HLT.out; simp; omega)
            replace hb9 := hb9.keep hs8 (by have := HLT.out; simp; omega)
            clear hs8
            apply hK
            clear hK K
            go_simp
            refine wpAny_ready (rs := [11]) (by kernel_rfl) (by simp) ?_
            refine AllReady.cons rfl (fun K hK => ?_) ?_
            ·
              apply step_wp
              · rfl
              refine ow_store _ _ _ rfl m9 DX rfl rfl _ _ hb9 (by rw [HXS.out]; exact secCells) (by rw [HXS.out]; exact HZS.out) HX1.out ?_
              intro W11 hb9x hs11
              have hk11 : Keep [k, t] w2 W11 := hk8.trans' hs11 (fun x hx => by right; simp at hx; omega)
              have hS11 : KS W11 k t := hS8.keep hs11 (by have := HLT.out; simp; omega) (by have := HLT.out; simp; omega)
              replace hb9 := hb9x
              replace hb10 := hb10.keep hs11 (by simp; omega)
              clear hs11
              apply hK
              clear hK K
              go_simp
              refine wpAny_ready (rs := [12]) (by kernel_rfl) (by simp) ?_
              refine AllReady.cons rfl (fun K hK => ?_) ?_
              ·
                apply step_wp
                · rfl
                refine ow_store _ _ _ rfl m10 DD rfl rfl _ _ hb10 (by rw [HDS.out]; exact secCells) (by rw [HDS.out]; exact HZS.out) HD1.out ?_
                intro W12 hb10x hs12
                have hk12 : Keep [k, t] w2 W12 := hk11.trans' hs12 (fun x hx => by right; simp at hx; omega)
                have hS12 : KS W12 k t := hS11.keep hs12 (by have := HLT.out; simp; omega) (by have := HLT.out; simp; omega)
                replace hb10 := hb10x
                replace hb9 := hb9.keep hs12 (by simp; omega)
                clear hs12
                apply hK
                clear hK K
                go_simp
                refine wpAny_done (by kernel_rfl) ?_ _
                exact hR.out _ _ _ _ ⟨rfl, rfl, by repeat (first | exact trivial | refine ⟨rfl, ?_⟩)⟩ hn9 hn10 hb9 hb10 hS12 hk12
              exact AllReady.nil
            exact AllReady.nil
          exact AllReady.nil
        exact AllReady.nil
      exact AllReady.nil
    refine AllReady.cons rfl (fun K hK => ?_) ?_
    ·
      apply step_wp
      · rfl
      refine ow_alloc _ rfl Z 32 HZI.out ?_
      intro m9 W9 hn9 hb9 hs9
      have hne := hb10.lt
      replace hne : m10 ≠ m9 := by omega
      replace hn9 : w2.heap.size ≤ m9 := by rw [hn9]; exact hk10.size
      have hk9 : Keep [] w2 W9 := hk10.trans0 hs9
      have hS9 : KS W9 k t := hS10.keep0 hs9
      replace hb10 := hb10.keep hs9 (by simp)
      clear hs9
      apply hK
      clear hK K
      go_simp
      refine wpAny_ready (rs := [3, 5]) (by kernel_rfl) (by simp) ?_
      refine AllReady.cons rfl (fun K hK => ?_) ?_
      ·
        apply step_wp
        · rfl
        refine ow_call _ _ _ (by kernel_rfl) (EX _ hk9 hS9) ?_
        rintro e W3 ⟨rfl, hS3, hs3⟩
        refine ⟨_, rfl, ?_⟩
        have hk3 : Keep [k, t] w2 W3 := hk9.more0.trans hs3
        replace hb10 := hb10.keep hs3 (by have := HLT.out; simp; omega)
        replace hb9 := hb9.keep hs3 (by have := HLT.out; simp; omega)
        clear hs3
        apply hK
        clear hK K
        go_simp
        refine wpAny_ready (rs := [5]) (by kernel_rfl) (by simp) ?_
        refine AllReady.cons rfl (fun K hK => ?_) ?_
        ·
          apply step_wp
          · rfl
          refine ow_load _ _ rfl g0 rfl 32 5 Try.underlying23 _ D0 (LD _ hk3) (by rw [H0S.out]; exact secCells) ?_
          apply hK
          clear hK K
          go_simp
          refine wpAny_ready (rs := [8]) (by kernel_rfl) (by simp) ?_
          refine AllReady.cons rfl (fun K hK => ?_) ?_
          ·
            apply step_wp
            · rfl
            refine ow_call _ _ _ (by kernel_rfl) (DE _ hk3 hS3) ?_
            rintro e W8 ⟨rfl, hS8, hs8⟩
            refine ⟨_, rfl, ?_⟩
            have hk8 : Keep [k, t] w2 W8 := hk3.trans hs8
            replace hb10 := hb10.keep hs8 (by have := HLT.out; simp; omega)
            replace hb9 := hb9.keep hs8 (by have := HLT.out; simp; omega)
            clear hs8
            apply hK
            clear hK K
            go_simp
            refine wpAny_ready (rs := [11]) (by kernel_rfl) (by simp) ?_
            refine AllReady.cons rfl (fun K hK => ?_) ?_
            ·
              apply step_wp
              · rfl
              refine ow_store _ _ _ rfl m9 DX rfl rfl _ _ hb9 (by rw [HXS.out]; exact secCells) (by rw [HXS.out]; exact HZS.out) HX1.out ?_
              intro W11 hb9x hs11
              have hk11 : Keep [k, t] w2 W11 := hk8.trans' hs11 (fun x hx => by right; simp at hx; omega)
              have hS11 : KS W11 k t := hS8.keep hs11 (by have := HLT.out; simp; omega) (by have := HLT.out; simp; omega)
              replace hb9 := hb9x
              replace hb10 := hb10.keep hs11 (by simp; omega)
              clear hs11
              apply hK
              clear hK K
              go_simp
              refine wpAny_ready (rs := [12]) (by kernel_rfl) (by simp) ?_
              refine AllReady.cons rfl (fun K hK => ?_) ?_
              ·
                apply step_wp
                · rfl
                refine ow_store _ _ _ rfl m10 DD rfl rfl _ _ hb10 (by rw [HDS.out]; exact secCells) (by rw [HDS.out]; exact HZS.out) HD1.out ?_
                intro W12 hb10x hs12
                have hk12 : Keep [k, t] w2 W12 := hk11.trans' hs12 (fun x hx => by right; simp at hx; omega)
                have hS12 : KS W12 k t := hS11.keep hs12 (by have := HLT.out; simp; omega) (by have := HLT.out; simp; omega)
                replace hb10 := hb10x
                replace hb9 := hb9.keep hs12 (by simp; omega)
                clear hs12
                apply hK
                clear hK K
                go_simp
                refine wpAny_done (by kernel_rfl) ?_ _
                exact hR.out _ _ _ _ ⟨rfl, rfl, by repeat (first | exact trivial | refine ⟨rfl, ?_⟩)⟩ hn9 hn10 hb9 hb10 hS12 hk12
              exact AllReady.nil
            exact AllReady.nil
          exact AllReady.nil
        exact AllReady.nil
      refine AllReady.cons rfl (fun K hK => ?_) ?_
      ·
        apply step_wp
        · rfl
        refine ow_load _ _ rfl g0 rfl 32 5 Try.underlying23 _ D0 (LD _ hk9.more0) (by rw [H0S.out]; exact secCells) ?_
        apply hK
        clear hK K
        go_simp
        refine wpAny_ready (rs := [3]) (by kernel_rfl) (by simp) ?_
        refine AllReady.cons rfl (fun K hK => ?_) ?_
        ·
          apply step_wp
          · rfl
          refine ow_call _ _ _ (by kernel_rfl) (EX _ hk9 hS9) ?_
          rintro e W3 ⟨rfl, hS3, hs3⟩
          refine ⟨_, rfl, ?_⟩
          have hk3 : Keep [k, t] w2 W3 := hk9.more0.trans hs3
          replace hb10 := hb10.keep hs3 (by have := HLT.out; simp; omega)
          replace hb9 := hb9.keep hs3 (by have := HLT.out; simp; omega)
          clear hs3
          apply hK
          clear hK K
          go_simp
          refine wpAny_ready (rs := [8]) (by kernel_rfl) (by simp) ?_
          refine AllReady.cons rfl (fun K hK => ?_) ?_
          ·
            apply step_wp
            · rfl
            refine ow_call _ _ _ (by kernel_rfl) (DE _ hk3 hS3) ?_
            rintro e W8 ⟨rfl, hS8, hs8⟩
            refine ⟨_, rfl, ?_⟩
            have hk8 : Keep [k, t] w2 W8 := hk3.trans hs8
            replace hb10 := hb10.keep hs8 (by have := HLT.out; simp; omega)
            replace hb9 := hb9.keep hs8 (by have := HLT.out; simp; omega)
            clear hs8
            apply hK
            clear hK K
            go_simp
            refine wpAny_ready (rs := [11]) (by kernel_rfl) (by simp) ?_
            refine AllReady.cons rfl (fun K hK => ?_) ?_
            ·
              apply step_wp
              · rfl
              refine ow_store _ _ _ rfl m9 DX rfl rfl _ _ hb9 (by rw [HXS.out]; exact secCells) (by rw [HXS.out]; exact HZS.out) HX1.out ?_
              intro W11 hb9x hs11
              have hk11 : Keep [k, t] w2 W11 := hk8.trans' hs11 (fun x hx => by right; simp at hx; omega)
              have hS11 : KS W11 k t := hS8.keep hs11 (by have := HLT.out; simp; omega) (by have := HLT.out; simp; omega)
              replace hb9 := hb9x
              replace hb10 := hb10.keep hs11 (by simp; omega)
              clear hs11
              apply hK
              clear hK K
              go_simp
              refine wpAny_ready (rs := [12]) (by kernel_rfl) (by simp) ?_
              refine AllReady.cons rfl (fun K hK => ?_) ?_
              ·
                apply step_wp
                · rfl
                refine ow_store _ _ _ rfl m10 DD rfl rfl _ _ hb10 (by rw [HDS.out]; exact secCells) (by rw [HDS.out]; exact HZS.out) HD1.out ?_
                intro W12 hb10x hs12
                have hk12 : Keep [k, t] w2 W12 := hk11.trans' hs12 (fun x hx => by right; simp at hx; omega)
                have hS12 : KS W12 k t := hS11.keep hs12 (by have := HLT.out; simp; omega) (by have := HLT.out; simp; omega)
                replace hb10 := hb10x
                replace hb9 := hb9.keep hs12 (by simp; omega)
                clear hs12
                apply hK
                clear hK K
                go_simp
                refine wpAny_done (by kernel_rfl) ?_ _
                exact hR.out _ _ _ _ ⟨rfl, rfl, by repeat (first | exact trivial | refine ⟨rfl, ?_⟩)⟩ hn9 hn10 hb9 hb10 hS12 hk12
              exact AllReady.nil
            exact AllReady.nil
          exact AllReady.nil
        exact AllReady.nil
      exact AllReady.nil
    exact AllReady.nil
  exact AllReady.nil

end Go.Proofs.Ytiiifcfgfmoiaaa
