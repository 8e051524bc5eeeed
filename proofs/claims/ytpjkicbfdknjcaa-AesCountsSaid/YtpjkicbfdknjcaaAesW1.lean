/-
  A key made, a block turned: the drawn regions of Awake and AesTurns.
-/
import Derived.Test.YtpjkicbfdknjcaaAesLaw
import Derived.Test.YtpjkicbfdknjcaaOpens7
namespace Go.Proofs.Ytpjkicbfdknjcaa
open Go.RowKit

noncomputable def hawk5 : Code := regionOf Try.f7 7
set_option maxRecDepth 100000 in
set_option maxHeartbeats 8000000 in
theorem awk5_reg (hN : ANewC) (hK : AKeyC) (hT : ATurnC) (R : Act → World → Prop) (a : Act) (w2 : World) (K B : Nat) (kl bl : List Int) (DK DB DT : Array Value) (hkl : B16 kl) (hbl : B16 bl) (hDK : Hid (DK = (kl.map (Value.int .u8)).toArray)) (hDB : Hid (DB = (bl.map (Value.int .u8)).toArray)) (hDT : Hid (DT = ((Aes.turn kl bl).map (Value.int .u8)).toArray))
    (hBK : Hid (Blk w2 K 29 DK)) (hBB : Hid (Blk w2 B 29 DB))
    (hF : Fr 36 [(1, .pointer (some ⟨K, 0, none⟩)), (2, .pointer (some ⟨B, 0, none⟩))] a)
    (hR : Hid (∀ a' w' m, Fr 36 [(1, .pointer (some ⟨K, 0, none⟩)), (2, .pointer (some ⟨B, 0, none⟩)), (4, .pointer (some ⟨m, 0, none⟩))] a' → w2.heap.size ≤ m → Blk w' m 29 DT → Keep [] w2 w' → R a' w')) :
    Code.wp Try.prog hawk5 (OutN R) a w2 := by
  obtain ⟨Z, hZ, hZs, hZi⟩ := blk16
  have HZS := Lib.hid hZs
  have HZI := Lib.hid hZi
  have HDK := Lib.hid (show DK.size = 16 by rw [hDK.out]; simp [hkl.1])
  have HDB := Lib.hid (show DB.size = 16 by rw [hDB.out]; simp [hbl.1])
  have HDT := Lib.hid (show DT.size = 16 by rw [hDT.out]; simp [Aes.turn_length])
  have HDT1 := Lib.hid (show DT.all (·.oneCell') = true by rw [hDT.out]; exact arr_cell _)
  have LK : ∀ W, Keep [] w2 W → Blk W K 29 DK := fun W h => hBK.out.keep h (by simp)
  have LB : ∀ W, Keep [] w2 W → Blk W B 29 DB := fun W h => hBB.out.keep h (by simp)
  have hKC : ∀ W g n, AF W g n → Calls Try.prog 14 #[.pointer (some ⟨g, 0, none⟩), .agg DK] W fun e w' => ∃ p, e = .returned (.pointer (some ⟨p, 0, none⟩)) ∧ W.heap.size ≤ p ∧ AK w' p g kl ∧ AT w' g n ∧ Keep [g] W w' := by
    intro W g n h
    have := hK W g n kl h hkl
    rw [arr_agg, ← hDK.out] at this
    exact this
  have hTC : ∀ W p g, AK W p g kl → AT W g 0 → Calls Try.prog 15 #[.pointer (some ⟨p, 0, none⟩), .agg DB] W fun e w' => e = .returned (.agg DT) ∧ AT w' g 1 ∧ Keep [g] W w' := by
    intro W p g h1 h2
    have := hT W p g 0 kl bl h1 h2 (by decide) hkl hbl
    rw [arr_agg, arr_agg, ← hDB.out, ← hDT.out] at this
    exact this
  clear hZ hZs hZi hkl hbl
  obtain ⟨f, ⟨f1, f2, -⟩, rfl⟩ := hF.open36
  simp only [f1, f2]
  clear f1 f2 hF
  conv => arg 2; whnf
  refine wp_region_any (by kernel_rfl) ?_
  change wpAny _ _ _ _ _ _ _ (World.drew _)
  obtain ⟨W0, hW0⟩ : ∃ W0, W0 = w2.drew := ⟨_, rfl⟩
  rw [← hW0]
  have hk0 : Keep [] w2 W0 := by rw [hW0]; exact (Keep.refl [] w2).drew
  clear hW0
  go_simp
  refine wpAny_ready (rs := [0, 1, 3, 5]) (by kernel_rfl) (by simp) ?_
  refine AllReady.cons rfl (fun K hK => ?_) ?_
  ·
    apply step_wp
    · rfl
    refine ow_call _ _ _ (by kernel_rfl) (hN _) ?_
    rintro e WN ⟨g, rfl, hg, hAT, hsN⟩
    refine ⟨_, rfl, ?_⟩
    replace hg : w2.heap.size ≤ g := Nat.le_trans hk0.size hg
    have hkN : Keep [] w2 WN := hk0.trans hsN
    clear hsN
    apply hK
    clear hK K
    go_simp
    refine wpAny_ready (rs := [1, 3, 5]) (by kernel_rfl) (by simp) ?_
    refine AllReady.cons rfl (fun K hK => ?_) ?_
    ·
      apply step_wp
      · rfl
      refine ow_load _ _ rfl _ rfl 16 5 Try.underlying29 _ DK (LK _ hkN) (by rw [HDK.out]; exact blkCells) ?_
      apply hK
      clear hK K
      go_simp
      refine wpAny_ready (rs := [2, 3, 5]) (by kernel_rfl) (by simp) ?_
      refine AllReady.cons rfl (fun K hK => ?_) ?_
      ·
        apply step_wp
        · rfl
        refine ow_call _ _ _ (by kernel_rfl) (hKC _ g 0 hAT) ?_
        rintro e WK ⟨p, rfl, hp, hAK, hAT1, hsK⟩
        refine ⟨_, rfl, ?_⟩
        replace hAT := hAT1
        have hkK : Keep [] w2 WK := hkN.trans' hsK (fun x hx => by right; simp at hx; omega)
        clear hsK hp
        apply hK
        clear hK K
        go_simp
        refine wpAny_ready (rs := [3, 5]) (by kernel_rfl) (by simp) ?_
        refine AllReady.cons rfl (fun K hK => ?_) ?_
        ·
          apply step_wp
          · rfl
          refine ow_load _ _ rfl _ rfl 16 5 Try.underlying29 _ DB (LB _ hkK) (by rw [HDB.out]; exact blkCells) ?_
          apply hK
          clear hK K
          go_simp
          refine wpAny_ready (rs := [4, 5]) (by kernel_rfl) (by simp) ?_
          refine AllReady.cons rfl (fun K hK => ?_) ?_
          ·
            apply step_wp
            · rfl
            refine ow_call _ _ _ (by kernel_rfl) (hTC _ p g hAK hAT) ?_
            rintro e WT ⟨rfl, hAT1, hsT⟩
            refine ⟨_, rfl, ?_⟩
            have hkT : Keep [] w2 WT := hkK.trans' hsT (fun x hx => by right; simp at hx; omega)
            replace hAT := hAT1
            clear hsT
            apply hK
            clear hK K
            go_simp
            refine wpAny_ready (rs := [5]) (by kernel_rfl) (by simp) ?_
            refine AllReady.cons rfl (fun K hK => ?_) ?_
            ·
              apply step_wp
              · rfl
              refine ow_alloc _ rfl Z 16 HZI.out ?_
              intro m WA hm hbm hsA
              have hmg : m ≠ g := by have := hAT.lt; omega
              replace hAT := hAT.keep hsA (by simp)
              replace hm : w2.heap.size ≤ m := by rw [hm]; exact hkT.size
              have hkA : Keep [] w2 WA := hkT.trans hsA
              clear hsA
              apply hK
              clear hK K
              go_simp
              refine wpAny_ready (rs := [6]) (by kernel_rfl) (by simp) ?_
              refine AllReady.cons rfl (fun K hK => ?_) ?_
              ·
                apply step_wp
                · rfl
                refine ow_store _ _ _ rfl m DT rfl rfl _ _ hbm (by rw [HDT.out]; exact blkCells) (by rw [HDT.out]; exact HZS.out) HDT1.out ?_
                intro WS hbS hsS
                have hkS : Keep [] w2 WS := hkA.trans' hsS (fun x hx => by right; simp at hx; omega)
                apply hK
                clear hK K
                go_simp
                refine wpAny_done (by kernel_rfl) ?_ _
                exact hR.out _ _ m ⟨rfl, rfl, by repeat (first | exact trivial | refine ⟨rfl, ?_⟩)⟩ hm hbS hkS
              exact AllReady.nil
            exact AllReady.nil
          refine AllReady.cons rfl (fun K hK => ?_) ?_
          ·
            apply step_wp
            · rfl
            refine ow_alloc _ rfl Z 16 HZI.out ?_
            intro m WA hm hbm hsA
            have hmg : m ≠ g := by have := hAT.lt; omega
            replace hAT := hAT.keep hsA (by simp)
            replace hAK := hAK.keep hsA (by simp)
            replace hm : w2.heap.size ≤ m := by rw [hm]; exact hkK.size
            have hkA : Keep [] w2 WA := hkK.trans hsA
            clear hsA
            apply hK
            clear hK K
            go_simp
            refine wpAny_ready (rs := [4]) (by kernel_rfl) (by simp) ?_
            refine AllReady.cons rfl (fun K hK => ?_) ?_
            ·
              apply step_wp
              · rfl
              refine ow_call _ _ _ (by kernel_rfl) (hTC _ p g hAK hAT) ?_
              rintro e WT ⟨rfl, hAT1, hsT⟩
              refine ⟨_, rfl, ?_⟩
              have hkT : Keep [] w2 WT := hkA.trans' hsT (fun x hx => by right; simp at hx; omega)
              replace hbm := hbm.keep hsT (by simpa using hmg)
              replace hAT := hAT1
              clear hsT
              apply hK
              clear hK K
              go_simp
              refine wpAny_ready (rs := [6]) (by kernel_rfl) (by simp) ?_
              refine AllReady.cons rfl (fun K hK => ?_) ?_
              ·
                apply step_wp
                · rfl
                refine ow_store _ _ _ rfl m DT rfl rfl _ _ hbm (by rw [HDT.out]; exact blkCells) (by rw [HDT.out]; exact HZS.out) HDT1.out ?_
                intro WS hbS hsS
                have hkS : Keep [] w2 WS := hkT.trans' hsS (fun x hx => by right; simp at hx; omega)
                apply hK
                clear hK K
                go_simp
                refine wpAny_done (by kernel_rfl) ?_ _
                exact hR.out _ _ m ⟨rfl, rfl, by repeat (first | exact trivial | refine ⟨rfl, ?_⟩)⟩ hm hbS hkS
              exact AllReady.nil
            exact AllReady.nil
          exact AllReady.nil
        refine AllReady.cons rfl (fun K hK => ?_) ?_
        ·
          apply step_wp
          · rfl
          refine ow_alloc _ rfl Z 16 HZI.out ?_
          intro m WA hm hbm hsA
          have hmg : m ≠ g := by have := hAT.lt; omega
          replace hAT := hAT.keep hsA (by simp)
          replace hAK := hAK.keep hsA (by simp)
          replace hm : w2.heap.size ≤ m := by rw [hm]; exact hkK.size
          have hkA : Keep [] w2 WA := hkK.trans hsA
          clear hsA
          apply hK
          clear hK K
          go_simp
          refine wpAny_ready (rs := [3]) (by kernel_rfl) (by simp) ?_
          refine AllReady.cons rfl (fun K hK => ?_) ?_
          ·
            apply step_wp
            · rfl
            refine ow_load _ _ rfl _ rfl 16 5 Try.underlying29 _ DB (LB _ hkA) (by rw [HDB.out]; exact blkCells) ?_
            apply hK
            clear hK K
            go_simp
            refine wpAny_ready (rs := [4]) (by kernel_rfl) (by simp) ?_
            refine AllReady.cons rfl (fun K hK => ?_) ?_
            ·
              apply step_wp
              · rfl
              refine ow_call _ _ _ (by kernel_rfl) (hTC _ p g hAK hAT) ?_
              rintro e WT ⟨rfl, hAT1, hsT⟩
              refine ⟨_, rfl, ?_⟩
              have hkT : Keep [] w2 WT := hkA.trans' hsT (fun x hx => by right; simp at hx; omega)
              replace hbm := hbm.keep hsT (by simpa using hmg)
              replace hAT := hAT1
              clear hsT
              apply hK
              clear hK K
              go_simp
              refine wpAny_ready (rs := [6]) (by kernel_rfl) (by simp) ?_
              refine AllReady.cons rfl (fun K hK => ?_) ?_
              ·
                apply step_wp
                · rfl
                refine ow_store _ _ _ rfl m DT rfl rfl _ _ hbm (by rw [HDT.out]; exact blkCells) (by rw [HDT.out]; exact HZS.out) HDT1.out ?_
                intro WS hbS hsS
                have hkS : Keep [] w2 WS := hkT.trans' hsS (fun x hx => by right; simp at hx; omega)
                apply hK
                clear hK K
                go_simp
                refine wpAny_done (by kernel_rfl) ?_ _
                exact hR.out _ _ m ⟨rfl, rfl, by repeat (first | exact trivial | refine ⟨rfl, ?_⟩)⟩ hm hbS hkS
              exact AllReady.nil
            exact AllReady.nil
          exact AllReady.nil
        exact AllReady.nil
      refine AllReady.cons rfl (fun K hK => ?_) ?_
      ·
        apply step_wp
        · rfl
        refine ow_load _ _ rfl _ rfl 16 5 Try.underlying29 _ DB (LB _ hkN) (by rw [HDB.out]; exact blkCells) ?_
        apply hK
        clear hK K
        go_simp
        refine wpAny_ready (rs := [2, 5]) (by kernel_rfl) (by simp) ?_
        refine AllReady.cons rfl (fun K hK => ?_) ?_
        ·
          apply step_wp
          · rfl
          refine ow_call _ _ _ (by kernel_rfl) (hKC _ g 0 hAT) ?_
          rintro e WK ⟨p, rfl, hp, hAK, hAT1, hsK⟩
          refine ⟨_, rfl, ?_⟩
          replace hAT := hAT1
          have hkK : Keep [] w2 WK := hkN.trans' hsK (fun x hx => by right; simp at hx; omega)
          clear hsK hp
          apply hK
          clear hK K
          go_simp
          refine wpAny_ready (rs := [4, 5]) (by kernel_rfl) (by simp) ?_
          refine AllReady.cons rfl (fun K hK => ?_) ?_
          ·
            apply step_wp
            · rfl
            refine ow_call _ _ _ (by kernel_rfl) (hTC _ p g hAK hAT) ?_
            rintro e WT ⟨rfl, hAT1, hsT⟩
            refine ⟨_, rfl, ?_⟩
            have hkT : Keep [] w2 WT := hkK.trans' hsT (fun x hx => by right; simp at hx; omega)
            replace hAT := hAT1
            clear hsT
            apply hK
            clear hK K
            go_simp
            refine wpAny_ready (rs := [5]) (by kernel_rfl) (by simp) ?_
            refine AllReady.cons rfl (fun K hK => ?_) ?_
            ·
              apply step_wp
              · rfl
              refine ow_alloc _ rfl Z 16 HZI.out ?_
              intro m WA hm hbm hsA
              have hmg : m ≠ g := by have := hAT.lt; omega
              replace hAT := hAT.keep hsA (by simp)
              replace hm : w2.heap.size ≤ m := by rw [hm]; exact hkT.size
              have hkA : Keep [] w2 WA := hkT.trans hsA
              clear hsA
              apply hK
              clear hK K
              go_simp
              refine wpAny_ready (rs := [6]) (by kernel_rfl) (by simp) ?_
              refine AllReady.cons rfl (fun K hK => ?_) ?_
              ·
                apply step_wp
                · rfl
                refine ow_store _ _ _ rfl m DT rfl rfl _ _ hbm (by rw [HDT.out]; exact blkCells) (by rw [HDT.out]; exact HZS.out) HDT1.out ?_
                intro WS hbS hsS
                have hkS : Keep [] w2 WS := hkA.trans' hsS (fun x hx => by right; simp at hx; omega)
                apply hK
                clear hK K
                go_simp
                refine wpAny_done (by kernel_rfl) ?_ _
                exact hR.out _ _ m ⟨rfl, rfl, by repeat (first | exact trivial | refine ⟨rfl, ?_⟩)⟩ hm hbS hkS
              exact AllReady.nil
            exact AllReady.nil
          refine AllReady.cons rfl (fun K hK => ?_) ?_
          ·
            apply step_wp
            · rfl
            refine ow_alloc _ rfl Z 16 HZI.out ?_
            intro m WA hm hbm hsA
            have hmg : m ≠ g := by have := hAT.lt; omega
            replace hAT := hAT.keep hsA (by simp)
            replace hAK := hAK.keep hsA (by simp)
            replace hm : w2.heap.size ≤ m := by rw [hm]; exact hkK.size
            have hkA : Keep [] w2 WA := hkK.trans hsA
            clear hsA
            apply hK
            clear hK K
            go_simp
            refine wpAny_ready (rs := [4]) (by kernel_rfl) (by simp) ?_
            refine AllReady.cons rfl (fun K hK => ?_) ?_
            ·
              apply step_wp
              · rfl
              refine ow_call _ _ _ (by kernel_rfl) (hTC _ p g hAK hAT) ?_
              rintro e WT ⟨rfl, hAT1, hsT⟩
              refine ⟨_, rfl, ?_⟩
              have hkT : Keep [] w2 WT := hkA.trans' hsT (fun x hx => by right; simp at hx; omega)
              replace hbm := hbm.keep hsT (by simpa using hmg)
              replace hAT := hAT1
              clear hsT
              apply hK
              clear hK K
              go_simp
              refine wpAny_ready (rs := [6]) (by kernel_rfl) (by simp) ?_
              refine AllReady.cons rfl (fun K hK => ?_) ?_
              ·
                apply step_wp
                · rfl
                refine ow_store _ _ _ rfl m DT rfl rfl _ _ hbm (by rw [HDT.out]; exact blkCells) (by rw [HDT.out]; exact HZS.out) HDT1.out ?_
                intro WS hbS hsS
                have hkS : Keep [] w2 WS := hkT.trans' hsS (fun x hx => by right; simp at hx; omega)
                apply hK
                clear hK K
                go_simp
                refine wpAny_done (by kernel_rfl) ?_ _
                exact hR.out _ _ m ⟨rfl, rfl, by repeat (first | exact trivial | refine ⟨rfl, ?_⟩)⟩ hm hbS hkS
              exact AllReady.nil
            exact AllReady.nil
          exact AllReady.nil
        refine AllReady.cons rfl (fun K hK => ?_) ?_
        ·
          apply step_wp
          · rfl
          refine ow_alloc _ rfl Z 16 HZI.out ?_
          intro m WA hm hbm hsA
          have hmg : m ≠ g := by have := hAT.lt; omega
          replace hAT := hAT.keep hsA (by simp)
          replace hm : w2.heap.size ≤ m := by rw [hm]; exact hkN.size
          have hkA : Keep [] w2 WA := hkN.trans hsA
          clear hsA
          apply hK
          clear hK K
          go_simp
          refine wpAny_ready (rs := [2]) (by kernel_rfl) (by simp) ?_
          refine AllReady.cons rfl (fun K hK => ?_) ?_
          ·
            apply step_wp
            · rfl
            refine ow_call _ _ _ (by kernel_rfl) (hKC _ g 0 hAT) ?_
            rintro e WK ⟨p, rfl, hp, hAK, hAT1, hsK⟩
            refine ⟨_, rfl, ?_⟩
            replace hAT := hAT1
            have hkK : Keep [] w2 WK := hkA.trans' hsK (fun x hx => by right; simp at hx; omega)
            replace hbm := hbm.keep hsK (by simpa using hmg)
            clear hsK hp
            apply hK
            clear hK K
            go_simp
            refine wpAny_ready (rs := [4]) (by kernel_rfl) (by simp) ?_
            refine AllReady.cons rfl (fun K hK => ?_) ?_
            ·
              apply step_wp
              · rfl
              refine ow_call _ _ _ (by kernel_rfl) (hTC _ p g hAK hAT) ?_
              rintro e WT ⟨rfl, hAT1, hsT⟩
              refine ⟨_, rfl, ?_⟩
              have hkT : Keep [] w2 WT := hkK.trans' hsT (fun x hx => by right; simp at hx; omega)
              replace hbm := hbm.keep hsT (by simpa using hmg)
              replace hAT := hAT1
              clear hsT
              apply hK
              clear hK K
              go_simp
              refine wpAny_ready (rs := [6]) (by kernel_rfl) (by simp) ?_
              refine AllReady.cons rfl (fun K hK => ?_) ?_
              ·
                apply step_wp
                · rfl
                refine ow_store _ _ _ rfl m DT rfl rfl _ _ hbm (by rw [HDT.out]; exact blkCells) (by rw [HDT.out]; exact HZS.out) HDT1.out ?_
                intro WS hbS hsS
                have hkS : Keep [] w2 WS := hkT.trans' hsS (fun x hx => by right; simp at hx; omega)
                apply hK
                clear hK K
                go_simp
                refine wpAny_done (by kernel_rfl) ?_ _
                exact hR.out _ _ m ⟨rfl, rfl, by repeat (first | exact trivial | refine ⟨rfl, ?_⟩)⟩ hm hbS hkS
              exact AllReady.nil
            exact AllReady.nil
          exact AllReady.nil
        exact AllReady.nil
      refine AllReady.cons rfl (fun K hK => ?_) ?_
      ·
        apply step_wp
        · rfl
        refine ow_alloc _ rfl Z 16 HZI.out ?_
        intro m WA hm hbm hsA
        have hmg : m ≠ g := by have := hAT.lt; omega
        replace hAT := hAT.keep hsA (by simp)
        replace hm : w2.heap.size ≤ m := by rw [hm]; exact hkN.size
        have hkA : Keep [] w2 WA := hkN.trans hsA
        clear hsA
        apply hK
        clear hK K
        go_simp
        refine wpAny_ready (rs := [2, 3]) (by kernel_rfl) (by simp) ?_
        refine AllReady.cons rfl (fun K hK => ?_) ?_
        ·
          apply step_wp
          · rfl
          refine ow_call _ _ _ (by kernel_rfl) (hKC _ g 0 hAT) ?_
          rintro e WK ⟨p, rfl, hp, hAK, hAT1, hsK⟩
          refine ⟨_, rfl, ?_⟩
          replace hAT := hAT1
          have hkK : Keep [] w2 WK := hkA.trans' hsK (fun x hx => by right; simp at hx; omega)
          replace hbm := hbm.keep hsK (by simpa using hmg)
          clear hsK hp
          apply hK
          clear hK K
          go_simp
          refine wpAny_ready (rs := [3]) (by kernel_rfl) (by simp) ?_
          refine AllReady.cons rfl (fun K hK => ?_) ?_
          ·
            apply step_wp
            · rfl
            refine ow_load _ _ rfl _ rfl 16 5 Try.underlying29 _ DB (LB _ hkK) (by rw [HDB.out]; exact blkCells) ?_
            apply hK
            clear hK K
            go_simp
            refine wpAny_ready (rs := [4]) (by kernel_rfl) (by simp) ?_
            refine AllReady.cons rfl (fun K hK => ?_) ?_
            ·
              apply step_wp
              · rfl
              refine ow_call _ _ _ (by kernel_rfl) (hTC _ p g hAK hAT) ?_
              rintro e WT ⟨rfl, hAT1, hsT⟩
              refine ⟨_, rfl, ?_⟩
              have hkT : Keep [] w2 WT := hkK.trans' hsT (fun x hx => by right; simp at hx; omega)
              replace hbm := hbm.keep hsT (by simpa using hmg)
              replace hAT := hAT1
              clear hsT
              apply hK
              clear hK K
              go_simp
              refine wpAny_ready (rs := [6]) (by kernel_rfl) (by simp) ?_
              refine AllReady.cons rfl (fun K hK => ?_) ?_
              ·
                apply step_wp
                · rfl
                refine ow_store _ _ _ rfl m DT rfl rfl _ _ hbm (by rw [HDT.out]; exact blkCells) (by rw [HDT.out]; exact HZS.out) HDT1.out ?_
                intro WS hbS hsS
                have hkS : Keep [] w2 WS := hkT.trans' hsS (fun x hx => by right; simp at hx; omega)
                apply hK
                clear hK K
                go_simp
                refine wpAny_done (by kernel_rfl) ?_ _
                exact hR.out _ _ m ⟨rfl, rfl, by repeat (first | exact trivial | refine ⟨rfl, ?_⟩)⟩ hm hbS hkS
              exact AllReady.nil
            exact AllReady.nil
          exact AllReady.nil
        refine AllReady.cons rfl (fun K hK => ?_) ?_
        ·
          apply step_wp
          · rfl
          refine ow_load _ _ rfl _ rfl 16 5 Try.underlying29 _ DB (LB _ hkA) (by rw [HDB.out]; exact blkCells) ?_
          apply hK
          clear hK K
          go_simp
          refine wpAny_ready (rs := [2]) (by kernel_rfl) (by simp) ?_
          refine AllReady.cons rfl (fun K hK => ?_) ?_
          ·
            apply step_wp
            · rfl
            refine ow_call _ _ _ (by kernel_rfl) (hKC _ g 0 hAT) ?_
            rintro e WK ⟨p, rfl, hp, hAK, hAT1, hsK⟩
            refine ⟨_, rfl, ?_⟩
            replace hAT := hAT1
            have hkK : Keep [] w2 WK := hkA.trans' hsK (fun x hx => by right; simp at hx; omega)
            replace hbm := hbm.keep hsK (by simpa using hmg)
            clear hsK hp
            apply hK
            clear hK K
            go_simp
            refine wpAny_ready (rs := [4]) (by kernel_rfl) (by simp) ?_
            refine AllReady.cons rfl (fun K hK => ?_) ?_
            ·
              apply step_wp
              · rfl
              refine ow_call _ _ _ (by kernel_rfl) (hTC _ p g hAK hAT) ?_
              rintro e WT ⟨rfl, hAT1, hsT⟩
              refine ⟨_, rfl, ?_⟩
              have hkT : Keep [] w2 WT := hkK.trans' hsT (fun x hx => by right; simp at hx; omega)
              replace hbm := hbm.keep hsT (by simpa using hmg)
              replace hAT := hAT1
              clear hsT
              apply hK
              clear hK K
              go_simp
              refine wpAny_ready (rs := [6]) (by kernel_rfl) (by simp) ?_
              refine AllReady.cons rfl (fun K hK => ?_) ?_
              ·
                apply step_wp
                · rfl
                refine ow_store _ _ _ rfl m DT rfl rfl _ _ hbm (by rw [HDT.out]; exact blkCells) (by rw [HDT.out]; exact HZS.out) HDT1.out ?_
                intro WS hbS hsS
                have hkS : Keep [] w2 WS := hkT.trans' hsS (fun x hx => by right; simp at hx; omega)
                apply hK
                clear hK K
                go_simp
                refine wpAny_done (by kernel_rfl) ?_ _
                exact hR.out _ _ m ⟨rfl, rfl, by repeat (first | exact trivial | refine ⟨rfl, ?_⟩)⟩ hm hbS hkS
              exact AllReady.nil
            exact AllReady.nil
          exact AllReady.nil
        exact AllReady.nil
      exact AllReady.nil
    refine AllReady.cons rfl (fun K hK => ?_) ?_
    ·
      apply step_wp
      · rfl
      refine ow_load _ _ rfl _ rfl 16 5 Try.underlying29 _ DB (LB _ hkN) (by rw [HDB.out]; exact blkCells) ?_
      apply hK
      clear hK K
      go_simp
      refine wpAny_ready (rs := [1, 5]) (by kernel_rfl) (by simp) ?_
      refine AllReady.cons rfl (fun K hK => ?_) ?_
      ·
        apply step_wp
        · rfl
        refine ow_load _ _ rfl _ rfl 16 5 Try.underlying29 _ DK (LK _ hkN) (by rw [HDK.out]; exact blkCells) ?_
        apply hK
        clear hK K
        go_simp
        refine wpAny_ready (rs := [2, 5]) (by kernel_rfl) (by simp) ?_
        refine AllReady.cons rfl (fun K hK => ?_) ?_
        ·
          apply step_wp
          · rfl
          refine ow_call _ _ _ (by kernel_rfl) (hKC _ g 0 hAT) ?_
          rintro e WK ⟨p, rfl, hp, hAK, hAT1, hsK⟩
          refine ⟨_, rfl, ?_⟩
          replace hAT := hAT1
          have hkK : Keep [] w2 WK := hkN.trans' hsK (fun x hx => by right; simp at hx; omega)
          clear hsK hp
          apply hK
          clear hK K
          go_simp
          refine wpAny_ready (rs := [4, 5]) (by kernel_rfl) (by simp) ?_
          refine AllReady.cons rfl (fun K hK => ?_) ?_
          ·
            apply step_wp
            · rfl
            refine ow_call _ _ _ (by kernel_rfl) (hTC _ p g hAK hAT) ?_
            rintro e WT ⟨rfl, hAT1, hsT⟩
            refine ⟨_, rfl, ?_⟩
            have hkT : Keep [] w2 WT := hkK.trans' hsT (fun x hx => by right; simp at hx; omega)
            replace hAT := hAT1
            clear hsT
            apply hK
            clear hK K
            go_simp
            refine wpAny_ready (rs := [5]) (by kernel_rfl) (by simp) ?_
            refine AllReady.cons rfl (fun K hK => ?_) ?_
            ·
              apply step_wp
              · rfl
              refine ow_alloc _ rfl Z 16 HZI.out ?_
              intro m WA hm hbm hsA
              have hmg : m ≠ g := by have := hAT.lt; omega
              replace hAT := hAT.keep hsA (by simp)
              replace hm : w2.heap.size ≤ m := by rw [hm]; exact hkT.size
              have hkA : Keep [] w2 WA := hkT.trans hsA
              clear hsA
              apply hK
              clear hK K
              go_simp
              refine wpAny_ready (rs := [6]) (by kernel_rfl) (by simp) ?_
              refine AllReady.cons rfl (fun K hK => ?_) ?_
              ·
                apply step_wp
                · rfl
                refine ow_store _ _ _ rfl m DT rfl rfl _ _ hbm (by rw [HDT.out]; exact blkCells) (by rw [HDT.out]; exact HZS.out) HDT1.out ?_
                intro WS hbS hsS
                have hkS : Keep [] w2 WS := hkA.trans' hsS (fun x hx => by right; simp at hx; omega)
                apply hK
                clear hK K
                go_simp
                refine wpAny_done (by kernel_rfl) ?_ _
                exact hR.out _ _ m ⟨rfl, rfl, by repeat (first | exact trivial | refine ⟨rfl, ?_⟩)⟩ hm hbS hkS
              exact AllReady.nil
            exact AllReady.nil
          refine AllReady.cons rfl (fun K hK => ?_) ?_
          ·
            apply step_wp
            · rfl
            refine ow_alloc _ rfl Z 16 HZI.out ?_
            intro m WA hm hbm hsA
            have hmg : m ≠ g := by have := hAT.lt; omega
            replace hAT := hAT.keep hsA (by simp)
            replace hAK := hAK.keep hsA (by simp)
            replace hm : w2.heap.size ≤ m := by rw [hm]; exact hkK.size
            have hkA : Keep [] w2 WA := hkK.trans hsA
            clear hsA
            apply hK
            clear hK K
            go_simp
            refine wpAny_ready (rs := [4]) (by kernel_rfl) (by simp) ?_
            refine AllReady.cons rfl (fun K hK => ?_) ?_
            ·
              apply step_wp
              · rfl
              refine ow_call _ _ _ (by kernel_rfl) (hTC _ p g hAK hAT) ?_
              rintro e WT ⟨rfl, hAT1, hsT⟩
              refine ⟨_, rfl, ?_⟩
              have hkT : Keep [] w2 WT := hkA.trans' hsT (fun x hx => by right; simp at hx; omega)
              replace hbm := hbm.keep hsT (by simpa using hmg)
              replace hAT := hAT1
              clear hsT
              apply hK
              clear hK K
              go_simp
              refine wpAny_ready (rs := [6]) (by kernel_rfl) (by simp) ?_
              refine AllReady.cons rfl (fun K hK => ?_) ?_
              ·
                apply step_wp
                · rfl
                refine ow_store _ _ _ rfl m DT rfl rfl _ _ hbm (by rw [HDT.out]; exact blkCells) (by rw [HDT.out]; exact HZS.out) HDT1.out ?_
                intro WS hbS hsS
                have hkS : Keep [] w2 WS := hkT.trans' hsS (fun x hx => by right; simp at hx; omega)
                apply hK
                clear hK K
                go_simp
                refine wpAny_done (by kernel_rfl) ?_ _
                exact hR.out _ _ m ⟨rfl, rfl, by repeat (first | exact trivial | refine ⟨rfl, ?_⟩)⟩ hm hbS hkS
              exact AllReady.nil
            exact AllReady.nil
          exact AllReady.nil
        refine AllReady.cons rfl (fun K hK => ?_) ?_
        ·
          apply step_wp
          · rfl
          refine ow_alloc _ rfl Z 16 HZI.out ?_
          intro m WA hm hbm hsA
          have hmg : m ≠ g := by have := hAT.lt; omega
          replace hAT := hAT.keep hsA (by simp)
          replace hm : w2.heap.size ≤ m := by rw [hm]; exact hkN.size
          have hkA : Keep [] w2 WA := hkN.trans hsA
          clear hsA
          apply hK
          clear hK K
          go_simp
          refine wpAny_ready (rs := [2]) (by kernel_rfl) (by simp) ?_
          refine AllReady.cons rfl (fun K hK => ?_) ?_
          ·
            apply step_wp
            · rfl
            refine ow_call _ _ _ (by kernel_rfl) (hKC _ g 0 hAT) ?_
            rintro e WK ⟨p, rfl, hp, hAK, hAT1, hsK⟩
            refine ⟨_, rfl, ?_⟩
            replace hAT := hAT1
            have hkK : Keep [] w2 WK := hkA.trans' hsK (fun x hx => by right; simp at hx; omega)
            replace hbm := hbm.keep hsK (by simpa using hmg)
            clear hsK hp
            apply hK
            clear hK K
            go_simp
            refine wpAny_ready (rs := [4]) (by kernel_rfl) (by simp) ?_
            refine AllReady.cons rfl (fun K hK => ?_) ?_
            ·
              apply step_wp
              · rfl
              refine ow_call _ _ _ (by kernel_rfl) (hTC _ p g hAK hAT) ?_
              rintro e WT ⟨rfl, hAT1, hsT⟩
              refine ⟨_, rfl, ?_⟩
              have hkT : Keep [] w2 WT := hkK.trans' hsT (fun x hx => by right; simp at hx; omega)
              replace hbm := hbm.keep hsT (by simpa using hmg)
              replace hAT := hAT1
              clear hsT
              apply hK
              clear hK K
              go_simp
              refine wpAny_ready (rs := [6]) (by kernel_rfl) (by simp) ?_
              refine AllReady.cons rfl (fun K hK => ?_) ?_
              ·
                apply step_wp
                · rfl
                refine ow_store _ _ _ rfl m DT rfl rfl _ _ hbm (by rw [HDT.out]; exact blkCells) (by rw [HDT.out]; exact HZS.out) HDT1.out ?_
                intro WS hbS hsS
                have hkS : Keep [] w2 WS := hkT.trans' hsS (fun x hx => by right; simp at hx; omega)
                apply hK
                clear hK K
                go_simp
                refine wpAny_done (by kernel_rfl) ?_ _
                exact hR.out _ _ m ⟨rfl, rfl, by repeat (first | exact trivial | refine ⟨rfl, ?_⟩)⟩ hm hbS hkS
              exact AllReady.nil
            exact AllReady.nil
          exact AllReady.nil
        exact AllReady.nil
      refine AllReady.cons rfl (fun K hK => ?_) ?_
      ·
        apply step_wp
        · rfl
        refine ow_alloc _ rfl Z 16 HZI.out ?_
        intro m WA hm hbm hsA
        have hmg : m ≠ g := by have := hAT.lt; omega
        replace hAT := hAT.keep hsA (by simp)
        replace hm : w2.heap.size ≤ m := by rw [hm]; exact hkN.size
        have hkA : Keep [] w2 WA := hkN.trans hsA
        clear hsA
        apply hK
        clear hK K
        go_simp
        refine wpAny_ready (rs := [1]) (by kernel_rfl) (by simp) ?_
        refine AllReady.cons rfl (fun K hK => ?_) ?_
        ·
          apply step_wp
          · rfl
          refine ow_load _ _ rfl _ rfl 16 5 Try.underlying29 _ DK (LK _ hkA) (by rw [HDK.out]; exact blkCells) ?_
          apply hK
          clear hK K
          go_simp
          refine wpAny_ready (rs := [2]) (by kernel_rfl) (by simp) ?_
          refine AllReady.cons rfl (fun K hK => ?_) ?_
          ·
            apply step_wp
            · rfl
            refine ow_call _ _ _ (by kernel_rfl) (hKC _ g 0 hAT) ?_
            rintro e WK ⟨p, rfl, hp, hAK, hAT1, hsK⟩
            refine ⟨_, rfl, ?_⟩
            replace hAT := hAT1
            have hkK : Keep [] w2 WK := hkA.trans' hsK (fun x hx => by right; simp at hx; omega)
            replace hbm := hbm.keep hsK (by simpa using hmg)
            clear hsK hp
            apply hK
            clear hK K
            go_simp
            refine wpAny_ready (rs := [4]) (by kernel_rfl) (by simp) ?_
            refine AllReady.cons rfl (fun K hK => ?_) ?_
            ·
              apply step_wp
              · rfl
              refine ow_call _ _ _ (by kernel_rfl) (hTC _ p g hAK hAT) ?_
              rintro e WT ⟨rfl, hAT1, hsT⟩
              refine ⟨_, rfl, ?_⟩
              have hkT : Keep [] w2 WT := hkK.trans' hsT (fun x hx => by right; simp at hx; omega)
              replace hbm := hbm.keep hsT (by simpa using hmg)
              replace hAT := hAT1
              clear hsT
              apply hK
              clear hK K
              go_simp
              refine wpAny_ready (rs := [6]) (by kernel_rfl) (by simp) ?_
              refine AllReady.cons rfl (fun K hK => ?_) ?_
              ·
                apply step_wp
                · rfl
                refine ow_store _ _ _ rfl m DT rfl rfl _ _ hbm (by rw [HDT.out]; exact blkCells) (by rw [HDT.out]; exact HZS.out) HDT1.out ?_
                intro WS hbS hsS
                have hkS : Keep [] w2 WS := hkT.trans' hsS (fun x hx => by right; simp at hx; omega)
                apply hK
                clear hK K
                go_simp
                refine wpAny_done (by kernel_rfl) ?_ _
                exact hR.out _ _ m ⟨rfl, rfl, by repeat (first | exact trivial | refine ⟨rfl, ?_⟩)⟩ hm hbS hkS
              exact AllReady.nil
            exact AllReady.nil
          exact AllReady.nil
        exact AllReady.nil
      exact AllReady.nil
    refine AllReady.cons rfl (fun K hK => ?_) ?_
    ·
      apply step_wp
      · rfl
      refine ow_alloc _ rfl Z 16 HZI.out ?_
      intro m WA hm hbm hsA
      have hmg : m ≠ g := by have := hAT.lt; omega
      replace hAT := hAT.keep hsA (by simp)
      replace hm : w2.heap.size ≤ m := by rw [hm]; exact hkN.size
      have hkA : Keep [] w2 WA := hkN.trans hsA
      clear hsA
      apply hK
      clear hK K
      go_simp
      refine wpAny_ready (rs := [1, 3]) (by kernel_rfl) (by simp) ?_
      refine AllReady.cons rfl (fun K hK => ?_) ?_
      ·
        apply step_wp
        · rfl
        refine ow_load _ _ rfl _ rfl 16 5 Try.underlying29 _ DK (LK _ hkA) (by rw [HDK.out]; exact blkCells) ?_
        apply hK
        clear hK K
        go_simp
        refine wpAny_ready (rs := [2, 3]) (by kernel_rfl) (by simp) ?_
        refine AllReady.cons rfl (fun K hK => ?_) ?_
        ·
          apply step_wp
          · rfl
          refine ow_call _ _ _ (by kernel_rfl) (hKC _ g 0 hAT) ?_
          rintro e WK ⟨p, rfl, hp, hAK, hAT1, hsK⟩
          refine ⟨_, rfl, ?_⟩
          replace hAT := hAT1
          have hkK : Keep [] w2 WK := hkA.trans' hsK (fun x hx => by right; simp at hx; omega)
          replace hbm := hbm.keep hsK (by simpa using hmg)
          clear hsK hp
          apply hK
          clear hK K
          go_simp
          refine wpAny_ready (rs := [3]) (by kernel_rfl) (by simp) ?_
          refine AllReady.cons rfl (fun K hK => ?_) ?_
          ·
            apply step_wp
            · rfl
            refine ow_load _ _ rfl _ rfl 16 5 Try.underlying29 _ DB (LB _ hkK) (by rw [HDB.out]; exact blkCells) ?_
            apply hK
            clear hK K
            go_simp
            refine wpAny_ready (rs := [4]) (by kernel_rfl) (by simp) ?_
            refine AllReady.cons rfl (fun K hK => ?_) ?_
            ·
              apply step_wp
              · rfl
              refine ow_call _ _ _ (by kernel_rfl) (hTC _ p g hAK hAT) ?_
              rintro e WT ⟨rfl, hAT1, hsT⟩
              refine ⟨_, rfl, ?_⟩
              have hkT : Keep [] w2 WT := hkK.trans' hsT (fun x hx => by right; simp at hx; omega)
              replace hbm := hbm.keep hsT (by simpa using hmg)
              replace hAT := hAT1
              clear hsT
              apply hK
              clear hK K
              go_simp
              refine wpAny_ready (rs := [6]) (by kernel_rfl) (by simp) ?_
              refine AllReady.cons rfl (fun K hK => ?_) ?_
              ·
                apply step_wp
                · rfl
                refine ow_store _ _ _ rfl m DT rfl rfl _ _ hbm (by rw [HDT.out]; exact blkCells) (by rw [HDT.out]; exact HZS.out) HDT1.out ?_
                intro WS hbS hsS
                have hkS : Keep [] w2 WS := hkT.trans' hsS (fun x hx => by right; simp at hx; omega)
                apply hK
                clear hK K
                go_simp
                refine wpAny_done (by kernel_rfl) ?_ _
                exact hR.out _ _ m ⟨rfl, rfl, by repeat (first | exact trivial | refine ⟨rfl, ?_⟩)⟩ hm hbS hkS
              exact AllReady.nil
            exact AllReady.nil
          exact AllReady.nil
        refine AllReady.cons rfl (fun K hK => ?_) ?_
        ·
          apply step_wp
          · rfl
          refine ow_load _ _ rfl _ rfl 16 5 Try.underlying29 _ DB (LB _ hkA) (by rw [HDB.out]; exact blkCells) ?_
          apply hK
          clear hK K
          go_simp
          refine wpAny_ready (rs := [2]) (by kernel_rfl) (by simp) ?_
          refine AllReady.cons rfl (fun K hK => ?_) ?_
          ·
            apply step_wp
            · rfl
            refine ow_call _ _ _ (by kernel_rfl) (hKC _ g 0 hAT) ?_
            rintro e WK ⟨p, rfl, hp, hAK, hAT1, hsK⟩
            refine ⟨_, rfl, ?_⟩
            replace hAT := hAT1
            have hkK : Keep [] w2 WK := hkA.trans' hsK (fun x hx => by right; simp at hx; omega)
            replace hbm := hbm.keep hsK (by simpa using hmg)
            clear hsK hp
            apply hK
            clear hK K
            go_simp
            refine wpAny_ready (rs := [4]) (by kernel_rfl) (by simp) ?_
            refine AllReady.cons rfl (fun K hK => ?_) ?_
            ·
              apply step_wp
              · rfl
              refine ow_call _ _ _ (by kernel_rfl) (hTC _ p g hAK hAT) ?_
              rintro e WT ⟨rfl, hAT1, hsT⟩
              refine ⟨_, rfl, ?_⟩
              have hkT : Keep [] w2 WT := hkK.trans' hsT (fun x hx => by right; simp at hx; omega)
              replace hbm := hbm.keep hsT (by simpa using hmg)
              replace hAT := hAT1
              clear hsT
              apply hK
              clear hK K
              go_simp
              refine wpAny_ready (rs := [6]) (by kernel_rfl) (by simp) ?_
              refine AllReady.cons rfl (fun K hK => ?_) ?_
              ·
                apply step_wp
                · rfl
                refine ow_store _ _ _ rfl m DT rfl rfl _ _ hbm (by rw [HDT.out]; exact blkCells) (by rw [HDT.out]; exact HZS.out) HDT1.out ?_
                intro WS hbS hsS
                have hkS : Keep [] w2 WS := hkT.trans' hsS (fun x hx => by right; simp at hx; omega)
                apply hK
                clear hK K
                go_simp
                refine wpAny_done (by kernel_rfl) ?_ _
                exact hR.out _ _ m ⟨rfl, rfl, by repeat (first | exact trivial | refine ⟨rfl, ?_⟩)⟩ hm hbS hkS
              exact AllReady.nil
            exact AllReady.nil
          exact AllReady.nil
        exact AllReady.nil
      refine AllReady.cons rfl (fun K hK => ?_) ?_
      ·
        apply step_wp
        · rfl
        refine ow_load _ _ rfl _ rfl 16 5 Try.underlying29 _ DB (LB _ hkA) (by rw [HDB.out]; exact blkCells) ?_
        apply hK
        clear hK K
        go_simp
        refine wpAny_ready (rs := [1]) (by kernel_rfl) (by simp) ?_
        refine AllReady.cons rfl (fun K hK => ?_) ?_
        ·
          apply step_wp
          · rfl
          refine ow_load _ _ rfl _ rfl 16 5 Try.underlying29 _ DK (LK _ hkA) (by rw [HDK.out]; exact blkCells) ?_
          apply hK
          clear hK K
          go_simp
          refine wpAny_ready (rs := [2]) (by kernel_rfl) (by simp) ?_
          refine AllReady.cons rfl (fun K hK => ?_) ?_
          ·
            apply step_wp
            · rfl
            refine ow_call _ _ _ (by kernel_rfl) (hKC _ g 0 hAT) ?_
            rintro e WK ⟨p, rfl, hp, hAK, hAT1, hsK⟩
            refine ⟨_, rfl, ?_⟩
            replace hAT := hAT1
            have hkK : Keep [] w2 WK := hkA.trans' hsK (fun x hx => by right; simp at hx; omega)
            replace hbm := hbm.keep hsK (by simpa using hmg)
            clear hsK hp
            apply hK
            clear hK K
            go_simp
            refine wpAny_ready (rs := [4]) (by kernel_rfl) (by simp) ?_
            refine AllReady.cons rfl (fun K hK => ?_) ?_
            ·
              apply step_wp
              · rfl
              refine ow_call _ _ _ (by kernel_rfl) (hTC _ p g hAK hAT) ?_
              rintro e WT ⟨rfl, hAT1, hsT⟩
              refine ⟨_, rfl, ?_⟩
              have hkT : Keep [] w2 WT := hkK.trans' hsT (fun x hx => by right; simp at hx; omega)
              replace hbm := hbm.keep hsT (by simpa using hmg)
              replace hAT := hAT1
              clear hsT
              apply hK
              clear hK K
              go_simp
              refine wpAny_ready (rs := [6]) (by kernel_rfl) (by simp) ?_
              refine AllReady.cons rfl (fun K hK => ?_) ?_
              ·
                apply step_wp
                · rfl
                refine ow_store _ _ _ rfl m DT rfl rfl _ _ hbm (by rw [HDT.out]; exact blkCells) (by rw [HDT.out]; exact HZS.out) HDT1.out ?_
                intro WS hbS hsS
                have hkS : Keep [] w2 WS := hkT.trans' hsS (fun x hx => by right; simp at hx; omega)
                apply hK
                clear hK K
                go_simp
                refine wpAny_done (by kernel_rfl) ?_ _
                exact hR.out _ _ m ⟨rfl, rfl, by repeat (first | exact trivial | refine ⟨rfl, ?_⟩)⟩ hm hbS hkS
              exact AllReady.nil
            exact AllReady.nil
          exact AllReady.nil
        exact AllReady.nil
      exact AllReady.nil
    exact AllReady.nil
  refine AllReady.cons rfl (fun K hK => ?_) ?_
  ·
    apply step_wp
    · rfl
    refine ow_load _ _ rfl _ rfl 16 5 Try.underlying29 _ DK (LK _ hk0) (by rw [HDK.out]; exact blkCells) ?_
    apply hK
    clear hK K
    go_simp
    refine wpAny_ready (rs := [0, 3, 5]) (by kernel_rfl) (by simp) ?_
    refine AllReady.cons rfl (fun K hK => ?_) ?_
    ·
      apply step_wp
      · rfl
      refine ow_call _ _ _ (by kernel_rfl) (hN _) ?_
      rintro e WN ⟨g, rfl, hg, hAT, hsN⟩
      refine ⟨_, rfl, ?_⟩
      replace hg : w2.heap.size ≤ g := Nat.le_trans hk0.size hg
      have hkN : Keep [] w2 WN := hk0.trans hsN
      clear hsN
      apply hK
      clear hK K
      go_simp
      refine wpAny_ready (rs := [2, 3, 5]) (by kernel_rfl) (by simp) ?_
      refine AllReady.cons rfl (fun K hK => ?_) ?_
      ·
        apply step_wp
        · rfl
        refine ow_call _ _ _ (by kernel_rfl) (hKC _ g 0 hAT) ?_
        rintro e WK ⟨p, rfl, hp, hAK, hAT1, hsK⟩
        refine ⟨_, rfl, ?_⟩
        replace hAT := hAT1
        have hkK : Keep [] w2 WK := hkN.trans' hsK (fun x hx => by right; simp at hx; omega)
        clear hsK hp
        apply hK
        clear hK K
        go_simp
        refine wpAny_ready (rs := [3, 5]) (by kernel_rfl) (by simp) ?_
        refine AllReady.cons rfl (fun K hK => ?_) ?_
        ·
          apply step_wp
          · rfl
          refine ow_load _ _ rfl _ rfl 16 5 Try.underlying29 _ DB (LB _ hkK) (by rw [HDB.out]; exact blkCells) ?_
          apply hK
          clear hK K
          go_simp
          refine wpAny_ready (rs := [4, 5]) (by kernel_rfl) (by simp) ?_
          refine AllReady.cons rfl (fun K hK => ?_) ?_
          ·
            apply step_wp
            · rfl
            refine ow_call _ _ _ (by kernel_rfl) (hTC _ p g hAK hAT) ?_
            rintro e WT ⟨rfl, hAT1, hsT⟩
            refine ⟨_, rfl, ?_⟩
            have hkT : Keep [] w2 WT := hkK.trans' hsT (fun x hx => by right; simp at hx; omega)
            replace hAT := hAT1
            clear hsT
            apply hK
            clear hK K
            go_simp
            refine wpAny_ready (rs := [5]) (by kernel_rfl) (by simp) ?_
            refine AllReady.cons rfl (fun K hK => ?_) ?_
            ·
              apply step_wp
              · rfl
              refine ow_alloc _ rfl Z 16 HZI.out ?_
              intro m WA hm hbm hsA
              have hmg : m ≠ g := by have := hAT.lt; omega
              replace hAT := hAT.keep hsA (by simp)
              replace hm : w2.heap.size ≤ m := by rw [hm]; exact hkT.size
              have hkA : Keep [] w2 WA := hkT.trans hsA
              clear hsA
              apply hK
              clear hK K
              go_simp
              refine wpAny_ready (rs := [6]) (by kernel_rfl) (by simp) ?_
              refine AllReady.cons rfl (fun K hK => ?_) ?_
              ·
                apply step_wp
                · rfl
                refine ow_store _ _ _ rfl m DT rfl rfl _ _ hbm (by rw [HDT.out]; exact blkCells) (by rw [HDT.out]; exact HZS.out) HDT1.out ?_
                intro WS hbS hsS
                have hkS : Keep [] w2 WS := hkA.trans' hsS (fun x hx => by right; simp at hx; omega)
                apply hK
                clear hK K
                go_simp
                refine wpAny_done (by kernel_rfl) ?_ _
                exact hR.out _ _ m ⟨rfl, rfl, by repeat (first | exact trivial | refine ⟨rfl, ?_⟩)⟩ hm hbS hkS
              exact AllReady.nil
            exact AllReady.nil
          refine AllReady.cons rfl (fun K hK => ?_) ?_
          ·
            apply step_wp
            · rfl
            refine ow_alloc _ rfl Z 16 HZI.out ?_
            intro m WA hm hbm hsA
            have hmg : m ≠ g := by have := hAT.lt; omega
            replace hAT := hAT.keep hsA (by simp)
            replace hAK := hAK.keep hsA (by simp)
            replace hm : w2.heap.size ≤ m := by rw [hm]; exact hkK.size
            have hkA : Keep [] w2 WA := hkK.trans hsA
            clear hsA
            apply hK
            clear hK K
            go_simp
            refine wpAny_ready (rs := [4]) (by kernel_rfl) (by simp) ?_
            refine AllReady.cons rfl (fun K hK => ?_) ?_
            ·
              apply step_wp
              · rfl
              refine ow_call _ _ _ (by kernel_rfl) (hTC _ p g hAK hAT) ?_
              rintro e WT ⟨rfl, hAT1, hsT⟩
              refine ⟨_, rfl, ?_⟩
              have hkT : Keep [] w2 WT := hkA.trans' hsT (fun x hx => by right; simp at hx; omega)
              replace hbm := hbm.keep hsT (by simpa using hmg)
              replace hAT := hAT1
              clear hsT
              apply hK
              clear hK K
              go_simp
              refine wpAny_ready (rs := [6]) (by kernel_rfl) (by simp) ?_
              refine AllReady.cons rfl (fun K hK => ?_) ?_
              ·
                apply step_wp
                · rfl
                refine ow_store _ _ _ rfl m DT rfl rfl _ _ hbm (by rw [HDT.out]; exact blkCells) (by rw [HDT.out]; exact HZS.out) HDT1.out ?_
                intro WS hbS hsS
                have hkS : Keep [] w2 WS := hkT.trans' hsS (fun x hx => by right; simp at hx; omega)
                apply hK
                clear hK K
                go_simp
                refine wpAny_done (by kernel_rfl) ?_ _
                exact hR.out _ _ m ⟨rfl, rfl, by repeat (first | exact trivial | refine ⟨rfl, ?_⟩)⟩ hm hbS hkS
              exact AllReady.nil
            exact AllReady.nil
          exact AllReady.nil
        refine AllReady.cons rfl (fun K hK => ?_) ?_
        ·
          apply step_wp
          · rfl
          refine ow_alloc _ rfl Z 16 HZI.out ?_
          intro m WA hm hbm hsA
          have hmg : m ≠ g := by have := hAT.lt; omega
          replace hAT := hAT.keep hsA (by simp)
          replace hAK := hAK.keep hsA (by simp)
          replace hm : w2.heap.size ≤ m := by rw [hm]; exact hkK.size
          have hkA : Keep [] w2 WA := hkK.trans hsA
          clear hsA
          apply hK
          clear hK K
          go_simp
          refine wpAny_ready (rs := [3]) (by kernel_rfl) (by simp) ?_
          refine AllReady.cons rfl (fun K hK => ?_) ?_
          ·
            apply step_wp
            · rfl
            refine ow_load _ _ rfl _ rfl 16 5 Try.underlying29 _ DB (LB _ hkA) (by rw [HDB.out]; exact blkCells) ?_
            apply hK
            clear hK K
            go_simp
            refine wpAny_ready (rs := [4]) (by kernel_rfl) (by simp) ?_
            refine AllReady.cons rfl (fun K hK => ?_) ?_
            ·
              apply step_wp
              · rfl
              refine ow_call _ _ _ (by kernel_rfl) (hTC _ p g hAK hAT) ?_
              rintro e WT ⟨rfl, hAT1, hsT⟩
              refine ⟨_, rfl, ?_⟩
              have hkT : Keep [] w2 WT := hkA.trans' hsT (fun x hx => by right; simp at hx; omega)
              replace hbm := hbm.keep hsT (by simpa using hmg)
              replace hAT := hAT1
              clear hsT
              apply hK
              clear hK K
              go_simp
              refine wpAny_ready (rs := [6]) (by kernel_rfl) (by simp) ?_
              refine AllReady.cons rfl (fun K hK => ?_) ?_
              ·
                apply step_wp
                · rfl
                refine ow_store _ _ _ rfl m DT rfl rfl _ _ hbm (by rw [HDT.out]; exact blkCells) (by rw [HDT.out]; exact HZS.out) HDT1.out ?_
                intro WS hbS hsS
                have hkS : Keep [] w2 WS := hkT.trans' hsS (fun x hx => by right; simp at hx; omega)
                apply hK
                clear hK K
                go_simp
                refine wpAny_done (by kernel_rfl) ?_ _
                exact hR.out _ _ m ⟨rfl, rfl, by repeat (first | exact trivial | refine ⟨rfl, ?_⟩)⟩ hm hbS hkS
              exact AllReady.nil
            exact AllReady.nil
          exact AllReady.nil
        exact AllReady.nil
      refine AllReady.cons rfl (fun K hK => ?_) ?_
      ·
        apply step_wp
        · rfl
        refine ow_load _ _ rfl _ rfl 16 5 Try.underlying29 _ DB (LB _ hkN) (by rw [HDB.out]; exact blkCells) ?_
        apply hK
        clear hK K
        go_simp
        refine wpAny_ready (rs := [2, 5]) (by kernel_rfl) (by simp) ?_
        refine AllReady.cons rfl (fun K hK => ?_) ?_
        ·
          apply step_wp
          · rfl
          refine ow_call _ _ _ (by kernel_rfl) (hKC _ g 0 hAT) ?_
          rintro e WK ⟨p, rfl, hp, hAK, hAT1, hsK⟩
          refine ⟨_, rfl, ?_⟩
          replace hAT := hAT1
          have hkK : Keep [] w2 WK := hkN.trans' hsK (fun x hx => by right; simp at hx; omega)
          clear hsK hp
          apply hK
          clear hK K
          go_simp
          refine wpAny_ready (rs := [4, 5]) (by kernel_rfl) (by simp) ?_
          refine AllReady.cons rfl (fun K hK => ?_) ?_
          ·
            apply step_wp
            · rfl
            refine ow_call _ _ _ (by kernel_rfl) (hTC _ p g hAK hAT) ?_
            rintro e WT ⟨rfl, hAT1, hsT⟩
            refine ⟨_, rfl, ?_⟩
            have hkT : Keep [] w2 WT := hkK.trans' hsT (fun x hx => by right; simp at hx; omega)
            replace hAT := hAT1
            clear hsT
            apply hK
            clear hK K
            go_simp
            refine wpAny_ready (rs := [5]) (by kernel_rfl) (by simp) ?_
            refine AllReady.cons rfl (fun K hK => ?_) ?_
            ·
              apply step_wp
              · rfl
              refine ow_alloc _ rfl Z 16 HZI.out ?_
              intro m WA hm hbm hsA
              have hmg : m ≠ g := by have := hAT.lt; omega
              replace hAT := hAT.keep hsA (by simp)
              replace hm : w2.heap.size ≤ m := by rw [hm]; exact hkT.size
              have hkA : Keep [] w2 WA := hkT.trans hsA
              clear hsA
              apply hK
              clear hK K
              go_simp
              refine wpAny_ready (rs := [6]) (by kernel_rfl) (by simp) ?_
              refine AllReady.cons rfl (fun K hK => ?_) ?_
              ·
                apply step_wp
                · rfl
                refine ow_store _ _ _ rfl m DT rfl rfl _ _ hbm (by rw [HDT.out]; exact blkCells) (by rw [HDT.out]; exact HZS.out) HDT1.out ?_
                intro WS hbS hsS
                have hkS : Keep [] w2 WS := hkA.trans' hsS (fun x hx => by right; simp at hx; omega)
                apply hK
                clear hK K
                go_simp
                refine wpAny_done (by kernel_rfl) ?_ _
                exact hR.out _ _ m ⟨rfl, rfl, by repeat (first | exact trivial | refine ⟨rfl, ?_⟩)⟩ hm hbS hkS
              exact AllReady.nil
            exact AllReady.nil
          refine AllReady.cons rfl (fun K hK => ?_) ?_
          ·
            apply step_wp
            · rfl
            refine ow_alloc _ rfl Z 16 HZI.out ?_
            intro m WA hm hbm hsA
            have hmg : m ≠ g := by have := hAT.lt; omega
            replace hAT := hAT.keep hsA (by simp)
            replace hAK := hAK.keep hsA (by simp)
            replace hm : w2.heap.size ≤ m := by rw [hm]; exact hkK.size
            have hkA : Keep [] w2 WA := hkK.trans hsA
            clear hsA
            apply hK
            clear hK K
            go_simp
            refine wpAny_ready (rs := [4]) (by kernel_rfl) (by simp) ?_
            refine AllReady.cons rfl (fun K hK => ?_) ?_
            ·
              apply step_wp
              · rfl
              refine ow_call _ _ _ (by kernel_rfl) (hTC _ p g hAK hAT) ?_
              rintro e WT ⟨rfl, hAT1, hsT⟩
              refine ⟨_, rfl, ?_⟩
              have hkT : Keep [] w2 WT := hkA.trans' hsT (fun x hx => by right; simp at hx; omega)
              replace hbm := hbm.keep hsT (by simpa using hmg)
              replace hAT := hAT1
              clear hsT
              apply hK
              clear hK K
              go_simp
              refine wpAny_ready (rs := [6]) (by kernel_rfl) (by simp) ?_
              refine AllReady.cons rfl (fun K hK => ?_) ?_
              ·
                apply step_wp
                · rfl
                refine ow_store _ _ _ rfl m DT rfl rfl _ _ hbm (by rw [HDT.out]; exact blkCells) (by rw [HDT.out]; exact HZS.out) HDT1.out ?_
                intro WS hbS hsS
                have hkS : Keep [] w2 WS := hkT.trans' hsS (fun x hx => by right; simp at hx; omega)
                apply hK
                clear hK K
                go_simp
                refine wpAny_done (by kernel_rfl) ?_ _
                exact hR.out _ _ m ⟨rfl, rfl, by repeat (first | exact trivial | refine ⟨rfl, ?_⟩)⟩ hm hbS hkS
              exact AllReady.nil
            exact AllReady.nil
          exact AllReady.nil
        refine AllReady.cons rfl (fun K hK => ?_) ?_
        ·
          apply step_wp
          · rfl
          refine ow_alloc _ rfl Z 16 HZI.out ?_
          intro m WA hm hbm hsA
          have hmg : m ≠ g := by have := hAT.lt; omega
          replace hAT := hAT.keep hsA (by simp)
          replace hm : w2.heap.size ≤ m := by rw [hm]; exact hkN.size
          have hkA : Keep [] w2 WA := hkN.trans hsA
          clear hsA
          apply hK
          clear hK K
          go_simp
          refine wpAny_ready (rs := [2]) (by kernel_rfl) (by simp) ?_
          refine AllReady.cons rfl (fun K hK => ?_) ?_
          ·
            apply step_wp
            · rfl
            refine ow_call _ _ _ (by kernel_rfl) (hKC _ g 0 hAT) ?_
            rintro e WK ⟨p, rfl, hp, hAK, hAT1, hsK⟩
            refine ⟨_, rfl, ?_⟩
            replace hAT := hAT1
            have hkK : Keep [] w2 WK := hkA.trans' hsK (fun x hx => by right; simp at hx; omega)
            replace hbm := hbm.keep hsK (by simpa using hmg)
            clear hsK hp
            apply hK
            clear hK K
            go_simp
            refine wpAny_ready (rs := [4]) (by kernel_rfl) (by simp) ?_
            refine AllReady.cons rfl (fun K hK => ?_) ?_
            ·
              apply step_wp
              · rfl
              refine ow_call _ _ _ (by kernel_rfl) (hTC _ p g hAK hAT) ?_
              rintro e WT ⟨rfl, hAT1, hsT⟩
              refine ⟨_, rfl, ?_⟩
              have hkT : Keep [] w2 WT := hkK.trans' hsT (fun x hx => by right; simp at hx; omega)
              replace hbm := hbm.keep hsT (by simpa using hmg)
              replace hAT := hAT1
              clear hsT
              apply hK
              clear hK K
              go_simp
              refine wpAny_ready (rs := [6]) (by kernel_rfl) (by simp) ?_
              refine AllReady.cons rfl (fun K hK => ?_) ?_
              ·
                apply step_wp
                · rfl
                refine ow_store _ _ _ rfl m DT rfl rfl _ _ hbm (by rw [HDT.out]; exact blkCells) (by rw [HDT.out]; exact HZS.out) HDT1.out ?_
                intro WS hbS hsS
                have hkS : Keep [] w2 WS := hkT.trans' hsS (fun x hx => by right; simp at hx; omega)
                apply hK
                clear hK K
                go_simp
                refine wpAny_done (by kernel_rfl) ?_ _
                exact hR.out _ _ m ⟨rfl, rfl, by repeat (first | exact trivial | refine ⟨rfl, ?_⟩)⟩ hm hbS hkS
              exact AllReady.nil
            exact AllReady.nil
          exact AllReady.nil
        exact AllReady.nil
      refine AllReady.cons rfl (fun K hK => ?_) ?_
      ·
        apply step_wp
        · rfl
        refine ow_alloc _ rfl Z 16 HZI.out ?_
        intro m WA hm hbm hsA
        have hmg : m ≠ g := by have := hAT.lt; omega
        replace hAT := hAT.keep hsA (by simp)
        replace hm : w2.heap.size ≤ m := by rw [hm]; exact hkN.size
        have hkA : Keep [] w2 WA := hkN.trans hsA
        clear hsA
        apply hK
        clear hK K
        go_simp
        refine wpAny_ready (rs := [2, 3]) (by kernel_rfl) (by simp) ?_
        refine AllReady.cons rfl (fun K hK => ?_) ?_
        ·
          apply step_wp
          · rfl
          refine ow_call _ _ _ (by kernel_rfl) (hKC _ g 0 hAT) ?_
          rintro e WK ⟨p, rfl, hp, hAK, hAT1, hsK⟩
          refine ⟨_, rfl, ?_⟩
          replace hAT := hAT1
          have hkK : Keep [] w2 WK := hkA.trans' hsK (fun x hx => by right; simp at hx; omega)
          replace hbm := hbm.keep hsK (by simpa using hmg)
          clear hsK hp
          apply hK
          clear hK K
          go_simp
          refine wpAny_ready (rs := [3]) (by kernel_rfl) (by simp) ?_
          refine AllReady.cons rfl (fun K hK => ?_) ?_
          ·
            apply step_wp
            · rfl
            refine ow_load _ _ rfl _ rfl 16 5 Try.underlying29 _ DB (LB _ hkK) (by rw [HDB.out]; exact blkCells) ?_
            apply hK
            clear hK K
            go_simp
            refine wpAny_ready (rs := [4]) (by kernel_rfl) (by simp) ?_
            refine AllReady.cons rfl (fun K hK => ?_) ?_
            ·
              apply step_wp
              · rfl
              refine ow_call _ _ _ (by kernel_rfl) (hTC _ p g hAK hAT) ?_
              rintro e WT ⟨rfl, hAT1, hsT⟩
              refine ⟨_, rfl, ?_⟩
              have hkT : Keep [] w2 WT := hkK.trans' hsT (fun x hx => by right; simp at hx; omega)
              replace hbm := hbm.keep hsT (by simpa using hmg)
              replace hAT := hAT1
              clear hsT
              apply hK
              clear hK K
              go_simp
              refine wpAny_ready (rs := [6]) (by kernel_rfl) (by simp) ?_
              refine AllReady.cons rfl (fun K hK => ?_) ?_
              ·
                apply step_wp
                · rfl
                refine ow_store _ _ _ rfl m DT rfl rfl _ _ hbm (by rw [HDT.out]; exact blkCells) (by rw [HDT.out]; exact HZS.out) HDT1.out ?_
                intro WS hbS hsS
                have hkS : Keep [] w2 WS := hkT.trans' hsS (fun x hx => by right; simp at hx; omega)
                apply hK
                clear hK K
                go_simp
                refine wpAny_done (by kernel_rfl) ?_ _
                exact hR.out _ _ m ⟨rfl, rfl, by repeat (first | exact trivial | refine ⟨rfl, ?_⟩)⟩ hm hbS hkS
              exact AllReady.nil
            exact AllReady.nil
          exact AllReady.nil
        refine AllReady.cons rfl (fun K hK => ?_) ?_
        ·
          apply step_wp
          · rfl
          refine ow_load _ _ rfl _ rfl 16 5 Try.underlying29 _ DB (LB _ hkA) (by rw [HDB.out]; exact blkCells) ?_
          apply hK
          clear hK K
          go_simp
          refine wpAny_ready (rs := [2]) (by kernel_rfl) (by simp) ?_
          refine AllReady.cons rfl (fun K hK => ?_) ?_
          ·
            apply step_wp
            · rfl
            refine ow_call _ _ _ (by kernel_rfl) (hKC _ g 0 hAT) ?_
            rintro e WK ⟨p, rfl, hp, hAK, hAT1, hsK⟩
            refine ⟨_, rfl, ?_⟩
            replace hAT := hAT1
            have hkK : Keep [] w2 WK := hkA.trans' hsK (fun x hx => by right; simp at hx; omega)
            replace hbm := hbm.keep hsK (by simpa using hmg)
            clear hsK hp
            apply hK
            clear hK K
            go_simp
            refine wpAny_ready (rs := [4]) (by kernel_rfl) (by simp) ?_
            refine AllReady.cons rfl (fun K hK => ?_) ?_
            ·
              apply step_wp
              · rfl
              refine ow_call _ _ _ (by kernel_rfl) (hTC _ p g hAK hAT) ?_
              rintro e WT ⟨rfl, hAT1, hsT⟩
              refine ⟨_, rfl, ?_⟩
              have hkT : Keep [] w2 WT := hkK.trans' hsT (fun x hx => by right; simp at hx; omega)
              replace hbm := hbm.keep hsT (by simpa using hmg)
              replace hAT := hAT1
              clear hsT
              apply hK
              clear hK K
              go_simp
              refine wpAny_ready (rs := [6]) (by kernel_rfl) (by simp) ?_
              refine AllReady.cons rfl (fun K hK => ?_) ?_
              ·
                apply step_wp
                · rfl
                refine ow_store _ _ _ rfl m DT rfl rfl _ _ hbm (by rw [HDT.out]; exact blkCells) (by rw [HDT.out]; exact HZS.out) HDT1.out ?_
                intro WS hbS hsS
                have hkS : Keep [] w2 WS := hkT.trans' hsS (fun x hx => by right; simp at hx; omega)
                apply hK
                clear hK K
                go_simp
                refine wpAny_done (by kernel_rfl) ?_ _
                exact hR.out _ _ m ⟨rfl, rfl, by repeat (first | exact trivial | refine ⟨rfl, ?_⟩)⟩ hm hbS hkS
              exact AllReady.nil
            exact AllReady.nil
          exact AllReady.nil
        exact AllReady.nil
      exact AllReady.nil
    refine AllReady.cons rfl (fun K hK => ?_) ?_
    ·
      apply step_wp
      · rfl
      refine ow_load _ _ rfl _ rfl 16 5 Try.underlying29 _ DB (LB _ hk0) (by rw [HDB.out]; exact blkCells) ?_
      apply hK
      clear hK K
      go_simp
      refine wpAny_ready (rs := [0, 5]) (by kernel_rfl) (by simp) ?_
      refine AllReady.cons rfl (fun K hK => ?_) ?_
      ·
        apply step_wp
        · rfl
        refine ow_call _ _ _ (by kernel_rfl) (hN _) ?_
        rintro e WN ⟨g, rfl, hg, hAT, hsN⟩
        refine ⟨_, rfl, ?_⟩
        replace hg : w2.heap.size ≤ g := Nat.le_trans hk0.size hg
        have hkN : Keep [] w2 WN := hk0.trans hsN
        clear hsN
        apply hK
        clear hK K
        go_simp
        refine wpAny_ready (rs := [2, 5]) (by kernel_rfl) (by simp) ?_
        refine AllReady.cons rfl (fun K hK => ?_) ?_
        ·
          apply step_wp
          · rfl
          refine ow_call _ _ _ (by kernel_rfl) (hKC _ g 0 hAT) ?_
          rintro e WK ⟨p, rfl, hp, hAK, hAT1, hsK⟩
          refine ⟨_, rfl, ?_⟩
          replace hAT := hAT1
          have hkK : Keep [] w2 WK := hkN.trans' hsK (fun x hx => by right; simp at hx; omega)
          clear hsK hp
          apply hK
          clear hK K
          go_simp
          refine wpAny_ready (rs := [4, 5]) (by kernel_rfl) (by simp) ?_
          refine AllReady.cons rfl (fun K hK => ?_) ?_
          ·
            apply step_wp
            · rfl
            refine ow_call _ _ _ (by kernel_rfl) (hTC _ p g hAK hAT) ?_
            rintro e WT ⟨rfl, hAT1, hsT⟩
            refine ⟨_, rfl, ?_⟩
            have hkT : Keep [] w2 WT := hkK.trans' hsT (fun x hx => by right; simp at hx; omega)
            replace hAT := hAT1
            clear hsT
            apply hK
            clear hK K
            go_simp
            refine wpAny_ready (rs := [5]) (by kernel_rfl) (by simp) ?_
            refine AllReady.cons rfl (fun K hK => ?_) ?_
            ·
              apply step_wp
              · rfl
              refine ow_alloc _ rfl Z 16 HZI.out ?_
              intro m WA hm hbm hsA
              have hmg : m ≠ g := by have := hAT.lt; omega
              replace hAT := hAT.keep hsA (by simp)
              replace hm : w2.heap.size ≤ m := by rw [hm]; exact hkT.size
              have hkA : Keep [] w2 WA := hkT.trans hsA
              clear hsA
              apply hK
              clear hK K
              go_simp
              refine wpAny_ready (rs := [6]) (by kernel_rfl) (by simp) ?_
              refine AllReady.cons rfl (fun K hK => ?_) ?_
              ·
                apply step_wp
                · rfl
                refine ow_store _ _ _ rfl m DT rfl rfl _ _ hbm (by rw [HDT.out]; exact blkCells) (by rw [HDT.out]; exact HZS.out) HDT1.out ?_
                intro WS hbS hsS
                have hkS : Keep [] w2 WS := hkA.trans' hsS (fun x hx => by right; simp at hx; omega)
                apply hK
                clear hK K
                go_simp
                refine wpAny_done (by kernel_rfl) ?_ _
                exact hR.out _ _ m ⟨rfl, rfl, by repeat (first | exact trivial | refine ⟨rfl, ?_⟩)⟩ hm hbS hkS
              exact AllReady.nil
            exact AllReady.nil
          refine AllReady.cons rfl (fun K hK => ?_) ?_
          ·
            apply step_wp
            · rfl
            refine ow_alloc _ rfl Z 16 HZI.out ?_
            intro m WA hm hbm hsA
            have hmg : m ≠ g := by have := hAT.lt; omega
            replace hAT := hAT.keep hsA (by simp)
            replace hAK := hAK.keep hsA (by simp)
            replace hm : w2.heap.size ≤ m := by rw [hm]; exact hkK.size
            have hkA : Keep [] w2 WA := hkK.trans hsA
            clear hsA
            apply hK
            clear hK K
            go_simp
            refine wpAny_ready (rs := [4]) (by kernel_rfl) (by simp) ?_
            refine AllReady.cons rfl (fun K hK => ?_) ?_
            ·
              apply step_wp
              · rfl
              refine ow_call _ _ _ (by kernel_rfl) (hTC _ p g hAK hAT) ?_
              rintro e WT ⟨rfl, hAT1, hsT⟩
              refine ⟨_, rfl, ?_⟩
              have hkT : Keep [] w2 WT := hkA.trans' hsT (fun x hx => by right; simp at hx; omega)
              replace hbm := hbm.keep hsT (by simpa using hmg)
              replace hAT := hAT1
              clear hsT
              apply hK
              clear hK K
              go_simp
              refine wpAny_ready (rs := [6]) (by kernel_rfl) (by simp) ?_
              refine AllReady.cons rfl (fun K hK => ?_) ?_
              ·
                apply step_wp
                · rfl
                refine ow_store _ _ _ rfl m DT rfl rfl _ _ hbm (by rw [HDT.out]; exact blkCells) (by rw [HDT.out]; exact HZS.out) HDT1.out ?_
                intro WS hbS hsS
                have hkS : Keep [] w2 WS := hkT.trans' hsS (fun x hx => by right; simp at hx; omega)
                apply hK
                clear hK K
                go_simp
                refine wpAny_done (by kernel_rfl) ?_ _
                exact hR.out _ _ m ⟨rfl, rfl, by repeat (first | exact trivial | refine ⟨rfl, ?_⟩)⟩ hm hbS hkS
              exact AllReady.nil
            exact AllReady.nil
          exact AllReady.nil
        refine AllReady.cons rfl (fun K hK => ?_) ?_
        ·
          apply step_wp
          · rfl
          refine ow_alloc _ rfl Z 16 HZI.out ?_
          intro m WA hm hbm hsA
          have hmg : m ≠ g := by have := hAT.lt; omega
          replace hAT := hAT.keep hsA (by simp)
          replace hm : w2.heap.size ≤ m := by rw [hm]; exact hkN.size
          have hkA : Keep [] w2 WA := hkN.trans hsA
          clear hsA
          apply hK
          clear hK K
          go_simp
          refine wpAny_ready (rs := [2]) (by kernel_rfl) (by simp) ?_
          refine AllReady.cons rfl (fun K hK => ?_) ?_
          ·
            apply step_wp
            · rfl
            refine ow_call _ _ _ (by kernel_rfl) (hKC _ g 0 hAT) ?_
            rintro e WK ⟨p, rfl, hp, hAK, hAT1, hsK⟩
            refine ⟨_, rfl, ?_⟩
            replace hAT := hAT1
            have hkK : Keep [] w2 WK := hkA.trans' hsK (fun x hx => by right; simp at hx; omega)
            replace hbm := hbm.keep hsK (by simpa using hmg)
            clear hsK hp
            apply hK
            clear hK K
            go_simp
            refine wpAny_ready (rs := [4]) (by kernel_rfl) (by simp) ?_
            refine AllReady.cons rfl (fun K hK => ?_) ?_
            ·
              apply step_wp
              · rfl
              refine ow_call _ _ _ (by kernel_rfl) (hTC _ p g hAK hAT) ?_
              rintro e WT ⟨rfl, hAT1, hsT⟩
              refine ⟨_, rfl, ?_⟩
              have hkT : Keep [] w2 WT := hkK.trans' hsT (fun x hx => by right; simp at hx; omega)
              replace hbm := hbm.keep hsT (by simpa using hmg)
              replace hAT := hAT1
              clear hsT
              apply hK
              clear hK K
              go_simp
              refine wpAny_ready (rs := [6]) (by kernel_rfl) (by simp) ?_
              refine AllReady.cons rfl (fun K hK => ?_) ?_
              ·
                apply step_wp
                · rfl
                refine ow_store _ _ _ rfl m DT rfl rfl _ _ hbm (by rw [HDT.out]; exact blkCells) (by rw [HDT.out]; exact HZS.out) HDT1.out ?_
                intro WS hbS hsS
                have hkS : Keep [] w2 WS := hkT.trans' hsS (fun x hx => by right; simp at hx; omega)
                apply hK
                clear hK K
                go_simp
                refine wpAny_done (by kernel_rfl) ?_ _
                exact hR.out _ _ m ⟨rfl, rfl, by repeat (first | exact trivial | refine ⟨rfl, ?_⟩)⟩ hm hbS hkS
              exact AllReady.nil
            exact AllReady.nil
          exact AllReady.nil
        exact AllReady.nil
      refine AllReady.cons rfl (fun K hK => ?_) ?_
      ·
        apply step_wp
        · rfl
        refine ow_alloc _ rfl Z 16 HZI.out ?_
        intro m WA hm hbm hsA
        replace hm : w2.heap.size ≤ m := by rw [hm]; exact hk0.size
        have hkA : Keep [] w2 WA := hk0.trans hsA
        clear hsA
        apply hK
        clear hK K
        go_simp
        refine wpAny_ready (rs := [0]) (by kernel_rfl) (by simp) ?_
        refine AllReady.cons rfl (fun K hK => ?_) ?_
        ·
          apply step_wp
          · rfl
          refine ow_call _ _ _ (by kernel_rfl) (hN _) ?_
          rintro e WN ⟨g, rfl, hg, hAT, hsN⟩
          refine ⟨_, rfl, ?_⟩
          have hmg : m ≠ g := by have := hbm.lt; omega
          replace hbm := hbm.keep hsN (by simp)
          replace hg : w2.heap.size ≤ g := Nat.le_trans hkA.size hg
          have hkN : Keep [] w2 WN := hkA.trans hsN
          clear hsN
          apply hK
          clear hK K
          go_simp
          refine wpAny_ready (rs := [2]) (by kernel_rfl) (by simp) ?_
          refine AllReady.cons rfl (fun K hK => ?_) ?_
          ·
            apply step_wp
            · rfl
            refine ow_call _ _ _ (by kernel_rfl) (hKC _ g 0 hAT) ?_
            rintro e WK ⟨p, rfl, hp, hAK, hAT1, hsK⟩
            refine ⟨_, rfl, ?_⟩
            replace hAT := hAT1
            have hkK : Keep [] w2 WK := hkN.trans' hsK (fun x hx => by right; simp at hx; omega)
            replace hbm := hbm.keep hsK (by simpa using hmg)
            clear hsK hp
            apply hK
            clear hK K
            go_simp
            refine wpAny_ready (rs := [4]) (by kernel_rfl) (by simp) ?_
            refine AllReady.cons rfl (fun K hK => ?_) ?_
            ·
              apply step_wp
              · rfl
              refine ow_call _ _ _ (by kernel_rfl) (hTC _ p g hAK hAT) ?_
              rintro e WT ⟨rfl, hAT1, hsT⟩
              refine ⟨_, rfl, ?_⟩
              have hkT : Keep [] w2 WT := hkK.trans' hsT (fun x hx => by right; simp at hx; omega)
              replace hbm := hbm.keep hsT (by simpa using hmg)
              replace hAT := hAT1
              clear hsT
              apply hK
              clear hK K
              go_simp
              refine wpAny_ready (rs := [6]) (by kernel_rfl) (by simp) ?_
              refine AllReady.cons rfl (fun K hK => ?_) ?_
              ·
                apply step_wp
                · rfl
                refine ow_store _ _ _ rfl m DT rfl rfl _ _ hbm (by rw [HDT.out]; exact blkCells) (by rw [HDT.out]; exact HZS.out) HDT1.out ?_
                intro WS hbS hsS
                have hkS : Keep [] w2 WS := hkT.trans' hsS (fun x hx => by right; simp at hx; omega)
                apply hK
                clear hK K
                go_simp
                refine wpAny_done (by kernel_rfl) ?_ _
                exact hR.out _ _ m ⟨rfl, rfl, by repeat (first | exact trivial | refine ⟨rfl, ?_⟩)⟩ hm hbS hkS
              exact AllReady.nil
            exact AllReady.nil
          exact AllReady.nil
        exact AllReady.nil
      exact AllReady.nil
    refine AllReady.cons rfl (fun K hK => ?_) ?_
    ·
      apply step_wp
      · rfl
      refine ow_alloc _ rfl Z 16 HZI.out ?_
      intro m WA hm hbm hsA
      replace hm : w2.heap.size ≤ m := by rw [hm]; exact hk0.size
      have hkA : Keep [] w2 WA := hk0.trans hsA
      clear hsA
      apply hK
      clear hK K
      go_simp
      refine wpAny_ready (rs := [0, 3]) (by kernel_rfl) (by simp) ?_
      refine AllReady.cons rfl (fun K hK => ?_) ?_
      ·
        apply step_wp
        · rfl
        refine ow_call _ _ _ (by kernel_rfl) (hN _) ?_
        rintro e WN ⟨g, rfl, hg, hAT, hsN⟩
        refine ⟨_, rfl, ?_⟩
        have hmg : m ≠ g := by have := hbm.lt; omega
        replace hbm := hbm.keep hsN (by simp)
        replace hg : w2.heap.size ≤ g := Nat.le_trans hkA.size hg
        have hkN : Keep [] w2 WN := hkA.trans hsN
        clear hsN
        apply hK
        clear hK K
        go_simp
        refine wpAny_ready (rs := [2, 3]) (by kernel_rfl) (by simp) ?_
        refine AllReady.cons rfl (fun K hK => ?_) ?_
        ·
          apply step_wp
          · rfl
          refine ow_call _ _ _ (by kernel_rfl) (hKC _ g 0 hAT) ?_
          rintro e WK ⟨p, rfl, hp, hAK, hAT1, hsK⟩
          refine ⟨_, rfl, ?_⟩
          replace hAT := hAT1
          have hkK : Keep [] w2 WK := hkN.trans' hsK (fun x hx => by right; simp at hx; omega)
          replace hbm := hbm.keep hsK (by simpa using hmg)
          clear hsK hp
          apply hK
          clear hK K
          go_simp
          refine wpAny_ready (rs := [3]) (by kernel_rfl) (by simp) ?_
          refine AllReady.cons rfl (fun K hK => ?_) ?_
          ·
            apply step_wp
            · rfl
            refine ow_load _ _ rfl _ rfl 16 5 Try.underlying29 _ DB (LB _ hkK) (by rw [HDB.out]; exact blkCells) ?_
            apply hK
            clear hK K
            go_simp
            refine wpAny_ready (rs := [4]) (by kernel_rfl) (by simp) ?_
            refine AllReady.cons rfl (fun K hK => ?_) ?_
            ·
              apply step_wp
              · rfl
              refine ow_call _ _ _ (by kernel_rfl) (hTC _ p g hAK hAT) ?_
              rintro e WT ⟨rfl, hAT1, hsT⟩
              refine ⟨_, rfl, ?_⟩
              have hkT : Keep [] w2 WT := hkK.trans' hsT (fun x hx => by right; simp at hx; omega)
              replace hbm := hbm.keep hsT (by simpa using hmg)
              replace hAT := hAT1
              clear hsT
              apply hK
              clear hK K
              go_simp
              refine wpAny_ready (rs := [6]) (by kernel_rfl) (by simp) ?_
              refine AllReady.cons rfl (fun K hK => ?_) ?_
              ·
                apply step_wp
                · rfl
                refine ow_store _ _ _ rfl m DT rfl rfl _ _ hbm (by rw [HDT.out]; exact blkCells) (by rw [HDT.out]; exact HZS.out) HDT1.out ?_
                intro WS hbS hsS
                have hkS : Keep [] w2 WS := hkT.trans' hsS (fun x hx => by right; simp at hx; omega)
                apply hK
                clear hK K
                go_simp
                refine wpAny_done (by kernel_rfl) ?_ _
                exact hR.out _ _ m ⟨rfl, rfl, by repeat (first | exact trivial | refine ⟨rfl, ?_⟩)⟩ hm hbS hkS
              exact AllReady.nil
            exact AllReady.nil
          exact AllReady.nil
        refine AllReady.cons rfl (fun K hK => ?_) ?_
        ·
          apply step_wp
          · rfl
          refine ow_load _ _ rfl _ rfl 16 5 Try.underlying29 _ DB (LB _ hkN) (by rw [HDB.out]; exact blkCells) ?_
          apply hK
          clear hK K
          go_simp
          refine wpAny_ready (rs := [2]) (by kernel_rfl) (by simp) ?_
          refine AllReady.cons rfl (fun K hK => ?_) ?_
          ·
            apply step_wp
            · rfl
            refine ow_call _ _ _ (by kernel_rfl) (hKC _ g 0 hAT) ?_
            rintro e WK ⟨p, rfl, hp, hAK, hAT1, hsK⟩
            refine ⟨_, rfl, ?_⟩
            replace hAT := hAT1
            have hkK : Keep [] w2 WK := hkN.trans' hsK (fun x hx => by right; simp at hx; omega)
            replace hbm := hbm.keep hsK (by simpa using hmg)
            clear hsK hp
            apply hK
            clear hK K
            go_simp
            refine wpAny_ready (rs := [4]) (by kernel_rfl) (by simp) ?_
            refine AllReady.cons rfl (fun K hK => ?_) ?_
            ·
              apply step_wp
              · rfl
              refine ow_call _ _ _ (by kernel_rfl) (hTC _ p g hAK hAT) ?_
              rintro e WT ⟨rfl, hAT1, hsT⟩
              refine ⟨_, rfl, ?_⟩
              have hkT : Keep [] w2 WT := hkK.trans' hsT (fun x hx => by right; simp at hx; omega)
              replace hbm := hbm.keep hsT (by simpa using hmg)
              replace hAT := hAT1
              clear hsT
              apply hK
              clear hK K
              go_simp
              refine wpAny_ready (rs := [6]) (by kernel_rfl) (by simp) ?_
              refine AllReady.cons rfl (fun K hK => ?_) ?_
              ·
                apply step_wp
                · rfl
                refine ow_store _ _ _ rfl m DT rfl rfl _ _ hbm (by rw [HDT.out]; exact blkCells) (by rw [HDT.out]; exact HZS.out) HDT1.out ?_
                intro WS hbS hsS
                have hkS : Keep [] w2 WS := hkT.trans' hsS (fun x hx => by right; simp at hx; omega)
                apply hK
                clear hK K
                go_simp
                refine wpAny_done (by kernel_rfl) ?_ _
                exact hR.out _ _ m ⟨rfl, rfl, by repeat (first | exact trivial | refine ⟨rfl, ?_⟩)⟩ hm hbS hkS
              exact AllReady.nil
            exact AllReady.nil
          exact AllReady.nil
        exact AllReady.nil
      refine AllReady.cons rfl (fun K hK => ?_) ?_
      ·
        apply step_wp
        · rfl
        refine ow_load _ _ rfl _ rfl 16 5 Try.underlying29 _ DB (LB _ hkA) (by rw [HDB.out]; exact blkCells) ?_
        apply hK
        clear hK K
        go_simp
        refine wpAny_ready (rs := [0]) (by kernel_rfl) (by simp) ?_
        refine AllReady.cons rfl (fun K hK => ?_) ?_
        ·
          apply step_wp
          · rfl
          refine ow_call _ _ _ (by kernel_rfl) (hN _) ?_
          rintro e WN ⟨g, rfl, hg, hAT, hsN⟩
          refine ⟨_, rfl, ?_⟩
          have hmg : m ≠ g := by have := hbm.lt; omega
          replace hbm := hbm.keep hsN (by simp)
          replace hg : w2.heap.size ≤ g := Nat.le_trans hkA.size hg
          have hkN : Keep [] w2 WN := hkA.trans hsN
          clear hsN
          apply hK
          clear hK K
          go_simp
          refine wpAny_ready (rs := [2]) (by kernel_rfl) (by simp) ?_
          refine AllReady.cons rfl (fun K hK => ?_) ?_
          ·
            apply step_wp
            · rfl
            refine ow_call _ _ _ (by kernel_rfl) (hKC _ g 0 hAT) ?_
            rintro e WK ⟨p, rfl, hp, hAK, hAT1, hsK⟩
            refine ⟨_, rfl, ?_⟩
            replace hAT := hAT1
            have hkK : Keep [] w2 WK := hkN.trans' hsK (fun x hx => by right; simp at hx; omega)
            replace hbm := hbm.keep hsK (by simpa using hmg)
            clear hsK hp
            apply hK
            clear hK K
            go_simp
            refine wpAny_ready (rs := [4]) (by kernel_rfl) (by simp) ?_
            refine AllReady.cons rfl (fun K hK => ?_) ?_
            ·
              apply step_wp
              · rfl
              refine ow_call _ _ _ (by kernel_rfl) (hTC _ p g hAK hAT) ?_
              rintro e WT ⟨rfl, hAT1, hsT⟩
              refine ⟨_, rfl, ?_⟩
              have hkT : Keep [] w2 WT := hkK.trans' hsT (fun x hx => by right; simp at hx; omega)
              replace hbm := hbm.keep hsT (by simpa using hmg)
              replace hAT := hAT1
              clear hsT
              apply hK
              clear hK K
              go_simp
              refine wpAny_ready (rs := [6]) (by kernel_rfl) (by simp) ?_
              refine AllReady.cons rfl (fun K hK => ?_) ?_
              ·
                apply step_wp
                · rfl
                refine ow_store _ _ _ rfl m DT rfl rfl _ _ hbm (by rw [HDT.out]; exact blkCells) (by rw [HDT.out]; exact HZS.out) HDT1.out ?_
                intro WS hbS hsS
                have hkS : Keep [] w2 WS := hkT.trans' hsS (fun x hx => by right; simp at hx; omega)
                apply hK
                clear hK K
                go_simp
                refine wpAny_done (by kernel_rfl) ?_ _
                exact hR.out _ _ m ⟨rfl, rfl, by repeat (first | exact trivial | refine ⟨rfl, ?_⟩)⟩ hm hbS hkS
              exact AllReady.nil
            exact AllReady.nil
          exact AllReady.nil
        exact AllReady.nil
      exact AllReady.nil
    exact AllReady.nil
  refine AllReady.cons rfl (fun K hK => ?_) ?_
  ·
    apply step_wp
    · rfl
    refine ow_load _ _ rfl _ rfl 16 5 Try.underlying29 _ DB (LB _ hk0) (by rw [HDB.out]; exact blkCells) ?_
    apply hK
    clear hK K
    go_simp
    refine wpAny_ready (rs := [0, 1, 5]) (by kernel_rfl) (by simp) ?_
    refine AllReady.cons rfl (fun K hK => ?_) ?_
    ·
      apply step_wp
      · rfl
      refine ow_call _ _ _ (by kernel_rfl) (hN _) ?_
      rintro e WN ⟨g, rfl, hg, hAT, hsN⟩
      refine ⟨_, rfl, ?_⟩
      replace hg : w2.heap.size ≤ g := Nat.le_trans hk0.size hg
      have hkN : Keep [] w2 WN := hk0.trans hsN
      clear hsN
      apply hK
      clear hK K
      go_simp
      refine wpAny_ready (rs := [1, 5]) (by kernel_rfl) (by simp) ?_
      refine AllReady.cons rfl (fun K hK => ?_) ?_
      ·
        apply step_wp
        · rfl
        refine ow_load _ _ rfl _ rfl 16 5 Try.underlying29 _ DK (LK _ hkN) (by rw [HDK.out]; exact blkCells) ?_
        apply hK
        clear hK K
        go_simp
        refine wpAny_ready (rs := [2, 5]) (by kernel_rfl) (by simp) ?_
        refine AllReady.cons rfl (fun K hK => ?_) ?_
        ·
          apply step_wp
          · rfl
          refine ow_call _ _ _ (by kernel_rfl) (hKC _ g 0 hAT) ?_
          rintro e WK ⟨p, rfl, hp, hAK, hAT1, hsK⟩
          refine ⟨_, rfl, ?_⟩
          replace hAT := hAT1
          have hkK : Keep [] w2 WK := hkN.trans' hsK (fun x hx => by right; simp at hx; omega)
          clear hsK hp
          apply hK
          clear hK K
          go_simp
          refine wpAny_ready (rs := [4, 5]) (by kernel_rfl) (by simp) ?_
          refine AllReady.cons rfl (fun K hK => ?_) ?_
          ·
            apply step_wp
            · rfl
            refine ow_call _ _ _ (by kernel_rfl) (hTC _ p g hAK hAT) ?_
            rintro e WT ⟨rfl, hAT1, hsT⟩
            refine ⟨_, rfl, ?_⟩
            have hkT : Keep [] w2 WT := hkK.trans' hsT (fun x hx => by right; simp at hx; omega)
            replace hAT := hAT1
            clear hsT
            apply hK
            clear hK K
            go_simp
            refine wpAny_ready (rs := [5]) (by kernel_rfl) (by simp) ?_
            refine AllReady.cons rfl (fun K hK => ?_) ?_
            ·
              apply step_wp
              · rfl
              refine ow_alloc _ rfl Z 16 HZI.out ?_
              intro m WA hm hbm hsA
              have hmg : m ≠ g := by have := hAT.lt; omega
              replace hAT := hAT.keep hsA (by simp)
              replace hm : w2.heap.size ≤ m := by rw [hm]; exact hkT.size
              have hkA : Keep [] w2 WA := hkT.trans hsA
              clear hsA
              apply hK
              clear hK K
              go_simp
              refine wpAny_ready (rs := [6]) (by kernel_rfl) (by simp) ?_
              refine AllReady.cons rfl (fun K hK => ?_) ?_
              ·
                apply step_wp
                · rfl
                refine ow_store _ _ _ rfl m DT rfl rfl _ _ hbm (by rw [HDT.out]; exact blkCells) (by rw [HDT.out]; exact HZS.out) HDT1.out ?_
                intro WS hbS hsS
                have hkS : Keep [] w2 WS := hkA.trans' hsS (fun x hx => by right; simp at hx; omega)
                apply hK
                clear hK K
                go_simp
                refine wpAny_done (by kernel_rfl) ?_ _
                exact hR.out _ _ m ⟨rfl, rfl, by repeat (first | exact trivial | refine ⟨rfl, ?_⟩)⟩ hm hbS hkS
              exact AllReady.nil
            exact AllReady.nil
          refine AllReady.cons rfl (fun K hK => ?_) ?_
          ·
            apply step_wp
            · rfl
            refine ow_alloc _ rfl Z 16 HZI.out ?_
            intro m WA hm hbm hsA
            have hmg : m ≠ g := by have := hAT.lt; omega
            replace hAT := hAT.keep hsA (by simp)
            replace hAK := hAK.keep hsA (by simp)
            replace hm : w2.heap.size ≤ m := by rw [hm]; exact hkK.size
            have hkA : Keep [] w2 WA := hkK.trans hsA
            clear hsA
            apply hK
            clear hK K
            go_simp
            refine wpAny_ready (rs := [4]) (by kernel_rfl) (by simp) ?_
            refine AllReady.cons rfl (fun K hK => ?_) ?_
            ·
              apply step_wp
              · rfl
              refine ow_call _ _ _ (by kernel_rfl) (hTC _ p g hAK hAT) ?_
              rintro e WT ⟨rfl, hAT1, hsT⟩
              refine ⟨_, rfl, ?_⟩
              have hkT : Keep [] w2 WT := hkA.trans' hsT (fun x hx => by right; simp at hx; omega)
              replace hbm := hbm.keep hsT (by simpa using hmg)
              replace hAT := hAT1
              clear hsT
              apply hK
              clear hK K
              go_simp
              refine wpAny_ready (rs := [6]) (by kernel_rfl) (by simp) ?_
              refine AllReady.cons rfl (fun K hK => ?_) ?_
              ·
                apply step_wp
                · rfl
                refine ow_store _ _ _ rfl m DT rfl rfl _ _ hbm (by rw [HDT.out]; exact blkCells) (by rw [HDT.out]; exact HZS.out) HDT1.out ?_
                intro WS hbS hsS
                have hkS : Keep [] w2 WS := hkT.trans' hsS (fun x hx => by right; simp at hx; omega)
                apply hK
                clear hK K
                go_simp
                refine wpAny_done (by kernel_rfl) ?_ _
                exact hR.out _ _ m ⟨rfl, rfl, by repeat (first | exact trivial | refine ⟨rfl, ?_⟩)⟩ hm hbS hkS
              exact AllReady.nil
            exact AllReady.nil
          exact AllReady.nil
        refine AllReady.cons rfl (fun K hK => ?_) ?_
        ·
          apply step_wp
          · rfl
          refine ow_alloc _ rfl Z 16 HZI.out ?_
          intro m WA hm hbm hsA
          have hmg : m ≠ g := by have := hAT.lt; omega
          replace hAT := hAT.keep hsA (by simp)
          replace hm : w2.heap.size ≤ m := by rw [hm]; exact hkN.size
          have hkA : Keep [] w2 WA := hkN.trans hsA
          clear hsA
          apply hK
          clear hK K
          go_simp
          refine wpAny_ready (rs := [2]) (by kernel_rfl) (by simp) ?_
          refine AllReady.cons rfl (fun K hK => ?_) ?_
          ·
            apply step_wp
            · rfl
            refine ow_call _ _ _ (by kernel_rfl) (hKC _ g 0 hAT) ?_
            rintro e WK ⟨p, rfl, hp, hAK, hAT1, hsK⟩
            refine ⟨_, rfl, ?_⟩
            replace hAT := hAT1
            have hkK : Keep [] w2 WK := hkA.trans' hsK (fun x hx => by right; simp at hx; omega)
            replace hbm := hbm.keep hsK (by simpa using hmg)
            clear hsK hp
            apply hK
            clear hK K
            go_simp
            refine wpAny_ready (rs := [4]) (by kernel_rfl) (by simp) ?_
            refine AllReady.cons rfl (fun K hK => ?_) ?_
            ·
              apply step_wp
              · rfl
              refine ow_call _ _ _ (by kernel_rfl) (hTC _ p g hAK hAT) ?_
              rintro e WT ⟨rfl, hAT1, hsT⟩
              refine ⟨_, rfl, ?_⟩
              have hkT : Keep [] w2 WT := hkK.trans' hsT (fun x hx => by right; simp at hx; omega)
              replace hbm := hbm.keep hsT (by simpa using hmg)
              replace hAT := hAT1
              clear hsT
              apply hK
              clear hK K
              go_simp
              refine wpAny_ready (rs := [6]) (by kernel_rfl) (by simp) ?_
              refine AllReady.cons rfl (fun K hK => ?_) ?_
              ·
                apply step_wp
                · rfl
                refine ow_store _ _ _ rfl m DT rfl rfl _ _ hbm (by rw [HDT.out]; exact blkCells) (by rw [HDT.out]; exact HZS.out) HDT1.out ?_
                intro WS hbS hsS
                have hkS : Keep [] w2 WS := hkT.trans' hsS (fun x hx => by right; simp at hx; omega)
                apply hK
                clear hK K
                go_simp
                refine wpAny_done (by kernel_rfl) ?_ _
                exact hR.out _ _ m ⟨rfl, rfl, by repeat (first | exact trivial | refine ⟨rfl, ?_⟩)⟩ hm hbS hkS
              exact AllReady.nil
            exact AllReady.nil
          exact AllReady.nil
        exact AllReady.nil
      refine AllReady.cons rfl (fun K hK => ?_) ?_
      ·
        apply step_wp
        · rfl
        refine ow_alloc _ rfl Z 16 HZI.out ?_
        intro m WA hm hbm hsA
        have hmg : m ≠ g := by have := hAT.lt; omega
        replace hAT := hAT.keep hsA (by simp)
        replace hm : w2.heap.size ≤ m := by rw [hm]; exact hkN.size
        have hkA : Keep [] w2 WA := hkN.trans hsA
        clear hsA
        apply hK
        clear hK K
        go_simp
        refine wpAny_ready (rs := [1]) (by kernel_rfl) (by simp) ?_
        refine AllReady.cons rfl (fun K hK => ?_) ?_
        ·
          apply step_wp
          · rfl
          refine ow_load _ _ rfl _ rfl 16 5 Try.underlying29 _ DK (LK _ hkA) (by rw [HDK.out]; exact blkCells) ?_
          apply hK
          clear hK K
          go_simp
          refine wpAny_ready (rs := [2]) (by kernel_rfl) (by simp) ?_
          refine AllReady.cons rfl (fun K hK => ?_) ?_
          ·
            apply step_wp
            · rfl
            refine ow_call _ _ _ (by kernel_rfl) (hKC _ g 0 hAT) ?_
            rintro e WK ⟨p, rfl, hp, hAK, hAT1, hsK⟩
            refine ⟨_, rfl, ?_⟩
            replace hAT := hAT1
            have hkK : Keep [] w2 WK := hkA.trans' hsK (fun x hx => by right; simp at hx; omega)
            replace hbm := hbm.keep hsK (by simpa using hmg)
            clear hsK hp
            apply hK
            clear hK K
            go_simp
            refine wpAny_ready (rs := [4]) (by kernel_rfl) (by simp) ?_
            refine AllReady.cons rfl (fun K hK => ?_) ?_
            ·
              apply step_wp
              · rfl
              refine ow_call _ _ _ (by kernel_rfl) (hTC _ p g hAK hAT) ?_
              rintro e WT ⟨rfl, hAT1, hsT⟩
              refine ⟨_, rfl, ?_⟩
              have hkT : Keep [] w2 WT := hkK.trans' hsT (fun x hx => by right; simp at hx; omega)
              replace hbm := hbm.keep hsT (by simpa using hmg)
              replace hAT := hAT1
              clear hsT
              apply hK
              clear hK K
              go_simp
              refine wpAny_ready (rs := [6]) (by kernel_rfl) (by simp) ?_
              refine AllReady.cons rfl (fun K hK => ?_) ?_
              ·
                apply step_wp
                · rfl
                refine ow_store _ _ _ rfl m DT rfl rfl _ _ hbm (by rw [HDT.out]; exact blkCells) (by rw [HDT.out]; exact HZS.out) HDT1.out ?_
                intro WS hbS hsS
                have hkS : Keep [] w2 WS := hkT.trans' hsS (fun x hx => by right; simp at hx; omega)
                apply hK
                clear hK K
                go_simp
                refine wpAny_done (by kernel_rfl) ?_ _
                exact hR.out _ _ m ⟨rfl, rfl, by repeat (first | exact trivial | refine ⟨rfl, ?_⟩)⟩ hm hbS hkS
              exact AllReady.nil
            exact AllReady.nil
          exact AllReady.nil
        exact AllReady.nil
      exact AllReady.nil
    refine AllReady.cons rfl (fun K hK => ?_) ?_
    ·
      apply step_wp
      · rfl
      refine ow_load _ _ rfl _ rfl 16 5 Try.underlying29 _ DK (LK _ hk0) (by rw [HDK.out]; exact blkCells) ?_
      apply hK
      clear hK K
      go_simp
      refine wpAny_ready (rs := [0, 5]) (by kernel_rfl) (by simp) ?_
      refine AllReady.cons rfl (fun K hK => ?_) ?_
      ·
        apply step_wp
        · rfl
        refine ow_call _ _ _ (by kernel_rfl) (hN _) ?_
        rintro e WN ⟨g, rfl, hg, hAT, hsN⟩
        refine ⟨_, rfl, ?_⟩
        replace hg : w2.heap.size ≤ g := Nat.le_trans hk0.size hg
        have hkN : Keep [] w2 WN := hk0.trans hsN
        clear hsN
        apply hK
        clear hK K
        go_simp
        refine wpAny_ready (rs := [2, 5]) (by kernel_rfl) (by simp) ?_
        refine AllReady.cons rfl (fun K hK => ?_) ?_
        ·
          apply step_wp
          · rfl
          refine ow_call _ _ _ (by kernel_rfl) (hKC _ g 0 hAT) ?_
          rintro e WK ⟨p, rfl, hp, hAK, hAT1, hsK⟩
          refine ⟨_, rfl, ?_⟩
          replace hAT := hAT1
          have hkK : Keep [] w2 WK := hkN.trans' hsK (fun x hx => by right; simp at hx; omega)
          clear hsK hp
          apply hK
          clear hK K
          go_simp
          refine wpAny_ready (rs := [4, 5]) (by kernel_rfl) (by simp) ?_
          refine AllReady.cons rfl (fun K hK => ?_) ?_
          ·
            apply step_wp
            · rfl
            refine ow_call _ _ _ (by kernel_rfl) (hTC _ p g hAK hAT) ?_
            rintro e WT ⟨rfl, hAT1, hsT⟩
            refine ⟨_, rfl, ?_⟩
            have hkT : Keep [] w2 WT := hkK.trans' hsT (fun x hx => by right; simp at hx; omega)
            replace hAT := hAT1
            clear hsT
            apply hK
            clear hK K
            go_simp
            refine wpAny_ready (rs := [5]) (by kernel_rfl) (by simp) ?_
            refine AllReady.cons rfl (fun K hK => ?_) ?_
            ·
              apply step_wp
              · rfl
              refine ow_alloc _ rfl Z 16 HZI.out ?_
              intro m WA hm hbm hsA
              have hmg : m ≠ g := by have := hAT.lt; omega
              replace hAT := hAT.keep hsA (by simp)
              replace hm : w2.heap.size ≤ m := by rw [hm]; exact hkT.size
              have hkA : Keep [] w2 WA := hkT.trans hsA
              clear hsA
              apply hK
              clear hK K
              go_simp
              refine wpAny_ready (rs := [6]) (by kernel_rfl) (by simp) ?_
              refine AllReady.cons rfl (fun K hK => ?_) ?_
              ·
                apply step_wp
                · rfl
                refine ow_store _ _ _ rfl m DT rfl rfl _ _ hbm (by rw [HDT.out]; exact blkCells) (by rw [HDT.out]; exact HZS.out) HDT1.out ?_
                intro WS hbS hsS
                have hkS : Keep [] w2 WS := hkA.trans' hsS (fun x hx => by right; simp at hx; omega)
                apply hK
                clear hK K
                go_simp
                refine wpAny_done (by kernel_rfl) ?_ _
                exact hR.out _ _ m ⟨rfl, rfl, by repeat (first | exact trivial | refine ⟨rfl, ?_⟩)⟩ hm hbS hkS
              exact AllReady.nil
            exact AllReady.nil
          refine AllReady.cons rfl (fun K hK => ?_) ?_
          ·
            apply step_wp
            · rfl
            refine ow_alloc _ rfl Z 16 HZI.out ?_
            intro m WA hm hbm hsA
            have hmg : m ≠ g := by have := hAT.lt; omega
            replace hAT := hAT.keep hsA (by simp)
            replace hAK := hAK.keep hsA (by simp)
            replace hm : w2.heap.size ≤ m := by rw [hm]; exact hkK.size
            have hkA : Keep [] w2 WA := hkK.trans hsA
            clear hsA
            apply hK
            clear hK K
            go_simp
            refine wpAny_ready (rs := [4]) (by kernel_rfl) (by simp) ?_
            refine AllReady.cons rfl (fun K hK => ?_) ?_
            ·
              apply step_wp
              · rfl
              refine ow_call _ _ _ (by kernel_rfl) (hTC _ p g hAK hAT) ?_
              rintro e WT ⟨rfl, hAT1, hsT⟩
              refine ⟨_, rfl, ?_⟩
              have hkT : Keep [] w2 WT := hkA.trans' hsT (fun x hx => by right; simp at hx; omega)
              replace hbm := hbm.keep hsT (by simpa using hmg)
              replace hAT := hAT1
              clear hsT
              apply hK
              clear hK K
              go_simp
              refine wpAny_ready (rs := [6]) (by kernel_rfl) (by simp) ?_
              refine AllReady.cons rfl (fun K hK => ?_) ?_
              ·
                apply step_wp
                · rfl
                refine ow_store _ _ _ rfl m DT rfl rfl _ _ hbm (by rw [HDT.out]; exact blkCells) (by rw [HDT.out]; exact HZS.out) HDT1.out ?_
                intro WS hbS hsS
                have hkS : Keep [] w2 WS := hkT.trans' hsS (fun x hx => by right; simp at hx; omega)
                apply hK
                clear hK K
                go_simp
                refine wpAny_done (by kernel_rfl) ?_ _
                exact hR.out _ _ m ⟨rfl, rfl, by repeat (first | exact trivial | refine ⟨rfl, ?_⟩)⟩ hm hbS hkS
              exact AllReady.nil
            exact AllReady.nil
          exact AllReady.nil
        refine AllReady.cons rfl (fun K hK => ?_) ?_
        ·
          apply step_wp
          · rfl
          refine ow_alloc _ rfl Z 16 HZI.out ?_
          intro m WA hm hbm hsA
          have hmg : m ≠ g := by have := hAT.lt; omega
          replace hAT := hAT.keep hsA (by simp)
          replace hm : w2.heap.size ≤ m := by rw [hm]; exact hkN.size
          have hkA : Keep [] w2 WA := hkN.trans hsA
          clear hsA
          apply hK
          clear hK K
          go_simp
          refine wpAny_ready (rs := [2]) (by kernel_rfl) (by simp) ?_
          refine AllReady.cons rfl (fun K hK => ?_) ?_
          ·
            apply step_wp
            · rfl
            refine ow_call _ _ _ (by kernel_rfl) (hKC _ g 0 hAT) ?_
            rintro e WK ⟨p, rfl, hp, hAK, hAT1, hsK⟩
            refine ⟨_, rfl, ?_⟩
            replace hAT := hAT1
            have hkK : Keep [] w2 WK := hkA.trans' hsK (fun x hx => by right; simp at hx; omega)
            replace hbm := hbm.keep hsK (by simpa using hmg)
            clear hsK hp
            apply hK
            clear hK K
            go_simp
            refine wpAny_ready (rs := [4]) (by kernel_rfl) (by simp) ?_
            refine AllReady.cons rfl (fun K hK => ?_) ?_
            ·
              apply step_wp
              · rfl
              refine ow_call _ _ _ (by kernel_rfl) (hTC _ p g hAK hAT) ?_
              rintro e WT ⟨rfl, hAT1, hsT⟩
              refine ⟨_, rfl, ?_⟩
              have hkT : Keep [] w2 WT := hkK.trans' hsT (fun x hx => by right; simp at hx; omega)
              replace hbm := hbm.keep hsT (by simpa using hmg)
              replace hAT := hAT1
              clear hsT
              apply hK
              clear hK K
              go_simp
              refine wpAny_ready (rs := [6]) (by kernel_rfl) (by simp) ?_
              refine AllReady.cons rfl (fun K hK => ?_) ?_
              ·
                apply step_wp
                · rfl
                refine ow_store _ _ _ rfl m DT rfl rfl _ _ hbm (by rw [HDT.out]; exact blkCells) (by rw [HDT.out]; exact HZS.out) HDT1.out ?_
                intro WS hbS hsS
                have hkS : Keep [] w2 WS := hkT.trans' hsS (fun x hx => by right; simp at hx; omega)
                apply hK
                clear hK K
                go_simp
                refine wpAny_done (by kernel_rfl) ?_ _
                exact hR.out _ _ m ⟨rfl, rfl, by repeat (first | exact trivial | refine ⟨rfl, ?_⟩)⟩ hm hbS hkS
              exact AllReady.nil
            exact AllReady.nil
          exact AllReady.nil
        exact AllReady.nil
      refine AllReady.cons rfl (fun K hK => ?_) ?_
      ·
        apply step_wp
        · rfl
        refine ow_alloc _ rfl Z 16 HZI.out ?_
        intro m WA hm hbm hsA
        replace hm : w2.heap.size ≤ m := by rw [hm]; exact hk0.size
        have hkA : Keep [] w2 WA := hk0.trans hsA
        clear hsA
        apply hK
        clear hK K
        go_simp
        refine wpAny_ready (rs := [0]) (by kernel_rfl) (by simp) ?_
        refine AllReady.cons rfl (fun K hK => ?_) ?_
        ·
          apply step_wp
          · rfl
          refine ow_call _ _ _ (by kernel_rfl) (hN _) ?_
          rintro e WN ⟨g, rfl, hg, hAT, hsN⟩
          refine ⟨_, rfl, ?_⟩
          have hmg : m ≠ g := by have := hbm.lt; omega
          replace hbm := hbm.keep hsN (by simp)
          replace hg : w2.heap.size ≤ g := Nat.le_trans hkA.size hg
          have hkN : Keep [] w2 WN := hkA.trans hsN
          clear hsN
          apply hK
          clear hK K
          go_simp
          refine wpAny_ready (rs := [2]) (by kernel_rfl) (by simp) ?_
          refine AllReady.cons rfl (fun K hK => ?_) ?_
          ·
            apply step_wp
            · rfl
            refine ow_call _ _ _ (by kernel_rfl) (hKC _ g 0 hAT) ?_
            rintro e WK ⟨p, rfl, hp, hAK, hAT1, hsK⟩
            refine ⟨_, rfl, ?_⟩
            replace hAT := hAT1
            have hkK : Keep [] w2 WK := hkN.trans' hsK (fun x hx => by right; simp at hx; omega)
            replace hbm := hbm.keep hsK (by simpa using hmg)
            clear hsK hp
            apply hK
            clear hK K
            go_simp
            refine wpAny_ready (rs := [4]) (by kernel_rfl) (by simp) ?_
            refine AllReady.cons rfl (fun K hK => ?_) ?_
            ·
              apply step_wp
              · rfl
              refine ow_call _ _ _ (by kernel_rfl) (hTC _ p g hAK hAT) ?_
              rintro e WT ⟨rfl, hAT1, hsT⟩
              refine ⟨_, rfl, ?_⟩
              have hkT : Keep [] w2 WT := hkK.trans' hsT (fun x hx => by right; simp at hx; omega)
              replace hbm := hbm.keep hsT (by simpa using hmg)
              replace hAT := hAT1
              clear hsT
              apply hK
              clear hK K
              go_simp
              refine wpAny_ready (rs := [6]) (by kernel_rfl) (by simp) ?_
              refine AllReady.cons rfl (fun K hK => ?_) ?_
              ·
                apply step_wp
                · rfl
                refine ow_store _ _ _ rfl m DT rfl rfl _ _ hbm (by rw [HDT.out]; exact blkCells) (by rw [HDT.out]; exact HZS.out) HDT1.out ?_
                intro WS hbS hsS
                have hkS : Keep [] w2 WS := hkT.trans' hsS (fun x hx => by right; simp at hx; omega)
                apply hK
                clear hK K
                go_simp
                refine wpAny_done (by kernel_rfl) ?_ _
                exact hR.out _ _ m ⟨rfl, rfl, by repeat (first | exact trivial | refine ⟨rfl, ?_⟩)⟩ hm hbS hkS
              exact AllReady.nil
            exact AllReady.nil
          exact AllReady.nil
        exact AllReady.nil
      exact AllReady.nil
    refine AllReady.cons rfl (fun K hK => ?_) ?_
    ·
      apply step_wp
      · rfl
      refine ow_alloc _ rfl Z 16 HZI.out ?_
      intro m WA hm hbm hsA
      replace hm : w2.heap.size ≤ m := by rw [hm]; exact hk0.size
      have hkA : Keep [] w2 WA := hk0.trans hsA
      clear hsA
      apply hK
      clear hK K
      go_simp
      refine wpAny_ready (rs := [0, 1]) (by kernel_rfl) (by simp) ?_
      refine AllReady.cons rfl (fun K hK => ?_) ?_
      ·
        apply step_wp
        · rfl
        refine ow_call _ _ _ (by kernel_rfl) (hN _) ?_
        rintro e WN ⟨g, rfl, hg, hAT, hsN⟩
        refine ⟨_, rfl, ?_⟩
        have hmg : m ≠ g := by have := hbm.lt; omega
        replace hbm := hbm.keep hsN (by simp)
        replace hg : w2.heap.size ≤ g := Nat.le_trans hkA.size hg
        have hkN : Keep [] w2 WN := hkA.trans hsN
        clear hsN
        apply hK
        clear hK K
        go_simp
        refine wpAny_ready (rs := [1]) (by kernel_rfl) (by simp) ?_
        refine AllReady.cons rfl (fun K hK => ?_) ?_
        ·
          apply step_wp
          · rfl
          refine ow_load _ _ rfl _ rfl 16 5 Try.underlying29 _ DK (LK _ hkN) (by rw [HDK.out]; exact blkCells) ?_
          apply hK
          clear hK K
          go_simp
          refine wpAny_ready (rs := [2]) (by kernel_rfl) (by simp) ?_
          refine AllReady.cons rfl (fun K hK => ?_) ?_
          ·
            apply step_wp
            · rfl
            refine ow_call _ _ _ (by kernel_rfl) (hKC _ g 0 hAT) ?_
            rintro e WK ⟨p, rfl, hp, hAK, hAT1, hsK⟩
            refine ⟨_, rfl, ?_⟩
            replace hAT := hAT1
            have hkK : Keep [] w2 WK := hkN.trans' hsK (fun x hx => by right; simp at hx; omega)
            replace hbm := hbm.keep hsK (by simpa using hmg)
            clear hsK hp
            apply hK
            clear hK K
            go_simp
            refine wpAny_ready (rs := [4]) (by kernel_rfl) (by simp) ?_
            refine AllReady.cons rfl (fun K hK => ?_) ?_
            ·
              apply step_wp
              · rfl
              refine ow_call _ _ _ (by kernel_rfl) (hTC _ p g hAK hAT) ?_
              rintro e WT ⟨rfl, hAT1, hsT⟩
              refine ⟨_, rfl, ?_⟩
              have hkT : Keep [] w2 WT := hkK.trans' hsT (fun x hx => by right; simp at hx; omega)
              replace hbm := hbm.keep hsT (by simpa using hmg)
              replace hAT := hAT1
              clear hsT
              apply hK
              clear hK K
              go_simp
              refine wpAny_ready (rs := [6]) (by kernel_rfl) (by simp) ?_
              refine AllReady.cons rfl (fun K hK => ?_) ?_
              ·
                apply step_wp
                · rfl
                refine ow_store _ _ _ rfl m DT rfl rfl _ _ hbm (by rw [HDT.out]; exact blkCells) (by rw [HDT.out]; exact HZS.out) HDT1.out ?_
                intro WS hbS hsS
                have hkS : Keep [] w2 WS := hkT.trans' hsS (fun x hx => by right; simp at hx; omega)
                apply hK
                clear hK K
                go_simp
                refine wpAny_done (by kernel_rfl) ?_ _
                exact hR.out _ _ m ⟨rfl, rfl, by repeat (first | exact trivial | refine ⟨rfl, ?_⟩)⟩ hm hbS hkS
              exact AllReady.nil
            exact AllReady.nil
          exact AllReady.nil
        exact AllReady.nil
      refine AllReady.cons rfl (fun K hK => ?_) ?_
      ·
        apply step_wp
        · rfl
        refine ow_load _ _ rfl _ rfl 16 5 Try.underlying29 _ DK (LK _ hkA) (by rw [HDK.out]; exact blkCells) ?_
        apply hK
        clear hK K
        go_simp
        refine wpAny_ready (rs := [0]) (by kernel_rfl) (by simp) ?_
        refine AllReady.cons rfl (fun K hK => ?_) ?_
        ·
          apply step_wp
          · rfl
          refine ow_call _ _ _ (by kernel_rfl) (hN _) ?_
          rintro e WN ⟨g, rfl, hg, hAT, hsN⟩
          refine ⟨_, rfl, ?_⟩
          have hmg : m ≠ g := by have := hbm.lt; omega
          replace hbm := hbm.keep hsN (by simp)
          replace hg : w2.heap.size ≤ g := Nat.le_trans hkA.size hg
          have hkN : Keep [] w2 WN := hkA.trans hsN
          clear hsN
          apply hK
          clear hK K
          go_simp
          refine wpAny_ready (rs := [2]) (by kernel_rfl) (by simp) ?_
          refine AllReady.cons rfl (fun K hK => ?_) ?_
          ·
            apply step_wp
            · rfl
            refine ow_call _ _ _ (by kernel_rfl) (hKC _ g 0 hAT) ?_
            rintro e WK ⟨p, rfl, hp, hAK, hAT1, hsK⟩
            refine ⟨_, rfl, ?_⟩
            replace hAT := hAT1
            have hkK : Keep [] w2 WK := hkN.trans' hsK (fun x hx => by right; simp at hx; omega)
            replace hbm := hbm.keep hsK (by simpa using hmg)
            clear hsK hp
            apply hK
            clear hK K
            go_simp
            refine wpAny_ready (rs := [4]) (by kernel_rfl) (by simp) ?_
            refine AllReady.cons rfl (fun K hK => ?_) ?_
            ·
              apply step_wp
              · rfl
              refine ow_call _ _ _ (by kernel_rfl) (hTC _ p g hAK hAT) ?_
              rintro e WT ⟨rfl, hAT1, hsT⟩
              refine ⟨_, rfl, ?_⟩
              have hkT : Keep [] w2 WT := hkK.trans' hsT (fun x hx => by right; simp at hx; omega)
              replace hbm := hbm.keep hsT (by simpa using hmg)
              replace hAT := hAT1
              clear hsT
              apply hK
              clear hK K
              go_simp
              refine wpAny_ready (rs := [6]) (by kernel_rfl) (by simp) ?_
              refine AllReady.cons rfl (fun K hK => ?_) ?_
              ·
                apply step_wp
                · rfl
                refine ow_store _ _ _ rfl m DT rfl rfl _ _ hbm (by rw [HDT.out]; exact blkCells) (by rw [HDT.out]; exact HZS.out) HDT1.out ?_
                intro WS hbS hsS
                have hkS : Keep [] w2 WS := hkT.trans' hsS (fun x hx => by right; simp at hx; omega)
                apply hK
                clear hK K
                go_simp
                refine wpAny_done (by kernel_rfl) ?_ _
                exact hR.out _ _ m ⟨rfl, rfl, by repeat (first | exact trivial | refine ⟨rfl, ?_⟩)⟩ hm hbS hkS
              exact AllReady.nil
            exact AllReady.nil
          exact AllReady.nil
        exact AllReady.nil
      exact AllReady.nil
    exact AllReady.nil
  refine AllReady.cons rfl (fun K hK => ?_) ?_
  ·
    apply step_wp
    · rfl
    refine ow_alloc _ rfl Z 16 HZI.out ?_
    intro m WA hm hbm hsA
    replace hm : w2.heap.size ≤ m := by rw [hm]; exact hk0.size
    have hkA : Keep [] w2 WA := hk0.trans hsA
    clear hsA
    apply hK
    clear hK K
    go_simp
    refine wpAny_ready (rs := [0, 1, 3]) (by kernel_rfl) (by simp) ?_
    refine AllReady.cons rfl (fun K hK => ?_) ?_
    ·
      apply step_wp
      · rfl
      refine ow_call _ _ _ (by kernel_rfl) (hN _) ?_
      rintro e WN ⟨g, rfl, hg, hAT, hsN⟩
      refine ⟨_, rfl, ?_⟩
      have hmg : m ≠ g := by have := hbm.lt; omega
      replace hbm := hbm.keep hsN (by simp)
      replace hg : w2.heap.size ≤ g := Nat.le_trans hkA.size hg
      have hkN : Keep [] w2 WN := hkA.trans hsN
      clear hsN
      apply hK
      clear hK K
      go_simp
      refine wpAny_ready (rs := [1, 3]) (by kernel_rfl) (by simp) ?_
      refine AllReady.cons rfl (fun K hK => ?_) ?_
      ·
        apply step_wp
        · rfl
        refine ow_load _ _ rfl _ rfl 16 5 Try.underlying29 _ DK (LK _ hkN) (by rw [HDK.out]; exact blkCells) ?_
        apply hK
        clear hK K
        go_simp
        refine wpAny_ready (rs := [2, 3]) (by kernel_rfl) (by simp) ?_
        refine AllReady.cons rfl (fun K hK => ?_) ?_
        ·
          apply step_wp
          · rfl
          refine ow_call _ _ _ (by kernel_rfl) (hKC _ g 0 hAT) ?_
          rintro e WK ⟨p, rfl, hp, hAK, hAT1, hsK⟩
          refine ⟨_, rfl, ?_⟩
          replace hAT := hAT1
          have hkK : Keep [] w2 WK := hkN.trans' hsK (fun x hx => by right; simp at hx; omega)
          replace hbm := hbm.keep hsK (by simpa using hmg)
          clear hsK hp
          apply hK
          clear hK K
          go_simp
          refine wpAny_ready (rs := [3]) (by kernel_rfl) (by simp) ?_
          refine AllReady.cons rfl (fun K hK => ?_) ?_
          ·
            apply step_wp
            · rfl
            refine ow_load _ _ rfl _ rfl 16 5 Try.underlying29 _ DB (LB _ hkK) (by rw [HDB.out]; exact blkCells) ?_
            apply hK
            clear hK K
            go_simp
            refine wpAny_ready (rs := [4]) (by kernel_rfl) (by simp) ?_
            refine AllReady.cons rfl (fun K hK => ?_) ?_
            ·
              apply step_wp
              · rfl
              refine ow_call _ _ _ (by kernel_rfl) (hTC _ p g hAK hAT) ?_
              rintro e WT ⟨rfl, hAT1, hsT⟩
              refine ⟨_, rfl, ?_⟩
              have hkT : Keep [] w2 WT := hkK.trans' hsT (fun x hx => by right; simp at hx; omega)
              replace hbm := hbm.keep hsT (by simpa using hmg)
              replace hAT := hAT1
              clear hsT
              apply hK
              clear hK K
              go_simp
              refine wpAny_ready (rs := [6]) (by kernel_rfl) (by simp) ?_
              refine AllReady.cons rfl (fun K hK => ?_) ?_
              ·
                apply step_wp
                · rfl
                refine ow_store _ _ _ rfl m DT rfl rfl _ _ hbm (by rw [HDT.out]; exact blkCells) (by rw [HDT.out]; exact HZS.out) HDT1.out ?_
                intro WS hbS hsS
                have hkS : Keep [] w2 WS := hkT.trans' hsS (fun x hx => by right; simp at hx; omega)
                apply hK
                clear hK K
                go_simp
                refine wpAny_done (by kernel_rfl) ?_ _
                exact hR.out _ _ m ⟨rfl, rfl, by repeat (first | exact trivial | refine ⟨rfl, ?_⟩)⟩ hm hbS hkS
              exact AllReady.nil
            exact AllReady.nil
          exact AllReady.nil
        refine AllReady.cons rfl (fun K hK => ?_) ?_
        ·
          apply step_wp
          · rfl
          refine ow_load _ _ rfl _ rfl 16 5 Try.underlying29 _ DB (LB _ hkN) (by rw [HDB.out]; exact blkCells) ?_
          apply hK
          clear hK K
          go_simp
          refine wpAny_ready (rs := [2]) (by kernel_rfl) (by simp) ?_
          refine AllReady.cons rfl (fun K hK => ?_) ?_
          ·
            apply step_wp
            · rfl
            refine ow_call _ _ _ (by kernel_rfl) (hKC _ g 0 hAT) ?_
            rintro e WK ⟨p, rfl, hp, hAK, hAT1, hsK⟩
            refine ⟨_, rfl, ?_⟩
            replace hAT := hAT1
            have hkK : Keep [] w2 WK := hkN.trans' hsK (fun x hx => by right; simp at hx; omega)
            replace hbm := hbm.keep hsK (by simpa using hmg)
            clear hsK hp
            apply hK
            clear hK K
            go_simp
            refine wpAny_ready (rs := [4]) (by kernel_rfl) (by simp) ?_
            refine AllReady.cons rfl (fun K hK => ?_) ?_
            ·
              apply step_wp
              · rfl
              refine ow_call _ _ _ (by kernel_rfl) (hTC _ p g hAK hAT) ?_
              rintro e WT ⟨rfl, hAT1, hsT⟩
              refine ⟨_, rfl, ?_⟩
              have hkT : Keep [] w2 WT := hkK.trans' hsT (fun x hx => by right; simp at hx; omega)
              replace hbm := hbm.keep hsT (by simpa using hmg)
              replace hAT := hAT1
              clear hsT
              apply hK
              clear hK K
              go_simp
              refine wpAny_ready (rs := [6]) (by kernel_rfl) (by simp) ?_
              refine AllReady.cons rfl (fun K hK => ?_) ?_
              ·
                apply step_wp
                · rfl
                refine ow_store _ _ _ rfl m DT rfl rfl _ _ hbm (by rw [HDT.out]; exact blkCells) (by rw [HDT.out]; exact HZS.out) HDT1.out ?_
                intro WS hbS hsS
                have hkS : Keep [] w2 WS := hkT.trans' hsS (fun x hx => by right; simp at hx; omega)
                apply hK
                clear hK K
                go_simp
                refine wpAny_done (by kernel_rfl) ?_ _
                exact hR.out _ _ m ⟨rfl, rfl, by repeat (first | exact trivial | refine ⟨rfl, ?_⟩)⟩ hm hbS hkS
              exact AllReady.nil
            exact AllReady.nil
          exact AllReady.nil
        exact AllReady.nil
      refine AllReady.cons rfl (fun K hK => ?_) ?_
      ·
        apply step_wp
        · rfl
        refine ow_load _ _ rfl _ rfl 16 5 Try.underlying29 _ DB (LB _ hkN) (by rw [HDB.out]; exact blkCells) ?_
        apply hK
        clear hK K
        go_simp
        refine wpAny_ready (rs := [1]) (by kernel_rfl) (by simp) ?_
        refine AllReady.cons rfl (fun K hK => ?_) ?_
        ·
          apply step_wp
          · rfl
          refine ow_load _ _ rfl _ rfl 16 5 Try.underlying29 _ DK (LK _ hkN) (by rw [HDK.out]; exact blkCells) ?_
          apply hK
          clear hK K
          go_simp
          refine wpAny_ready (rs := [2]) (by kernel_rfl) (by simp) ?_
          refine AllReady.cons rfl (fun K hK => ?_) ?_
          ·
            apply step_wp
            · rfl
            refine ow_call _ _ _ (by kernel_rfl) (hKC _ g 0 hAT) ?_
            rintro e WK ⟨p, rfl, hp, hAK, hAT1, hsK⟩
            refine ⟨_, rfl, ?_⟩
            replace hAT := hAT1
            have hkK : Keep [] w2 WK := hkN.trans' hsK (fun x hx => by right; simp at hx; omega)
            replace hbm := hbm.keep hsK (by simpa using hmg)
            clear hsK hp
            apply hK
            clear hK K
            go_simp
            refine wpAny_ready (rs := [4]) (by kernel_rfl) (by simp) ?_
            refine AllReady.cons rfl (fun K hK => ?_) ?_
            ·
              apply step_wp
              · rfl
              refine ow_call _ _ _ (by kernel_rfl) (hTC _ p g hAK hAT) ?_
              rintro e WT ⟨rfl, hAT1, hsT⟩
              refine ⟨_, rfl, ?_⟩
              have hkT : Keep [] w2 WT := hkK.trans' hsT (fun x hx => by right; simp at hx; omega)
              replace hbm := hbm.keep hsT (by simpa using hmg)
              replace hAT := hAT1
              clear hsT
              apply hK
              clear hK K
              go_simp
              refine wpAny_ready (rs := [6]) (by kernel_rfl) (by simp) ?_
              refine AllReady.cons rfl (fun K hK => ?_) ?_
              ·
                apply step_wp
                · rfl
                refine ow_store _ _ _ rfl m DT rfl rfl _ _ hbm (by rw [HDT.out]; exact blkCells) (by rw [HDT.out]; exact HZS.out) HDT1.out ?_
                intro WS hbS hsS
                have hkS : Keep [] w2 WS := hkT.trans' hsS (fun x hx => by right; simp at hx; omega)
                apply hK
                clear hK K
                go_simp
                refine wpAny_done (by kernel_rfl) ?_ _
                exact hR.out _ _ m ⟨rfl, rfl, by repeat (first | exact trivial | refine ⟨rfl, ?_⟩)⟩ hm hbS hkS
              exact AllReady.nil
            exact AllReady.nil
          exact AllReady.nil
        exact AllReady.nil
      exact AllReady.nil
    refine AllReady.cons rfl (fun K hK => ?_) ?_
    ·
      apply step_wp
      · rfl
      refine ow_load _ _ rfl _ rfl 16 5 Try.underlying29 _ DK (LK _ hkA) (by rw [HDK.out]; exact blkCells) ?_
      apply hK
      clear hK K
      go_simp
      refine wpAny_ready (rs := [0, 3]) (by kernel_rfl) (by simp) ?_
      refine AllReady.cons rfl (fun K hK => ?_) ?_
      ·
        apply step_wp
        · rfl
        refine ow_call _ _ _ (by kernel_rfl) (hN _) ?_
        rintro e WN ⟨g, rfl, hg, hAT, hsN⟩
        refine ⟨_, rfl, ?_⟩
        have hmg : m ≠ g := by have := hbm.lt; omega
        replace hbm := hbm.keep hsN (by simp)
        replace hg : w2.heap.size ≤ g := Nat.le_trans hkA.size hg
        have hkN : Keep [] w2 WN := hkA.trans hsN
        clear hsN
        apply hK
        clear hK K
        go_simp
        refine wpAny_ready (rs := [2, 3]) (by kernel_rfl) (by simp) ?_
        refine AllReady.cons rfl (fun K hK => ?_) ?_
        ·
          apply step_wp
          · rfl
          refine ow_call _ _ _ (by kernel_rfl) (hKC _ g 0 hAT) ?_
          rintro e WK ⟨p, rfl, hp, hAK, hAT1, hsK⟩
          refine ⟨_, rfl, ?_⟩
          replace hAT := hAT1
          have hkK : Keep [] w2 WK := hkN.trans' hsK (fun x hx => by right; simp at hx; omega)
          replace hbm := hbm.keep hsK (by simpa using hmg)
          clear hsK hp
          apply hK
          clear hK K
          go_simp
          refine wpAny_ready (rs := [3]) (by kernel_rfl) (by simp) ?_
          refine AllReady.cons rfl (fun K hK => ?_) ?_
          ·
            apply step_wp
            · rfl
            refine ow_load _ _ rfl _ rfl 16 5 Try.underlying29 _ DB (LB _ hkK) (by rw [HDB.out]; exact blkCells) ?_
            apply hK
            clear hK K
            go_simp
            refine wpAny_ready (rs := [4]) (by kernel_rfl) (by simp) ?_
            refine AllReady.cons rfl (fun K hK => ?_) ?_
            ·
              apply step_wp
              · rfl
              refine ow_call _ _ _ (by kernel_rfl) (hTC _ p g hAK hAT) ?_
              rintro e WT ⟨rfl, hAT1, hsT⟩
              refine ⟨_, rfl, ?_⟩
              have hkT : Keep [] w2 WT := hkK.trans' hsT (fun x hx => by right; simp at hx; omega)
              replace hbm := hbm.keep hsT (by simpa using hmg)
              replace hAT := hAT1
              clear hsT
              apply hK
              clear hK K
              go_simp
              refine wpAny_ready (rs := [6]) (by kernel_rfl) (by simp) ?_
              refine AllReady.cons rfl (fun K hK => ?_) ?_
              ·
                apply step_wp
                · rfl
                refine ow_store _ _ _ rfl m DT rfl rfl _ _ hbm (by rw [HDT.out]; exact blkCells) (by rw [HDT.out]; exact HZS.out) HDT1.out ?_
                intro WS hbS hsS
                have hkS : Keep [] w2 WS := hkT.trans' hsS (fun x hx => by right; simp at hx; omega)
                apply hK
                clear hK K
                go_simp
                refine wpAny_done (by kernel_rfl) ?_ _
                exact hR.out _ _ m ⟨rfl, rfl, by repeat (first | exact trivial | refine ⟨rfl, ?_⟩)⟩ hm hbS hkS
              exact AllReady.nil
            exact AllReady.nil
          exact AllReady.nil
        refine AllReady.cons rfl (fun K hK => ?_) ?_
        ·
          apply step_wp
          · rfl
          refine ow_load _ _ rfl _ rfl 16 5 Try.underlying29 _ DB (LB _ hkN) (by rw [HDB.out]; exact blkCells) ?_
          apply hK
          clear hK K
          go_simp
          refine wpAny_ready (rs := [2]) (by kernel_rfl) (by simp) ?_
          refine AllReady.cons rfl (fun K hK => ?_) ?_
          ·
            apply step_wp
            · rfl
            refine ow_call _ _ _ (by kernel_rfl) (hKC _ g 0 hAT) ?_
            rintro e WK ⟨p, rfl, hp, hAK, hAT1, hsK⟩
            refine ⟨_, rfl, ?_⟩
            replace hAT := hAT1
            have hkK : Keep [] w2 WK := hkN.trans' hsK (fun x hx => by right; simp at hx; omega)
            replace hbm := hbm.keep hsK (by simpa using hmg)
            clear hsK hp
            apply hK
            clear hK K
            go_simp
            refine wpAny_ready (rs := [4]) (by kernel_rfl) (by simp) ?_
            refine AllReady.cons rfl (fun K hK => ?_) ?_
            ·
              apply step_wp
              · rfl
              refine ow_call _ _ _ (by kernel_rfl) (hTC _ p g hAK hAT) ?_
              rintro e WT ⟨rfl, hAT1, hsT⟩
              refine ⟨_, rfl, ?_⟩
              have hkT : Keep [] w2 WT := hkK.trans' hsT (fun x hx => by right; simp at hx; omega)
              replace hbm := hbm.keep hsT (by simpa using hmg)
              replace hAT := hAT1
              clear hsT
              apply hK
              clear hK K
              go_simp
              refine wpAny_ready (rs := [6]) (by kernel_rfl) (by simp) ?_
              refine AllReady.cons rfl (fun K hK => ?_) ?_
              ·
                apply step_wp
                · rfl
                refine ow_store _ _ _ rfl m DT rfl rfl _ _ hbm (by rw [HDT.out]; exact blkCells) (by rw [HDT.out]; exact HZS.out) HDT1.out ?_
                intro WS hbS hsS
                have hkS : Keep [] w2 WS := hkT.trans' hsS (fun x hx => by right; simp at hx; omega)
                apply hK
                clear hK K
                go_simp
                refine wpAny_done (by kernel_rfl) ?_ _
                exact hR.out _ _ m ⟨rfl, rfl, by repeat (first | exact trivial | refine ⟨rfl, ?_⟩)⟩ hm hbS hkS
              exact AllReady.nil
            exact AllReady.nil
          exact AllReady.nil
        exact AllReady.nil
      refine AllReady.cons rfl (fun K hK => ?_) ?_
      ·
        apply step_wp
        · rfl
        refine ow_load _ _ rfl _ rfl 16 5 Try.underlying29 _ DB (LB _ hkA) (by rw [HDB.out]; exact blkCells) ?_
        apply hK
        clear hK K
        go_simp
        refine wpAny_ready (rs := [0]) (by kernel_rfl) (by simp) ?_
        refine AllReady.cons rfl (fun K hK => ?_) ?_
        ·
          apply step_wp
          · rfl
          refine ow_call _ _ _ (by kernel_rfl) (hN _) ?_
          rintro e WN ⟨g, rfl, hg, hAT, hsN⟩
          refine ⟨_, rfl, ?_⟩
          have hmg : m ≠ g := by have := hbm.lt; omega
          replace hbm := hbm.keep hsN (by simp)
          replace hg : w2.heap.size ≤ g := Nat.le_trans hkA.size hg
          have hkN : Keep [] w2 WN := hkA.trans hsN
          clear hsN
          apply hK
          clear hK K
          go_simp
          refine wpAny_ready (rs := [2]) (by kernel_rfl) (by simp) ?_
          refine AllReady.cons rfl (fun K hK => ?_) ?_
          ·
            apply step_wp
            · rfl
            refine ow_call _ _ _ (by kernel_rfl) (hKC _ g 0 hAT) ?_
            rintro e WK ⟨p, rfl, hp, hAK, hAT1, hsK⟩
            refine ⟨_, rfl, ?_⟩
            replace hAT := hAT1
            have hkK : Keep [] w2 WK := hkN.trans' hsK (fun x hx => by right; simp at hx; omega)
            replace hbm := hbm.keep hsK (by simpa using hmg)
            clear hsK hp
            apply hK
            clear hK K
            go_simp
            refine wpAny_ready (rs := [4]) (by kernel_rfl) (by simp) ?_
            refine AllReady.cons rfl (fun K hK => ?_) ?_
            ·
              apply step_wp
              · rfl
              refine ow_call _ _ _ (by kernel_rfl) (hTC _ p g hAK hAT) ?_
              rintro e WT ⟨rfl, hAT1, hsT⟩
              refine ⟨_, rfl, ?_⟩
              have hkT : Keep [] w2 WT := hkK.trans' hsT (fun x hx => by right; simp at hx; omega)
              replace hbm := hbm.keep hsT (by simpa using hmg)
              replace hAT := hAT1
              clear hsT
              apply hK
              clear hK K
              go_simp
              refine wpAny_ready (rs := [6]) (by kernel_rfl) (by simp) ?_
              refine AllReady.cons rfl (fun K hK => ?_) ?_
              ·
                apply step_wp
                · rfl
                refine ow_store _ _ _ rfl m DT rfl rfl _ _ hbm (by rw [HDT.out]; exact blkCells) (by rw [HDT.out]; exact HZS.out) HDT1.out ?_
                intro WS hbS hsS
                have hkS : Keep [] w2 WS := hkT.trans' hsS (fun x hx => by right; simp at hx; omega)
                apply hK
                clear hK K
                go_simp
                refine wpAny_done (by kernel_rfl) ?_ _
                exact hR.out _ _ m ⟨rfl, rfl, by repeat (first | exact trivial | refine ⟨rfl, ?_⟩)⟩ hm hbS hkS
              exact AllReady.nil
            exact AllReady.nil
          exact AllReady.nil
        exact AllReady.nil
      exact AllReady.nil
    refine AllReady.cons rfl (fun K hK => ?_) ?_
    ·
      apply step_wp
      · rfl
      refine ow_load _ _ rfl _ rfl 16 5 Try.underlying29 _ DB (LB _ hkA) (by rw [HDB.out]; exact blkCells) ?_
      apply hK
      clear hK K
      go_simp
      refine wpAny_ready (rs := [0, 1]) (by kernel_rfl) (by simp) ?_
      refine AllReady.cons rfl (fun K hK => ?_) ?_
      ·
        apply step_wp
        · rfl
        refine ow_call _ _ _ (by kernel_rfl) (hN _) ?_
        rintro e WN ⟨g, rfl, hg, hAT, hsN⟩
        refine ⟨_, rfl, ?_⟩
        have hmg : m ≠ g := by have := hbm.lt; omega
        replace hbm := hbm.keep hsN (by simp)
        replace hg : w2.heap.size ≤ g := Nat.le_trans hkA.size hg
        have hkN : Keep [] w2 WN := hkA.trans hsN
        clear hsN
        apply hK
        clear hK K
        go_simp
        refine wpAny_ready (rs := [1]) (by kernel_rfl) (by simp) ?_
        refine AllReady.cons rfl (fun K hK => ?_) ?_
        ·
          apply step_wp
          · rfl
          refine ow_load _ _ rfl _ rfl 16 5 Try.underlying29 _ DK (LK _ hkN) (by rw [HDK.out]; exact blkCells) ?_
          apply hK
          clear hK K
          go_simp
          refine wpAny_ready (rs := [2]) (by kernel_rfl) (by simp) ?_
          refine AllReady.cons rfl (fun K hK => ?_) ?_
          ·
            apply step_wp
            · rfl
            refine ow_call _ _ _ (by kernel_rfl) (hKC _ g 0 hAT) ?_
            rintro e WK ⟨p, rfl, hp, hAK, hAT1, hsK⟩
            refine ⟨_, rfl, ?_⟩
            replace hAT := hAT1
            have hkK : Keep [] w2 WK := hkN.trans' hsK (fun x hx => by right; simp at hx; omega)
            replace hbm := hbm.keep hsK (by simpa using hmg)
            clear hsK hp
            apply hK
            clear hK K
            go_simp
            refine wpAny_ready (rs := [4]) (by kernel_rfl) (by simp) ?_
            refine AllReady.cons rfl (fun K hK => ?_) ?_
            ·
              apply step_wp
              · rfl
              refine ow_call _ _ _ (by kernel_rfl) (hTC _ p g hAK hAT) ?_
              rintro e WT ⟨rfl, hAT1, hsT⟩
              refine ⟨_, rfl, ?_⟩
              have hkT : Keep [] w2 WT := hkK.trans' hsT (fun x hx => by right; simp at hx; omega)
              replace hbm := hbm.keep hsT (by simpa using hmg)
              replace hAT := hAT1
              clear hsT
              apply hK
              clear hK K
              go_simp
              refine wpAny_ready (rs := [6]) (by kernel_rfl) (by simp) ?_
              refine AllReady.cons rfl (fun K hK => ?_) ?_
              ·
                apply step_wp
                · rfl
                refine ow_store _ _ _ rfl m DT rfl rfl _ _ hbm (by rw [HDT.out]; exact blkCells) (by rw [HDT.out]; exact HZS.out) HDT1.out ?_
                intro WS hbS hsS
                have hkS : Keep [] w2 WS := hkT.trans' hsS (fun x hx => by right; simp at hx; omega)
                apply hK
                clear hK K
                go_simp
                refine wpAny_done (by kernel_rfl) ?_ _
                exact hR.out _ _ m ⟨rfl, rfl, by repeat (first | exact trivial | refine ⟨rfl, ?_⟩)⟩ hm hbS hkS
              exact AllReady.nil
            exact AllReady.nil
          exact AllReady.nil
        exact AllReady.nil
      refine AllReady.cons rfl (fun K hK => ?_) ?_
      ·
        apply step_wp
        · rfl
        refine ow_load _ _ rfl _ rfl 16 5 Try.underlying29 _ DK (LK _ hkA) (by rw [HDK.out]; exact blkCells) ?_
        apply hK
        clear hK K
        go_simp
        refine wpAny_ready (rs := [0]) (by kernel_rfl) (by simp) ?_
        refine AllReady.cons rfl (fun K hK => ?_) ?_
        ·
          apply step_wp
          · rfl
          refine ow_call _ _ _ (by kernel_rfl) (hN _) ?_
          rintro e WN ⟨g, rfl, hg, hAT, hsN⟩
          refine ⟨_, rfl, ?_⟩
          have hmg : m ≠ g := by have := hbm.lt; omega
          replace hbm := hbm.keep hsN (by simp)
          replace hg : w2.heap.size ≤ g := Nat.le_trans hkA.size hg
          have hkN : Keep [] w2 WN := hkA.trans hsN
          clear hsN
          apply hK
          clear hK K
          go_simp
          refine wpAny_ready (rs := [2]) (by kernel_rfl) (by simp) ?_
          refine AllReady.cons rfl (fun K hK => ?_) ?_
          ·
            apply step_wp
            · rfl
            refine ow_call _ _ _ (by kernel_rfl) (hKC _ g 0 hAT) ?_
            rintro e WK ⟨p, rfl, hp, hAK, hAT1, hsK⟩
            refine ⟨_, rfl, ?_⟩
            replace hAT := hAT1
            have hkK : Keep [] w2 WK := hkN.trans' hsK (fun x hx => by right; simp at hx; omega)
            replace hbm := hbm.keep hsK (by simpa using hmg)
            clear hsK hp
            apply hK
            clear hK K
            go_simp
            refine wpAny_ready (rs := [4]) (by kernel_rfl) (by simp) ?_
            refine AllReady.cons rfl (fun K hK => ?_) ?_
            ·
              apply step_wp
              · rfl
              refine ow_call _ _ _ (by kernel_rfl) (hTC _ p g hAK hAT) ?_
              rintro e WT ⟨rfl, hAT1, hsT⟩
              refine ⟨_, rfl, ?_⟩
              have hkT : Keep [] w2 WT := hkK.trans' hsT (fun x hx => by right; simp at hx; omega)
              replace hbm := hbm.keep hsT (by simpa using hmg)
              replace hAT := hAT1
              clear hsT
              apply hK
              clear hK K
              go_simp
              refine wpAny_ready (rs := [6]) (by kernel_rfl) (by simp) ?_
              refine AllReady.cons rfl (fun K hK => ?_) ?_
              ·
                apply step_wp
                · rfl
                refine ow_store _ _ _ rfl m DT rfl rfl _ _ hbm (by rw [HDT.out]; exact blkCells) (by rw [HDT.out]; exact HZS.out) HDT1.out ?_
                intro WS hbS hsS
                have hkS : Keep [] w2 WS := hkT.trans' hsS (fun x hx => by right; simp at hx; omega)
                apply hK
                clear hK K
                go_simp
                refine wpAny_done (by kernel_rfl) ?_ _
                exact hR.out _ _ m ⟨rfl, rfl, by repeat (first | exact trivial | refine ⟨rfl, ?_⟩)⟩ hm hbS hkS
              exact AllReady.nil
            exact AllReady.nil
          exact AllReady.nil
        exact AllReady.nil
      exact AllReady.nil
    exact AllReady.nil
  exact AllReady.nil

noncomputable def hturns4 : Code := regionOf Try.f4 4
set_option maxRecDepth 100000 in
set_option maxHeartbeats 8000000 in
theorem turns_reg (hN : ANewC) (hK : AKeyC) (hT : ATurnC) (R : Act → World → Prop) (a : Act) (w2 : World) (K B : Nat) (v5 : Value) (kl bl : List Int) (DK DB DT : Array Value) (hkl : B16 kl) (hbl : B16 bl) (hDK : Hid (DK = (kl.map (Value.int .u8)).toArray)) (hDB : Hid (DB = (bl.map (Value.int .u8)).toArray)) (hDT : Hid (DT = ((Aes.turn kl bl).map (Value.int .u8)).toArray))
    (hBK : Hid (Blk w2 K 29 DK)) (hBB : Hid (Blk w2 B 29 DB))
    (hF : Fr 23 [(2, .pointer (some ⟨K, 0, none⟩)), (3, .pointer (some ⟨B, 0, none⟩)), (5, v5)] a)
    (hR : Hid (∀ a' w' m, Fr 23 [(2, .pointer (some ⟨K, 0, none⟩)), (3, .pointer (some ⟨B, 0, none⟩)), (5, v5), (6, .pointer (some ⟨m, 0, none⟩))] a' → w2.heap.size ≤ m → Blk w' m 29 DT → Keep [] w2 w' → R a' w')) :
    Code.wp Try.prog hturns4 (OutN R) a w2 := by
  obtain ⟨Z, hZ, hZs, hZi⟩ := blk16
  have HZS := Lib.hid hZs
  have HZI := Lib.hid hZi
  have HDK := Lib.hid (show DK.size = 16 by rw [hDK.out]; simp [hkl.1])
  have HDB := Lib.hid (show DB.size = 16 by rw [hDB.out]; simp [hbl.1])
  have HDT := Lib.hid (show DT.size = 16 by rw [hDT.out]; simp [Aes.turn_length])
  have HDT1 := Lib.hid (show DT.all (·.oneCell') = true by rw [hDT.out]; exact arr_cell _)
  have LK : ∀ W, Keep [] w2 W → Blk W K 29 DK := fun W h => hBK.out.keep h (by simp)
  have LB : ∀ W, Keep [] w2 W → Blk W B 29 DB := fun W h => hBB.out.keep h (by simp)
  have hKC : ∀ W g n, AF W g n → Calls Try.prog 14 #[.pointer (some ⟨g, 0, none⟩), .agg DK] W fun e w' => ∃ p, e = .returned (.pointer (some ⟨p, 0, none⟩)) ∧ W.heap.size ≤ p ∧ AK w' p g kl ∧ AT w' g n ∧ Keep [g] W w' := by
    intro W g n h
    have := hK W g n kl h hkl
    rw [arr_agg, ← hDK.out] at this
    exact this
  have hTC : ∀ W p g, AK W p g kl → AT W g 0 → Calls Try.prog 15 #[.pointer (some ⟨p, 0, none⟩), .agg DB] W fun e w' => e = .returned (.agg DT) ∧ AT w' g 1 ∧ Keep [g] W w' := by
    intro W p g h1 h2
    have := hT W p g 0 kl bl h1 h2 (by decide) hkl hbl
    rw [arr_agg, arr_agg, ← hDB.out, ← hDT.out] at this
    exact this
  clear hZ hZs hZi hkl hbl
  obtain ⟨f, ⟨f2, f3, f5, -⟩, rfl⟩ := hF.open23
  simp only [f2, f3, f5]
  clear f2 f3 f5 hF
  conv => arg 2; whnf
  refine wp_region_any (by kernel_rfl) ?_
  change wpAny _ _ _ _ _ _ _ (World.drew _)
  obtain ⟨W0, hW0⟩ : ∃ W0, W0 = w2.drew := ⟨_, rfl⟩
  rw [← hW0]
  have hk0 : Keep [] w2 W0 := by rw [hW0]; exact (Keep.refl [] w2).drew
  clear hW0
  go_simp
  refine wpAny_ready (rs := [0, 1, 3, 5]) (by kernel_rfl) (by simp) ?_
  refine AllReady.cons rfl (fun K hK => ?_) ?_
  ·
    apply step_wp
    · rfl
    refine ow_call _ _ _ (by kernel_rfl) (hN _) ?_
    rintro e WN ⟨g, rfl, hg, hAT, hsN⟩
    refine ⟨_, rfl, ?_⟩
    replace hg : w2.heap.size ≤ g := Nat.le_trans hk0.size hg
    have hkN : Keep [] w2 WN := hk0.trans hsN
    clear hsN
    apply hK
    clear hK K
    go_simp
    refine wpAny_ready (rs := [1, 3, 5]) (by kernel_rfl) (by simp) ?_
    refine AllReady.cons rfl (fun K hK => ?_) ?_
    ·
      apply step_wp
      · rfl
      refine ow_load _ _ rfl _ rfl 16 5 Try.underlying29 _ DK (LK _ hkN) (by rw [HDK.out]; exact blkCells) ?_
      apply hK
      clear hK K
      go_simp
      refine wpAny_ready (rs := [2, 3, 5]) (by kernel_rfl) (by simp) ?_
      refine AllReady.cons rfl (fun K hK => ?_) ?_
      ·
        apply step_wp
        · rfl
        refine ow_call _ _ _ (by kernel_rfl) (hKC _ g 0 hAT) ?_
        rintro e WK ⟨p, rfl, hp, hAK, hAT1, hsK⟩
        refine ⟨_, rfl, ?_⟩
        replace hAT := hAT1
        have hkK : Keep [] w2 WK := hkN.trans' hsK (fun x hx => by right; simp at hx; omega)
        clear hsK hp
        apply hK
        clear hK K
        go_simp
        refine wpAny_ready (rs := [3, 5]) (by kernel_rfl) (by simp) ?_
        refine AllReady.cons rfl (fun K hK => ?_) ?_
        ·
          apply step_wp
          · rfl
          refine ow_load _ _ rfl _ rfl 16 5 Try.underlying29 _ DB (LB _ hkK) (by rw [HDB.out]; exact blkCells) ?_
          apply hK
          clear hK K
          go_simp
          refine wpAny_ready (rs := [4, 5]) (by kernel_rfl) (by simp) ?_
          refine AllReady.cons rfl (fun K hK => ?_) ?_
          ·
            apply step_wp
            · rfl
            refine ow_call _ _ _ (by kernel_rfl) (hTC _ p g hAK hAT) ?_
            rintro e WT ⟨rfl, hAT1, hsT⟩
            refine ⟨_, rfl, ?_⟩
            have hkT : Keep [] w2 WT := hkK.trans' hsT (fun x hx => by right; simp at hx; omega)
            replace hAT := hAT1
            clear hsT
            apply hK
            clear hK K
            go_simp
            refine wpAny_ready (rs := [5]) (by kernel_rfl) (by simp) ?_
            refine AllReady.cons rfl (fun K hK => ?_) ?_
            ·
              apply step_wp
              · rfl
              refine ow_alloc _ rfl Z 16 HZI.out ?_
              intro m WA hm hbm hsA
              have hmg : m ≠ g := by have := hAT.lt; omega
              replace hAT := hAT.keep hsA (by simp)
              replace hm : w2.heap.size ≤ m := by rw [hm]; exact hkT.size
              have hkA : Keep [] w2 WA := hkT.trans hsA
              clear hsA
              apply hK
              clear hK K
              go_simp
              refine wpAny_ready (rs := [6]) (by kernel_rfl) (by simp) ?_
              refine AllReady.cons rfl (fun K hK => ?_) ?_
              ·
                apply step_wp
                · rfl
                refine ow_store _ _ _ rfl m DT rfl rfl _ _ hbm (by rw [HDT.out]; exact blkCells) (by rw [HDT.out]; exact HZS.out) HDT1.out ?_
                intro WS hbS hsS
                have hkS : Keep [] w2 WS := hkA.trans' hsS (fun x hx => by right; simp at hx; omega)
                apply hK
                clear hK K
                go_simp
                refine wpAny_done (by kernel_rfl) ?_ _
                exact hR.out _ _ m ⟨rfl, rfl, by repeat (first | exact trivial | refine ⟨rfl, ?_⟩)⟩ hm hbS hkS
              exact AllReady.nil
            exact AllReady.nil
          refine AllReady.cons rfl (fun K hK => ?_) ?_
          ·
            apply step_wp
            · rfl
            refine ow_alloc _ rfl Z 16 HZI.out ?_
            intro m WA hm hbm hsA
            have hmg : m ≠ g := by have := hAT.lt; omega
            replace hAT := hAT.keep hsA (by simp)
            replace hAK := hAK.keep hsA (by simp)
            replace hm : w2.heap.size ≤ m := by rw [hm]; exact hkK.size
            have hkA : Keep [] w2 WA := hkK.trans hsA
            clear hsA
            apply hK
            clear hK K
            go_simp
            refine wpAny_ready (rs := [4]) (by kernel_rfl) (by simp) ?_
            refine AllReady.cons rfl (fun K hK => ?_) ?_
            ·
              apply step_wp
              · rfl
              refine ow_call _ _ _ (by kernel_rfl) (hTC _ p g hAK hAT) ?_
              rintro e WT ⟨rfl, hAT1, hsT⟩
              refine ⟨_, rfl, ?_⟩
              have hkT : Keep [] w2 WT := hkA.trans' hsT (fun x hx => by right; simp at hx; omega)
              replace hbm := hbm.keep hsT (by simpa using hmg)
              replace hAT := hAT1
              clear hsT
              apply hK
              clear hK K
              go_simp
              refine wpAny_ready (rs := [6]) (by kernel_rfl) (by simp) ?_
              refine AllReady.cons rfl (fun K hK => ?_) ?_
              ·
                apply step_wp
                · rfl
                refine ow_store _ _ _ rfl m DT rfl rfl _ _ hbm (by rw [HDT.out]; exact blkCells) (by rw [HDT.out]; exact HZS.out) HDT1.out ?_
                intro WS hbS hsS
                have hkS : Keep [] w2 WS := hkT.trans' hsS (fun x hx => by right; simp at hx; omega)
                apply hK
                clear hK K
                go_simp
                refine wpAny_done (by kernel_rfl) ?_ _
                exact hR.out _ _ m ⟨rfl, rfl, by repeat (first | exact trivial | refine ⟨rfl, ?_⟩)⟩ hm hbS hkS
              exact AllReady.nil
            exact AllReady.nil
          exact AllReady.nil
        refine AllReady.cons rfl (fun K hK => ?_) ?_
        ·
          apply step_wp
          · rfl
          refine ow_alloc _ rfl Z 16 HZI.out ?_
          intro m WA hm hbm hsA
          have hmg : m ≠ g := by have := hAT.lt; omega
          replace hAT := hAT.keep hsA (by simp)
          replace hAK := hAK.keep hsA (by simp)
          replace hm : w2.heap.size ≤ m := by rw [hm]; exact hkK.size
          have hkA : Keep [] w2 WA := hkK.trans hsA
          clear hsA
          apply hK
          clear hK K
          go_simp
          refine wpAny_ready (rs := [3]) (by kernel_rfl) (by simp) ?_
          refine AllReady.cons rfl (fun K hK => ?_) ?_
          ·
            apply step_wp
            · rfl
            refine ow_load _ _ rfl _ rfl 16 5 Try.underlying29 _ DB (LB _ hkA) (by rw [HDB.out]; exact blkCells) ?_
            apply hK
            clear hK K
            go_simp
            refine wpAny_ready (rs := [4]) (by kernel_rfl) (by simp) ?_
            refine AllReady.cons rfl (fun K hK => ?_) ?_
            ·
              apply step_wp
              · rfl
              refine ow_call _ _ _ (by kernel_rfl) (hTC _ p g hAK hAT) ?_
              rintro e WT ⟨rfl, hAT1, hsT⟩
              refine ⟨_, rfl, ?_⟩
              have hkT : Keep [] w2 WT := hkA.trans' hsT (fun x hx => by right; simp at hx; omega)
              replace hbm := hbm.keep hsT (by simpa using hmg)
              replace hAT := hAT1
              clear hsT
              apply hK
              clear hK K
              go_simp
              refine wpAny_ready (rs := [6]) (by kernel_rfl) (by simp) ?_
              refine AllReady.cons rfl (fun K hK => ?_) ?_
              ·
                apply step_wp
                · rfl
                refine ow_store _ _ _ rfl m DT rfl rfl _ _ hbm (by rw [HDT.out]; exact blkCells) (by rw [HDT.out]; exact HZS.out) HDT1.out ?_
                intro WS hbS hsS
                have hkS : Keep [] w2 WS := hkT.trans' hsS (fun x hx => by right; simp at hx; omega)
                apply hK
                clear hK K
                go_simp
                refine wpAny_done (by kernel_rfl) ?_ _
                exact hR.out _ _ m ⟨rfl, rfl, by repeat (first | exact trivial | refine ⟨rfl, ?_⟩)⟩ hm hbS hkS
              exact AllReady.nil
            exact AllReady.nil
          exact AllReady.nil
        exact AllReady.nil
      refine AllReady.cons rfl (fun K hK => ?_) ?_
      ·
        apply step_wp
        · rfl
        refine ow_load _ _ rfl _ rfl 16 5 Try.underlying29 _ DB (LB _ hkN) (by rw [HDB.out]; exact blkCells) ?_
        apply hK
        clear hK K
        go_simp
        refine wpAny_ready (rs := [2, 5]) (by kernel_rfl) (by simp) ?_
        refine AllReady.cons rfl (fun K hK => ?_) ?_
        ·
          apply step_wp
          · rfl
          refine ow_call _ _ _ (by kernel_rfl) (hKC _ g 0 hAT) ?_
          rintro e WK ⟨p, rfl, hp, hAK, hAT1, hsK⟩
          refine ⟨_, rfl, ?_⟩
          replace hAT := hAT1
          have hkK : Keep [] w2 WK := hkN.trans' hsK (fun x hx => by right; simp at hx; omega)
          clear hsK hp
          apply hK
          clear hK K
          go_simp
          refine wpAny_ready (rs := [4, 5]) (by kernel_rfl) (by simp) ?_
          refine AllReady.cons rfl (fun K hK => ?_) ?_
          ·
            apply step_wp
            · rfl
            refine ow_call _ _ _ (by kernel_rfl) (hTC _ p g hAK hAT) ?_
            rintro e WT ⟨rfl, hAT1, hsT⟩
            refine ⟨_, rfl, ?_⟩
            have hkT : Keep [] w2 WT := hkK.trans' hsT (fun x hx => by right; simp at hx; omega)
            replace hAT := hAT1
            clear hsT
            apply hK
            clear hK K
            go_simp
            refine wpAny_ready (rs := [5]) (by kernel_rfl) (by simp) ?_
            refine AllReady.cons rfl (fun K hK => ?_) ?_
            ·
              apply step_wp
              · rfl
              refine ow_alloc _ rfl Z 16 HZI.out ?_
              intro m WA hm hbm hsA
              have hmg : m ≠ g := by have := hAT.lt; omega
              replace hAT := hAT.keep hsA (by simp)
              replace hm : w2.heap.size ≤ m := by rw [hm]; exact hkT.size
              have hkA : Keep [] w2 WA := hkT.trans hsA
              clear hsA
              apply hK
              clear hK K
              go_simp
              refine wpAny_ready (rs := [6]) (by kernel_rfl) (by simp) ?_
              refine AllReady.cons rfl (fun K hK => ?_) ?_
              ·
                apply step_wp
                · rfl
                refine ow_store _ _ _ rfl m DT rfl rfl _ _ hbm (by rw [HDT.out]; exact blkCells) (by rw [HDT.out]; exact HZS.out) HDT1.out ?_
                intro WS hbS hsS
                have hkS : Keep [] w2 WS := hkA.trans' hsS (fun x hx => by right; simp at hx; omega)
                apply hK
                clear hK K
                go_simp
                refine wpAny_done (by kernel_rfl) ?_ _
                exact hR.out _ _ m ⟨rfl, rfl, by repeat (first | exact trivial | refine ⟨rfl, ?_⟩)⟩ hm hbS hkS
              exact AllReady.nil
            exact AllReady.nil
          refine AllReady.cons rfl (fun K hK => ?_) ?_
          ·
            apply step_wp
            · rfl
            refine ow_alloc _ rfl Z 16 HZI.out ?_
            intro m WA hm hbm hsA
            have hmg : m ≠ g := by have := hAT.lt; omega
            replace hAT := hAT.keep hsA (by simp)
            replace hAK := hAK.keep hsA (by simp)
            replace hm : w2.heap.size ≤ m := by rw [hm]; exact hkK.size
            have hkA : Keep [] w2 WA := hkK.trans hsA
            clear hsA
            apply hK
            clear hK K
            go_simp
            refine wpAny_ready (rs := [4]) (by kernel_rfl) (by simp) ?_
            refine AllReady.cons rfl (fun K hK => ?_) ?_
            ·
              apply step_wp
              · rfl
              refine ow_call _ _ _ (by kernel_rfl) (hTC _ p g hAK hAT) ?_
              rintro e WT ⟨rfl, hAT1, hsT⟩
              refine ⟨_, rfl, ?_⟩
              have hkT : Keep [] w2 WT := hkA.trans' hsT (fun x hx => by right; simp at hx; omega)
              replace hbm := hbm.keep hsT (by simpa using hmg)
              replace hAT := hAT1
              clear hsT
              apply hK
              clear hK K
              go_simp
              refine wpAny_ready (rs := [6]) (by kernel_rfl) (by simp) ?_
              refine AllReady.cons rfl (fun K hK => ?_) ?_
              ·
                apply step_wp
                · rfl
                refine ow_store _ _ _ rfl m DT rfl rfl _ _ hbm (by rw [HDT.out]; exact blkCells) (by rw [HDT.out]; exact HZS.out) HDT1.out ?_
                intro WS hbS hsS
                have hkS : Keep [] w2 WS := hkT.trans' hsS (fun x hx => by right; simp at hx; omega)
                apply hK
                clear hK K
                go_simp
                refine wpAny_done (by kernel_rfl) ?_ _
                exact hR.out _ _ m ⟨rfl, rfl, by repeat (first | exact trivial | refine ⟨rfl, ?_⟩)⟩ hm hbS hkS
              exact AllReady.nil
            exact AllReady.nil
          exact AllReady.nil
        refine AllReady.cons rfl (fun K hK => ?_) ?_
        ·
          apply step_wp
          · rfl
          refine ow_alloc _ rfl Z 16 HZI.out ?_
          intro m WA hm hbm hsA
          have hmg : m ≠ g := by have := hAT.lt; omega
          replace hAT := hAT.keep hsA (by simp)
          replace hm : w2.heap.size ≤ m := by rw [hm]; exact hkN.size
          have hkA : Keep [] w2 WA := hkN.trans hsA
          clear hsA
          apply hK
          clear hK K
          go_simp
          refine wpAny_ready (rs := [2]) (by kernel_rfl) (by simp) ?_
          refine AllReady.cons rfl (fun K hK => ?_) ?_
          ·
            apply step_wp
            · rfl
            refine ow_call _ _ _ (by kernel_rfl) (hKC _ g 0 hAT) ?_
            rintro e WK ⟨p, rfl, hp, hAK, hAT1, hsK⟩
            refine ⟨_, rfl, ?_⟩
            replace hAT := hAT1
            have hkK : Keep [] w2 WK := hkA.trans' hsK (fun x hx => by right; simp at hx; omega)
            replace hbm := hbm.keep hsK (by simpa using hmg)
            clear hsK hp
            apply hK
            clear hK K
            go_simp
            refine wpAny_ready (rs := [4]) (by kernel_rfl) (by simp) ?_
            refine AllReady.cons rfl (fun K hK => ?_) ?_
            ·
              apply step_wp
              · rfl
              refine ow_call _ _ _ (by kernel_rfl) (hTC _ p g hAK hAT) ?_
              rintro e WT ⟨rfl, hAT1, hsT⟩
              refine ⟨_, rfl, ?_⟩
              have hkT : Keep [] w2 WT := hkK.trans' hsT (fun x hx => by right; simp at hx; omega)
              replace hbm := hbm.keep hsT (by simpa using hmg)
              replace hAT := hAT1
              clear hsT
              apply hK
              clear hK K
              go_simp
              refine wpAny_ready (rs := [6]) (by kernel_rfl) (by simp) ?_
              refine AllReady.cons rfl (fun K hK => ?_) ?_
              ·
                apply step_wp
                · rfl
                refine ow_store _ _ _ rfl m DT rfl rfl _ _ hbm (by rw [HDT.out]; exact blkCells) (by rw [HDT.out]; exact HZS.out) HDT1.out ?_
                intro WS hbS hsS
                have hkS : Keep [] w2 WS := hkT.trans' hsS (fun x hx => by right; simp at hx; omega)
                apply hK
                clear hK K
                go_simp
                refine wpAny_done (by kernel_rfl) ?_ _
                exact hR.out _ _ m ⟨rfl, rfl, by repeat (first | exact trivial | refine ⟨rfl, ?_⟩)⟩ hm hbS hkS
              exact AllReady.nil
            exact AllReady.nil
          exact AllReady.nil
        exact AllReady.nil
      refine AllReady.cons rfl (fun K hK => ?_) ?_
      ·
        apply step_wp
        · rfl
        refine ow_alloc _ rfl Z 16 HZI.out ?_
        intro m WA hm hbm hsA
        have hmg : m ≠ g := by have := hAT.lt; omega
        replace hAT := hAT.keep hsA (by simp)
        replace hm : w2.heap.size ≤ m := by rw [hm]; exact hkN.size
        have hkA : Keep [] w2 WA := hkN.trans hsA
        clear hsA
        apply hK
        clear hK K
        go_simp
        refine wpAny_ready (rs := [2, 3]) (by kernel_rfl) (by simp) ?_
        refine AllReady.cons rfl (fun K hK => ?_) ?_
        ·
          apply step_wp
          · rfl
          refine ow_call _ _ _ (by kernel_rfl) (hKC _ g 0 hAT) ?_
          rintro e WK ⟨p, rfl, hp, hAK, hAT1, hsK⟩
          refine ⟨_, rfl, ?_⟩
          replace hAT := hAT1
          have hkK : Keep [] w2 WK := hkA.trans' hsK (fun x hx => by right; simp at hx; omega)
          replace hbm := hbm.keep hsK (by simpa using hmg)
          clear hsK hp
          apply hK
          clear hK K
          go_simp
          refine wpAny_ready (rs := [3]) (by kernel_rfl) (by simp) ?_
          refine AllReady.cons rfl (fun K hK => ?_) ?_
          ·
            apply step_wp
            · rfl
            refine ow_load _ _ rfl _ rfl 16 5 Try.underlying29 _ DB (LB _ hkK) (by rw [HDB.out]; exact blkCells) ?_
            apply hK
            clear hK K
            go_simp
            refine wpAny_ready (rs := [4]) (by kernel_rfl) (by simp) ?_
            refine AllReady.cons rfl (fun K hK => ?_) ?_
            ·
              apply step_wp
              · rfl
              refine ow_call _ _ _ (by kernel_rfl) (hTC _ p g hAK hAT) ?_
              rintro e WT ⟨rfl, hAT1, hsT⟩
              refine ⟨_, rfl, ?_⟩
              have hkT : Keep [] w2 WT := hkK.trans' hsT (fun x hx => by right; simp at hx; omega)
              replace hbm := hbm.keep hsT (by simpa using hmg)
              replace hAT := hAT1
              clear hsT
              apply hK
              clear hK K
              go_simp
              refine wpAny_ready (rs := [6]) (by kernel_rfl) (by simp) ?_
              refine AllReady.cons rfl (fun K hK => ?_) ?_
              ·
                apply step_wp
                · rfl
                refine ow_store _ _ _ rfl m DT rfl rfl _ _ hbm (by rw [HDT.out]; exact blkCells) (by rw [HDT.out]; exact HZS.out) HDT1.out ?_
                intro WS hbS hsS
                have hkS : Keep [] w2 WS := hkT.trans' hsS (fun x hx => by right; simp at hx; omega)
                apply hK
                clear hK K
                go_simp
                refine wpAny_done (by kernel_rfl) ?_ _
                exact hR.out _ _ m ⟨rfl, rfl, by repeat (first | exact trivial | refine ⟨rfl, ?_⟩)⟩ hm hbS hkS
              exact AllReady.nil
            exact AllReady.nil
          exact AllReady.nil
        refine AllReady.cons rfl (fun K hK => ?_) ?_
        ·
          apply step_wp
          · rfl
          refine ow_load _ _ rfl _ rfl 16 5 Try.underlying29 _ DB (LB _ hkA) (by rw [HDB.out]; exact blkCells) ?_
          apply hK
          clear hK K
          go_simp
          refine wpAny_ready (rs := [2]) (by kernel_rfl) (by simp) ?_
          refine AllReady.cons rfl (fun K hK => ?_) ?_
          ·
            apply step_wp
            · rfl
            refine ow_call _ _ _ (by kernel_rfl) (hKC _ g 0 hAT) ?_
            rintro e WK ⟨p, rfl, hp, hAK, hAT1, hsK⟩
            refine ⟨_, rfl, ?_⟩
            replace hAT := hAT1
            have hkK : Keep [] w2 WK := hkA.trans' hsK (fun x hx => by right; simp at hx; omega)
            replace hbm := hbm.keep hsK (by simpa using hmg)
            clear hsK hp
            apply hK
            clear hK K
            go_simp
            refine wpAny_ready (rs := [4]) (by kernel_rfl) (by simp) ?_
            refine AllReady.cons rfl (fun K hK => ?_) ?_
            ·
              apply step_wp
              · rfl
              refine ow_call _ _ _ (by kernel_rfl) (hTC _ p g hAK hAT) ?_
              rintro e WT ⟨rfl, hAT1, hsT⟩
              refine ⟨_, rfl, ?_⟩
              have hkT : Keep [] w2 WT := hkK.trans' hsT (fun x hx => by right; simp at hx; omega)
              replace hbm := hbm.keep hsT (by simpa using hmg)
              replace hAT := hAT1
              clear hsT
              apply hK
              clear hK K
              go_simp
              refine wpAny_ready (rs := [6]) (by kernel_rfl) (by simp) ?_
              refine AllReady.cons rfl (fun K hK => ?_) ?_
              ·
                apply step_wp
                · rfl
                refine ow_store _ _ _ rfl m DT rfl rfl _ _ hbm (by rw [HDT.out]; exact blkCells) (by rw [HDT.out]; exact HZS.out) HDT1.out ?_
                intro WS hbS hsS
                have hkS : Keep [] w2 WS := hkT.trans' hsS (fun x hx => by right; simp at hx; omega)
                apply hK
                clear hK K
                go_simp
                refine wpAny_done (by kernel_rfl) ?_ _
                exact hR.out _ _ m ⟨rfl, rfl, by repeat (first | exact trivial | refine ⟨rfl, ?_⟩)⟩ hm hbS hkS
              exact AllReady.nil
            exact AllReady.nil
          exact AllReady.nil
        exact AllReady.nil
      exact AllReady.nil
    refine AllReady.cons rfl (fun K hK => ?_) ?_
    ·
      apply step_wp
      · rfl
      refine ow_load _ _ rfl _ rfl 16 5 Try.underlying29 _ DB (LB _ hkN) (by rw [HDB.out]; exact blkCells) ?_
      apply hK
      clear hK K
      go_simp
      refine wpAny_ready (rs := [1, 5]) (by kernel_rfl) (by simp) ?_
      refine AllReady.cons rfl (fun K hK => ?_) ?_
      ·
        apply step_wp
        · rfl
        refine ow_load _ _ rfl _ rfl 16 5 Try.underlying29 _ DK (LK _ hkN) (by rw [HDK.out]; exact blkCells) ?_
        apply hK
        clear hK K
        go_simp
        refine wpAny_ready (rs := [2, 5]) (by kernel_rfl) (by simp) ?_
        refine AllReady.cons rfl (fun K hK => ?_) ?_
        ·
          apply step_wp
          · rfl
          refine ow_call _ _ _ (by kernel_rfl) (hKC _ g 0 hAT) ?_
          rintro e WK ⟨p, rfl, hp, hAK, hAT1, hsK⟩
          refine ⟨_, rfl, ?_⟩
          replace hAT := hAT1
          have hkK : Keep [] w2 WK := hkN.trans' hsK (fun x hx => by right; simp at hx; omega)
          clear hsK hp
          apply hK
          clear hK K
          go_simp
          refine wpAny_ready (rs := [4, 5]) (by kernel_rfl) (by simp) ?_
          refine AllReady.cons rfl (fun K hK => ?_) ?_
          ·
            apply step_wp
            · rfl
            refine ow_call _ _ _ (by kernel_rfl) (hTC _ p g hAK hAT) ?_
            rintro e WT ⟨rfl, hAT1, hsT⟩
            refine ⟨_, rfl, ?_⟩
            have hkT : Keep [] w2 WT := hkK.trans' hsT (fun x hx => by right; simp at hx; omega)
            replace hAT := hAT1
            clear hsT
            apply hK
            clear hK K
            go_simp
            refine wpAny_ready (rs := [5]) (by kernel_rfl) (by simp) ?_
            refine AllReady.cons rfl (fun K hK => ?_) ?_
            ·
              apply step_wp
              · rfl
              refine ow_alloc _ rfl Z 16 HZI.out ?_
              intro m WA hm hbm hsA
              have hmg : m ≠ g := by have := hAT.lt; omega
              replace hAT := hAT.keep hsA (by simp)
              replace hm : w2.heap.size ≤ m := by rw [hm]; exact hkT.size
              have hkA : Keep [] w2 WA := hkT.trans hsA
              clear hsA
              apply hK
              clear hK K
              go_simp
              refine wpAny_ready (rs := [6]) (by kernel_rfl) (by simp) ?_
              refine AllReady.cons rfl (fun K hK => ?_) ?_
              ·
                apply step_wp
                · rfl
                refine ow_store _ _ _ rfl m DT rfl rfl _ _ hbm (by rw [HDT.out]; exact blkCells) (by rw [HDT.out]; exact HZS.out) HDT1.out ?_
                intro WS hbS hsS
                have hkS : Keep [] w2 WS := hkA.trans' hsS (fun x hx => by right; simp at hx; omega)
                apply hK
                clear hK K
                go_simp
                refine wpAny_done (by kernel_rfl) ?_ _
                exact hR.out _ _ m ⟨rfl, rfl, by repeat (first | exact trivial | refine ⟨rfl, ?_⟩)⟩ hm hbS hkS
              exact AllReady.nil
            exact AllReady.nil
          refine AllReady.cons rfl (fun K hK => ?_) ?_
          ·
            apply step_wp
            · rfl
            refine ow_alloc _ rfl Z 16 HZI.out ?_
            intro m WA hm hbm hsA
            have hmg : m ≠ g := by have := hAT.lt; omega
            replace hAT := hAT.keep hsA (by simp)
            replace hAK := hAK.keep hsA (by simp)
            replace hm : w2.heap.size ≤ m := by rw [hm]; exact hkK.size
            have hkA : Keep [] w2 WA := hkK.trans hsA
            clear hsA
            apply hK
            clear hK K
            go_simp
            refine wpAny_ready (rs := [4]) (by kernel_rfl) (by simp) ?_
            refine AllReady.cons rfl (fun K hK => ?_) ?_
            ·
              apply step_wp
              · rfl
              refine ow_call _ _ _ (by kernel_rfl) (hTC _ p g hAK hAT) ?_
              rintro e WT ⟨rfl, hAT1, hsT⟩
              refine ⟨_, rfl, ?_⟩
              have hkT : Keep [] w2 WT := hkA.trans' hsT (fun x hx => by right; simp at hx; omega)
              replace hbm := hbm.keep hsT (by simpa using hmg)
              replace hAT := hAT1
              clear hsT
              apply hK
              clear hK K
              go_simp
              refine wpAny_ready (rs := [6]) (by kernel_rfl) (by simp) ?_
              refine AllReady.cons rfl (fun K hK => ?_) ?_
              ·
                apply step_wp
                · rfl
                refine ow_store _ _ _ rfl m DT rfl rfl _ _ hbm (by rw [HDT.out]; exact blkCells) (by rw [HDT.out]; exact HZS.out) HDT1.out ?_
                intro WS hbS hsS
                have hkS : Keep [] w2 WS := hkT.trans' hsS (fun x hx => by right; simp at hx; omega)
                apply hK
                clear hK K
                go_simp
                refine wpAny_done (by kernel_rfl) ?_ _
                exact hR.out _ _ m ⟨rfl, rfl, by repeat (first | exact trivial | refine ⟨rfl, ?_⟩)⟩ hm hbS hkS
              exact AllReady.nil
            exact AllReady.nil
          exact AllReady.nil
        refine AllReady.cons rfl (fun K hK => ?_) ?_
        ·
          apply step_wp
          · rfl
          refine ow_alloc _ rfl Z 16 HZI.out ?_
          intro m WA hm hbm hsA
          have hmg : m ≠ g := by have := hAT.lt; omega
          replace hAT := hAT.keep hsA (by simp)
          replace hm : w2.heap.size ≤ m := by rw [hm]; exact hkN.size
          have hkA : Keep [] w2 WA := hkN.trans hsA
          clear hsA
          apply hK
          clear hK K
          go_simp
          refine wpAny_ready (rs := [2]) (by kernel_rfl) (by simp) ?_
          refine AllReady.cons rfl (fun K hK => ?_) ?_
          ·
            apply step_wp
            · rfl
            refine ow_call _ _ _ (by kernel_rfl) (hKC _ g 0 hAT) ?_
            rintro e WK ⟨p, rfl, hp, hAK, hAT1, hsK⟩
            refine ⟨_, rfl, ?_⟩
            replace hAT := hAT1
            have hkK : Keep [] w2 WK := hkA.trans' hsK (fun x hx => by right; simp at hx; omega)
            replace hbm := hbm.keep hsK (by simpa using hmg)
            clear hsK hp
            apply hK
            clear hK K
            go_simp
            refine wpAny_ready (rs := [4]) (by kernel_rfl) (by simp) ?_
            refine AllReady.cons rfl (fun K hK => ?_) ?_
            ·
              apply step_wp
              · rfl
              refine ow_call _ _ _ (by kernel_rfl) (hTC _ p g hAK hAT) ?_
              rintro e WT ⟨rfl, hAT1, hsT⟩
              refine ⟨_, rfl, ?_⟩
              have hkT : Keep [] w2 WT := hkK.trans' hsT (fun x hx => by right; simp at hx; omega)
              replace hbm := hbm.keep hsT (by simpa using hmg)
              replace hAT := hAT1
              clear hsT
              apply hK
              clear hK K
              go_simp
              refine wpAny_ready (rs := [6]) (by kernel_rfl) (by simp) ?_
              refine AllReady.cons rfl (fun K hK => ?_) ?_
              ·
                apply step_wp
                · rfl
                refine ow_store _ _ _ rfl m DT rfl rfl _ _ hbm (by rw [HDT.out]; exact blkCells) (by rw [HDT.out]; exact HZS.out) HDT1.out ?_
                intro WS hbS hsS
                have hkS : Keep [] w2 WS := hkT.trans' hsS (fun x hx => by right; simp at hx; omega)
                apply hK
                clear hK K
                go_simp
                refine wpAny_done (by kernel_rfl) ?_ _
                exact hR.out _ _ m ⟨rfl, rfl, by repeat (first | exact trivial | refine ⟨rfl, ?_⟩)⟩ hm hbS hkS
              exact AllReady.nil
            exact AllReady.nil
          exact AllReady.nil
        exact AllReady.nil
      refine AllReady.cons rfl (fun K hK => ?_) ?_
      ·
        apply step_wp
        · rfl
        refine ow_alloc _ rfl Z 16 HZI.out ?_
        intro m WA hm hbm hsA
        have hmg : m ≠ g := by have := hAT.lt; omega
        replace hAT := hAT.keep hsA (by simp)
        replace hm : w2.heap.size ≤ m := by rw [hm]; exact hkN.size
        have hkA : Keep [] w2 WA := hkN.trans hsA
        clear hsA
        apply hK
        clear hK K
        go_simp
        refine wpAny_ready (rs := [1]) (by kernel_rfl) (by simp) ?_
        refine AllReady.cons rfl (fun K hK => ?_) ?_
        ·
          apply step_wp
          · rfl
          refine ow_load _ _ rfl _ rfl 16 5 Try.underlying29 _ DK (LK _ hkA) (by rw [HDK.out]; exact blkCells) ?_
          apply hK
          clear hK K
          go_simp
          refine wpAny_ready (rs := [2]) (by kernel_rfl) (by simp) ?_
          refine AllReady.cons rfl (fun K hK => ?_) ?_
          ·
            apply step_wp
            · rfl
            refine ow_call _ _ _ (by kernel_rfl) (hKC _ g 0 hAT) ?_
            rintro e WK ⟨p, rfl, hp, hAK, hAT1, hsK⟩
            refine ⟨_, rfl, ?_⟩
            replace hAT := hAT1
            have hkK : Keep [] w2 WK := hkA.trans' hsK (fun x hx => by right; simp at hx; omega)
            replace hbm := hbm.keep hsK (by simpa using hmg)
            clear hsK hp
            apply hK
            clear hK K
            go_simp
            refine wpAny_ready (rs := [4]) (by kernel_rfl) (by simp) ?_
            refine AllReady.cons rfl (fun K hK => ?_) ?_
            ·
              apply step_wp
              · rfl
              refine ow_call _ _ _ (by kernel_rfl) (hTC _ p g hAK hAT) ?_
              rintro e WT ⟨rfl, hAT1, hsT⟩
              refine ⟨_, rfl, ?_⟩
              have hkT : Keep [] w2 WT := hkK.trans' hsT (fun x hx => by right; simp at hx; omega)
              replace hbm := hbm.keep hsT (by simpa using hmg)
              replace hAT := hAT1
              clear hsT
              apply hK
              clear hK K
              go_simp
              refine wpAny_ready (rs := [6]) (by kernel_rfl) (by simp) ?_
              refine AllReady.cons rfl (fun K hK => ?_) ?_
              ·
                apply step_wp
                · rfl
                refine ow_store _ _ _ rfl m DT rfl rfl _ _ hbm (by rw [HDT.out]; exact blkCells) (by rw [HDT.out]; exact HZS.out) HDT1.out ?_
                intro WS hbS hsS
                have hkS : Keep [] w2 WS := hkT.trans' hsS (fun x hx => by right; simp at hx; omega)
                apply hK
                clear hK K
                go_simp
                refine wpAny_done (by kernel_rfl) ?_ _
                exact hR.out _ _ m ⟨rfl, rfl, by repeat (first | exact trivial | refine ⟨rfl, ?_⟩)⟩ hm hbS hkS
              exact AllReady.nil
            exact AllReady.nil
          exact AllReady.nil
        exact AllReady.nil
      exact AllReady.nil
    refine AllReady.cons rfl (fun K hK => ?_) ?_
    ·
      apply step_wp
      · rfl
      refine ow_alloc _ rfl Z 16 HZI.out ?_
      intro m WA hm hbm hsA
      have hmg : m ≠ g := by have := hAT.lt; omega
      replace hAT := hAT.keep hsA (by simp)
      replace hm : w2.heap.size ≤ m := by rw [hm]; exact hkN.size
      have hkA : Keep [] w2 WA := hkN.trans hsA
      clear hsA
      apply hK
      clear hK K
      go_simp
      refine wpAny_ready (rs := [1, 3]) (by kernel_rfl) (by simp) ?_
      refine AllReady.cons rfl (fun K hK => ?_) ?_
      ·
        apply step_wp
        · rfl
        refine ow_load _ _ rfl _ rfl 16 5 Try.underlying29 _ DK (LK _ hkA) (by rw [HDK.out]; exact blkCells) ?_
        apply hK
        clear hK K
        go_simp
        refine wpAny_ready (rs := [2, 3]) (by kernel_rfl) (by simp) ?_
        refine AllReady.cons rfl (fun K hK => ?_) ?_
        ·
          apply step_wp
          · rfl
          refine ow_call _ _ _ (by kernel_rfl) (hKC _ g 0 hAT) ?_
          rintro e WK ⟨p, rfl, hp, hAK, hAT1, hsK⟩
          refine ⟨_, rfl, ?_⟩
          replace hAT := hAT1
          have hkK : Keep [] w2 WK := hkA.trans' hsK (fun x hx => by right; simp at hx; omega)
          replace hbm := hbm.keep hsK (by simpa using hmg)
          clear hsK hp
          apply hK
          clear hK K
          go_simp
          refine wpAny_ready (rs := [3]) (by kernel_rfl) (by simp) ?_
          refine AllReady.cons rfl (fun K hK => ?_) ?_
          ·
            apply step_wp
            · rfl
            refine ow_load _ _ rfl _ rfl 16 5 Try.underlying29 _ DB (LB _ hkK) (by rw [HDB.out]; exact blkCells) ?_
            apply hK
            clear hK K
            go_simp
            refine wpAny_ready (rs := [4]) (by kernel_rfl) (by simp) ?_
            refine AllReady.cons rfl (fun K hK => ?_) ?_
            ·
              apply step_wp
              · rfl
              refine ow_call _ _ _ (by kernel_rfl) (hTC _ p g hAK hAT) ?_
              rintro e WT ⟨rfl, hAT1, hsT⟩
              refine ⟨_, rfl, ?_⟩
              have hkT : Keep [] w2 WT := hkK.trans' hsT (fun x hx => by right; simp at hx; omega)
              replace hbm := hbm.keep hsT (by simpa using hmg)
              replace hAT := hAT1
              clear hsT
              apply hK
              clear hK K
              go_simp
              refine wpAny_ready (rs := [6]) (by kernel_rfl) (by simp) ?_
              refine AllReady.cons rfl (fun K hK => ?_) ?_
              ·
                apply step_wp
                · rfl
                refine ow_store _ _ _ rfl m DT rfl rfl _ _ hbm (by rw [HDT.out]; exact blkCells) (by rw [HDT.out]; exact HZS.out) HDT1.out ?_
                intro WS hbS hsS
                have hkS : Keep [] w2 WS := hkT.trans' hsS (fun x hx => by right; simp at hx; omega)
                apply hK
                clear hK K
                go_simp
                refine wpAny_done (by kernel_rfl) ?_ _
                exact hR.out _ _ m ⟨rfl, rfl, by repeat (first | exact trivial | refine ⟨rfl, ?_⟩)⟩ hm hbS hkS
              exact AllReady.nil
            exact AllReady.nil
          exact AllReady.nil
        refine AllReady.cons rfl (fun K hK => ?_) ?_
        ·
          apply step_wp
          · rfl
          refine ow_load _ _ rfl _ rfl 16 5 Try.underlying29 _ DB (LB _ hkA) (by rw [HDB.out]; exact blkCells) ?_
          apply hK
          clear hK K
          go_simp
          refine wpAny_ready (rs := [2]) (by kernel_rfl) (by simp) ?_
          refine AllReady.cons rfl (fun K hK => ?_) ?_
          ·
            apply step_wp
            · rfl
            refine ow_call _ _ _ (by kernel_rfl) (hKC _ g 0 hAT) ?_
            rintro e WK ⟨p, rfl, hp, hAK, hAT1, hsK⟩
            refine ⟨_, rfl, ?_⟩
            replace hAT := hAT1
            have hkK : Keep [] w2 WK := hkA.trans' hsK (fun x hx => by right; simp at hx; omega)
            replace hbm := hbm.keep hsK (by simpa using hmg)
            clear hsK hp
            apply hK
            clear hK K
            go_simp
            refine wpAny_ready (rs := [4]) (by kernel_rfl) (by simp) ?_
            refine AllReady.cons rfl (fun K hK => ?_) ?_
            ·
              apply step_wp
              · rfl
              refine ow_call _ _ _ (by kernel_rfl) (hTC _ p g hAK hAT) ?_
              rintro e WT ⟨rfl, hAT1, hsT⟩
              refine ⟨_, rfl, ?_⟩
              have hkT : Keep [] w2 WT := hkK.trans' hsT (fun x hx => by right; simp at hx; omega)
              replace hbm := hbm.keep hsT (by simpa using hmg)
              replace hAT := hAT1
              clear hsT
              apply hK
              clear hK K
              go_simp
              refine wpAny_ready (rs := [6]) (by kernel_rfl) (by simp) ?_
              refine AllReady.cons rfl (fun K hK => ?_) ?_
              ·
                apply step_wp
                · rfl
                refine ow_store _ _ _ rfl m DT rfl rfl _ _ hbm (by rw [HDT.out]; exact blkCells) (by rw [HDT.out]; exact HZS.out) HDT1.out ?_
                intro WS hbS hsS
                have hkS : Keep [] w2 WS := hkT.trans' hsS (fun x hx => by right; simp at hx; omega)
                apply hK
                clear hK K
                go_simp
                refine wpAny_done (by kernel_rfl) ?_ _
                exact hR.out _ _ m ⟨rfl, rfl, by repeat (first | exact trivial | refine ⟨rfl, ?_⟩)⟩ hm hbS hkS
              exact AllReady.nil
            exact AllReady.nil
          exact AllReady.nil
        exact AllReady.nil
      refine AllReady.cons rfl (fun K hK => ?_) ?_
      ·
        apply step_wp
        · rfl
        refine ow_load _ _ rfl _ rfl 16 5 Try.underlying29 _ DB (LB _ hkA) (by rw [HDB.out]; exact blkCells) ?_
        apply hK
        clear hK K
        go_simp
        refine wpAny_ready (rs := [1]) (by kernel_rfl) (by simp) ?_
        refine AllReady.cons rfl (fun K hK => ?_) ?_
        ·
          apply step_wp
          · rfl
          refine ow_load _ _ rfl _ rfl 16 5 Try.underlying29 _ DK (LK _ hkA) (by rw [HDK.out]; exact blkCells) ?_
          apply hK
          clear hK K
          go_simp
          refine wpAny_ready (rs := [2]) (by kernel_rfl) (by simp) ?_
          refine AllReady.cons rfl (fun K hK => ?_) ?_
          ·
            apply step_wp
            · rfl
            refine ow_call _ _ _ (by kernel_rfl) (hKC _ g 0 hAT) ?_
            rintro e WK ⟨p, rfl, hp, hAK, hAT1, hsK⟩
            refine ⟨_, rfl, ?_⟩
            replace hAT := hAT1
            have hkK : Keep [] w2 WK := hkA.trans' hsK (fun x hx => by right; simp at hx; omega)
            replace hbm := hbm.keep hsK (by simpa using hmg)
            clear hsK hp
            apply hK
            clear hK K
            go_simp
            refine wpAny_ready (rs := [4]) (by kernel_rfl) (by simp) ?_
            refine AllReady.cons rfl (fun K hK => ?_) ?_
            ·
              apply step_wp
              · rfl
              refine ow_call _ _ _ (by kernel_rfl) (hTC _ p g hAK hAT) ?_
              rintro e WT ⟨rfl, hAT1, hsT⟩
              refine ⟨_, rfl, ?_⟩
              have hkT : Keep [] w2 WT := hkK.trans' hsT (fun x hx => by right; simp at hx; omega)
              replace hbm := hbm.keep hsT (by simpa using hmg)
              replace hAT := hAT1
              clear hsT
              apply hK
              clear hK K
              go_simp
              refine wpAny_ready (rs := [6]) (by kernel_rfl) (by simp) ?_
              refine AllReady.cons rfl (fun K hK => ?_) ?_
              ·
                apply step_wp
                · rfl
                refine ow_store _ _ _ rfl m DT rfl rfl _ _ hbm (by rw [HDT.out]; exact blkCells) (by rw [HDT.out]; exact HZS.out) HDT1.out ?_
                intro WS hbS hsS
                have hkS : Keep [] w2 WS := hkT.trans' hsS (fun x hx => by right; simp at hx; omega)
                apply hK
                clear hK K
                go_simp
                refine wpAny_done (by kernel_rfl) ?_ _
                exact hR.out _ _ m ⟨rfl, rfl, by repeat (first | exact trivial | refine ⟨rfl, ?_⟩)⟩ hm hbS hkS
              exact AllReady.nil
            exact AllReady.nil
          exact AllReady.nil
        exact AllReady.nil
      exact AllReady.nil
    exact AllReady.nil
  refine AllReady.cons rfl (fun K hK => ?_) ?_
  ·
    apply step_wp
    · rfl
    refine ow_load _ _ rfl _ rfl 16 5 Try.underlying29 _ DK (LK _ hk0) (by rw [HDK.out]; exact blkCells) ?_
    apply hK
    clear hK K
    go_simp
    refine wpAny_ready (rs := [0, 3, 5]) (by kernel_rfl) (by simp) ?_
    refine AllReady.cons rfl (fun K hK => ?_) ?_
    ·
      apply step_wp
      · rfl
      refine ow_call _ _ _ (by kernel_rfl) (hN _) ?_
      rintro e WN ⟨g, rfl, hg, hAT, hsN⟩
      refine ⟨_, rfl, ?_⟩
      replace hg : w2.heap.size ≤ g := Nat.le_trans hk0.size hg
      have hkN : Keep [] w2 WN := hk0.trans hsN
      clear hsN
      apply hK
      clear hK K
      go_simp
      refine wpAny_ready (rs := [2, 3, 5]) (by kernel_rfl) (by simp) ?_
      refine AllReady.cons rfl (fun K hK => ?_) ?_
      ·
        apply step_wp
        · rfl
        refine ow_call _ _ _ (by kernel_rfl) (hKC _ g 0 hAT) ?_
        rintro e WK ⟨p, rfl, hp, hAK, hAT1, hsK⟩
        refine ⟨_, rfl, ?_⟩
        replace hAT := hAT1
        have hkK : Keep [] w2 WK := hkN.trans' hsK (fun x hx => by right; simp at hx; omega)
        clear hsK hp
        apply hK
        clear hK K
        go_simp
        refine wpAny_ready (rs := [3, 5]) (by kernel_rfl) (by simp) ?_
        refine AllReady.cons rfl (fun K hK => ?_) ?_
        ·
          apply step_wp
          · rfl
          refine ow_load _ _ rfl _ rfl 16 5 Try.underlying29 _ DB (LB _ hkK) (by rw [HDB.out]; exact blkCells) ?_
          apply hK
          clear hK K
          go_simp
          refine wpAny_ready (rs := [4, 5]) (by kernel_rfl) (by simp) ?_
          refine AllReady.cons rfl (fun K hK => ?_) ?_
          ·
            apply step_wp
            · rfl
            refine ow_call _ _ _ (by kernel_rfl) (hTC _ p g hAK hAT) ?_
            rintro e WT ⟨rfl, hAT1, hsT⟩
            refine ⟨_, rfl, ?_⟩
            have hkT : Keep [] w2 WT := hkK.trans' hsT (fun x hx => by right; simp at hx; omega)
            replace hAT := hAT1
            clear hsT
            apply hK
            clear hK K
            go_simp
            refine wpAny_ready (rs := [5]) (by kernel_rfl) (by simp) ?_
            refine AllReady.cons rfl (fun K hK => ?_) ?_
            ·
              apply step_wp
              · rfl
              refine ow_alloc _ rfl Z 16 HZI.out ?_
              intro m WA hm hbm hsA
              have hmg : m ≠ g := by have := hAT.lt; omega
              replace hAT := hAT.keep hsA (by simp)
              replace hm : w2.heap.size ≤ m := by rw [hm]; exact hkT.size
              have hkA : Keep [] w2 WA := hkT.trans hsA
              clear hsA
              apply hK
              clear hK K
              go_simp
              refine wpAny_ready (rs := [6]) (by kernel_rfl) (by simp) ?_
              refine AllReady.cons rfl (fun K hK => ?_) ?_
              ·
                apply step_wp
                · rfl
                refine ow_store _ _ _ rfl m DT rfl rfl _ _ hbm (by rw [HDT.out]; exact blkCells) (by rw [HDT.out]; exact HZS.out) HDT1.out ?_
                intro WS hbS hsS
                have hkS : Keep [] w2 WS := hkA.trans' hsS (fun x hx => by right; simp at hx; omega)
                apply hK
                clear hK K
                go_simp
                refine wpAny_done (by kernel_rfl) ?_ _
                exact hR.out _ _ m ⟨rfl, rfl, by repeat (first | exact trivial | refine ⟨rfl, ?_⟩)⟩ hm hbS hkS
              exact AllReady.nil
            exact AllReady.nil
          refine AllReady.cons rfl (fun K hK => ?_) ?_
          ·
            apply step_wp
            · rfl
            refine ow_alloc _ rfl Z 16 HZI.out ?_
            intro m WA hm hbm hsA
            have hmg : m ≠ g := by have := hAT.lt; omega
            replace hAT := hAT.keep hsA (by simp)
            replace hAK := hAK.keep hsA (by simp)
            replace hm : w2.heap.size ≤ m := by rw [hm]; exact hkK.size
            have hkA : Keep [] w2 WA := hkK.trans hsA
            clear hsA
            apply hK
            clear hK K
            go_simp
            refine wpAny_ready (rs := [4]) (by kernel_rfl) (by simp) ?_
            refine AllReady.cons rfl (fun K hK => ?_) ?_
            ·
              apply step_wp
              · rfl
              refine ow_call _ _ _ (by kernel_rfl) (hTC _ p g hAK hAT) ?_
              rintro e WT ⟨rfl, hAT1, hsT⟩
              refine ⟨_, rfl, ?_⟩
              have hkT : Keep [] w2 WT := hkA.trans' hsT (fun x hx => by right; simp at hx; omega)
              replace hbm := hbm.keep hsT (by simpa using hmg)
              replace hAT := hAT1
              clear hsT
              apply hK
              clear hK K
              go_simp
              refine wpAny_ready (rs := [6]) (by kernel_rfl) (by simp) ?_
              refine AllReady.cons rfl (fun K hK => ?_) ?_
              ·
                apply step_wp
                · rfl
                refine ow_store _ _ _ rfl m DT rfl rfl _ _ hbm (by rw [HDT.out]; exact blkCells) (by rw [HDT.out]; exact HZS.out) HDT1.out ?_
                intro WS hbS hsS
                have hkS : Keep [] w2 WS := hkT.trans' hsS (fun x hx => by right; simp at hx; omega)
                apply hK
                clear hK K
                go_simp
                refine wpAny_done (by kernel_rfl) ?_ _
                exact hR.out _ _ m ⟨rfl, rfl, by repeat (first | exact trivial | refine ⟨rfl, ?_⟩)⟩ hm hbS hkS
              exact AllReady.nil
            exact AllReady.nil
          exact AllReady.nil
        refine AllReady.cons rfl (fun K hK => ?_) ?_
        ·
          apply step_wp
          · rfl
          refine ow_alloc _ rfl Z 16 HZI.out ?_
          intro m WA hm hbm hsA
          have hmg : m ≠ g := by have := hAT.lt; omega
          replace hAT := hAT.keep hsA (by simp)
          replace hAK := hAK.keep hsA (by simp)
          replace hm : w2.heap.size ≤ m := by rw [hm]; exact hkK.size
          have hkA : Keep [] w2 WA := hkK.trans hsA
          clear hsA
          apply hK
          clear hK K
          go_simp
          refine wpAny_ready (rs := [3]) (by kernel_rfl) (by simp) ?_
          refine AllReady.cons rfl (fun K hK => ?_) ?_
          ·
            apply step_wp
            · rfl
            refine ow_load _ _ rfl _ rfl 16 5 Try.underlying29 _ DB (LB _ hkA) (by rw [HDB.out]; exact blkCells) ?_
            apply hK
            clear hK K
            go_simp
            refine wpAny_ready (rs := [4]) (by kernel_rfl) (by simp) ?_
            refine AllReady.cons rfl (fun K hK => ?_) ?_
            ·
              apply step_wp
              · rfl
              refine ow_call _ _ _ (by kernel_rfl) (hTC _ p g hAK hAT) ?_
              rintro e WT ⟨rfl, hAT1, hsT⟩
              refine ⟨_, rfl, ?_⟩
              have hkT : Keep [] w2 WT := hkA.trans' hsT (fun x hx => by right; simp at hx; omega)
              replace hbm := hbm.keep hsT (by simpa using hmg)
              replace hAT := hAT1
              clear hsT
              apply hK
              clear hK K
              go_simp
              refine wpAny_ready (rs := [6]) (by kernel_rfl) (by simp) ?_
              refine AllReady.cons rfl (fun K hK => ?_) ?_
              ·
                apply step_wp
                · rfl
                refine ow_store _ _ _ rfl m DT rfl rfl _ _ hbm (by rw [HDT.out]; exact blkCells) (by rw [HDT.out]; exact HZS.out) HDT1.out ?_
                intro WS hbS hsS
                have hkS : Keep [] w2 WS := hkT.trans' hsS (fun x hx => by right; simp at hx; omega)
                apply hK
                clear hK K
                go_simp
                refine wpAny_done (by kernel_rfl) ?_ _
                exact hR.out _ _ m ⟨rfl, rfl, by repeat (first | exact trivial | refine ⟨rfl, ?_⟩)⟩ hm hbS hkS
              exact AllReady.nil
            exact AllReady.nil
          exact AllReady.nil
        exact AllReady.nil
      refine AllReady.cons rfl (fun K hK => ?_) ?_
      ·
        apply step_wp
        · rfl
        refine ow_load _ _ rfl _ rfl 16 5 Try.underlying29 _ DB (LB _ hkN) (by rw [HDB.out]; exact blkCells) ?_
        apply hK
        clear hK K
        go_simp
        refine wpAny_ready (rs := [2, 5]) (by kernel_rfl) (by simp) ?_
        refine AllReady.cons rfl (fun K hK => ?_) ?_
        ·
          apply step_wp
          · rfl
          refine ow_call _ _ _ (by kernel_rfl) (hKC _ g 0 hAT) ?_
          rintro e WK ⟨p, rfl, hp, hAK, hAT1, hsK⟩
          refine ⟨_, rfl, ?_⟩
          replace hAT := hAT1
          have hkK : Keep [] w2 WK := hkN.trans' hsK (fun x hx => by right; simp at hx; omega)
          clear hsK hp
          apply hK
          clear hK K
          go_simp
          refine wpAny_ready (rs := [4, 5]) (by kernel_rfl) (by simp) ?_
          refine AllReady.cons rfl (fun K hK => ?_) ?_
          ·
            apply step_wp
            · rfl
            refine ow_call _ _ _ (by kernel_rfl) (hTC _ p g hAK hAT) ?_
            rintro e WT ⟨rfl, hAT1, hsT⟩
            refine ⟨_, rfl, ?_⟩
            have hkT : Keep [] w2 WT := hkK.trans' hsT (fun x hx => by right; simp at hx; omega)
            replace hAT := hAT1
            clear hsT
            apply hK
            clear hK K
            go_simp
            refine wpAny_ready (rs := [5]) (by kernel_rfl) (by simp) ?_
            refine AllReady.cons rfl (fun K hK => ?_) ?_
            ·
              apply step_wp
              · rfl
              refine ow_alloc _ rfl Z 16 HZI.out ?_
              intro m WA hm hbm hsA
              have hmg : m ≠ g := by have := hAT.lt; omega
              replace hAT := hAT.keep hsA (by simp)
              replace hm : w2.heap.size ≤ m := by rw [hm]; exact hkT.size
              have hkA : Keep [] w2 WA := hkT.trans hsA
              clear hsA
              apply hK
              clear hK K
              go_simp
              refine wpAny_ready (rs := [6]) (by kernel_rfl) (by simp) ?_
              refine AllReady.cons rfl (fun K hK => ?_) ?_
              ·
                apply step_wp
                · rfl
                refine ow_store _ _ _ rfl m DT rfl rfl _ _ hbm (by rw [HDT.out]; exact blkCells) (by rw [HDT.out]; exact HZS.out) HDT1.out ?_
                intro WS hbS hsS
                have hkS : Keep [] w2 WS := hkA.trans' hsS (fun x hx => by right; simp at hx; omega)
                apply hK
                clear hK K
                go_simp
                refine wpAny_done (by kernel_rfl) ?_ _
                exact hR.out _ _ m ⟨rfl, rfl, by repeat (first | exact trivial | refine ⟨rfl, ?_⟩)⟩ hm hbS hkS
              exact AllReady.nil
            exact AllReady.nil
          refine AllReady.cons rfl (fun K hK => ?_) ?_
          ·
            apply step_wp
            · rfl
            refine ow_alloc _ rfl Z 16 HZI.out ?_
            intro m WA hm hbm hsA
            have hmg : m ≠ g := by have := hAT.lt; omega
            replace hAT := hAT.keep hsA (by simp)
            replace hAK := hAK.keep hsA (by simp)
            replace hm : w2.heap.size ≤ m := by rw [hm]; exact hkK.size
            have hkA : Keep [] w2 WA := hkK.trans hsA
            clear hsA
            apply hK
            clear hK K
            go_simp
            refine wpAny_ready (rs := [4]) (by kernel_rfl) (by simp) ?_
            refine AllReady.cons rfl (fun K hK => ?_) ?_
            ·
              apply step_wp
              · rfl
              refine ow_call _ _ _ (by kernel_rfl) (hTC _ p g hAK hAT) ?_
              rintro e WT ⟨rfl, hAT1, hsT⟩
              refine ⟨_, rfl, ?_⟩
              have hkT : Keep [] w2 WT := hkA.trans' hsT (fun x hx => by right; simp at hx; omega)
              replace hbm := hbm.keep hsT (by simpa using hmg)
              replace hAT := hAT1
              clear hsT
              apply hK
              clear hK K
              go_simp
              refine wpAny_ready (rs := [6]) (by kernel_rfl) (by simp) ?_
              refine AllReady.cons rfl (fun K hK => ?_) ?_
              ·
                apply step_wp
                · rfl
                refine ow_store _ _ _ rfl m DT rfl rfl _ _ hbm (by rw [HDT.out]; exact blkCells) (by rw [HDT.out]; exact HZS.out) HDT1.out ?_
                intro WS hbS hsS
                have hkS : Keep [] w2 WS := hkT.trans' hsS (fun x hx => by right; simp at hx; omega)
                apply hK
                clear hK K
                go_simp
                refine wpAny_done (by kernel_rfl) ?_ _
                exact hR.out _ _ m ⟨rfl, rfl, by repeat (first | exact trivial | refine ⟨rfl, ?_⟩)⟩ hm hbS hkS
              exact AllReady.nil
            exact AllReady.nil
          exact AllReady.nil
        refine AllReady.cons rfl (fun K hK => ?_) ?_
        ·
          apply step_wp
          · rfl
          refine ow_alloc _ rfl Z 16 HZI.out ?_
          intro m WA hm hbm hsA
          have hmg : m ≠ g := by have := hAT.lt; omega
          replace hAT := hAT.keep hsA (by simp)
          replace hm : w2.heap.size ≤ m := by rw [hm]; exact hkN.size
          have hkA : Keep [] w2 WA := hkN.trans hsA
          clear hsA
          apply hK
          clear hK K
          go_simp
          refine wpAny_ready (rs := [2]) (by kernel_rfl) (by simp) ?_
          refine AllReady.cons rfl (fun K hK => ?_) ?_
          ·
            apply step_wp
            · rfl
            refine ow_call _ _ _ (by kernel_rfl) (hKC _ g 0 hAT) ?_
            rintro e WK ⟨p, rfl, hp, hAK, hAT1, hsK⟩
            refine ⟨_, rfl, ?_⟩
            replace hAT := hAT1
            have hkK : Keep [] w2 WK := hkA.trans' hsK (fun x hx => by right; simp at hx; omega)
            replace hbm := hbm.keep hsK (by simpa using hmg)
            clear hsK hp
            apply hK
            clear hK K
            go_simp
            refine wpAny_ready (rs := [4]) (by kernel_rfl) (by simp) ?_
            refine AllReady.cons rfl (fun K hK => ?_) ?_
            ·
              apply step_wp
              · rfl
              refine ow_call _ _ _ (by kernel_rfl) (hTC _ p g hAK hAT) ?_
              rintro e WT ⟨rfl, hAT1, hsT⟩
              refine ⟨_, rfl, ?_⟩
              have hkT : Keep [] w2 WT := hkK.trans' hsT (fun x hx => by right; simp at hx; omega)
              replace hbm := hbm.keep hsT (by simpa using hmg)
              replace hAT := hAT1
              clear hsT
              apply hK
              clear hK K
              go_simp
              refine wpAny_ready (rs := [6]) (by kernel_rfl) (by simp) ?_
              refine AllReady.cons rfl (fun K hK => ?_) ?_
              ·
                apply step_wp
                · rfl
                refine ow_store _ _ _ rfl m DT rfl rfl _ _ hbm (by rw [HDT.out]; exact blkCells) (by rw [HDT.out]; exact HZS.out) HDT1.out ?_
                intro WS hbS hsS
                have hkS : Keep [] w2 WS := hkT.trans' hsS (fun x hx => by right; simp at hx; omega)
                apply hK
                clear hK K
                go_simp
                refine wpAny_done (by kernel_rfl) ?_ _
                exact hR.out _ _ m ⟨rfl, rfl, by repeat (first | exact trivial | refine ⟨rfl, ?_⟩)⟩ hm hbS hkS
              exact AllReady.nil
            exact AllReady.nil
          exact AllReady.nil
        exact AllReady.nil
      refine AllReady.cons rfl (fun K hK => ?_) ?_
      ·
        apply step_wp
        · rfl
        refine ow_alloc _ rfl Z 16 HZI.out ?_
        intro m WA hm hbm hsA
        have hmg : m ≠ g := by have := hAT.lt; omega
        replace hAT := hAT.keep hsA (by simp)
        replace hm : w2.heap.size ≤ m := by rw [hm]; exact hkN.size
        have hkA : Keep [] w2 WA := hkN.trans hsA
        clear hsA
        apply hK
        clear hK K
        go_simp
        refine wpAny_ready (rs := [2, 3]) (by kernel_rfl) (by simp) ?_
        refine AllReady.cons rfl (fun K hK => ?_) ?_
        ·
          apply step_wp
          · rfl
          refine ow_call _ _ _ (by kernel_rfl) (hKC _ g 0 hAT) ?_
          rintro e WK ⟨p, rfl, hp, hAK, hAT1, hsK⟩
          refine ⟨_, rfl, ?_⟩
          replace hAT := hAT1
          have hkK : Keep [] w2 WK := hkA.trans' hsK (fun x hx => by right; simp at hx; omega)
          replace hbm := hbm.keep hsK (by simpa using hmg)
          clear hsK hp
          apply hK
          clear hK K
          go_simp
          refine wpAny_ready (rs := [3]) (by kernel_rfl) (by simp) ?_
          refine AllReady.cons rfl (fun K hK => ?_) ?_
          ·
            apply step_wp
            · rfl
            refine ow_load _ _ rfl _ rfl 16 5 Try.underlying29 _ DB (LB _ hkK) (by rw [HDB.out]; exact blkCells) ?_
            apply hK
            clear hK K
            go_simp
            refine wpAny_ready (rs := [4]) (by kernel_rfl) (by simp) ?_
            refine AllReady.cons rfl (fun K hK => ?_) ?_
            ·
              apply step_wp
              · rfl
              refine ow_call _ _ _ (by kernel_rfl) (hTC _ p g hAK hAT) ?_
              rintro e WT ⟨rfl, hAT1, hsT⟩
              refine ⟨_, rfl, ?_⟩
              have hkT : Keep [] w2 WT := hkK.trans' hsT (fun x hx => by right; simp at hx; omega)
              replace hbm := hbm.keep hsT (by simpa using hmg)
              replace hAT := hAT1
              clear hsT
              apply hK
              clear hK K
              go_simp
              refine wpAny_ready (rs := [6]) (by kernel_rfl) (by simp) ?_
              refine AllReady.cons rfl (fun K hK => ?_) ?_
              ·
                apply step_wp
                · rfl
                refine ow_store _ _ _ rfl m DT rfl rfl _ _ hbm (by rw [HDT.out]; exact blkCells) (by rw [HDT.out]; exact HZS.out) HDT1.out ?_
                intro WS hbS hsS
                have hkS : Keep [] w2 WS := hkT.trans' hsS (fun x hx => by right; simp at hx; omega)
                apply hK
                clear hK K
                go_simp
                refine wpAny_done (by kernel_rfl) ?_ _
                exact hR.out _ _ m ⟨rfl, rfl, by repeat (first | exact trivial | refine ⟨rfl, ?_⟩)⟩ hm hbS hkS
              exact AllReady.nil
            exact AllReady.nil
          exact AllReady.nil
        refine AllReady.cons rfl (fun K hK => ?_) ?_
        ·
          apply step_wp
          · rfl
          refine ow_load _ _ rfl _ rfl 16 5 Try.underlying29 _ DB (LB _ hkA) (by rw [HDB.out]; exact blkCells) ?_
          apply hK
          clear hK K
          go_simp
          refine wpAny_ready (rs := [2]) (by kernel_rfl) (by simp) ?_
          refine AllReady.cons rfl (fun K hK => ?_) ?_
          ·
            apply step_wp
            · rfl
            refine ow_call _ _ _ (by kernel_rfl) (hKC _ g 0 hAT) ?_
            rintro e WK ⟨p, rfl, hp, hAK, hAT1, hsK⟩
            refine ⟨_, rfl, ?_⟩
            replace hAT := hAT1
            have hkK : Keep [] w2 WK := hkA.trans' hsK (fun x hx => by right; simp at hx; omega)
            replace hbm := hbm.keep hsK (by simpa using hmg)
            clear hsK hp
            apply hK
            clear hK K
            go_simp
            refine wpAny_ready (rs := [4]) (by kernel_rfl) (by simp) ?_
            refine AllReady.cons rfl (fun K hK => ?_) ?_
            ·
              apply step_wp
              · rfl
              refine ow_call _ _ _ (by kernel_rfl) (hTC _ p g hAK hAT) ?_
              rintro e WT ⟨rfl, hAT1, hsT⟩
              refine ⟨_, rfl, ?_⟩
              have hkT : Keep [] w2 WT := hkK.trans' hsT (fun x hx => by right; simp at hx; omega)
              replace hbm := hbm.keep hsT (by simpa using hmg)
              replace hAT := hAT1
              clear hsT
              apply hK
              clear hK K
              go_simp
              refine wpAny_ready (rs := [6]) (by kernel_rfl) (by simp) ?_
              refine AllReady.cons rfl (fun K hK => ?_) ?_
              ·
                apply step_wp
                · rfl
                refine ow_store _ _ _ rfl m DT rfl rfl _ _ hbm (by rw [HDT.out]; exact blkCells) (by rw [HDT.out]; exact HZS.out) HDT1.out ?_
                intro WS hbS hsS
                have hkS : Keep [] w2 WS := hkT.trans' hsS (fun x hx => by right; simp at hx; omega)
                apply hK
                clear hK K
                go_simp
                refine wpAny_done (by kernel_rfl) ?_ _
                exact hR.out _ _ m ⟨rfl, rfl, by repeat (first | exact trivial | refine ⟨rfl, ?_⟩)⟩ hm hbS hkS
              exact AllReady.nil
            exact AllReady.nil
          exact AllReady.nil
        exact AllReady.nil
      exact AllReady.nil
    refine AllReady.cons rfl (fun K hK => ?_) ?_
    ·
      apply step_wp
      · rfl
      refine ow_load _ _ rfl _ rfl 16 5 Try.underlying29 _ DB (LB _ hk0) (by rw [HDB.out]; exact blkCells) ?_
      apply hK
      clear hK K
      go_simp
      refine wpAny_ready (rs := [0, 5]) (by kernel_rfl) (by simp) ?_
      refine AllReady.cons rfl (fun K hK => ?_) ?_
      ·
        apply step_wp
        · rfl
        refine ow_call _ _ _ (by kernel_rfl) (hN _) ?_
        rintro e WN ⟨g, rfl, hg, hAT, hsN⟩
        refine ⟨_, rfl, ?_⟩
        replace hg : w2.heap.size ≤ g := Nat.le_trans hk0.size hg
        have hkN : Keep [] w2 WN := hk0.trans hsN
        clear hsN
        apply hK
        clear hK K
        go_simp
        refine wpAny_ready (rs := [2, 5]) (by kernel_rfl) (by simp) ?_
        refine AllReady.cons rfl (fun K hK => ?_) ?_
        ·
          apply step_wp
          · rfl
          refine ow_call _ _ _ (by kernel_rfl) (hKC _ g 0 hAT) ?_
          rintro e WK ⟨p, rfl, hp, hAK, hAT1, hsK⟩
          refine ⟨_, rfl, ?_⟩
          replace hAT := hAT1
          have hkK : Keep [] w2 WK := hkN.trans' hsK (fun x hx => by right; simp at hx; omega)
          clear hsK hp
          apply hK
          clear hK K
          go_simp
          refine wpAny_ready (rs := [4, 5]) (by kernel_rfl) (by simp) ?_
          refine AllReady.cons rfl (fun K hK => ?_) ?_
          ·
            apply step_wp
            · rfl
            refine ow_call _ _ _ (by kernel_rfl) (hTC _ p g hAK hAT) ?_
            rintro e WT ⟨rfl, hAT1, hsT⟩
            refine ⟨_, rfl, ?_⟩
            have hkT : Keep [] w2 WT := hkK.trans' hsT (fun x hx => by right; simp at hx; omega)
            replace hAT := hAT1
            clear hsT
            apply hK
            clear hK K
            go_simp
            refine wpAny_ready (rs := [5]) (by kernel_rfl) (by simp) ?_
            refine AllReady.cons rfl (fun K hK => ?_) ?_
            ·
              apply step_wp
              · rfl
              refine ow_alloc _ rfl Z 16 HZI.out ?_
              intro m WA hm hbm hsA
              have hmg : m ≠ g := by have := hAT.lt; omega
              replace hAT := hAT.keep hsA (by simp)
              replace hm : w2.heap.size ≤ m := by rw [hm]; exact hkT.size
              have hkA : Keep [] w2 WA := hkT.trans hsA
              clear hsA
              apply hK
              clear hK K
              go_simp
              refine wpAny_ready (rs := [6]) (by kernel_rfl) (by simp) ?_
              refine AllReady.cons rfl (fun K hK => ?_) ?_
              ·
                apply step_wp
                · rfl
                refine ow_store _ _ _ rfl m DT rfl rfl _ _ hbm (by rw [HDT.out]; exact blkCells) (by rw [HDT.out]; exact HZS.out) HDT1.out ?_
                intro WS hbS hsS
                have hkS : Keep [] w2 WS := hkA.trans' hsS (fun x hx => by right; simp at hx; omega)
                apply hK
                clear hK K
                go_simp
                refine wpAny_done (by kernel_rfl) ?_ _
                exact hR.out _ _ m ⟨rfl, rfl, by repeat (first | exact trivial | refine ⟨rfl, ?_⟩)⟩ hm hbS hkS
              exact AllReady.nil
            exact AllReady.nil
          refine AllReady.cons rfl (fun K hK => ?_) ?_
          ·
            apply step_wp
            · rfl
            refine ow_alloc _ rfl Z 16 HZI.out ?_
            intro m WA hm hbm hsA
            have hmg : m ≠ g := by have := hAT.lt; omega
            replace hAT := hAT.keep hsA (by simp)
            replace hAK := hAK.keep hsA (by simp)
            replace hm : w2.heap.size ≤ m := by rw [hm]; exact hkK.size
            have hkA : Keep [] w2 WA := hkK.trans hsA
            clear hsA
            apply hK
            clear hK K
            go_simp
            refine wpAny_ready (rs := [4]) (by kernel_rfl) (by simp) ?_
            refine AllReady.cons rfl (fun K hK => ?_) ?_
            ·
              apply step_wp
              · rfl
              refine ow_call _ _ _ (by kernel_rfl) (hTC _ p g hAK hAT) ?_
              rintro e WT ⟨rfl, hAT1, hsT⟩
              refine ⟨_, rfl, ?_⟩
              have hkT : Keep [] w2 WT := hkA.trans' hsT (fun x hx => by right; simp at hx; omega)
              replace hbm := hbm.keep hsT (by simpa using hmg)
              replace hAT := hAT1
              clear hsT
              apply hK
              clear hK K
              go_simp
              refine wpAny_ready (rs := [6]) (by kernel_rfl) (by simp) ?_
              refine AllReady.cons rfl (fun K hK => ?_) ?_
              ·
                apply step_wp
                · rfl
                refine ow_store _ _ _ rfl m DT rfl rfl _ _ hbm (by rw [HDT.out]; exact blkCells) (by rw [HDT.out]; exact HZS.out) HDT1.out ?_
                intro WS hbS hsS
                have hkS : Keep [] w2 WS := hkT.trans' hsS (fun x hx => by right; simp at hx; omega)
                apply hK
                clear hK K
                go_simp
                refine wpAny_done (by kernel_rfl) ?_ _
                exact hR.out _ _ m ⟨rfl, rfl, by repeat (first | exact trivial | refine ⟨rfl, ?_⟩)⟩ hm hbS hkS
              exact AllReady.nil
            exact AllReady.nil
          exact AllReady.nil
        refine AllReady.cons rfl (fun K hK => ?_) ?_
        ·
          apply step_wp
          · rfl
          refine ow_alloc _ rfl Z 16 HZI.out ?_
          intro m WA hm hbm hsA
          have hmg : m ≠ g := by have := hAT.lt; omega
          replace hAT := hAT.keep hsA (by simp)
          replace hm : w2.heap.size ≤ m := by rw [hm]; exact hkN.size
          have hkA : Keep [] w2 WA := hkN.trans hsA
          clear hsA
          apply hK
          clear hK K
          go_simp
          refine wpAny_ready (rs := [2]) (by kernel_rfl) (by simp) ?_
          refine AllReady.cons rfl (fun K hK => ?_) ?_
          ·
            apply step_wp
            · rfl
            refine ow_call _ _ _ (by kernel_rfl) (hKC _ g 0 hAT) ?_
            rintro e WK ⟨p, rfl, hp, hAK, hAT1, hsK⟩
            refine ⟨_, rfl, ?_⟩
            replace hAT := hAT1
            have hkK : Keep [] w2 WK := hkA.trans' hsK (fun x hx => by right; simp at hx; omega)
            replace hbm := hbm.keep hsK (by simpa using hmg)
            clear hsK hp
            apply hK
            clear hK K
            go_simp
            refine wpAny_ready (rs := [4]) (by kernel_rfl) (by simp) ?_
            refine AllReady.cons rfl (fun K hK => ?_) ?_
            ·
              apply step_wp
              · rfl
              refine ow_call _ _ _ (by kernel_rfl) (hTC _ p g hAK hAT) ?_
              rintro e WT ⟨rfl, hAT1, hsT⟩
              refine ⟨_, rfl, ?_⟩
              have hkT : Keep [] w2 WT := hkK.trans' hsT (fun x hx => by right; simp at hx; omega)
              replace hbm := hbm.keep hsT (by simpa using hmg)
              replace hAT := hAT1
              clear hsT
              apply hK
              clear hK K
              go_simp
              refine wpAny_ready (rs := [6]) (by kernel_rfl) (by simp) ?_
              refine AllReady.cons rfl (fun K hK => ?_) ?_
              ·
                apply step_wp
                · rfl
                refine ow_store _ _ _ rfl m DT rfl rfl _ _ hbm (by rw [HDT.out]; exact blkCells) (by rw [HDT.out]; exact HZS.out) HDT1.out ?_
                intro WS hbS hsS
                have hkS : Keep [] w2 WS := hkT.trans' hsS (fun x hx => by right; simp at hx; omega)
                apply hK
                clear hK K
                go_simp
                refine wpAny_done (by kernel_rfl) ?_ _
                exact hR.out _ _ m ⟨rfl, rfl, by repeat (first | exact trivial | refine ⟨rfl, ?_⟩)⟩ hm hbS hkS
              exact AllReady.nil
            exact AllReady.nil
          exact AllReady.nil
        exact AllReady.nil
      refine AllReady.cons rfl (fun K hK => ?_) ?_
      ·
        apply step_wp
        · rfl
        refine ow_alloc _ rfl Z 16 HZI.out ?_
        intro m WA hm hbm hsA
        replace hm : w2.heap.size ≤ m := by rw [hm]; exact hk0.size
        have hkA : Keep [] w2 WA := hk0.trans hsA
        clear hsA
        apply hK
        clear hK K
        go_simp
        refine wpAny_ready (rs := [0]) (by kernel_rfl) (by simp) ?_
        refine AllReady.cons rfl (fun K hK => ?_) ?_
        ·
          apply step_wp
          · rfl
          refine ow_call _ _ _ (by kernel_rfl) (hN _) ?_
          rintro e WN ⟨g, rfl, hg, hAT, hsN⟩
          refine ⟨_, rfl, ?_⟩
          have hmg : m ≠ g := by have := hbm.lt; omega
          replace hbm := hbm.keep hsN (by simp)
          replace hg : w2.heap.size ≤ g := Nat.le_trans hkA.size hg
          have hkN : Keep [] w2 WN := hkA.trans hsN
          clear hsN
          apply hK
          clear hK K
          go_simp
          refine wpAny_ready (rs := [2]) (by kernel_rfl) (by simp) ?_
          refine AllReady.cons rfl (fun K hK => ?_) ?_
          ·
            apply step_wp
            · rfl
            refine ow_call _ _ _ (by kernel_rfl) (hKC _ g 0 hAT) ?_
            rintro e WK ⟨p, rfl, hp, hAK, hAT1, hsK⟩
            refine ⟨_, rfl, ?_⟩
            replace hAT := hAT1
            have hkK : Keep [] w2 WK := hkN.trans' hsK (fun x hx => by right; simp at hx; omega)
            replace hbm := hbm.keep hsK (by simpa using hmg)
            clear hsK hp
            apply hK
            clear hK K
            go_simp
            refine wpAny_ready (rs := [4]) (by kernel_rfl) (by simp) ?_
            refine AllReady.cons rfl (fun K hK => ?_) ?_
            ·
              apply step_wp
              · rfl
              refine ow_call _ _ _ (by kernel_rfl) (hTC _ p g hAK hAT) ?_
              rintro e WT ⟨rfl, hAT1, hsT⟩
              refine ⟨_, rfl, ?_⟩
              have hkT : Keep [] w2 WT := hkK.trans' hsT (fun x hx => by right; simp at hx; omega)
              replace hbm := hbm.keep hsT (by simpa using hmg)
              replace hAT := hAT1
              clear hsT
              apply hK
              clear hK K
              go_simp
              refine wpAny_ready (rs := [6]) (by kernel_rfl) (by simp) ?_
              refine AllReady.cons rfl (fun K hK => ?_) ?_
              ·
                apply step_wp
                · rfl
                refine ow_store _ _ _ rfl m DT rfl rfl _ _ hbm (by rw [HDT.out]; exact blkCells) (by rw [HDT.out]; exact HZS.out) HDT1.out ?_
                intro WS hbS hsS
                have hkS : Keep [] w2 WS := hkT.trans' hsS (fun x hx => by right; simp at hx; omega)
                apply hK
                clear hK K
                go_simp
                refine wpAny_done (by kernel_rfl) ?_ _
                exact hR.out _ _ m ⟨rfl, rfl, by repeat (first | exact trivial | refine ⟨rfl, ?_⟩)⟩ hm hbS hkS
              exact AllReady.nil
            exact AllReady.nil
          exact AllReady.nil
        exact AllReady.nil
      exact AllReady.nil
    refine AllReady.cons rfl (fun K hK => ?_) ?_
    ·
      apply step_wp
      · rfl
      refine ow_alloc _ rfl Z 16 HZI.out ?_
      intro m WA hm hbm hsA
      replace hm : w2.heap.size ≤ m := by rw [hm]; exact hk0.size
      have hkA : Keep [] w2 WA := hk0.trans hsA
      clear hsA
      apply hK
      clear hK K
      go_simp
      refine wpAny_ready (rs := [0, 3]) (by kernel_rfl) (by simp) ?_
      refine AllReady.cons rfl (fun K hK => ?_) ?_
      ·
        apply step_wp
        · rfl
        refine ow_call _ _ _ (by kernel_rfl) (hN _) ?_
        rintro e WN ⟨g, rfl, hg, hAT, hsN⟩
        refine ⟨_, rfl, ?_⟩
        have hmg : m ≠ g := by have := hbm.lt; omega
        replace hbm := hbm.keep hsN (by simp)
        replace hg : w2.heap.size ≤ g := Nat.le_trans hkA.size hg
        have hkN : Keep [] w2 WN := hkA.trans hsN
        clear hsN
        apply hK
        clear hK K
        go_simp
        refine wpAny_ready (rs := [2, 3]) (by kernel_rfl) (by simp) ?_
        refine AllReady.cons rfl (fun K hK => ?_) ?_
        ·
          apply step_wp
          · rfl
          refine ow_call _ _ _ (by kernel_rfl) (hKC _ g 0 hAT) ?_
          rintro e WK ⟨p, rfl, hp, hAK, hAT1, hsK⟩
          refine ⟨_, rfl, ?_⟩
          replace hAT := hAT1
          have hkK : Keep [] w2 WK := hkN.trans' hsK (fun x hx => by right; simp at hx; omega)
          replace hbm := hbm.keep hsK (by simpa using hmg)
          clear hsK hp
          apply hK
          clear hK K
          go_simp
          refine wpAny_ready (rs := [3]) (by kernel_rfl) (by simp) ?_
          refine AllReady.cons rfl (fun K hK => ?_) ?_
          ·
            apply step_wp
            · rfl
            refine ow_load _ _ rfl _ rfl 16 5 Try.underlying29 _ DB (LB _ hkK) (by rw [HDB.out]; exact blkCells) ?_
            apply hK
            clear hK K
            go_simp
            refine wpAny_ready (rs := [4]) (by kernel_rfl) (by simp) ?_
            refine AllReady.cons rfl (fun K hK => ?_) ?_
            ·
              apply step_wp
              · rfl
              refine ow_call _ _ _ (by kernel_rfl) (hTC _ p g hAK hAT) ?_
              rintro e WT ⟨rfl, hAT1, hsT⟩
              refine ⟨_, rfl, ?_⟩
              have hkT : Keep [] w2 WT := hkK.trans' hsT (fun x hx => by right; simp at hx; omega)
              replace hbm := hbm.keep hsT (by simpa using hmg)
              replace hAT := hAT1
              clear hsT
              apply hK
              clear hK K
              go_simp
              refine wpAny_ready (rs := [6]) (by kernel_rfl) (by simp) ?_
              refine AllReady.cons rfl (fun K hK => ?_) ?_
              ·
                apply step_wp
                · rfl
                refine ow_store _ _ _ rfl m DT rfl rfl _ _ hbm (by rw [HDT.out]; exact blkCells) (by rw [HDT.out]; exact HZS.out) HDT1.out ?_
                intro WS hbS hsS
                have hkS : Keep [] w2 WS := hkT.trans' hsS (fun x hx => by right; simp at hx; omega)
                apply hK
                clear hK K
                go_simp
                refine wpAny_done (by kernel_rfl) ?_ _
                exact hR.out _ _ m ⟨rfl, rfl, by repeat (first | exact trivial | refine ⟨rfl, ?_⟩)⟩ hm hbS hkS
              exact AllReady.nil
            exact AllReady.nil
          exact AllReady.nil
        refine AllReady.cons rfl (fun K hK => ?_) ?_
        ·
          apply step_wp
          · rfl
          refine ow_load _ _ rfl _ rfl 16 5 Try.underlying29 _ DB (LB _ hkN) (by rw [HDB.out]; exact blkCells) ?_
          apply hK
          clear hK K
          go_simp
          refine wpAny_ready (rs := [2]) (by kernel_rfl) (by simp) ?_
          refine AllReady.cons rfl (fun K hK => ?_) ?_
          ·
            apply step_wp
            · rfl
            refine ow_call _ _ _ (by kernel_rfl) (hKC _ g 0 hAT) ?_
            rintro e WK ⟨p, rfl, hp, hAK, hAT1, hsK⟩
            refine ⟨_, rfl, ?_⟩
            replace hAT := hAT1
            have hkK : Keep [] w2 WK := hkN.trans' hsK (fun x hx => by right; simp at hx; omega)
            replace hbm := hbm.keep hsK (by simpa using hmg)
            clear hsK hp
            apply hK
            clear hK K
            go_simp
            refine wpAny_ready (rs := [4]) (by kernel_rfl) (by simp) ?_
            refine AllReady.cons rfl (fun K hK => ?_) ?_
            ·
              apply step_wp
              · rfl
              refine ow_call _ _ _ (by kernel_rfl) (hTC _ p g hAK hAT) ?_
              rintro e WT ⟨rfl, hAT1, hsT⟩
              refine ⟨_, rfl, ?_⟩
              have hkT : Keep [] w2 WT := hkK.trans' hsT (fun x hx => by right; simp at hx; omega)
              replace hbm := hbm.keep hsT (by simpa using hmg)
              replace hAT := hAT1
              clear hsT
              apply hK
              clear hK K
              go_simp
              refine wpAny_ready (rs := [6]) (by kernel_rfl) (by simp) ?_
              refine AllReady.cons rfl (fun K hK => ?_) ?_
              ·
                apply step_wp
                · rfl
                refine ow_store _ _ _ rfl m DT rfl rfl _ _ hbm (by rw [HDT.out]; exact blkCells) (by rw [HDT.out]; exact HZS.out) HDT1.out ?_
                intro WS hbS hsS
                have hkS : Keep [] w2 WS := hkT.trans' hsS (fun x hx => by right; simp at hx; omega)
                apply hK
                clear hK K
                go_simp
                refine wpAny_done (by kernel_rfl) ?_ _
                exact hR.out _ _ m ⟨rfl, rfl, by repeat (first | exact trivial | refine ⟨rfl, ?_⟩)⟩ hm hbS hkS
              exact AllReady.nil
            exact AllReady.nil
          exact AllReady.nil
        exact AllReady.nil
      refine AllReady.cons rfl (fun K hK => ?_) ?_
      ·
        apply step_wp
        · rfl
        refine ow_load _ _ rfl _ rfl 16 5 Try.underlying29 _ DB (LB _ hkA) (by rw [HDB.out]; exact blkCells) ?_
        apply hK
        clear hK K
        go_simp
        refine wpAny_ready (rs := [0]) (by kernel_rfl) (by simp) ?_
        refine AllReady.cons rfl (fun K hK => ?_) ?_
        ·
          apply step_wp
          · rfl
          refine ow_call _ _ _ (by kernel_rfl) (hN _) ?_
          rintro e WN ⟨g, rfl, hg, hAT, hsN⟩
          refine ⟨_, rfl, ?_⟩
          have hmg : m ≠ g := by have := hbm.lt; omega
          replace hbm := hbm.keep hsN (by simp)
          replace hg : w2.heap.size ≤ g := Nat.le_trans hkA.size hg
          have hkN : Keep [] w2 WN := hkA.trans hsN
          clear hsN
          apply hK
          clear hK K
          go_simp
          refine wpAny_ready (rs := [2]) (by kernel_rfl) (by simp) ?_
          refine AllReady.cons rfl (fun K hK => ?_) ?_
          ·
            apply step_wp
            · rfl
            refine ow_call _ _ _ (by kernel_rfl) (hKC _ g 0 hAT) ?_
            rintro e WK ⟨p, rfl, hp, hAK, hAT1, hsK⟩
            refine ⟨_, rfl, ?_⟩
            replace hAT := hAT1
            have hkK : Keep [] w2 WK := hkN.trans' hsK (fun x hx => by right; simp at hx; omega)
            replace hbm := hbm.keep hsK (by simpa using hmg)
            clear hsK hp
            apply hK
            clear hK K
            go_simp
            refine wpAny_ready (rs := [4]) (by kernel_rfl) (by simp) ?_
            refine AllReady.cons rfl (fun K hK => ?_) ?_
            ·
              apply step_wp
              · rfl
              refine ow_call _ _ _ (by kernel_rfl) (hTC _ p g hAK hAT) ?_
              rintro e WT ⟨rfl, hAT1, hsT⟩
              refine ⟨_, rfl, ?_⟩
              have hkT : Keep [] w2 WT := hkK.trans' hsT (fun x hx => by right; simp at hx; omega)
              replace hbm := hbm.keep hsT (by simpa using hmg)
              replace hAT := hAT1
              clear hsT
              apply hK
              clear hK K
              go_simp
              refine wpAny_ready (rs := [6]) (by kernel_rfl) (by simp) ?_
              refine AllReady.cons rfl (fun K hK => ?_) ?_
              ·
                apply step_wp
                · rfl
                refine ow_store _ _ _ rfl m DT rfl rfl _ _ hbm (by rw [HDT.out]; exact blkCells) (by rw [HDT.out]; exact HZS.out) HDT1.out ?_
                intro WS hbS hsS
                have hkS : Keep [] w2 WS := hkT.trans' hsS (fun x hx => by right; simp at hx; omega)
                apply hK
                clear hK K
                go_simp
                refine wpAny_done (by kernel_rfl) ?_ _
                exact hR.out _ _ m ⟨rfl, rfl, by repeat (first | exact trivial | refine ⟨rfl, ?_⟩)⟩ hm hbS hkS
              exact AllReady.nil
            exact AllReady.nil
          exact AllReady.nil
        exact AllReady.nil
      exact AllReady.nil
    exact AllReady.nil
  refine AllReady.cons rfl (fun K hK => ?_) ?_
  ·
    apply step_wp
    · rfl
    refine ow_load _ _ rfl _ rfl 16 5 Try.underlying29 _ DB (LB _ hk0) (by rw [HDB.out]; exact blkCells) ?_
    apply hK
    clear hK K
    go_simp
    refine wpAny_ready (rs := [0, 1, 5]) (by kernel_rfl) (by simp) ?_
    refine AllReady.cons rfl (fun K hK => ?_) ?_
    ·
      apply step_wp
      · rfl
      refine ow_call _ _ _ (by kernel_rfl) (hN _) ?_
      rintro e WN ⟨g, rfl, hg, hAT, hsN⟩
      refine ⟨_, rfl, ?_⟩
      replace hg : w2.heap.size ≤ g := Nat.le_trans hk0.size hg
      have hkN : Keep [] w2 WN := hk0.trans hsN
      clear hsN
      apply hK
      clear hK K
      go_simp
      refine wpAny_ready (rs := [1, 5]) (by kernel_rfl) (by simp) ?_
      refine AllReady.cons rfl (fun K hK => ?_) ?_
      ·
        apply step_wp
        · rfl
        refine ow_load _ _ rfl _ rfl 16 5 Try.underlying29 _ DK (LK _ hkN) (by rw [HDK.out]; exact blkCells) ?_
        apply hK
        clear hK K
        go_simp
        refine wpAny_ready (rs := [2, 5]) (by kernel_rfl) (by simp) ?_
        refine AllReady.cons rfl (fun K hK => ?_) ?_
        ·
          apply step_wp
          · rfl
          refine ow_call _ _ _ (by kernel_rfl) (hKC _ g 0 hAT) ?_
          rintro e WK ⟨p, rfl, hp, hAK, hAT1, hsK⟩
          refine ⟨_, rfl, ?_⟩
          replace hAT := hAT1
          have hkK : Keep [] w2 WK := hkN.trans' hsK (fun x hx => by right; simp at hx; omega)
          clear hsK hp
          apply hK
          clear hK K
          go_simp
          refine wpAny_ready (rs := [4, 5]) (by kernel_rfl) (by simp) ?_
          refine AllReady.cons rfl (fun K hK => ?_) ?_
          ·
            apply step_wp
            · rfl
            refine ow_call _ _ _ (by kernel_rfl) (hTC _ p g hAK hAT) ?_
            rintro e WT ⟨rfl, hAT1, hsT⟩
            refine ⟨_, rfl, ?_⟩
            have hkT : Keep [] w2 WT := hkK.trans' hsT (fun x hx => by right; simp at hx; omega)
            replace hAT := hAT1
            clear hsT
            apply hK
            clear hK K
            go_simp
            refine wpAny_ready (rs := [5]) (by kernel_rfl) (by simp) ?_
            refine AllReady.cons rfl (fun K hK => ?_) ?_
            ·
              apply step_wp
              · rfl
              refine ow_alloc _ rfl Z 16 HZI.out ?_
              intro m WA hm hbm hsA
              have hmg : m ≠ g := by have := hAT.lt; omega
              replace hAT := hAT.keep hsA (by simp)
              replace hm : w2.heap.size ≤ m := by rw [hm]; exact hkT.size
              have hkA : Keep [] w2 WA := hkT.trans hsA
              clear hsA
              apply hK
              clear hK K
              go_simp
              refine wpAny_ready (rs := [6]) (by kernel_rfl) (by simp) ?_
              refine AllReady.cons rfl (fun K hK => ?_) ?_
              ·
                apply step_wp
                · rfl
                refine ow_store _ _ _ rfl m DT rfl rfl _ _ hbm (by rw [HDT.out]; exact blkCells) (by rw [HDT.out]; exact HZS.out) HDT1.out ?_
                intro WS hbS hsS
                have hkS : Keep [] w2 WS := hkA.trans' hsS (fun x hx => by right; simp at hx; omega)
                apply hK
                clear hK K
                go_simp
                refine wpAny_done (by kernel_rfl) ?_ _
                exact hR.out _ _ m ⟨rfl, rfl, by repeat (first | exact trivial | refine ⟨rfl, ?_⟩)⟩ hm hbS hkS
              exact AllReady.nil
            exact AllReady.nil
          refine AllReady.cons rfl (fun K hK => ?_) ?_
          ·
            apply step_wp
            · rfl
            refine ow_alloc _ rfl Z 16 HZI.out ?_
            intro m WA hm hbm hsA
            have hmg : m ≠ g := by have := hAT.lt; omega
            replace hAT := hAT.keep hsA (by simp)
            replace hAK := hAK.keep hsA (by simp)
            replace hm : w2.heap.size ≤ m := by rw [hm]; exact hkK.size
            have hkA : Keep [] w2 WA := hkK.trans hsA
            clear hsA
            apply hK
            clear hK K
            go_simp
            refine wpAny_ready (rs := [4]) (by kernel_rfl) (by simp) ?_
            refine AllReady.cons rfl (fun K hK => ?_) ?_
            ·
              apply step_wp
              · rfl
              refine ow_call _ _ _ (by kernel_rfl) (hTC _ p g hAK hAT) ?_
              rintro e WT ⟨rfl, hAT1, hsT⟩
              refine ⟨_, rfl, ?_⟩
              have hkT : Keep [] w2 WT := hkA.trans' hsT (fun x hx => by right; simp at hx; omega)
              replace hbm := hbm.keep hsT (by simpa using hmg)
              replace hAT := hAT1
              clear hsT
              apply hK
              clear hK K
              go_simp
              refine wpAny_ready (rs := [6]) (by kernel_rfl) (by simp) ?_
              refine AllReady.cons rfl (fun K hK => ?_) ?_
              ·
                apply step_wp
                · rfl
                refine ow_store _ _ _ rfl m DT rfl rfl _ _ hbm (by rw [HDT.out]; exact blkCells) (by rw [HDT.out]; exact HZS.out) HDT1.out ?_
                intro WS hbS hsS
                have hkS : Keep [] w2 WS := hkT.trans' hsS (fun x hx => by right; simp at hx; omega)
                apply hK
                clear hK K
                go_simp
                refine wpAny_done (by kernel_rfl) ?_ _
                exact hR.out _ _ m ⟨rfl, rfl, by repeat (first | exact trivial | refine ⟨rfl, ?_⟩)⟩ hm hbS hkS
              exact AllReady.nil
            exact AllReady.nil
          exact AllReady.nil
        refine AllReady.cons rfl (fun K hK => ?_) ?_
        ·
          apply step_wp
          · rfl
          refine ow_alloc _ rfl Z 16 HZI.out ?_
          intro m WA hm hbm hsA
          have hmg : m ≠ g := by have := hAT.lt; omega
          replace hAT := hAT.keep hsA (by simp)
          replace hm : w2.heap.size ≤ m := by rw [hm]; exact hkN.size
          have hkA : Keep [] w2 WA := hkN.trans hsA
          clear hsA
          apply hK
          clear hK K
          go_simp
          refine wpAny_ready (rs := [2]) (by kernel_rfl) (by simp) ?_
          refine AllReady.cons rfl (fun K hK => ?_) ?_
          ·
            apply step_wp
            · rfl
            refine ow_call _ _ _ (by kernel_rfl) (hKC _ g 0 hAT) ?_
            rintro e WK ⟨p, rfl, hp, hAK, hAT1, hsK⟩
            refine ⟨_, rfl, ?_⟩
            replace hAT := hAT1
            have hkK : Keep [] w2 WK := hkA.trans' hsK (fun x hx => by right; simp at hx; omega)
            replace hbm := hbm.keep hsK (by simpa using hmg)
            clear hsK hp
            apply hK
            clear hK K
            go_simp
            refine wpAny_ready (rs := [4]) (by kernel_rfl) (by simp) ?_
            refine AllReady.cons rfl (fun K hK => ?_) ?_
            ·
              apply step_wp
              · rfl
              refine ow_call _ _ _ (by kernel_rfl) (hTC _ p g hAK hAT) ?_
              rintro e WT ⟨rfl, hAT1, hsT⟩
              refine ⟨_, rfl, ?_⟩
              have hkT : Keep [] w2 WT := hkK.trans' hsT (fun x hx => by right; simp at hx; omega)
              replace hbm := hbm.keep hsT (by simpa using hmg)
              replace hAT := hAT1
              clear hsT
              apply hK
              clear hK K
              go_simp
              refine wpAny_ready (rs := [6]) (by kernel_rfl) (by simp) ?_
              refine AllReady.cons rfl (fun K hK => ?_) ?_
              ·
                apply step_wp
                · rfl
                refine ow_store _ _ _ rfl m DT rfl rfl _ _ hbm (by rw [HDT.out]; exact blkCells) (by rw [HDT.out]; exact HZS.out) HDT1.out ?_
                intro WS hbS hsS
                have hkS : Keep [] w2 WS := hkT.trans' hsS (fun x hx => by right; simp at hx; omega)
                apply hK
                clear hK K
                go_simp
                refine wpAny_done (by kernel_rfl) ?_ _
                exact hR.out _ _ m ⟨rfl, rfl, by repeat (first | exact trivial | refine ⟨rfl, ?_⟩)⟩ hm hbS hkS
              exact AllReady.nil
            exact AllReady.nil
          exact AllReady.nil
        exact AllReady.nil
      refine AllReady.cons rfl (fun K hK => ?_) ?_
      ·
        apply step_wp
        · rfl
        refine ow_alloc _ rfl Z 16 HZI.out ?_
        intro m WA hm hbm hsA
        have hmg : m ≠ g := by have := hAT.lt; omega
        replace hAT := hAT.keep hsA (by simp)
        replace hm : w2.heap.size ≤ m := by rw [hm]; exact hkN.size
        have hkA : Keep [] w2 WA := hkN.trans hsA
        clear hsA
        apply hK
        clear hK K
        go_simp
        refine wpAny_ready (rs := [1]) (by kernel_rfl) (by simp) ?_
        refine AllReady.cons rfl (fun K hK => ?_) ?_
        ·
          apply step_wp
          · rfl
          refine ow_load _ _ rfl _ rfl 16 5 Try.underlying29 _ DK (LK _ hkA) (by rw [HDK.out]; exact blkCells) ?_
          apply hK
          clear hK K
          go_simp
          refine wpAny_ready (rs := [2]) (by kernel_rfl) (by simp) ?_
          refine AllReady.cons rfl (fun K hK => ?_) ?_
          ·
            apply step_wp
            · rfl
            refine ow_call _ _ _ (by kernel_rfl) (hKC _ g 0 hAT) ?_
            rintro e WK ⟨p, rfl, hp, hAK, hAT1, hsK⟩
            refine ⟨_, rfl, ?_⟩
            replace hAT := hAT1
            have hkK : Keep [] w2 WK := hkA.trans' hsK (fun x hx => by right; simp at hx; omega)
            replace hbm := hbm.keep hsK (by simpa using hmg)
            clear hsK hp
            apply hK
            clear hK K
            go_simp
            refine wpAny_ready (rs := [4]) (by kernel_rfl) (by simp) ?_
            refine AllReady.cons rfl (fun K hK => ?_) ?_
            ·
              apply step_wp
              · rfl
              refine ow_call _ _ _ (by kernel_rfl) (hTC _ p g hAK hAT) ?_
              rintro e WT ⟨rfl, hAT1, hsT⟩
              refine ⟨_, rfl, ?_⟩
              have hkT : Keep [] w2 WT := hkK.trans' hsT (fun x hx => by right; simp at hx; omega)
              replace hbm := hbm.keep hsT (by simpa using hmg)
              replace hAT := hAT1
              clear hsT
              apply hK
              clear hK K
              go_simp
              refine wpAny_ready (rs := [6]) (by kernel_rfl) (by simp) ?_
              refine AllReady.cons rfl (fun K hK => ?_) ?_
              ·
                apply step_wp
                · rfl
                refine ow_store _ _ _ rfl m DT rfl rfl _ _ hbm (by rw [HDT.out]; exact blkCells) (by rw [HDT.out]; exact HZS.out) HDT1.out ?_
                intro WS hbS hsS
                have hkS : Keep [] w2 WS := hkT.trans' hsS (fun x hx => by right; simp at hx; omega)
                apply hK
                clear hK K
                go_simp
                refine wpAny_done (by kernel_rfl) ?_ _
                exact hR.out _ _ m ⟨rfl, rfl, by repeat (first | exact trivial | refine ⟨rfl, ?_⟩)⟩ hm hbS hkS
              exact AllReady.nil
            exact AllReady.nil
          exact AllReady.nil
        exact AllReady.nil
      exact AllReady.nil
    refine AllReady.cons rfl (fun K hK => ?_) ?_
    ·
      apply step_wp
      · rfl
      refine ow_load _ _ rfl _ rfl 16 5 Try.underlying29 _ DK (LK _ hk0) (by rw [HDK.out]; exact blkCells) ?_
      apply hK
      clear hK K
      go_simp
      refine wpAny_ready (rs := [0, 5]) (by kernel_rfl) (by simp) ?_
      refine AllReady.cons rfl (fun K hK => ?_) ?_
      ·
        apply step_wp
        · rfl
        refine ow_call _ _ _ (by kernel_rfl) (hN _) ?_
        rintro e WN ⟨g, rfl, hg, hAT, hsN⟩
        refine ⟨_, rfl, ?_⟩
        replace hg : w2.heap.size ≤ g := Nat.le_trans hk0.size hg
        have hkN : Keep [] w2 WN := hk0.trans hsN
        clear hsN
        apply hK
        clear hK K
        go_simp
        refine wpAny_ready (rs := [2, 5]) (by kernel_rfl) (by simp) ?_
        refine AllReady.cons rfl (fun K hK => ?_) ?_
        ·
          apply step_wp
          · rfl
          refine ow_call _ _ _ (by kernel_rfl) (hKC _ g 0 hAT) ?_
          rintro e WK ⟨p, rfl, hp, hAK, hAT1, hsK⟩
          refine ⟨_, rfl, ?_⟩
          replace hAT := hAT1
          have hkK : Keep [] w2 WK := hkN.trans' hsK (fun x hx => by right; simp at hx; omega)
          clear hsK hp
          apply hK
          clear hK K
          go_simp
          refine wpAny_ready (rs := [4, 5]) (by kernel_rfl) (by simp) ?_
          refine AllReady.cons rfl (fun K hK => ?_) ?_
          ·
            apply step_wp
            · rfl
            refine ow_call _ _ _ (by kernel_rfl) (hTC _ p g hAK hAT) ?_
            rintro e WT ⟨rfl, hAT1, hsT⟩
            refine ⟨_, rfl, ?_⟩
            have hkT : Keep [] w2 WT := hkK.trans' hsT (fun x hx => by right; simp at hx; omega)
            replace hAT := hAT1
            clear hsT
            apply hK
            clear hK K
            go_simp
            refine wpAny_ready (rs := [5]) (by kernel_rfl) (by simp) ?_
            refine AllReady.cons rfl (fun K hK => ?_) ?_
            ·
              apply step_wp
              · rfl
              refine ow_alloc _ rfl Z 16 HZI.out ?_
              intro m WA hm hbm hsA
              have hmg : m ≠ g := by have := hAT.lt; omega
              replace hAT := hAT.keep hsA (by simp)
              replace hm : w2.heap.size ≤ m := by rw [hm]; exact hkT.size
              have hkA : Keep [] w2 WA := hkT.trans hsA
              clear hsA
              apply hK
              clear hK K
              go_simp
              refine wpAny_ready (rs := [6]) (by kernel_rfl) (by simp) ?_
              refine AllReady.cons rfl (fun K hK => ?_) ?_
              ·
                apply step_wp
                · rfl
                refine ow_store _ _ _ rfl m DT rfl rfl _ _ hbm (by rw [HDT.out]; exact blkCells) (by rw [HDT.out]; exact HZS.out) HDT1.out ?_
                intro WS hbS hsS
                have hkS : Keep [] w2 WS := hkA.trans' hsS (fun x hx => by right; simp at hx; omega)
                apply hK
                clear hK K
                go_simp
                refine wpAny_done (by kernel_rfl) ?_ _
                exact hR.out _ _ m ⟨rfl, rfl, by repeat (first | exact trivial | refine ⟨rfl, ?_⟩)⟩ hm hbS hkS
              exact AllReady.nil
            exact AllReady.nil
          refine AllReady.cons rfl (fun K hK => ?_) ?_
          ·
            apply step_wp
            · rfl
            refine ow_alloc _ rfl Z 16 HZI.out ?_
            intro m WA hm hbm hsA
            have hmg : m ≠ g := by have := hAT.lt; omega
            replace hAT := hAT.keep hsA (by simp)
            replace hAK := hAK.keep hsA (by simp)
            replace hm : w2.heap.size ≤ m := by rw [hm]; exact hkK.size
            have hkA : Keep [] w2 WA := hkK.trans hsA
            clear hsA
            apply hK
            clear hK K
            go_simp
            refine wpAny_ready (rs := [4]) (by kernel_rfl) (by simp) ?_
            refine AllReady.cons rfl (fun K hK => ?_) ?_
            ·
              apply step_wp
              · rfl
              refine ow_call _ _ _ (by kernel_rfl) (hTC _ p g hAK hAT) ?_
              rintro e WT ⟨rfl, hAT1, hsT⟩
              refine ⟨_, rfl, ?_⟩
              have hkT : Keep [] w2 WT := hkA.trans' hsT (fun x hx => by right; simp at hx; omega)
              replace hbm := hbm.keep hsT (by simpa using hmg)
              replace hAT := hAT1
              clear hsT
              apply hK
              clear hK K
              go_simp
              refine wpAny_ready (rs := [6]) (by kernel_rfl) (by simp) ?_
              refine AllReady.cons rfl (fun K hK => ?_) ?_
              ·
                apply step_wp
                · rfl
                refine ow_store _ _ _ rfl m DT rfl rfl _ _ hbm (by rw [HDT.out]; exact blkCells) (by rw [HDT.out]; exact HZS.out) HDT1.out ?_
                intro WS hbS hsS
                have hkS : Keep [] w2 WS := hkT.trans' hsS (fun x hx => by right; simp at hx; omega)
                apply hK
                clear hK K
                go_simp
                refine wpAny_done (by kernel_rfl) ?_ _
                exact hR.out _ _ m ⟨rfl, rfl, by repeat (first | exact trivial | refine ⟨rfl, ?_⟩)⟩ hm hbS hkS
              exact AllReady.nil
            exact AllReady.nil
          exact AllReady.nil
        refine AllReady.cons rfl (fun K hK => ?_) ?_
        ·
          apply step_wp
          · rfl
          refine ow_alloc _ rfl Z 16 HZI.out ?_
          intro m WA hm hbm hsA
          have hmg : m ≠ g := by have := hAT.lt; omega
          replace hAT := hAT.keep hsA (by simp)
          replace hm : w2.heap.size ≤ m := by rw [hm]; exact hkN.size
          have hkA : Keep [] w2 WA := hkN.trans hsA
          clear hsA
          apply hK
          clear hK K
          go_simp
          refine wpAny_ready (rs := [2]) (by kernel_rfl) (by simp) ?_
          refine AllReady.cons rfl (fun K hK => ?_) ?_
          ·
            apply step_wp
            · rfl
            refine ow_call _ _ _ (by kernel_rfl) (hKC _ g 0 hAT) ?_
            rintro e WK ⟨p, rfl, hp, hAK, hAT1, hsK⟩
            refine ⟨_, rfl, ?_⟩
            replace hAT := hAT1
            have hkK : Keep [] w2 WK := hkA.trans' hsK (fun x hx => by right; simp at hx; omega)
            replace hbm := hbm.keep hsK (by simpa using hmg)
            clear hsK hp
            apply hK
            clear hK K
            go_simp
            refine wpAny_ready (rs := [4]) (by kernel_rfl) (by simp) ?_
            refine AllReady.cons rfl (fun K hK => ?_) ?_
            ·
              apply step_wp
              · rfl
              refine ow_call _ _ _ (by kernel_rfl) (hTC _ p g hAK hAT) ?_
              rintro e WT ⟨rfl, hAT1, hsT⟩
              refine ⟨_, rfl, ?_⟩
              have hkT : Keep [] w2 WT := hkK.trans' hsT (fun x hx => by right; simp at hx; omega)
              replace hbm := hbm.keep hsT (by simpa using hmg)
              replace hAT := hAT1
              clear hsT
              apply hK
              clear hK K
              go_simp
              refine wpAny_ready (rs := [6]) (by kernel_rfl) (by simp) ?_
              refine AllReady.cons rfl (fun K hK => ?_) ?_
              ·
                apply step_wp
                · rfl
                refine ow_store _ _ _ rfl m DT rfl rfl _ _ hbm (by rw [HDT.out]; exact blkCells) (by rw [HDT.out]; exact HZS.out) HDT1.out ?_
                intro WS hbS hsS
                have hkS : Keep [] w2 WS := hkT.trans' hsS (fun x hx => by right; simp at hx; omega)
                apply hK
                clear hK K
                go_simp
                refine wpAny_done (by kernel_rfl) ?_ _
                exact hR.out _ _ m ⟨rfl, rfl, by repeat (first | exact trivial | refine ⟨rfl, ?_⟩)⟩ hm hbS hkS
              exact AllReady.nil
            exact AllReady.nil
          exact AllReady.nil
        exact AllReady.nil
      refine AllReady.cons rfl (fun K hK => ?_) ?_
      ·
        apply step_wp
        · rfl
        refine ow_alloc _ rfl Z 16 HZI.out ?_
        intro m WA hm hbm hsA
        replace hm : w2.heap.size ≤ m := by rw [hm]; exact hk0.size
        have hkA : Keep [] w2 WA := hk0.trans hsA
        clear hsA
        apply hK
        clear hK K
        go_simp
        refine wpAny_ready (rs := [0]) (by kernel_rfl) (by simp) ?_
        refine AllReady.cons rfl (fun K hK => ?_) ?_
        ·
          apply step_wp
          · rfl
          refine ow_call _ _ _ (by kernel_rfl) (hN _) ?_
          rintro e WN ⟨g, rfl, hg, hAT, hsN⟩
          refine ⟨_, rfl, ?_⟩
          have hmg : m ≠ g := by have := hbm.lt; omega
          replace hbm := hbm.keep hsN (by simp)
          replace hg : w2.heap.size ≤ g := Nat.le_trans hkA.size hg
          have hkN : Keep [] w2 WN := hkA.trans hsN
          clear hsN
          apply hK
          clear hK K
          go_simp
          refine wpAny_ready (rs := [2]) (by kernel_rfl) (by simp) ?_
          refine AllReady.cons rfl (fun K hK => ?_) ?_
          ·
            apply step_wp
            · rfl
            refine ow_call _ _ _ (by kernel_rfl) (hKC _ g 0 hAT) ?_
            rintro e WK ⟨p, rfl, hp, hAK, hAT1, hsK⟩
            refine ⟨_, rfl, ?_⟩
            replace hAT := hAT1
            have hkK : Keep [] w2 WK := hkN.trans' hsK (fun x hx => by right; simp at hx; omega)
            replace hbm := hbm.keep hsK (by simpa using hmg)
            clear hsK hp
            apply hK
            clear hK K
            go_simp
            refine wpAny_ready (rs := [4]) (by kernel_rfl) (by simp) ?_
            refine AllReady.cons rfl (fun K hK => ?_) ?_
            ·
              apply step_wp
              · rfl
              refine ow_call _ _ _ (by kernel_rfl) (hTC _ p g hAK hAT) ?_
              rintro e WT ⟨rfl, hAT1, hsT⟩
              refine ⟨_, rfl, ?_⟩
              have hkT : Keep [] w2 WT := hkK.trans' hsT (fun x hx => by right; simp at hx; omega)
              replace hbm := hbm.keep hsT (by simpa using hmg)
              replace hAT := hAT1
              clear hsT
              apply hK
              clear hK K
              go_simp
              refine wpAny_ready (rs := [6]) (by kernel_rfl) (by simp) ?_
              refine AllReady.cons rfl (fun K hK => ?_) ?_
              ·
                apply step_wp
                · rfl
                refine ow_store _ _ _ rfl m DT rfl rfl _ _ hbm (by rw [HDT.out]; exact blkCells) (by rw [HDT.out]; exact HZS.out) HDT1.out ?_
                intro WS hbS hsS
                have hkS : Keep [] w2 WS := hkT.trans' hsS (fun x hx => by right; simp at hx; omega)
                apply hK
                clear hK K
                go_simp
                refine wpAny_done (by kernel_rfl) ?_ _
                exact hR.out _ _ m ⟨rfl, rfl, by repeat (first | exact trivial | refine ⟨rfl, ?_⟩)⟩ hm hbS hkS
              exact AllReady.nil
            exact AllReady.nil
          exact AllReady.nil
        exact AllReady.nil
      exact AllReady.nil
    refine AllReady.cons rfl (fun K hK => ?_) ?_
    ·
      apply step_wp
      · rfl
      refine ow_alloc _ rfl Z 16 HZI.out ?_
      intro m WA hm hbm hsA
      replace hm : w2.heap.size ≤ m := by rw [hm]; exact hk0.size
      have hkA : Keep [] w2 WA := hk0.trans hsA
      clear hsA
      apply hK
      clear hK K
      go_simp
      refine wpAny_ready (rs := [0, 1]) (by kernel_rfl) (by simp) ?_
      refine AllReady.cons rfl (fun K hK => ?_) ?_
      ·
        apply step_wp
        · rfl
        refine ow_call _ _ _ (by kernel_rfl) (hN _) ?_
        rintro e WN ⟨g, rfl, hg, hAT, hsN⟩
        refine ⟨_, rfl, ?_⟩
        have hmg : m ≠ g := by have := hbm.lt; omega
        replace hbm := hbm.keep hsN (by simp)
        replace hg : w2.heap.size ≤ g := Nat.le_trans hkA.size hg
        have hkN : Keep [] w2 WN := hkA.trans hsN
        clear hsN
        apply hK
        clear hK K
        go_simp
        refine wpAny_ready (rs := [1]) (by kernel_rfl) (by simp) ?_
        refine AllReady.cons rfl (fun K hK => ?_) ?_
        ·
          apply step_wp
          · rfl
          refine ow_load _ _ rfl _ rfl 16 5 Try.underlying29 _ DK (LK _ hkN) (by rw [HDK.out]; exact blkCells) ?_
          apply hK
          clear hK K
          go_simp
          refine wpAny_ready (rs := [2]) (by kernel_rfl) (by simp) ?_
          refine AllReady.cons rfl (fun K hK => ?_) ?_
          ·
            apply step_wp
            · rfl
            refine ow_call _ _ _ (by kernel_rfl) (hKC _ g 0 hAT) ?_
            rintro e WK ⟨p, rfl, hp, hAK, hAT1, hsK⟩
            refine ⟨_, rfl, ?_⟩
            replace hAT := hAT1
            have hkK : Keep [] w2 WK := hkN.trans' hsK (fun x hx => by right; simp at hx; omega)
            replace hbm := hbm.keep hsK (by simpa using hmg)
            clear hsK hp
            apply hK
            clear hK K
            go_simp
            refine wpAny_ready (rs := [4]) (by kernel_rfl) (by simp) ?_
            refine AllReady.cons rfl (fun K hK => ?_) ?_
            ·
              apply step_wp
              · rfl
              refine ow_call _ _ _ (by kernel_rfl) (hTC _ p g hAK hAT) ?_
              rintro e WT ⟨rfl, hAT1, hsT⟩
              refine ⟨_, rfl, ?_⟩
              have hkT : Keep [] w2 WT := hkK.trans' hsT (fun x hx => by right; simp at hx; omega)
              replace hbm := hbm.keep hsT (by simpa using hmg)
              replace hAT := hAT1
              clear hsT
              apply hK
              clear hK K
              go_simp
              refine wpAny_ready (rs := [6]) (by kernel_rfl) (by simp) ?_
              refine AllReady.cons rfl (fun K hK => ?_) ?_
              ·
                apply step_wp
                · rfl
                refine ow_store _ _ _ rfl m DT rfl rfl _ _ hbm (by rw [HDT.out]; exact blkCells) (by rw [HDT.out]; exact HZS.out) HDT1.out ?_
                intro WS hbS hsS
                have hkS : Keep [] w2 WS := hkT.trans' hsS (fun x hx => by right; simp at hx; omega)
                apply hK
                clear hK K
                go_simp
                refine wpAny_done (by kernel_rfl) ?_ _
                exact hR.out _ _ m ⟨rfl, rfl, by repeat (first | exact trivial | refine ⟨rfl, ?_⟩)⟩ hm hbS hkS
              exact AllReady.nil
            exact AllReady.nil
          exact AllReady.nil
        exact AllReady.nil
      refine AllReady.cons rfl (fun K hK => ?_) ?_
      ·
        apply step_wp
        · rfl
        refine ow_load _ _ rfl _ rfl 16 5 Try.underlying29 _ DK (LK _ hkA) (by rw [HDK.out]; exact blkCells) ?_
        apply hK
        clear hK K
        go_simp
        refine wpAny_ready (rs := [0]) (by kernel_rfl) (by simp) ?_
        refine AllReady.cons rfl (fun K hK => ?_) ?_
        ·
          apply step_wp
          · rfl
          refine ow_call _ _ _ (by kernel_rfl) (hN _) ?_
          rintro e WN ⟨g, rfl, hg, hAT, hsN⟩
          refine ⟨_, rfl, ?_⟩
          have hmg : m ≠ g := by have := hbm.lt; omega
          replace hbm := hbm.keep hsN (by simp)
          replace hg : w2.heap.size ≤ g := Nat.le_trans hkA.size hg
          have hkN : Keep [] w2 WN := hkA.trans hsN
          clear hsN
          apply hK
          clear hK K
          go_simp
          refine wpAny_ready (rs := [2]) (by kernel_rfl) (by simp) ?_
          refine AllReady.cons rfl (fun K hK => ?_) ?_
          ·
            apply step_wp
            · rfl
            refine ow_call _ _ _ (by kernel_rfl) (hKC _ g 0 hAT) ?_
            rintro e WK ⟨p, rfl, hp, hAK, hAT1, hsK⟩
            refine ⟨_, rfl, ?_⟩
            replace hAT := hAT1
            have hkK : Keep [] w2 WK := hkN.trans' hsK (fun x hx => by right; simp at hx; omega)
            replace hbm := hbm.keep hsK (by simpa using hmg)
            clear hsK hp
            apply hK
            clear hK K
            go_simp
            refine wpAny_ready (rs := [4]) (by kernel_rfl) (by simp) ?_
            refine AllReady.cons rfl (fun K hK => ?_) ?_
            ·
              apply step_wp
              · rfl
              refine ow_call _ _ _ (by kernel_rfl) (hTC _ p g hAK hAT) ?_
              rintro e WT ⟨rfl, hAT1, hsT⟩
              refine ⟨_, rfl, ?_⟩
              have hkT : Keep [] w2 WT := hkK.trans' hsT (fun x hx => by right; simp at hx; omega)
              replace hbm := hbm.keep hsT (by simpa using hmg)
              replace hAT := hAT1
              clear hsT
              apply hK
              clear hK K
              go_simp
              refine wpAny_ready (rs := [6]) (by kernel_rfl) (by simp) ?_
              refine AllReady.cons rfl (fun K hK => ?_) ?_
              ·
                apply step_wp
                · rfl
                refine ow_store _ _ _ rfl m DT rfl rfl _ _ hbm (by rw [HDT.out]; exact blkCells) (by rw [HDT.out]; exact HZS.out) HDT1.out ?_
                intro WS hbS hsS
                have hkS : Keep [] w2 WS := hkT.trans' hsS (fun x hx => by right; simp at hx; omega)
                apply hK
                clear hK K
                go_simp
                refine wpAny_done (by kernel_rfl) ?_ _
                exact hR.out _ _ m ⟨rfl, rfl, by repeat (first | exact trivial | refine ⟨rfl, ?_⟩)⟩ hm hbS hkS
              exact AllReady.nil
            exact AllReady.nil
          exact AllReady.nil
        exact AllReady.nil
      exact AllReady.nil
    exact AllReady.nil
  refine AllReady.cons rfl (fun K hK => ?_) ?_
  ·
    apply step_wp
    · rfl
    refine ow_alloc _ rfl Z 16 HZI.out ?_
    intro m WA hm hbm hsA
    replace hm : w2.heap.size ≤ m := by rw [hm]; exact hk0.size
    have hkA : Keep [] w2 WA := hk0.trans hsA
    clear hsA
    apply hK
    clear hK K
    go_simp
    refine wpAny_ready (rs := [0, 1, 3]) (by kernel_rfl) (by simp) ?_
    refine AllReady.cons rfl (fun K hK => ?_) ?_
    ·
      apply step_wp
      · rfl
      refine ow_call _ _ _ (by kernel_rfl) (hN _) ?_
      rintro e WN ⟨g, rfl, hg, hAT, hsN⟩
      refine ⟨_, rfl, ?_⟩
      have hmg : m ≠ g := by have := hbm.lt; omega
      replace hbm := hbm.keep hsN (by simp)
      replace hg : w2.heap.size ≤ g := Nat.le_trans hkA.size hg
      have hkN : Keep [] w2 WN := hkA.trans hsN
      clear hsN
      apply hK
      clear hK K
      go_simp
      refine wpAny_ready (rs := [1, 3]) (by kernel_rfl) (by simp) ?_
      refine AllReady.cons rfl (fun K hK => ?_) ?_
      ·
        apply step_wp
        · rfl
        refine ow_load _ _ rfl _ rfl 16 5 Try.underlying29 _ DK (LK _ hkN) (by rw [HDK.out]; exact blkCells) ?_
        apply hK
        clear hK K
        go_simp
        refine wpAny_ready (rs := [2, 3]) (by kernel_rfl) (by simp) ?_
        refine AllReady.cons rfl (fun K hK => ?_) ?_
        ·
          apply step_wp
          · rfl
          refine ow_call _ _ _ (by kernel_rfl) (hKC _ g 0 hAT) ?_
          rintro e WK ⟨p, rfl, hp, hAK, hAT1, hsK⟩
          refine ⟨_, rfl, ?_⟩
          replace hAT := hAT1
          have hkK : Keep [] w2 WK := hkN.trans' hsK (fun x hx => by right; simp at hx; omega)
          replace hbm := hbm.keep hsK (by simpa using hmg)
          clear hsK hp
          apply hK
          clear hK K
          go_simp
          refine wpAny_ready (rs := [3]) (by kernel_rfl) (by simp) ?_
          refine AllReady.cons rfl (fun K hK => ?_) ?_
          ·
            apply step_wp
            · rfl
            refine ow_load _ _ rfl _ rfl 16 5 Try.underlying29 _ DB (LB _ hkK) (by rw [HDB.out]; exact blkCells) ?_
            apply hK
            clear hK K
            go_simp
            refine wpAny_ready (rs := [4]) (by kernel_rfl) (by simp) ?_
            refine AllReady.cons rfl (fun K hK => ?_) ?_
            ·
              apply step_wp
              · rfl
              refine ow_call _ _ _ (by kernel_rfl) (hTC _ p g hAK hAT) ?_
              rintro e WT ⟨rfl, hAT1, hsT⟩
              refine ⟨_, rfl, ?_⟩
              have hkT : Keep [] w2 WT := hkK.trans' hsT (fun x hx => by right; simp at hx; omega)
              replace hbm := hbm.keep hsT (by simpa using hmg)
              replace hAT := hAT1
              clear hsT
              apply hK
              clear hK K
              go_simp
              refine wpAny_ready (rs := [6]) (by kernel_rfl) (by simp) ?_
              refine AllReady.cons rfl (fun K hK => ?_) ?_
              ·
                apply step_wp
                · rfl
                refine ow_store _ _ _ rfl m DT rfl rfl _ _ hbm (by rw [HDT.out]; exact blkCells) (by rw [HDT.out]; exact HZS.out) HDT1.out ?_
                intro WS hbS hsS
                have hkS : Keep [] w2 WS := hkT.trans' hsS (fun x hx => by right; simp at hx; omega)
                apply hK
                clear hK K
                go_simp
                refine wpAny_done (by kernel_rfl) ?_ _
                exact hR.out _ _ m ⟨rfl, rfl, by repeat (first | exact trivial | refine ⟨rfl, ?_⟩)⟩ hm hbS hkS
              exact AllReady.nil
            exact AllReady.nil
          exact AllReady.nil
        refine AllReady.cons rfl (fun K hK => ?_) ?_
        ·
          apply step_wp
          · rfl
          refine ow_load _ _ rfl _ rfl 16 5 Try.underlying29 _ DB (LB _ hkN) (by rw [HDB.out]; exact blkCells) ?_
          apply hK
          clear hK K
          go_simp
          refine wpAny_ready (rs := [2]) (by kernel_rfl) (by simp) ?_
          refine AllReady.cons rfl (fun K hK => ?_) ?_
          ·
            apply step_wp
            · rfl
            refine ow_call _ _ _ (by kernel_rfl) (hKC _ g 0 hAT) ?_
            rintro e WK ⟨p, rfl, hp, hAK, hAT1, hsK⟩
            refine ⟨_, rfl, ?_⟩
            replace hAT := hAT1
            have hkK : Keep [] w2 WK := hkN.trans' hsK (fun x hx => by right; simp at hx; omega)
            replace hbm := hbm.keep hsK (by simpa using hmg)
            clear hsK hp
            apply hK
            clear hK K
            go_simp
            refine wpAny_ready (rs := [4]) (by kernel_rfl) (by simp) ?_
            refine AllReady.cons rfl (fun K hK => ?_) ?_
            ·
              apply step_wp
              · rfl
              refine ow_call _ _ _ (by kernel_rfl) (hTC _ p g hAK hAT) ?_
              rintro e WT ⟨rfl, hAT1, hsT⟩
              refine ⟨_, rfl, ?_⟩
              have hkT : Keep [] w2 WT := hkK.trans' hsT (fun x hx => by right; simp at hx; omega)
              replace hbm := hbm.keep hsT (by simpa using hmg)
              replace hAT := hAT1
              clear hsT
              apply hK
              clear hK K
              go_simp
              refine wpAny_ready (rs := [6]) (by kernel_rfl) (by simp) ?_
              refine AllReady.cons rfl (fun K hK => ?_) ?_
              ·
                apply step_wp
                · rfl
                refine ow_store _ _ _ rfl m DT rfl rfl _ _ hbm (by rw [HDT.out]; exact blkCells) (by rw [HDT.out]; exact HZS.out) HDT1.out ?_
                intro WS hbS hsS
                have hkS : Keep [] w2 WS := hkT.trans' hsS (fun x hx => by right; simp at hx; omega)
                apply hK
                clear hK K
                go_simp
                refine wpAny_done (by kernel_rfl) ?_ _
                exact hR.out _ _ m ⟨rfl, rfl, by repeat (first | exact trivial | refine ⟨rfl, ?_⟩)⟩ hm hbS hkS
              exact AllReady.nil
            exact AllReady.nil
          exact AllReady.nil
        exact AllReady.nil
      refine AllReady.cons rfl (fun K hK => ?_) ?_
      ·
        apply step_wp
        · rfl
        refine ow_load _ _ rfl _ rfl 16 5 Try.underlying29 _ DB (LB _ hkN) (by rw [HDB.out]; exact blkCells) ?_
        apply hK
        clear hK K
        go_simp
        refine wpAny_ready (rs := [1]) (by kernel_rfl) (by simp) ?_
        refine AllReady.cons rfl (fun K hK => ?_) ?_
        ·
          apply step_wp
          · rfl
          refine ow_load _ _ rfl _ rfl 16 5 Try.underlying29 _ DK (LK _ hkN) (by rw [HDK.out]; exact blkCells) ?_
          apply hK
          clear hK K
          go_simp
          refine wpAny_ready (rs := [2]) (by kernel_rfl) (by simp) ?_
          refine AllReady.cons rfl (fun K hK => ?_) ?_
          ·
            apply step_wp
            · rfl
            refine ow_call _ _ _ (by kernel_rfl) (hKC _ g 0 hAT) ?_
            rintro e WK ⟨p, rfl, hp, hAK, hAT1, hsK⟩
            refine ⟨_, rfl, ?_⟩
            replace hAT := hAT1
            have hkK : Keep [] w2 WK := hkN.trans' hsK (fun x hx => by right; simp at hx; omega)
            replace hbm := hbm.keep hsK (by simpa using hmg)
            clear hsK hp
            apply hK
            clear hK K
            go_simp
            refine wpAny_ready (rs := [4]) (by kernel_rfl) (by simp) ?_
            refine AllReady.cons rfl (fun K hK => ?_) ?_
            ·
              apply step_wp
              · rfl
              refine ow_call _ _ _ (by kernel_rfl) (hTC _ p g hAK hAT) ?_
              rintro e WT ⟨rfl, hAT1, hsT⟩
              refine ⟨_, rfl, ?_⟩
              have hkT : Keep [] w2 WT := hkK.trans' hsT (fun x hx => by right; simp at hx; omega)
              replace hbm := hbm.keep hsT (by simpa using hmg)
              replace hAT := hAT1
              clear hsT
              apply hK
              clear hK K
              go_simp
              refine wpAny_ready (rs := [6]) (by kernel_rfl) (by simp) ?_
              refine AllReady.cons rfl (fun K hK => ?_) ?_
              ·
                apply step_wp
                · rfl
                refine ow_store _ _ _ rfl m DT rfl rfl _ _ hbm (by rw [HDT.out]; exact blkCells) (by rw [HDT.out]; exact HZS.out) HDT1.out ?_
                intro WS hbS hsS
                have hkS : Keep [] w2 WS := hkT.trans' hsS (fun x hx => by right; simp at hx; omega)
                apply hK
                clear hK K
                go_simp
                refine wpAny_done (by kernel_rfl) ?_ _
                exact hR.out _ _ m ⟨rfl, rfl, by repeat (first | exact trivial | refine ⟨rfl, ?_⟩)⟩ hm hbS hkS
              exact AllReady.nil
            exact AllReady.nil
          exact AllReady.nil
        exact AllReady.nil
      exact AllReady.nil
    refine AllReady.cons rfl (fun K hK => ?_) ?_
    ·
      apply step_wp
      · rfl
      refine ow_load _ _ rfl _ rfl 16 5 Try.underlying29 _ DK (LK _ hkA) (by rw [HDK.out]; exact blkCells) ?_
      apply hK
      clear hK K
      go_simp
      refine wpAny_ready (rs := [0, 3]) (by kernel_rfl) (by simp) ?_
      refine AllReady.cons rfl (fun K hK => ?_) ?_
      ·
        apply step_wp
        · rfl
        refine ow_call _ _ _ (by kernel_rfl) (hN _) ?_
        rintro e WN ⟨g, rfl, hg, hAT, hsN⟩
        refine ⟨_, rfl, ?_⟩
        have hmg : m ≠ g := by have := hbm.lt; omega
        replace hbm := hbm.keep hsN (by simp)
        replace hg : w2.heap.size ≤ g := Nat.le_trans hkA.size hg
        have hkN : Keep [] w2 WN := hkA.trans hsN
        clear hsN
        apply hK
        clear hK K
        go_simp
        refine wpAny_ready (rs := [2, 3]) (by kernel_rfl) (by simp) ?_
        refine AllReady.cons rfl (fun K hK => ?_) ?_
        ·
          apply step_wp
          · rfl
          refine ow_call _ _ _ (by kernel_rfl) (hKC _ g 0 hAT) ?_
          rintro e WK ⟨p, rfl, hp, hAK, hAT1, hsK⟩
          refine ⟨_, rfl, ?_⟩
          replace hAT := hAT1
          have hkK : Keep [] w2 WK := hkN.trans' hsK (fun x hx => by right; simp at hx; omega)
          replace hbm := hbm.keep hsK (by simpa using hmg)
          clear hsK hp
          apply hK
          clear hK K
          go_simp
          refine wpAny_ready (rs := [3]) (by kernel_rfl) (by simp) ?_
          refine AllReady.cons rfl (fun K hK => ?_) ?_
          ·
            apply step_wp
            · rfl
            refine ow_load _ _ rfl _ rfl 16 5 Try.underlying29 _ DB (LB _ hkK) (by rw [HDB.out]; exact blkCells) ?_
            apply hK
            clear hK K
            go_simp
            refine wpAny_ready (rs := [4]) (by kernel_rfl) (by simp) ?_
            refine AllReady.cons rfl (fun K hK => ?_) ?_
            ·
              apply step_wp
              · rfl
              refine ow_call _ _ _ (by kernel_rfl) (hTC _ p g hAK hAT) ?_
              rintro e WT ⟨rfl, hAT1, hsT⟩
              refine ⟨_, rfl, ?_⟩
              have hkT : Keep [] w2 WT := hkK.trans' hsT (fun x hx => by right; simp at hx; omega)
              replace hbm := hbm.keep hsT (by simpa using hmg)
              replace hAT := hAT1
              clear hsT
              apply hK
              clear hK K
              go_simp
              refine wpAny_ready (rs := [6]) (by kernel_rfl) (by simp) ?_
              refine AllReady.cons rfl (fun K hK => ?_) ?_
              ·
                apply step_wp
                · rfl
                refine ow_store _ _ _ rfl m DT rfl rfl _ _ hbm (by rw [HDT.out]; exact blkCells) (by rw [HDT.out]; exact HZS.out) HDT1.out ?_
                intro WS hbS hsS
                have hkS : Keep [] w2 WS := hkT.trans' hsS (fun x hx => by right; simp at hx; omega)
                apply hK
                clear hK K
                go_simp
                refine wpAny_done (by kernel_rfl) ?_ _
                exact hR.out _ _ m ⟨rfl, rfl, by repeat (first | exact trivial | refine ⟨rfl, ?_⟩)⟩ hm hbS hkS
              exact AllReady.nil
            exact AllReady.nil
          exact AllReady.nil
        refine AllReady.cons rfl (fun K hK => ?_) ?_
        ·
          apply step_wp
          · rfl
          refine ow_load _ _ rfl _ rfl 16 5 Try.underlying29 _ DB (LB _ hkN) (by rw [HDB.out]; exact blkCells) ?_
          apply hK
          clear hK K
          go_simp
          refine wpAny_ready (rs := [2]) (by kernel_rfl) (by simp) ?_
          refine AllReady.cons rfl (fun K hK => ?_) ?_
          ·
            apply step_wp
            · rfl
            refine ow_call _ _ _ (by kernel_rfl) (hKC _ g 0 hAT) ?_
            rintro e WK ⟨p, rfl, hp, hAK, hAT1, hsK⟩
            refine ⟨_, rfl, ?_⟩
            replace hAT := hAT1
            have hkK : Keep [] w2 WK := hkN.trans' hsK (fun x hx => by right; simp at hx; omega)
            replace hbm := hbm.keep hsK (by simpa using hmg)
            clear hsK hp
            apply hK
            clear hK K
            go_simp
            refine wpAny_ready (rs := [4]) (by kernel_rfl) (by simp) ?_
            refine AllReady.cons rfl (fun K hK => ?_) ?_
            ·
              apply step_wp
              · rfl
              refine ow_call _ _ _ (by kernel_rfl) (hTC _ p g hAK hAT) ?_
              rintro e WT ⟨rfl, hAT1, hsT⟩
              refine ⟨_, rfl, ?_⟩
              have hkT : Keep [] w2 WT := hkK.trans' hsT (fun x hx => by right; simp at hx; omega)
              replace hbm := hbm.keep hsT (by simpa using hmg)
              replace hAT := hAT1
              clear hsT
              apply hK
              clear hK K
              go_simp
              refine wpAny_ready (rs := [6]) (by kernel_rfl) (by simp) ?_
              refine AllReady.cons rfl (fun K hK => ?_) ?_
              ·
                apply step_wp
                · rfl
                refine ow_store _ _ _ rfl m DT rfl rfl _ _ hbm (by rw [HDT.out]; exact blkCells) (by rw [HDT.out]; exact HZS.out) HDT1.out ?_
                intro WS hbS hsS
                have hkS : Keep [] w2 WS := hkT.trans' hsS (fun x hx => by right; simp at hx; omega)
                apply hK
                clear hK K
                go_simp
                refine wpAny_done (by kernel_rfl) ?_ _
                exact hR.out _ _ m ⟨rfl, rfl, by repeat (first | exact trivial | refine ⟨rfl, ?_⟩)⟩ hm hbS hkS
              exact AllReady.nil
            exact AllReady.nil
          exact AllReady.nil
        exact AllReady.nil
      refine AllReady.cons rfl (fun K hK => ?_) ?_
      ·
        apply step_wp
        · rfl
        refine ow_load _ _ rfl _ rfl 16 5 Try.underlying29 _ DB (LB _ hkA) (by rw [HDB.out]; exact blkCells) ?_
        apply hK
        clear hK K
        go_simp
        refine wpAny_ready (rs := [0]) (by kernel_rfl) (by simp) ?_
        refine AllReady.cons rfl (fun K hK => ?_) ?_
        ·
          apply step_wp
          · rfl
          refine ow_call _ _ _ (by kernel_rfl) (hN _) ?_
          rintro e WN ⟨g, rfl, hg, hAT, hsN⟩
          refine ⟨_, rfl, ?_⟩
          have hmg : m ≠ g := by have := hbm.lt; omega
          replace hbm := hbm.keep hsN (by simp)
          replace hg : w2.heap.size ≤ g := Nat.le_trans hkA.size hg
          have hkN : Keep [] w2 WN := hkA.trans hsN
          clear hsN
          apply hK
          clear hK K
          go_simp
          refine wpAny_ready (rs := [2]) (by kernel_rfl) (by simp) ?_
          refine AllReady.cons rfl (fun K hK => ?_) ?_
          ·
            apply step_wp
            · rfl
            refine ow_call _ _ _ (by kernel_rfl) (hKC _ g 0 hAT) ?_
            rintro e WK ⟨p, rfl, hp, hAK, hAT1, hsK⟩
            refine ⟨_, rfl, ?_⟩
            replace hAT := hAT1
            have hkK : Keep [] w2 WK := hkN.trans' hsK (fun x hx => by right; simp at hx; omega)
            replace hbm := hbm.keep hsK (by simpa using hmg)
            clear hsK hp
            apply hK
            clear hK K
            go_simp
            refine wpAny_ready (rs := [4]) (by kernel_rfl) (by simp) ?_
            refine AllReady.cons rfl (fun K hK => ?_) ?_
            ·
              apply step_wp
              · rfl
              refine ow_call _ _ _ (by kernel_rfl) (hTC _ p g hAK hAT) ?_
              rintro e WT ⟨rfl, hAT1, hsT⟩
              refine ⟨_, rfl, ?_⟩
              have hkT : Keep [] w2 WT := hkK.trans' hsT (fun x hx => by right; simp at hx; omega)
              replace hbm := hbm.keep hsT (by simpa using hmg)
              replace hAT := hAT1
              clear hsT
              apply hK
              clear hK K
              go_simp
              refine wpAny_ready (rs := [6]) (by kernel_rfl) (by simp) ?_
              refine AllReady.cons rfl (fun K hK => ?_) ?_
              ·
                apply step_wp
                · rfl
                refine ow_store _ _ _ rfl m DT rfl rfl _ _ hbm (by rw [HDT.out]; exact blkCells) (by rw [HDT.out]; exact HZS.out) HDT1.out ?_
                intro WS hbS hsS
                have hkS : Keep [] w2 WS := hkT.trans' hsS (fun x hx => by right; simp at hx; omega)
                apply hK
                clear hK K
                go_simp
                refine wpAny_done (by kernel_rfl) ?_ _
                exact hR.out _ _ m ⟨rfl, rfl, by repeat (first | exact trivial | refine ⟨rfl, ?_⟩)⟩ hm hbS hkS
              exact AllReady.nil
            exact AllReady.nil
          exact AllReady.nil
        exact AllReady.nil
      exact AllReady.nil
    refine AllReady.cons rfl (fun K hK => ?_) ?_
    ·
      apply step_wp
      · rfl
      refine ow_load _ _ rfl _ rfl 16 5 Try.underlying29 _ DB (LB _ hkA) (by rw [HDB.out]; exact blkCells) ?_
      apply hK
      clear hK K
      go_simp
      refine wpAny_ready (rs := [0, 1]) (by kernel_rfl) (by simp) ?_
      refine AllReady.cons rfl (fun K hK => ?_) ?_
      ·
        apply step_wp
        · rfl
        refine ow_call _ _ _ (by kernel_rfl) (hN _) ?_
        rintro e WN ⟨g, rfl, hg, hAT, hsN⟩
        refine ⟨_, rfl, ?_⟩
        have hmg : m ≠ g := by have := hbm.lt; omega
        replace hbm := hbm.keep hsN (by simp)
        replace hg : w2.heap.size ≤ g := Nat.le_trans hkA.size hg
        have hkN : Keep [] w2 WN := hkA.trans hsN
        clear hsN
        apply hK
        clear hK K
        go_simp
        refine wpAny_ready (rs := [1]) (by kernel_rfl) (by simp) ?_
        refine AllReady.cons rfl (fun K hK => ?_) ?_
        ·
          apply step_wp
          · rfl
          refine ow_load _ _ rfl _ rfl 16 5 Try.underlying29 _ DK (LK _ hkN) (by rw [HDK.out]; exact blkCells) ?_
          apply hK
          clear hK K
          go_simp
          refine wpAny_ready (rs := [2]) (by kernel_rfl) (by simp) ?_
          refine AllReady.cons rfl (fun K hK => ?_) ?_
          ·
            apply step_wp
            · rfl
            refine ow_call _ _ _ (by kernel_rfl) (hKC _ g 0 hAT) ?_
            rintro e WK ⟨p, rfl, hp, hAK, hAT1, hsK⟩
            refine ⟨_, rfl, ?_⟩
            replace hAT := hAT1
            have hkK : Keep [] w2 WK := hkN.trans' hsK (fun x hx => by right; simp at hx; omega)
            replace hbm := hbm.keep hsK (by simpa using hmg)
            clear hsK hp
            apply hK
            clear hK K
            go_simp
            refine wpAny_ready (rs := [4]) (by kernel_rfl) (by simp) ?_
            refine AllReady.cons rfl (fun K hK => ?_) ?_
            ·
              apply step_wp
              · rfl
              refine ow_call _ _ _ (by kernel_rfl) (hTC _ p g hAK hAT) ?_
              rintro e WT ⟨rfl, hAT1, hsT⟩
              refine ⟨_, rfl, ?_⟩
              have hkT : Keep [] w2 WT := hkK.trans' hsT (fun x hx => by right; simp at hx; omega)
              replace hbm := hbm.keep hsT (by simpa using hmg)
              replace hAT := hAT1
              clear hsT
              apply hK
              clear hK K
              go_simp
              refine wpAny_ready (rs := [6]) (by kernel_rfl) (by simp) ?_
              refine AllReady.cons rfl (fun K hK => ?_) ?_
              ·
                apply step_wp
                · rfl
                refine ow_store _ _ _ rfl m DT rfl rfl _ _ hbm (by rw [HDT.out]; exact blkCells) (by rw [HDT.out]; exact HZS.out) HDT1.out ?_
                intro WS hbS hsS
                have hkS : Keep [] w2 WS := hkT.trans' hsS (fun x hx => by right; simp at hx; omega)
                apply hK
                clear hK K
                go_simp
                refine wpAny_done (by kernel_rfl) ?_ _
                exact hR.out _ _ m ⟨rfl, rfl, by repeat (first | exact trivial | refine ⟨rfl, ?_⟩)⟩ hm hbS hkS
              exact AllReady.nil
            exact AllReady.nil
          exact AllReady.nil
        exact AllReady.nil
      refine AllReady.cons rfl (fun K hK => ?_) ?_
      ·
        apply step_wp
        · rfl
        refine ow_load _ _ rfl _ rfl 16 5 Try.underlying29 _ DK (LK _ hkA) (by rw [HDK.out]; exact blkCells) ?_
        apply hK
        clear hK K
        go_simp
        refine wpAny_ready (rs := [0]) (by kernel_rfl) (by simp) ?_
        refine AllReady.cons rfl (fun K hK => ?_) ?_
        ·
          apply step_wp
          · rfl
          refine ow_call _ _ _ (by kernel_rfl) (hN _) ?_
          rintro e WN ⟨g, rfl, hg, hAT, hsN⟩
          refine ⟨_, rfl, ?_⟩
          have hmg : m ≠ g := by have := hbm.lt; omega
          replace hbm := hbm.keep hsN (by simp)
          replace hg : w2.heap.size ≤ g := Nat.le_trans hkA.size hg
          have hkN : Keep [] w2 WN := hkA.trans hsN
          clear hsN
          apply hK
          clear hK K
          go_simp
          refine wpAny_ready (rs := [2]) (by kernel_rfl) (by simp) ?_
          refine AllReady.cons rfl (fun K hK => ?_) ?_
          ·
            apply step_wp
            · rfl
            refine ow_call _ _ _ (by kernel_rfl) (hKC _ g 0 hAT) ?_
            rintro e WK ⟨p, rfl, hp, hAK, hAT1, hsK⟩
            refine ⟨_, rfl, ?_⟩
            replace hAT := hAT1
            have hkK : Keep [] w2 WK := hkN.trans' hsK (fun x hx => by right; simp at hx; omega)
            replace hbm := hbm.keep hsK (by simpa using hmg)
            clear hsK hp
            apply hK
            clear hK K
            go_simp
            refine wpAny_ready (rs := [4]) (by kernel_rfl) (by simp) ?_
            refine AllReady.cons rfl (fun K hK => ?_) ?_
            ·
              apply step_wp
              · rfl
              refine ow_call _ _ _ (by kernel_rfl) (hTC _ p g hAK hAT) ?_
              rintro e WT ⟨rfl, hAT1, hsT⟩
              refine ⟨_, rfl, ?_⟩
              have hkT : Keep [] w2 WT := hkK.trans' hsT (fun x hx => by right; simp at hx; omega)
              replace hbm := hbm.keep hsT (by simpa using hmg)
              replace hAT := hAT1
              clear hsT
              apply hK
              clear hK K
              go_simp
              refine wpAny_ready (rs := [6]) (by kernel_rfl) (by simp) ?_
              refine AllReady.cons rfl (fun K hK => ?_) ?_
              ·
                apply step_wp
                · rfl
                refine ow_store _ _ _ rfl m DT rfl rfl _ _ hbm (by rw [HDT.out]; exact blkCells) (by rw [HDT.out]; exact HZS.out) HDT1.out ?_
                intro WS hbS hsS
                have hkS : Keep [] w2 WS := hkT.trans' hsS (fun x hx => by right; simp at hx; omega)
                apply hK
                clear hK K
                go_simp
                refine wpAny_done (by kernel_rfl) ?_ _
                exact hR.out _ _ m ⟨rfl, rfl, by repeat (first | exact trivial | refine ⟨rfl, ?_⟩)⟩ hm hbS hkS
              exact AllReady.nil
            exact AllReady.nil
          exact AllReady.nil
        exact AllReady.nil
      exact AllReady.nil
    exact AllReady.nil
  exact AllReady.nil

end Go.Proofs.Ytpjkicbfdknjcaa
