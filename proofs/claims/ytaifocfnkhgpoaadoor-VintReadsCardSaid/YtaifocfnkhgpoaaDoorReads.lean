/-
  The law VintReads.
-/
import Derived.Test.YtaifocfnkhgpoaaDoorClos
import Derived.Test.YtaifocfnkhgpoaaDoorAwake
import Derived.Deep.RegionWith
import Derived.Deep.DeepCutAuto
import Derived.Deep.CutBlock
import Derived.BigQuiet
namespace Go.Proofs.YtaifocfnkhgpoaaDoor
open Go.RowKit

theorem RS.drew {w : World} {g : Nat} {l : List Int} {e : Int} (h : RS w g l e) : RS w.drew g l e := by
  obtain ⟨v, h1, h2, h3⟩ := h
  exact ⟨v, h1.drew, h2.keep0 (Keep.refl _ _).drew, h3⟩
theorem RS.drewN {w : World} {g : Nat} {l : List Int} {e : Int} (h : RS w g l e) (n : Nat) : RS (w.drewN n) g l e := by
  obtain ⟨v, h1, h2, h3⟩ := h
  exact ⟨v, h1.drewN n, h2.keep0 ((Keep.refl _ _).drewN n), h3⟩
theorem CS.drew {w : World} {G : Nat} {l : List Int} {e : Int} (h : CS w G l e) : CS w.drew G l e :=
  h.keep (S := []) (Keep.refl _ _).drew (by simp) (by simp) (by simp) (by simp) (by simp)
theorem CS.drewN {w : World} {G : Nat} {l : List Int} {e : Int} (h : CS w G l e) (n : Nat) : CS (w.drewN n) G l e :=
  h.keep (S := []) ((Keep.refl _ _).drewN n) (by simp) (by simp) (by simp) (by simp) (by simp)
theorem rs_after {w w' : World} {g G : Nat} {l l2 : List Int} {e e2 : Int} (h : RS w g l e) (c : CS w G l2 e2) (k : Keep [G, G + 1] w w') (hg : g < G) : RS w' g l e := by
  obtain ⟨v2, a1, a2⟩ := c.left
  obtain ⟨A, c0, rfl⟩ := sl_form a2
  refine h.keep k (by simp; omega) (fun v hv hl b hb hm => ?_)
  rcases List.mem_cons.1 hm with e | hm
  · exact sl_ne hv a1 one_cells hl b hb e
  · exact sl_ne hv c.want err_cells hl b hb (by simpa using hm)
theorem cs_after {w w' : World} {g G : Nat} {l l2 : List Int} {e e2 : Int} (c : CS w G l e) (h : RS w g l2 e2) (k : Keep [g] w w') (hg : g < G) : CS w' G l e := by
  obtain ⟨v, a1, a2, _⟩ := h
  obtain ⟨A, c0, rfl⟩ := sl_form a2
  refine c.keep k (by simp; omega) (by simp; omega) (by simp; omega) (by simp; omega) (fun v hv hl b hb hm => ?_)
  exact sl_ne hv a1 rs_cells hl b hb (by simpa using hm)
/-- What the Reader handed out stays while the law's own boxes turn. -/
theorem sl_after {w w' : World} {G : Nat} {v : Value} {l l2 : List Int} {e2 : Int} (h : Sl .u8 w v l) (c : CS w G l2 e2) (k : Keep [G, G + 1] w w') : Sl .u8 w' v l := by
  obtain ⟨v2, a1, a2⟩ := c.left
  obtain ⟨A, c0, rfl⟩ := sl_form a2
  refine h.keep k (fun hl b hb hm => ?_)
  rcases List.mem_cons.1 hm with e | hm
  · exact sl_ne h a1 one_cells hl b hb e
  · exact sl_ne h c.want err_cells hl b hb (by simpa using hm)

/-- Both sides are in one state. -/
def JS (W w : World) (g G : Nat) : Prop := ∃ (l : List Int) (e : Int), RS w g l e ∧ CS w G l e ∧ l.length ≤ 200 ∧ Keep [g, G, G + 1] W w

theorem rlen_same (n : Int) (w : World) : Calls Tryd.prog 10 #[.int .u64 n] w fun e w' => e = .returned (.int .i64 (vlen n)) ∧ w' = w :=
  (rlen_any n w).mono fun _ _ ⟨h1, h2⟩ => ⟨h1, h2.symm⟩
theorem sTake_no {l : List Int} {e : Int} (h : ¬ (e = 0 ∧ tkS l ≠ 0)) : (sTake l e).1 = 0 ∧ (sTake l e).2.2 ≠ 0 ∧ sLeast l e = sTake l e := by
  unfold sTake sLeast
  by_cases he : e = 0
  · have : tkS l = 0 := by
      rcases Decidable.em (tkS l = 0) with h1 | h1
      · exact h1
      · exact absurd ⟨he, h1⟩ h
    simp [he, this]
  · simp [he]
theorem sNext_length2 (k : Int) (l : List Int) (e : Int) : (sNext k l e).2.1.length ≤ l.length := by
  unfold sNext sFail
  split
  · split <;> simp
  · simp
theorem sLeast_length (l : List Int) (e : Int) : (sLeast l e).2.1.length ≤ l.length := by
  unfold sLeast
  by_cases h1 : e ≠ 0
  · rw [if_pos h1]; simp
  · rw [if_neg h1]
    by_cases h2 : tkS l = 0
    · rw [if_pos h2]; simp
    · rw [if_neg h2]
      by_cases h3 : (tkS l : Int) = vlen (tkN l)
      · rw [if_pos h3]; simp
      · rw [if_neg h3]; simp

set_option maxRecDepth 100000 in
set_option maxHeartbeats 4000000 in
theorem vintReads_main (v1 : Value) (b : List Int) (v2 : Value) (acts : List Int) (v3 : Value) (ns : List Int) (w : World) (ht : Tabs w) (h1 : Sl .u8 w v1 b) (h2 : Sl .u8 w v2 acts) (h3 : Sl .i64 w v3 ns)
    (hb : b.length ≤ 200) :
    Calls Tryd.prog 5 #[v1, v2, v3] w fun e w' => e = .returned (.bool true) ∧ Keep [] w w' := by
  have A := Lib.hid (awake_any w ht)
  have H1 := Lib.hid h1
  have H2 := Lib.hid h2
  have H3 := Lib.hid h3
  obtain ⟨A1, k1, rfl⟩ := sl_form h1
  obtain ⟨A2, k2, rfl⟩ := sl_form h2
  obtain ⟨A3, k3, rfl⟩ := sl_form h3
  obtain ⟨_, _, _, hl2, hm2, _⟩ := h2
  obtain ⟨_, _, _, hl3, hm3, _⟩ := h3
  clear ht h1
  go_enter Tryd.func5, Tryd.ntmps5
  go_wp2_with (first
    | (go_at_call 8; with_reducible refine A.out.mono ?_; rintro e w1 ⟨rfl, hk1⟩)
    | (go_at_call 17; refine (rRead w1 _ b (H1.out.keep0 hk1) (by omega)).mono ?_; rintro e w2 ⟨gr, rfl, hRS, hgr, hk2⟩; have HRS := Lib.hid hRS; clear hRS))
  obtain ⟨G, hG⟩ : ∃ G, G = w2.heap.size := ⟨_, rfl⟩
  rw [← hG]
  simp only [Nat.add_assoc, Nat.reduceAdd]
  obtain ⟨W, hW⟩ : ∃ W, W = (((w2.alloc (.cells #[.slice A1 b.length k1] 23)).alloc (.cells #[.int .i64 0] 26)).alloc
      (.cells #[.func (.func 18) #[] #[.pointer (some ⟨G + 1, 0, none⟩), .pointer (some ⟨G, 0, none⟩)]] 41)).alloc
      (.cells #[.func (.func 19) #[] #[.pointer (some ⟨G, 0, none⟩), .pointer (some ⟨G + 1, 0, none⟩), .pointer (some ⟨G + 2, 0, none⟩)]] 42) := ⟨_, rfl⟩
  rw [← hW]
  have hkW : Keep [] w2 W := by rw [hW]; exact ((((Keep.refl _ _).alloc _).alloc _).alloc _).alloc _
  have hKW : Keep [] w W := (hk1.trans hk2).trans hkW
  have hCS : CS W G b 0 := by
    rw [hW, hG]
    refine { left := ⟨.slice A1 b.length k1, ?_, ?_⟩, want := ?_, ff := ?_, tf := ?_, stop := fun h => absurd rfl h }
    · exact (((Blk.new _ _ _).alloc _).alloc _).alloc _
    · rw [← hG, ← hW]; exact H1.out.keep0 hKW
    · have := ((Blk.new (w2.alloc (.cells #[.slice A1 b.length k1] 23)) 26 #[.int .i64 0]).alloc (.cells #[.func (.func 18) #[] #[.pointer (some ⟨w2.heap.size + 1, 0, none⟩), .pointer (some ⟨w2.heap.size, 0, none⟩)]] 41)).alloc (.cells #[.func (.func 19) #[] #[.pointer (some ⟨w2.heap.size, 0, none⟩), .pointer (some ⟨w2.heap.size + 1, 0, none⟩), .pointer (some ⟨w2.heap.size + 2, 0, none⟩)]] 42)
      simpa using this
    · have := (Blk.new ((w2.alloc (.cells #[.slice A1 b.length k1] 23)).alloc (.cells #[.int .i64 0] 26)) 41 #[.func (.func 18) #[] #[.pointer (some ⟨w2.heap.size + 1, 0, none⟩), .pointer (some ⟨w2.heap.size, 0, none⟩)]]).alloc (.cells #[.func (.func 19) #[] #[.pointer (some ⟨w2.heap.size, 0, none⟩), .pointer (some ⟨w2.heap.size + 1, 0, none⟩), .pointer (some ⟨w2.heap.size + 2, 0, none⟩)]] 42)
      simpa using this
    · have := Blk.new (((w2.alloc (.cells #[.slice A1 b.length k1] 23)).alloc (.cells #[.int .i64 0] 26)).alloc (.cells #[.func (.func 18) #[] #[.pointer (some ⟨w2.heap.size + 1, 0, none⟩), .pointer (some ⟨w2.heap.size, 0, none⟩)]] 41)) 42 #[.func (.func 19) #[] #[.pointer (some ⟨w2.heap.size, 0, none⟩), .pointer (some ⟨w2.heap.size + 1, 0, none⟩), .pointer (some ⟨w2.heap.size + 2, 0, none⟩)]]
      simpa using this
  have hgG : gr < G := by
    obtain ⟨v, h, _⟩ := HRS.out
    rw [hG]; exact h.lt
  have hgw : w.heap.size ≤ gr := Nat.le_trans hk1.size hgr
  have HJ : Hid (JS W W gr G) := Lib.hid ⟨b, 0, HRS.out.keep hkW (by simp) (by simp), hCS, by omega, Keep.refl _ _⟩
  have HKW := Lib.hid hKW
  clear hW hG hkW hKW hCS HRS hk1 hk2 hgr A
  go_loopw [35] (fun i wr => ∃ j : Nat, j ≤ acts.length ∧ i = .int .i64 j ∧ JS W wr gr G) (fun i _ => acts.length - (intOf i).toNat)
  case atStart => exact ⟨0, by omega, rfl, HJ.out⟩
  case round =>
    obtain ⟨j, hj, rfl, hJ⟩ := hrel
    have HJR := Lib.hid hJ
    clear hJ
    have hargs : ∀ (k : IntKind) (v : Value) (x : List Int), Sl k w v x → ∀ w', JS W w' gr G → Sl k w' v x := by
      intro k v x hs w' hj'
      obtain ⟨_, _, _, _, _, hk⟩ := hj'
      exact (hs.keep0 HKW.out).keep hk (fun hl b hb hm => by
        have := hs.lt hl b hb
        simp at hm
        omega)
    have HARGS := Lib.hid hargs
    clear hargs
    by_cases hgo : j < acts.length ∧ j < 60
    · obtain ⟨hlt, h60⟩ := hgo
      obtain ⟨b2, o2, c2', e2, _, _, hc2⟩ := (HARGS.out _ _ _ H2.out _ HJR.out).cells (by omega)
      simp only [Value.slice.injEq, true_and] at e2
      obtain ⟨rfl, rfl⟩ := e2
      have hcell := hc2 j hlt
      have hwf := wf_u8 (wf_getD H2.out.wf j hlt)
      generalize acts[j]?.getD 0 = a at *
      obtain ⟨ha0, ha1⟩ := hwf
      clear hc2
      go_upto_if 45 with fail
      go_cut [16] (fun s16 wc => ∃ k : Int, s16 = .int .i64 k ∧ -9223372036854775808 ≤ k ∧ k ≤ 9223372036854775807 ∧ wc = wr)
      case first =>
        by_cases hn : j < ns.length
        · obtain ⟨b3, o3, c3', e3, _, _, hc3⟩ := (HARGS.out _ _ _ H3.out _ HJR.out).cells (by omega)
          simp only [Value.slice.injEq, true_and] at e3
          obtain ⟨rfl, rfl⟩ := e3
          have hcell3 := hc3 j hn
          have hwf3 := wf_i64 (wf_getD H3.out.wf j hn)
          generalize ns[j]?.getD 0 = k at *
          clear hc3
          go_wp2
          go_meet
          case rel => exact ⟨k, rfl, hwf3.1, hwf3.2, rfl⟩
        · go_wp2
          go_meet
          case rel => exact ⟨3, rfl, by omega, by omega, rfl⟩
      case rest =>
        obtain ⟨k, rfl, hk0, hk1, rfl⟩ := hcut
        go_upto_block 2 with fail
        go_cut [51] (fun _ wc => JS W wc gr G)
        case first =>
          obtain ⟨l, e, hR, hC, hl200, hKr⟩ := HJR.out
          have HR := Lib.hid hR
          have HC := Lib.hid hC
          have HK := Lib.hid hKr
          have c2 := hC.ff.cell 0
          have c3 := hC.tf.cell 0
          have c1 : wc.cell? ⟨G + 1, 0, none⟩ = some (.int .i64 e) := hC.want.cell 0
          simp at c2 c3
          clear hR hC hKr HARGS hcell
          have hm7 : a % 8 = 0 ∨ a % 8 = 1 ∨ a % 8 = 2 ∨ a % 8 = 3 ∨ a % 8 = 4 ∨ a % 8 = 5 ∨ a % 8 = 6 ∨ a % 8 = 7 := by omega
          by_cases hm01 : a % 8 = 0 ∨ a % 8 = 1
          · have I1 := Lib.hid (rInt wc.drew HR.out.drew)
            have I2 := fun w5 (h : CS w5 G l e) => Lib.hid (cTake w5 h)
            have hln := sTake_length l e
            generalize sTake l e = t at *
            obtain ⟨N, L, E⟩ := t
            simp only at I1 I2 hln
            clear hm7
            rcases hm01 with hm | hm
            all_goals
              go_wp2_with fail
              go_region_with (first
                | (go_at_call 22; with_reducible refine I1.out.mono ?_; rintro r w5 ⟨rfl, hr5, hk5⟩; have HR5 := Lib.hid hr5; have HC5 := Lib.hid (cs_after HC.out.drew HR.out.drew hk5 hgG); have c3' := HC5.out.tf.cell 0; simp at c3'; clear hr5)
                | (go_at_call 19; with_reducible refine (I2 w5 HC5.out).out.mono ?_; rintro r w6 ⟨rfl, hc6, hk6⟩; have HC6 := Lib.hid hc6; clear hc6))
              all_goals
                go_simp
                go_wp2_with fail
                go_meet
                case rel => exact ⟨L, E, rs_after HR5.out HC5.out hk6 hgG, HC6.out, by omega, (HK.out.drew.trans' hk5 (by simp)).trans' hk6 (by simp)⟩
          by_cases hm : a % 8 = 2
          · obtain ⟨vl, hvl, hsl⟩ := HC.out.left
            obtain ⟨Ax, cx, rfl⟩ := sl_form hsl
            have c0 : wc.cell? ⟨G, 0, none⟩ = some (.slice Ax l.length cx) := hvl.cell 0
            have I1 := Lib.hid (cTake wc HC.out)
            have hln := sTake_length l e
            clear hm7 hm01 hvl hsl
            by_cases hok : e = 0 ∧ tkS l ≠ 0
            · obtain ⟨rfl, hts⟩ := hok
              have hst : sTake l 0 = (tkN l, l.drop (tkS l), 0) := by simp [sTake, hts]
              have hle := tkS_le l
              have hsub : (l.length : Int) - ((l.drop (tkS l)).length : Int) = (tkS l : Int) := by rw [List.length_drop]; omega
              rw [hst] at I1
              have hLs : sLeast l 0 = if (tkS l : Int) = vlen (tkN l) then (tkN l, l.drop (tkS l), 0) else (0, [], 4) := by
                unfold sLeast
                rw [if_neg (fun h => h rfl), if_neg hts]
              have I3 := fun w5 (h : RS w5 gr l 0) => Lib.hid (rLeast w5 h)
              rw [hLs] at I3
              have hln2 : (l.drop (tkS l)).length ≤ l.length := by simp
              clear hst hLs hln hts hle
              generalize l.drop (tkS l) = L at *
              generalize tkN l = N at *
              generalize (tkS l : Int) = S at *
              have LN := fun w => Lib.hid (rlen_same N w)
              generalize vlen N = V at *
              go_wp2_with (go_at_call 19; with_reducible refine I1.out.mono ?_; rintro r w5 ⟨rfl, hc5, hk5⟩; obtain ⟨vl5, hvl5, hsl5⟩ := hc5.left; obtain ⟨A5, x5, rfl⟩ := sl_form hsl5; have c05 := hvl5.cell 0; have c15 := hc5.want.cell 0; have c25 := hc5.ff.cell 0; simp at c05 c15 c25; have HC5 := Lib.hid hc5; clear hc5 hvl5 hsl5)
              have hb1 : (0 : Int) ≤ (l.length : Int) - (L.length : Int) := by omega
              by_cases hv : S = V
              · rw [if_pos hv] at I3
                have hvb : (S != V) = false := by simpa using hv
                have HSUB := Lib.hid hsub
                clear hv
                go_quiet ((go_at_call 10; exact Calls.quiet_of_same ((LN _).out)))
                have I4 := fun n => Lib.hid ((I3 _ ((rs_after HR.out HC.out hk5 hgG).drewN n)).out)
                go_wp2_with (go_at_call 23; with_reducible refine (I4 _).out.mono ?_; rintro r w6 ⟨rfl, hr6, hk6⟩; have HR6 := Lib.hid hr6; clear hr6)
                go_meet
                case rel => exact ⟨L, 0, HR6.out, cs_after (HC5.out.drewN _) ((rs_after HR.out HC.out hk5 hgG).drewN _) hk6 hgG, by omega, ((HK.out.trans' hk5 (by simp)).drewN _).trans' hk6 (by simp)⟩
              · rw [if_neg hv] at I3
                have hvb : (S != V) = true := by simpa using hv
                clear hv
                go_quiet ((go_at_call 10; exact Calls.quiet_of_same ((LN _).out)))
                have hsf : sFail L 0 4 = ([], 4) := by simp [sFail]
                have I4 := fun n => cFail _ (HC5.out.drewN n) (show (4 : Int) ≠ 0 by decide)
                simp only [hsf] at I4
                have I5 := fun n => Lib.hid (I4 n)
                clear I4 hsf
                go_wp2_with (first
                  | (go_at_call 18; with_reducible refine (I5 _).out.mono ?_; rintro r w6 ⟨rfl, hc6, hk6⟩; have HC6 := Lib.hid hc6; have HR6 := Lib.hid (rs_after ((rs_after HR.out HC.out hk5 hgG).drewN _) (HC5.out.drewN _) hk6 hgG); clear hc6)
                  | (go_at_call 23; with_reducible refine (I3 w6 HR6.out).out.mono ?_; rintro r w7 ⟨rfl, hr7, hk7⟩; have HR7 := Lib.hid hr7; clear hr7))
                go_meet
                case rel => exact ⟨[], 4, HR7.out, cs_after HC6.out HR6.out hk7 hgG, by simp, (((HK.out.trans' hk5 (by simp)).drewN _).trans' hk6 (by simp)).trans' hk7 (by simp)⟩
            · obtain ⟨hz, hE, hLs⟩ := sTake_no hok
              have I3 := fun w5 (h : RS w5 gr l e) => Lib.hid (rLeast w5 h)
              rw [hLs] at I3
              generalize sTake l e = t at *
              obtain ⟨N, L, E⟩ := t
              simp only at I1 I3 hz hE hln
              subst hz
              have hEb : (E == 0) = false := by simpa using hE
              clear hLs hok hE
              go_wp2_with (go_at_call 19; with_reducible refine I1.out.mono ?_; rintro r w5 ⟨rfl, hc5, hk5⟩; have c15 := hc5.want.cell 0; simp at c15; have HC5 := Lib.hid hc5; clear hc5)
              go_quiet (fail)
              have I4 := fun n => Lib.hid ((I3 _ ((rs_after HR.out HC.out hk5 hgG).drewN n)).out)
              go_wp2_with (go_at_call 23; with_reducible refine (I4 _).out.mono ?_; rintro r w6 ⟨rfl, hr6, hk6⟩; have HR6 := Lib.hid hr6; clear hr6)
              go_meet
              case rel => exact ⟨L, E, HR6.out, cs_after (HC5.out.drewN _) ((rs_after HR.out HC.out hk5 hgG).drewN _) hk6 hgG, by omega, ((HK.out.trans' hk5 (by simp)).drewN _).trans' hk6 (by simp)⟩
          by_cases hm : a % 8 = 3
          · have I1 := Lib.hid (rCount wc HR.out hk0 hk1)
            have I2 := fun w5 (h : CS w5 G l e) => Lib.hid (cCount w5 h hk0 hk1)
            have hln := sCount_length k l e
            generalize sCount k l e = t at *
            obtain ⟨N, L, E⟩ := t
            simp only at I1 I2 hln
            clear hm7 hm01
            go_wp2_with (first
              | (go_at_call 24; with_reducible refine I1.out.mono ?_; rintro r w5 ⟨rfl, hr5, hk5⟩; have HR5 := Lib.hid hr5; have HC5 := Lib.hid (cs_after HC.out HR.out hk5 hgG); clear hr5)
              | (go_at_call 20; with_reducible refine (I2 w5 HC5.out).out.mono ?_; rintro r w6 ⟨rfl, hc6, hk6⟩; have HC6 := Lib.hid hc6; clear hc6))
            go_meet
            case rel => exact ⟨L, E, rs_after HR5.out HC5.out hk6 hgG, HC6.out, by omega, (HK.out.trans' hk5 (by simp)).trans' hk6 (by simp)⟩
          by_cases hm : a % 8 = 4
          · have I1 := Lib.hid (rBytes (k := k) wc.drew HR.out.drew (by omega))
            have I2 := fun w5 (h : CS w5 G l e) => Lib.hid (cBytes (k := k) w5 h)
            have hln := sNext_length2 k l e
            generalize sNext k l e = t at *
            obtain ⟨X, L, E⟩ := t
            simp only at I1 I2 hln
            clear hm7 hm01
            go_wp2_with fail
            go_region_with (first
              | (go_at_call 25; with_reducible refine I1.out.mono ?_; rintro r w5 ⟨v5, rfl, hs5, hr5, hk5⟩; have HR5 := Lib.hid hr5; have HS5 := Lib.hid hs5; have HC5 := Lib.hid (cs_after HC.out.drew HR.out.drew hk5 hgG); have q5 := run_bytes_str (P := Tryd.prog) hs5 Tryd.underlying23 Tryd.underlying5 Tryd.underlying9; clear hr5 hs5)
              | (go_at_call 21; with_reducible refine (I2 w5 HC5.out).out.mono ?_; rintro r w6 ⟨v6, rfl, hs6, hc6, hk6⟩; have HC6 := Lib.hid hc6; have q6 := run_bytes_str (P := Tryd.prog) hs6 Tryd.underlying23 Tryd.underlying5 Tryd.underlying9; have q56 := run_bytes_str (P := Tryd.prog) (sl_after HS5.out HC5.out hk6) Tryd.underlying23 Tryd.underlying5 Tryd.underlying9; clear hc6 hs6))
            all_goals
              go_simp
              go_wp2_with fail
              go_meet
              case rel => exact ⟨L, E, rs_after HR5.out HC5.out hk6 hgG, HC6.out, by omega, (HK.out.drew.trans' hk5 (by simp)).trans' hk6 (by simp)⟩
          by_cases hm : a % 8 = 5
          · have I1 := Lib.hid (cBytes (k := 1) wc HC.out)
            have I2 := fun w5 (h : RS w5 gr l e) => Lib.hid (rByte w5 h)
            have hln := sNext_length2 1 l e
            unfold sByte at I2
            generalize sNext 1 l e = t at *
            obtain ⟨X, L, E⟩ := t
            simp only at I1 I2 hln
            clear hm7 hm01
            go_wp2_with fail
            refine I1.out.mono ?_
            rintro r w5 ⟨v5, rfl, hs5, hc5, hk5⟩
            have HC5 := Lib.hid hc5
            have HR5 := Lib.hid (rs_after HR.out HC.out hk5 hgG)
            by_cases hX : X.length = 1
            · rw [if_pos hX] at I2
              obtain ⟨b5, o5, x5, rfl, _, _, hcx⟩ := hs5.cells (by omega)
              have hx0 := hcx 0 (by omega)
              simp only [Nat.add_zero] at hx0
              rw [hX]
              generalize X[0]?.getD 0 = x at *
              clear hs5 hc5 hcx hX
              go_wp2_with (go_at_call 26; with_reducible refine (I2 w5 HR5.out).out.mono ?_; rintro r w6 ⟨rfl, hr6, hk6⟩; have HR6 := Lib.hid hr6; clear hr6)
              go_meet
              case rel => exact ⟨L, E, HR6.out, cs_after HC5.out HR5.out hk6 hgG, by omega, (HK.out.trans' hk5 (by simp)).trans' hk6 (by simp)⟩
            · rw [if_neg hX] at I2
              obtain ⟨A5, x5, rfl⟩ := sl_form hs5
              have hXb : ((X.length : Int) == 1) = false := by simp; omega
              clear hs5 hc5 hX
              go_wp2_with (go_at_call 26; with_reducible refine (I2 w5 HR5.out).out.mono ?_; rintro r w6 ⟨rfl, hr6, hk6⟩; have HR6 := Lib.hid hr6; clear hr6)
              go_meet
              case rel => exact ⟨L, E, HR6.out, cs_after HC5.out HR5.out hk6 hgG, by omega, (HK.out.trans' hk5 (by simp)).trans' hk6 (by simp)⟩
          by_cases hm : a % 8 = 6
          · have I1 := Lib.hid (rLong (k := k) wc.drew HR.out.drew (by omega) hk0 hk1)
            have I2 := fun w5 (h : CS w5 G l e) => Lib.hid (cCount (k := k) w5 h hk0 hk1)
            have hln := sCount_length k l e
            unfold sLong at I1
            generalize sCount k l e = t at *
            obtain ⟨N, L1, E1⟩ := t
            simp only at I1 I2 hln
            have I3 := fun w6 (h : CS w6 G L1 E1) => Lib.hid (cBytes (k := N) w6 h)
            have hln2 := sNext_length2 N L1 E1
            generalize sNext N L1 E1 = t at *
            obtain ⟨X, L, E⟩ := t
            simp only at I1 I3 hln2
            clear hm7 hm01
            go_wp2_with fail
            go_region_with (first
              | (go_at_call 27; with_reducible refine I1.out.mono ?_; rintro r w5 ⟨v5, rfl, hs5, hr5, hk5⟩; have HR5 := Lib.hid hr5; have HS5 := Lib.hid hs5; have HC5 := Lib.hid (cs_after HC.out.drew HR.out.drew hk5 hgG); have q5 := run_bytes_str (P := Tryd.prog) hs5 Tryd.underlying23 Tryd.underlying5 Tryd.underlying9; clear hr5 hs5)
              | (go_at_call 20; with_reducible refine (I2 w5 HC5.out).out.mono ?_; rintro r w6 ⟨rfl, hc6, hk6⟩; have HC6 := Lib.hid hc6; have HS6 := Lib.hid (sl_after HS5.out HC5.out hk6); have q6 := run_bytes_str (P := Tryd.prog) HS6.out Tryd.underlying23 Tryd.underlying5 Tryd.underlying9; clear hc6)
              | (go_at_call 21; with_reducible refine (I3 w6 HC6.out).out.mono ?_; rintro r w7 ⟨v7, rfl, hs7, hc7, hk7⟩; have HC7 := Lib.hid hc7; have q7 := run_bytes_str (P := Tryd.prog) hs7 Tryd.underlying23 Tryd.underlying5 Tryd.underlying9; have q57 := run_bytes_str (P := Tryd.prog) (sl_after HS6.out HC6.out hk7) Tryd.underlying23 Tryd.underlying5 Tryd.underlying9; clear hc7 hs7))
            all_goals
              go_simp
              go_wp2_with fail
              go_meet
              case rel => exact ⟨L, E, rs_after (rs_after HR5.out HC5.out hk6 hgG) HC6.out hk7 hgG, HC7.out, by omega, ((HK.out.drew.trans' hk5 (by simp)).trans' hk6 (by simp)).trans' hk7 (by simp)⟩
          have hm : a % 8 = 7 := by omega
          by_cases ha : a = 255
          · subst ha
            have I1 := Lib.hid (rFail wc HR.out (show (5 : Int) ≠ 0 by decide))
            have I2 := fun w5 (h : CS w5 G l e) => Lib.hid (cFail w5 h (show (5 : Int) ≠ 0 by decide))
            have hln : (sFail l e 5).1.length ≤ l.length := by unfold sFail; split <;> simp
            generalize sFail l e 5 = t at *
            obtain ⟨L, E⟩ := t
            simp only at I1 I2 hln
            clear hm7 hm01 hm
            go_wp2_with (first
              | (go_at_call 28; with_reducible refine I1.out.mono ?_; rintro r w5 ⟨rfl, hr5, hk5⟩; have HR5 := Lib.hid hr5; have HC5 := Lib.hid (cs_after HC.out HR.out hk5 hgG); have c25 := HC5.out.ff.cell 0; simp at c25; clear hr5)
              | (go_at_call 18; with_reducible refine (I2 w5 HC5.out).out.mono ?_; rintro r w6 ⟨rfl, hc6, hk6⟩; have HC6 := Lib.hid hc6; clear hc6))
            go_meet
            case rel => exact ⟨L, E, rs_after HR5.out HC5.out hk6 hgG, HC6.out, by omega, (HK.out.trans' hk5 (by simp)).trans' hk6 (by simp)⟩
          · have hab : (a == 255) = false := by simpa using ha
            clear hm7 hm01 ha
            go_wp2
            go_meet
            case rel => exact ⟨l, e, HR.out, HC.out, hl200, HK.out⟩
        case rest =>
          obtain ⟨l, e, hR, hC, hl200, hKr⟩ := hcut
          obtain ⟨vl, hvl, hsl⟩ := hC.left
          obtain ⟨Ax, cx, rfl⟩ := sl_form hsl
          have c0 := hvl.cell 0
          have c1 := hC.want.cell 0
          simp at c0 c1
          have I1 := fun n => Lib.hid ((rErr (wc.drewN n) (hR.drewN n)).mono fun _ _ ⟨h1, h2⟩ => (⟨h1, h2.symm⟩ : _ ∧ _))
          have I2 := fun n => Lib.hid ((rLeft (wc.drewN n) (hR.drewN n)).mono fun _ _ ⟨h1, h2⟩ => (⟨h1, h2.symm⟩ : _ ∧ _))
          have HJ2 := fun n => Lib.hid (show JS W (wc.drewN n) gr G from ⟨l, e, hR.drewN n, hC.drewN n, hl200, hKr.drewN n⟩)
          clear hR hC hKr hvl hsl HARGS hcell
          go_wp2_with fail
          go_quiet (first
            | (go_at_call 29; exact Calls.quiet_of_same ((I1 _).out))
            | (go_at_call 30; exact Calls.quiet_of_same ((I2 _).out)))
          go_wp2_with fail
          go_roundw
          case rel => exact ⟨j + 1, by omega, by go_num, (HJ2 _).out⟩
          case measure => simp [intOf]; omega
    · obtain ⟨l, e, hR, hC, hl200, hKr⟩ := HJR.out
      have hnil := hC.stop
      have HR := Lib.hid hR
      have HC := Lib.hid hC
      have HK := Lib.hid hKr
      obtain ⟨vl, hvl, hsl⟩ := hC.left
      obtain ⟨Ax, cx, rfl⟩ := sl_form hsl
      have c0 := hvl.cell 0
      have c1 := hC.want.cell 0
      have c2 := hC.ff.cell 0
      simp at c0 c1 c2
      clear hR hC hKr hvl hsl
      have hdone : (∀ wf, Keep [gr, G, G + 1] W wf → Keep [] w wf) := fun wf hk => HKW.out.trans' hk (by intro g hg; right; simp at hg; omega)
      have HD := Lib.hid hdone
      clear hdone
      have hend : ¬ j < acts.length ∨ (j < acts.length ∧ 60 ≤ j) := by omega
      by_cases hs : e = 0 ∧ 0 < l.length
      · obtain ⟨rfl, hl⟩ := hs
        have hsf : sFail l 0 24 = ([], 24) := by simp [sFail]
        have I1 := cFail wr HC.out (show (24 : Int) ≠ 0 by decide)
        rw [hsf] at I1
        have hse : sEnd [] 24 = ([], 24) := by simp [sEnd]
        have hse0 : sEnd l 0 = ([], 24) := by simp [sEnd, hl, hsf]
        have I1 := Lib.hid I1
        have I2 := fun w5 (h : RS w5 gr l 0) => rEnd w5 h
        rw [hse0] at I2
        have I2 := fun w5 (h : RS w5 gr l 0) => Lib.hid (I2 w5 h)
        have I3 := fun w5 (h : RS w5 gr [] 24) => Lib.hid (rLeft w5 h)
        clear hsf hse hse0 hnil
        rcases hend with hend | ⟨hend, h60⟩
        · clear HARGS
          go_wp2_with (go_at_call 18; with_reducible refine I1.out.mono ?_; rintro r w5 ⟨rfl, hc5, hk5⟩; have HC5 := Lib.hid hc5; have HR5 := Lib.hid (rs_after HR.out HC.out hk5 hgG); have c15 := hc5.want.cell 0; simp at c15; clear hc5)
          go_region_with (first
            | (go_at_call 31; with_reducible refine (I2 _ HR5.out.drew).out.mono ?_; rintro r w6 ⟨rfl, hr6, hk6⟩; have HR6 := Lib.hid hr6; have c16 := (cs_after HC5.out.drew HR5.out.drew hk6 hgG).want.cell 0; simp at c16; clear hr6)
            | (go_at_call 30; with_reducible refine (I3 _ HR6.out).out.mono ?_; rintro r w7 ⟨rfl, rfl⟩))
          all_goals
            go_simp
            go_wp2_with fail
            go_ret
            exact ⟨rfl, HD.out _ ((HK.out.trans' hk5 (by simp)).drew.trans' hk6 (by simp))⟩
        · obtain ⟨b2, o2, c2', e2, _, _, hc2⟩ := (HARGS.out _ _ _ H2.out _ HJR.out).cells (by omega)
          simp only [Value.slice.injEq, true_and] at e2
          obtain ⟨rfl, rfl⟩ := e2
          have hcell := hc2 j hend
          generalize acts[j]?.getD 0 = a at *
          clear hc2 HARGS
          go_wp2_with (go_at_call 18; with_reducible refine I1.out.mono ?_; rintro r w5 ⟨rfl, hc5, hk5⟩; have HC5 := Lib.hid hc5; have HR5 := Lib.hid (rs_after HR.out HC.out hk5 hgG); have c15 := hc5.want.cell 0; simp at c15; clear hc5)
          go_region_with (first
            | (go_at_call 31; with_reducible refine (I2 _ HR5.out.drew).out.mono ?_; rintro r w6 ⟨rfl, hr6, hk6⟩; have HR6 := Lib.hid hr6; have c16 := (cs_after HC5.out.drew HR5.out.drew hk6 hgG).want.cell 0; simp at c16; clear hr6)
            | (go_at_call 30; with_reducible refine (I3 _ HR6.out).out.mono ?_; rintro r w7 ⟨rfl, rfl⟩))
          all_goals
            go_simp
            go_wp2_with fail
            go_ret
            exact ⟨rfl, HD.out _ ((HK.out.trans' hk5 (by simp)).drew.trans' hk6 (by simp))⟩
      · have hl0 : l = [] := by
          by_cases he : e = 0
          · exact List.length_eq_zero_iff.1 (by omega)
          · exact hnil he
        subst hl0
        have hse : sEnd [] e = ([], e) := by simp [sEnd]
        have I2 := fun w5 (h : RS w5 gr [] e) => rEnd w5 h
        rw [hse] at I2
        have I2 := fun w5 (h : RS w5 gr [] e) => Lib.hid (I2 w5 h)
        have I3 := fun w5 (h : RS w5 gr [] e) => Lib.hid (rLeft w5 h)
        simp at c0
        clear hse hnil hs
        have hee : (e == e) = true := by simp
        rcases hend with hend | ⟨hend, h60⟩
        · clear HARGS
          by_cases he : e = 0
          · subst he
            go_wp2_with fail
            go_region_with (first
              | (go_at_call 31; with_reducible refine (I2 _ HR.out.drew).out.mono ?_; rintro r w6 ⟨rfl, hr6, hk6⟩; have HR6 := Lib.hid hr6; have c16 := (cs_after HC.out.drew HR.out.drew hk6 hgG).want.cell 0; simp at c16; clear hr6)
              | (go_at_call 30; with_reducible refine (I3 _ HR6.out).out.mono ?_; rintro r w7 ⟨rfl, rfl⟩))
            all_goals
              go_simp
              go_wp2_with fail
              go_ret
              exact ⟨rfl, HD.out _ (HK.out.drew.trans' hk6 (by simp))⟩
          · have heb : (e == 0) = false := by simpa using he
            go_wp2_with fail
            go_region_with (first
              | (go_at_call 31; with_reducible refine (I2 _ HR.out.drew).out.mono ?_; rintro r w6 ⟨rfl, hr6, hk6⟩; have HR6 := Lib.hid hr6; have c16 := (cs_after HC.out.drew HR.out.drew hk6 hgG).want.cell 0; simp at c16; clear hr6)
              | (go_at_call 30; with_reducible refine (I3 _ HR6.out).out.mono ?_; rintro r w7 ⟨rfl, rfl⟩))
            all_goals
              go_simp
              go_wp2_with fail
              go_ret
              exact ⟨rfl, HD.out _ (HK.out.drew.trans' hk6 (by simp))⟩
        · obtain ⟨b2, o2, c2', e2, _, _, hc2⟩ := (HARGS.out _ _ _ H2.out _ HJR.out).cells (by omega)
          simp only [Value.slice.injEq, true_and] at e2
          obtain ⟨rfl, rfl⟩ := e2
          have hcell := hc2 j hend
          generalize acts[j]?.getD 0 = a at *
          clear hc2 HARGS
          by_cases he : e = 0
          · subst he
            go_wp2_with fail
            go_region_with (first
              | (go_at_call 31; with_reducible refine (I2 _ HR.out.drew).out.mono ?_; rintro r w6 ⟨rfl, hr6, hk6⟩; have HR6 := Lib.hid hr6; have c16 := (cs_after HC.out.drew HR.out.drew hk6 hgG).want.cell 0; simp at c16; clear hr6)
              | (go_at_call 30; with_reducible refine (I3 _ HR6.out).out.mono ?_; rintro r w7 ⟨rfl, rfl⟩))
            all_goals
              go_simp
              go_wp2_with fail
              go_ret
              exact ⟨rfl, HD.out _ (HK.out.drew.trans' hk6 (by simp))⟩
          · have heb : (e == 0) = false := by simpa using he
            go_wp2_with fail
            go_region_with (first
              | (go_at_call 31; with_reducible refine (I2 _ HR.out.drew).out.mono ?_; rintro r w6 ⟨rfl, hr6, hk6⟩; have HR6 := Lib.hid hr6; have c16 := (cs_after HC.out.drew HR.out.drew hk6 hgG).want.cell 0; simp at c16; clear hr6)
              | (go_at_call 30; with_reducible refine (I3 _ HR6.out).out.mono ?_; rintro r w7 ⟨rfl, rfl⟩))
            all_goals
              go_simp
              go_wp2_with fail
              go_ret
              exact ⟨rfl, HD.out _ (HK.out.drew.trans' hk6 (by simp))⟩


theorem vintReads_long (v1 : Value) (b : List Int) (v2 : Value) (v3 : Value) (w : World) (ht : Tabs w) (h1 : Sl .u8 w v1 b) (hb : ¬ b.length ≤ 200) :
    Calls Tryd.prog 5 #[v1, v2, v3] w fun e w' => e = .returned (.bool true) ∧ Keep [] w w' := by
  have A := Lib.hid (awake_any w ht)
  obtain ⟨A1, k1, rfl⟩ := sl_form h1
  generalize b.length = m at *
  clear ht h1
  go_enter Tryd.func5, Tryd.ntmps5
  go_wp2_with (go_at_call 8; with_reducible refine A.out.mono ?_; rintro e w1 ⟨rfl, hk1⟩)
  go_ret
  exact ⟨rfl, hk1⟩

theorem vintReads_walk (v1 : Value) (b : List Int) (v2 : Value) (acts : List Int) (v3 : Value) (ns : List Int) (w : World) (ht : Tabs w) (h1 : Sl .u8 w v1 b) (h2 : Sl .u8 w v2 acts) (h3 : Sl .i64 w v3 ns) :
    Calls Tryd.prog 5 #[v1, v2, v3] w fun e w' => e = .returned (.bool true) ∧ Keep [] w w' := by
  by_cases hb : b.length ≤ 200
  · exact vintReads_main v1 b v2 acts v3 ns w ht h1 h2 h3 hb
  · exact vintReads_long v1 b v2 v3 w ht h1 hb

end Go.Proofs.YtaifocfnkhgpoaaDoor
