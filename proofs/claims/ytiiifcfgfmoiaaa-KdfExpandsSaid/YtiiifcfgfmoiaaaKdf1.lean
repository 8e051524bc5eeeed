/-
  The landed kdf: New, Tables, Extract; what a nil one answers; Label's ErrSize, Expand's ErrRange.
-/
import Derived.Test.YtiiifcfgfmoiaaaKdfLaw
import Derived.Test.YtiiifcfgfmoiaaaHashD
import Derived.Test.YtiiifcfgfmoiaaaEqArr
namespace Go.Proofs.Ytiiifcfgfmoiaaa
open Go.RowKit

theorem knewC : KNewC := by
  intro w
  have SN := Lib.hid (newC w)
  go_enter Try.func8, Try.ntmps8
  go_wp2_with (first
    | (go_at_call 20; with_reducible refine SN.out.mono ?_; rintro e w1 ⟨g, rfl, hg, hT1, hk1⟩)
    | (refine wl_build rfl _ _ rfl #[.pointer (some ⟨g, 0, none⟩)] [(0, .pointer (some ⟨g, 0, none⟩))] rfl (by kernel_rfl) ?_)
    | (refine wl_box rfl _ _ rfl #[.pointer (some ⟨g, 0, none⟩)] rfl ?_; intro w2 hB2 hk2 hz2))
  go_ret
  have h1 := hT1.lt
  have h2 := hk1.size
  exact ⟨_, g, rfl, h2, hg, ⟨_, hB2, rfl, hT1.keep hk2 (by simp), by omega⟩, hk1.trans hk2⟩

theorem tablesC : TablesC := by
  intro w k t h
  obtain ⟨cs, hb, rfl, ht, hn⟩ := h
  have hc : w.cell? ⟨k, 0, none⟩ = some (.pointer (some ⟨t, 0, none⟩)) := hb.cell 0
  go_enter Try.func15, Try.ntmps15
  go_wp2_with fail
  go_ret
  exact ⟨rfl, rfl⟩

theorem sec32 : ∃ Z : Array Value, Z = (List.replicate 32 (Value.int .u8 0)).toArray ∧ Z.size = 32 ∧ (Try.prog.info? 23).map (fun i => (i.zero, i.size)) = some (some (.agg Z), 32) := ⟨_, rfl, by kernel_rfl, by kernel_rfl⟩
/-- A mark's answer, in cells. -/
theorem mark_at (w : World) (t : Nat) (kv pv : Value) (kl : List Int) (ls : List (List Int)) (D : Array Value) (hD : D = ((Sha.mark kl ls.flatten).map (Value.int .u8)).toArray) (hT : TS w t) (hk : Sl .u8 w kv kl) (hP : Pl w pv ls) (h1 : kl.length ≤ 1000000) (h2 : ls.flatten.length ≤ 1000000) (h3 : ls.length ≤ 1000000) :
    Calls Try.prog 21 #[.pointer (some ⟨t, 0, none⟩), kv, pv] w fun e w' => e = .returned (.agg D) ∧ TS w' t ∧ Keep [t] w w' := by
  have := markC w t kv pv kl ls hT hk hP h1 h2 h3
  unfold arr at this
  rw [← hD] at this
  exact this

set_option maxRecDepth 100000 in
theorem extractC : ExtractC := by
  intro w k t sv nv sl nl hK hs hn hsl hnl
  obtain ⟨Z, hZ, hZs, hZi⟩ := sec32
  have HZS := Lib.hid hZs
  have HZI := Lib.hid hZi
  obtain ⟨cs, hb, rfl, ht, hkt⟩ := hK
  have HB := Lib.hid hb
  have HT := Lib.hid ht
  have HS := Lib.hid hs
  have HN := Lib.hid hn
  have HTL := Lib.hid ht.lt
  obtain ⟨nA, nc, rfl, -, -, -, -⟩ := hn
  obtain ⟨sA, sc, rfl, -, -, -, -⟩ := hs
  obtain ⟨D, hD⟩ : ∃ D, D = ((Sha.mark sl nl).map (Value.int .u8)).toArray := ⟨_, rfl⟩
  have hDs : D.size = 32 := by rw [hD]; simp [mark_length]
  have hD1 : D.all (·.oneCell') = true := by rw [hD]; exact arr_cell _
  have HD := Lib.hid hD
  have HDS := Lib.hid hDs
  have HD1 := Lib.hid hD1
  have MK := fun w h1 h2 h3 => Lib.hid (mark_at w t (.slice sA sl.length sc) (.slice (some ⟨w.heap.size - 1, 0, none⟩) 1 1) sl [nl] D (by rw [hD]; simp) h1 h2 h3 (by omega) (by simp; omega) (by simp))
  clear hZ hZs hZi hb ht hD hDs hD1
  go_enter Try.func13, Try.ntmps13
  go_upto_region 3 with (refine wl_alloc_rowZ rfl _ rfl Z 32 HZI.out ?_; intro w1 hB1 hk1 hz1)
  have HB1 := Lib.hid hB1
  have HK1 := Lib.hid hk1
  have hc : w1.cell? ⟨k, 0, none⟩ = some (.pointer (some ⟨t, 0, none⟩)) := (HB.out.keep hk1 (by simp)).cell 0
  have M := MK (w1.alloc (.cells #[.slice nA nl.length nc] 24)) ((HT.out.keep hk1 (by simp)).keep ((Keep.refl [] w1).alloc _) (by simp)) ((HS.out.keep0 hk1).keep0 ((Keep.refl [] w1).alloc _)) (by
    have := Pl.one (Blk.new w1 24 #[.slice nA nl.length nc]) ((HN.out.keep0 hk1).keep0 ((Keep.refl [] w1).alloc _))
    simpa using this)
  rw [show (w1.alloc (.cells #[.slice nA nl.length nc] 24)).heap.size - 1 = w1.heap.size by simp] at M
  clear hB1 hk1 hz1 MK
  go_wp2_with (first
    | (go_at_call 21; with_reducible refine M.out.mono ?_; rintro e w2 ⟨rfl, hT2, hk2⟩)
    | (refine wl_store_row rfl _ _ _ rfl w.heap.size rfl D rfl _ _ ((HB1.out.alloc _).keep hk2 (by have := HTL.out; simp; omega)) (by rw [HDS.out]; kernel_rfl) (by rw [HDS.out]; exact HZS.out) HD1.out ?_; intro w3 hB3 hk3 hz3))
  (try simp only [Exit.inBlock, Exit.then])
  have hk12 : Keep [t] w w2 := (HK1.out.more0.trans ((Keep.refl [t] w1).alloc _)).trans hk2
  refine bodyPost_ret (v := .agg D) ?_ rfl ?_
  · refine results_cell_row Try.results13 _ w3 w.heap.size 23 D (0, 0) _ ?_ hB3 Try.underlying23 rfl ?_
    · rfl
    · rw [HDS.out]; kernel_rfl
  · have hlt := HTL.out
    have hkl := HB.out.lt
    have hk13 : Keep [t] w w3 := hk12.trans' hk3 (fun x hx => by right; simp at hx; omega)
    refine ⟨by rw [HD.out]; simp [arr], ⟨_, HB.out.keep hk13 (by simpa using hkt), rfl, hT2.keep hk3 (by simp; omega), hkt⟩, hk13.more (by simp)⟩
end Go.Proofs.Ytiiifcfgfmoiaaa
