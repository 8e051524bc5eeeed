/-
  The document's answers to Label and Derive.
-/
import Derived.Test.YtiiifcfgfmoiaaaRKdf
import Derived.Lib.AppendStr
namespace Go.Proofs.Ytiiifcfgfmoiaaa
open Go.RowKit

/-- A string's bytes as numbers. -/
def sby (s : ByteArray) : List Int := s.data.toList.map fun b => ((b.toNat : Nat) : Int)
theorem sby_length (s : ByteArray) : (sby s).length = s.size := by rw [sby, List.length_map, Array.length_toList]; rfl
theorem sby_cells (s : ByteArray) : Lib.strCells s = (sby s).map (Value.int .u8) := by simp [Lib.strCells, sby]
theorem sby_wf (s : ByteArray) : ∀ x ∈ sby s, (Lit.int .u8 x).wf = true := by
  intro x hx
  simp only [sby, List.mem_map] at hx
  obtain ⟨b, _, rfl⟩ := hx
  have := b.toNat_lt
  exact u8_wf (by omega) (by omega)

theorem wl_append_str {P : Program} (w : World) {ops : Array Oper} {rest : List Oper} {o : Oper} {a : Act} {Q : Exit → Act → World → Prop} (hgd : o.guard = none) (s x : Operand) (t u : TypeId)
    (ho : o.op = .call { callee := .builtin .append, args := #[s, x], argTypes := #[t, u] })
    (base : Nat) (e : TypeId) (ht : P.underlying t = some (.slice e)) (hu : P.underlying u = some .string) (hinfo : (P.info? e).map (fun i => (i.zero, i.size, i.bytes)) = some (some (.int .u8 0), 1, 1))
    (v : Value) (n : Nat) (xs : List Value) (hs : a.eval s = v) (hown : w.ownsRow base e 1 v n xs) (str : ByteArray) (hx : a.eval x = .string str)
    (h63 : n + str.size ≤ maxLen) (hbytes : n + str.size ≤ 140737488355328) (hbase : base ≤ w.heap.size)
    (h : ∀ v' w', w'.ownsRow base e 1 v' (n + str.size) (xs ++ (sby str).map (Value.int .u8)) → Keep v.ownBlock.toList w w' → wpList P ops Q rest (a.put o.dst v') w') :
    wpList P ops Q (o :: rest) a w := by
  refine wpList_plain hgd fun K hK => ?_
  obtain ⟨i, hi, hz, hsz, hb⟩ := info_parts hinfo
  obtain ⟨v', w', hrun, h2, h3, _⟩ := Lib.run_append_own_string (P := P) w base t u o.type e i ht hu hi hz hsz hb v n xs hown str h63 hbytes hbase
  rw [sby_cells] at h2
  unfold Oper.wp execOp
  simp only [ho, resolve, invoke, builtin, Sem.run_bind, Sem.run_pure, Result.andThen_ok, List.map_toArray, List.map_cons, List.map_nil, hs, hx, hrun]
  exact hK _ _ (h v' w' h2 (Keep.of_grown h3))

namespace Sha
/-- What a label stands for. -/
def about (label context : List Int) (many : Nat) : List Int :=
  [((many / 256 % 256 : Nat) : Int), ((many % 256 : Nat) : Int), (((6 + label.length) % 256 : Nat) : Int), 116, 108, 115, 49, 51, 32] ++ label ++ [((context.length % 256 : Nat) : Int)] ++ context
def label (s lab context : List Int) (many : Nat) : List Int := expand s (about lab context many) many
end Sha

theorem about_wf {lab : ByteArray} {cl : List Int} {many : Nat} (hc : ∀ x ∈ cl, (Lit.int .u8 x).wf = true) : ∀ x ∈ Sha.about (sby lab) cl many, (Lit.int .u8 x).wf = true := by
  intro x hx
  unfold Sha.about at hx
  rcases List.mem_append.1 hx with hx | hx
  · rcases List.mem_append.1 hx with hx | hx
    · rcases List.mem_append.1 hx with hx | hx
      · rcases List.mem_cons.1 hx with rfl | hx
        · exact u8_wf (by omega) (by omega)
        rcases List.mem_cons.1 hx with rfl | hx
        · exact u8_wf (by omega) (by omega)
        rcases List.mem_cons.1 hx with rfl | hx
        · exact u8_wf (by omega) (by omega)
        · exact (show ∀ y ∈ ([116, 108, 115, 49, 51, 32] : List Int), (Lit.int .u8 y).wf = true by decide) x hx
      · exact sby_wf _ x hx
    · rw [List.mem_singleton.1 hx]; exact u8_wf (by omega) (by omega)
  · exact hc x hx
theorem about_len (lab : ByteArray) (cl : List Int) (many : Nat) : (Sha.about (sby lab) cl many).length = 10 + lab.size + cl.length := by
  simp [Sha.about, sby_length]; omega

set_option maxRecDepth 100000 in
set_option maxHeartbeats 4000000 in
theorem rlabel_any (sv cv : Value) (sl cl : List Int) (lab : ByteArray) (many : Nat) (w : World) (hs : Sl .u8 w sv sl) (hc : Sl .u8 w cv cl) (hsl : sl.length ≤ 1000000) (hcl : cl.length ≤ 1000) (hla : lab.size ≤ 1000) (hm : many ≤ 100000) :
    Calls Try.prog 12 #[sv, .string lab, cv, .int .i64 many] w fun e w' => ∃ v', e = .returned v' ∧ Sl .u8 w' v' (Sha.label sl (sby lab) cl many) ∧ Keep [] w w' := by
  have HS := Lib.hid hs
  have HC := Lib.hid hc
  have HSL := Lib.hid hsl
  have HLA := Lib.hid (sby_length lab)
  obtain ⟨sA, sc, rfl, hsc1, hsc2, -, -⟩ := hs
  obtain ⟨cA, cc, rfl, hcc1, hcc2, -, -⟩ := hc
  go_enter Try.func12, Try.ntmps12
  go_upto_region 2 with fail
  obtain ⟨l3, hl3⟩ : ∃ l3 : List Int, l3 = [((many / 256 % 256 : Nat) : Int), ((many % 256 : Nat) : Int), (((6 + lab.size) % 256 : Nat) : Int)] := ⟨_, rfl⟩
  have h3l : l3.length = 3 := by rw [hl3]; rfl
  have h3w : ∀ x ∈ l3, (Lit.int .u8 x).wf = true := by
    intro x hx
    rw [hl3] at hx
    rcases List.mem_cons.1 hx with rfl | hx
    · exact u8_wf (by omega) (by omega)
    rcases List.mem_cons.1 hx with rfl | hx
    · exact u8_wf (by omega) (by omega)
    rcases List.mem_cons.1 hx with rfl | hx
    · exact u8_wf (by omega) (by omega)
    · cases hx
  have H3W := Lib.hid h3w
  obtain ⟨l9, hl9⟩ : ∃ l9 : List Int, l9 = l3 ++ [116, 108, 115, 49, 51, 32] := ⟨_, rfl⟩
  have h9l : l9.length = 9 := by rw [hl9, List.length_append, h3l]; rfl
  have H9W := Lib.hid (show ∀ x ∈ l9, (Lit.int .u8 x).wf = true by
    intro x hx
    rw [hl9] at hx
    rcases List.mem_append.1 hx with hx | hx
    · exact h3w x hx
    · exact (show ∀ y ∈ ([116, 108, 115, 49, 51, 32] : List Int), (Lit.int .u8 y).wf = true by decide) x hx)
  have H3 := Lib.hid hl3
  have H9 := Lib.hid hl9
  have H9L := Lib.hid h9l
  clear h3w h9l
  go_cut [9] (fun s9 wc => wc.ownsRow w.heap.size 5 1 s9 9 (l9.map (Value.int .u8)) ∧ Keep [] w wc)
  case first =>
    obtain ⟨W0, hW0⟩ : ∃ W0, W0 = w.alloc (.cells (l3.map (Value.int .u8)).toArray 5) := ⟨_, rfl⟩
    have hb0 : Blk W0 w.heap.size 5 (l3.map (Value.int .u8)).toArray := by rw [hW0]; exact Blk.new _ _ _
    have hk0 : Keep [] w W0 := by rw [hW0]; exact (Keep.refl _ _).alloc _
    have ho0 : W0.ownsRow w.heap.size 5 1 (.slice (some ⟨w.heap.size, 0, none⟩) 3 3) 3 (l3.map (Value.int .u8)) := own_of_blk hb0 (by simp [h3l]) (Nat.le_refl _) (by decide) (by rw [List.take_of_length_le (by simp [h3l])])
    have hcs : (#[Value.int IntKind.u8 (↑many / 256 % 256), Value.int IntKind.u8 (↑many % 256), Value.int IntKind.u8 ((6 + ↑lab.size) % 256)] : Array Value) = (l3.map (Value.int .u8)).toArray := by
      rw [hl3, show ((many / 256 % 256 : Nat) : Int) = (many : Int) / 256 % 256 by omega, show ((many % 256 : Nat) : Int) = (many : Int) % 256 by omega, show (((6 + lab.size) % 256 : Nat) : Int) = (6 + (lab.size : Int)) % 256 by omega]
      rfl
    rw [hcs, ← hW0]
    have HK0 := Lib.hid hk0
    have HO0 := Lib.hid ho0
    clear hb0 hk0 ho0 hcs hW0 hl3 hl9
    go_wp2_with (at_builtin
                 refine wl_append_str _ rfl _ _ _ _ rfl w.heap.size 5 Try.underlying24 Try.underlying9 u8infB _ 3 _ rfl HO0.out _ rfl (by decide) (by decide) HK0.out.size ?_
                 intro x1 w1 ho1 hk1
                 have HX1 := Lib.hid (show w1.ownsRow w.heap.size 5 1 x1 9 (l9.map (Value.int .u8)) by rw [H9.out, List.map_append]; exact ho1)
                 have HK1 := Lib.hid (show Keep [] w w1 from keep_own HO0.out (Nat.le_refl _) HK0.out hk1)
                 clear ho1 hk1)
    go_meet
    case rel => exact ⟨HX1.out, HK1.out⟩
  case rest =>
    obtain ⟨w9, rfl⟩ : ∃ w9, w9 = wc := ⟨_, rfl⟩
    obtain ⟨hO9, hK9⟩ := hcut
    obtain ⟨A9, c9, rfl⟩ := own_slice hO9
    have HO9 := Lib.hid hO9
    have HK9 := Lib.hid hK9
    have HAB := Lib.hid (show Sha.about (sby lab) cl many = l9 ++ sby lab ++ [((cl.length % 256 : Nat) : Int)] ++ cl by
      rw [hl9, hl3]
      unfold Sha.about
      rw [sby_length]
      rfl)
    clear hO9 hK9 hl3 hl9 h3l

    go_wp2_with (first
      | (at_builtin
         refine wl_append_str _ rfl _ _ _ _ rfl w.heap.size 5 Try.underlying24 Try.underlying9 u8infB _ 9 _ rfl HO9.out lab rfl (by simp only [maxLen]; omega) (by omega) HK9.out.size ?_
         intro x1 w1 ho1 hk1
         rw [← List.map_append] at ho1
         have HX1 := Lib.hid ho1
         have HK1 := Lib.hid (show Keep [] w w1 from keep_own HO9.out (Nat.le_refl _) HK9.out hk1)
         clear ho1 hk1
         obtain ⟨A1, c1, rfl⟩ := own_slice HX1.out)
      | (at_builtin
         refine wl_append _ rfl _ _ _ rfl w.heap.size 5 (.int .u8 0) 1 1 Try.underlying24 u8infB rfl (by decide) (.slice A1 (9 + lab.size) c1) _ _ rfl (HX1.out.alloc _) (some ⟨w1.heap.size, 0, Option.none⟩) 1 1 [.int .u8 ((cl.length : Int) % 256)] rfl rfl (Rd.one _ _ _) (by simp [Value.oneCell']) (by simp only [maxLen]; omega) (by omega) (by have := HK1.out.size; simp; omega) ?_
         intro x2 w2 ho2 hk2 hat2
         have HX2 := Lib.hid (show w2.ownsRow w.heap.size 5 1 x2 (9 + lab.size + 1) ((l9 ++ sby lab ++ [((cl.length % 256 : Nat) : Int)]).map (Value.int .u8)) by
           rw [List.map_append]; exact ho2)
         have HK2 := Lib.hid (show Keep [] w w2 from keep_own (HX1.out.alloc _) (Nat.le_refl _) (HK1.out.alloc _) hk2)
         clear ho2 hk2 hat2
         obtain ⟨A2, c2, rfl⟩ := own_slice HX2.out)
      | (at_builtin
         refine wl_append _ rfl _ _ _ rfl w.heap.size 5 (.int .u8 0) 1 1 Try.underlying24 u8infB rfl (by decide) (.slice A2 (9 + lab.size + 1) c2) _ _ rfl HX2.out cA cl.length cc (cl.map (Value.int .u8)) rfl (by simp) (HC.out.keep0 HK2.out).rd (ints_one _ _) (by simp only [maxLen]; omega) (by omega) HK2.out.size ?_
         intro x3 w3 ho3 hk3 hat3
         rw [← List.map_append] at ho3
         have HX3 := Lib.hid ho3
         have HK3 := Lib.hid (show Keep [] w w3 from keep_own HX2.out (Nat.le_refl _) HK2.out hk3)
         clear ho3 hk3 hat3)
      | (go_at_call 10
         with_reducible refine (rexpand_any (.slice sA sl.length sc) x3 sl (l9 ++ sby lab ++ [((cl.length % 256 : Nat) : Int)] ++ cl) many w3 (HS.out.keep0 HK3.out) (Sl.of_own HX3.out (by
             intro y hy
             rcases List.mem_append.1 hy with hy | hy
             · rcases List.mem_append.1 hy with hy | hy
               · rcases List.mem_append.1 hy with hy | hy
                 · exact H9W.out y hy
                 · exact sby_wf _ y hy
               · rw [List.mem_singleton.1 hy]; exact u8_wf (by omega) (by omega)
             · exact HC.out.wf y hy)) hsl (by have := H9L.out; have := HLA.out; simp; omega) hm).mono ?_
         rintro e w4 ⟨x4, rfl, hs4, hk4⟩))
    go_ret
    refine ⟨_, rfl, ?_, HK3.out.trans hk4⟩
    unfold Sha.label
    rw [HAB.out]
    exact hs4

theorem rlabel32 (sv cv : Value) (sl cl : List Int) (lab : ByteArray) (w : World) (hs : Sl .u8 w sv sl) (hc : Sl .u8 w cv cl) (hsl : sl.length ≤ 1000000) (hcl : cl.length ≤ 1000) (hla : lab.size ≤ 1000) :
    Calls Try.prog 12 #[sv, .string lab, cv, .int .i64 32] w fun e w' => ∃ v', e = .returned v' ∧ Sl .u8 w' v' (Sha.label sl (sby lab) cl 32) ∧ Keep [] w w' :=
  rlabel_any sv cv sl cl lab 32 w hs hc hsl hcl hla (by decide)

set_option maxRecDepth 100000 in
set_option maxHeartbeats 4000000 in
theorem rderive_any (sv dv : Value) (sl dl : List Int) (lab : ByteArray) (w : World) (hs : Sl .u8 w sv sl) (hd : Sl .u8 w dv dl) (hsl : sl.length ≤ 1000000) (hdl : dl.length ≤ 1000000) (hla : lab.size ≤ 1000) :
    Calls Try.prog 18 #[sv, .string lab, dv] w fun e w' => ∃ v', e = .returned v' ∧ Sl .u8 w' v' (Sha.label sl (sby lab) (Sha.sum dl) 32) ∧ Keep [] w w' := by
  have HS := Lib.hid hs
  have HSL := Lib.hid hsl
  have HSU := Lib.hid (rsum_any dv dl w hd (by omega))
  obtain ⟨sA, sc, rfl, hsc1, hsc2, -, -⟩ := hs
  obtain ⟨dA, dc, rfl, hdc1, hdc2, -, -⟩ := hd
  go_enter Try.func18, Try.ntmps18
  go_wp2_with (first
    | (go_at_call 19
       with_reducible refine HSU.out.mono ?_
       rintro e w1 ⟨x1, rfl, ho1, hk1⟩
       have HX1 := Lib.hid ho1
       have HK1 := Lib.hid hk1
       clear ho1 hk1)
    | (go_at_call 12
       with_reducible refine (rlabel32 (.slice sA sl.length sc) x1 sl (Sha.sum dl) lab w1 (HS.out.keep0 HK1.out) (Sl.of_own HX1.out (sum_wf dl)) HSL.out (by rw [sum_length]; decide) hla).mono ?_
       rintro e w2 ⟨x2, rfl, hs2, hk2⟩))
  go_ret
  exact ⟨_, rfl, hs2, HK1.out.trans hk2⟩
end Go.Proofs.Ytiiifcfgfmoiaaa
