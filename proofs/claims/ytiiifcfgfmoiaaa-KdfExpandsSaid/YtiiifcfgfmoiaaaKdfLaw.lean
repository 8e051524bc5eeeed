/-
  What the laws of kdf ask of its functions; the law's Awake over that.
-/
import Derived.Test.YtiiifcfgfmoiaaaRKdf2
import Derived.Test.YtiiifcfgfmoiaaaShaTS
namespace Go.Proofs.Ytiiifcfgfmoiaaa
open Go.RowKit

/-- What lies in the object's cells, its tables being those at t. -/
def KdfOk (cs : Array Value) (t : Nat) : Prop := cs = #[.pointer (some ⟨t, 0, none⟩)]
/-- The object at k, its tables at t. -/
def KS (w : World) (k t : Nat) : Prop := ∃ cs, Blk w k 48 cs ∧ KdfOk cs t ∧ TS w t ∧ k ≠ t
theorem KS.keep {w w' : World} {k t : Nat} {S : List Nat} (h : KS w k t) (hk : Keep S w w') (h1 : k ∉ S) (h2 : t ∉ S) : KS w' k t := by
  obtain ⟨cs, hb, ho, ht, hn⟩ := h
  exact ⟨cs, hb.keep hk h1, ho, ht.keep hk h2, hn⟩
theorem KS.keep0 {w w' : World} {k t : Nat} (h : KS w k t) (hk : Keep [] w w') : KS w' k t := h.keep hk (by simp) (by simp)
theorem KS.lt {w : World} {k t : Nat} (h : KS w k t) : k < w.heap.size ∧ t < w.heap.size := by obtain ⟨cs, hb, _, ht, _⟩ := h; exact ⟨hb.lt, ht.lt⟩
theorem KS.ts {w : World} {k t : Nat} (h : KS w k t) : TS w t := by obtain ⟨cs, _, _, ht, _⟩ := h; exact ht
/-- A secret. -/
def Secr (l : List Int) : Prop := l.length = 32 ∧ ∀ x ∈ l, (Lit.int .u8 x).wf = true
/-- New bytes. -/
def NewB (w w' : World) (v : Value) (l : List Int) : Prop := Sl .u8 w' v l ∧ ∀ g, v.ownBlock = some g → w.heap.size ≤ g

def KNewC : Prop := ∀ w : World, Calls Try.prog 8 #[] w fun e w' => ∃ k t, e = .returned (.pointer (some ⟨k, 0, none⟩)) ∧ w.heap.size ≤ k ∧ w.heap.size ≤ t ∧ KS w' k t ∧ Keep [] w w'
def ExtractC : Prop := ∀ (w : World) (k t : Nat) (sv nv : Value) (sl nl : List Int), KS w k t → Sl .u8 w sv sl → Sl .u8 w nv nl → sl.length ≤ 10000 → nl.length ≤ 10000 →
  Calls Try.prog 13 #[.pointer (some ⟨k, 0, none⟩), sv, nv] w fun e w' => e = .returned (arr (Sha.mark sl nl)) ∧ KS w' k t ∧ Keep [k, t] w w'
def ExpandC : Prop := ∀ (w : World) (k t : Nat) (sl : List Int) (av : Value) (al : List Int) (many : Nat), KS w k t → Secr sl → Sl .u8 w av al → al.length ≤ 10000 → many ≤ 8160 →
  Calls Try.prog 9 #[.pointer (some ⟨k, 0, none⟩), arr sl, av, .int .i64 many] w fun e w' => ∃ v, e = .returned (.tuple #[v, .int .i64 0]) ∧ NewB w w' v (Sha.expand sl al many) ∧ KS w' k t ∧ Keep [k, t] w w'
def ExpandE : Prop := ∀ (w : World) (k t : Nat) (sl : List Int) (av : Value) (al : List Int) (many : Int), KS w k t → Secr sl → Sl .u8 w av al → al.length ≤ 10000 → (Lit.int .i64 many).wf = true → many < 0 ∨ 8160 < many →
  Calls Try.prog 9 #[.pointer (some ⟨k, 0, none⟩), arr sl, av, .int .i64 many] w fun e w' => ∃ v, e = .returned (.tuple #[v, .int .i64 2]) ∧ NewB w w' v [] ∧ KS w' k t ∧ Keep [k, t] w w'
def LabelC : Prop := ∀ (w : World) (k t : Nat) (sl : List Int) (lab : ByteArray) (cv : Value) (cl : List Int) (many : Nat), KS w k t → Secr sl → Sl .u8 w cv cl → lab.size ≤ 249 → cl.length ≤ 255 → many ≤ 8160 →
  Calls Try.prog 11 #[.pointer (some ⟨k, 0, none⟩), arr sl, .string lab, cv, .int .i64 many] w fun e w' => ∃ v, e = .returned (.tuple #[v, .int .i64 0]) ∧ NewB w w' v (Sha.label sl (sby lab) cl many) ∧ KS w' k t ∧ Keep [k, t] w w'
def LabelE : Prop := ∀ (w : World) (k t : Nat) (sl : List Int) (lab : ByteArray) (cv : Value) (cl : List Int) (many : Int), KS w k t → Secr sl → Sl .u8 w cv cl → (Lit.int .i64 many).wf = true → lab.size ≤ 249 → cl.length ≤ 255 → many < 0 ∨ 8160 < many →
  Calls Try.prog 11 #[.pointer (some ⟨k, 0, none⟩), arr sl, .string lab, cv, .int .i64 many] w fun e w' => ∃ v, e = .returned (.tuple #[v, .int .i64 2]) ∧ NewB w w' v [] ∧ KS w' k t ∧ Keep [k, t] w w'
def LabelS : Prop := ∀ (w : World) (k t : Nat) (sl : List Int) (lab : ByteArray) (cv : Value) (cl : List Int) (many : Int), KS w k t → Secr sl → Sl .u8 w cv cl → (Lit.int .i64 many).wf = true → lab.size ≤ 9000000000000000000 → 249 < lab.size ∨ 255 < cl.length →
  Calls Try.prog 11 #[.pointer (some ⟨k, 0, none⟩), arr sl, .string lab, cv, .int .i64 many] w fun e w' => ∃ v, e = .returned (.tuple #[v, .int .i64 6]) ∧ NewB w w' v [] ∧ KS w' k t ∧ Keep [k, t] w w'
def DeriveC : Prop := ∀ (w : World) (k t : Nat) (sl : List Int) (lab : ByteArray) (dv : Value) (dl : List Int), KS w k t → Secr sl → Sl .u8 w dv dl → lab.size ≤ 249 → dl.length ≤ 10000 →
  Calls Try.prog 14 #[.pointer (some ⟨k, 0, none⟩), arr sl, .string lab, dv] w fun e w' => e = .returned (arr (Sha.label sl (sby lab) (Sha.sum dl) 32)) ∧ KS w' k t ∧ Keep [k, t] w w'
def TablesC : Prop := ∀ (w : World) (k t : Nat), KS w k t →
  Calls Try.prog 15 #[.pointer (some ⟨k, 0, none⟩)] w fun e w' => e = .returned (.pointer (some ⟨t, 0, none⟩)) ∧ w = w'
def KdfN : Prop := ∀ (w : World) (sl : List Int) (lab : ByteArray) (av bv : Value) (many : Int), Secr sl →
  Calls Try.prog 13 #[.pointer none, av, bv] w (fun e w' => e = .returned (arr (List.replicate 32 0)) ∧ Keep [] w w') ∧
  Calls Try.prog 9 #[.pointer none, arr sl, av, .int .i64 many] w (fun e w' => ∃ v, e = .returned (.tuple #[v, .int .i64 1]) ∧ Keep [] w w') ∧
  Calls Try.prog 11 #[.pointer none, arr sl, .string lab, av, .int .i64 many] w (fun e w' => ∃ v, e = .returned (.tuple #[v, .int .i64 1]) ∧ Keep [] w w') ∧
  Calls Try.prog 14 #[.pointer none, arr sl, .string lab, av] w (fun e w' => e = .returned (arr (List.replicate 32 0)) ∧ Keep [] w w') ∧
  Calls Try.prog 15 #[.pointer none] w (fun e w' => e = .returned (.pointer none) ∧ w = w')

def salt4 : List Int := [0, 1, 2, 3, 4, 5, 6, 7, 8, 9, 10, 11, 12]
def known4 : List Int := List.replicate 22 11
theorem mark4_all : let m := Sha.mark salt4 known4; m[0]? = some 7 ∧ m[1]? = some 119 ∧ m[31]? = some 229 := by decide +kernel

set_option maxRecDepth 100000 in
set_option maxHeartbeats 4000000 in
theorem awake4_any (hN : KNewC) (hX : ExtractC) (w : World) :
    Calls Try.prog 7 #[] w fun e w' => e = .returned (.bool true) ∧ Keep [] w w' := by
  have N := Lib.hid (hN w)
  have kc := fun (w : World) (C : Array Value) (n c : Nat) => Lib.run_convert_bytes_const (P := Try.prog) w 24 5 C n c Try.underlying24 Try.underlying5
  go_enter Try.func7, Try.ntmps7
  go_wp2_with (go_at_call 8; with_reducible refine N.out.mono ?_; rintro e w1 ⟨k, t, rfl, hk, ht, hs, hk1⟩; have HKK := Lib.hid hk; have HTT := Lib.hid ht; have HS := Lib.hid hs; have HK := Lib.hid hk1; clear hk ht hs hk1)
  obtain ⟨w2, hw2⟩ : ∃ w2, w2 = w1.alloc (.cells (salt4.map (Value.int .u8)).toArray 5 (13, 14)) := ⟨_, rfl⟩
  have hz2 : w2.heap.size = w1.heap.size + 1 := by rw [hw2]; simp
  have hsl : Sl .u8 w2 (.slice (some ⟨w1.heap.size, 0, none⟩) 13 13) salt4 := Sl.of_marked salt4 (by rw [hw2]; exact heap_new _ _) (by decide) (by decide)
  have hk2 : Keep [] w1 w2 := by rw [hw2]; exact (Keep.refl _ _).alloc _
  obtain ⟨w3, hw3⟩ : ∃ w3, w3 = w2.alloc (.cells (known4.map (Value.int .u8)).toArray 5 (22, 23)) := ⟨_, rfl⟩
  have hnl : Sl .u8 w3 (.slice (some ⟨w2.heap.size, 0, none⟩) 22 22) known4 := Sl.of_marked known4 (by rw [hw3]; exact heap_new _ _) (by decide) (by decide)
  have hk3 : Keep [] w2 w3 := by rw [hw3]; exact (Keep.refl _ _).alloc _
  have hw2' : w1.alloc (.cells #[.int .u8 0, .int .u8 1, .int .u8 2, .int .u8 3, .int .u8 4, .int .u8 5, .int .u8 6, .int .u8 7, .int .u8 8, .int .u8 9, .int .u8 10, .int .u8 11, .int .u8 12] 5 (13, 14)) = w2 := by rw [hw2]; rfl
  have hw3' : w2.alloc (.cells #[.int .u8 11, .int .u8 11, .int .u8 11, .int .u8 11, .int .u8 11, .int .u8 11, .int .u8 11, .int .u8 11, .int .u8 11, .int .u8 11, .int .u8 11, .int .u8 11, .int .u8 11, .int .u8 11, .int .u8 11, .int .u8 11, .int .u8 11, .int .u8 11, .int .u8 11, .int .u8 11, .int .u8 11, .int .u8 11] 5 (22, 23)) = w3 := by rw [hw3]; rfl
  rw [hw2', ← hz2, kc w2]
  have H3 := Lib.hid hw3'
  clear hw2 hw2' hw3 hw3' hz2
  go_wp2_with fail
  rw [H3.out]
  have hc := hX w3 k t _ _ salt4 known4 (HS.out.keep0 (hk2.trans hk3)) (hsl.keep0 hk3) hnl (by decide) (by decide)
  obtain ⟨m, hm⟩ : ∃ m, m = Sha.mark salt4 known4 := ⟨_, rfl⟩
  rw [← hm] at hc
  have hml : m.length = 32 := by rw [hm]; exact mark_length _ _
  have hall := mark4_all
  simp only [← hm] at hall
  obtain ⟨D, hD⟩ : ∃ D, D = (m.map (Value.int .u8)).toArray := ⟨_, rfl⟩
  have hDs : D.size = 32 := by rw [hD]; simp [hml]
  have hD1 : D.all (·.oneCell') = true := by rw [hD]; exact arr_cell _
  have d0 : D[0]? = some (.int .u8 7) := by rw [hD]; simp [hall.1]
  have d1 : D[1]? = some (.int .u8 119) := by rw [hD]; simp [hall.2.1]
  have d2 : D[31]? = some (.int .u8 229) := by rw [hD]; simp [hall.2.2]
  unfold arr at hc
  rw [← hD] at hc
  have HC := Lib.hid hc
  have HK3 := Lib.hid ((HK.out.trans hk2).trans hk3)
  clear hc H3 hsl hnl hk2 hk3 kc hD hm hml hall
  go_upto_region 2 with (first
    | (go_at_call 13; with_reducible refine HC.out.mono ?_; rintro e w4 ⟨rfl, hs4, hk4⟩; have HK4 := Lib.hid (HK3.out.trans' hk4 (by intro x hx; right; simp at hx; have h1 := HKK.out; have h2 := HTT.out; omega)); clear hs4 hk4)
    | (refine wl_store_row rfl _ _ _ rfl w4.heap.size rfl D rfl 23 _ (Blk.new w4 _ _) (by rw [hDs]; kernel_rfl) (by rw [hDs]; rfl) hD1 ?_; intro w5 hB5 hk5 hz5))
  have c0 := (hB5.cell 0).trans d0
  have c1 := (hB5.cell 1).trans d1
  have c2 := (hB5.cell 31).trans d2
  have HK5 := Lib.hid (HK4.out.trans' ((Keep.refl [] w4).alloc _) (by simp) |>.trans' hk5 (by intro x hx; right; simp at hx; have := HK4.out.size; omega))
  clear hB5 hk5 hz5 d0 d1 d2
  generalize w4.heap.size = G at *
  go_wp2
  go_ret
  exact ⟨rfl, HK5.out⟩
end Go.Proofs.Ytiiifcfgfmoiaaa
