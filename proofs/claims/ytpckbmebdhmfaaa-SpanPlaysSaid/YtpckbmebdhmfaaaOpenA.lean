/-
  How structs and slices of structs that came in are opened.
-/
import Derived.Test.YtpckbmebdhmfaaaRSpan4
import Derived.Deep.Slices
import Derived.ChangeSame
import Derived.WideShapes
namespace Go.Proofs.Ytpckbmebdhmfaaa
open Go.ChangeShapes Go.WideShapes Go.RowKit

theorem flat_get {α : Type} (enc : α → List Value) (sz : Nat) (hsz : ∀ x, (enc x).length = sz) (l : List α) (q : Nat) (u : Value) (h : (l.map enc).flatten[q]? = some u) :
    ∃ j r x, l[j]? = some x ∧ (enc x)[r]? = some u ∧ r < sz ∧ q = j * sz + r := by
  induction l generalizing q with
  | nil => simp at h
  | cons x l ih =>
    rw [List.map_cons, List.flatten_cons] at h
    by_cases hq : q < sz
    · rw [List.getElem?_append_left (by rw [hsz]; exact hq)] at h
      exact ⟨0, q, x, rfl, h, hq, by omega⟩
    · rw [List.getElem?_append_right (by rw [hsz]; omega), hsz] at h
      obtain ⟨j, r, y, h1, h2, h3, h4⟩ := ih _ h
      exact ⟨j + 1, r, y, h1, h2, h3, by rw [Nat.add_mul]; omega⟩
theorem flat_length {α : Type} (enc : α → List Value) (sz : Nat) (hsz : ∀ x, (enc x).length = sz) (l : List α) : (l.map enc).flatten.length = l.length * sz := by
  induction l with
  | nil => simp
  | cons x l ih => rw [List.map_cons, List.flatten_cons, List.length_append, hsz, ih, List.length_cons, Nat.add_mul]; omega

section
variable {H : Type} {enc : TypeId × Value → H} {P : Program} {w : World} {base : Nat} {spare : Nat → Bool} {held : Bool}
/-- A slice of structs: the entries are whatever the shape of one says. -/
theorem rows_open {α : Type} (cellsα : α → List Value) (ok : α → Prop) (sz : Nat) (hpos : 0 < sz) (hsz : ∀ x, (cellsα x).length = sz) {t e : TypeId} (ht : P.underlying t = some (.slice e)) (hc : P.cellsOf e = sz)
    (shape : ∀ n cs y, DataW.trod enc P w base spare held n e cs = some y → ∃ x, cs = cellsα x ∧ ok x) {A : Option Addr} {len cap : Nat} {d : DataW H} {p : List MemPlace}
    (h : DataW.Trod enc P w base spare held t (.slice A len cap) d p) :
    ∃ l : List α, l.length = len ∧ (∀ x ∈ l, ok x) ∧ len ≤ cap ∧ cap ≤ 9223372036854775807 ∧ Rd w A (l.map cellsα).flatten := by
  obtain ⟨fuel, hf⟩ := h
  rcases Go.Deep.open_slice ht hf with ⟨hcs, _⟩ | ⟨a, len', cap', m, n, D, Pl, hcs, hb, hl, hm, hmm, _, hx⟩
  · simp [Value.cells] at hcs
    obtain ⟨rfl, rfl, rfl⟩ := hcs
    exact ⟨[], rfl, by simp, Nat.le_refl _, by decide, Rd.nil _ _⟩
  · simp [Value.cells] at hcs
    obtain ⟨rfl, rfl, rfl⟩ := hcs
    have hlm : len ≤ m := by rw [hmm]; split <;> omega
    have each : ∀ k, k ≤ len → ∃ l : List α, l.length = k ∧ (∀ x ∈ l, ok x) ∧ ∀ j x, l[j]? = some x → w.cells? base (a.add (j * sz)) sz = some (cellsα x) := by
      intro k
      induction k with
      | zero => intro _; exact ⟨[], rfl, by simp, by simp⟩
      | succ k ih =>
        intro hk
        obtain ⟨l, h1, h2, h3⟩ := ih (by omega)
        obtain ⟨cs', hc1, hc2⟩ := hx k (by omega)
        obtain ⟨x, rfl, hok⟩ := shape _ _ _ hc2
        rw [hc] at hc1
        refine ⟨l ++ [x], by simp [h1], fun y hy => ?_, fun j y hy => ?_⟩
        · rcases List.mem_append.1 hy with hy | hy
          · exact h2 y hy
          · rw [List.mem_singleton.1 hy]; exact hok
        · by_cases hj : j < l.length
          · rw [List.getElem?_append_left hj] at hy
            exact h3 j y hy
          · rw [List.getElem?_append_right (by omega)] at hy
            have : j - l.length = 0 := by
              rcases Nat.eq_zero_or_pos (j - l.length) with h0 | h0
              · exact h0
              · rw [List.getElem?_eq_none (by simp; omega)] at hy; cases hy
            rw [this] at hy
            simp at hy
            subst hy
            obtain rfl : j = k := by omega
            exact hc1
    obtain ⟨l, h1, h2, h3⟩ := each len (Nat.le_refl _)
    refine ⟨l, h1, h2, hl, by simpa [maxLen] using hm, fun hp => ?_⟩
    have hl0 : 0 < l.length := by
      rcases Nat.eq_zero_or_pos l.length with h0 | h0
      · rw [List.eq_nil_of_length_eq_zero h0] at hp; simp at hp
      · exact h0
    obtain ⟨b, off, spot⟩ := a
    have cellj : ∀ j r x u, l[j]? = some x → (cellsα x)[r]? = some u → w.cell? ((Addr.add ⟨b, off, spot⟩ (j * sz)).add r) = some u := by
      intro j r x u hj hr
      have hcl := h3 j x hj
      have := World.cells?_some hcl
      have hrl := (List.getElem?_eq_some_iff.1 hr).1
      rw [hsz] at hrl
      first
        | exact (this.2.2 r hrl).trans hr
        | exact ((this.2 r hrl).trans hr)
        | (rw [← hr]; exact this.2.2 r hrl)
    have hs : spot = none := by
      cases spot with
      | none => rfl
      | some s =>
        have hx0 : l[0]? = some l[0] := List.getElem?_eq_getElem hl0
        have hlen : 0 < (cellsα l[0]).length := by rw [hsz]; exact hpos
        have hn := cellj 0 0 l[0] _ hx0 (List.getElem?_eq_getElem hlen)
        have hn2 : w.cell? ((Addr.add ⟨b, off, some s⟩ (0 * sz)).add 0) = none := by
          simp only [Addr.add, if_true, World.cell?, Nat.zero_mul]
          split <;> simp
        rw [hn2] at hn
        cases hn
    subst hs
    refine ⟨b, off, rfl, fun q u hu => ?_⟩
    obtain ⟨j, r, x, g1, g2, g3, g4⟩ := flat_get cellsα sz hsz l q u hu
    have := cellj j r x u g1 g2
    rw [Addr.add_lit, Addr.add_lit] at this
    rw [g4, ← Nat.add_assoc]
    exact this
theorem leaf_int {e : TypeId} {k : IntKind} {n : Nat} {cs : List Value} {y : DataW H × List MemPlace} (he : P.underlying e = some (.int k)) (h : DataW.trod enc P w base spare held n e cs = some y) : ∃ a, cs = [.int k a] ∧ (Lit.int k a).wf = true := by
  cases n with
  | zero => simp [DataW.trod] at h
  | succ m =>
    unfold DataW.trod at h
    rw [he] at h
    split at h <;> simp_all
theorem leaf_bool {e : TypeId} {n : Nat} {cs : List Value} {y : DataW H × List MemPlace} (he : P.underlying e = some .bool) (h : DataW.trod enc P w base spare held n e cs = some y) : ∃ b, cs = [.bool b] := by
  cases n with
  | zero => simp [DataW.trod] at h
  | succ m =>
    unfold DataW.trod at h
    rw [he] at h
    split at h <;> simp_all
theorem nat_u64 {a : Int} (h : (Lit.int .u64 a).wf = true) : ∃ x : Nat, a = (x : Int) ∧ x < 18446744073709551616 := by
  obtain ⟨h0, h1⟩ := wf_u64 h
  obtain ⟨x, rfl⟩ := Int.eq_ofNat_of_zero_le h0
  exact ⟨x, rfl, by omega⟩
theorem nat_u8 {a : Int} (h : (Lit.int .u8 a).wf = true) : ∃ x : Nat, a = (x : Int) ∧ x < 256 := by
  obtain ⟨h0, h1⟩ := wf_u8 h
  obtain ⟨x, rfl⟩ := Int.eq_ofNat_of_zero_le h0
  exact ⟨x, rfl, by omega⟩
/-- A struct of two numbers of 64 bits. -/
theorem pair_shape {t e : TypeId} {f0 f1 : Field} (ht : P.underlying t = some (.struct #[f0, f1])) (h0 : f0.type = e) (h1 : f1.type = e) (o0 : f0.offset = 0) (o1 : f1.offset = 1) (he : P.underlying e = some (.int .u64)) (hc : P.cellsOf e = 1) (hct : P.cellsOf t = 2)
    {n : Nat} {cs : List Value} {y : DataW H × List MemPlace} (h : DataW.trod enc P w base spare held n t cs = some y) : ∃ x : Nat × Nat, cs = pc x ∧ (x.1 < 18446744073709551616 ∧ x.2 < 18446744073709551616) := by
  obtain ⟨y0, y1, m, _, hl, g0, g1⟩ := trod_struct2 ht h
  rw [h0, o0, hc] at g0
  rw [h1, o1, hc] at g1
  rw [hct] at hl
  match cs, hl with
  | [c0, c1], _ =>
    obtain ⟨a, ha, wa⟩ := leaf_int he g0
    obtain ⟨b, hb, wb⟩ := leaf_int he g1
    simp at ha hb
    subst ha hb
    obtain ⟨x, rfl, hx⟩ := nat_u64 wa
    obtain ⟨z, rfl, hz⟩ := nat_u64 wb
    exact ⟨(x, z), rfl, hx, hz⟩
end
section
variable {H : Type} {enc : TypeId × Value → H} {w : World} {base : Nat} {spare : Nat → Bool} {held : Bool}
theorem sr_shape (n : Nat) (cs : List Value) (y : DataW H × List MemPlace) (h : DataW.trod enc Try.prog w base spare held n 26 cs = some y) : ∃ x : Nat × Nat, cs = pc x ∧ (x.1 < 18446744073709551616 ∧ x.2 < 18446744073709551616) :=
  pair_shape Try.underlying26 rfl rfl rfl rfl Try.underlying24 (by kernel_rfl) (by kernel_rfl) h
theorem act_shape (n : Nat) (cs : List Value) (y : DataW H × List MemPlace) (h : DataW.trod enc Try.prog w base spare held n 32 cs = some y) : ∃ a : ActP, cs = ac a ∧ a.ok := by
  obtain ⟨xs, m, _, _, hl, hlen, hf⟩ := DataW.trod_struct Try.underlying32 h
  rw [show Try.prog.cellsOf 32 = 6 by kernel_rfl] at hl
  match xs, hlen with
  | [y0, y1, y2, y3, y4], _ =>
    match cs, hl with
    | [c0, c1, c2, c3, c4, c5], _ =>
      have g0 : DataW.trod enc Try.prog w base spare held m 5 (([c0, c1, c2, c3, c4, c5].drop 0).take (Try.prog.cellsOf 5)) = some y0 := hf 0 _ rfl
      have g1 : DataW.trod enc Try.prog w base spare held m 5 (([c0, c1, c2, c3, c4, c5].drop 1).take (Try.prog.cellsOf 5)) = some y1 := hf 1 _ rfl
      have g2 : DataW.trod enc Try.prog w base spare held m 5 (([c0, c1, c2, c3, c4, c5].drop 2).take (Try.prog.cellsOf 5)) = some y2 := hf 2 _ rfl
      have g3 : DataW.trod enc Try.prog w base spare held m 26 (([c0, c1, c2, c3, c4, c5].drop 3).take (Try.prog.cellsOf 26)) = some y3 := hf 3 _ rfl
      have g4 : DataW.trod enc Try.prog w base spare held m 4 (([c0, c1, c2, c3, c4, c5].drop 5).take (Try.prog.cellsOf 4)) = some y4 := hf 4 _ rfl
      rw [show Try.prog.cellsOf 5 = 1 by kernel_rfl] at g0 g1 g2
      rw [show Try.prog.cellsOf 26 = 2 by kernel_rfl] at g3
      rw [show Try.prog.cellsOf 4 = 1 by kernel_rfl] at g4
      obtain ⟨a0, e0, v0⟩ := leaf_int Try.underlying5 g0
      obtain ⟨a1, e1, v1⟩ := leaf_int Try.underlying5 g1
      obtain ⟨a2, e2, v2⟩ := leaf_int Try.underlying5 g2
      obtain ⟨x, e3, hx⟩ := sr_shape _ _ _ g3
      obtain ⟨b, e4⟩ := leaf_bool Try.underlying4 g4
      simp [pc] at e0 e1 e2 e3 e4
      obtain ⟨rfl, rfl⟩ := e3
      subst e0 e1 e2 e4
      obtain ⟨n0, rfl, h0⟩ := nat_u8 v0
      obtain ⟨n1, rfl, h1⟩ := nat_u8 v1
      obtain ⟨n2, rfl, h2⟩ := nat_u8 v2
      exact ⟨⟨n0, n1, n2, x, b⟩, rfl, h0, h1, h2, hx.1, hx.2⟩
/-- A struct argument whose cells are known. -/
theorem struct_open {P : Program} {r : Reach} {b0 : Nat} {t : TypeId} {fs : Array Field} {v : Value} {d : DataW H} {p : List MemPlace} (ht : P.underlying t = some (.struct fs)) (hv : Value.okWide P w r b0 t v) (h : DataW.Trod enc P w base spare held t v d p) :
    ∃ cs : List Value, v = .agg cs.toArray ∧ ∃ n, DataW.trod enc P w base spare held n t cs = some (d, p) := by
  unfold Value.okWide at hv
  rw [ht] at hv
  obtain ⟨cs, rfl, hsz, -⟩ := hv
  obtain ⟨fuel, hf⟩ := h
  exact ⟨cs.toList, by simp, fuel, by simpa [Value.cells] using hf⟩
/-- A range that came in. -/
theorem sr_open {r : Reach} {b0 : Nat} {v : Value} {d : DataW H} {p : List MemPlace} (hv : Value.okWide Try.prog w r b0 26 v) (h : DataW.Trod enc Try.prog w base spare held 26 v d p) :
    ∃ x : Nat × Nat, v = pv x ∧ x.1 < 18446744073709551616 ∧ x.2 < 18446744073709551616 := by
  obtain ⟨cs, rfl, n, ht⟩ := struct_open Try.underlying26 hv h
  obtain ⟨x, rfl, hx⟩ := sr_shape _ _ _ ht
  exact ⟨x, rfl, hx⟩
/-- Acts that came in: what they read as. -/
def SA (w : World) (v : Value) (l : List ActP) : Prop := ∃ A c, v = .slice A l.length c ∧ l.length ≤ c ∧ c ≤ 9223372036854775807 ∧ Rd w A (l.map ac).flatten ∧ ∀ a ∈ l, a.ok
theorem acts_open {A : Option Addr} {len cap : Nat} {d : DataW H} {p : List MemPlace} (h : DataW.Trod enc Try.prog w base spare held 22 (.slice A len cap) d p) : ∃ l, SA w (.slice A len cap) l := by
  obtain ⟨l, rfl, hok, h1, h2, h3⟩ := rows_open ac ActP.ok 6 (by decide) (fun _ => rfl) Try.underlying22 (by kernel_rfl) act_shape h
  exact ⟨l, A, cap, rfl, h1, h2, h3, hok⟩
end
end Go.Proofs.Ytpckbmebdhmfaaa
