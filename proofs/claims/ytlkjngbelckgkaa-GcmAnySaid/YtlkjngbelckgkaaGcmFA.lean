/-
  The landed field: sums, times x, a part by a bit, sameness.
  The landed field: times x, a part by a bit, sameness.
  The landed field: a block as an element.
  The landed field: an element as a block; the counter's block.
  The landed field: the product.
-/
import Derived.Test.YtlkjngbelckgkaaGcmE
import Derived.Test.YtlkjngbelckgkaaAesSt
namespace Go.Proofs.Ytlkjngbelckgkaa
open Go.RowKit

/-- An element's cells: its two halves. -/
def ec (n : Nat) : Array Value := #[.int .u64 ((n / 2 ^ 64 : Nat) : Int), .int .u64 ((n % 2 ^ 64 : Nat) : Int)]
def ev (n : Nat) : Value := .agg (ec n)
theorem elSz : (Try.prog.info? 43).map (·.size) = some 2 := by kernel_rfl
theorem elZ : (Try.prog.info? 43).map (fun i => (i.zero, i.size)) = some (some (.agg #[.int .u64 0, .int .u64 0]), 2) := by kernel_rfl
theorem elOne (p q : Int) : (#[Value.int .u64 p, .int .u64 q]).all (·.oneCell') = true := by simp [Value.oneCell']
theorem ec_of (n a b : Nat) (h : n = a * 2 ^ 64 + b) (hb : b < 2 ^ 64) : ec n = #[.int .u64 (a : Int), .int .u64 (b : Int)] := by
  unfold ec
  rw [show n / 2 ^ 64 = a by omega, show n % 2 ^ 64 = b by omega]
/-- Many cells, of a struct or of an array, out of a block. -/
theorem wl_load_rowD {P : Program} {ops : Array Oper} {rest : List Oper} {o : Oper} {a : Act} {w : World} {Q : Exit → Act → World → Prop} (hgd : o.guard = none) (t : TypeId) (p : Operand) (ho : o.op = .load t p)
    (g : Nat) (hp : a.eval p = .pointer (some ⟨g, 0, none⟩)) (d : TypeDesc) (hu : P.underlying t = some d) (hd : (match d with | .struct _ | .array _ _ => true | _ => false) = true) (tt : TypeId) (c : Array Value) (hB : Blk w g tt c) (hi : (P.info? t).map (·.size) = some c.size)
    (h : wpList P ops Q rest (a.put o.dst (.agg c)) w) : wpList P ops Q (o :: rest) a w := by
  refine wpList_plain hgd fun K hK => ?_
  unfold Oper.wp execOp
  simp only [ho, hp, Instr.loadAt, Instr.sureAddr, Sem.run_bind, Sem.run_pure, Result.andThen_ok, run_loadVar_row w g tt t c (0, 0) d hB hu hd hi]
  exact hK _ _ h
theorem ow_loadD {P : Program} {o : Oper} {a : Act} {w : World} {K : Act → World → Prop} {Q : Exit → Act → World → Prop} (t : TypeId) (x : Operand) (ho : o.op = .load t x) (g : Nat) (hx : a.eval x = .pointer (some ⟨g, 0, none⟩)) (d : TypeDesc) (hu : P.underlying t = some d)
    (hd : (match d with | .struct _ | .array _ _ => true | _ => false) = true) (tt : TypeId) (c : Array Value) (hB : Blk w g tt c) (hi : (P.info? t).map (·.size) = some c.size)
    (h : K (a.put o.dst (.agg c)) w) : o.wp P a w K Q := by
  unfold Oper.wp execOp
  simp only [ho, hx, Instr.loadAt, Instr.sureAddr, Sem.run_bind, Sem.run_pure, Result.andThen_ok, run_loadVar_row w g tt t c (0, 0) d hB hu hd hi]
  exact h
theorem xor_halves (m n : Nat) : (m ^^^ n) / 2 ^ 64 = (m / 2 ^ 64) ^^^ (n / 2 ^ 64) ∧ (m ^^^ n) % 2 ^ 64 = (m % 2 ^ 64) ^^^ (n % 2 ^ 64) := ⟨Gcm.div_xor m n 64, Gcm.mod_xor m n 64⟩

set_option maxHeartbeats 2000000 in
theorem el_plus (m n : Nat) (hm : m < 2 ^ 128) (hn : n < 2 ^ 128) (w : World) :
    Calls Try.prog 32 #[ev m, ev n] w fun e w' => e = .returned (ev (m ^^^ n)) ∧ Keep [] w w' := by
  obtain ⟨x1, x2⟩ := xor_halves m n
  have hr : ev (m ^^^ n) = .agg #[.int .u64 (((m / 2 ^ 64) ^^^ (n / 2 ^ 64) : Nat) : Int), .int .u64 (((m % 2 ^ 64) ^^^ (n % 2 ^ 64) : Nat) : Int)] := by
    unfold ev ec; rw [x1, x2]
  rw [hr]
  unfold ev ec
  have h1 : m / 2 ^ 64 < 18446744073709551616 := by omega
  have h2 : m % 2 ^ 64 < 18446744073709551616 := by omega
  have h3 : n / 2 ^ 64 < 18446744073709551616 := by omega
  have h4 : n % 2 ^ 64 < 18446744073709551616 := by omega
  have e1 := u64_xor_nat _ _ h1 h3
  have e2 := u64_xor_nat _ _ h2 h4
  clear x1 x2 hr hm hn
  generalize m / 2 ^ 64 = a at *
  generalize m % 2 ^ 64 = b at *
  generalize n / 2 ^ 64 = c at *
  generalize n % 2 ^ 64 = d at *
  clear h1 h2 h3 h4
  obtain ⟨p, hp⟩ : ∃ p : Int, p = ((a ^^^ c : Nat) : Int) := ⟨_, rfl⟩
  obtain ⟨q, hq⟩ : ∃ q : Int, q = ((b ^^^ d : Nat) : Int) := ⟨_, rfl⟩
  rw [← hp] at e1 ⊢
  rw [← hq] at e2 ⊢
  clear hp hq
  go_enter Try.func32, Try.ntmps32
  go_upto_region 1 with (first
    | (have _q := HB2; refine wl_alloc_rowZ rfl _ rfl #[.int .u64 0, .int .u64 0] 2 elZ ?_; intro w3 hB3 hk3 hz3; have HB3 := Lib.hid hB3; have HK3 := Lib.hid hk3; clear hB3 hk3 hz3)
    | (have _q := HB1; refine wl_box rfl _ _ rfl #[.int .u64 (c : Int), .int .u64 (d : Int)] rfl ?_; intro w2 hB2 hk2 hz2; have HB2 := Lib.hid hB2; have HK2 := Lib.hid hk2; clear hB2 hk2 hz2)
    | (refine wl_box rfl _ _ rfl #[.int .u64 (a : Int), .int .u64 (b : Int)] rfl ?_; intro w1 hB1 hk1 hz1; have HB1 := Lib.hid hB1; have HK1 := Lib.hid hk1; clear hB1 hk1 hz1))
  obtain ⟨G, hG⟩ : ∃ G, G = w.heap.size := ⟨_, rfl⟩
  obtain ⟨A, hA⟩ : ∃ A, A = w1.heap.size := ⟨_, rfl⟩
  obtain ⟨C, hC⟩ : ∃ C, C = w2.heap.size := ⟨_, rfl⟩
  have HN := Lib.hid (show w.heap.size ≤ C by
    have h3 := HK2.out.size
    have h4 := HK1.out.size
    omega)
  have HBG := (show Blk w3 G 43 #[.int .u64 (a : Int), .int .u64 (b : Int)] by rw [hG]; exact (HB1.out.keep HK2.out (by simp)).keep HK3.out (by simp))
  have HBA := (show Blk w3 A 43 #[.int .u64 (c : Int), .int .u64 (d : Int)] by rw [hA]; exact HB2.out.keep HK3.out (by simp))
  have HBC := Lib.hid (show Blk w3 C 43 #[.int .u64 0, .int .u64 0] by rw [hC]; exact HB3.out)
  have HK := Lib.hid ((HK1.out.trans HK2.out).trans HK3.out)
  have c1 := HBG.cell 0
  have c2 := HBG.cell 1
  have c3 := HBA.cell 0
  have c4 := HBA.cell 1
  simp at c1 c2 c3 c4
  rw [← hG, ← hA, ← hC]
  clear hG hA hC HB1 HB2 HB3 HK1 HK2 HK3 _q HBG HBA
  go_wp2_with (first
    | (refine wl_store_row rfl _ _ _ rfl C rfl #[.int .u64 p, .int .u64 q] rfl _ _ HBC.out elSz rfl (elOne _ _) ?_; intro w5 hB5 hk5 hz5))
  (try simp only [Exit.inBlock, Exit.then])
  refine bodyPost_ret (v := .agg #[.int .u64 p, .int .u64 q]) ?_ rfl ?_
  · exact results_cell_row Try.results32 _ w5 C 43 _ (0, 0) _ rfl hB5 Try.underlying43 rfl elSz
  · exact ⟨rfl, HK.out.trans' hk5 (fun q hq => by right; have := HN.out; simp at hq; omega)⟩

set_option maxHeartbeats 2000000 in
theorem el_where (n word : Nat) (hn : n < 2 ^ 128) (hw : word < 2 ^ 64) (w : World) :
    Calls Try.prog 44 #[ev n, .int .u64 word] w fun e w' => e = .returned (ev (if word / 2 ^ 63 % 2 = 1 then n else 0)) ∧ Keep [] w w' := by
  unfold ev ec
  have h1 : n / 2 ^ 64 < 18446744073709551616 := by omega
  have h2 : n % 2 ^ 64 < 18446744073709551616 := by omega
  obtain ⟨a, ha⟩ : ∃ a, a = n / 2 ^ 64 := ⟨_, rfl⟩
  obtain ⟨b, hb⟩ : ∃ b, b = n % 2 ^ 64 := ⟨_, rfl⟩
  obtain ⟨p, hp⟩ : ∃ p : Int, p = (((if word / 2 ^ 63 % 2 = 1 then n else 0) / 2 ^ 64 : Nat) : Int) := ⟨_, rfl⟩
  obtain ⟨q, hq⟩ : ∃ q : Int, q = (((if word / 2 ^ 63 % 2 = 1 then n else 0) % 2 ^ 64 : Nat) : Int) := ⟨_, rfl⟩
  have HAB := Lib.hid (show (word / 2 ^ 63 % 2 = 1 → p = a ∧ q = b) ∧ (¬ word / 2 ^ 63 % 2 = 1 → p = 0 ∧ q = 0) by
    rw [hp, hq, ha, hb]
    refine ⟨fun h => ?_, fun h => ?_⟩
    · rw [if_pos h]; exact ⟨rfl, rfl⟩
    · rw [if_neg h]; exact ⟨rfl, rfl⟩)
  rw [← hp, ← hq]
  clear hp hq
  rw [← ha, ← hb]
  rw [← ha] at h1
  rw [← hb] at h2
  have e1 : bits .and .u64 (a : Int) 18446744073709551615 = (a : Int) := by
    rw [show (18446744073709551615 : Int) = ((18446744073709551615 : Nat) : Int) from rfl, u64_and_nat _ _ h1 (by decide), show (18446744073709551615 : Nat) = 2 ^ 64 - 1 by decide, Nat.and_two_pow_sub_one_eq_mod, Nat.mod_eq_of_lt (by omega)]
  have e2 : bits .and .u64 (b : Int) 18446744073709551615 = (b : Int) := by
    rw [show (18446744073709551615 : Int) = ((18446744073709551615 : Nat) : Int) from rfl, u64_and_nat _ _ h2 (by decide), show (18446744073709551615 : Nat) = 2 ^ 64 - 1 by decide, Nat.and_two_pow_sub_one_eq_mod, Nat.mod_eq_of_lt (by omega)]
  have e3 : bits .and .u64 (a : Int) 0 = 0 := by
    rw [show (0 : Int) = ((0 : Nat) : Int) from rfl, u64_and_nat _ _ h1 (by decide), Nat.and_zero]
  have e4 : bits .and .u64 (b : Int) 0 = 0 := by
    rw [show (0 : Int) = ((0 : Nat) : Int) from rfl, u64_and_nat _ _ h2 (by decide), Nat.and_zero]
  have hwr : IntKind.u64.wrap (-1) = 18446744073709551615 := by decide
  clear h1 h2 ha hb hn
  go_enter Try.func44, Try.ntmps44
  go_upto_region 1 with (first
    | (have _q := HB1; refine wl_alloc_rowZ rfl _ rfl #[.int .u64 0, .int .u64 0] 2 elZ ?_; intro w3 hB3 hk3 hz3; have HB3 := Lib.hid hB3; have HK3 := Lib.hid hk3; clear hB3 hk3 hz3)
    | (refine wl_box rfl _ _ rfl #[.int .u64 (a : Int), .int .u64 (b : Int)] rfl ?_; intro w1 hB1 hk1 hz1; have HB1 := Lib.hid hB1; have HK1 := Lib.hid hk1; clear hB1 hk1 hz1))
  obtain ⟨G, hG⟩ : ∃ G, G = w.heap.size := ⟨_, rfl⟩
  obtain ⟨C, hC⟩ : ∃ C, C = w1.heap.size := ⟨_, rfl⟩
  have HN := Lib.hid (show w.heap.size ≤ C by
    have h4 := HK1.out.size
    omega)
  have HBG := (show Blk w3 G 43 #[.int .u64 (a : Int), .int .u64 (b : Int)] by rw [hG]; exact HB1.out.keep HK3.out (by simp))
  have HBC := Lib.hid (show Blk w3 C 43 #[.int .u64 0, .int .u64 0] by rw [hC]; exact HB3.out)
  have HK := Lib.hid (HK1.out.trans HK3.out)
  have c1 := HBG.cell 0
  have c2 := HBG.cell 1
  simp at c1 c2
  rw [← hG, ← hC]
  clear hG hC HB1 HB3 HK1 HK3 _q HBG
  by_cases h : word / 2 ^ 63 % 2 = 1
  · have hv : (word : Int) / 9223372036854775808 = 1 := by omega
    have HPQ := Lib.hid (HAB.out.1 h)
    clear h HAB hw
    go_wp2_with (first
      | (refine wl_store_row rfl _ _ _ rfl C rfl _ rfl _ _ HBC.out elSz rfl (elOne _ _) ?_; intro w5 hB5 hk5 hz5))
    (try simp only [Exit.inBlock, Exit.then])
    refine bodyPost_ret (v := .agg #[.int .u64 (a : Int), .int .u64 (b : Int)]) ?_ rfl ?_
    · exact results_cell_row Try.results44 _ w5 C 43 _ (0, 0) _ rfl hB5 Try.underlying43 rfl elSz
    · exact ⟨by rw [HPQ.out.1, HPQ.out.2]; try rfl, HK.out.trans' hk5 (fun q hq => by right; have := HN.out; simp at hq; omega)⟩
  · have hv : (word : Int) / 9223372036854775808 = 0 := by omega
    have HPQ := Lib.hid (HAB.out.2 h)
    clear h HAB hw
    go_wp2_with (first
      | (refine wl_store_row rfl _ _ _ rfl C rfl _ rfl _ _ HBC.out elSz rfl (elOne _ _) ?_; intro w5 hB5 hk5 hz5))
    (try simp only [Exit.inBlock, Exit.then])
    refine bodyPost_ret (v := .agg #[.int .u64 ((0 : Nat) : Int), .int .u64 ((0 : Nat) : Int)]) ?_ rfl ?_
    · exact results_cell_row Try.results44 _ w5 C 43 _ (0, 0) _ rfl hB5 Try.underlying43 rfl elSz
    · exact ⟨by rw [HPQ.out.1, HPQ.out.2]; try rfl, HK.out.trans' hk5 (fun q hq => by right; have := HN.out; simp at hq; omega)⟩

set_option maxHeartbeats 2000000 in
theorem el_same (m n : Nat) (hm : m < 2 ^ 128) (hn : n < 2 ^ 128) (w : World) :
    Calls Try.prog 21 #[ev m, ev n] w fun e w' => e = .returned (.bool (decide (m = n))) ∧ Keep [] w w' := by
  have P : ∀ w, Hid (Calls Try.prog 32 #[ev m, ev n] w fun e w' => e = .returned (ev (m ^^^ n)) ∧ Keep [] w w') := fun w => Lib.hid (el_plus m n hm hn w)
  have hx : m ^^^ n < 2 ^ 128 := Nat.xor_lt_two_pow hm hn
  have hx0 : (m ^^^ n = 0) ↔ m = n := ⟨fun h => by
    have h1 : m ^^^ (m ^^^ n) = n := by rw [← Nat.xor_assoc, Nat.xor_self, Nat.zero_xor]
    rw [h, Nat.xor_zero] at h1; exact h1, fun h => by rw [h, Nat.xor_self]⟩
  unfold ev at P ⊢
  obtain ⟨D, hD⟩ : ∃ D, D = ec m := ⟨_, rfl⟩
  obtain ⟨E, hE⟩ : ∃ E, E = ec n := ⟨_, rfl⟩
  have HDS := Lib.hid (show D.size = 2 by rw [hD]; rfl)
  have HES := Lib.hid (show E.size = 2 by rw [hE]; rfl)
  rw [← hD, ← hE] at P ⊢
  generalize m ^^^ n = x at *
  unfold ec at P
  have h1 : x / 2 ^ 64 < 18446744073709551616 := by omega
  have h2 : x % 2 ^ 64 < 18446744073709551616 := by omega
  obtain ⟨a, ha⟩ : ∃ a, a = x / 2 ^ 64 := ⟨_, rfl⟩
  obtain ⟨b, hb⟩ : ∃ b, b = x % 2 ^ 64 := ⟨_, rfl⟩
  rw [← ha] at P h1
  rw [← hb] at P h2
  have ho := u64_or_nat a b h1 h2
  have hz : a ||| b = 0 ↔ m = n := by
    rw [Nat.or_eq_zero_iff, ← hx0]
    omega
  have HZ := Lib.hid hz
  obtain ⟨o, ho2⟩ : ∃ o : Int, o = ((a ||| b : Nat) : Int) := ⟨_, rfl⟩
  rw [← ho2] at ho
  have HO := Lib.hid ho2
  clear hz hx0 hx hm hn ha hb h1 h2 hD hE ho2
  go_enter Try.func21, Try.ntmps21
  go_upto_region 1 with (first
    | (have _q := HB1; refine wl_box rfl _ _ rfl E rfl ?_; intro w2 hB2 hk2 hz2; have HB2 := Lib.hid hB2; have HK2 := Lib.hid hk2; clear hB2 hk2 hz2)
    | (refine wl_box rfl _ _ rfl D rfl ?_; intro w1 hB1 hk1 hz1; have HB1 := Lib.hid hB1; have HK1 := Lib.hid hk1; clear hB1 hk1 hz1))
  obtain ⟨G, hG⟩ : ∃ G, G = w.heap.size := ⟨_, rfl⟩
  obtain ⟨A, hA⟩ : ∃ A, A = w1.heap.size := ⟨_, rfl⟩
  have HBG := Lib.hid (show Blk w2 G 43 D by rw [hG]; exact HB1.out.keep HK2.out (by simp))
  have HBA := Lib.hid (show Blk w2 A 43 E by rw [hA]; exact HB2.out)
  have HK := Lib.hid (HK1.out.trans HK2.out)
  rw [← hG, ← hA]
  clear hG hA HB1 HB2 HK1 HK2 _q
  go_upto_region 2 with (first
    | (refine wl_load_rowD rfl _ _ rfl G rfl _ Try.underlying43 rfl _ D HBG.out (by rw [HDS.out]; exact elSz) ?_)
    | (refine wl_load_rowD rfl _ _ rfl A rfl _ Try.underlying43 rfl _ E HBA.out (by rw [HES.out]; exact elSz) ?_)
    | (go_at_call 32; with_reducible refine (P _).out.mono ?_; rintro e w3 ⟨rfl, hk3⟩; have HK3 := Lib.hid hk3; clear hk3)
    | (refine wl_alloc_rowZ rfl _ rfl #[.int .u64 0, .int .u64 0] 2 elZ ?_; intro w4 hB4 hk4 hz4; have HB4 := Lib.hid hB4; have HK4 := Lib.hid hk4; clear hB4 hk4 hz4)
    | (refine wl_store_row rfl _ _ _ rfl w3.heap.size rfl _ rfl _ _ HB4.out elSz rfl (elOne _ _) ?_; intro w5 hB5 hk5 hz5))
  obtain ⟨M, hM⟩ : ∃ M, M = w3.heap.size := ⟨_, rfl⟩
  rw [← hM] at hB5 ⊢
  have c1 := hB5.cell 0
  have c2 := hB5.cell 1
  simp at c1 c2
  have HK5 := Lib.hid (show Keep [] w w5 from ((HK.out.trans HK3.out).trans HK4.out).trans' hk5 (fun q hq => by
    right
    have h1 := HK3.out.size
    have h2 := HK.out.size
    simp at hq; omega))
  clear hM hB5 hk5 hz5 HB4 HK4 HK3 HBG HBA P
  by_cases h : o = 0
  · have hmn : m = n := HZ.out.1 (by have := HO.out; omega)
    subst h
    go_wp2_with fail
    go_ret
    exact ⟨by rw [hmn]; simp, HK5.out⟩
  · have hmn : ¬ m = n := fun e => h (by have := HZ.out.2 e; have := HO.out; omega)
    have ho0 : (o == 0) = false := beq_eq_false_iff_ne.2 h
    go_wp2_with fail
    go_ret
    exact ⟨by simp [hmn], HK5.out⟩

theorem up_hi (n : Nat) : Gcm.up n / 2 ^ 64 = (n / 2 ^ 64 / 2) ^^^ (n % 2 ^ 64 % 2 * 16212958658533785600) := by
  unfold Gcm.up
  rw [Gcm.div_xor, show n / 2 ^ 1 / 2 ^ 64 = n / 2 ^ 64 / 2 by omega, show n % 2 ^ 64 % 2 = n % 2 by omega]
  rcases Nat.mod_two_eq_zero_or_one n with h | h <;> rw [h]
theorem up_lo (n : Nat) : Gcm.up n % 2 ^ 64 = (n % 2 ^ 64 / 2) ||| (n / 2 ^ 64 * 9223372036854775808 % 18446744073709551616) := by
  unfold Gcm.up
  rw [Gcm.mod_xor, show n % 2 * (225 * 2 ^ 120) % 2 ^ 64 = 0 by omega, Nat.xor_zero]
  have h := Nat.two_pow_add_eq_or_of_lt (i := 63) (b := n % 2 ^ 64 / 2) (by omega) (n / 2 ^ 64 % 2)
  rw [Nat.or_comm, show n / 2 ^ 64 * 9223372036854775808 % 18446744073709551616 = 2 ^ 63 * (n / 2 ^ 64 % 2) by omega, ← h]
  omega

set_option maxHeartbeats 2000000 in
theorem el_up (n : Nat) (hn : n < 2 ^ 128) (w : World) :
    Calls Try.prog 45 #[ev n] w fun e w' => e = .returned (ev (Gcm.up n)) ∧ Keep [] w w' := by
  unfold ev ec
  have h1 : n / 2 ^ 64 < 18446744073709551616 := by omega
  have h2 : n % 2 ^ 64 < 18446744073709551616 := by omega
  obtain ⟨a, ha⟩ : ∃ a, a = n / 2 ^ 64 := ⟨_, rfl⟩
  obtain ⟨b, hb⟩ : ∃ b, b = n % 2 ^ 64 := ⟨_, rfl⟩
  obtain ⟨p, hp⟩ : ∃ p : Int, p = ((Gcm.up n / 2 ^ 64 : Nat) : Int) := ⟨_, rfl⟩
  obtain ⟨q, hq⟩ : ∃ q : Int, q = ((Gcm.up n % 2 ^ 64 : Nat) : Int) := ⟨_, rfl⟩
  have e1 : bits .and .u64 (b : Int) 1 = ((b % 2 : Nat) : Int) := by
    rw [show (1 : Int) = ((1 : Nat) : Int) from rfl, u64_and_nat _ _ (by omega) (by decide), Nat.and_one_is_mod]
  rw [← ha, ← hb, ← hp, ← hq]
  rw [← ha] at h1
  rw [← hb] at h2
  rw [up_hi, ← ha, ← hb] at hp
  rw [up_lo, ← ha, ← hb] at hq
  have HP := Lib.hid (show bits .xor .u64 ((a : Int) / 2) ((b : Int) % 2 * 16212958658533785600) = p by
    rw [hp]
    have h3 : b % 2 * 16212958658533785600 < 18446744073709551616 := by omega
    rw [← u64_xor_nat (a / 2) _ (by omega) h3]
    rfl)
  have HQ := Lib.hid (show bits .or .u64 ((b : Int) / 2) (IntKind.u64.wrap ((a : Int) * 9223372036854775808)) = q by
    rw [hq, ← u64_or_nat (b / 2) _ (by omega) (by omega)]
    rfl)
  clear ha hb hp hq hn h1 h2
  go_enter Try.func45, Try.ntmps45
  go_upto_region 1 with (first
    | (have _q := HB1; refine wl_alloc_rowZ rfl _ rfl #[.int .u64 0, .int .u64 0] 2 elZ ?_; intro w3 hB3 hk3 hz3; have HB3 := Lib.hid hB3; have HK3 := Lib.hid hk3; clear hB3 hk3 hz3)
    | (refine wl_box rfl _ _ rfl #[.int .u64 (a : Int), .int .u64 (b : Int)] rfl ?_; intro w1 hB1 hk1 hz1; have HB1 := Lib.hid hB1; have HK1 := Lib.hid hk1; clear hB1 hk1 hz1))
  obtain ⟨G, hG⟩ : ∃ G, G = w.heap.size := ⟨_, rfl⟩
  obtain ⟨C, hC⟩ : ∃ C, C = w1.heap.size := ⟨_, rfl⟩
  have HN := Lib.hid (show w.heap.size ≤ C by
    have h4 := HK1.out.size
    omega)
  have HBG := (show Blk w3 G 43 #[.int .u64 (a : Int), .int .u64 (b : Int)] by rw [hG]; exact HB1.out.keep HK3.out (by simp))
  have HBC := Lib.hid (show Blk w3 C 43 #[.int .u64 0, .int .u64 0] by rw [hC]; exact HB3.out)
  have HK := Lib.hid (HK1.out.trans HK3.out)
  have c1 := HBG.cell 0
  have c2 := HBG.cell 1
  simp at c1 c2
  rw [← hG, ← hC]
  clear hG hC HB1 HB3 HK1 HK3 _q HBG
  go_wp2_with (first
      | (refine wl_store_row rfl _ _ _ rfl C rfl _ rfl _ _ HBC.out elSz rfl (elOne _ _) ?_; intro w5 hB5 hk5 hz5))
  (try simp only [Exit.inBlock, Exit.then])
  rw [HQ.out] at hB5
  rw [HP.out] at hB5
  refine bodyPost_ret (v := .agg #[.int .u64 p, .int .u64 q]) ?_ rfl ?_
  · exact results_cell_row Try.results45 _ w5 C 43 _ (0, 0) _ rfl hB5 Try.underlying43 rfl elSz
  · exact ⟨rfl, HK.out.trans' hk5 (fun q hq => by right; have := HN.out; simp at hq; omega)⟩

theorem or_byte (h y : Nat) (hh : h < 72057594037927936) (hy : y < 256) : bits .or .u64 ((h : Int) * 256) (y : Int) = ((h * 256 + y : Nat) : Int) := by
  have h1 := Nat.two_pow_add_eq_or_of_lt (i := 8) (b := y) (by omega) h
  have h2 := u64_or_nat (h * 256) y (by omega) (by omega)
  rw [show h * 256 ||| y = h * 256 + y by rw [show h * 256 = 2 ^ 8 * h by omega, ← h1]] at h2
  rw [← h2]
  rfl
theorem or_byteW (h y : Nat) (hh : h < 72057594037927936) (hy : y < 256) : bits .or .u64 (IntKind.u64.wrap ((h : Int) * 256)) (IntKind.u64.wrap (y : Int)) = ((h * 256 + y : Nat) : Int) := by
  rw [show IntKind.u64.wrap ((h : Int) * 256) = (h : Int) * 256 from IntWalk.u64_in _ ⟨by omega, by omega⟩, show IntKind.u64.wrap (y : Int) = (y : Int) from IntWalk.u64_in _ ⟨by omega, by omega⟩]
  exact or_byte h y hh hy
theorem blk_cell {w : World} {B ty : Nat} {l : List Int} (h : Blk w B ty (l.map (Value.int .u8)).toArray) (hw : ∀ x ∈ l, (Lit.int .u8 x).wf = true) (j : Nat) (hj : j < l.length) : w.cell? ⟨B, j, none⟩ = some (.int .u8 ((nb l j : Nat) : Int)) := by
  rw [h.cell, ← nb_int hw j]
  simp [hj]
theorem bE_small (t : Nat) {l : List Int} (hl : ∀ x ∈ l, (Lit.int .u8 x).wf = true) (i : Nat) (hi : i < 8) : Gcm.bE t l i < 72057594037927936 := by
  have h1 := Gcm.bE_lt t hl i
  have h2 : 256 ^ i ≤ 256 ^ 7 := Nat.pow_le_pow_right (by decide) (by omega)
  omega

set_option maxHeartbeats 8000000 in
theorem el_of (l : List Int) (hl : B16 l) (w : World) :
    Calls Try.prog 13 #[arr l] w fun e w' => e = .returned (ev (Gcm.en l)) ∧ Keep [] w w' := by
  obtain ⟨D, hD⟩ : ∃ D, D = (l.map (Value.int .u8)).toArray := ⟨_, rfl⟩
  have HD := Lib.hid hD
  unfold ev ec
  rw [Gcm.en_hi hl.2, Gcm.en_lo hl.2]
  rw [arr_agg, ← hD]
  clear hD
  obtain ⟨p, hp⟩ : ∃ p : Int, p = ((Gcm.bE 0 l 8 : Nat) : Int) := ⟨_, rfl⟩
  obtain ⟨q, hq⟩ : ∃ q : Int, q = ((Gcm.bE 8 l 8 : Nat) : Int) := ⟨_, rfl⟩
  have HP := Lib.hid hp
  have HQ := Lib.hid hq
  rw [← hp, ← hq]
  clear hp hq
  go_enter Try.func13, Try.ntmps13
  go_upto_region 2 with (first
    | (have _q := HB2; refine wl_alloc_rowZ rfl _ rfl #[.int .u64 0, .int .u64 0] 2 elZ ?_; intro w3 hB3 hk3 hz3; have HB3 := Lib.hid hB3; have HK3 := Lib.hid hk3; clear hB3 hk3 hz3)
    | (have _q := HB1; refine wl_alloc_rowZ rfl _ rfl #[.int .u64 0, .int .u64 0] 2 elZ ?_; intro w2 hB2 hk2 hz2; have HB2 := Lib.hid hB2; have HK2 := Lib.hid hk2; clear hB2 hk2 hz2)
    | (refine wl_box rfl _ _ rfl D rfl ?_; intro w1 hB1 hk1 hz1; have HB1 := Lib.hid hB1; have HK1 := Lib.hid hk1; clear hB1 hk1 hz1))
  obtain ⟨B, hB⟩ : ∃ B, B = w.heap.size := ⟨_, rfl⟩
  obtain ⟨C, hC⟩ : ∃ C, C = w1.heap.size := ⟨_, rfl⟩
  obtain ⟨G, hG⟩ : ∃ G, G = w2.heap.size := ⟨_, rfl⟩
  have HN := Lib.hid (show B ≠ C ∧ B ≠ G ∧ C ≠ G ∧ w.heap.size ≤ G ∧ w.heap.size ≤ C by
    have h1 := HB1.out.lt
    have h2 := HB2.out.lt
    have h3 := HK2.out.size
    have h4 := HK1.out.size
    omega)
  have HBB := Lib.hid (show Blk w3 B 23 (l.map (Value.int .u8)).toArray by rw [hB, ← HD.out]; exact (HB1.out.keep HK2.out (by simp)).keep HK3.out (by simp))
  have HBC := Lib.hid (show Blk w3 C 43 #[.int .u64 0, .int .u64 0] by rw [hC]; exact HB2.out.keep HK3.out (by simp))
  have HBG := Lib.hid (show Blk w3 G 43 #[.int .u64 ((Gcm.bE 0 l 0 : Nat) : Int), .int .u64 ((Gcm.bE 8 l 0 : Nat) : Int)] by rw [hG]; exact HB3.out)
  have HK := Lib.hid ((HK1.out.trans HK2.out).trans HK3.out)
  rw [← hG, ← hB, ← hC]
  clear hG hB hC HB1 HB2 HB3 HK1 HK2 HK3 _q
  go_wp2_with fail
  go_loopw [5] (fun s5 wr => ∃ i : Nat, i ≤ 8 ∧ s5 = .int .i64 i ∧ Blk wr G 43 #[.int .u64 ((Gcm.bE 0 l i : Nat) : Int), .int .u64 ((Gcm.bE 8 l i : Nat) : Int)] ∧ Keep [G] w3 wr) (fun s5 _ => 8 - (intOf s5).toNat)
  case atStart => exact ⟨0, by omega, rfl, HBG.out, Keep.refl _ _⟩
  case round =>
    obtain ⟨i, hi, rfl, hB, hk1⟩ := hrel
    have HB := Lib.hid hB
    have HK1 := Lib.hid hk1
    clear hB hk1
    by_cases hlt : i < 8
    · have HBL := Lib.hid (HBB.out.keep HK1.out (by have := HN.out; simp; omega))
      have c1 := blk_cell HBL.out hl.2 i (by rw [hl.1]; omega)
      have hx := nb_lt hl.2 i
      have hh := bE_small 0 hl.2 i hlt
      have ho := or_byteW _ _ hh hx
      have HE := Lib.hid (show Gcm.bE 0 l (i + 1) = Gcm.bE 0 l i * 256 + nb l i by rw [Gcm.bE, Nat.zero_add])
      have HE2 := Lib.hid (show Gcm.bE 8 l (i + 1) = Gcm.bE 8 l i * 256 + nb l (8 + i) from rfl)
      have c2 := blk_cell HBL.out hl.2 (8 + i) (by rw [hl.1]; omega)
      have hx2 := nb_lt hl.2 (8 + i)
      have hh2 := bE_small 8 hl.2 i hlt
      have ho2 := or_byteW _ _ hh2 hx2
      have g1 := HB.out.cell 0
      have g2 := HB.out.cell 1
      simp at g1 g2
      have z1 := HB.out.frozen 0
      have z2 := HB.out.frozen 1
      have bi : (0 : Int) ≤ i ∧ (i : Int) < 16 := ⟨by omega, by omega⟩
      have hw8 : IntKind.i64.wrap (8 + (i : Int)) = 8 + i := IntWalk.i64_in _ ⟨by omega, by omega⟩
      have ht8 : (8 + (i : Int)).toNat = 8 + i := by omega
      have bi8 : (0 : Int) ≤ 8 + (i : Int) ∧ 8 + (i : Int) < 16 := ⟨by omega, by omega⟩
      generalize Gcm.bE 0 l i = h at *
      generalize Gcm.bE 8 l i = k at *
      generalize nb l i = x at *
      obtain ⟨y, hy0⟩ : ∃ y, y = nb l (8 + i) := ⟨_, rfl⟩
      have HYN := Lib.hid hy0
      rw [← hy0] at c2 hx2 ho2 HE2
      clear hy0
      have HX := Lib.hid ho
      have HY := Lib.hid ho2
      clear ho ho2
      go_upto_region 5 with fail
      go_region_with fail
      all_goals
        rw [HX.out]
        obtain ⟨W, hW⟩ : ∃ W, W = (wr.setCell ⟨G, 0, none⟩ (.int .u64 ((h * 256 + x : Nat) : Int))).drew := ⟨_, rfl⟩
        rw [← hW]
        have HW := Lib.hid (show Blk W G 43 #[.int .u64 ((h * 256 + x : Nat) : Int), .int .u64 (k : Int)] by rw [hW]; exact (HB.out.set_ 0 _).drew)
        have HKW := Lib.hid (show Keep [G] w3 W by rw [hW]; exact (HK1.out.setCell (.inl (by simp)) _).drew)
        have HBL2 := Lib.hid (HBB.out.keep HKW.out (by have := HN.out; simp; omega))
        clear hW g1 g2 z1 z2 c1
        have g2 := HW.out.cell 1
        simp at g2
        have z2 := HW.out.frozen 1
        have c2 : W.cell? ⟨B, 8 + i, none⟩ = some (.int .u8 (y : Int)) := by rw [HYN.out]; exact blk_cell HBL2.out hl.2 (8 + i) (by rw [hl.1]; omega)
        go_upto_region 6 with fail
        go_region_with fail
      all_goals
        rw [HY.out]
        go_wp2_with fail
        refine ⟨⟨i + 1, by omega, by go_num, ?_, ?_⟩, by simp [intOf]; omega⟩
        · rw [HE.out, HE2.out]
          exact (HW.out.set_ 1 _).drew
        · exact (HKW.out.setCell (.inl (by simp)) _).drew
    · obtain rfl : i = 8 := by omega
      have HBG2 := Lib.hid (show Blk wr G 43 #[.int .u64 p, .int .u64 q] by rw [HP.out, HQ.out]; exact HB.out)
      have HBC2 := Lib.hid (HBC.out.keep HK1.out (by have := HN.out; simp; omega))
      go_wp2_with (first
        | (refine wl_load_rowD rfl _ _ rfl G rfl _ Try.underlying43 rfl _ _ HBG2.out elSz ?_)
        | (refine wl_store_row rfl _ _ _ rfl C rfl _ rfl _ _ HBC2.out elSz rfl (elOne _ _) ?_; intro w5 hB5 hk5 hz5))
      (try simp only [Exit.inBlock, Exit.then])
      refine bodyPost_ret (v := .agg #[.int .u64 p, .int .u64 q]) ?_ rfl ?_
      · exact results_cell_row Try.results13 _ w5 C 43 _ (0, 0) _ rfl hB5 Try.underlying43 rfl elSz
      · exact ⟨rfl, (HK.out.trans' HK1.out (fun q hq => by right; have := HN.out; simp at hq; omega)).trans' hk5 (fun q hq => by right; have := HN.out; simp at hq; omega)⟩

namespace Gcm
/-- The bytes of an element, two at a time. -/
def elB (l : List Int) : Nat → List Int
  | 0 => List.replicate 16 0
  | i + 1 => ((elB l i).set i ((nb l i : Nat) : Int)).set (8 + i) ((nb l (8 + i) : Nat) : Int)
theorem elB_length (l : List Int) (i : Nat) : (elB l i).length = 16 := by
  induction i with
  | zero => simp [elB]
  | succ i ih => simp [elB, ih]
theorem elB_get (l : List Int) (i j : Nat) (hi : i ≤ 8) (hj : j < 16) : (elB l i)[j]? = some (if j < i ∨ (8 ≤ j ∧ j < 8 + i) then ((nb l j : Nat) : Int) else 0) := by
  induction i with
  | zero =>
    rw [elB, List.getElem?_replicate, if_pos hj, if_neg (by omega)]
  | succ i ih =>
    rw [elB, List.getElem?_set, List.getElem?_set]
    by_cases h1 : 8 + i = j
    · subst h1
      simp [elB_length]; omega
    · by_cases h2 : i = j
      · subst h2
        rw [if_neg h1]
        simp [elB_length]; omega
      · rw [if_neg h1, if_neg h2, ih (by omega)]
        congr 1
        by_cases h3 : j < i ∨ (8 ≤ j ∧ j < 8 + i)
        · rw [if_pos h3, if_pos (by omega)]
        · rw [if_neg h3, if_neg (by omega)]
theorem elB_full {l : List Int} (hl : l.length = 16) (hw : ∀ x ∈ l, (Lit.int .u8 x).wf = true) : elB l 8 = l := by
  apply List.ext_getElem?
  intro j
  by_cases hj : j < 16
  · rw [elB_get l 8 j (by omega) hj, if_pos (by omega), ← nb_int hw j, List.getD_eq_getElem?_getD, List.getElem?_eq_getElem (by omega)]
    rfl
  · rw [List.getElem?_eq_none (by rw [elB_length]; omega), List.getElem?_eq_none (by omega)]
end Gcm

set_option maxRecDepth 100000 in
set_option maxHeartbeats 8000000 in
theorem el_block (l : List Int) (hl : B16 l) (w : World) :
    Calls Try.prog 17 #[ev (Gcm.en l)] w fun e w' => e = .returned (arr l) ∧ Keep [] w w' := by
  obtain ⟨F, hF⟩ : ∃ F, F = (l.map (Value.int .u8)).toArray := ⟨_, rfl⟩
  have HF := Lib.hid hF
  obtain ⟨Z, hZ, hZs, hZi⟩ := blk16
  have HZ := Lib.hid hZ
  have HZS := Lib.hid hZs
  have HZI := Lib.hid hZi
  have hb1 : Gcm.bE 0 l 8 < 18446744073709551616 := Gcm.bE_lt 0 hl.2 8
  have hb2 : Gcm.bE 8 l 8 < 18446744073709551616 := Gcm.bE_lt 8 hl.2 8
  have B1 := Lib.hid (fun i (hi : i < 8) => Gcm.bE_byte 0 hl.2 8 i hi)
  have B2 := Lib.hid (fun i (hi : i < 8) => Gcm.bE_byte 8 hl.2 8 i hi)
  unfold ev ec
  rw [Gcm.en_hi hl.2, Gcm.en_lo hl.2, arr_agg, ← hF]
  generalize Gcm.bE 0 l 8 = h at *
  generalize Gcm.bE 8 l 8 = k at *
  clear hF hZ hZs hZi
  go_enter Try.func17, Try.ntmps17
  go_upto_region 2 with (first
    | (have _q := HB2; refine wl_alloc_rowZ rfl _ rfl Z 16 HZI.out ?_; intro w3 hB3 hk3 hz3; have HB3 := Lib.hid hB3; have HK3 := Lib.hid hk3; clear hB3 hk3 hz3)
    | (have _q := HB1; refine wl_alloc_rowZ rfl _ rfl Z 16 HZI.out ?_; intro w2 hB2 hk2 hz2; have HB2 := Lib.hid hB2; have HK2 := Lib.hid hk2; clear hB2 hk2 hz2)
    | (refine wl_box rfl _ _ rfl #[.int .u64 (h : Int), .int .u64 (k : Int)] rfl ?_; intro w1 hB1 hk1 hz1; have HB1 := Lib.hid hB1; have HK1 := Lib.hid hk1; clear hB1 hk1 hz1))
  obtain ⟨B, hB⟩ : ∃ B, B = w.heap.size := ⟨_, rfl⟩
  obtain ⟨C, hC⟩ : ∃ C, C = w1.heap.size := ⟨_, rfl⟩
  obtain ⟨G, hG⟩ : ∃ G, G = w2.heap.size := ⟨_, rfl⟩
  have HN := Lib.hid (show B ≠ C ∧ B ≠ G ∧ C ≠ G ∧ w.heap.size ≤ G ∧ w.heap.size ≤ C by
    have h1 := HB1.out.lt
    have h2 := HB2.out.lt
    have h3 := HK2.out.size
    have h4 := HK1.out.size
    omega)
  have HBB := Lib.hid (show Blk w3 B 43 #[.int .u64 (h : Int), .int .u64 (k : Int)] by rw [hB]; exact (HB1.out.keep HK2.out (by simp)).keep HK3.out (by simp))
  have HBC := Lib.hid (show Blk w3 C 23 Z by rw [hC]; exact HB2.out.keep HK3.out (by simp))
  have HBG := Lib.hid (show Blk w3 G 23 ((Gcm.elB l 0).map (Value.int .u8)).toArray by rw [hG, show ((Gcm.elB l 0).map (Value.int .u8)).toArray = Z by rw [HZ.out]; simp [Gcm.elB]]; exact HB3.out)
  have HK := Lib.hid ((HK1.out.trans HK2.out).trans HK3.out)
  rw [← hG, ← hB, ← hC]
  clear hG hB hC HB1 HB2 HB3 HK1 HK2 HK3 _q HZ
  go_wp2_with fail
  go_loopw [5] (fun s5 wr => ∃ i : Nat, i ≤ 8 ∧ s5 = .int .i64 i ∧ Blk wr G 23 ((Gcm.elB l i).map (Value.int .u8)).toArray ∧ Keep [G] w3 wr) (fun s5 _ => 8 - (intOf s5).toNat)
  case atStart => exact ⟨0, by omega, rfl, HBG.out, Keep.refl _ _⟩
  case round =>
    obtain ⟨i, hi, rfl, hB, hk1⟩ := hrel
    have HB := Lib.hid hB
    have HK1 := Lib.hid hk1
    clear hB hk1
    by_cases hlt : i < 8
    · have HBL := Lib.hid (HBB.out.keep HK1.out (by have := HN.out; simp; omega))
      have g1 := HBL.out.cell 0
      have g2 := HBL.out.cell 1
      simp at g1 g2
      have hpw : 256 ^ (8 - 1 - i) = 2 ^ (56 - 8 * i) := by rw [show 56 - 8 * i = 8 * (8 - 1 - i) by omega, Nat.pow_mul]
      have N1 := Lib.hid (show (h : Int) / 2 ^ (56 - 8 * i) % 256 = ((nb l i : Nat) : Int) by
        have := B1.out i hlt
        rw [hpw, Nat.zero_add] at this
        rw [← this]; push_cast; rfl)
      have N2 := Lib.hid (show (k : Int) / 2 ^ (56 - 8 * i) % 256 = ((nb l (8 + i) : Nat) : Int) by
        have := B2.out i hlt
        rw [hpw] at this
        rw [← this]; push_cast; rfl)
      clear hpw
      have bi : (0 : Int) ≤ i ∧ (i : Int) < 16 := ⟨by omega, by omega⟩
      have hw8 : IntKind.i64.wrap (8 + (i : Int)) = 8 + i := IntWalk.i64_in _ ⟨by omega, by omega⟩
      have hwm : IntKind.i64.wrap (8 * (i : Int)) = 8 * i := IntWalk.i64_in _ ⟨by omega, by omega⟩
      have hws : IntKind.i64.wrap (56 - 8 * (i : Int)) = 56 - 8 * i := IntWalk.i64_in _ ⟨by omega, by omega⟩
      have ht8 : (8 + (i : Int)).toNat = 8 + i := by omega
      have bi8 : (0 : Int) ≤ 8 + (i : Int) ∧ 8 + (i : Int) < 16 := ⟨by omega, by omega⟩
      have g3 : wr.cell? ⟨G, i, none⟩ = some (.int .u8 0) := by
        rw [HB.out.cell]; simp [Gcm.elB_get l i i (by omega) (by omega)]; omega
      have z1 := HB.out.frozen i
      go_upto_region 6 with fail
      rw [N1.out]
      obtain ⟨W, hW⟩ : ∃ W, W = wr.setCell ⟨G, i, none⟩ (.int .u8 ((nb l i : Nat) : Int)) := ⟨_, rfl⟩
      rw [← hW]
      have HW := Lib.hid (show Blk W G 23 (((Gcm.elB l i).set i ((nb l i : Nat) : Int)).map (Value.int .u8)).toArray by
        rw [hW]
        have := HB.out.set_ i (.int .u8 ((nb l i : Nat) : Int))
        rwa [List.setIfInBounds_toArray, ← List.map_set] at this)
      have HKW := Lib.hid (show Keep [G] w3 W by rw [hW]; exact HK1.out.setCell (.inl (by simp)) _)
      have HBL2 := Lib.hid (HBB.out.keep HKW.out (by have := HN.out; simp; omega))
      clear hW g1 g2 z1 g3
      have g2 := HBL2.out.cell 1
      simp at g2
      have z2 := HW.out.frozen (8 + i)
      have g3 : W.cell? ⟨G, 8 + i, none⟩ = some (.int .u8 0) := by
        rw [HW.out.cell]
        simp [Gcm.elB_get l i (8 + i) (by omega) (by omega)]; omega
      go_wp2_with fail
      refine ⟨⟨i + 1, by omega, by go_num, ?_, ?_⟩, by simp [intOf]; omega⟩
      · rw [N2.out]
        have := HW.out.set_ (8 + i) (.int .u8 ((nb l (8 + i) : Nat) : Int))
        rwa [List.setIfInBounds_toArray, ← List.map_set] at this
      · exact HKW.out.setCell (.inl (by simp)) _
    · obtain rfl : i = 8 := by omega
      have HBF := Lib.hid (show Blk wr G 23 F by
        have := HB.out
        rw [Gcm.elB_full hl.1 hl.2] at this
        rw [HF.out]; exact this)
      have HBC2 := Lib.hid (HBC.out.keep HK1.out (by have := HN.out; simp; omega))
      have HFS := Lib.hid (show F.size = 16 by rw [HF.out]; simp [hl.1])
      have HF1 := Lib.hid (show F.all (·.oneCell') = true by rw [HF.out]; exact arr_cell _)
      go_wp2_with (first
        | (refine wl_load_row rfl _ _ rfl G rfl 16 5 Try.underlying23 _ F HBF.out (by rw [HFS.out]; exact blkCells) ?_)
        | (refine wl_store_row rfl _ _ _ rfl C rfl F rfl _ _ HBC2.out (by rw [HFS.out]; exact blkCells) (by rw [HFS.out]; exact HZS.out) HF1.out ?_; intro w5 hB5 hk5 hz5))
      (try simp only [Exit.inBlock, Exit.then])
      refine bodyPost_ret (v := .agg F) ?_ rfl ?_
      · refine results_cell_row Try.results17 _ w5 C 23 F (0, 0) _ ?_ hB5 Try.underlying23 rfl ?_
        · rfl
        · rw [HFS.out]; exact blkCells
      · exact ⟨rfl, (HK.out.trans' HK1.out (fun q hq => by right; have := HN.out; simp at hq; omega)).trans' hk5 (fun q hq => by right; have := HN.out; simp at hq; omega)⟩

section
variable {P : Program}
theorem run_index_aggN (w : World) (t e : TypeId) (n : Nat) (hu : P.underlying t = some (.array n e)) (ik : IntKind) (he : P.underlying e = some (.int ik)) (hs : (P.info? e).map (·.size) = some 1) (cs : Array Value) (k : IntKind) (i : Nat) (hi : i < n) (v : Value) (hc : cs[i]? = some v) :
    (Instr.index t (.agg cs) (.int k i)).run P w = .ok v w := by
  obtain ⟨ie, h1, h2⟩ := Option.map_eq_some_iff.1 hs
  simp [Instr.index, asIntOf, run_underlying hu, sizeOf, typeInfo, h1, h2, Go.part, isAgg, run_underlying he, hc, hi]
/-- An entry of an array by value. -/
theorem wl_index_aggN {ops : Array Oper} {rest : List Oper} {o : Oper} {a : Act} {w : World} {Q : Exit → Act → World → Prop} (hgd : o.guard = none) (t : TypeId) (x y : Operand) (ho : o.op = .index t x y)
    (e : TypeId) (n : Nat) (hu : P.underlying t = some (.array n e)) (ik : IntKind) (he : P.underlying e = some (.int ik)) (hs : (P.info? e).map (·.size) = some 1) (cs : Array Value) (k : IntKind) (i : Nat) (hx : a.eval x = .agg cs) (hy : a.eval y = .int k i)
    (hi : i < n) (v : Value) (hc : cs[i]? = some v) (h : wpList P ops Q rest (a.put o.dst v) w) : wpList P ops Q (o :: rest) a w := by
  refine wpList_plain hgd fun K hK => ?_
  unfold Oper.wp execOp
  simp only [ho, hx, hy, Sem.run_bind, run_index_aggN w t e n hu ik he hs cs k i hi v hc, Result.andThen_ok]
  exact hK _ _ h
end

theorem bit_top (x i : Nat) (hi : i < 64) : x * 2 ^ i % 2 ^ 64 / 2 ^ 63 % 2 = x / 2 ^ (63 - i) % 2 := by
  have h1 := Nat.testBit_mod_two_pow (x * 2 ^ i) 64 63
  rw [Nat.testBit_eq_decide_div_mod_eq, Nat.testBit_eq_decide_div_mod_eq] at h1
  simp at h1
  have h2 := Gcm.bit_mul_pow x i 63
  rw [if_pos (by omega)] at h2
  rw [← h2]
  rcases Nat.mod_two_eq_zero_or_one (x * 2 ^ i % 2 ^ 64 / 2 ^ 63) with a | a <;> rcases Nat.mod_two_eq_zero_or_one (x * 2 ^ i / 2 ^ 63) with b | b <;> simp_all
theorem hi_bit (e i : Nat) (hi : i < 64) : e / 2 ^ 64 * 2 ^ i % 2 ^ 64 / 2 ^ 63 % 2 = e / 2 ^ (127 - (0 + i)) % 2 := by
  rw [bit_top _ i hi, Nat.div_div_eq_div_mul, ← Nat.pow_add, show 64 + (63 - i) = 127 - (0 + i) by omega]
theorem lo_bit (e i : Nat) (hi : i < 64) : e % 2 ^ 64 * 2 ^ i % 2 ^ 64 / 2 ^ 63 % 2 = e / 2 ^ (127 - (64 + i)) % 2 := by
  rw [bit_top _ i hi, show 127 - (64 + i) = 63 - i by omega]
  have h1 := Nat.testBit_mod_two_pow e 64 (63 - i)
  rw [Nat.testBit_eq_decide_div_mod_eq, Nat.testBit_eq_decide_div_mod_eq] at h1
  have h2 : decide (63 - i < 64) = true := by simp; omega
  rw [h2, Bool.true_and] at h1
  have := decide_eq_decide.1 h1
  rcases Nat.mod_two_eq_zero_or_one (e % 2 ^ 64 / 2 ^ (63 - i)) with a | a <;> rcases Nat.mod_two_eq_zero_or_one (e / 2 ^ (63 - i)) with b | b <;> simp_all
end Go.Proofs.Ytlkjngbelckgkaa
