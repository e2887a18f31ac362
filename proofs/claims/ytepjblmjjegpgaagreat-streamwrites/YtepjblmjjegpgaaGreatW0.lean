/- Plain arithmetic of a register of 32 bits and of its steps: no program is named here. -/
import Derived.WalkKit
import Derived.Laws.BitsAllLaws
namespace Go.Proofs.YtepjblmjjegpgaaGreat

theorem xor_lcomm (a b c : Nat) : a ^^^ (b ^^^ c) = b ^^^ (a ^^^ c) := by
  rw [← Nat.xor_assoc, Nat.xor_comm a b, Nat.xor_assoc]
theorem xor_can (a b : Nat) : a ^^^ (a ^^^ b) = b := by rw [← Nat.xor_assoc, Nat.xor_self, Nat.zero_xor]
theorem xor_inj {a b c : Nat} (h : a ^^^ b = a ^^^ c) : b = c := by rw [← xor_can a b, h, xor_can]
theorem xor_inj' {a b c : Nat} (h : b ^^^ a = c ^^^ a) : b = c := xor_inj (a := a) (by rw [Nat.xor_comm a b, Nat.xor_comm a c, h])
theorem xor_eq_self {a b : Nat} (h : a ^^^ b = a) : b = 0 := xor_inj (a := a) (by rw [h, Nat.xor_zero])
theorem xor_mod2 (a b : Nat) : (a ^^^ b) % 2 = (a + b) % 2 := by
  have := @Nat.xor_mod_two_pow a b 1
  rw [Nat.pow_one] at this
  rw [this]
  rcases Nat.mod_two_eq_zero_or_one a with h | h <;> rcases Nat.mod_two_eq_zero_or_one b with k | k <;> rw [h, k] <;> simp [Nat.add_mod, h, k]
theorem xor_lt {a b : Nat} (ha : a < 4294967296) (hb : b < 4294967296) : a ^^^ b < 4294967296 := Nat.xor_lt_two_pow (n := 32) ha hb

def poly : Nat := 3988292384
/-- One step of the register. -/
def st (r : Nat) : Nat := if r % 2 = 1 then (r / 2) ^^^ poly else r / 2
def stn : Nat → Nat → Nat
  | 0, r => r
  | k + 1, r => stn k (st r)

theorem st_zero : st 0 = 0 := by decide
theorem st_xor (a b : Nat) : st (a ^^^ b) = st a ^^^ st b := by
  have hm := xor_mod2 a b
  unfold st
  rw [Nat.xor_div_two]
  by_cases h : a % 2 = 1 <;> by_cases k : b % 2 = 1
  · rw [if_pos h, if_pos k, if_neg (by omega), Nat.xor_assoc, xor_lcomm poly, Nat.xor_self, Nat.xor_zero]
  · rw [if_pos h, if_neg k, if_pos (by omega), Nat.xor_assoc, Nat.xor_assoc, Nat.xor_comm poly]
  · rw [if_neg h, if_pos k, if_pos (by omega), Nat.xor_assoc]
  · rw [if_neg h, if_neg k, if_neg (by omega)]
theorem st_lt {r : Nat} (h : r < 4294967296) : st r < 4294967296 := by
  unfold st
  split
  · exact xor_lt (by omega) (by decide)
  · omega
theorem stn_zero (k : Nat) : stn k 0 = 0 := by
  induction k with
  | zero => rfl
  | succ k ih => rw [stn, st_zero, ih]
theorem stn_xor (k : Nat) : ∀ a b, stn k (a ^^^ b) = stn k a ^^^ stn k b := by
  induction k with
  | zero => intro a b; rfl
  | succ k ih => intro a b; rw [stn, st_xor, ih]; rfl
theorem stn_lt (k : Nat) : ∀ {r}, r < 4294967296 → stn k r < 4294967296 := by
  induction k with
  | zero => intro r h; exact h
  | succ k ih => intro r h; exact ih (st_lt h)
theorem stn_add (a b : Nat) : ∀ r, stn (a + b) r = stn b (stn a r) := by
  induction a with
  | zero => intro r; rw [Nat.zero_add]; rfl
  | succ a ih => intro r; rw [Nat.succ_add]; exact ih (st r)
theorem stn_succ (k r : Nat) : stn (k + 1) r = st (stn k r) := stn_add k 1 r
theorem st_double (m : Nat) : st (2 * m) = m := by
  unfold st
  rw [if_neg (by omega)]
  omega
theorem stn_shift (k : Nat) : ∀ m, stn k (m * 2 ^ k) = m := by
  induction k with
  | zero => intro m; simp [stn]
  | succ k ih =>
    intro m
    rw [stn, Nat.pow_succ, ← Nat.mul_assoc, Nat.mul_comm _ 2, st_double, ih]

/-- A step back. -/
def bk (r : Nat) : Nat := if 2147483648 ≤ r then 2 * (r ^^^ poly) + 1 else 2 * r
def bkn : Nat → Nat → Nat
  | 0, r => r
  | k + 1, r => bkn k (bk r)
theorem xor_poly_lo {r : Nat} (h : r < 4294967296) (h2 : 2147483648 ≤ r) : r ^^^ poly < 2147483648 := by
  have h31 : (r ^^^ poly).testBit 31 = false := by
    rw [Nat.testBit_xor]
    have : r.testBit 31 = true := by
      rw [Nat.testBit_eq_decide_div_mod_eq, decide_eq_true_iff]
      omega
    rw [this]
    decide
  have := xor_lt h (show poly < 4294967296 by decide)
  rw [Nat.testBit_eq_decide_div_mod_eq, decide_eq_false_iff_not] at h31
  omega
theorem xor_poly_hi {r : Nat} (h : r < 2147483648) : 2147483648 ≤ r ^^^ poly := by
  have h31 : (r ^^^ poly).testBit 31 = true := by
    rw [Nat.testBit_xor, Nat.testBit_lt_two_pow (by omega)]
    decide
  rw [Nat.testBit_eq_decide_div_mod_eq, decide_eq_true_iff] at h31
  omega
theorem st_bk {r : Nat} : st (bk r) = r := by
  unfold bk
  split
  · unfold st
    rw [if_pos (by omega), show (2 * (r ^^^ poly) + 1) / 2 = r ^^^ poly by omega, Nat.xor_assoc, Nat.xor_self, Nat.xor_zero]
  · exact st_double r
theorem bk_lt {r : Nat} (h : r < 4294967296) : bk r < 4294967296 := by
  unfold bk
  split
  · rename_i h2
    have := xor_poly_lo h h2
    omega
  · omega
theorem bk_st {r : Nat} (h : r < 4294967296) : bk (st r) = r := by
  unfold st
  split
  · unfold bk
    rw [if_pos (xor_poly_hi (by omega)), Nat.xor_assoc, Nat.xor_self, Nat.xor_zero]
    omega
  · unfold bk
    rw [if_neg (by omega)]
    omega
theorem bkn_lt (k : Nat) : ∀ {r}, r < 4294967296 → bkn k r < 4294967296 := by
  induction k with
  | zero => intro r h; exact h
  | succ k ih => intro r h; exact ih (bk_lt h)
theorem stn_bkn (k : Nat) : ∀ r, stn k (bkn k r) = r := by
  induction k with
  | zero => intro r; rfl
  | succ k ih => intro r; rw [stn_succ]; show st (stn k (bkn k (bk r))) = r; rw [ih, st_bk]
theorem bkn_succ (k : Nat) : ∀ r, bkn (k + 1) r = bk (bkn k r) := by
  induction k with
  | zero => intro r; rfl
  | succ k ih => intro r; exact ih (bk r)
theorem bkn_stn (k : Nat) : ∀ {r}, r < 4294967296 → bkn k (stn k r) = r := by
  induction k with
  | zero => intro r _; rfl
  | succ k ih => intro r h; rw [bkn_succ]; show bk (bkn k (stn k (st r))) = r; rw [ih (st_lt h), bk_st h]
theorem stn_inj (k : Nat) {a b : Nat} (ha : a < 4294967296) (hb : b < 4294967296) (h : stn k a = stn k b) : a = b := by
  rw [← bkn_stn k ha, h, bkn_stn k hb]

/-! ### Bytes go in -/
def goR : Nat → List Int → Nat
  | r, [] => r
  | r, c :: cs => goR (stn 8 (r ^^^ c.toNat)) cs
theorem goR_nil (r : Nat) : goR r [] = r := by unfold goR; exact rfl
theorem goR_cons (r : Nat) (c : Int) (cs : List Int) : goR r (c :: cs) = goR (stn 8 (r ^^^ c.toNat)) cs := by conv => lhs; unfold goR
def B8 (zs : List Int) : Prop := ∀ c ∈ zs, 0 ≤ c ∧ c ≤ 255
theorem B8.tail {c : Int} {cs : List Int} (h : B8 (c :: cs)) : B8 cs := fun x hx => h x (List.mem_cons_of_mem _ hx)
theorem B8.head {c : Int} {cs : List Int} (h : B8 (c :: cs)) : 0 ≤ c ∧ c ≤ 255 := h c List.mem_cons_self
theorem B8.append {a b : List Int} (h : B8 a) (k : B8 b) : B8 (a ++ b) := fun x hx => (List.mem_append.1 hx).elim (h x) (k x)
theorem B8.take {a : List Int} (h : B8 a) (n : Nat) : B8 (a.take n) := fun x hx => h x (List.mem_of_mem_take hx)
theorem B8.drop {a : List Int} (h : B8 a) (n : Nat) : B8 (a.drop n) := fun x hx => h x (List.mem_of_mem_drop hx)
theorem B8.nil : B8 [] := fun _ h => by cases h
theorem goR_lt : ∀ (zs : List Int) {r : Nat}, r < 4294967296 → B8 zs → goR r zs < 4294967296
  | [], _, h, _ => h
  | c :: cs, r, h, hb => by
    rw [goR_cons]
    exact goR_lt cs (stn_lt 8 (xor_lt h (by have := hb.head; omega))) hb.tail
theorem goR_append : ∀ (a b : List Int) (r : Nat), goR r (a ++ b) = goR (goR r a) b
  | [], b, r => by rw [goR_nil, List.nil_append]
  | c :: cs, b, r => by rw [List.cons_append, goR_cons, goR_cons, goR_append cs b _]
theorem goR_snoc (a : List Int) (c : Int) (r : Nat) : goR r (a ++ [c]) = stn 8 (goR r a ^^^ c.toNat) := by rw [goR_append, goR_cons, goR_nil]
theorem goR_xor : ∀ (zs : List Int) (r s : Nat), goR (r ^^^ s) zs = goR r zs ^^^ stn (8 * zs.length) s
  | [], r, s => by rw [goR_nil, goR_nil]; exact rfl
  | c :: cs, r, s => by
    rw [goR_cons, goR_cons, Nat.xor_assoc, Nat.xor_comm s, ← Nat.xor_assoc, stn_xor, goR_xor cs, List.length_cons, Nat.mul_succ, Nat.add_comm, stn_add]
theorem goR_inj (zs : List Int) {r s : Nat} (hr : r < 4294967296) (hs : s < 4294967296) (h : goR r zs = goR s zs) : r = s := by
  have e : goR (s ^^^ (r ^^^ s)) zs = goR s zs ^^^ stn (8 * zs.length) (r ^^^ s) := goR_xor zs s (r ^^^ s)
  rw [Nat.xor_comm r s, xor_can, h] at e
  have e2 := xor_eq_self e.symm
  have e3 := stn_inj (8 * zs.length) (xor_lt hs hr) (show 0 < 4294967296 by decide) (by rw [e2, stn_zero])
  have := xor_can s r
  rw [e3, Nat.xor_zero] at this
  exact this.symm

/-- The register ahead of bytes, by the one behind them. -/
def outR : Nat → List Int → Nat
  | r, [] => r
  | r, c :: cs => bkn 8 (outR r cs) ^^^ c.toNat
theorem outR_cons (r : Nat) (c : Int) (cs : List Int) : outR r (c :: cs) = bkn 8 (outR r cs) ^^^ c.toNat := by conv => lhs; unfold outR
theorem outR_lt : ∀ (zs : List Int) {r : Nat}, r < 4294967296 → B8 zs → outR r zs < 4294967296
  | [], _, h, _ => h
  | c :: cs, r, h, hb => by
    rw [outR_cons]
    exact xor_lt (bkn_lt 8 (outR_lt cs h hb.tail)) (by have := hb.head; omega)
theorem goR_outR : ∀ (zs : List Int) (r : Nat), goR (outR r zs) zs = r
  | [], _ => rfl
  | c :: cs, r => by
    rw [outR_cons, goR_cons, Nat.xor_assoc, Nat.xor_self, Nat.xor_zero, stn_bkn, goR_outR cs]

/-! ### The sum -/
def sumOf (zs : List Int) : Nat := 4294967295 - goR 4294967295 zs
def moreOf (s : Nat) (zs : List Int) : Nat := 4294967295 - goR (4294967295 - s) zs
theorem flip_xor {r : Nat} (h : r < 4294967296) : 4294967295 - r = r ^^^ 4294967295 := by
  have h2 : (4294967295 : Nat) = 2 ^ 32 - 1 := by decide
  refine Nat.eq_of_testBit_eq fun i => ?_
  rw [Nat.testBit_xor, show 4294967295 - r = 2 ^ 32 - (r + 1) by omega, Nat.testBit_two_pow_sub_succ (by omega), h2, Nat.testBit_two_pow_sub_one]
  by_cases hi : i < 32
  · simp [hi]
  · rw [Nat.testBit_lt_two_pow (Nat.lt_of_lt_of_le h (Nat.pow_le_pow_right (n := 2) (by omega) (show 32 ≤ i by omega)))]
    simp [hi]
theorem sumOf_lt (zs : List Int) : sumOf zs < 4294967296 := by unfold sumOf; omega
theorem moreOf_lt (s : Nat) (zs : List Int) : moreOf s zs < 4294967296 := by unfold moreOf; omega
theorem flip_flip {r : Nat} (h : r < 4294967296) : 4294967295 - (4294967295 - r) = r := by omega
theorem moreOf_sum (a b : List Int) (ha : B8 a) : moreOf (sumOf a) b = sumOf (a ++ b) := by
  unfold moreOf sumOf
  rw [flip_flip (goR_lt a (by decide) ha), goR_append]
theorem moreOf_zero (b : List Int) : moreOf 0 b = sumOf b := rfl
/-- What Join tells. -/
def joinOf (a b n : Nat) : Nat := stn (8 * n) a ^^^ b
theorem join_sum (a b : List Int) (ha : B8 a) (hb : B8 b) : joinOf (sumOf a) (sumOf b) b.length = sumOf (a ++ b) := by
  have h1 := goR_lt a (show 4294967295 < 4294967296 by decide) ha
  have h2 := goR_lt b (show 4294967295 < 4294967296 by decide) hb
  have h3 := goR_lt b h1 hb
  unfold joinOf sumOf
  rw [goR_append, flip_xor h1, flip_xor h2, flip_xor h3]
  have e := goR_xor b 4294967295 (goR 4294967295 a ^^^ 4294967295)
  rw [Nat.xor_comm (goR 4294967295 a), xor_can] at e
  rw [e, Nat.xor_comm (goR 4294967295 a), ← Nat.xor_assoc, Nat.xor_comm (stn _ _)]

/-! ### Four bytes -/
def spell (s : Nat) : List Int := [((s % 256 : Nat) : Int), ((s / 256 % 256 : Nat) : Int), ((s / 65536 % 256 : Nat) : Int), ((s / 16777216 % 256 : Nat) : Int)]
def le4 (zs : List Int) : Nat := (zs.getD 0 0).toNat + 256 * ((zs.getD 1 0).toNat + 256 * ((zs.getD 2 0).toNat + 256 * (zs.getD 3 0).toNat))
theorem spell_len (s : Nat) : (spell s).length = 4 := rfl
theorem spell_b8 (s : Nat) : B8 (spell s) := by
  intro c hc
  simp only [spell, List.mem_cons, List.not_mem_nil, or_false] at hc
  omega
theorem le4_spell {s : Nat} (h : s < 4294967296) : le4 (spell s) = s := by
  simp only [le4, spell, List.getD_cons_zero, List.getD_cons_succ, Int.toNat_natCast]
  omega
theorem spell_le4 {a b c d : Int} (h : B8 [a, b, c, d]) : spell (le4 [a, b, c, d]) = [a, b, c, d] := by
  have h0 := h a (by simp)
  have h1 := h b (by simp)
  have h2 := h c (by simp)
  have h3 := h d (by simp)
  simp only [le4, spell, List.getD_cons_zero, List.getD_cons_succ, List.cons.injEq, and_true]
  omega
theorem spell_inj {s t : Nat} (hs : s < 4294967296) (ht : t < 4294967296) (h : spell s = spell t) : s = t := by
  rw [← le4_spell hs, h, le4_spell ht]
theorem byte_in (r b m : Nat) (hb : b < 256) : stn 8 (r ^^^ (b + 256 * m)) = stn 8 (r ^^^ b) ^^^ m := by
  have e : b + 256 * m = b ^^^ (m * 2 ^ 8) := by
    have := Nat.two_pow_add_eq_or_of_lt (i := 8) (b := b) (by omega) m
    have hx : (2 ^ 8 * m) ||| b = (2 ^ 8 * m) ^^^ b := by
      refine Nat.eq_of_testBit_eq fun i => ?_
      rw [Nat.testBit_or, Nat.testBit_xor, Nat.testBit_two_pow_mul]
      by_cases hi : i < 8
      · simp [show ¬ 8 ≤ i by omega]
      · rw [Nat.testBit_lt_two_pow (x := b) (i := i) (Nat.lt_of_lt_of_le hb (Nat.pow_le_pow_right (n := 2) (by omega) (show 8 ≤ i by omega)))]
        simp
    rw [Nat.xor_comm, Nat.mul_comm m, ← hx, ← this]
    omega
  rw [e, ← Nat.xor_assoc, stn_xor, stn_shift]
theorem goR_four (r : Nat) (a b c d : Int) (h : B8 [a, b, c, d]) : goR r [a, b, c, d] = stn 32 (r ^^^ le4 [a, b, c, d]) := by
  have h0 := h a (by simp)
  have h1 := h b (by simp)
  have h2 := h c (by simp)
  have h3 := h d (by simp)
  rw [goR_cons, goR_cons, goR_cons, goR_cons, goR_nil]
  simp only [le4, List.getD_cons_zero, List.getD_cons_succ]
  rw [show (32 : Nat) = 8 + (8 + (8 + 8)) from rfl, stn_add, stn_add, stn_add, byte_in r _ _ (by omega), byte_in _ _ _ (by omega), byte_in _ _ _ (by omega)]
theorem goR_spell (r s : Nat) (hs : s < 4294967296) : goR r (spell s) = stn 32 (r ^^^ s) := by
  have := goR_four r _ _ _ _ (spell_b8 s)
  rw [show goR r (spell s) = goR r [_, _, _, _] from rfl, this]
  congr 2
  exact le4_spell hs

end Go.Proofs.YtepjblmjjegpgaaGreat
