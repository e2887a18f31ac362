/- The document's Patch. -/
import Derived.Test.YtbjlpeophklmlaaCPatch
import Derived.Test.YtbjlpeophklmlaaCRSeal
import Derived.Test.YtbjlpeophklmlaaCGauss
import Derived.Test.YtbjlpeophklmlaaCSkip
import Derived.BigRegion
import Derived.Laws.CopyOwn
namespace Go.Proofs.Ytbjlpeophklmlaa
open Go.RowKit

/-- 32 registers in a block. -/
def Arr (W : World) (g : Nat) (f : Nat → Nat) : Prop := ∃ cs : Array Value, W.heap[g]? = some (.cells cs 56 (0, 0)) ∧ cs.size = 32 ∧ ∀ i, i < 32 → cs[i]? = some (.int .u32 ((f i : Nat) : Int))
theorem Arr.cell {W : World} {g : Nat} {f : Nat → Nat} (h : Arr W g f) {i : Nat} (hi : i < 32) : W.cell? ⟨g, i, none⟩ = some (.int .u32 ((f i : Nat) : Int)) := by
  obtain ⟨cs, h1, _, h3⟩ := h
  rw [cell_of_row _ _ _ _ _ _ h1]; exact h3 i hi
theorem Arr.fr {W : World} {g : Nat} {f : Nat → Nat} (h : Arr W g f) (i : Nat) : W.frozen? ⟨g, i, none⟩ = false := by
  obtain ⟨cs, h1, _⟩ := h
  simp [World.frozen?, h1]
theorem Arr.blk {W W' : World} {g : Nat} {f : Nat → Nat} (h : Arr W g f) (hb : W'.heap[g]? = W.heap[g]?) : Arr W' g f := by
  obtain ⟨cs, h1, r⟩ := h
  exact ⟨cs, hb.trans h1, r⟩
def updF (f : Nat → Nat) (k x : Nat) (i : Nat) : Nat := if i = k then x else f i
theorem Arr.set {W : World} {g : Nat} {f : Nat → Nat} (h : Arr W g f) (k x : Nat) : Arr (W.setCell ⟨g, k, none⟩ (.int .u32 (x : Int))) g (updF f k x) := by
  obtain ⟨cs, h1, h2, h3⟩ := h
  refine ⟨_, block_setCell h1 k _, by rw [Array.size_setIfInBounds]; exact h2, fun i hi => ?_⟩
  unfold updF
  by_cases e : i = k
  · subst e
    rw [Array.getElem?_setIfInBounds_self_of_lt (by omega), if_pos rfl]
  · rw [Array.getElem?_setIfInBounds_ne (fun h => e h.symm), if_neg e]
    exact h3 i hi
theorem Arr.congr {W : World} {g : Nat} {f f' : Nat → Nat} (h : Arr W g f) (he : ∀ i, i < 32 → f i = f' i) : Arr W g f' := by
  obtain ⟨cs, h1, h2, h3⟩ := h
  exact ⟨cs, h1, h2, fun i hi => by rw [h3 i hi, he i hi]⟩
theorem Gau.congr {K : Nat} {t b t' b' : Nat → Nat} {k : Nat} (h : Gau K t b k) (he : ∀ i, i < 32 → t i = t' i ∧ b i = b' i) : Gau K t' b' k :=
  ⟨fun i hi => by rw [← (he i hi).1, ← (he i hi).2]; exact h.eqs i hi, fun i hi => by rw [← (he i hi).2]; exact h.lt i hi, fun i j hi hj => by rw [← (he i hi).1]; exact h.done i j hi hj, fun v hv => by
    obtain ⟨S, hS⟩ := h.spans v hv
    exact ⟨S, by rw [← hS]; exact comb_congr 32 (fun i hi => ⟨rfl, (he i hi).2.symm⟩)⟩⟩

/-- A text whose four bytes are noughts. -/
def zt (zs : List Int) (m : Nat) : List Int := zs.take m ++ (spell 0 ++ zs.drop (m + 4))
theorem zt_sets {zs : List Int} {m : Nat} (h : m + 4 ≤ zs.length) : (((zs.set m 0).set (m + 1) 0).set (m + 2) 0).set (m + 3) 0 = zt zs m := by
  have e : zs = zs.take m ++ (zs.getD m 0 :: zs.getD (m + 1) 0 :: zs.getD (m + 2) 0 :: zs.getD (m + 3) 0 :: zs.drop (m + 4)) := by
    rw [← getD_drop zs (m + 3) (by omega), ← getD_drop zs (m + 2) (by omega), ← getD_drop zs (m + 1) (by omega), ← getD_drop zs m (by omega), List.take_append_drop]
  have hl : (zs.take m).length = m := by rw [List.length_take]; omega
  unfold zt spell
  generalize zs.drop (m + 4) = q at *
  generalize zs.getD m 0 = c0 at *
  generalize zs.getD (m + 1) 0 = c1 at *
  generalize zs.getD (m + 2) 0 = c2 at *
  generalize zs.getD (m + 3) 0 = c3 at *
  generalize zs.take m = p at *
  subst e
  subst hl
  simp
theorem zt_len {zs : List Int} {m : Nat} (h : m + 4 ≤ zs.length) : (zt zs m).length = zs.length := by
  unfold zt
  rw [List.length_append, List.length_append, spell_len, List.length_take, List.length_drop]
  omega
theorem zt_b8 {zs : List Int} (m : Nat) (h8 : B8 zs) : B8 (zt zs m) := (h8.take m).append ((spell_b8 _).append (h8.drop _))
theorem zt_at {zs : List Int} {m j : Nat} (h : m + 4 ≤ zs.length) (h1 : m ≤ j) (h2 : j < m + 4) : (zt zs m).getD j 0 = 0 := by
  have hl : (zs.take m).length = m := by rw [List.length_take]; omega
  unfold zt
  simp only [List.getD_eq_getElem?_getD]
  rw [List.getElem?_append_right (by omega), hl, List.getElem?_append_left (by rw [spell_len]; omega)]
  have : j - m = 0 ∨ j - m = 1 ∨ j - m = 2 ∨ j - m = 3 := by omega
  rcases this with h | h | h | h <;> rw [h] <;> rfl
theorem set_split2 (t : List Int) (j : Nat) (c : Int) (hj : j < t.length) : t.set j c = t.take j ++ c :: t.drop (j + 1) := by
  rw [List.set_eq_take_append_cons_drop, if_pos hj]
theorem goR_flip2 (r : Nat) (t : List Int) (j x : Nat) (hj : j < t.length) (h0 : t.getD j 0 = 0) :
    goR r (t.set j (x : Int)) = goR r t ^^^ stn (8 * (t.length - j)) x := by
  rw [set_split2 t j _ hj]
  have e : t = t.take j ++ (0 : Int) :: t.drop (j + 1) := by
    conv => lhs; rw [← List.take_append_drop j t, getD_drop t j hj, h0]
  conv => rhs; rw [e]
  rw [goR_append, goR_append, goR_cons, goR_cons, Int.toNat_natCast, show Int.toNat 0 = 0 from rfl, Nat.xor_zero, stn_xor, goR_xor, ← stn_add]
  congr 2
  have : (t.take j ++ (0 : Int) :: t.drop (j + 1)).length = t.length := by rw [← e]
  rw [List.length_append, List.length_cons, List.length_take, List.length_drop] at *
  omega
theorem stn_pow2 (i x : Nat) : stn (x + i) (2 ^ i) = stn x 1 := by
  rw [Nat.add_comm, stn_add]
  have := stn_shift i 1
  rw [Nat.one_mul] at this
  rw [this]
theorem set_b8' {t : List Int} (h : B8 t) (j : Nat) {c : Int} (hc : 0 ≤ c ∧ c ≤ 255) : B8 (t.set j c) := by
  intro x hx
  rcases List.mem_or_eq_of_mem_set hx with h1 | h1
  · exact h x h1
  · rw [h1]; exact hc
theorem sum_xor {a b : List Int} (ha : B8 a) (hb : B8 b) : sumOf a ^^^ sumOf b = goR 4294967295 a ^^^ goR 4294967295 b := by
  have h1 := goR_lt a (show 4294967295 < 4294967296 by decide) ha
  have h2 := goR_lt b (show 4294967295 < 4294967296 by decide) hb
  unfold sumOf
  rw [flip_xor h1, flip_xor h2]
  generalize goR 4294967295 a = A
  generalize goR 4294967295 b = B
  generalize 4294967295 = F
  have e : A ^^^ F ^^^ (B ^^^ F) = A ^^^ B ^^^ (F ^^^ F) := by ac_rfl
  rw [e, Nat.xor_self, Nat.xor_zero]
/-- What one of the 32 bits turns. -/
theorem sum_bit {zs : List Int} {m k : Nat} (h : m + 4 ≤ zs.length) (h8 : B8 zs) (hk : k < 32) :
    sumOf ((zt zs m).set (m + k / 8) ((2 ^ (k % 8) : Nat) : Int)) ^^^ sumOf (zt zs m) = stn (8 * zs.length - 8 * m) (2 ^ k) := by
  have hl := zt_len h
  have hp : 2 ^ (k % 8) < 256 := Nat.pow_lt_pow_right (n := 8) (by decide) (Nat.mod_lt _ (by decide))
  have hpi : (0 : Int) ≤ ((2 ^ (k % 8) : Nat) : Int) ∧ ((2 ^ (k % 8) : Nat) : Int) ≤ 255 := by
    generalize 2 ^ (k % 8) = x at hp
    omega
  rw [sum_xor (set_b8' (zt_b8 m h8) _ hpi) (zt_b8 m h8), goR_flip2 _ _ _ _ (by rw [hl]; omega) (zt_at h (by omega) (by omega)), Nat.xor_comm, xor_can, hl]
  have e1 : 8 * (zs.length - (m + k / 8)) = (8 * zs.length - 8 * m - k) + k % 8 := by omega
  have e2 : 8 * zs.length - 8 * m = (8 * zs.length - 8 * m - k) + k := by omega
  rw [e1, stn_pow2, e2, stn_pow2]
  congr 1
  omega
/-- The answer of the 32 equations is the only one. -/
theorem gauss_only {zs : List Int} {m want y : Nat} (h : m + 4 ≤ zs.length) (h8 : B8 zs) (hw : want < 4294967296) (hy : y < 4294967296) (he : stn (8 * zs.length - 8 * m) y = want ^^^ sumOf (zt zs m)) : zs.take m ++ (spell y ++ zs.drop (m + 4)) = ptText zs m want := by
  have hz : goR 4294967295 (zt zs m) = goR (stn 32 (goR 4294967295 (zs.take m))) (zs.drop (m + 4)) := by
    unfold zt
    rw [goR_append, goR_append, goR_spell _ _ (by decide), Nat.xor_zero]
  have h1 : goR 4294967295 (zs.take m ++ (spell y ++ zs.drop (m + 4))) = goR 4294967295 (zt zs m) ^^^ stn (8 * zs.length - 8 * m) y := by
    rw [goR_append, goR_append, goR_spell _ _ hy, stn_xor, goR_xor, hz, ← stn_add, List.length_drop]
    congr 2
    omega
  have b1 : B8 (zs.take m ++ (spell y ++ zs.drop (m + 4))) := (h8.take m).append ((spell_b8 _).append (h8.drop _))
  have h2 : sumOf (zs.take m ++ (spell y ++ zs.drop (m + 4))) = want := by
    refine xor_inj' (a := sumOf (zt zs m)) ?_
    rw [sum_xor b1 (zt_b8 m h8), h1, he, Nat.xor_comm (goR 4294967295 (zt zs m)), Nat.xor_assoc, Nat.xor_self, Nat.xor_zero]
  have := pt_only h8 hw hy h2
  unfold ptText
  rw [this]

end Go.Proofs.Ytbjlpeophklmlaa
