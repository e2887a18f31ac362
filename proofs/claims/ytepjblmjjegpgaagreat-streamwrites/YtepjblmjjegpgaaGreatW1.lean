/- Plain arithmetic and lists for numbers in groups of seven bits: no program is named here. -/
import Derived.WalkKit
import Derived.Laws.BitsAllLaws
import Derived.OpenShut
namespace Go.Proofs.YtepjblmjjegpgaaGreat
open Go.RowKit
set_option maxRecDepth 100000

theorem hide {p : Prop} (h : p) : Hid p := h
theorem unhide {p : Prop} (h : Hid p) : p := h

theorem ret_int {k : IntKind} {a b : Int} (h : a = b) : Ending.returned (.int k a) = .returned (.int k b) := by rw [h]

theorem or_at (i n m : Nat) (hn : n < 2 ^ i) (h64 : m * 2 ^ i + n < 18446744073709551616) :
    bits .or .u64 (n : Int) (IntKind.u64.wrap ((m : Int) * 2 ^ i)) = (n : Int) + (m : Int) * 2 ^ i := by
  have e : ((m : Int) * 2 ^ i) = ((m * 2 ^ i : Nat) : Int) := by simp [Int.natCast_mul, Int.natCast_pow]
  rw [e, IntKind.wrap_u64]
  have e2 : ((m * 2 ^ i : Nat) : Int) % 18446744073709551616 = ((m * 2 ^ i : Nat) : Int) := by omega
  rw [e2, u64_or_nat n (m * 2 ^ i) (by omega) (by omega), Nat.or_comm, nat_join i (m * 2 ^ i) n (Nat.mul_mod_left _ _) hn]
  omega

theorem pow128 (t : Nat) : (128 : Nat) ^ t = 2 ^ (7 * t) := by rw [Nat.pow_mul]
theorem pow128i (t : Nat) : (128 : Int) ^ t = ((128 ^ t : Nat) : Int) := by simp [Int.natCast_pow]
theorem pow128_pos (t : Nat) : 0 < (128 : Int) ^ t := by rw [pow128i]; have := Nat.pow_pos (n := t) (show 0 < 128 by decide); omega
theorem pow128_succ (t : Nat) : (128 : Int) ^ (t + 1) = 128 ^ t * 128 := Int.pow_succ _ _
theorem pow128_le8 (t : Nat) (h : t ≤ 8) : (128 : Nat) ^ t ≤ 72057594037927936 := by
  have := Nat.pow_le_pow_right (show 0 < 128 by decide) h
  simpa using this

/-- One step of a number: what 'or' and 'shift' make is a sum. -/
theorem or_step (n c : Int) (t : Nat) (h0 : 0 ≤ n) (hn : n < 128 ^ t) (hc0 : 0 ≤ c) (hc : c ≤ 255) (ht : t ≤ 8 ∨ (t = 9 ∧ c ≤ 1)) :
    bits .or .u64 n (IntKind.u64.wrap (c % 128 * 2 ^ (7 * (t : Int)).toNat)) = n + c % 128 * 128 ^ t := by
  have e1 : (7 * (t : Int)).toNat = 7 * t := by omega
  have e2 : (128 : Int) ^ t = 2 ^ (7 * t) := by rw [Int.pow_mul]; rfl
  obtain ⟨N, rfl⟩ := Int.eq_ofNat_of_zero_le h0
  obtain ⟨M, hM⟩ := Int.eq_ofNat_of_zero_le (show 0 ≤ c % 128 by omega)
  rw [e1, e2, hM]
  rw [pow128i] at hn
  have hn' : N < 2 ^ (7 * t) := by rw [← pow128]; omega
  refine or_at (7 * t) N M hn' ?_
  rw [← pow128]
  rcases ht with ht | ⟨rfl, h1⟩
  · have hp := pow128_le8 t ht
    have hM' : M ≤ 127 := by omega
    have := Nat.mul_le_mul hM' hp
    have h2 : N < 72057594037927936 := by omega
    omega
  · have hM' : M ≤ 1 := by omega
    have := Nat.mul_le_mul_right (128 ^ 9) hM'
    have h2 : N < 128 ^ 9 := by omega
    have h3 : (128 : Nat) ^ 9 = 9223372036854775808 := by decide
    omega

theorem step_bound (n c : Int) (t : Nat) (h0 : 0 ≤ n) (hn : n < 128 ^ t) : 0 ≤ n + c % 128 * 128 ^ t ∧ n + c % 128 * 128 ^ t < 128 ^ (t + 1) := by
  have hp := pow128_pos t
  have hm : c % 128 ≤ 127 := by omega
  have hm0 : 0 ≤ c % 128 := by omega
  have h1 := Int.mul_le_mul_of_nonneg_right hm (Int.le_of_lt hp)
  have h2 := Int.mul_nonneg hm0 (Int.le_of_lt hp)
  rw [pow128_succ]
  omega

/-- What is wrong with a byte at its place within a number. -/
def faultOf (p c : Int) : Int := if p = 9 ∧ 1 < c then 12 else if 0 < p ∧ c = 0 then 13 else 0

/-- The document's reading, byte by byte: the number, how many bytes (the place of what is wrong), the error. -/
def scan : Nat → Int → List Int → Int × Nat × Int
  | i, _, [] => (0, i, 11)
  | i, n, c :: cs => if faultOf i c ≠ 0 then (0, i, faultOf i c) else if c < 128 then (n + c % 128 * 128 ^ i, i + 1, 0) else scan (i + 1) (n + c % 128 * 128 ^ i) cs

def rdNum (zs : List Int) (k : Int) : Int := if k < 0 ∨ (zs.length : Int) < k then 0 else (scan 0 0 (zs.drop k.toNat)).1
def rdEnd (zs : List Int) (k : Int) : Int := if k < 0 ∨ (zs.length : Int) < k then 0 else k + (scan 0 0 (zs.drop k.toNat)).2.1
def rdErr (zs : List Int) (k : Int) : Int := if k < 0 ∨ (zs.length : Int) < k then 1 else (scan 0 0 (zs.drop k.toNat)).2.2

theorem faultOf_le8 (t : Nat) (c : Int) (h : faultOf t c = 0) (ht : t ≤ 9) : t ≤ 8 ∨ (t = 9 ∧ c ≤ 1) := by
  unfold faultOf at h
  by_cases h9 : t = 9
  · subst h9
    by_cases h1 : 1 < c
    · simp [h1] at h
    · exact .inr ⟨rfl, by omega⟩
  · exact .inl (by omega)

theorem fault_ne0_of (t : Nat) (c : Int) (h : faultOf t c ≠ 0) : faultOf t c = 12 ∨ faultOf t c = 13 := by
  unfold faultOf at *
  split
  · exact .inl rfl
  · split
    · exact .inr rfl
    · simp_all

/-- Bytes of a slice: its cells, one behind the other. -/
def Row (w : World) (k : IntKind) (a : Option Addr) (zs : List Int) : Prop :=
  ∀ i, i < zs.length → ∃ b off, a = some ⟨b, off, none⟩ ∧ w.cell? ⟨b, off + i, none⟩ = some (.int k (zs.getD i 0))
def Fits8 (zs : List Int) : Prop := ∀ i, 0 ≤ zs.getD i 0 ∧ zs.getD i 0 ≤ 255

theorem Row.cons {w : World} {k : IntKind} {a : Option Addr} {zs : List Int} (h : Row w k a zs) (hp : 0 < zs.length) :
    ∃ b off, a = some ⟨b, off, none⟩ ∧ b < w.heap.size ∧ ∀ i, i < zs.length → w.cell? ⟨b, off + i, none⟩ = some (.int k (zs.getD i 0)) := by
  obtain ⟨b, off, ha, h0⟩ := h 0 hp
  refine ⟨b, off, ha, World.block_lt_of_cell? w ⟨b, off + 0, none⟩ h0, fun i hi => ?_⟩
  obtain ⟨b', off', ha', hi'⟩ := h i hi
  rw [ha] at ha'
  simp only [Option.some.injEq, Addr.mk.injEq] at ha'
  obtain ⟨rfl, rfl, _⟩ := ha'
  exact hi'

theorem Row.below {w w' : World} {k : IntKind} {a : Option Addr} {zs : List Int} {B : Nat} (h : Row w k a zs) (hb : Below B w w') (hB : ∀ x, a = some x → 0 < zs.length → x.block < B) : Row w' k a zs := by
  intro i hi
  obtain ⟨b, off, ha, hc⟩ := h i hi
  exact ⟨b, off, ha, (hb.cell (p := ⟨b, off + i, none⟩) (hB ⟨b, off, none⟩ ha (by omega))).trans hc⟩

theorem row_take {w : World} {k : IntKind} {x : Addr} {len cap : Nat} {zs : List Int} (hl : len ≤ cap) (hz : zs.length = cap) (hcell : ∀ i, i < zs.length → w.cell? (x.add i) = some (.int k (zs.getD i 0))) :
    (zs.take len).length = len ∧ Row w k (some x) (zs.take len) := by
  have e : (zs.take len).length = len := by rw [List.length_take]; omega
  refine ⟨e, fun i hi => ?_⟩
  obtain ⟨b, off, spot⟩ := x
  have h1 := hcell i (by omega)
  have hspot : spot = none := by simpa [Addr.add] using World.cell?_spot (hcell 0 (by omega))
  subst hspot
  refine ⟨b, off, rfl, ?_⟩
  rw [Addr.add_lit] at h1
  rw [h1]
  simp only [List.getD_eq_getElem?_getD]
  rw [List.getElem?_take, if_pos (by omega)]
theorem row_nil (w : World) (k : IntKind) (a : Option Addr) : Row w k a [] := fun i hi => absurd hi (Nat.not_lt_zero i)
theorem fits8_nil : Fits8 [] := fun i => by simp
theorem fits8_take {zs : List Int} (len : Nat) (h : ∀ n ∈ zs, (Lit.int .u8 n).wf = true) : Fits8 (zs.take len) := by
  intro i
  have := range_u8 h i
  simp only [List.getD_eq_getElem?_getD]
  rw [List.getElem?_take]
  split
  · exact this
  · simp

theorem getD_drop (zs : List Int) (k : Nat) (h : k < zs.length) : zs.drop k = zs.getD k 0 :: zs.drop (k + 1) := by
  rw [List.drop_eq_getElem_cons h]
  simp [List.getD, h]

/-! ### Blocks -/
theorem block_setCell {w : World} {b : Nat} {cs : Array Value} {T : TypeId} (h : w.heap[b]? = some (.cells cs T (0, 0))) (k : Nat) (u : Value) :
    (w.setCell ⟨b, k, none⟩ u).heap[b]? = some (.cells (cs.setIfInBounds k u) T (0, 0)) := by
  have hlt := lt_of_block h
  have h' : w.heap[b] = .cells cs T (0, 0) := by simpa [Array.getElem?_eq_getElem hlt] using h
  show (w.heap.modify b _)[b]? = _
  rw [Array.getElem?_eq_getElem (by simpa using hlt), Array.getElem_modify_self, h']
  rfl
theorem block_drew {w : World} {b : Nat} : w.drew.heap[b]? = w.heap[b]? := rfl

theorem grownBy_refl (w : World) (row : Option Nat) : w.grownBy w row := ⟨rfl, rfl, rfl, Nat.le_refl _, fun _ _ _ => rfl⟩
theorem grownBy_trans {a b c : World} {row : Option Nat} (h : a.grownBy b row) (k : b.grownBy c row) : a.grownBy c row :=
  ⟨k.os.trans h.os, k.tape.trans h.tape, k.output.trans h.output, Nat.le_trans h.size k.size, fun i hi hne => (k.block i (Nat.lt_of_lt_of_le hi h.size) hne).trans (h.block i hi hne)⟩
theorem grownBy_setCell {a w : World} {b : Nat} (h : a.grownBy w (some b)) (k : Nat) (u : Value) : a.grownBy (w.setCell ⟨b, k, none⟩ u) (some b) :=
  grownBy_trans h ⟨rfl, rfl, rfl, by simp [World.setCell], fun i _ hne => Below.heap_setCell _ _ _ _ (fun e => hne (by rw [e]))⟩
theorem grownBy_drew {a w : World} {row : Option Nat} (h : a.grownBy w row) : a.grownBy w.drew row := ⟨h.os, h.tape, h.output, h.size, h.block⟩
theorem grownBy.below {w w' : World} {b B : Nat} (h : w.grownBy w' (some b)) (hb : B ≤ b) (hB : B ≤ w.heap.size) : Below B w w' :=
  (Below.refl B w).grown h hB (fun k e => by cases e; exact hb)

end Go.Proofs.YtepjblmjjegpgaaGreat
