/- pair: Between. -/
import Derived.Test.YtepjblmjjegpgaaGreatW19
import Derived.Test.YtepjblmjjegpgaaGreatW20
namespace Go.Proofs.YtepjblmjjegpgaaGreat
open Go.RowKit
set_option maxRecDepth 100000

theorem drewB {B : Nat} {w w' : World} (h : Below B w w') (m : Nat) : Below B w (w'.drewN m) := ⟨h.os, h.tape, h.output, h.size, h.block⟩
theorem ofDrew {B : Nat} {w w' : World} {m : Nat} (h : Below B (w.drewN m) w') : Below B w w' := ⟨h.os, h.tape, h.output, h.size, h.block⟩
theorem Row.drewR {w : World} {k : IntKind} {a : Option Addr} {zs : List Int} (h : Row w k a zs) (m : Nat) : Row (w.drewN m) k a zs := h

def btE (a b : List Int) : Int := if cmpI a b < 0 then 0 else 51
def btL (a b : List Int) : List Int := if cmpI a b < 0 then betw a b else []


end Go.Proofs.YtepjblmjjegpgaaGreat

namespace Go.Proofs.YtepjblmjjegpgaaGreat
open Go.RowKit
set_option maxRecDepth 100000

/-- Where a cut that begins at n lies. -/
def cutAt (k : Option Addr) (n c : Nat) : Option Addr := if c = n then k else k.map (·.add n)
theorem elemU8s : Tryz.prog.elem 23 = 5 := by kernel_rfl
theorem sizeU8 (W : World) : (sizeOf 5).run Tryz.prog W = .ok 1 W := by
  obtain ⟨i0, hi, hz0, hz1, hz2⟩ := info_parts infoByte'
  simp [sizeOf, typeInfo, hi, hz1]
theorem und' : Tryz.prog.underlying 23 = some (.slice (Tryz.prog.elem 23)) := by rw [elemU8s]; exact Tryz.underlying23
theorem run_from (k : Option Addr) (lk ck n : Nat) (hn : n ≤ lk) (W : World) : (Instr.slice 23 (.slice k lk ck) (some (.int .i64 (n : Int))) none none).run Tryz.prog W = .ok (.slice (cutAt k n ck) (lk - n) (ck - n)) W := by
  rw [run_slice_l (P := Tryz.prog) W 23 k lk ck und' .i64 (n : Int) (by omega) (by omega), elemU8s, sizeU8]
  simp [Result.andThen, sliced, cutAt]
theorem run_part (k : Option Addr) (lk ck n m : Nat) (hn : n ≤ m) (hm : m ≤ ck) (kl kh : IntKind) (W : World) : (Instr.slice 23 (.slice k lk ck) (some (.int kl (n : Int))) (some (.int kh (m : Int))) none).run Tryz.prog W = .ok (.slice (cutAt k n ck) (m - n) (ck - n)) W := by
  rw [run_slice_lh (P := Tryz.prog) W 23 k lk ck und' kl kh (n : Int) (m : Int) (by omega) (by omega) (by omega), elemU8s, sizeU8]
  simp [Result.andThen, sliced, cutAt]
theorem run_upto (k : Option Addr) (lk ck m : Nat) (hm : m ≤ ck) (kh : IntKind) (W : World) : (Instr.slice 23 (.slice k lk ck) none (some (.int kh (m : Int))) none).run Tryz.prog W = .ok (.slice k m ck) W := by
  rw [run_slice_h (P := Tryz.prog) W 23 k lk ck und' kh (m : Int) (by omega) (by omega), elemU8s, sizeU8]
  cases k <;> simp [Result.andThen, sliced, Addr.add]
theorem cut_none {k : Option Addr} {lk ck : Nat} (n : Nat) (hk : k = none → lk = 0 ∧ ck = 0) (h : cutAt k n ck = none) : lk - n = 0 ∧ ck - n = 0 := by
  unfold cutAt at h
  split at h
  · have := hk h; omega
  · cases k with
    | none => have := hk rfl; omega
    | some x => cases h
theorem cut_row {w : World} {k : Option Addr} {ck n : Nat} {ks : List Int} (hc : ks.length ≤ ck) (h : Row w .u8 k ks) : Row w .u8 (cutAt k n ck) (ks.drop n) := by
  by_cases hl : ks.length ≤ n
  · rw [List.drop_eq_nil_of_le hl]; exact row_nil _ _ _
  · obtain ⟨b, o, rfl, _, _⟩ := h.cons (by omega)
    unfold cutAt
    rw [if_neg (by omega)]
    have := h.drop n
    simpa [Addr.add_lit] using this
theorem cut_part {w : World} {k : Option Addr} {ck n m : Nat} {ks : List Int} (hc : ks.length ≤ ck) (h : Row w .u8 k ks) : Row w .u8 (cutAt k n ck) ((ks.drop n).take m) := (cut_row hc h).take m

end Go.Proofs.YtepjblmjjegpgaaGreat
