/- Texts of one's own. -/
import Derived.Test.YtealejbfloacpaaGreatM32
import Derived.Test.YtealejbfloacpaaGreatM22
import Derived.Laws.MakeOwn
namespace Go.Proofs.YtealejbfloacpaaGreat
open Go.RowKit
set_option maxRecDepth 100000
abbrev En := Tx × Tx
def nilT : Tx := ⟨none, 0, []⟩
def EnC (x : En) : List Value := [x.1.v, x.2.v]
def enP (x : En) : List Int × List Int := (x.1.s, x.2.s)
theorem enC_at (E : List En) (i j : Nat) (hi : i < E.length) (hj : j < 2) : (E.flatMap EnC)[i * 2 + j]? = (EnC E[i])[j]? := by
 induction E generalizing i with
 | nil => simp at hi
 | cons a L ih =>
  rw [List.flatMap_cons]
  cases i with
  | zero => rw [List.getElem?_append_left (by simp [EnC]; omega)]; simp
  | succ i =>
   rw [List.getElem?_append_right (by simp [EnC]; omega)]
   have : (i + 1) * 2 + j - (EnC a).length = i * 2 + j := by simp [EnC]; omega
   rw [this, ih i (by simpa using hi)]
   simp
theorem infoEn : (Tryz.prog.info? 78).map (fun i => (i.zero, i.size, i.bytes)) = some (some (.agg #[.slice none 0 0, .slice none 0 0]), 2, 48) := by kernel_rfl
theorem getD_tx {L : List Tx} {i : Nat} (h : i < L.length) : L.getD i nilT = L[i] := by simp [h]
end Go.Proofs.YtealejbfloacpaaGreat
