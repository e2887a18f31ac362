/- foot: its bytes, as such. -/
import Derived.Test.YtlachimmfjagbaaFTotal
namespace Go.Proofs.Ytlachimmfjagbaa
open Go.RowKit

def rnum (r : FRow) (k : Nat) : Nat := match k with
  | 0 => r.p.toNat
  | 1 => r.l.toNat
  | _ => r.n.toNat
def fmid (r : FRow) : Nat → List Int
  | 0 => []
  | k + 1 => fmid r k ++ enc (rnum r k)
def fbody (r : FRow) : List Int := enc r.k.length ++ r.k ++ fmid r 3
def fpre (l : List FRow) : Nat → List Int
  | 0 => enc l.length
  | i + 1 => fpre l i ++ fbody (l.getD i default)
def footB (l : List FRow) : List Int := fpre l l.length ++ enc (totN l l.length)

theorem rnum_le {l : List FRow} {i : Nat} (h : Gd l (i + 1)) (hi : i < 8388608) (k : Nat) : rnum (l.getD i default) k ≤ 1099511627784 := by
  have r := h.row i (Nat.lt_succ_self i)
  have p := (h.mono (Nat.le_succ i)).pos
  unfold rnum
  split
  · rw [r.2.2.1]; omega
  · omega
  · omega
theorem fmid_len {l : List FRow} {i : Nat} (h : Gd l (i + 1)) (hi : i < 8388608) : ∀ k, (fmid (l.getD i default) k).length ≤ 10 * k
  | 0 => by simp [fmid]
  | k + 1 => by
    have := fmid_len h hi k
    have q := (enc_len_le (rnum (l.getD i default) k) (by have := rnum_le h hi k; omega)).2
    rw [fmid, List.length_append]
    omega
theorem fbody_len {l : List FRow} {i : Nat} (h : Gd l (i + 1)) (hi : i < 8388608) : (fbody (l.getD i default)).length ≤ 104 := by
  have r := h.row i (Nat.lt_succ_self i)
  have := fmid_len h hi 3
  have q := (enc_len_le (l.getD i default).k.length (by omega)).2
  unfold fbody
  rw [List.length_append, List.length_append]
  omega
theorem fpre_len {l : List FRow} : ∀ {i : Nat}, Gd l i → i ≤ 8388608 → l.length ≤ 8388608 → (fpre l i).length ≤ 10 + 104 * i
  | 0, _, _, hl => by have := (enc_len_le l.length (by omega)).2; rw [fpre]; omega
  | i + 1, h, hi, hl => by
    have := fpre_len (h.mono (Nat.le_succ i)) (by omega) hl
    have := fbody_len h (by omega)
    rw [fpre, List.length_append]
    omega

end Go.Proofs.Ytlachimmfjagbaa
