/- Bytes. -/
import Derived.Test.YtjnldmbjeiejdaaKBytes
import Derived.Test.YtjnldmbjeiejdaaKSlice
namespace Go.Proofs.Ytjnldmbjeiejdaa
open Go.RowKit

/-- An entry's bytes, of any entry behind any text. -/
theorem bytes_any (a k v : Option Addr) (la ca lk ck lv cv : Nat) (xs ks vs : List Int) (w : World) (h1 : xs.length = la) (h2 : ks.length = lk) (h3 : vs.length = lv) (m1 : la ≤ 1048600) (m2 : lk ≤ 1048600) (m3 : lv ≤ 1048600) (hck : lk ≤ ck) (nv : v = none → lv = 0 ∧ cv = 0) (nk : k = none → lk = 0 ∧ ck = 0)
    (r1 : Row w .u8 a xs) (r2 : Row w .u8 k ks) (r3 : Row w .u8 v vs) :
    Calls Try.prog 59 #[.slice a la ca, .agg #[.slice k lk ck, .slice v lv cv]] w fun e w' => ∃ u, e = .returned u ∧ OwnB w' w.heap.size 5 u (encE xs ks vs) ∧ Below w.heap.size w w' :=
  have hle := comN_le xs ks
  bytes_core a k v la ca lk ck lv cv xs ks vs w h1 h2 h3 m1 m2 m3 hck nv r1 r2 r3 (cutAt k (comN xs ks) ck) (ck - comN xs ks) (run_from k lk ck _ (by omega)) (cut_none _ nk) (cut_row (by omega) r2)

end Go.Proofs.Ytjnldmbjeiejdaa
