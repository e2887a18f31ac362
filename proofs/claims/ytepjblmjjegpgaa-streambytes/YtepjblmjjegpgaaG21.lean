/- The document's Same of two entries that are the same. -/
import Derived.Test.YtepjblmjjegpgaaG19
import Derived.Laws.BytesArg
namespace Go.Proofs.Ytepjblmjjegpgaa
open Go.RowKit

theorem conv_row {w : World} {a : Option Addr} {len : Nat} (cap : Nat) {zs : List Int} (hl : zs.length = len) (hr : Row w .u8 a zs) :
    (convert 25 9 (.slice a len cap)).run Try.prog w = .ok (.string (strOfNums zs)) w := by
  by_cases h0 : len = 0
  · subst h0
    obtain rfl : zs = [] := List.eq_nil_of_length_eq_zero hl
    rw [run_convert_bytes_string w 25 9 5 _ 0 cap Try.underlying25 Try.underlying5 Try.underlying9]
    cases a <;> simp [Conv.bytesToString, loadCells]
    all_goals rfl
  · obtain ⟨b, o, rfl, _, hc⟩ := hr.cons (by omega)
    exact run_convert_bytes_arg (P := Try.prog) w 25 5 Try.underlying25 Try.underlying5 b o len cap zs hl (by rw [← hl]; exact hc) 9 Try.underlying9

set_option maxHeartbeats 800000 in
theorem rsame_eq (ka kb va vb : Option Addr) (lk c1 c2 lv c3 c4 : Nat) (ks vs : List Int) (w : World) (h1 : ks.length = lk) (h2 : vs.length = lv) (r1 : Row w .u8 ka ks) (r2 : Row w .u8 kb ks) (r3 : Row w .u8 va vs) (r4 : Row w .u8 vb vs) :
    Calls Try.prog 36 #[.agg #[.slice ka lk c1, .slice va lv c3], .agg #[.slice kb lk c2, .slice vb lv c4]] w fun e w' => e = .returned (.bool true) ∧ Below w.heap.size w w' := by
  have q1 := conv_row c1 h1 ((r1.alloc (.cells #[.slice ka lk c1, .slice va lv c3] 35)).alloc (.cells #[.slice kb lk c2, .slice vb lv c4] 35))
  have q2 := conv_row c2 h1 ((r2.alloc (.cells #[.slice ka lk c1, .slice va lv c3] 35)).alloc (.cells #[.slice kb lk c2, .slice vb lv c4] 35))
  have q3 := conv_row c3 h2 ((r3.alloc (.cells #[.slice ka lk c1, .slice va lv c3] 35)).alloc (.cells #[.slice kb lk c2, .slice vb lv c4] 35))
  have q4 := conv_row c4 h2 ((r4.alloc (.cells #[.slice ka lk c1, .slice va lv c3] 35)).alloc (.cells #[.slice kb lk c2, .slice vb lv c4] 35))
  clear r1 r2 r3 r4
  generalize strOfNums ks = s1 at *
  generalize strOfNums vs = s2 at *
  go_enter Try.func36, Try.ntmps36
  go_wp2
  go_ret
  exact ⟨rfl, ((Below.refl _ _).alloc (Nat.le_refl _) _).alloc (by simp) _⟩

end Go.Proofs.Ytepjblmjjegpgaa
