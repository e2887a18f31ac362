/- The document's Same of two entries that are the same. -/
import Derived.Test.YtepjblmjjegpgaaGreatW19
import Derived.Laws.BytesArg
namespace Go.Proofs.YtepjblmjjegpgaaGreat
open Go.RowKit
set_option maxRecDepth 100000

theorem conv_row {w : World} {a : Option Addr} {len : Nat} (cap : Nat) {zs : List Int} (hl : zs.length = len) (hr : Row w .u8 a zs) :
    (convert 23 9 (.slice a len cap)).run Tryz.prog w = .ok (.string (strOfNums zs)) w := by
  by_cases h0 : len = 0
  · subst h0
    obtain rfl : zs = [] := List.eq_nil_of_length_eq_zero hl
    rw [run_convert_bytes_string w 23 9 5 _ 0 cap Tryz.underlying23 Tryz.underlying5 Tryz.underlying9]
    cases a <;> simp [Conv.bytesToString, loadCells]
    all_goals rfl
  · obtain ⟨b, o, rfl, _, hc⟩ := hr.cons (by omega)
    exact run_convert_bytes_arg (P := Tryz.prog) w 23 5 Tryz.underlying23 Tryz.underlying5 b o len cap zs hl (by rw [← hl]; exact hc) 9 Tryz.underlying9

set_option maxHeartbeats 800000 in
theorem rsame_eq (ka kb va vb : Option Addr) (lk c1 c2 lv c3 c4 : Nat) (ks vs : List Int) (w : World) (h1 : ks.length = lk) (h2 : vs.length = lv) (r1 : Row w .u8 ka ks) (r2 : Row w .u8 kb ks) (r3 : Row w .u8 va vs) (r4 : Row w .u8 vb vs) :
    Calls Tryz.prog 61 #[.agg #[.slice ka lk c1, .slice va lv c3], .agg #[.slice kb lk c2, .slice vb lv c4]] w fun e w' => e = .returned (.bool true) ∧ Below w.heap.size w w' := by
  have q1 := conv_row c1 h1 ((r1.alloc (.cells #[.slice ka lk c1, .slice va lv c3] 38)).alloc (.cells #[.slice kb lk c2, .slice vb lv c4] 38))
  have q2 := conv_row c2 h1 ((r2.alloc (.cells #[.slice ka lk c1, .slice va lv c3] 38)).alloc (.cells #[.slice kb lk c2, .slice vb lv c4] 38))
  have q3 := conv_row c3 h2 ((r3.alloc (.cells #[.slice ka lk c1, .slice va lv c3] 38)).alloc (.cells #[.slice kb lk c2, .slice vb lv c4] 38))
  have q4 := conv_row c4 h2 ((r4.alloc (.cells #[.slice ka lk c1, .slice va lv c3] 38)).alloc (.cells #[.slice kb lk c2, .slice vb lv c4] 38))
  clear r1 r2 r3 r4
  generalize strOfNums ks = s1 at *
  generalize strOfNums vs = s2 at *
  go_enter Tryz.func61, Tryz.ntmps61
  go_wp2
  go_ret
  exact ⟨rfl, ((Below.refl _ _).alloc (Nat.le_refl _) _).alloc (by simp) _⟩

end Go.Proofs.YtepjblmjjegpgaaGreat
