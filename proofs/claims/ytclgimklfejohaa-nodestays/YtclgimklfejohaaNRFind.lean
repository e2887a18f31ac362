/- The document's Beyond, Find, Child. -/
import Derived.Test.YtclgimklfejohaaNRef
import Derived.Test.YtclgimklfejohaaNClone2
namespace Go.Proofs.Ytclgimklfejohaa
open Go.RowKit

set_option maxRecDepth 100000 in
set_option maxHeartbeats 800000 in
theorem rbeyond_any (n : Nd) (k : Tx) (w : World) (hn : n.Ok w) (hk : k.Ok w) :
    Calls Try.prog 22 #[n.v, k.v] w fun e w' => e = .returned (.bool (beyB n.hi.s k.s)) ∧ Below w.heap.size w w' := by
  obtain ⟨lv, ⟨ha, hc, hs⟩, ri, ⟨ka, kc, K⟩, ⟨va, vc, V⟩, ⟨ca, cc, C⟩⟩ := n
  obtain ⟨xa, xc, xs⟩ := k
  have HH : Hid (∀ W, Below w.heap.size w W → (⟨ha, hc, hs⟩ : Tx).Ok W) := fun W h => hn.h.below h
  have HK : Hid (∀ W, Below w.heap.size w W → (⟨xa, xc, xs⟩ : Tx).Ok W) := fun W h => hk.below h
  have zh := hn.h.z
  have zx := hk.z
  clear hn hk
  simp only at zh zx
  simp only [Nd.v, Tx.v, TL.v, IL.v, beyB]
  obtain ⟨lh, hlh⟩ : ∃ lh, hs.length = lh := ⟨_, rfl⟩
  obtain ⟨lx, hlx⟩ : ∃ lx, xs.length = lx := ⟨_, rfl⟩
  rw [hlh] at zh
  rw [hlx] at zx
  rw [hlh, hlx]
  replace hlh := hide hlh
  replace hlx := hide hlx
  by_cases h0 : 0 < lh
  · have i1 : (0 : Int) < (lh : Int) := by omega
    rw [decide_eq_true h0, Bool.true_and]
    obtain ⟨cv, hcv⟩ : ∃ cv, cv = cmpI xs hs := ⟨_, rfl⟩
    have HBL : Hid (∀ W, Below w.heap.size w W → Calls Try.prog 17 #[.slice xa lx xc, .slice ha lh hc] W fun e w' => e = .returned (.int .i64 cv) ∧ ∃ m, w' = W.drewN m) := fun W h => by rw [hcv]; exact rcmp_any xa ha lx xc lh hc xs hs W hlx.out hlh.out (by omega) (by omega) (HK.out _ h).r (HH.out _ h).r
    rw [← hcv]
    clear hcv
    go_enter Try.func22, Try.ntmps22
    go_wp2_with fail
    refine (HBL.out _ ((Below.refl _ _).alloc (Nat.le_refl _) _)).mono ?_
    rintro e w2 ⟨rfl, m, rfl⟩
    go_wp2_with fail
    go_ret
    exact ⟨rfl, below_drewN ((Below.refl _ _).alloc (Nat.le_refl _) _) m⟩
  · obtain rfl : lh = 0 := by omega
    rw [decide_eq_false h0, Bool.false_and]
    clear h0
    go_enter Try.func22, Try.ntmps22
    go_wp2_with fail
    go_ret
    exact ⟨rfl, (Below.refl _ _).alloc (Nat.le_refl _) _⟩


end Go.Proofs.Ytclgimklfejohaa
