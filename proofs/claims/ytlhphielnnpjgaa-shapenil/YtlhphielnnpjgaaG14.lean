/- bytes.Equal, and a text as a string. -/
import Derived.Test.YtlhphielnnpjgaaG13
import Derived.Laws.BytesArg
import Derived.Lib.Bytes
import Derived.Lib.SliceRun
namespace Go.Proofs.Ytlhphielnnpjgaa
open Go.RowKit

theorem nbytesOf_inj {xs ys : List Int} (hx : B8 xs) (hy : B8 ys) (h1 : Lib.bytesOf xs = Lib.bytesOf ys) : xs = ys := by
  unfold Lib.bytesOf at h1
  induction xs generalizing ys with
  | nil => cases ys with
    | nil => rfl
    | cons y ys => simp at h1
  | cons x xs ih => cases ys with
    | nil => simp at h1
    | cons y ys =>
      simp only [List.map_cons, List.cons.injEq] at h1
      have a := hx.head
      have b := hy.head
      have e := congrArg UInt8.toNat h1.1
      simp only [UInt8.toNat_ofNat'] at e
      have e2 : x = y := by omega
      rw [e2, ih hx.tail hy.tail h1.2]
theorem nconv_row {w : World} {a : Option Addr} {len : Nat} (cap : Nat) {zs : List Int} (hl : zs.length = len) (hr : Row w .u8 a zs) :
    (convert 41 9 (.slice a len cap)).run Try.prog w = .ok (.string (strOfNums zs)) w := by
  by_cases h0 : len = 0
  · subst h0
    obtain rfl : zs = [] := List.eq_nil_of_length_eq_zero hl
    rw [run_convert_bytes_string w 41 9 5 _ 0 cap Try.underlying41 Try.underlying5 Try.underlying9]
    cases a <;> simp [Conv.bytesToString, loadCells]
    all_goals rfl
  · obtain ⟨b, o, rfl, _, hc⟩ := hr.cons (by omega)
    exact run_convert_bytes_arg (P := Try.prog) w 41 5 Try.underlying41 Try.underlying5 b o len cap zs hl (by rw [← hl]; exact hc) 9 Try.underlying9

set_option maxHeartbeats 400000 in
theorem nequal_any (a1 a2 : Option Addr) (l1 c1 l2 c2 : Nat) (xs ys : List Int) (w : World) (h1 : xs.length = l1) (h2 : ys.length = l2) (r1 : Row w .u8 a1 xs) (r2 : Row w .u8 a2 ys) (b1 : B8 xs) (b2 : B8 ys) :
    Calls Try.prog 39 #[.slice a1 l1 c1, .slice a2 l2 c2] w fun e w' => e = .returned (.bool (decide (xs = ys))) ∧ w' = w := by
  have k1 := nconv_row c1 h1 r1
  have k2 := nconv_row c2 h2 r2
  have HE : Hid (((strOfNums xs).toList == (strOfNums ys).toList) = decide (xs = ys)) := by
    show _ = _
    rw [Lib.strOfNums_toList, Lib.strOfNums_toList]
    by_cases h : xs = ys
    · subst h; simp
    · rw [decide_eq_false h, beq_eq_false_iff_ne]
      exact fun e => h (nbytesOf_inj b1 b2 e)
  clear r1 r2
  go_enter Try.func39, Try.ntmps39
  go_wp2
  go_ret
  exact ⟨by rw [← HE.out]; rfl, rfl⟩

/-- Are two texts the same, as strings? -/
theorem str_eq {xs ys : List Int} (b1 : B8 xs) (b2 : B8 ys) : ((strOfNums xs).toList == (strOfNums ys).toList) = decide (xs = ys) := by
  rw [Lib.strOfNums_toList, Lib.strOfNums_toList]
  by_cases h : xs = ys
  · subst h; simp
  · rw [decide_eq_false h, beq_eq_false_iff_ne]
    exact fun e => h (nbytesOf_inj b1 b2 e)

end Go.Proofs.Ytlhphielnnpjgaa

namespace Go.Proofs.Ytlhphielnnpjgaa
open Go.RowKit

/-- How many of the keys are below a key; is it one of them; how many are not above. -/
def cntB (ks : List (List Int)) (key : List Int) : Nat := ks.countP fun k => decide (cmpI k key < 0)
def isIn (ks : List (List Int)) (key : List Int) : Bool := ks.any fun k => decide (k = key)
def cntL (ks : List (List Int)) (key : List Int) : Nat := ks.countP fun k => decide (0 ≤ cmpI key k)
theorem take_next {α : Type} {l : List α} {i : Nat} (h : i < l.length) : l.take (i + 1) = l.take i ++ [l[i]] := by
  rw [List.take_add_one, List.getElem?_eq_getElem h]; rfl
theorem cntB_next {ks : List (List Int)} {key : List Int} {i : Nat} (h : i < ks.length) : cntB (ks.take (i + 1)) key = cntB (ks.take i) key + if cmpI ks[i] key < 0 then 1 else 0 := by
  unfold cntB
  rw [take_next h, List.countP_append]
  simp [List.countP_cons]
theorem cntL_next {ks : List (List Int)} {key : List Int} {i : Nat} (h : i < ks.length) : cntL (ks.take (i + 1)) key = cntL (ks.take i) key + if 0 ≤ cmpI key ks[i] then 1 else 0 := by
  unfold cntL
  rw [take_next h, List.countP_append]
  simp [List.countP_cons]
theorem isIn_next {ks : List (List Int)} {key : List Int} {i : Nat} (h : i < ks.length) : isIn (ks.take (i + 1)) key = (isIn (ks.take i) key || decide (ks[i] = key)) := by
  unfold isIn
  rw [take_next h, List.any_append]
  simp
theorem cntB_le (ks : List (List Int)) (key : List Int) : cntB ks key ≤ ks.length := List.countP_le_length
theorem cntL_le (ks : List (List Int)) (key : List Int) : cntL ks key ≤ ks.length := List.countP_le_length
theorem TL.p_at (t : TL) (i : Nat) (h : i < t.L.length) : t.p[i]'(by rw [t.p_len]; exact h) = t.L[i].s := by simp [TL.p]

set_option maxHeartbeats 400000 in
theorem nbelow_any (a b : Option Addr) (l1 c1 l2 c2 : Nat) (xs ys : List Int) (w : World) (h1 : xs.length = l1) (h2 : ys.length = l2) (r1 : Row w .u8 a xs) (r2 : Row w .u8 b ys) (b1 : B8 xs) (b2 : B8 ys) :
    Calls Try.prog 53 #[.slice a l1 c1, .slice b l2 c2] w fun e w' => e = .returned (.bool (decide (cmpI xs ys < 0))) ∧ w' = w := by
  have HC := hide (bcompare_any a b l1 c1 l2 c2 xs ys w h1 h2 r1 r2 b1 b2)
  clear r1 r2 b1 b2
  go_enter Try.func53, Try.ntmps53
  go_wp2_with fail
  refine keep HC.out ?_
  go_wp2
  go_ret
  exact ⟨rfl, rfl⟩

/-- Does a key lie to the right? -/
def beyB (hi key : List Int) : Bool := decide (0 < hi.length) && decide (0 ≤ cmpI key hi)
set_option maxHeartbeats 400000 in
theorem beyond_any (n : Nd) (k : Tx) (w : World) (hn : n.Ok w) (hk : k.Ok w) :
    Calls Try.prog 52 #[n.v, k.v] w fun e w' => e = .returned (.bool (beyB n.hi.s k.s)) ∧ Below w.heap.size w w' := by
  obtain ⟨lv, ⟨ha, hc, hs⟩, ri, ⟨ka, kc, K⟩, ⟨va, vc, V⟩, ⟨ca, cc, C⟩⟩ := n
  obtain ⟨xa, xc, xs⟩ := k
  have HH : Hid (∀ W, Below w.heap.size w W → (⟨ha, hc, hs⟩ : Tx).Ok W) := fun W h => hn.h.below h
  have HK : Hid (∀ W, Below w.heap.size w W → (⟨xa, xc, xs⟩ : Tx).Ok W) := fun W h => hk.below h
  clear hn hk
  simp only [Nd.v, Tx.v, TL.v, IL.v, beyB]
  obtain ⟨lh, hlh⟩ : ∃ lh, hs.length = lh := ⟨_, rfl⟩
  obtain ⟨lx, hlx⟩ : ∃ lx, xs.length = lx := ⟨_, rfl⟩
  rw [hlh, hlx]
  replace hlh := hide hlh
  replace hlx := hide hlx
  by_cases h0 : 0 < lh
  · have i1 : (0 : Int) < (lh : Int) := by omega
    have HE : Hid ((!decide (cmpI xs hs < 0)) = decide (0 ≤ cmpI xs hs)) := by
      show _ = _
      by_cases h : cmpI xs hs < 0
      · rw [decide_eq_true h, decide_eq_false (by omega)]; rfl
      · rw [decide_eq_false h, decide_eq_true (by omega)]; rfl
    rw [decide_eq_true h0, Bool.true_and, ← HE.out]
    clear HE
    obtain ⟨d, hd⟩ : ∃ d, d = decide (cmpI xs hs < 0) := ⟨_, rfl⟩
    have HBL := hide (fun W (h : Below w.heap.size w W) => nbelow_any xa ha lx xc lh hc xs hs W hlx.out hlh.out (HK.out _ h).r (HH.out _ h).r (HK.out _ h).b8 (HH.out _ h).b8)
    rw [← hd] at HBL ⊢
    clear hd
    go_enter Try.func52, Try.ntmps52
    go_wp2_with fail
    refine keep (HBL.out _ ((Below.refl _ _).alloc (Nat.le_refl _) _)) ?_
    go_wp2_with fail
    go_ret
    exact ⟨rfl, (Below.refl _ _).alloc (Nat.le_refl _) _⟩
  · obtain rfl : lh = 0 := by omega
    rw [decide_eq_false h0, Bool.false_and]
    clear h0
    go_enter Try.func52, Try.ntmps52
    go_wp2_with fail
    go_ret
    exact ⟨rfl, (Below.refl _ _).alloc (Nat.le_refl _) _⟩

/-- Which child leads to a key. -/
def chiN (ks : List (List Int)) (cs : List Int) (key : List Int) : Int := if cs.length = 0 then 0 else cs.getD (min (cntL ks key) (cs.length - 1)) 0
end Go.Proofs.Ytlhphielnnpjgaa

namespace Go.Proofs.Ytlhphielnnpjgaa
open Go.RowKit

theorem cmpI_end (xs ys : List Int) (k : Nat) (h : ∀ i, i < k → xs.getD i 0 = ys.getD i 0) (h1 : k ≤ xs.length) (h2 : k ≤ ys.length) (hk : k = xs.length ∨ k = ys.length) :
    cmpI xs ys = if xs.length < ys.length then -1 else if ys.length < xs.length then 1 else 0 := by
  have hc : comN xs ys = k := comN_of k xs ys h1 h2 h (by rcases hk with h | h <;> simp [h])
  rw [cmpI_com, hc]
  by_cases a : k = xs.length
  · rw [if_pos a]
    by_cases b : k = ys.length
    · rw [if_pos b, if_neg (by omega), if_neg (by omega)]
    · rw [if_neg b, if_pos (by omega)]
  · have b : k = ys.length := hk.resolve_left a
    rw [if_neg a, if_pos b, if_neg (by omega), if_pos (by omega)]
theorem cmpI_part (xs ys : List Int) (k : Nat) (h : ∀ i, i < k → xs.getD i 0 = ys.getD i 0) (h1 : k < xs.length) (h2 : k < ys.length) (hne : xs.getD k 0 ≠ ys.getD k 0) :
    cmpI xs ys = if xs.getD k 0 < ys.getD k 0 then -1 else 1 := by
  have hc : comN xs ys = k := comN_of k xs ys (by omega) (by omega) h (.inr (.inr hne))
  rw [cmpI_com, hc, if_neg (by omega), if_neg (by omega)]

/-- Do keys rise? -/
def Rs (l : List (List Int)) : Prop := ∀ j, j < l.length - 1 → cmpI (l.getD j []) (l.getD (j + 1) []) < 0
instance (l : List (List Int)) : Decidable (Rs l) := by unfold Rs; exact inferInstance
theorem tl_getD {t : TL} {i : Nat} (h : i < t.L.length) : t.p.getD i [] = t.L[i].s := by simp [TL.p, h]

/-- Is a node right? -/
def RtP (p : NP) : Prop := Rs p.ks ∧ ((p.lv = 0 ∧ p.vs.length = p.ks.length ∧ p.cs.length = 0) ∨ (0 < p.lv ∧ p.vs.length = 0 ∧ p.cs.length = p.ks.length + 1))
instance (p : NP) : Decidable (RtP p) := by unfold RtP; exact inferInstance

end Go.Proofs.Ytlhphielnnpjgaa
