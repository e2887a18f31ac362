/- block: the document's Find. -/
import Derived.Test.YtjnldmbjeiejdaaG45
import Derived.Test.YtjnldmbjeiejdaaG20
namespace Go.Proofs.Ytjnldmbjeiejdaa
open Go.RowKit

theorem bytesOf_inj {xs ys : List Int} (hx : B8 xs) (hy : B8 ys) (h1 : Lib.bytesOf xs = Lib.bytesOf ys) : xs = ys := by
  unfold Lib.bytesOf at h1
  induction xs generalizing ys with
  | nil => cases ys with
    | nil => rfl
    | cons y ys => simp at h1
  | cons x xs ih => cases ys with
    | nil => simp at h1
    | cons y ys =>
      simp only [List.map_cons, List.cons.injEq] at h1
      have a := hx.head
      have b := hy.head
      have e := congrArg UInt8.toNat h1.1
      simp only [UInt8.toNat_ofNat'] at e
      have e2 : x = y := by omega
      rw [e2, ih hx.tail hy.tail h1.2]

theorem str_eq {xs ys : List Int} (b1 : B8 xs) (b2 : B8 ys) : ((strOfNums xs).toList == (strOfNums ys).toList) = decide (xs = ys) := by
  rw [Lib.strOfNums_toList, Lib.strOfNums_toList]
  by_cases h : xs = ys
  · subst h; simp
  · rw [decide_eq_false h, beq_eq_false_iff_ne]
    exact fun e => h (bytesOf_inj b1 b2 e)

/-- What the document's Find tells. -/
def RFPost (w : World) (eb : Nat) (L : List Ent) (key : List Int) (e : Ending) (w' : World) : Prop :=
  ∃ va vs vc b, e = .returned (.tuple #[.slice va vs.length vc, .bool b]) ∧ IsF (kvs L) key vs b ∧ (∀ W, Ens W eb 0 L → Row W .u8 va vs) ∧ Below w.heap.size w w'

set_option maxRecDepth 100000 in
set_option maxHeartbeats 1600000 in
theorem rfind_any (a : Option Addr) (eb l c : Nat) (L : List Ent) (ka : Option Addr) (kl kc : Nat) (key : List Int) (w : World) (hL : L.length = l) (hm : l ≤ 1000) (ha : 0 < l → a = some ⟨eb, 0, none⟩) (hE : Ens w eb 0 L) (hk : key.length = kl) (k8 : B8 key) (hrk : Row w .u8 ka key) :
    Calls Try.prog 23 #[.slice a l c, .slice ka kl kc] w (RFPost w eb L key) := by
  have HE := hide (fun (W : World) (h : Below w.heap.size w W) => hE.below h)
  have HRK := hide (fun (W : World) (h : Below w.heap.size w W) => hrk.below2 h)
  have HP : Hid (∀ e w', RFPost w eb L key e w' ↔ ∃ va vs vc b, e = .returned (.tuple #[.slice va vs.length vc, .bool b]) ∧ IsF (kvs L) key vs b ∧ (∀ W, Ens W eb 0 L → Row W .u8 va vs) ∧ Below w.heap.size w w') := fun _ _ => Iff.rfl
  have HA := hide ha
  clear hE hrk ha
  go_enter Try.func23, Try.ntmps23
  go_wp2_with fail
  go_loopw [6] (fun q wr => ∃ i : Nat, i ≤ l ∧ q = .int .i64 (i : Int) ∧ Hid (∀ j, j < i → kyOf (kvs L) j ≠ key) ∧ Hid (Below w.heap.size w wr)) (fun q _ => l - (intOf q).toNat)
  case atStart => exact ⟨0, Nat.zero_le _, rfl, fun j hj => absurd hj (Nat.not_lt_zero j), Below.refl _ _⟩
  case round =>
    obtain ⟨i, hi, rfl, HN, HB⟩ := hrel
    rename World => wr
    by_cases hlt : i < l
    · have i1 : (i : Int) < (l : Int) := by omega
      have i2 : (0 : Int) ≤ (i : Int) := by omega
      obtain rfl := HA.out (by omega)
      have hiL : i < L.length := by omega
      have d0 := (HE.out wr HB.out).at0 i hiL
      have d1 := (HE.out wr HB.out).at1 i hiL
      have ok := (HE.out wr HB.out).ok i hiL
      have hky := kvs_ky L i hiL
      have hvl := kvs_vl L i hiL
      unfold Ent.kv at d0
      unfold Ent.vv at d1
      rw [Nat.zero_add] at d0 d1
      obtain ⟨en, hen⟩ : ∃ en, L[i] = en := ⟨_, rfl⟩
      rw [hen] at d0 d1 ok hky hvl
      replace hen := hide hen
      have q1 := fun n => conv_row (w := wr.drewN n) en.kc rfl (ok.k.below2 (below_of_drewN (Below.refl _ _) n))
      have q2 := fun n => conv_row (w := wr.drewN n) kc hk ((HRK.out wr HB.out).below2 (below_of_drewN (Below.refl _ _) n))
      have HST := hide (str_eq ok.k8 k8)
      have OK := hide ok
      clear ok
      by_cases heq : en.ks = key
      · have HF : Hid (∀ m, RFPost w eb L key (.returned (.tuple #[.slice en.va en.vs.length en.vc, .bool true])) (wr.drewN m)) := fun m => (HP.out _ _).2 ⟨en.va, en.vs, en.vc, true, rfl, .inl ⟨rfl, i, by rw [kvs_len]; omega, by rw [hky, heq], hvl.symm⟩, fun W hW => by have := (hW.ok i hiL).v; rw [hen.out] at this; exact this, below_of_drewN HB.out m⟩
        rw [heq] at q1
        clear hky hvl HST
        generalize strOfNums key = s2 at *
        rw [heq] at d0
        generalize en.vs.length = nv at *
        rw [hk] at q1 d0
        clear heq
        go_wp2_with fail
        go_quiet (fail)
        go_wp2_with fail
        go_ret2
        exact HF.out _
      · have hs1 : ((strOfNums en.ks).toList == (strOfNums key).toList) = false := by rw [HST.out, decide_eq_false heq]
        have HN2 : Hid (∀ j, j < i + 1 → kyOf (kvs L) j ≠ key) := fun j hj => by
          by_cases h : j < i
          · exact HN.out j h
          · rw [show j = i by omega, hky]; exact heq
        clear hky hvl HST heq
        generalize strOfNums en.ks = s1 at *
        generalize strOfNums key = s2 at *
        generalize en.ks.length = nk at *
        generalize en.vs.length = nv at *
        go_wp2_with fail
        go_quiet (fail)
        go_wp2_with fail
        go_roundw
        case rel => exact ⟨i + 1, by omega, by go_num, HN2, below_of_drewN HB.out _⟩
        case measure => simp [intOf]; omega
    · have i1 : ¬ (i : Int) < (l : Int) := by omega
      have HF : Hid (RFPost w eb L key (.returned (.tuple #[.slice none 0 0, .bool false])) wr) := (HP.out _ _).2 ⟨none, [], 0, false, rfl, .inr ⟨rfl, rfl, fun j hj => HN.out j (by rw [kvs_len] at hj; omega)⟩, fun W _ => row_nil _ _ _, HB.out⟩
      go_wp2_with fail
      go_ret2
      exact HF.out

end Go.Proofs.Ytjnldmbjeiejdaa
