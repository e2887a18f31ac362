/- block: left, finish; a list of entries in new memory. -/
import Derived.Test.YtjnldmbjeiejdaaBEntry
import Derived.Test.YtjnldmbjeiejdaaKCopy
import Derived.Test.YtjnldmbjeiejdaaBApp
import Derived.Test.YtjnldmbjeiejdaaBBuild
namespace Go.Proofs.Ytjnldmbjeiejdaa
open Go.RowKit

set_option maxHeartbeats 400000 in
theorem left_any {W : World} {B g : Nat} {a : Option Addr} {l c p n num : Nat} {ls : List Int} {va : Value} (h : WkR W B g a l c p n num ls va) :
    Calls Try.prog 52 #[.pointer (some ⟨g, 0, none⟩)] W fun e w' => e = .returned (.bool (decide (num < n))) ∧ ∃ m, w' = W.drewN m := by
  have c2 := h.cells.2.2.1
  have c3 := h.cells.2.2.2.1
  clear h
  go_enter Try.func52, Try.ntmps52
  go_wp2_with fail
  go_quiet (fail)
  go_wp2_with fail
  go_ret
  have hd : decide ((num : Int) < (n : Int)) = decide (num < n) := by
    by_cases h : num < n
    · rw [decide_eq_true h, decide_eq_true (by omega)]
    · rw [decide_eq_false h, decide_eq_false (by omega)]
  rw [← hd]
  exact ⟨rfl, _, rfl⟩

/-- What finish tells. -/
def FnPost (W : World) (zs ts : List Int) (p : Nat) (e : Ending) (W' : World) : Prop :=
  Below W.heap.size W W' ∧ (if comN (zs.drop p) ts < ts.length then e = fallen 62 ((p + comN (zs.drop p) ts : Nat) : Int) else if comN (zs.drop p) ts < (zs.drop p).length then e = fallen 63 ((p + comN (zs.drop p) ts : Nat) : Int) else ∃ v, e = .returned v)

set_option maxRecDepth 100000 in
set_option maxHeartbeats 1600000 in
theorem finish_any {W : World} {B g : Nat} {a : Option Addr} {l c p n num : Nat} {ls zs ts : List Int} {va : Value} (at' : Option Addr) (lt ct : Nat) (h : WkR W B g a l c p n num ls va) (hl : zs.length = l) (hm : l ≤ 140737488400000) (hcl : l ≤ c) (hp : p ≤ l) (hr : Row W .u8 a zs) (hlt : ts.length = lt) (hmt : lt ≤ 1000000) (hrt : Row W .u8 at' ts) :
    Calls Try.prog 66 #[.pointer (some ⟨g, 0, none⟩), .slice at' lt ct] W (FnPost W zs ts p) := by
  have c0 := h.cells.1
  have c1 := h.cells.2.1
  have hsl : ∀ W : World, (Instr.slice 23 (.slice a l c) (some (.int .i64 (p : Int))) none none).run Try.prog W = .ok (.slice (cutAt a p c) (l - p) (c - p)) W := run_from a l c p hp
  have hdl : (zs.drop p).length = l - p := by rw [List.length_drop, hl]
  have HCM : Hid (∀ m, Calls Try.prog 77 #[.slice (cutAt a p c) (l - p) (c - p), .slice at' lt ct] (W.drewN m) fun e w' => e = .returned (.int .i64 (comN (zs.drop p) ts : Nat)) ∧ ∃ k, w' = (W.drewN m).drewN k) := fun m => common_any (cutAt a p c) at' (l - p) (c - p) lt ct (zs.drop p) ts (W.drewN m) (by unfold maxLen; omega) (by unfold maxLen; omega) hdl hlt (show Row W .u8 _ _ from cut_row (by omega) hr) (show Row W .u8 _ _ from hrt)
  have HP : Hid (∀ e w', FnPost W zs ts p e w' ↔ (Below W.heap.size W w' ∧ (if comN (zs.drop p) ts < lt then e = fallen 62 ((p + comN (zs.drop p) ts : Nat) : Int) else if comN (zs.drop p) ts < l - p then e = fallen 63 ((p + comN (zs.drop p) ts : Nat) : Int) else ∃ v, e = .returned v))) := fun e w' => by unfold FnPost; rw [hlt, hdl]
  have hcle := comN_le (zs.drop p) ts
  rw [hdl] at hcle
  generalize comN (zs.drop p) ts = k at *
  generalize hL : l - p = L at *
  generalize cutAt a p c = ac at *
  clear h hr hrt hdl
  go_enter Try.func66, Try.ntmps66
  go_wp2_with fail
  go_quiet (fail)
  go_wp2_with fail
  refine (HCM.out _).mono ?_
  rintro e w1 ⟨rfl, m, hw1⟩
  have HB : Hid (Below W.heap.size W w1) := by rw [hw1]; exact below_of_drewN (below_of_drewN (Below.refl _ _) _) m
  have d1 : w1.cell? ⟨g, 1, none⟩ = some (.int .i64 (p : Int)) := by rw [hw1]; exact c1
  clear hw1 c0 c1 hsl
  by_cases h1 : k < lt
  · have i1 : (k : Int) < (lt : Int) := by omega
    have HF : Hid (FnPost W zs ts p (fallen 62 ((p : Int) + (k : Int))) w1) := (HP.out _ _).2 ⟨HB.out, by rw [if_pos h1]; rfl⟩
    go_wp2_with fail
    refine (giveUp_any 62 _ w1).mono ?_
    rintro e w2 ⟨rfl, rfl⟩
    exact ⟨rfl, HF.out⟩
  · have i1 : ¬ (k : Int) < (lt : Int) := by omega
    by_cases h2 : k < L
    · have i2 : (k : Int) < (L : Int) := by omega
      have HF : Hid (FnPost W zs ts p (fallen 63 ((p : Int) + (k : Int))) w1) := (HP.out _ _).2 ⟨HB.out, by rw [if_neg h1, if_pos h2]; rfl⟩
      go_wp2_with fail
      refine (giveUp_any 63 _ w1).mono ?_
      rintro e w2 ⟨rfl, rfl⟩
      exact ⟨rfl, HF.out⟩
    · have i2 : ¬ (k : Int) < (L : Int) := by omega
      go_wp2_with fail
      go_end0
      exact (HP.out _ _).2 ⟨HB.out, by rw [if_neg h1, if_neg h2]; exact ⟨_, rfl⟩⟩

/-- append of one entry where there is room. -/
theorem app_room {P : Program} {ops : Array Oper} {o : Oper} {rest : List Oper} {a : Act} {w : World} {Q : Exit → Act → World → Prop} (hgd : o.guard = none) (s x : Operand) (t : TypeId)
    (ho : o.op = .call { callee := .builtin .append, args := #[s, x], argTypes := #[t, t] })
    (e : TypeId) (i : TypeInfo) (ht : P.underlying t = some (.slice e)) (hi : P.info? e = some i) (hsize : i.size = 2)
    (b n cap : Nat) (hs : a.eval s = .slice (some ⟨b, 0, none⟩) n cap) (cur : Array Value) (T : TypeId) (hb : w.heap[b]? = some (.cells cur T (0, 0))) (hcur : cur.size = cap * 2) (hn : n < cap)
    (ad : Addr) (c : Nat) (k v : Value) (hx : a.eval x = .slice (some ad) 1 c) (h0 : w.cell? ad = some k) (h1 : w.cell? (ad.add 1) = some v) (hk : k.oneCell' = true) (hv : v.oneCell' = true)
    (h : wpList P ops Q rest (a.put o.dst (.slice (some ⟨b, 0, none⟩) (n + 1) cap)) ((w.setCell ⟨b, n * 2, none⟩ k).setCell ⟨b, n * 2 + 1, none⟩ v)) : wpList P ops Q (o :: rest) a w := by
  have hw : Region.wanted o (yielded ops a.tmps) = true := by simp [Region.wanted, hgd]
  have hcell : ∀ j, j < cur.size → (w.cell? ⟨b, j, none⟩).isSome = true := fun j hj => by
    rw [cell_of_row _ _ _ _ _ _ hb]
    simp [hj]
  have h0' := step_append_room (ops := ops) (K := wpList P ops Q rest) (Q := Q) (E := True) hgd s x t ho e i 2 ht hi hsize b 0 n cap hs ad 1 c [k, v] hx (by simp) (fun j u hj => by
    match j, hj with
    | 0, hj => simp at hj; subst hj; simpa [Addr.add] using h0
    | 1, hj => simp at hj; subst hj; exact h1) (fun u hu => by simp at hu; rcases hu with rfl | rfl <;> assumption) (by omega) (fun j hj => ⟨hcell _ (by simp at hj; omega), by simp [World.frozen?, hb]⟩) (by simpa [World.setCells] using h)
  rw [if_pos hw] at h0'
  rw [wpList, if_pos hw]
  exact .inl h0'

end Go.Proofs.Ytjnldmbjeiejdaa
