/- An Out: Lay, Push. -/
import Derived.Test.YtjcanghffhpncaaQIn
import Derived.Test.YtjcanghffhpncaaQAppW
import Derived.Deep.RegionHeld3
namespace Go.Proofs.Ytjcanghffhpncaa
open Go.RowKit

/-- An Out's state: its writer's, what waits, how many were taken, how many calls running took nothing, its error. -/
structure OutS (τ : Type) where
  t : τ
  b : List Int
  at' : Nat
  i : Nat
  err : Int
def layP {τ : Type} (x : OutS τ) (ys : List Int) : OutS τ := if x.err = 0 then ⟨x.t, x.b ++ ys, x.at', x.i, x.err⟩ else x
def pushP {τ : Type} (wf : τ → List Int → Int × Int × τ) (x : OutS τ) : Nat × Int × OutS τ :=
  if x.err ≠ 0 ∨ x.b = [] then (0, x.err, x) else
  if (wf x.t (x.b.take 4096)).1 < 0 ∨ ((x.b.take 4096).length : Int) < (wf x.t (x.b.take 4096)).1 then (0, 34, ⟨(wf x.t (x.b.take 4096)).2.2, x.b, x.at', x.i, 34⟩) else
  ((wf x.t (x.b.take 4096)).1.toNat, toldOf (idleOf x.i (wf x.t (x.b.take 4096)).1.toNat (wf x.t (x.b.take 4096)).2.1) (wf x.t (x.b.take 4096)).2.1,
    ⟨(wf x.t (x.b.take 4096)).2.2, x.b.drop (wf x.t (x.b.take 4096)).1.toNat, x.at' + (wf x.t (x.b.take 4096)).1.toNat, idleOf x.i (wf x.t (x.b.take 4096)).1.toNat (wf x.t (x.b.take 4096)).2.1, toldOf (idleOf x.i (wf x.t (x.b.take 4096)).1.toNat (wf x.t (x.b.take 4096)).2.1) (wf x.t (x.b.take 4096)).2.1⟩)
theorem push_step {τ : Type} {wf : τ → List Int → Int × Int × τ} {x : OutS τ} (he : x.err = 0) (hb : x.b ≠ []) (q : Int × Int × τ) (hq : wf x.t (x.b.take 4096) = q) :
    pushP wf x = if q.1 < 0 ∨ ((x.b.take 4096).length : Int) < q.1 then (0, 34, ⟨q.2.2, x.b, x.at', x.i, 34⟩) else (q.1.toNat, toldOf (idleOf x.i q.1.toNat q.2.1) q.2.1, ⟨q.2.2, x.b.drop q.1.toNat, x.at' + q.1.toNat, idleOf x.i q.1.toNat q.2.1, toldOf (idleOf x.i q.1.toNat q.2.1) q.2.1⟩) := by
  unfold pushP
  rw [if_neg (by simp [he, hb]), hq]

/-- What is known between two calls. -/
structure OutOk {τ : Type} (cnt sz : τ → Nat) (C Z : Nat) (x : OutS τ) : Prop where
  i16 : x.err = 0 → x.i < 16
  pot : x.err = 0 → cnt x.t + 17 * x.b.length + (16 - x.i) ≤ C
  size : x.err = 0 → sz x.t + x.b.length ≤ Z
  all : x.at' + x.b.length ≤ Z

def OutC (W : World) (g at' i : Nat) (err : Int) (r wv : Value) : Prop :=
  W.heap[g]? = some (.cells #[.int .i64 (at' : Int), .int .i64 (i : Int), .int .i64 err, r, wv] 95 (0, 0))
theorem OutC.c {W : World} {g at' i : Nat} {err : Int} {r wv : Value} (h : OutC W g at' i err r wv) :
    W.cell? ⟨g, 0, none⟩ = some (.int .i64 (at' : Int)) ∧ W.cell? ⟨g, 1, none⟩ = some (.int .i64 (i : Int)) ∧ W.cell? ⟨g, 2, none⟩ = some (.int .i64 err) ∧ W.cell? ⟨g, 3, none⟩ = some r ∧ W.cell? ⟨g, 4, none⟩ = some wv ∧ ∀ j, W.frozen? ⟨g, j, none⟩ = false :=
  ⟨blk_cell h rfl, blk_cell h rfl, blk_cell h rfl, blk_cell h rfl, blk_cell h rfl, fun j => frozen_blk h j⟩
theorem OutC.upd {W W' : World} {S : Nat → Prop} {g at' i : Nat} {err : Int} {r wv : Value} (h : OutC W g at' i err r wv) (hu : Upd S W W') (hs : ¬ S g) : OutC W' g at' i err r wv := hu.heap h hs
def IsOut {τ : Type} (Wd : World → τ → (Nat → Prop) → Prop) (B g : Nat) (r : Value) (W : World) (x : OutS τ) (F : Nat → Prop) : Prop :=
  ∃ wv off M, OutC W g x.at' x.i x.err r wv ∧ Wd W x.t M ∧ OwnW W B 5 off wv x.b ∧ ¬ M g ∧ B ≤ g ∧ (∀ j, Value.blk wv = some j → ¬ M j ∧ j ≠ g) ∧ ∀ j, F j ↔ (M j ∨ j = g ∨ Value.blk wv = some j)

section
variable {τ : Type} {wf : τ → List Int → Int × Int × τ} {cnt sz : τ → Nat} {f : FuncId} {recv r : Value} {B g : Nat} {Wd : World → τ → (Nat → Prop) → Prop} {W W' : World} {x : OutS τ} {F S : Nat → Prop}
theorem IsOut.upd (T : Writer wf cnt sz f recv B Wd) (h : IsOut Wd B g r W x F) (hu : Upd S W W') (hs : ∀ j, S j → B ≤ j ∧ ¬ F j) : IsOut Wd B g r W' x F := by
  obtain ⟨wv, off, M, hi, hr, ho, hMg, hBg, hd, hF⟩ := h
  exact ⟨wv, off, M, hi.upd hu (fun e => (hs g e).2 ((hF g).2 (.inr (.inl rfl)))), T.upd hr hu (fun j e => ⟨(hs j e).1, fun h => (hs j e).2 ((hF j).2 (.inl h))⟩), ho.upd hu (fun j hj e => (hs j e).2 ((hF j).2 (.inr (.inr hj)))), hMg, hBg, hd, hF⟩
theorem IsOut.still (T : Writer wf cnt sz f recv B Wd) (h : IsOut Wd B g r W x F) (n : Nat) : IsOut Wd B g r (W.drewN n) x F :=
  h.upd T (((Still.refl W).drewN n).upd Noth) (fun _ e => e.elim)
theorem IsOut.lt (T : Writer wf cnt sz f recv B Wd) (h : IsOut Wd B g r W x F) : ∀ j, F j → B ≤ j ∧ j < W.heap.size := by
  obtain ⟨wv, off, M, hi, hr, ho, hMg, hBg, hd, hF⟩ := h
  intro j hj
  rcases (hF j).1 hj with h | h | h
  · exact T.lt hr j h
  · subst h; exact ⟨hBg, lt_of_block hi⟩
  · exact ho.lt j h
theorem IsOut.at0 (h : IsOut Wd B g r W x F) : F g ∧ g < W.heap.size ∧ W.cell? ⟨g, 0, none⟩ = some (.int .i64 (x.at' : Int)) ∧ W.cell? ⟨g, 2, none⟩ = some (.int .i64 x.err) ∧ ∃ a c, W.cell? ⟨g, 4, none⟩ = some (.slice a x.b.length c) := by
  obtain ⟨wv, off, M, hi, hr, ho, hMg, hBg, hd, hF⟩ := h
  obtain ⟨a, c, hv, _⟩ := ho.slice rfl
  exact ⟨(hF g).2 (.inr (.inl rfl)), lt_of_block hi, (OutC.c hi).1, (OutC.c hi).2.2.1, a, c, by rw [← hv]; exact (OutC.c hi).2.2.2.2.1⟩
end

def OutPost {τ : Type} (Wd : World → τ → (Nat → Prop) → Prop) (B g : Nat) (r v : Value) (x : OutS τ) (F : Nat → Prop) (W : World) (e : Ending) (W' : World) : Prop :=
  ∃ F', e = .returned v ∧ IsOut Wd B g r W' x F' ∧ Upd F W W' ∧ ∀ j, F' j → F j ∨ W.heap.size ≤ j

set_option maxRecDepth 100000 in
set_option maxHeartbeats 1600000 in
theorem lay_any {τ : Type} {wf : τ → List Int → Int × Int × τ} {cnt sz : τ → Nat} {f : FuncId} {recv r : Value} {B : Nat} {Wd : World → τ → (Nat → Prop) → Prop} (T : Writer wf cnt sz f recv B Wd)
    (W : World) (g : Nat) (x : OutS τ) (F : Nat → Prop) (ay : Option Addr) (ly cy : Nat) (ys : List Int) (hl : ys.length = ly) (hn : ay = none → ly = 0 ∧ cy = 0) (hr : Row W .u8 ay ys) (hI : IsOut Wd B g r W x F) (hB : B ≤ W.heap.size) (hz : x.b.length + ly ≤ 140737488355328) :
    Calls Try.prog 19 #[.pointer (some ⟨g, 0, none⟩), .slice ay ly cy] W fun e W' => OutPost Wd B g r (.int .i64 x.err) (layP x ys) F W e W' := by
  obtain ⟨i0', hi0, hz0, hz1, hz2⟩ := info_parts' infoByte'
  have HSAME : Hid (x.err ≠ 0 → OutPost Wd B g r (.int .i64 x.err) (layP x ys) F W (.returned (.int .i64 x.err)) W) := hide fun h => by
    unfold layP
    rw [if_neg h]
    exact ⟨F, rfl, hI, Upd.refl _ _, fun _ h => .inl h⟩
  obtain ⟨wv, off, M, hi, hrd, ho, hMg, hBg, hd, hF⟩ := hI
  have c2 := (OutC.c hi).2.2.1
  have c4 := (OutC.c hi).2.2.2.2.1
  have hgl : g < W.heap.size := lt_of_block hi
  by_cases he : x.err = 0
  · have HFIN : Hid (∀ v2 w2 off2, OwnW w2 B 5 off2 v2 (x.b ++ ys) → W.grownBy w2 (Value.blk wv) → (∀ j, Value.blk v2 = some j → Value.blk wv = some j ∨ W.heap.size ≤ j) → OutPost Wd B g r (.int .i64 x.err) (layP x ys) F W (.returned (.int .i64 0)) (w2.setCell ⟨g, 4, none⟩ v2) ∧ w2.cell? ⟨g, 2, none⟩ = some (.int .i64 0) ∧ w2.cell? ⟨g, 4, none⟩ = some wv ∧ w2.frozen? ⟨g, 4, none⟩ = false) := hide fun v2 w2 off2 ho2 hg2 hk2 => by
      have hu2 : Upd (fun j => Value.blk wv = some j) W w2 := Upd.of_grown hg2 (fun j hj _ => hj)
      have hi2 := hi.upd hu2 (fun e => (hd g e).2 rfl)
      have hu3 : Upd (fun j => j = g) w2 (w2.setCell ⟨g, 4, none⟩ v2) := (Upd.refl _ _).set1 4 _
      have hlt := T.lt hrd
      have hnew : ∀ j, Value.blk v2 = some j → ¬ M j ∧ j ≠ g := fun j hj => (hk2 j hj).elim (fun h => hd j h) (fun h => ⟨fun e => by have := (hlt j e).2; omega, by omega⟩)
      refine ⟨⟨fun j => M j ∨ j = g ∨ Value.blk v2 = some j, by rw [he], ⟨v2, off2, M, ?_, ?_, ?_, hMg, hBg, hnew, fun j => Iff.rfl⟩, ?_, ?_⟩, ?_, ?_, ?_⟩
      · unfold layP
        rw [if_pos he]
        exact block_setCell hi2 4 _
      · unfold layP
        rw [if_pos he]
        exact T.upd (T.upd hrd hu2 (fun j e => ⟨(ho.lt j e).1, (hd j e).1⟩)) hu3 (fun j e => by subst e; exact ⟨hBg, hMg⟩)
      · unfold layP
        rw [if_pos he]
        exact ho2.upd hu3 (fun j hj e => (hnew j hj).2 e)
      · exact (hu2.mono (fun j _ e => (hF j).2 (.inr (.inr e)))).trans (hu3.mono (fun j _ e => (hF j).2 (.inr (.inl e))))
      · rintro j (h | h | h)
        · exact .inl ((hF j).2 (.inl h))
        · exact .inl ((hF j).2 (.inr (.inl h)))
        · exact (hk2 j h).imp (fun h => (hF j).2 (.inr (.inr h))) id
      · have := (OutC.c hi2).2.2.1; rw [he] at this; exact this
      · exact (OutC.c hi2).2.2.2.2.1
      · exact (OutC.c hi2).2.2.2.2.2 4
    have HO := hide ho
    have HR := hide hr
    have HN := hide hn
    rw [he] at c2
    obtain ⟨xl, hxl⟩ : ∃ xl, x.b.length = xl := ⟨_, rfl⟩
    obtain ⟨aw, cw, rfl, _, _, _, _⟩ := ho.slice hxl
    replace hxl := hide hxl
    have hlen : Hid ((x.b ++ ys).length = xl + ly) := hide (by rw [List.length_append, hl, hxl.out])
    clear hi hrd ho hd hF hr hn HSAME T he
    go_enter Try.func19, Try.ntmps19
    go_wp2_with (first
      | (at_builtin; refine append_w rfl (.tmp 15) (.tmp 16) 23 rfl B 5 i0' Try.underlying23 hi0 hz0 hz1 hz2 off (.slice aw xl cw) x.b rfl HO.out ay ly cy ys rfl hl HN.out HR.out hz hB ?_; intro v2 w2 off2 hoff ho2 hg2 hk2; have HF2 := hide (HFIN.out v2 w2 off2 ho2 hg2 hk2).1; have e2 := (HFIN.out v2 w2 off2 ho2 hg2 hk2).2.1; have e4 := (HFIN.out v2 w2 off2 ho2 hg2 hk2).2.2.1; have g4 := (HFIN.out v2 w2 off2 ho2 hg2 hk2).2.2.2; clear HFIN hoff hg2 hk2; obtain ⟨a3, c3, rfl, hr3, hn3, hc3, ha3⟩ := ho2.slice hlen.out; clear ho2 hr3 hn3 ha3)
      | fail)
    go_ret
    exact HF2.out
  · have he' : (x.err == 0) = false := by simp [he]
    have HF := hide (HSAME.out he)
    clear hi hrd ho hd hF hr hn HSAME T
    go_enter Try.func19, Try.ntmps19
    go_wp2_with fail
    go_ret
    exact HF.out

end Go.Proofs.Ytjcanghffhpncaa
