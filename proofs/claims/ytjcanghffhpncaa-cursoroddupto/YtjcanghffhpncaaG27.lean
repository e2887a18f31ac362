/- The document's Out: Lay. -/
import Derived.Test.YtjcanghffhpncaaG16
import Derived.Test.YtjcanghffhpncaaG21
namespace Go.Proofs.Ytjcanghffhpncaa
open Go.RowKit

def ROutC (W : World) (g g2 : Nat) (bv : Value) (at' : Nat) (err : Int) (i : Nat) : Prop :=
  W.heap[g]? = some (.cells #[.pointer (some ⟨g2, 0, none⟩), bv, .int .i64 (at' : Int), .int .i64 err, .int .i64 (i : Int)] 73 (0, 0))
theorem ROutC.c {W : World} {g g2 at' i : Nat} {err : Int} {bv : Value} (h : ROutC W g g2 bv at' err i) :
    W.cell? ⟨g, 0, none⟩ = some (.pointer (some ⟨g2, 0, none⟩)) ∧ W.cell? ⟨g, 1, none⟩ = some bv ∧ W.cell? ⟨g, 2, none⟩ = some (.int .i64 (at' : Int)) ∧ W.cell? ⟨g, 3, none⟩ = some (.int .i64 err) ∧ W.cell? ⟨g, 4, none⟩ = some (.int .i64 (i : Int)) ∧ ∀ j, W.frozen? ⟨g, j, none⟩ = false :=
  ⟨blk_cell h rfl, blk_cell h rfl, blk_cell h rfl, blk_cell h rfl, blk_cell h rfl, fun j => frozen_blk h j⟩
theorem ROutC.upd {W W' : World} {S : Nat → Prop} {g g2 at' i : Nat} {err : Int} {bv : Value} (h : ROutC W g g2 bv at' err i) (hu : Upd S W W') (hs : ¬ S g) : ROutC W' g g2 bv at' err i := hu.heap h hs
def IsROut {τ : Type} (Wd : World → τ → (Nat → Prop) → Prop) (B g g2 : Nat) (W : World) (x : OutS τ) (F : Nat → Prop) : Prop :=
  ∃ wv off i M, ROutC W g g2 wv x.at' x.err i ∧ Wd W x.t M ∧ OwnW W B 5 off wv x.b ∧ ¬ M g ∧ B ≤ g ∧ (∀ j, Value.blk wv = some j → ¬ M j ∧ j ≠ g) ∧ (x.err = 0 → i = x.i) ∧ ∀ j, F j ↔ (M j ∨ j = g ∨ Value.blk wv = some j)

section
variable {τ : Type} {wf : τ → List Int → Int × Int × τ} {cnt sz : τ → Nat} {f : FuncId} {recv : Value} {B g g2 : Nat} {Wd : World → τ → (Nat → Prop) → Prop} {W W' : World} {x : OutS τ} {F S : Nat → Prop}
theorem IsROut.upd (T : Writer wf cnt sz f recv B Wd) (h : IsROut Wd B g g2 W x F) (hu : Upd S W W') (hs : ∀ j, S j → B ≤ j ∧ ¬ F j) : IsROut Wd B g g2 W' x F := by
  obtain ⟨wv, off, i, M, hi, hr, ho, hMg, hBg, hd, he, hF⟩ := h
  exact ⟨wv, off, i, M, hi.upd hu (fun e => (hs g e).2 ((hF g).2 (.inr (.inl rfl)))), T.upd hr hu (fun j e => ⟨(hs j e).1, fun h => (hs j e).2 ((hF j).2 (.inl h))⟩), ho.upd hu (fun j hj e => (hs j e).2 ((hF j).2 (.inr (.inr hj)))), hMg, hBg, hd, he, hF⟩
theorem IsROut.still (T : Writer wf cnt sz f recv B Wd) (h : IsROut Wd B g g2 W x F) (n : Nat) : IsROut Wd B g g2 (W.drewN n) x F :=
  h.upd T (((Still.refl W).drewN n).upd Noth) (fun _ e => e.elim)
theorem IsROut.lt (T : Writer wf cnt sz f recv B Wd) (h : IsROut Wd B g g2 W x F) : ∀ j, F j → B ≤ j ∧ j < W.heap.size := by
  obtain ⟨wv, off, i, M, hi, hr, ho, hMg, hBg, hd, he, hF⟩ := h
  intro j hj
  rcases (hF j).1 hj with h | h | h
  · exact T.lt hr j h
  · subst h; exact ⟨hBg, lt_of_block hi⟩
  · exact ho.lt j h
theorem IsROut.at0 (h : IsROut Wd B g g2 W x F) : F g ∧ g < W.heap.size ∧ W.cell? ⟨g, 2, none⟩ = some (.int .i64 (x.at' : Int)) ∧ W.cell? ⟨g, 3, none⟩ = some (.int .i64 x.err) ∧ ∃ a c, W.cell? ⟨g, 1, none⟩ = some (.slice a x.b.length c) := by
  obtain ⟨wv, off, i, M, hi, hr, ho, hMg, hBg, hd, he, hF⟩ := h
  obtain ⟨a, c, hv, _⟩ := ho.slice rfl
  exact ⟨(hF g).2 (.inr (.inl rfl)), lt_of_block hi, (ROutC.c hi).2.2.1, (ROutC.c hi).2.2.2.1, a, c, by rw [← hv]; exact (ROutC.c hi).2.1⟩
end

def ROutPost {τ : Type} (Wd : World → τ → (Nat → Prop) → Prop) (B g g2 : Nat) (v : Value) (x : OutS τ) (F : Nat → Prop) (W : World) (e : Ending) (W' : World) : Prop :=
  ∃ F', e = .returned v ∧ IsROut Wd B g g2 W' x F' ∧ Upd F W W' ∧ ∀ j, F' j → F j ∨ W.heap.size ≤ j

set_option maxRecDepth 100000 in
set_option maxHeartbeats 1600000 in
theorem rlay_any {τ : Type} {wf : τ → List Int → Int × Int × τ} {cnt sz : τ → Nat} {f : FuncId} {recv : Value} {B : Nat} {Wd : World → τ → (Nat → Prop) → Prop} (T : Writer wf cnt sz f recv B Wd)
    (W : World) (g g2 : Nat) (x : OutS τ) (F : Nat → Prop) (ay : Option Addr) (ly cy : Nat) (ys : List Int) (hl : ys.length = ly) (hn : ay = none → ly = 0 ∧ cy = 0) (hr : Row W .u8 ay ys) (hI : IsROut Wd B g g2 W x F) (hB : B ≤ W.heap.size) (hz : x.b.length + ly ≤ 140737488355328) :
    Calls Try.prog 47 #[.pointer (some ⟨g, 0, none⟩), .slice ay ly cy] W fun e W' => ROutPost Wd B g g2 (.int .i64 x.err) (layP x ys) F W e W' := by
  obtain ⟨i0', hi0, hz0, hz1, hz2⟩ := info_parts' infoByte'
  have HSAME : Hid (x.err ≠ 0 → ROutPost Wd B g g2 (.int .i64 x.err) (layP x ys) F W (.returned (.int .i64 x.err)) W) := hide fun h => by
    unfold layP
    rw [if_neg h]
    exact ⟨F, rfl, hI, Upd.refl _ _, fun _ h => .inl h⟩
  obtain ⟨wv, off, i, M, hi, hrd, ho, hMg, hBg, hd, hix, hF⟩ := hI
  have c2 := (ROutC.c hi).2.2.2.1
  have c4 := (ROutC.c hi).2.1
  have hgl : g < W.heap.size := lt_of_block hi
  by_cases he : x.err = 0
  · have HFIN : Hid (∀ v2 w2 off2, OwnW w2 B 5 off2 v2 (x.b ++ ys) → W.grownBy w2 (Value.blk wv) → (∀ j, Value.blk v2 = some j → Value.blk wv = some j ∨ W.heap.size ≤ j) → ROutPost Wd B g g2 (.int .i64 x.err) (layP x ys) F W (.returned (.int .i64 0)) (w2.setCell ⟨g, 1, none⟩ v2) ∧ w2.cell? ⟨g, 3, none⟩ = some (.int .i64 0) ∧ w2.cell? ⟨g, 1, none⟩ = some wv ∧ w2.frozen? ⟨g, 1, none⟩ = false) := hide fun v2 w2 off2 ho2 hg2 hk2 => by
      have hu2 : Upd (fun j => Value.blk wv = some j) W w2 := Upd.of_grown hg2 (fun j hj _ => hj)
      have hi2 := hi.upd hu2 (fun e => (hd g e).2 rfl)
      have hu3 : Upd (fun j => j = g) w2 (w2.setCell ⟨g, 1, none⟩ v2) := (Upd.refl _ _).set1 1 _
      have hlt := T.lt hrd
      have hnew : ∀ j, Value.blk v2 = some j → ¬ M j ∧ j ≠ g := fun j hj => (hk2 j hj).elim (fun h => hd j h) (fun h => ⟨fun e => by have := (hlt j e).2; omega, by omega⟩)
      refine ⟨⟨fun j => M j ∨ j = g ∨ Value.blk v2 = some j, by rw [he], ⟨v2, off2, i, M, ?_, ?_, ?_, hMg, hBg, hnew, (fun _ => by unfold layP; rw [if_pos he]; exact hix he), fun j => Iff.rfl⟩, ?_, ?_⟩, ?_, ?_, ?_⟩
      · unfold layP
        rw [if_pos he]
        exact block_setCell hi2 1 _
      · unfold layP
        rw [if_pos he]
        exact T.upd (T.upd hrd hu2 (fun j e => ⟨(ho.lt j e).1, (hd j e).1⟩)) hu3 (fun j e => by subst e; exact ⟨hBg, hMg⟩)
      · unfold layP
        rw [if_pos he]
        exact ho2.upd hu3 (fun j hj e => (hnew j hj).2 e)
      · exact (hu2.mono (fun j _ e => (hF j).2 (.inr (.inr e)))).trans (hu3.mono (fun j _ e => (hF j).2 (.inr (.inl e))))
      · rintro j (h | h | h)
        · exact .inl ((hF j).2 (.inl h))
        · exact .inl ((hF j).2 (.inr (.inl h)))
        · exact (hk2 j h).imp (fun h => (hF j).2 (.inr (.inr h))) id
      · have := (ROutC.c hi2).2.2.2.1; rw [he] at this; exact this
      · exact (ROutC.c hi2).2.1
      · exact (ROutC.c hi2).2.2.2.2.2 1
    have HO := hide ho
    have HR := hide hr
    have HN := hide hn
    rw [he] at c2
    obtain ⟨xl, hxl⟩ : ∃ xl, x.b.length = xl := ⟨_, rfl⟩
    obtain ⟨aw, cw, rfl, _, _, _, _⟩ := ho.slice hxl
    replace hxl := hide hxl
    have hlen : Hid ((x.b ++ ys).length = xl + ly) := hide (by rw [List.length_append, hl, hxl.out])
    clear hi hrd ho hd hF hr hn HSAME T he hix
    go_enter Try.func47, Try.ntmps47
    go_wp2_with (first
      | (at_builtin; refine append_w rfl (.tmp 14) (.tmp 15) 23 rfl B 5 i0' Try.underlying23 hi0 hz0 hz1 hz2 off (.slice aw xl cw) x.b rfl HO.out ay ly cy ys rfl hl HN.out HR.out hz hB ?_; intro v2 w2 off2 hoff ho2 hg2 hk2; have HF2 := hide (HFIN.out v2 w2 off2 ho2 hg2 hk2).1; have e2 := (HFIN.out v2 w2 off2 ho2 hg2 hk2).2.1; have e4 := (HFIN.out v2 w2 off2 ho2 hg2 hk2).2.2.1; have g4 := (HFIN.out v2 w2 off2 ho2 hg2 hk2).2.2.2; clear HFIN hoff hg2 hk2; obtain ⟨a3, c3, rfl, hr3, hn3, hc3, ha3⟩ := ho2.slice hlen.out; clear ho2 hr3 hn3 ha3)
      | fail)
    go_ret
    exact HF2.out
  · have he' : (x.err == 0) = false := by simp [he]
    have HF := hide (HSAME.out he)
    clear hi hrd ho hd hF hr hn HSAME T hix
    go_enter Try.func47, Try.ntmps47
    go_wp2_with fail
    go_ret
    exact HF.out

end Go.Proofs.Ytjcanghffhpncaa
