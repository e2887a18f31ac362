/- The document's Out: Flush. -/
import Derived.Test.YtjcanghffhpncaaQRPush
import Derived.Test.YtjcanghffhpncaaQFlush
namespace Go.Proofs.Ytjcanghffhpncaa
open Go.RowKit

def rcellN (W : World) (g k : Nat) : Nat := match W.cell? ⟨g, k, none⟩ with
  | some (.int _ x) => x.toNat
  | _ => 0
def routM (W : World) (g : Nat) : Nat := if cellI W g 3 = 0 then 17 * slenW W g 1 + (16 - rcellN W g 4) + 1 else 0
theorem IsROut.m {τ : Type} {Wd : World → τ → (Nat → Prop) → Prop} {B g g2 : Nat} {W : World} {x : OutS τ} {F : Nat → Prop} (h : IsROut Wd B g g2 W x F) : routM W g = if x.err = 0 then 17 * x.b.length + (16 - x.i) + 1 else 0 := by
  obtain ⟨wv, off, i, M, hi, hr, ho, hMg, hBg, hd, he, hF⟩ := h
  obtain ⟨a, c, rfl, _⟩ := ho.slice rfl
  unfold routM cellI slenW rcellN
  rw [(ROutC.c hi).2.1, (ROutC.c hi).2.2.2.1, (ROutC.c hi).2.2.2.2.1]
  by_cases h0 : x.err = 0
  · simp [slen, h0, he h0]
  · simp [h0]

structure RFL {τ : Type} (wf : τ → List Int → Int × Int × τ) (cnt sz : τ → Nat) (Wd : World → τ → (Nat → Prop) → Prop) (B g g2 : Nat) (C Z : Nat) (res : OutS τ) (F0 : Nat → Prop) (W W' : World) (x : OutS τ) (F : Nat → Prop) (fu : Nat) : Prop where
  isout : IsROut Wd B g g2 W' x F
  ok : OutOk cnt sz C Z x
  eq : res = flushF wf fu x
  fuel : x.err = 0 → 17 * x.b.length + (16 - x.i) ≤ fu
  upd : Upd F0 W W'
  sub : ∀ j, F j → F0 j ∨ W.heap.size ≤ j

set_option maxRecDepth 100000 in
set_option maxHeartbeats 1600000 in
theorem rflush_any {τ : Type} {wf : τ → List Int → Int × Int × τ} {cnt sz : τ → Nat} {B g2 : Nat} {Wd : World → τ → (Nat → Prop) → Prop} (T : Writer wf cnt sz 58 (.pointer (some ⟨g2, 0, none⟩)) B Wd)
    (W : World) (g : Nat) (x0 : OutS τ) (F0 : Nat → Prop) (C Z : Nat) (hI : IsROut Wd B g g2 W x0 F0) (hok : OutOk cnt sz C Z x0) (hC : C ≤ 4611686018427387000) (hZ : Z ≤ 140737488355328) (hB : B ≤ W.heap.size) :
    Calls Try.prog 49 #[.pointer (some ⟨g, 0, none⟩)] W fun e W' => ROutPost Wd B g g2 (.int .i64 (flushA wf x0).err) (flushA wf x0) F0 W e W' := by
  obtain ⟨res, hres⟩ : ∃ res, res = flushA wf x0 := ⟨_, rfl⟩
  rw [← hres]
  have H0 : Hid (RFL wf cnt sz Wd B g g2 C Z res F0 W W x0 F0 (17 * x0.b.length + 16)) := hide ⟨hI, hok, hres, fun _ => by omega, Upd.refl _ _, fun _ h => .inl h⟩
  have HT := hide T
  clear hI hok T hres
  go_enter Try.func49, Try.ntmps49
  go_wp2_with fail
  go_loopw [] (fun wr => ∃ fu, ∃ (x : OutS τ) (F : Nat → Prop), RFL wf cnt sz Wd B g g2 C Z res F0 W wr x F fu) (fun wr => routM wr g)
  case atStart => exact ⟨_, _, _, H0.out⟩
  case round =>
    clear H0
    obtain ⟨fu, x, F, hI⟩ := hrel
    have HI := hide hI
    have h0 := hI.isout.at0
    obtain ⟨aw, cw, c4⟩ := h0.2.2.2.2
    have c2 := h0.2.2.2.1
    have hz := hI.upd.size
    clear hI
    by_cases hx : x.err ≠ 0 ∨ x.b = []
    · have hF : ROutPost Wd B g g2 (.int .i64 res.err) res F0 W (.returned (.int .i64 x.err)) wr := by
        have hr : res = x := by rw [HI.out.eq, flush_done hx]
        rw [hr]
        exact ⟨F, rfl, HI.out.isout, HI.out.upd, HI.out.sub⟩
      have HF := hide hF
      clear hF h0
      by_cases hb : x.b = []
      · have hl0 : x.b.length = 0 := by rw [hb]; rfl
        rw [hl0] at c4
        clear hx hb hl0
        go_wp2_with fail
        go_ret
        exact HF.out
      · have he : x.err ≠ 0 := hx.resolve_right hb
        have he' : (x.err == 0) = false := by simp [he]
        have hlp : (0 : Int) < (x.b.length : Int) := by have := List.length_pos_iff.2 hb; omega
        clear hx hb he
        go_wp2_with fail
        go_ret
        exact HF.out
    · have he : x.err = 0 := Classical.byContradiction fun e => hx (.inl e)
      have hb : x.b ≠ [] := fun e => hx (.inr e)
      have hlp : (0 : Int) < (x.b.length : Int) := by have := List.length_pos_iff.2 hb; omega
      have HP := hide (rpush_any HT.out wr g x F C Z HI.out.isout HI.out.ok hC hZ (by omega))
      have HOK := hide (push_ok HT.out x C Z HI.out.ok)
      have HST := hide (flush_step (wf := wf) (fu := fu) (x := x) (by have := HI.out.fuel he; have := List.length_pos_iff.2 hb; omega) hx)
      have hmi : routM wr g = 17 * x.b.length + (16 - x.i) + 1 := by rw [HI.out.isout.m, if_pos he]
      rw [he] at c2
      have HHE := hide he
      have HHB := hide hb
      clear h0 hx he hb
      generalize pushP wf x = q at *
      obtain ⟨n, er, y⟩ := q
      simp only at HOK HST HP
      go_wp2_with fail
      refine HP.out.mono ?_
      rintro e w2 ⟨F', rfl, hi2, hu2, hs2⟩
      have HN : Hid (RFL wf cnt sz Wd B g g2 C Z res F0 W w2 y F' (fu - 1)) := hide ⟨hi2, HOK.out.1, by rw [HI.out.eq, HST.out], fun h => by have := HOK.out.2 HHE.out HHB.out h; have := HI.out.fuel HHE.out; omega, HI.out.upd.then hu2 (fun j hj e => (HI.out.sub j e).elim id (fun h => by omega)), fun j hj => (hs2 j hj).elim (fun h => HI.out.sub j h) (fun h => .inr (by omega))⟩
      have hme := hi2.m
      have hdec := HOK.out.2 HHE.out HHB.out
      have HLT : Hid (routM w2 g < routM wr g) := hide (by
        rw [hme, hmi]
        by_cases h : y.err = 0
        · rw [if_pos h]; have := hdec h; omega
        · rw [if_neg h]; omega)
      clear hdec
      clear hi2 hu2 hs2 HP hme hmi
      go_wp2_with fail
      go_roundw
      case rel => exact ⟨_, _, _, HN.out⟩
      case measure => exact HLT.out

end Go.Proofs.Ytjcanghffhpncaa
