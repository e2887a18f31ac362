/- An Out: Flush, Left; one is made. -/
import Derived.Test.YteindoemdonagaaG20
namespace Go.Proofs.Yteindoemdonagaa
open Go.RowKit

section
variable {τ : Type} {wf : τ → List Int → Int × Int × τ} {cnt sz : τ → Nat} {f : FuncId} {recv : Value} {B : Nat} {Wd : World → τ → (Nat → Prop) → Prop}
/-- What is known behind Push; fu: how many may follow. -/
theorem push_ok (T : Writer wf cnt sz f recv B Wd) (x : OutS τ) (C Z : Nat) (h : OutOk cnt sz C Z x) : OutOk cnt sz C Z (pushP wf x).2.2 ∧ (x.err = 0 → x.b ≠ [] → (pushP wf x).2.2.err = 0 → 17 * (pushP wf x).2.2.b.length + (16 - (pushP wf x).2.2.i) + 1 ≤ 17 * x.b.length + (16 - x.i)) := by
  by_cases hx : x.err ≠ 0 ∨ x.b = []
  · have hp : pushP wf x = (0, x.err, x) := by unfold pushP; rw [if_pos hx]
    rw [hp]
    exact ⟨h, fun h1 h2 => by rcases hx with h3 | h3 <;> contradiction⟩
  · have he : x.err = 0 := Classical.byContradiction fun e => hx (.inl e)
    have hb : x.b ≠ [] := fun e => hx (.inr e)
    have h1 := T.cnt1 x.t (x.b.take 4096)
    have h2 := T.szin x.t (x.b.take 4096)
    rw [push_step he hb _ rfl]
    generalize wf x.t (x.b.take 4096) = q at *
    obtain ⟨n, er, t'⟩ := q
    simp only at *
    have hi := h.i16 he
    have hp := h.pot he
    have hs := h.size he
    have ha := h.all
    have hbp := List.length_pos_iff.2 hb
    by_cases hbad : n < 0 ∨ ((x.b.take 4096).length : Int) < n
    · rw [if_pos hbad]
      exact ⟨⟨fun h => absurd h (by simp), fun h => absurd h (by simp), fun h => absurd h (by simp), ha⟩, fun _ _ h => absurd h (by simp)⟩
    · rw [if_neg hbad]
      obtain ⟨y, rfl⟩ : ∃ y : Nat, n = y := ⟨n.toNat, by omega⟩
      rw [Int.toNat_natCast] at *
      have htl : (x.b.take 4096).length ≤ x.b.length := by rw [List.length_take]; omega
      have hyl : y ≤ x.b.length := by omega
      have h2' := h2 (by omega) (by omega)
      have j1 : 0 < y ∨ er ≠ 0 → idleOf x.i y er = 0 := fun h => by unfold idleOf; rw [if_pos h]
      have j2 : ¬ (0 < y ∨ er ≠ 0) → idleOf x.i y er = x.i + 1 := fun h => by unfold idleOf; rw [if_neg h]
      have j3 : toldOf (idleOf x.i y er) er = 0 → er = 0 ∧ idleOf x.i y er ≠ 16 := fun h => by
        unfold toldOf at h
        split at h
        · omega
        · exact ⟨h, by assumption⟩
      generalize idleOf x.i y er = J at *
      have key : toldOf J er = 0 → J < 16 ∧ (0 < y ∧ J = 0 ∨ y = 0 ∧ J = x.i + 1) := fun h => by
        obtain ⟨e1, e2⟩ := j3 h
        by_cases hy : 0 < y
        · have := j1 (.inl hy); exact ⟨by omega, .inl ⟨hy, this⟩⟩
        · have := j2 (fun h => h.elim hy (fun h => h e1)); exact ⟨by omega, .inr ⟨by omega, this⟩⟩
      refine ⟨⟨fun h => (key h).1, fun h => ?_, fun h => ?_, ?_⟩, fun _ _ h => ?_⟩
      · have := key h; simp only [List.length_drop]; omega
      · simp only [List.length_drop]; omega
      · simp only [List.length_drop]; omega
      · have := key h; simp only [List.length_drop]; omega

def flushF (wf : τ → List Int → Int × Int × τ) : Nat → OutS τ → OutS τ
  | 0, x => x
  | fu + 1, x => if x.err ≠ 0 ∨ x.b = [] then x else flushF wf fu (pushP wf x).2.2
def flushA (wf : τ → List Int → Int × Int × τ) (x : OutS τ) : OutS τ := flushF wf (17 * x.b.length + 16) x
theorem flush_done {fu : Nat} {x : OutS τ} (h : x.err ≠ 0 ∨ x.b = []) : flushF wf fu x = x := by
  cases fu with
  | zero => rfl
  | succ fu => rw [flushF, if_pos h]
theorem flush_step {fu : Nat} {x : OutS τ} (hf : 0 < fu) (h : ¬ (x.err ≠ 0 ∨ x.b = [])) : flushF wf fu x = flushF wf (fu - 1) (pushP wf x).2.2 := by
  obtain ⟨fu, rfl⟩ : ∃ f, fu = f + 1 := ⟨fu - 1, by omega⟩
  rw [flushF, if_neg h]
  rfl
theorem flush_ok (T : Writer wf cnt sz f recv B Wd) (C Z : Nat) : ∀ (fu : Nat) (x : OutS τ), OutOk cnt sz C Z x → OutOk cnt sz C Z (flushF wf fu x)
  | 0, x, h => h
  | fu + 1, x, h => by
    rw [flushF]
    split
    · exact h
    · exact flush_ok T C Z fu _ (push_ok T x C Z h).1
end

set_option maxHeartbeats 400000 in
theorem oleft_any (g : Nat) (a : Option Addr) (l c : Nat) (W : World) (h : W.cell? ⟨g, 4, none⟩ = some (.slice a l c)) :
    Calls Try.prog 11 #[.pointer (some ⟨g, 0, none⟩)] W fun e W' => e = .returned (.int .i64 (l : Int)) ∧ W' = W := by
  go_enter Try.func11, Try.ntmps11
  go_wp2_with fail
  go_ret
  exact ⟨rfl, rfl⟩
set_option maxHeartbeats 400000 in
theorem newOut_any (ty : TypeId) (pv : Value) (W : World) :
    Calls Try.prog 6 #[.iface ty pv] W fun e W' => e = .returned (.pointer (some ⟨W.heap.size, 0, none⟩)) ∧ W' = W.alloc (.cells #[.int .i64 0, .int .i64 0, .int .i64 0, .iface ty pv, .slice none 0 0] 45) := by
  go_enter Try.func6, Try.ntmps6
  go_wp2_with fail
  go_ret
  exact ⟨rfl, rfl⟩

def cellI (W : World) (g k : Nat) : Int := match W.cell? ⟨g, k, none⟩ with
  | some (.int _ x) => x
  | _ => 1
def slenW (W : World) (g k : Nat) : Nat := match W.cell? ⟨g, k, none⟩ with
  | some v => slen v
  | none => 0
def outM (W : World) (g : Nat) : Nat := if cellI W g 2 = 0 then 17 * slenW W g 4 + (16 - cellN W g 1) + 1 else 0
theorem IsOut.m {τ : Type} {Wd : World → τ → (Nat → Prop) → Prop} {B g : Nat} {r : Value} {W : World} {x : OutS τ} {F : Nat → Prop} (h : IsOut Wd B g r W x F) : outM W g = if x.err = 0 then 17 * x.b.length + (16 - x.i) + 1 else 0 := by
  obtain ⟨wv, off, M, hi, hr, ho, _⟩ := h
  obtain ⟨a, c, rfl, _⟩ := ho.slice rfl
  unfold outM cellI slenW cellN
  rw [(OutC.c hi).2.2.1, (OutC.c hi).2.2.2.2.1, (OutC.c hi).2.1]
  simp [slen]

structure FL {τ : Type} (wf : τ → List Int → Int × Int × τ) (cnt sz : τ → Nat) (Wd : World → τ → (Nat → Prop) → Prop) (B g : Nat) (r : Value) (C Z : Nat) (res : OutS τ) (F0 : Nat → Prop) (W W' : World) (x : OutS τ) (F : Nat → Prop) (fu : Nat) : Prop where
  isout : IsOut Wd B g r W' x F
  ok : OutOk cnt sz C Z x
  eq : res = flushF wf fu x
  fuel : x.err = 0 → 17 * x.b.length + (16 - x.i) ≤ fu
  upd : Upd F0 W W'
  sub : ∀ j, F j → F0 j ∨ W.heap.size ≤ j

set_option maxRecDepth 100000 in
set_option maxHeartbeats 1600000 in
theorem flush_any {τ : Type} {wf : τ → List Int → Int × Int × τ} {cnt sz : τ → Nat} {f : FuncId} {recv : Value} {B : Nat} {Wd : World → τ → (Nat → Prop) → Prop} {ty : TypeId} {pv : Value} (L : Leads "Write" ty pv f recv) (T : Writer wf cnt sz f recv B Wd)
    (W : World) (g : Nat) (x0 : OutS τ) (F0 : Nat → Prop) (C Z : Nat) (hI : IsOut Wd B g (.iface ty pv) W x0 F0) (hok : OutOk cnt sz C Z x0) (hC : C ≤ 4611686018427387000) (hZ : Z ≤ 140737488355328) (hB : B ≤ W.heap.size) :
    Calls Try.prog 9 #[.pointer (some ⟨g, 0, none⟩)] W fun e W' => OutPost Wd B g (.iface ty pv) (.int .i64 (flushA wf x0).err) (flushA wf x0) F0 W e W' := by
  obtain ⟨res, hres⟩ : ∃ res, res = flushA wf x0 := ⟨_, rfl⟩
  rw [← hres]
  have H0 : Hid (FL wf cnt sz Wd B g (.iface ty pv) C Z res F0 W W x0 F0 (17 * x0.b.length + 16)) := hide ⟨hI, hok, hres, fun _ => by omega, Upd.refl _ _, fun _ h => .inl h⟩
  have HL := hide L
  have HT := hide T
  clear hI hok L T hres
  go_enter Try.func9, Try.ntmps9
  go_wp2_with fail
  go_loopw [] (fun wr => ∃ fu, ∃ (x : OutS τ) (F : Nat → Prop), FL wf cnt sz Wd B g (.iface ty pv) C Z res F0 W wr x F fu) (fun wr => outM wr g)
  case atStart => exact ⟨_, _, _, H0.out⟩
  case round =>
    clear H0
    obtain ⟨fu, x, F, hI⟩ := hrel
    have HI := hide hI
    have h0 := hI.isout.at0
    obtain ⟨aw, cw, c4⟩ := h0.2.2.2.2
    have c2 := h0.2.2.2.1
    have hz := hI.upd.size
    clear hI
    by_cases hx : x.err ≠ 0 ∨ x.b = []
    · have hF : OutPost Wd B g (.iface ty pv) (.int .i64 res.err) res F0 W (.returned (.int .i64 x.err)) wr := by
        have hr : res = x := by rw [HI.out.eq, flush_done hx]
        rw [hr]
        exact ⟨F, rfl, HI.out.isout, HI.out.upd, HI.out.sub⟩
      have HF := hide hF
      clear hF h0
      by_cases he : x.err = 0
      · have hb : x.b = [] := hx.elim (fun h => absurd he h) id
        have hl0 : x.b.length = 0 := by rw [hb]; rfl
        rw [hl0] at c4
        rw [he] at c2 HF
        clear hx hb hl0
        go_wp2_with fail
        go_ret
        exact HF.out
      · have he' : (x.err == 0) = false := by simp [he]
        clear hx
        go_wp2_with fail
        go_ret
        exact HF.out
    · have he : x.err = 0 := Classical.byContradiction fun e => hx (.inl e)
      have hb : x.b ≠ [] := fun e => hx (.inr e)
      have hlp : (0 : Int) < (x.b.length : Int) := by have := List.length_pos_iff.2 hb; omega
      have HP := hide (push_any HL.out HT.out wr g x F C Z HI.out.isout HI.out.ok hC hZ (by omega))
      have HOK := hide (push_ok HT.out x C Z HI.out.ok)
      have HST := hide (flush_step (wf := wf) (fu := fu) (x := x) (by have := HI.out.fuel he; have := List.length_pos_iff.2 hb; omega) hx)
      have hmi : outM wr g = 17 * x.b.length + (16 - x.i) + 1 := by rw [HI.out.isout.m, if_pos he]
      rw [he] at c2
      have HHE := hide he
      have HHB := hide hb
      clear h0 hx he hb
      generalize pushP wf x = q at *
      obtain ⟨n, er, y⟩ := q
      simp only at HOK HST HP
      go_wp2_with fail
      refine HP.out.mono ?_
      rintro e w2 ⟨F', rfl, hi2, hu2, hs2⟩
      have HN : Hid (FL wf cnt sz Wd B g (.iface ty pv) C Z res F0 W w2 y F' (fu - 1)) := hide ⟨hi2, HOK.out.1, by rw [HI.out.eq, HST.out], fun h => by have := HOK.out.2 HHE.out HHB.out h; have := HI.out.fuel HHE.out; omega, HI.out.upd.then hu2 (fun j hj e => (HI.out.sub j e).elim id (fun h => by omega)), fun j hj => (hs2 j hj).elim (fun h => HI.out.sub j h) (fun h => .inr (by omega))⟩
      have hme := hi2.m
      have hdec := HOK.out.2 HHE.out HHB.out
      have HLT : Hid (outM w2 g < outM wr g) := hide (by
        rw [hme, hmi]
        by_cases h : y.err = 0
        · rw [if_pos h]; have := hdec h; omega
        · rw [if_neg h]; omega)
      clear hdec
      clear hi2 hu2 hs2 HP hme hmi
      go_wp2_with fail
      go_roundw
      case rel => exact ⟨_, _, _, HN.out⟩
      case measure => exact HLT.out

end Go.Proofs.Yteindoemdonagaa
