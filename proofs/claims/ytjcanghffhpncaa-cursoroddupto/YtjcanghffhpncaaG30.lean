/- Both Outs are told the same: they answer alike. -/
import Derived.Test.YtjcanghffhpncaaG29
import Derived.Test.YtjcanghffhpncaaG11
import Derived.Test.YtjcanghffhpncaaG5
import Derived.Deep.DeepCutAuto
import Derived.Deep.CutBlock
namespace Go.Proofs.Ytjcanghffhpncaa
open Go.RowKit

/-- The state behind what is told. -/
def opO {τ : Type} (wf : τ → List Int → Int × Int × τ) (k : Int) (ys : List Int) (x : OutS τ) : OutS τ :=
  if k = 0 then layP x ys else if k = 1 then (pushP wf x).2.2 else if k = 2 then flushA wf x else x
theorem lay_ok {τ : Type} {cnt sz : τ → Nat} {C Z : Nat} {x : OutS τ} (h : OutOk cnt sz C Z x) (ys : List Int) : OutOk cnt sz (C + 17 * ys.length) (Z + ys.length) (layP x ys) := by
  unfold layP
  have ha := h.all
  split
  · rename_i he
    refine ⟨fun _ => h.i16 he, fun _ => ?_, fun _ => ?_, ?_⟩
    · have := h.pot he; simp only [List.length_append]; omega
    · have := h.size he; simp only [List.length_append]; omega
    · simp only [List.length_append]; omega
  · rename_i he
    exact ⟨fun e => absurd e he, fun e => absurd e he, fun e => absurd e he, by omega⟩
theorem OutOk.mono {τ : Type} {cnt sz : τ → Nat} {C Z C' Z' : Nat} {x : OutS τ} (h : OutOk cnt sz C Z x) (hC : C ≤ C') (hZ : Z ≤ Z') : OutOk cnt sz C' Z' x :=
  ⟨h.i16, fun e => Nat.le_trans (h.pot e) hC, fun e => Nat.le_trans (h.size e) hZ, Nat.le_trans h.all hZ⟩
theorem opO_ok {τ : Type} {wf : τ → List Int → Int × Int × τ} {cnt sz : τ → Nat} {f : FuncId} {recv : Value} {B : Nat} {Wd : World → τ → (Nat → Prop) → Prop} (T : Writer wf cnt sz f recv B Wd) {C Z : Nat} {x : OutS τ} (h : OutOk cnt sz C Z x) (k : Int) (ys : List Int) : OutOk cnt sz (C + 17 * ys.length) (Z + ys.length) (opO wf k ys x) := by
  unfold opO
  split
  · exact lay_ok h ys
  · split
    · exact (push_ok T x C Z h).1.mono (by omega) (by omega)
    · split
      · exact (flush_ok T C Z _ x h).mono (by omega) (by omega)
      · exact h.mono (by omega) (by omega)

/-- Both Outs stand alike, apart from one another. -/
structure OP {τ : Type} (Wd1 Wd2 : World → τ → (Nat → Prop) → Prop) (B gc gd g2 : Nat) (r : Value) (W0 : World) (F G : Nat → Prop) (W : World) (x : OutS τ) (F' G' : Nat → Prop) : Prop where
  a : IsOut Wd1 B gc r W x F'
  b : IsROut Wd2 B gd g2 W x G'
  fs : ∀ j, F' j → F j ∨ W0.heap.size ≤ j
  gs : ∀ j, G' j → G j ∨ W0.heap.size ≤ j
  dis : ∀ j, F' j → ¬ G' j
  up : Upd (fun j => F j ∨ G j) W0 W

section
variable {τ : Type} {wf : τ → List Int → Int × Int × τ} {cnt sz : τ → Nat} {f1 f2 : FuncId} {recv1 recv2 : Value} {B : Nat} {Wd1 Wd2 : World → τ → (Nat → Prop) → Prop} {gc gd g2 : Nat} {r : Value} {W0 W W1 W2 : World} {x x' : OutS τ} {F G F1 G1 : Nat → Prop}
/-- First the program's, then the document's. -/
theorem op_two (X : Writer wf cnt sz f1 recv1 B Wd1) (Y : Writer wf cnt sz f2 recv2 B Wd2) (hI : IsOut Wd1 B gc r W x F) (hJ : IsROut Wd2 B gd g2 W x G) (hd : ∀ j, F j → ¬ G j) (hI1 : IsOut Wd1 B gc r W1 x' F1) (hu1 : Upd F W W1) (hs1 : ∀ j, F1 j → F j ∨ W.heap.size ≤ j) :
    IsROut Wd2 B gd g2 W1 x G ∧ ∀ (W2 : World) (G1 : Nat → Prop), IsROut Wd2 B gd g2 W2 x' G1 → Upd G W1 W2 → (∀ j, G1 j → G j ∨ W1.heap.size ≤ j) → OP Wd1 Wd2 B gc gd g2 r W F G W2 x' F1 G1 := by
  have hl := hI.lt X
  have hm := hJ.lt Y
  have hl1 := hI1.lt X
  have hz1 := hu1.size
  refine ⟨hJ.upd Y hu1 (fun j e => ⟨(hl j e).1, hd j e⟩), fun W2 G1 hJ2 hu2 hs2 => ⟨hI1.upd X hu2 (fun j e => ⟨(hm j e).1, fun h => (hs1 j h).elim (fun h => hd j h e) (fun h => by have := (hm j e).2; omega)⟩), hJ2, hs1, fun j h => (hs2 j h).imp id (fun h => by omega), fun j h h' => ?_, (hu1.mono (fun _ _ h => .inl h)).then hu2 (fun j hj h => .inr h)⟩⟩
  rcases hs2 j h' with h2 | h2
  · rcases hs1 j h with h3 | h3
    · exact hd j h3 h2
    · have := (hm j h2).2; omega
  · have := (hl1 j h).2; omega
theorem OP.upd {S : Nat → Prop} (X : Writer wf cnt sz f1 recv1 B Wd1) (Y : Writer wf cnt sz f2 recv2 B Wd2) (h : OP Wd1 Wd2 B gc gd g2 r W0 F G W x F1 G1) (hu : Upd S W W2) (hs : ∀ j, S j → B ≤ j ∧ ¬ F1 j ∧ ¬ G1 j) (ho : ∀ j, j < W0.heap.size → S j → F j ∨ G j) : OP Wd1 Wd2 B gc gd g2 r W0 F G W2 x F1 G1 :=
  ⟨h.a.upd X hu (fun j e => ⟨(hs j e).1, (hs j e).2.1⟩), h.b.upd Y hu (fun j e => ⟨(hs j e).1, (hs j e).2.2⟩), h.fs, h.gs, h.dis, h.up.then hu ho⟩
theorem OP.trans {W0 W1 W2 : World} {F0 G0 F1 G1 F2 G2 : Nat → Prop} {x y : OutS τ} (h : OP Wd1 Wd2 B gc gd g2 r W0 F0 G0 W1 x F1 G1) (k : OP Wd1 Wd2 B gc gd g2 r W1 F1 G1 W2 y F2 G2) : OP Wd1 Wd2 B gc gd g2 r W0 F0 G0 W2 y F2 G2 := by
  have hz := h.up.size
  exact ⟨k.a, k.b, fun j hj => (k.fs j hj).elim (fun e => h.fs j e) (fun e => .inr (by omega)), fun j hj => (k.gs j hj).elim (fun e => h.gs j e) (fun e => .inr (by omega)), k.dis, h.up.then k.up (fun j hj e => e.elim (fun e => (h.fs j e).elim .inl (fun e => by omega)) (fun e => (h.gs j e).elim .inr (fun e => by omega)))⟩
theorem OP.base (h : OP Wd1 Wd2 B gc gd g2 r W1 F G W x F1 G1) (hu : Upd Noth W0 W1) : OP Wd1 Wd2 B gc gd g2 r W0 F G W x F1 G1 := by
  have hz := hu.size
  exact ⟨h.a, h.b, fun j hj => (h.fs j hj).imp id (fun e => by omega), fun j hj => (h.gs j hj).imp id (fun e => by omega), h.dis, hu.noth.trans h.up⟩
end

def ToldPost {τ : Type} (Wd1 Wd2 : World → τ → (Nat → Prop) → Prop) (B gc gd g2 : Nat) (r : Value) (F G : Nat → Prop) (x' : OutS τ) (W : World) (e : Ending) (W' : World) : Prop :=
  e = .returned (.bool true) ∧ ∃ F' G', OP Wd1 Wd2 B gc gd g2 r W F G W' x' F' G'

set_option maxRecDepth 100000 in
set_option maxHeartbeats 3200000 in
theorem told_any {τ : Type} {wf : τ → List Int → Int × Int × τ} {cnt sz : τ → Nat} {f1 : FuncId} {recv1 : Value} {B gc gd g2 : Nat} {Wd1 Wd2 : World → τ → (Nat → Prop) → Prop} {ty : TypeId} {pv : Value} (L : Leads "Write" ty pv f1 recv1) (X : Writer wf cnt sz f1 recv1 B Wd1) (Y : Writer wf cnt sz 58 (.pointer (some ⟨g2, 0, none⟩)) B Wd2)
    (k : Int) (ay : Option Addr) (ly cy : Nat) (ys : List Int) (W : World) (x : OutS τ) (F G : Nat → Prop) (C Z : Nat) (hly : ys.length = ly) (hn : ay = none → ly = 0 ∧ cy = 0) (hr : Row W .u8 ay ys) (hay : ∀ y, ay = some y → 0 < ly → y.block < B) (hI : IsOut Wd1 B gc (.iface ty pv) W x F) (hJ : IsROut Wd2 B gd g2 W x G) (hd : ∀ j, F j → ¬ G j) (hok : OutOk cnt sz C Z x) (hC : C ≤ 4611686018427387000) (hZ : Z + ly ≤ 140737488355328) (hB : B ≤ W.heap.size) :
    Calls Try.prog 26 #[.pointer (some ⟨gc, 0, none⟩), .pointer (some ⟨gd, 0, none⟩), .agg #[.int .i64 k, .slice ay ly cy]] W fun e W' => ToldPost Wd1 Wd2 B gc gd g2 (.iface ty pv) F G (opO wf k ys x) W e W' := by
  obtain ⟨i0', hi0, hz0, hz1, hz2⟩ := info_parts' infoByte'
  have hu0 : Upd Noth W (W.alloc (.cells #[.int .i64 k, .slice ay ly cy] 76)) := (Upd.refl _ _).alloc _
  have hI0 := hI.upd X hu0 (fun _ e => e.elim)
  have hJ0 := hJ.upd Y hu0 (fun _ e => e.elim)
  have hf0 := heap_alloc_new W (.cells #[.int .i64 k, .slice ay ly cy] 76)
  have HLF := hide (hI.lt X)
  have HLG := hide (hJ.lt Y)
  have HOPW : Hid (∀ W' x' F' G', OP Wd1 Wd2 B gc gd g2 (.iface ty pv) (W.alloc (.cells #[.int .i64 k, .slice ay ly cy] 76)) F G W' x' F' G' → OP Wd1 Wd2 B gc gd g2 (.iface ty pv) W F G W' x' F' G') := hide fun W' x' F' G' h => ⟨h.a, h.b, fun j hj => (h.fs j hj).imp id (fun h => by simp at h; omega), fun j hj => (h.gs j hj).imp id (fun h => by simp at h; omega), h.dis, hu0.noth.trans h.up⟩
  have hzA : (W.alloc (.cells #[.int .i64 k, .slice ay ly cy] 76)).heap.size = W.heap.size + 1 := by simp
  have hrA := hr.upd hu0 (fun _ _ _ e => e)
  have hallx := hok.all
  have HL := hide L
  have HX := hide X
  have HY := hide Y
  have HOK := hide hok
  have HD := hide hd
  have HN := hide hn
  have HAY := hide hay
  clear hI hJ hu0 L X Y hok hd hr hn hay
  go_enter Try.func26, Try.ntmps26
  go_upto_region 1 with fail
  generalize W.alloc (.cells #[.int .i64 k, .slice ay ly cy] 76) = wA at *
  obtain ⟨tb, htb⟩ : ∃ tb, tb = W.heap.size := ⟨_, rfl⟩
  rw [← htb] at hf0 ⊢
  have c0 := blk_cell (k := 0) hf0 rfl
  have c1 := blk_cell (k := 1) hf0 rfl
  have HF0 := hide hf0
  have hBA : B ≤ wA.heap.size := by omega
  have HI0 := hide hI0
  have HJ0 := hide hJ0
  have HRA := hide hrA
  have HTB : Hid (tb = W.heap.size ∧ wA.heap.size = W.heap.size + 1) := ⟨htb, hzA⟩
  have htF : Hid (¬ F tb ∧ ¬ G tb) := ⟨fun e => by have := (HLF.out tb e).2; omega, fun e => by have := (HLG.out tb e).2; omega⟩
  have HBW : Hid (B ≤ W.heap.size) := hB
  clear hf0 hI0 hJ0 hrA htb hzA
  go_upto_block 0 with fail
  go_cut [7] (fun s7 wx => s7 = .bool true ∧ Hid (∃ F' G', OP Wd1 Wd2 B gc gd g2 (.iface ty pv) wA F G wx (opO wf k ys x) F' G'))
  case first =>
    by_cases k0 : k = 0
    · subst k0
      have hszB : (wA.alloc (.cells #[] 5)).heap.size = wA.heap.size + 1 := World.size_alloc _ _
      have uB : Upd Noth wA (wA.alloc (.cells #[] 5)) := (Upd.refl _ _).alloc _
      have HMD : Hid (OwnB (wA.alloc (.cells #[] 5)) wA.heap.size 5 (.slice (some ⟨wA.heap.size, 0, none⟩) 0 0) []) := OwnB.made #[] 0 (Nat.le_refl _) (by unfold maxLen; omega) rfl (fun u hu => by cases hu)
      have HRB := hide (HRA.out.upd uB (fun _ _ _ e => e))
      have HSB : Hid (wA.heap.size ≤ (wA.alloc (.cells #[] 5)).heap.size) := by show _ ≤ _; omega
      have HUB := hide uB
      have c1B := uB.cell c1 (fun e => e)
      have hly4 : ly ≤ 140737488355328 := by omega
      have hzb : x.b.length + ly ≤ 140737488355328 := by omega
      clear uB hszB
      go_wp2_with (first
        | (at_builtin; refine append_b rfl (.tmp 21) (.tmp 23) 23 rfl wA.heap.size 5 i0' Try.underlying23 hi0 hz0 hz1 hz2 (.slice (some ⟨wA.heap.size, 0, none⟩) 0 0) [] rfl HMD.out ay ly cy ys rfl hly HN.out HRB.out (by simp; omega) HSB.out ?_; intro v3 w3 ho3 hg3; rw [List.nil_append] at ho3; obtain ⟨a3, c3, rfl, hn3, hc3, hb3⟩ := ho3.sliceN hly; have HO3 := hide ho3; have HG3 := hide hg3; have HN3 := hide hn3; have HB3 := hide hb3; clear ho3 hg3 hn3 hb3)
        | fail)
      have U3 : Hid (Upd Noth wA w3) := HUB.out.then (Upd.of_grown (S := fun j => j = wA.heap.size) HG3.out (fun j hj _ => by simpa [Value.ownBlock] using hj.symm)) (fun j hj e => by omega)
      have hz3 := U3.out.size
      have HI3 := hide (HI0.out.upd HX.out U3.out (fun _ e => e.elim))
      have HJ3 := hide (HJ0.out.upd HY.out U3.out (fun _ e => e.elim))
      have HLY := hide (lay_any HX.out w3 gc x F a3 ly c3 ys hly HN3.out HO3.out.row HI3.out (by omega) hzb)
      have hOF : Hid (∀ j, (Value.slice a3 ly c3).ownBlock = some j → ¬ F j ∧ ¬ G j ∧ B ≤ j ∧ j < w3.heap.size ∧ wA.heap.size ≤ j) := fun j hj => by
        have h1 := HB3.out j hj
        have h2 := HTB.out.2
        exact ⟨fun e => by have := (HLF.out j e).2; omega, fun e => by have := (HLG.out j e).2; omega, by omega, h1.2, h1.1⟩
      have c1w := U3.out.cell c1 (fun e => e)
      clear c1B HMD HRB HSB HUB
      refine HLY.out.mono ?_
      rintro e w4 ⟨F1, rfl, hi4, hu4, hs4⟩
      have c1x := hu4.cell c1w (fun e => htF.out.1 e)
      have HRY : Hid (Row w4 .u8 ay ys) := (HRA.out.upd U3.out (fun _ _ _ e => e)).upd hu4 (fun y hy h0 e => by have := HAY.out y hy (by omega); have := (HLF.out _ e).1; omega)
      have HO4 := hide (HO3.out.upd hu4 (fun j hj => (hOF.out j hj).1))
      have HSQ := hide (sameq a3 ay ly c3 cy ys w4 (by unfold maxLen; omega) hly HO4.out.row HRY.out)
      have HI4 := hide hi4
      have HU4 := hide hu4
      have HS4 := hide hs4
      clear hi4 hu4 hs4 HLY c1w
      go_wp2_with fail
      refine HSQ.out.mono ?_
      rintro e w5 ⟨rfl, m5, hw5⟩
      have u45 : Upd Noth w4 w5 := by rw [hw5]; exact ((Still.refl w4).drewN m5).upd Noth
      have hop := op_two HX.out HY.out HI3.out HJ3.out HD.out (HI4.out.upd HX.out u45 (fun _ e => e.elim)) (HU4.out.trans u45.noth) HS4.out
      have HRL := hide (rlay_any HY.out w5 gd g2 x G ay ly cy ys hly HN.out (HRY.out.upd u45 (fun _ _ _ e => e)) hop.1 (by have := HU4.out.size; have := u45.size; omega) hzb)
      have HOP := hide hop.2
      have c1y := u45.cell c1x (fun e => e)
      have HO5 := hide (HO4.out.upd u45 (fun _ _ e => e))
      have hz5 : w3.heap.size ≤ w5.heap.size := Nat.le_trans HU4.out.size u45.size
      clear hop u45 hw5 HSQ c1x
      go_wp2_with fail
      refine HRL.out.mono ?_
      rintro e w6 ⟨G1, rfl, hj6, hu6, hs6⟩
      have hop6 := (HOP.out w6 G1 hj6 hu6 hs6).base U3.out
      have HSP := hide (spoil_any (HO5.out.upd hu6 (fun j hj => (hOF.out j hj).2.1)))
      have HOP6 := hide hop6
      have HS6 := hide hs6
      clear hj6 hu6 hs6 hop6 HRL
      have tee : (x.err == x.err) = true := by simp
      go_wp2_with fail
      refine HSP.out.mono ?_
      rintro e w7 ⟨rfl, hg7⟩
      have HFIN : Hid (∃ F' G', OP Wd1 Wd2 B gc gd g2 (.iface ty pv) wA F G w7 (opO wf 0 ys x) F' G') := ⟨F1, G1, by
        unfold opO
        rw [if_pos rfl]
        refine HOP6.out.upd HX.out HY.out (Upd.of_grown (S := fun j => (Value.slice a3 ly c3).ownBlock = some j) hg7 (fun j hj _ => hj)) (fun j hj => ⟨(hOF.out j hj).2.2.1, fun e => (HS4.out j e).elim (hOF.out j hj).1 (fun e => by have := (hOF.out j hj).2.2.2.1; omega), fun e => (HS6.out j e).elim (hOF.out j hj).2.1 (fun e => by have := (hOF.out j hj).2.2.2.1; omega)⟩) (fun j hj e => by have := (hOF.out j e).2.2.2.2; omega)⟩
      clear hg7 HSP
      go_wp2_with fail
      go_meet
      exact ⟨rfl, HFIN⟩
    · by_cases k1 : k = 1
      · subst k1
        have HP := hide (push_any HL.out HX.out wA gc x F C Z HI0.out HOK.out hC (by omega) hBA)
        generalize hq : pushP wf x = q at *
        replace hq := hide hq
        obtain ⟨nn, er, x'⟩ := q
        simp only at HP
        go_wp2_with fail
        refine HP.out.mono ?_
        rintro e w1 ⟨F1, rfl, hi1, hu1, hs1⟩
        have h2 := op_two HX.out HY.out HI0.out HJ0.out HD.out hi1 hu1 hs1
        have HRB := hide (rpush_any HY.out w1 gd x G C Z h2.1 HOK.out hC (by omega) (Nat.le_trans hBA hu1.size))
        rw [hq.out] at HRB
        simp only at HRB
        replace h2 := hide h2.2
        clear hi1 hu1 hs1 HP
        go_wp2_with fail
        refine HRB.out.mono ?_
        rintro e w2 ⟨G1, rfl, hj2, hu2, hs2⟩
        have HAP := hide (h2.out w2 G1 hj2 hu2 hs2)
        clear hj2 hu2 hs2 h2 HRB
        go_wp2_with fail
        go_meet
        exact ⟨rfl, F1, G1, by unfold opO; rw [if_neg (by decide), if_pos rfl, hq.out]; exact HAP.out⟩
      · by_cases k2 : k = 2
        · subst k2
          have HP := hide (flush_any HL.out HX.out wA gc x F C Z HI0.out HOK.out hC (by omega) hBA)
          generalize hq : flushA wf x = x' at *
          replace hq := hide hq
          go_wp2_with fail
          refine HP.out.mono ?_
          rintro e w1 ⟨F1, rfl, hi1, hu1, hs1⟩
          have h2 := op_two HX.out HY.out HI0.out HJ0.out HD.out hi1 hu1 hs1
          have HRB := hide (rflush_any HY.out w1 gd x G C Z h2.1 HOK.out hC (by omega) (Nat.le_trans hBA hu1.size))
          rw [hq.out] at HRB
          replace h2 := hide h2.2
          clear hi1 hu1 hs1 HP
          go_wp2_with fail
          refine HRB.out.mono ?_
          rintro e w2 ⟨G1, rfl, hj2, hu2, hs2⟩
          have HAP := hide (h2.out w2 G1 hj2 hu2 hs2)
          clear hj2 hu2 hs2 h2 HRB
          go_wp2_with fail
          go_meet
          exact ⟨rfl, F1, G1, by unfold opO; rw [if_neg (by decide), if_neg (by decide), if_pos rfl, hq.out]; exact HAP.out⟩
        · have q0 : (k == 0) = false := by simp [k0]
          have q1 : (k == 1) = false := by simp [k1]
          have q2 : (k == 2) = false := by simp [k2]
          have HSAME : Hid (∃ F' G', OP Wd1 Wd2 B gc gd g2 (.iface ty pv) wA F G wA (opO wf k ys x) F' G') := ⟨F, G, by unfold opO; rw [if_neg k0, if_neg k1, if_neg k2]; exact ⟨HI0.out, HJ0.out, fun _ h => .inl h, fun _ h => .inl h, HD.out, Upd.refl _ _⟩⟩
          clear k0 k1 k2
          go_wp2_with fail
          go_meet
          exact ⟨rfl, HSAME⟩
  case rest =>
    obtain ⟨rfl, HC⟩ := hcut
    obtain ⟨F1, G1, hop⟩ := HC.out
    have d0 := hop.a.at0.2.2.1
    have d2 := hop.a.at0.2.2.2.1
    obtain ⟨a4, c4, d4⟩ := hop.a.at0.2.2.2.2
    have r2 := hop.b.at0.2.2.1
    have r3 := hop.b.at0.2.2.2.1
    obtain ⟨a1, b1, r1⟩ := hop.b.at0.2.2.2.2
    have HFIN : Hid (ToldPost Wd1 Wd2 B gc gd g2 (.iface ty pv) F G (opO wf k ys x) W (.returned (.bool true)) wc) := ⟨rfl, F1, G1, HOPW.out _ _ _ _ hop⟩
    obtain ⟨x', hx'⟩ : ∃ x', x' = opO wf k ys x := ⟨_, rfl⟩
    rw [← hx'] at d0 d2 d4 r1 r2 r3
    clear hop HC hx'
    go_wp2_with (first
      | (go_at_call 21; refine keep (oleft_any gc _ _ _ _ d4) ?_)
      | (go_at_call 16; refine keep (sat_any gc _ _ d0) ?_)
      | (go_at_call 31; refine keep (serr_any gc _ _ d2) ?_)
      | fail)
    go_ret
    exact HFIN.out

end Go.Proofs.Ytjcanghffhpncaa
