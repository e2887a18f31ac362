/- Both Ins are asked the same: they answer alike. -/
import Derived.Test.YtjcanghffhpncaaG31
import Derived.Test.YtjcanghffhpncaaG11
import Derived.Test.YtjcanghffhpncaaG5
namespace Go.Proofs.Ytjcanghffhpncaa
open Go.RowKit

/-- The state behind what is asked. -/
def opP {σ : Type} (RD : Nat → σ → Int × Int × List Int × σ) (k n : Int) (x : InS σ) : InS σ :=
  if k = 0 then (byteP RD x).2.2 else if k = 1 then (bytesP RD n x).2.2 else if k = 2 then (numP RD x).2.2 else if k = 3 then (endP RD x).2.2 else x
theorem op_ok {σ : Type} {RD : Nat → σ → Int × Int × List Int × σ} {cnt m vol : σ → Nat} {f : FuncId} {recv : Value} {B : Nat} {Rd : World → σ → (Nat → Prop) → Prop} (X : RFam RD cnt m vol f recv B Rd) (k n : Int) (x : InS σ) (C l : Nat) (hx : InOk cnt m vol C l x) : InOk cnt m vol (C + 200) l (opP RD k n x) := by
  unfold opP
  split
  · exact byte_ok X x C l hx
  · split
    · exact bytes_ok X n x C l hx
    · split
      · exact num_ok X x C l hx
      · split
        · exact end_ok X x C l hx
        · exact hx.mono (by omega)

/-- Both Ins stand alike, apart from one another. -/
structure AP {σ : Type} (Rd1 Rd2 : World → σ → (Nat → Prop) → Prop) (B gc gd g2 most : Nat) (r : Value) (W0 : World) (F G : Nat → Prop) (W : World) (x : InS σ) (F' G' : Nat → Prop) : Prop where
  a : IsIn Rd1 B gc r W x F'
  b : IsRIn Rd2 B gd g2 most W x G'
  fs : ∀ j, F' j → F j ∨ W0.heap.size ≤ j
  gs : ∀ j, G' j → G j ∨ W0.heap.size ≤ j
  dis : ∀ j, F' j → ¬ G' j
  up : Upd (fun j => F j ∨ G j) W0 W

section
variable {σ : Type} {RD : Nat → σ → Int × Int × List Int × σ} {cnt m vol : σ → Nat} {f1 f2 : FuncId} {recv1 recv2 : Value} {B : Nat} {Rd1 Rd2 : World → σ → (Nat → Prop) → Prop} {gc gd g2 most : Nat} {r : Value} {W0 W W1 W2 : World} {x x' : InS σ} {F G F1 G1 : Nat → Prop}
/-- First the program's, then the document's. -/
theorem ap_two (X : RFam RD cnt m vol f1 recv1 B Rd1) (Y : RFam RD cnt m vol f2 recv2 B Rd2) (hI : IsIn Rd1 B gc r W x F) (hJ : IsRIn Rd2 B gd g2 most W x G) (hd : ∀ j, F j → ¬ G j) (hI1 : IsIn Rd1 B gc r W1 x' F1) (hu1 : Upd F W W1) (hs1 : ∀ j, F1 j → F j ∨ W.heap.size ≤ j) :
    IsRIn Rd2 B gd g2 most W1 x G ∧ ∀ (W2 : World) (G1 : Nat → Prop), IsRIn Rd2 B gd g2 most W2 x' G1 → Upd G W1 W2 → (∀ j, G1 j → G j ∨ W1.heap.size ≤ j) → AP Rd1 Rd2 B gc gd g2 most r W F G W2 x' F1 G1 := by
  have hl := hI.lt X
  have hm := hJ.lt Y
  have hl1 := hI1.lt X
  have hz1 := hu1.size
  refine ⟨hJ.upd Y hu1 (fun j e => ⟨(hl j e).1, hd j e⟩), fun W2 G1 hJ2 hu2 hs2 => ⟨hI1.upd X hu2 (fun j e => ⟨(hm j e).1, fun h => (hs1 j h).elim (fun h => hd j h e) (fun h => by have := (hm j e).2; omega)⟩), hJ2, hs1, fun j h => (hs2 j h).imp id (fun h => by omega), fun j h h' => ?_, (hu1.mono (fun _ _ h => .inl h)).then hu2 (fun j _ h => .inr h)⟩⟩
  rcases hs2 j h' with h2 | h2
  · rcases hs1 j h with h3 | h3
    · exact hd j h3 h2
    · have := (hm j h2).2; omega
  · have := (hl1 j h).2; omega
theorem AP.cells (h : AP Rd1 Rd2 B gc gd g2 most r W0 F G W x F1 G1) : W.cell? ⟨gc, 0, none⟩ = some (.int .i64 (x.at' : Int)) ∧ W.cell? ⟨gc, 2, none⟩ = some (.int .i64 x.err) ∧ W.cell? ⟨gd, 2, none⟩ = some (.int .i64 (x.at' : Int)) ∧ W.cell? ⟨gd, 3, none⟩ = some (.int .i64 x.err) :=
  ⟨h.a.g.2.2.1, h.a.g.2.2.2.1, h.b.at0.2.2.2.1, h.b.at0.2.2.2.2.1⟩
theorem AP.upd {S : Nat → Prop} (X : RFam RD cnt m vol f1 recv1 B Rd1) (Y : RFam RD cnt m vol f2 recv2 B Rd2) (h : AP Rd1 Rd2 B gc gd g2 most r W0 F G W x F1 G1) (hu : Upd S W W2) (hs : ∀ j, S j → B ≤ j ∧ ¬ F1 j ∧ ¬ G1 j) (ho : ∀ j, j < W0.heap.size → S j → F j ∨ G j) : AP Rd1 Rd2 B gc gd g2 most r W0 F G W2 x F1 G1 :=
  ⟨h.a.upd X hu (fun j e => ⟨(hs j e).1, (hs j e).2.1⟩), h.b.upd Y hu (fun j e => ⟨(hs j e).1, (hs j e).2.2⟩), h.fs, h.gs, h.dis, h.up.then hu ho⟩
end

theorem OwnB.max {w : World} {base : Nat} {e : TypeId} {v : Value} {zs : List Int} (h : OwnB w base e v zs) : zs.length ≤ maxLen := by
  rcases h with ⟨_, h⟩ | ⟨g, cap, cur, _, _, _, h4, h5, _⟩
  · rw [h]; exact Nat.zero_le _
  · exact Nat.le_trans h4 h5

def AskedPost {σ : Type} (Rd1 Rd2 : World → σ → (Nat → Prop) → Prop) (B gc gd g2 most : Nat) (r : Value) (F G : Nat → Prop) (x' : InS σ) (W : World) (e : Ending) (W' : World) : Prop :=
  e = .returned (.bool true) ∧ ∃ F' G', AP Rd1 Rd2 B gc gd g2 most r W F G W' x' F' G'

set_option maxRecDepth 100000 in
set_option maxHeartbeats 3200000 in
theorem asked_any {σ : Type} {RD : Nat → σ → Int × Int × List Int × σ} {cnt m vol : σ → Nat} {f1 : FuncId} {recv1 : Value} {B gc gd g2 most : Nat} {Rd1 Rd2 : World → σ → (Nat → Prop) → Prop} {ty : TypeId} {pv : Value} (L : Leads "Read" ty pv f1 recv1) (X : RFam RD cnt m vol f1 recv1 B Rd1) (Y : RFam RD cnt m vol 66 (.pointer (some ⟨g2, 0, none⟩)) B Rd2)
    (k n : Int) (W : World) (x : InS σ) (F G : Nat → Prop) (C l : Nat) (hn : n ≤ 9223372036854775807) (hI : IsIn Rd1 B gc (.iface ty pv) W x F) (hJ : IsRIn Rd2 B gd g2 most W x G) (hd : ∀ j, F j → ¬ G j) (hok : InOk cnt m vol C l x) (hC : C ≤ 4611686018427386000) (hl : l ≤ 9223372036854775807) (hml : most ≤ 9223372036854775807) (hB : B ≤ W.heap.size) :
    Calls Try.prog 23 #[.pointer (some ⟨gc, 0, none⟩), .pointer (some ⟨gd, 0, none⟩), .agg #[.int .i64 k, .int .i64 n]] W fun e W' => AskedPost Rd1 Rd2 B gc gd g2 most (.iface ty pv) F G (opP RD k n x) W e W' := by
  have hu0 : Upd Noth W (W.alloc (.cells #[.int .i64 k, .int .i64 n] 65)) := (Upd.refl _ _).alloc _
  have hI0 := hI.upd X hu0 (fun _ e => e.elim)
  have hJ0 := hJ.upd Y hu0 (fun _ e => e.elim)
  have hf0 := heap_alloc_new W (.cells #[.int .i64 k, .int .i64 n] 65)
  have HLF := hide (hI.lt X)
  have HLG := hide (hJ.lt Y)
  have HAP : Hid (∀ W' x' F' G', AP Rd1 Rd2 B gc gd g2 most (.iface ty pv) (W.alloc (.cells #[.int .i64 k, .int .i64 n] 65)) F G W' x' F' G' → AP Rd1 Rd2 B gc gd g2 most (.iface ty pv) W F G W' x' F' G') := hide fun W' x' F' G' h => ⟨h.a, h.b, fun j hj => (h.fs j hj).imp id (fun h => by simp at h; omega), fun j hj => (h.gs j hj).imp id (fun h => by simp at h; omega), h.dis, hu0.noth.trans h.up⟩
  have hzA : (W.alloc (.cells #[.int .i64 k, .int .i64 n] 65)).heap.size = W.heap.size + 1 := by simp
  have HL := hide L
  have HX := hide X
  have HY := hide Y
  have HOK := hide hok
  have HD := hide hd
  clear hI hJ hu0 L X Y hok hd
  go_enter Try.func23, Try.ntmps23
  go_upto_region 1 with fail
  generalize W.alloc (.cells #[.int .i64 k, .int .i64 n] 65) = wA at *
  obtain ⟨tb, htb⟩ : ∃ tb, tb = W.heap.size := ⟨_, rfl⟩
  rw [← htb] at hf0 ⊢
  have c0 := blk_cell (k := 0) hf0 rfl
  have c1 := blk_cell (k := 1) hf0 rfl
  have HF0 := hide hf0
  have hBA : B ≤ wA.heap.size := by omega
  have HI0 := hide hI0
  have HJ0 := hide hJ0
  replace htb := hide htb
  replace hzA := hide hzA
  clear hf0 hI0 hJ0
  have HFIN0 : Hid (∀ W' x' F' G', AP Rd1 Rd2 B gc gd g2 most (.iface ty pv) wA F G W' x' F' G' → opP RD k n x = x' → AskedPost Rd1 Rd2 B gc gd g2 most (.iface ty pv) F G (opP RD k n x) W (.returned (.bool true)) W') := hide fun W' x' F' G' h he => by
    rw [he]
    exact ⟨rfl, F', G', HAP.out _ _ _ _ h⟩
  by_cases k0 : k = 0
  · subst k0
    have HB := hide (byte_any HL.out HX.out wA gc x F C l HI0.out HOK.out (by omega) hl hBA)
    generalize hq : byteP RD x = q at *
    replace hq := hide hq
    obtain ⟨bv, er, x'⟩ := q
    simp only at HB
    go_wp2_with fail
    refine HB.out.mono ?_
    rintro e w1 ⟨F1, rfl, hi1, hu1, hs1⟩
    have h2 := ap_two HX.out HY.out HI0.out HJ0.out HD.out hi1 hu1 hs1
    have HRB := hide (rbyte_any HY.out w1 gd most x G C l h2.1 HOK.out (by omega) hml (Nat.le_trans hBA hu1.size))
    rw [hq.out] at HRB
    simp only at HRB
    replace h2 := hide h2.2
    clear hi1 hu1 hs1 HB
    go_wp2_with fail
    refine HRB.out.mono ?_
    rintro e w2 ⟨G1, rfl, hj2, hu2, hs2⟩
    have hap := h2.out w2 G1 hj2 hu2 hs2
    have d0 := hap.cells.1
    have d2 := hap.cells.2.1
    have r2 := hap.cells.2.2.1
    have r3 := hap.cells.2.2.2
    have HFIN := hide (HFIN0.out _ _ _ _ hap (by unfold opP; rw [if_pos rfl, hq.out]))
    clear hap hj2 hu2 hs2 h2 HRB
    go_wp2_with (first
      | (go_at_call 16; refine keep (sat_any gc _ _ d0) ?_)
      | (go_at_call 31; refine keep (serr_any gc _ _ d2) ?_)
      | fail)
    go_ret
    exact HFIN.out
  · by_cases k1 : k = 1
    · subst k1
      have HB := hide (bytes_any HL.out HX.out wA gc x F C l n hn HI0.out HOK.out (by omega) hl hBA)
      have HTW : Hid (∀ (w1 : World) (F1 : Nat → Prop) (v1 : Value) (xs : List Int) (x' : InS σ), IsIn Rd1 B gc (.iface ty pv) w1 x' F1 → Upd F wA w1 → (∀ j, F1 j → F j ∨ wA.heap.size ≤ j) → OwnB w1 B 5 v1 xs → (∀ j, v1.ownBlock = some j → ¬ F1 j ∧ (F j ∨ wA.heap.size ≤ j)) →
          IsRIn Rd2 B gd g2 most w1 x G ∧ B ≤ w1.heap.size ∧ w1.cell? ⟨tb, 1, none⟩ = some (.int .i64 n) ∧ ∀ (w2 : World) (G1 : Nat → Prop), IsRIn Rd2 B gd g2 most w2 x' G1 → Upd G w1 w2 → (∀ j, G1 j → G j ∨ w1.heap.size ≤ j) → OwnB w2 B 5 v1 xs ∧ ∀ (w3 w4 : World), w2 = w3 ∨ (∃ mm, w3 = w2.drewN mm) → w3.grownBy w4 v1.ownBlock → AP Rd1 Rd2 B gc gd g2 most (.iface ty pv) wA F G w4 x' F1 G1) := hide fun w1 F1 v1 xs x' hi1 hu1 hs1 ho1 hd1 => by
        have h2 := ap_two HX.out HY.out HI0.out HJ0.out HD.out hi1 hu1 hs1
        have hz1 := hu1.size
        have hzo := hzA.out
        have hG1 : ∀ j, v1.ownBlock = some j → ¬ G j := fun j hj e => (hd1 j hj).2.elim (fun h => HD.out j h e) (fun h => by have := (HLG.out j e).2; omega)
        refine ⟨h2.1, Nat.le_trans hBA hz1, ?_, fun w2 G1 hj2 hu2 hs2 => ⟨ho1.upd hu2 (fun j hj => hG1 j hj), fun w3 w4 h3 hg4 => ?_⟩⟩
        · have hnF : ¬ F tb := fun e => by have := (HLF.out tb e).2; have := htb.out; omega
          exact hu1.cell (p := ⟨tb, 1, none⟩) c1 hnF
        · have hap := h2.2 w2 G1 hj2 hu2 hs2
          have hu3 : Upd Noth w2 w3 := by
            rcases h3 with rfl | ⟨mm, rfl⟩
            · exact Upd.refl _ _
            · exact ((Still.refl w2).drewN mm).upd Noth
          have hu4 : Upd (fun j => v1.ownBlock = some j) w3 w4 := Upd.of_grown hg4 (fun j hj _ => hj)
          have hu5 : Upd (fun j => v1.ownBlock = some j) w2 w4 := hu3.noth.trans hu4
          exact hap.upd HX.out HY.out hu5 (fun j e => ⟨(ho1.owns.lt j e).1, (hd1 j e).1, fun h => (hs2 j h).elim (hG1 j e) (fun h => by have := (ho1.owns.lt j e).2; omega)⟩) (fun j hj e => (hd1 j e).2.elim .inl (fun h => by omega))
      generalize hq : bytesP RD n x = q at *
      replace hq := hide hq
      obtain ⟨bs, er, x'⟩ := q
      go_wp2_with fail
      refine HB.out.mono ?_
      rintro e w1 ⟨v1, F1, rfl, ho1, hi1, hu1, hs1, hd1⟩
      simp only at ho1 hi1
      have h2 := HTW.out w1 F1 v1 bs x' hi1 hu1 hs1 ho1 hd1
      have HRB := hide (rbytes_any HY.out w1 gd most x G C l n hn h2.1 HOK.out (by omega) hml h2.2.1)
      rw [hq.out] at HRB
      have t1 := h2.2.2.1
      replace h2 := hide h2.2.2.2
      obtain ⟨lx, hlx⟩ : ∃ lx, bs.length = lx := ⟨_, rfl⟩
      have hlm := ho1.max
      obtain ⟨a1, k1, rfl, _, _, _⟩ := ho1.sliceN hlx
      clear hi1 hu1 hs1 HB HTW ho1 hd1
      go_wp2_with fail
      refine HRB.out.mono ?_
      rintro e w2 ⟨v2, G1, rfl, ho2, hj2, hu2, hs2, hd2⟩
      simp only at ho2 hj2
      have h3 := h2.out w2 G1 hj2 hu2 hs2
      have hr2 := ho2.row' hlx
      obtain ⟨a2, k2, rfl, _, _, _⟩ := ho2.sliceN hlx
      have HSM := hide (sameq a1 a2 lx k1 k2 bs w2 (by omega) hlx h3.1.row (hr2 a2 k2 rfl))
      have H3 := hide h3.2
      have HO := hide h3.1
      have HSP : Hid (∀ mm, Calls Try.prog 44 #[.slice a1 lx k1] (w2.drewN mm) fun e w' => e = .returned (.tuple #[]) ∧ (w2.drewN mm).grownBy w' (Value.slice a1 lx k1).ownBlock) := hide fun mm => spoil_any (HO.out.upd (((Still.refl w2).drewN mm).upd Noth) (fun _ _ e => e))
      replace hlx := hide hlx
      clear hj2 hu2 hs2 hd2 h2 HRB h3 hr2 ho2 t1
      go_wp2_with (first
        | (go_at_call 22; refine HSM.out.mono ?_; rintro e w3 ⟨rfl, mm, hw3⟩)
        | fail)
      subst hw3
      refine (HSP.out mm).mono ?_
      rintro e w4 ⟨rfl, hg4⟩
      have hap := H3.out (w2.drewN mm) w4 (.inr ⟨mm, rfl⟩) hg4
      have d0 := hap.cells.1
      have d2 := hap.cells.2.1
      have r2 := hap.cells.2.2.1
      have r3 := hap.cells.2.2.2
      have HFIN := hide (HFIN0.out _ _ _ _ hap (by unfold opP; rw [if_neg (by decide), if_pos rfl, hq.out]))
      clear hap hg4 HSP HSM H3 HO
      go_wp2_with (first
        | (go_at_call 16; refine keep (sat_any gc _ _ d0) ?_)
        | (go_at_call 31; refine keep (serr_any gc _ _ d2) ?_)
        | fail)
      go_ret
      exact HFIN.out
    · by_cases k2 : k = 2
      · subst k2
        have HB := hide (num_any HL.out HX.out wA gc x F C l HI0.out HOK.out (by omega) hl hBA (fun j hj => by have := (HLF.out j hj).2; have := hzA.out; omega))
        generalize hq : numP RD x = q at *
        replace hq := hide hq
        obtain ⟨bv, er, x'⟩ := q
        simp only at HB
        go_wp2_with fail
        refine HB.out.mono ?_
        rintro e w1 ⟨F1, rfl, hi1, hu1, hs1⟩
        have h2 := ap_two HX.out HY.out HI0.out HJ0.out HD.out hi1 hu1 hs1
        have HRB := hide (rnum_any HY.out w1 gd most x G C l h2.1 HOK.out (by omega) hml (Nat.le_trans hBA hu1.size))
        rw [hq.out] at HRB
        simp only at HRB
        replace h2 := hide h2.2
        clear hi1 hu1 hs1 HB
        go_wp2_with fail
        refine HRB.out.mono ?_
        rintro e w2 ⟨G1, rfl, hj2, hu2, hs2⟩
        have hap := h2.out w2 G1 hj2 hu2 hs2
        have d0 := hap.cells.1
        have d2 := hap.cells.2.1
        have r2 := hap.cells.2.2.1
        have r3 := hap.cells.2.2.2
        have HFIN := hide (HFIN0.out _ _ _ _ hap (by unfold opP; rw [if_neg (by decide), if_neg (by decide), if_pos rfl, hq.out]))
        clear hap hj2 hu2 hs2 h2 HRB
        go_wp2_with (first
          | (go_at_call 16; refine keep (sat_any gc _ _ d0) ?_)
          | (go_at_call 31; refine keep (serr_any gc _ _ d2) ?_)
          | fail)
        go_ret
        exact HFIN.out
      · by_cases k3 : k = 3
        · subst k3
          have HB := hide (inend_any HL.out HX.out wA gc x F C l HI0.out HOK.out (by omega) hBA)
          generalize hq : endP RD x = q at *
          replace hq := hide hq
          obtain ⟨bv, er, x'⟩ := q
          simp only at HB
          go_wp2_with fail
          refine HB.out.mono ?_
          rintro e w1 ⟨F1, rfl, hi1, hu1, hs1⟩
          have h2 := ap_two HX.out HY.out HI0.out HJ0.out HD.out hi1 hu1 hs1
          have HRB := hide (rinend_any HY.out w1 gd most x G C l h2.1 HOK.out (by omega) (Nat.le_trans hBA hu1.size))
          rw [hq.out] at HRB
          simp only at HRB
          replace h2 := hide h2.2
          clear hi1 hu1 hs1 HB
          go_wp2_with fail
          refine HRB.out.mono ?_
          rintro e w2 ⟨G1, rfl, hj2, hu2, hs2⟩
          have hap := h2.out w2 G1 hj2 hu2 hs2
          have d0 := hap.cells.1
          have d2 := hap.cells.2.1
          have r2 := hap.cells.2.2.1
          have r3 := hap.cells.2.2.2
          have HFIN := hide (HFIN0.out _ _ _ _ hap (by unfold opP; rw [if_neg (by decide), if_neg (by decide), if_neg (by decide), if_pos rfl, hq.out]))
          clear hap hj2 hu2 hs2 h2 HRB
          go_wp2_with (first
            | (go_at_call 16; refine keep (sat_any gc _ _ d0) ?_)
            | (go_at_call 31; refine keep (serr_any gc _ _ d2) ?_)
            | fail)
          go_ret
          exact HFIN.out
        · skip
          have hap : AP Rd1 Rd2 B gc gd g2 most (.iface ty pv) wA F G wA x F G := ⟨HI0.out, HJ0.out, fun _ h => .inl h, fun _ h => .inl h, HD.out, Upd.refl _ _⟩
          have d0 := hap.cells.1
          have d2 := hap.cells.2.1
          have r2 := hap.cells.2.2.1
          have r3 := hap.cells.2.2.2
          have HFIN := hide (HFIN0.out _ _ _ _ hap (by unfold opP; rw [if_neg k0, if_neg k1, if_neg k2, if_neg k3]))
          clear hap
          have k0' : (k == 0) = false := by simp [k0]
          have k1' : (k == 1) = false := by simp [k1]
          have k2' : (k == 2) = false := by simp [k2]
          have k3' : (k == 3) = false := by simp [k3]
          go_wp2_with (first
            | (go_at_call 16; refine keep (sat_any gc _ _ d0) ?_)
            | (go_at_call 31; refine keep (serr_any gc _ _ d2) ?_)
            | fail)
          go_ret
          exact HFIN.out

end Go.Proofs.Ytjcanghffhpncaa
