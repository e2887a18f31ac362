/- block: Find, as numbers. -/
import Derived.Test.YtjnldmbjeiejdaaG44
import Derived.Test.YtjnldmbjeiejdaaG40
import Derived.Test.YtjnldmbjeiejdaaG43
namespace Go.Proofs.Ytjnldmbjeiejdaa
open Go.RowKit

def plAt (l : List KV) (i : Nat) : Nat := 1 + (bod l i).length
/-- A place as the table has it. -/
def plc (zs : List Int) (T i : Nat) : Nat := (zs.getD (T + i * 2) 0).toNat + (zs.getD (T + i * 2 + 1) 0).toNat * 256
theorem bod_mono (l : List KV) (a b : Nat) (hab : a ≤ b) : (bod l a).length ≤ (bod l b).length := by
  obtain ⟨d, rfl⟩ : ∃ d, b = a + d := ⟨b - a, by omega⟩
  clear hab
  induction d with
  | zero => exact Nat.le_refl _
  | succ d ih => rw [← Nat.add_assoc, bod, List.length_append]; omega
theorem take_ky (l : List KV) (i j : Nat) (h : j < i) (hi : i ≤ l.length) : kyOf (l.take i) j = kyOf l j := by
  have := ky_app (l.take i) (l.drop i) j (by rw [List.length_take]; omega)
  rw [List.take_append_drop] at this
  exact this.symm
theorem take_pv (l : List KV) (i : Nat) (hi : i ≤ l.length) : pvOf (l.take i) i = pvOf l i := by
  have := pv_app (l.take i) (l.drop i) i (by rw [List.length_take]; omega)
  rw [List.take_append_drop] at this
  exact this.symm
theorem take_succ_kv (l : List KV) (i : Nat) (h : i < l.length) : l.take (i + 1) = l.take i ++ [(kyOf l i, vlOf l i)] := by
  have h1 : l.getD i ([], []) = l[i] := by simp [List.getD, List.getElem?_eq_getElem h]
  rw [List.take_add_one, List.getElem?_eq_getElem h]
  unfold kyOf vlOf
  rw [h1]; rfl

/-- In a block, entry i is read behind the key ahead. -/
theorem blk_entry {l : List KV} {zs : List Int} (h : Good l) (h0 : 0 < l.length) (hz : blk l = zs) (i : Nat) (hi : i < l.length) :
    plAt l i ≤ zs.length ∧ rEr (pvOf l i) zs (plAt l i) = 0 ∧ rKy (pvOf l i) zs (plAt l i) = kyOf l i ∧ rVl (pvOf l i) zs (plAt l i) = vlOf l i ∧ rPl (pvOf l i) zs (plAt l i) = plAt l (i + 1) := by
  have hb := blk_some h h0
  rw [hz] at hb
  have z8 : B8 zs := by rw [← hz]; exact blk_b8 h
  have hdr : zs.drop 1 = bod l l.length ++ tab l l.length := by rw [hb]; rfl
  have hl1 : 1 ≤ zs.length := by rw [hb]; simp
  have hlen : zs.length = 1 + (bod l l.length).length + (tab l l.length).length := by rw [hb]; simp; omega
  obtain ⟨ps, h1, _, _⟩ := rrun_blk h zs (tab l l.length) hdr z8 hl1 i (by omega)
  obtain ⟨ps', h2, _, _⟩ := rrun_blk h zs (tab l l.length) hdr z8 hl1 (i + 1) (by omega)
  rw [rrun, h1] at h2
  have hm := bod_mono l i l.length (by omega)
  have htl : (l.take i).length = i := by rw [List.length_take]; omega
  have hpv : pvS (l.take i) = pvOf l i := by rw [pvS_eq, htl, take_pv l i (by omega)]
  refine ⟨by unfold plAt; omega, ?_⟩
  change rstp zs ⟨l.take i, ps, plAt l i, 0, 0⟩ = ⟨l.take (i + 1), ps', plAt l (i + 1), 0, 0⟩ at h2
  have he : rEr (pvOf l i) zs (plAt l i) = 0 := by
    apply Classical.byContradiction
    intro hne
    rw [rstp_bad (s := ⟨l.take i, ps, plAt l i, 0, 0⟩) rfl (by rw [show (⟨l.take i, ps, plAt l i, 0, 0⟩ : RS).l = l.take i from rfl, hpv]; exact hne)] at h2
    have := congrArg RS.e h2
    simp only [hpv] at this
    exact hne this
  refine ⟨he, ?_⟩
  by_cases hc : cmpI (ahd (l.take i)) (rKy (pvOf l i) zs (plAt l i)) < 0
  · rw [rstp_ok (s := ⟨l.take i, ps, plAt l i, 0, 0⟩) rfl (by rw [show (⟨l.take i, ps, plAt l i, 0, 0⟩ : RS).l = l.take i from rfl, hpv]; exact he) (by rw [show (⟨l.take i, ps, plAt l i, 0, 0⟩ : RS).l = l.take i from rfl, hpv]; exact hc)] at h2
    have e1 := congrArg RS.l h2
    have e2 := congrArg RS.p h2
    simp only [hpv] at e1 e2
    rw [take_succ_kv l i hi] at e1
    have e3 := List.append_cancel_left e1
    simp only [List.cons.injEq, and_true, Prod.mk.injEq] at e3
    exact ⟨e3.1, e3.2, e2⟩
  · rw [rstp_ord (s := ⟨l.take i, ps, plAt l i, 0, 0⟩) rfl (by rw [show (⟨l.take i, ps, plAt l i, 0, 0⟩ : RS).l = l.take i from rfl, hpv]; exact he) (by rw [show (⟨l.take i, ps, plAt l i, 0, 0⟩ : RS).l = l.take i from rfl, hpv]; exact hc)] at h2
    have := congrArg RS.e h2
    simp at this
/-- The head of a block, and where its table begins. -/
theorem blk_head {l : List KV} {zs : List Int} (h : Good l) (h0 : 0 < l.length) (hz : blk l = zs) : nm zs 0 = l.length ∧ nx zs 0 = 1 ∧ stE zs = 0 ∧ zs.length = plAt l l.length + (l.length + 7) / 8 * 2 := by
  have hb := blk_some h h0
  rw [hz] at hb
  have h64 := h.n64
  obtain ⟨h1, h2, h3⟩ := nm_small l.length (bod l l.length ++ tab l l.length) (by omega)
  rw [← hb] at h1 h2 h3
  refine ⟨h1, h2, ?_, ?_⟩
  · unfold stE
    rw [h3, h1, if_neg (by simp), if_neg (by omega)]
  · have := tab_len l l.length
    rw [hb]
    unfold plAt
    simp
    omega
/-- The table gives the restarts' places. -/
theorem blk_table {l : List KV} {zs : List Int} (h : Good l) (h0 : 0 < l.length) (hz : blk l = zs) (i : Nat) (hi : i * 8 < l.length) : plc zs (plAt l l.length) i = plAt l (i * 8) := by
  have hb := blk_some h h0
  rw [hz] at hb
  have hps : ∀ j, j < l.length → ((List.range l.length).map (plAt l)).getD j 0 = 1 + (bod l j).length := fun j hj => by
    simp [List.getD, hj, plAt]
  obtain ⟨t0, t1⟩ := tabP_get ((List.range l.length).map (plAt l)) l.length i hi
  rw [tabP_tab (l := l) l.length hps, hps _ hi] at t0 t1
  have hg : ∀ k, zs.getD (plAt l l.length + k) 0 = (tab l l.length).getD k 0 := fun k => by
    rw [hb, show plAt l l.length + k = (bod l l.length).length + k + 1 by unfold plAt; omega, List.getD_cons_succ, getD_right _ _ _ (by omega), Nat.add_sub_cancel_left]
  have hlen := blk_len h
  rw [hz] at hlen
  have hm := bod_mono l (i * 8) l.length (by omega)
  have hlz : zs.length = 1 + (bod l l.length).length + (tab l l.length).length := by rw [hb]; simp; omega
  unfold plc
  rw [Nat.add_assoc, hg, hg, t0, t1]
  unfold plAt
  simp only [Int.toNat_natCast]
  generalize (bod l (i * 8)).length = q at *
  omega
/-- Keys rise. -/
theorem Good.lt {l : List KV} (h : Good l) (i j : Nat) (hij : i < j) (hj : j < l.length) : cmpI (kyOf l i) (kyOf l j) < 0 := by
  obtain ⟨d, rfl⟩ : ∃ d, j = i + 1 + d := ⟨j - (i + 1), by omega⟩
  clear hij
  induction d with
  | zero => exact h.up i hj
  | succ d ih =>
    have h1 := ih (by omega)
    have h2 := h.up (i + 1 + d) hj
    exact (cmpI_trans _ _ _ (by omega) (Int.le_of_lt h2)).2 h1
/-- What Find must tell. -/
def IsF (l : List KV) (key vs : List Int) (b : Bool) : Prop := (b = true ∧ ∃ i, i < l.length ∧ kyOf l i = key ∧ vs = vlOf l i) ∨ (b = false ∧ vs = [] ∧ ∀ i, i < l.length → kyOf l i ≠ key)
theorem Good.inj {l : List KV} (h : Good l) {i j : Nat} (hi : i < l.length) (hj : j < l.length) (he : kyOf l i = kyOf l j) : i = j := by
  rcases Nat.lt_trichotomy i j with h1 | h1 | h1
  · have := h.lt i j h1 hj; rw [he, cmpI_refl] at this; omega
  · exact h1
  · have := h.lt j i h1 hi; rw [he, cmpI_refl] at this; omega
theorem IsF.same {l : List KV} (h : Good l) {key v1 v2 : List Int} {b1 b2 : Bool} (h1 : IsF l key v1 b1) (h2 : IsF l key v2 b2) : v1 = v2 ∧ b1 = b2 := by
  rcases h1 with ⟨e1, i, hi, hk, hv⟩ | ⟨e1, hv, hn⟩ <;> rcases h2 with ⟨e2, j, hj, hk2, hv2⟩ | ⟨e2, hv2, hn2⟩
  · obtain rfl := h.inj hi hj (hk.trans hk2.symm)
    exact ⟨hv.trans hv2.symm, e1.trans e2.symm⟩
  · exact absurd hk (hn2 i hi)
  · exact absurd hk2 (hn j hj)
  · exact ⟨hv.trans hv2.symm, e1.trans e2.symm⟩
/-- Nothing ahead of m, and what stands at m is above: nothing. -/
theorem IsF.none {l : List KV} (h : Good l) {key : List Int} (m : Nat) (h1 : ∀ i, i < m → i < l.length → cmpI (kyOf l i) key < 0) (h2 : m < l.length → 0 < cmpI (kyOf l m) key) : IsF l key [] false := by
  refine .inr ⟨rfl, rfl, fun i hi e => ?_⟩
  by_cases h3 : i < m
  · have := h1 i h3 hi; rw [e, cmpI_refl] at this; omega
  · have h4 := h2 (by omega)
    by_cases h5 : i = m
    · subst h5; rw [e, cmpI_refl] at h4; omega
    · have h6 := h.lt m i (by omega) hi
      rw [e] at h6
      omega

end Go.Proofs.Ytjnldmbjeiejdaa

namespace Go.Proofs.Ytjnldmbjeiejdaa
open Go.RowKit

theorem b8_at {zs : List Int} (h : B8 zs) (i : Nat) : 0 ≤ zs.getD i 0 ∧ zs.getD i 0 < 256 := by
  by_cases hi : i < zs.length
  · have := h (zs[i]) (List.getElem_mem hi)
    rw [show zs.getD i 0 = zs[i] by simp [List.getD, List.getElem?_eq_getElem hi]]
    omega
  · rw [show zs.getD i 0 = 0 by simp [List.getD, List.getElem?_eq_none (show zs.length ≤ i by omega)]]
    omega

set_option maxRecDepth 100000 in
set_option maxHeartbeats 1600000 in
theorem jump_any {W : World} {B g : Nat} {a : Option Addr} {l c p n num : Nat} {ls zs : List Int} {va : Value} (h : WkR W B g a l c p n num ls va) (i T : Nat) (hl : zs.length = l) (hm : l ≤ 140737488351232) (hT : T + i * 2 + 1 < l) (hi : i ≤ 1000) (hr : Row W .u8 a zs) (z8 : B8 zs) :
    Calls Try.prog 71 #[.pointer (some ⟨g, 0, none⟩), .int .i64 (i : Int), .int .i64 (T : Int)] W fun e w' => e = .returned (.tuple #[]) ∧ WkR w' B g a l c (plc zs T i) n (i * 8) [] (.slice none 0 0) ∧ Upd (fun k => k = g) W w' := by
  obtain ⟨b, o, rfl, hb, hc⟩ := hr.cons (by omega)
  have c0 := h.cells.1
  have c1 := h.cells.2.1
  have c3 := h.cells.2.2.2.1
  have c4 := h.cells.2.2.2.2.1
  have hf := h.cells.2.2.2.2.2
  have d0 := hc (T + i * 2) (by omega)
  have d1 := hc (T + i * 2 + 1) (by omega)
  have q0 := b8_at z8 (T + i * 2)
  have q1 := b8_at z8 (T + i * 2 + 1)
  have HPL : Hid (plc zs T i = (zs.getD (T + i * 2) 0).toNat + (zs.getD (T + i * 2 + 1) 0).toNat * 256) := rfl
  generalize zs.getD (T + i * 2) 0 = x at *
  generalize zs.getD (T + i * 2 + 1) 0 = y at *
  generalize plc zs T i = pl at *
  obtain ⟨x, rfl⟩ : ∃ k : Nat, x = (k : Int) := ⟨x.toNat, by omega⟩
  obtain ⟨y, rfl⟩ : ∃ k : Nat, y = (k : Int) := ⟨y.toNat, by omega⟩
  have hpl : pl = x + y * 256 := by rw [HPL.out]; simp
  obtain ⟨t, ht⟩ : ∃ t, t = T + i * 2 := ⟨_, rfl⟩
  rw [← ht] at d0 d1 hT
  have e2 : Hid ((T : Int) + (i : Int) * 2 = (t : Int)) := by show _ = _; omega
  have i1 : (0 : Int) ≤ ((t : Nat) : Int) := by omega
  have i2 : ((t : Nat) : Int) < (l : Int) := by omega
  have i3 : (0 : Int) ≤ (t : Int) + 1 := by omega
  have i4 : (t : Int) + 1 < (l : Int) := by omega
  have H := hide h
  clear h hr hc hb ht z8 HPL
  go_enter Try.func71, Try.ntmps71
  go_upto_region 1 with fail
  rw [e2.out, show wrap64 (t : Int) = (t : Int) from by unfold wrap64; omega]
  clear e2
  go_region
  go_wp2_with fail
  have hcast : ((x : Int) + (y : Int) * 256) = ((pl : Nat) : Int) := by omega
  have hcast2 : ((i : Int) * 8) = ((i * 8 : Nat) : Int) := by omega
  rw [hcast, hcast2]
  go_end0
  exact ⟨rfl, ⟨block_setCell (block_setCell (block_setCell H.out.blk 1 _) 3 _) 4 _, World.ownsRow_nil _ _ _ _, (fun k hk => by cases hk), H.out.gB⟩, ((((set_upd _ g 1 _).trans (set_upd _ g 3 _)).trans (set_upd _ g 4 _))).drew⟩

end Go.Proofs.Ytjnldmbjeiejdaa
