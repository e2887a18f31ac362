/- block: Add refused; Add of any entry. -/
import Derived.Test.YtjnldmbjeiejdaaBAdd2
namespace Go.Proofs.Ytjnldmbjeiejdaa
open Go.RowKit

set_option maxRecDepth 100000 in
set_option maxHeartbeats 1600000 in
theorem add_chk (g : Nat) (W : World) (e : Ent) (hc : chkE e.ks.length e.vs.length ≠ 0) :
    Calls Try.prog 27 #[.pointer (some ⟨g, 0, none⟩), .agg #[e.kv, e.vv]] W (AddNo W (chkE e.ks.length e.vs.length)) := by
  have HC := hide (check_any e.ka e.va e.ks.length e.kc e.vs.length e.vc (W.alloc (.cells #[.slice e.ka e.ks.length e.kc, .slice e.va e.vs.length e.vc] 25)))
  have hbox : Below W.heap.size W (W.alloc (.cells #[.slice e.ka e.ks.length e.kc, .slice e.va e.vs.length e.vc] 25)) := (Below.refl _ _).alloc (Nat.le_refl _) _
  have HBOX := hide hbox
  unfold Ent.kv Ent.vv
  generalize chkE e.ks.length e.vs.length = r at *
  have hne : (r != 0) = true := by simp [hc]
  clear hbox
  go_enter Try.func27, Try.ntmps27
  go_wp2_with fail
  refine HC.out.mono ?_
  rintro q w1 ⟨rfl, hb1⟩
  have HF : Hid (AddNo W r (.returned (.int .i64 r)) w1) := ⟨rfl, HBOX.out.trans (hb1.mono HBOX.out.size)⟩
  clear hb1
  go_wp2_with fail
  go_ret
  exact HF.out

set_option maxRecDepth 100000 in
set_option maxHeartbeats 1600000 in
theorem add_64 {W : World} {B g n : Nat} {bs ts ls : List Int} {vb vt vl : Value} (hR : BdR W B g n bs ts ls vb vt vl) (e : Ent) (ok : e.Ok W) (hk : ∀ x, e.ka = some x → 0 < e.ks.length → ¬ BdM g vb vt vl x.block) (hv : ∀ x, e.va = some x → 0 < e.vs.length → ¬ BdM g vb vt vl x.block)
    (hc : chkE e.ks.length e.vs.length = 0) (hn : n = 64) :
    Calls Try.prog 27 #[.pointer (some ⟨g, 0, none⟩), .agg #[e.kv, e.vv]] W (AddNo W 61) := by
  have hn : (n : Int) = 64 := by omega
  obtain ⟨i0, hi0, hz0, hz1, hz2⟩ := info_parts infoByte'
  obtain ⟨ab, cb, rfl, _⟩ := owns_open hR.ob
  obtain ⟨at', ct, rfl, _⟩ := owns_open hR.ot
  obtain ⟨al, cl, rfl, hrl, hnl, hcl⟩ := owns_open hR.ol
  have hlt := hR.lt
  have hgl := (hlt g (.inl rfl)).2
  have hBW : B ≤ W.heap.size := Nat.le_of_lt (Nat.lt_of_le_of_lt hR.gB hgl)
  obtain ⟨nb, hnb⟩ : ∃ nb, bs.length = nb := ⟨_, rfl⟩
  obtain ⟨nt, hnt⟩ : ∃ nt, ts.length = nt := ⟨_, rfl⟩
  obtain ⟨nl, hnl'⟩ : ∃ nl, ls.length = nl := ⟨_, rfl⟩
  rw [hnb, hnt, hnl'] at hR
  rw [hnb, hnt, hnl'] at hlt
  rw [hnb, hnt, hnl'] at hk hv
  obtain ⟨M, hM⟩ : ∃ M, M = BdM g (.slice ab nb cb) (.slice at' nt ct) (.slice al nl cl) := ⟨_, rfl⟩
  rw [← hM] at hk hv
  rw [hnl'] at hnl hcl
  obtain ⟨lk, hlk⟩ : ∃ k, e.ks.length = k := ⟨_, rfl⟩
  obtain ⟨lv, hlv⟩ : ∃ k, e.vs.length = k := ⟨_, rfl⟩
  have hbox : Below W.heap.size W (W.alloc (.cells #[.slice e.ka lk e.kc, .slice e.va lv e.vc] 25)) := (Below.refl _ _).alloc (Nat.le_refl _) _
  have X0 := hide (two_new2 W (.slice e.ka lk e.kc) (.slice e.va lv e.vc) 25)
  have HSZ := hide (show (W.alloc (.cells #[.slice e.ka lk e.kc, .slice e.va lv e.vc] 25)).heap.size = W.heap.size + 1 by simp)
  have HC := hide (check_any e.ka e.va e.ks.length e.kc e.vs.length e.vc (W.alloc (.cells #[.slice e.ka lk e.kc, .slice e.va lv e.vc] 25)))
  have HR := hide hR
  have HK := hide hk
  have HV := hide hv
  have HRL := hide hrl
  have OK := hide ok
  have HBOX := hide hbox
  have HM := hide hM
  have HLT := hide hlt
  unfold Ent.kv Ent.vv
  rw [hc] at HC
  rw [hlk, hlv] at HC ⊢
  clear hR hk hv hrl ok hbox hM hlt
  generalize hwA : W.alloc (.cells #[.slice e.ka lk e.kc, .slice e.va lv e.vc] 25) = wA at *
  replace hwA := hide hwA
  go_enter Try.func27, Try.ntmps27
  go_wp2_with fail
  rw [hwA.out]
  refine HC.out.mono ?_
  rintro r w1 ⟨rfl, hb1⟩
  have B1 : Hid (Below W.heap.size W w1) := HBOX.out.trans (hb1.mono HBOX.out.size)
  have R1 := hide (HR.out.upd (Upd.of_below B1.out Noth) (fun _ _ e => e))
  have O1 := hide (OK.out.upd (Upd.of_below B1.out Noth) (fun _ _ _ e => e) (fun _ _ _ e => e))
  have hz : W.heap.size < w1.heap.size := by have := hb1.size; have := HSZ.out; omega
  have x0 : w1.cell? ⟨W.heap.size, 0, none⟩ = some (.slice e.ka lk e.kc) := (hb1.cell (p := ⟨W.heap.size, 0, none⟩) (by have := HSZ.out; show W.heap.size < _; omega)).trans X0.out.1
  have x1 : w1.cell? ⟨W.heap.size, 1, none⟩ = some (.slice e.va lv e.vc) := (hb1.cell (p := ⟨W.heap.size, 1, none⟩) (by have := HSZ.out; show W.heap.size < _; omega)).trans X0.out.2
  have c0 := R1.out.cells.1
  have c3 := R1.out.cells.2.2.2.1
  clear hb1 HC X0
  have HF : Hid (AddNo W 61 (.returned (.int .i64 61)) w1) := ⟨rfl, B1.out⟩
  clear R1 O1 HR
  rw [hn] at c0
  go_wp2_with fail
  go_ret
  exact HF.out

set_option maxRecDepth 100000 in
set_option maxHeartbeats 1600000 in
theorem add_ord {W : World} {B g n : Nat} {bs ts ls : List Int} {vb vt vl : Value} (hR : BdR W B g n bs ts ls vb vt vl) (e : Ent) (ok : e.Ok W) (hk : ∀ x, e.ka = some x → 0 < e.ks.length → ¬ BdM g vb vt vl x.block) (hv : ∀ x, e.va = some x → 0 < e.vs.length → ¬ BdM g vb vt vl x.block)
    (hc : chkE e.ks.length e.vs.length = 0) (hn : n < 64) (hcm : ¬ cmpI ls e.ks < 0) (l8 : B8 ls) :
    Calls Try.prog 27 #[.pointer (some ⟨g, 0, none⟩), .agg #[e.kv, e.vv]] W (AddNo W 51) := by
  obtain ⟨i0, hi0, hz0, hz1, hz2⟩ := info_parts infoByte'
  obtain ⟨ab, cb, rfl, _⟩ := owns_open hR.ob
  obtain ⟨at', ct, rfl, _⟩ := owns_open hR.ot
  obtain ⟨al, cl, rfl, hrl, hnl, hcl⟩ := owns_open hR.ol
  have hlt := hR.lt
  have hgl := (hlt g (.inl rfl)).2
  have hBW : B ≤ W.heap.size := Nat.le_of_lt (Nat.lt_of_le_of_lt hR.gB hgl)
  obtain ⟨nb, hnb⟩ : ∃ nb, bs.length = nb := ⟨_, rfl⟩
  obtain ⟨nt, hnt⟩ : ∃ nt, ts.length = nt := ⟨_, rfl⟩
  obtain ⟨nl, hnl'⟩ : ∃ nl, ls.length = nl := ⟨_, rfl⟩
  rw [hnb, hnt, hnl'] at hR
  rw [hnb, hnt, hnl'] at hlt
  rw [hnb, hnt, hnl'] at hk hv
  obtain ⟨M, hM⟩ : ∃ M, M = BdM g (.slice ab nb cb) (.slice at' nt ct) (.slice al nl cl) := ⟨_, rfl⟩
  rw [← hM] at hk hv
  rw [hnl'] at hnl hcl
  obtain ⟨lk, hlk⟩ : ∃ k, e.ks.length = k := ⟨_, rfl⟩
  obtain ⟨lv, hlv⟩ : ∃ k, e.vs.length = k := ⟨_, rfl⟩
  have hbox : Below W.heap.size W (W.alloc (.cells #[.slice e.ka lk e.kc, .slice e.va lv e.vc] 25)) := (Below.refl _ _).alloc (Nat.le_refl _) _
  have X0 := hide (two_new2 W (.slice e.ka lk e.kc) (.slice e.va lv e.vc) 25)
  have HSZ := hide (show (W.alloc (.cells #[.slice e.ka lk e.kc, .slice e.va lv e.vc] 25)).heap.size = W.heap.size + 1 by simp)
  have HC := hide (check_any e.ka e.va e.ks.length e.kc e.vs.length e.vc (W.alloc (.cells #[.slice e.ka lk e.kc, .slice e.va lv e.vc] 25)))
  have HR := hide hR
  have HK := hide hk
  have HV := hide hv
  have HRL := hide hrl
  have OK := hide ok
  have HBOX := hide hbox
  have HM := hide hM
  have HLT := hide hlt
  unfold Ent.kv Ent.vv
  rw [hc] at HC
  rw [hlk, hlv] at HC ⊢
  clear hR hk hv hrl ok hbox hM hlt
  generalize hwA : W.alloc (.cells #[.slice e.ka lk e.kc, .slice e.va lv e.vc] 25) = wA at *
  replace hwA := hide hwA
  go_enter Try.func27, Try.ntmps27
  go_wp2_with fail
  rw [hwA.out]
  refine HC.out.mono ?_
  rintro r w1 ⟨rfl, hb1⟩
  have B1 : Hid (Below W.heap.size W w1) := HBOX.out.trans (hb1.mono HBOX.out.size)
  have R1 := hide (HR.out.upd (Upd.of_below B1.out Noth) (fun _ _ e => e))
  have O1 := hide (OK.out.upd (Upd.of_below B1.out Noth) (fun _ _ _ e => e) (fun _ _ _ e => e))
  have hz : W.heap.size < w1.heap.size := by have := hb1.size; have := HSZ.out; omega
  have x0 : w1.cell? ⟨W.heap.size, 0, none⟩ = some (.slice e.ka lk e.kc) := (hb1.cell (p := ⟨W.heap.size, 0, none⟩) (by have := HSZ.out; show W.heap.size < _; omega)).trans X0.out.1
  have x1 : w1.cell? ⟨W.heap.size, 1, none⟩ = some (.slice e.va lv e.vc) := (hb1.cell (p := ⟨W.heap.size, 1, none⟩) (by have := HSZ.out; show W.heap.size < _; omega)).trans X0.out.2
  have c0 := R1.out.cells.1
  have c3 := R1.out.cells.2.2.2.1
  clear hb1 HC X0
  obtain ⟨cv, hcv⟩ : ∃ cv, cv = cmpI ls e.ks := ⟨_, rfl⟩
  have RC : Hid (Calls Try.prog 56 #[.slice al nl cl, .slice e.ka lk e.kc] w1.drew fun r w' => r = .returned (.int .i64 cv) ∧ Below w1.heap.size w1 w') := by
    rw [hcv]
    exact (compare_any al e.ka nl cl lk e.kc ls e.ks w1.drew hnl' hlk (show Row w1 .u8 _ _ from row_of_owns2 (n := nl) (by have := R1.out.ol; rw [hnl'] at this; exact this)) (show Row w1 .u8 _ _ from O1.out.k) l8 O1.out.k8).mono fun r w' ⟨h1, h2⟩ => ⟨h1, by subst h2; exact ⟨rfl, rfl, rfl, Nat.le_refl _, fun _ _ => rfl⟩⟩
  rw [← hcv] at hcm
  replace hcm : 0 ≤ cv := by omega
  replace hcv := hide hcv
  have h64 : ¬ (n : Int) = 64 := by omega
  go_wp2_with fail
  go_region_held3 (fun w => w.cell? ⟨g, 3, none⟩ = some (.slice al nl cl) ∧ w.cell? ⟨W.heap.size, 0, none⟩ = some (.slice e.ka lk e.kc)) (go_keep) (first
    | (go_at_call 56; refine RC.out.mono ?_; rintro r w2 ⟨rfl, hw2⟩; have B2 : Hid (Below w1.heap.size w1 w2) := hw2; have f0 : w2.cell? ⟨g, 3, none⟩ = some (.slice al nl cl) := (B2.out.cell (p := ⟨g, 3, none⟩) (Nat.lt_trans hgl hz)).trans c3; have f1 : w2.cell? ⟨W.heap.size, 0, none⟩ = some (.slice e.ka lk e.kc) := (B2.out.cell (p := ⟨W.heap.size, 0, none⟩) hz).trans x0; clear hw2)
    | fail)
  have HF : Hid (AddNo W 51 (.returned (.int .i64 51)) w2) := ⟨rfl, B1.out.trans (B2.out.mono B1.out.size)⟩
  clear R1 O1 HR
  go_wp2_with fail
  go_ret
  exact HF.out

theorem AddNo.post {W : World} {B g : Nat} {M : Nat → Prop} {l : List KV} {r : Int} {e : Ending} {W' : World} (h : AddNo W r e W') (hB : BdAt W B M g l) : AddPost W B M g r l e W' :=
  ⟨h.1, M, hB.upd (Upd.of_below h.2 Noth) (fun _ _ e => e), Upd.of_below h.2 M, fun _ h => .inl h⟩
/-- Add of any entry. -/
theorem badd_any {W : World} {B g : Nat} {M : Nat → Prop} {l : List KV} (h : BdAt W B M g l) (e : Ent) (ok : e.Ok W) (hk : ∀ x, e.ka = some x → 0 < e.ks.length → ¬ M x.block) (hv : ∀ x, e.va = some x → 0 < e.vs.length → ¬ M x.block) :
    Calls Try.prog 27 #[.pointer (some ⟨g, 0, none⟩), .agg #[e.kv, e.vv]] W (AddPost W B M g (addE l e.ks e.vs) (addL l e.ks e.vs)) := by
  have h' := h
  obtain ⟨hg, vb, vt, vl, hR, hM⟩ := h
  have hk' : ∀ x, e.ka = some x → 0 < e.ks.length → ¬ BdM g vb vt vl x.block := fun x hx h0 hm => hk x hx h0 ((hM _).2 hm)
  have hv' : ∀ x, e.va = some x → 0 < e.vs.length → ¬ BdM g vb vt vl x.block := fun x hx h0 hm => hv x hx h0 ((hM _).2 hm)
  have hn64 := hg.n64
  by_cases hc : chkE e.ks.length e.vs.length = 0
  · obtain ⟨fk1, fk2, fv⟩ := fits_key hc
    by_cases h64 : l.length = 64
    · have hE : addE l e.ks e.vs = 61 := by unfold addE; rw [if_neg (by rw [hc]; simp), if_pos h64]
      have hL : addL l e.ks e.vs = l := by unfold addL; rw [hE, if_neg (by decide)]
      rw [hE, hL]
      exact (add_64 hR e ok hk' hv' hc h64).mono fun _ _ h => h.post h'
    · by_cases hcm : cmpI (ahd l) e.ks < 0
      · have hE : addE l e.ks e.vs = 0 := by unfold addE; rw [if_neg (by rw [hc]; simp), if_neg h64, if_pos hcm]
        have hL : addL l e.ks e.vs = l ++ [(e.ks, e.vs)] := by unfold addL; rw [hE, if_pos rfl]
        rw [hE, hL]
        have hb := bod_len hg l.length (Nat.le_refl _)
        have ht := tab_len l l.length
        refine (add_yes hR e ok hk' hv' hc (by omega) hcm hg.ahd8 (by omega) (by omega) hg.ahdl).mono ?_
        rintro q W' ⟨rfl, vb', vt', vl', hR', hU, hF⟩
        refine ⟨rfl, BdM g vb' vt' vl', ⟨hg.snoc _ _ (by omega) ⟨fk1, fk2⟩ fv ok.k8 ok.v8 (fun _ => hcm), vb', vt', vl', ?_, fun _ => Iff.rfl⟩, hU.mono (fun i _ h => (hM i).2 h), fun i hi => (hF i hi).imp (fun h => (hM i).2 h) id⟩
        rw [ahd_snoc, List.length_append, List.length_singleton, bod_snoc, tab_snoc, pv_ahd]
        exact hR'
      · have hE : addE l e.ks e.vs = 51 := by unfold addE; rw [if_neg (by rw [hc]; simp), if_neg h64, if_neg hcm]
        have hL : addL l e.ks e.vs = l := by unfold addL; rw [hE, if_neg (by decide)]
        rw [hE, hL]
        exact (add_ord hR e ok hk' hv' hc (by omega) hcm hg.ahd8).mono fun _ _ h => h.post h'
  · have hE : addE l e.ks e.vs = chkE e.ks.length e.vs.length := by unfold addE; rw [if_pos hc]
    have hL : addL l e.ks e.vs = l := by unfold addL; rw [hE, if_neg hc]
    rw [hE, hL]
    exact (add_chk g W e hc).mono fun _ _ h => h.post h'

end Go.Proofs.Ytjnldmbjeiejdaa
