/- block: Add refused; Add of any entry. -/
import Derived.Test.YtepjblmjjegpgaaGreatW38
import Derived.Test.YtepjblmjjegpgaaGreatW31
import Derived.Test.YtepjblmjjegpgaaGreatW22
import Derived.Test.YtepjblmjjegpgaaGreatW27
namespace Go.Proofs.YtepjblmjjegpgaaGreat
open Go.RowKit
set_option maxRecDepth 100000

set_option maxRecDepth 100000 in
set_option maxHeartbeats 1600000 in
theorem add_chk (g : Nat) (W : World) (e : Ent) (hc : chkE e.ks.length e.vs.length ≠ 0) :
    Calls Tryz.prog 51 #[.pointer (some ⟨g, 0, none⟩), .agg #[e.kv, e.vv]] W (AddNo W (chkE e.ks.length e.vs.length)) := by
  have HC := hide (check_any e.ka e.va e.ks.length e.kc e.vs.length e.vc (W.alloc (.cells #[.slice e.ka e.ks.length e.kc, .slice e.va e.vs.length e.vc] 38)))
  have hbox : Below W.heap.size W (W.alloc (.cells #[.slice e.ka e.ks.length e.kc, .slice e.va e.vs.length e.vc] 38)) := (Below.refl _ _).alloc (Nat.le_refl _) _
  have HBOX := hide hbox
  unfold Ent.kv Ent.vv
  generalize chkE e.ks.length e.vs.length = r at *
  have hne : (r != 0) = true := by simp [hc]
  clear hbox
  go_enter Tryz.func51, Tryz.ntmps51
  go_wp2_with fail
  refine HC.out.mono ?_
  rintro q w1 ⟨rfl, hb1⟩
  have HF : Hid (AddNo W r (.returned (.int .i64 r)) w1) := ⟨rfl, HBOX.out.trans (hb1.mono HBOX.out.size)⟩
  clear hb1
  go_wp2_with fail
  go_ret
  exact HF.out

set_option maxRecDepth 100000 in
set_option maxHeartbeats 1600000 in
theorem add_64 {W : World} {B g n : Nat} {bs ts ls : List Int} {vb vt vl : Value} (hR : BdR W B g n bs ts ls vb vt vl) (e : Ent) (ok : e.Ok W) (hk : ∀ x, e.ka = some x → 0 < e.ks.length → ¬ BdM g vb vt vl x.block) (hv : ∀ x, e.va = some x → 0 < e.vs.length → ¬ BdM g vb vt vl x.block)
    (hc : chkE e.ks.length e.vs.length = 0) (hn : n = 64) :
    Calls Tryz.prog 51 #[.pointer (some ⟨g, 0, none⟩), .agg #[e.kv, e.vv]] W (AddNo W 61) := by
  have hn : (n : Int) = 64 := by omega
  obtain ⟨i0, hi0, hz0, hz1, hz2⟩ := info_parts infoByte'
  obtain ⟨ab, cb, rfl, _⟩ := owns_open hR.ob
  obtain ⟨at', ct, rfl, _⟩ := owns_open hR.ot
  obtain ⟨al, cl, rfl, hrl, hnl, hcl⟩ := owns_open hR.ol
  have hlt := hR.lt
  have hgl := (hlt g (.inl rfl)).2
  have hBW : B ≤ W.heap.size := Nat.le_of_lt (Nat.lt_of_le_of_lt hR.gB hgl)
  obtain ⟨nb, hnb⟩ : ∃ nb, bs.length = nb := ⟨_, rfl⟩
  obtain ⟨nt, hnt⟩ : ∃ nt, ts.length = nt := ⟨_, rfl⟩
  obtain ⟨nl, hnl'⟩ : ∃ nl, ls.length = nl := ⟨_, rfl⟩
  rw [hnb, hnt, hnl'] at hR
  rw [hnb, hnt, hnl'] at hlt
  rw [hnb, hnt, hnl'] at hk hv
  obtain ⟨M, hM⟩ : ∃ M, M = BdM g (.slice ab nb cb) (.slice at' nt ct) (.slice al nl cl) := ⟨_, rfl⟩
  rw [← hM] at hk hv
  rw [hnl'] at hnl hcl
  obtain ⟨lk, hlk⟩ : ∃ k, e.ks.length = k := ⟨_, rfl⟩
  obtain ⟨lv, hlv⟩ : ∃ k, e.vs.length = k := ⟨_, rfl⟩
  have hbox : Below W.heap.size W (W.alloc (.cells #[.slice e.ka lk e.kc, .slice e.va lv e.vc] 38)) := (Below.refl _ _).alloc (Nat.le_refl _) _
  have X0 := hide (two_new2 W (.slice e.ka lk e.kc) (.slice e.va lv e.vc) 38)
  have HSZ := hide (show (W.alloc (.cells #[.slice e.ka lk e.kc, .slice e.va lv e.vc] 38)).heap.size = W.heap.size + 1 by simp)
  have HC := hide (check_any e.ka e.va e.ks.length e.kc e.vs.length e.vc (W.alloc (.cells #[.slice e.ka lk e.kc, .slice e.va lv e.vc] 38)))
  have HR := hide hR
  have HK := hide hk
  have HV := hide hv
  have HRL := hide hrl
  have OK := hide ok
  have HBOX := hide hbox
  have HM := hide hM
  have HLT := hide hlt
  unfold Ent.kv Ent.vv
  rw [hc] at HC
  rw [hlk, hlv] at HC ⊢
  clear hR hk hv hrl ok hbox hM hlt
  generalize hwA : W.alloc (.cells #[.slice e.ka lk e.kc, .slice e.va lv e.vc] 38) = wA at *
  replace hwA := hide hwA
  go_enter Tryz.func51, Tryz.ntmps51
  go_wp2_with fail
  rw [hwA.out]
  refine HC.out.mono ?_
  rintro r w1 ⟨rfl, hb1⟩
  have B1 : Hid (Below W.heap.size W w1) := HBOX.out.trans (hb1.mono HBOX.out.size)
  have R1 := hide (HR.out.upd (Upd.of_below B1.out Noth) (fun _ _ e => e))
  have O1 := hide (OK.out.upd (Upd.of_below B1.out Noth) (fun _ _ _ e => e) (fun _ _ _ e => e))
  have hz : W.heap.size < w1.heap.size := by have := hb1.size; have := HSZ.out; omega
  have x0 : w1.cell? ⟨W.heap.size, 0, none⟩ = some (.slice e.ka lk e.kc) := (hb1.cell (p := ⟨W.heap.size, 0, none⟩) (by have := HSZ.out; show W.heap.size < _; omega)).trans X0.out.1
  have x1 : w1.cell? ⟨W.heap.size, 1, none⟩ = some (.slice e.va lv e.vc) := (hb1.cell (p := ⟨W.heap.size, 1, none⟩) (by have := HSZ.out; show W.heap.size < _; omega)).trans X0.out.2
  have c0 := R1.out.cells.1
  have c3 := R1.out.cells.2.2.2.1
  clear hb1 HC X0
  have HF : Hid (AddNo W 61 (.returned (.int .i64 61)) w1) := ⟨rfl, B1.out⟩
  clear R1 O1 HR
  rw [hn] at c0
  go_wp2_with fail
  go_ret
  exact HF.out

set_option maxRecDepth 100000 in
set_option maxHeartbeats 1600000 in
theorem add_ord {W : World} {B g n : Nat} {bs ts ls : List Int} {vb vt vl : Value} (hR : BdR W B g n bs ts ls vb vt vl) (e : Ent) (ok : e.Ok W) (hk : ∀ x, e.ka = some x → 0 < e.ks.length → ¬ BdM g vb vt vl x.block) (hv : ∀ x, e.va = some x → 0 < e.vs.length → ¬ BdM g vb vt vl x.block)
    (hc : chkE e.ks.length e.vs.length = 0) (hn : n < 64) (hcm : ¬ cmpI ls e.ks < 0) (l8 : B8 ls) :
    Calls Tryz.prog 51 #[.pointer (some ⟨g, 0, none⟩), .agg #[e.kv, e.vv]] W (AddNo W 51) := by
  obtain ⟨i0, hi0, hz0, hz1, hz2⟩ := info_parts infoByte'
  obtain ⟨ab, cb, rfl, _⟩ := owns_open hR.ob
  obtain ⟨at', ct, rfl, _⟩ := owns_open hR.ot
  obtain ⟨al, cl, rfl, hrl, hnl, hcl⟩ := owns_open hR.ol
  have hlt := hR.lt
  have hgl := (hlt g (.inl rfl)).2
  have hBW : B ≤ W.heap.size := Nat.le_of_lt (Nat.lt_of_le_of_lt hR.gB hgl)
  obtain ⟨nb, hnb⟩ : ∃ nb, bs.length = nb := ⟨_, rfl⟩
  obtain ⟨nt, hnt⟩ : ∃ nt, ts.length = nt := ⟨_, rfl⟩
  obtain ⟨nl, hnl'⟩ : ∃ nl, ls.length = nl := ⟨_, rfl⟩
  rw [hnb, hnt, hnl'] at hR
  rw [hnb, hnt, hnl'] at hlt
  rw [hnb, hnt, hnl'] at hk hv
  obtain ⟨M, hM⟩ : ∃ M, M = BdM g (.slice ab nb cb) (.slice at' nt ct) (.slice al nl cl) := ⟨_, rfl⟩
  rw [← hM] at hk hv
  rw [hnl'] at hnl hcl
  obtain ⟨lk, hlk⟩ : ∃ k, e.ks.length = k := ⟨_, rfl⟩
  obtain ⟨lv, hlv⟩ : ∃ k, e.vs.length = k := ⟨_, rfl⟩
  have hbox : Below W.heap.size W (W.alloc (.cells #[.slice e.ka lk e.kc, .slice e.va lv e.vc] 38)) := (Below.refl _ _).alloc (Nat.le_refl _) _
  have X0 := hide (two_new2 W (.slice e.ka lk e.kc) (.slice e.va lv e.vc) 38)
  have HSZ := hide (show (W.alloc (.cells #[.slice e.ka lk e.kc, .slice e.va lv e.vc] 38)).heap.size = W.heap.size + 1 by simp)
  have HC := hide (check_any e.ka e.va e.ks.length e.kc e.vs.length e.vc (W.alloc (.cells #[.slice e.ka lk e.kc, .slice e.va lv e.vc] 38)))
  have HR := hide hR
  have HK := hide hk
  have HV := hide hv
  have HRL := hide hrl
  have OK := hide ok
  have HBOX := hide hbox
  have HM := hide hM
  have HLT := hide hlt
  unfold Ent.kv Ent.vv
  rw [hc] at HC
  rw [hlk, hlv] at HC ⊢
  clear hR hk hv hrl ok hbox hM hlt
  generalize hwA : W.alloc (.cells #[.slice e.ka lk e.kc, .slice e.va lv e.vc] 38) = wA at *
  replace hwA := hide hwA
  go_enter Tryz.func51, Tryz.ntmps51
  go_wp2_with fail
  rw [hwA.out]
  refine HC.out.mono ?_
  rintro r w1 ⟨rfl, hb1⟩
  have B1 : Hid (Below W.heap.size W w1) := HBOX.out.trans (hb1.mono HBOX.out.size)
  have R1 := hide (HR.out.upd (Upd.of_below B1.out Noth) (fun _ _ e => e))
  have O1 := hide (OK.out.upd (Upd.of_below B1.out Noth) (fun _ _ _ e => e) (fun _ _ _ e => e))
  have hz : W.heap.size < w1.heap.size := by have := hb1.size; have := HSZ.out; omega
  have x0 : w1.cell? ⟨W.heap.size, 0, none⟩ = some (.slice e.ka lk e.kc) := (hb1.cell (p := ⟨W.heap.size, 0, none⟩) (by have := HSZ.out; show W.heap.size < _; omega)).trans X0.out.1
  have x1 : w1.cell? ⟨W.heap.size, 1, none⟩ = some (.slice e.va lv e.vc) := (hb1.cell (p := ⟨W.heap.size, 1, none⟩) (by have := HSZ.out; show W.heap.size < _; omega)).trans X0.out.2
  have c0 := R1.out.cells.1
  have c3 := R1.out.cells.2.2.2.1
  clear hb1 HC X0
  obtain ⟨cv, hcv⟩ : ∃ cv, cv = cmpI ls e.ks := ⟨_, rfl⟩
  have RC : Hid (Calls Tryz.prog 89 #[.slice al nl cl, .slice e.ka lk e.kc] w1.drew fun r w' => r = .returned (.int .i64 cv) ∧ Below w1.heap.size w1 w') := by
    rw [hcv]
    exact (compare_any al e.ka nl cl lk e.kc ls e.ks w1.drew hnl' hlk (show Row w1 .u8 _ _ from row_of_owns2 (n := nl) (by have := R1.out.ol; rw [hnl'] at this; exact this)) (show Row w1 .u8 _ _ from O1.out.k) l8 O1.out.k8).mono fun r w' ⟨h1, h2⟩ => ⟨h1, by subst h2; exact ⟨rfl, rfl, rfl, Nat.le_refl _, fun _ _ => rfl⟩⟩
  rw [← hcv] at hcm
  replace hcm : 0 ≤ cv := by omega
  replace hcv := hide hcv
  have h64 : ¬ (n : Int) = 64 := by omega
  go_wp2_with fail
  go_region_held3 (fun w => w.cell? ⟨g, 3, none⟩ = some (.slice al nl cl) ∧ w.cell? ⟨W.heap.size, 0, none⟩ = some (.slice e.ka lk e.kc)) (go_keep) (first
    | (go_at_call 89; refine RC.out.mono ?_; rintro r w2 ⟨rfl, hw2⟩; have B2 : Hid (Below w1.heap.size w1 w2) := hw2; have f0 : w2.cell? ⟨g, 3, none⟩ = some (.slice al nl cl) := (B2.out.cell (p := ⟨g, 3, none⟩) (Nat.lt_trans hgl hz)).trans c3; have f1 : w2.cell? ⟨W.heap.size, 0, none⟩ = some (.slice e.ka lk e.kc) := (B2.out.cell (p := ⟨W.heap.size, 0, none⟩) hz).trans x0; clear hw2)
    | fail)
  have HF : Hid (AddNo W 51 (.returned (.int .i64 51)) w2) := ⟨rfl, B1.out.trans (B2.out.mono B1.out.size)⟩
  clear R1 O1 HR
  go_wp2_with fail
  go_ret
  exact HF.out

theorem AddNo.post {W : World} {B g : Nat} {M : Nat → Prop} {l : List KV} {r : Int} {e : Ending} {W' : World} (h : AddNo W r e W') (hB : BdAt W B M g l) : AddPost W B M g r l e W' :=
  ⟨h.1, M, hB.upd (Upd.of_below h.2 Noth) (fun _ _ e => e), Upd.of_below h.2 M, fun _ h => .inl h⟩
/-- Add of any entry. -/
theorem badd_any {W : World} {B g : Nat} {M : Nat → Prop} {l : List KV} (h : BdAt W B M g l) (e : Ent) (ok : e.Ok W) (hk : ∀ x, e.ka = some x → 0 < e.ks.length → ¬ M x.block) (hv : ∀ x, e.va = some x → 0 < e.vs.length → ¬ M x.block) :
    Calls Tryz.prog 51 #[.pointer (some ⟨g, 0, none⟩), .agg #[e.kv, e.vv]] W (AddPost W B M g (addE l e.ks e.vs) (addL l e.ks e.vs)) := by
  have h' := h
  obtain ⟨hg, vb, vt, vl, hR, hM⟩ := h
  have hk' : ∀ x, e.ka = some x → 0 < e.ks.length → ¬ BdM g vb vt vl x.block := fun x hx h0 hm => hk x hx h0 ((hM _).2 hm)
  have hv' : ∀ x, e.va = some x → 0 < e.vs.length → ¬ BdM g vb vt vl x.block := fun x hx h0 hm => hv x hx h0 ((hM _).2 hm)
  have hn64 := hg.n64
  by_cases hc : chkE e.ks.length e.vs.length = 0
  · obtain ⟨fk1, fk2, fv⟩ := fits_key hc
    by_cases h64 : l.length = 64
    · have hE : addE l e.ks e.vs = 61 := by unfold addE; rw [if_neg (by rw [hc]; simp), if_pos h64]
      have hL : addL l e.ks e.vs = l := by unfold addL; rw [hE, if_neg (by decide)]
      rw [hE, hL]
      exact (add_64 hR e ok hk' hv' hc h64).mono fun _ _ h => h.post h'
    · by_cases hcm : cmpI (ahd l) e.ks < 0
      · have hE : addE l e.ks e.vs = 0 := by unfold addE; rw [if_neg (by rw [hc]; simp), if_neg h64, if_pos hcm]
        have hL : addL l e.ks e.vs = l ++ [(e.ks, e.vs)] := by unfold addL; rw [hE, if_pos rfl]
        rw [hE, hL]
        have hb := bod_len hg l.length (Nat.le_refl _)
        have ht := tab_len l l.length
        refine (add_yes hR e ok hk' hv' hc (by omega) hcm hg.ahd8 (by omega) (by omega) hg.ahdl).mono ?_
        rintro q W' ⟨rfl, vb', vt', vl', hR', hU, hF⟩
        refine ⟨rfl, BdM g vb' vt' vl', ⟨hg.snoc _ _ (by omega) ⟨fk1, fk2⟩ fv ok.k8 ok.v8 (fun _ => hcm), vb', vt', vl', ?_, fun _ => Iff.rfl⟩, hU.mono (fun i _ h => (hM i).2 h), fun i hi => (hF i hi).imp (fun h => (hM i).2 h) id⟩
        rw [ahd_snoc, List.length_append, List.length_singleton, bod_snoc, tab_snoc, pv_ahd]
        exact hR'
      · have hE : addE l e.ks e.vs = 51 := by unfold addE; rw [if_neg (by rw [hc]; simp), if_neg h64, if_neg hcm]
        have hL : addL l e.ks e.vs = l := by unfold addL; rw [hE, if_neg (by decide)]
        rw [hE, hL]
        exact (add_ord hR e ok hk' hv' hc (by omega) hcm hg.ahd8).mono fun _ _ h => h.post h'
  · have hE : addE l e.ks e.vs = chkE e.ks.length e.vs.length := by unfold addE; rw [if_pos hc]
    have hL : addL l e.ks e.vs = l := by unfold addL; rw [hE, if_neg hc]
    rw [hE, hL]
    exact (add_chk g W e hc).mono fun _ _ h => h.post h'

end Go.Proofs.YtepjblmjjegpgaaGreat

namespace Go.Proofs.YtepjblmjjegpgaaGreat
open Go.RowKit
set_option maxRecDepth 100000

theorem BdR.fresh (w : World) (B : Nat) (hB : B ≤ w.heap.size) : BdR (w.alloc (.cells #[.int .i64 0, .slice none 0 0, .slice none 0 0, .slice none 0 0] 135)) B w.heap.size 0 [] [] [] (.slice none 0 0) (.slice none 0 0) (.slice none 0 0) :=
  ⟨heap_alloc_new w _, World.ownsRow_nil _ _ _ _, World.ownsRow_nil _ _ _ _, World.ownsRow_nil _ _ _ _, (fun i h => by cases h), (fun i h => by cases h), (fun i h => by cases h), hB⟩
theorem bdM_nil (g i : Nat) : BdM g (.slice none 0 0) (.slice none 0 0) (.slice none 0 0) i ↔ i = g := by
  constructor
  · rintro (h | h | h | h)
    · exact h
    · cases h
    · cases h
    · cases h
  · exact fun h => .inl h

set_option maxHeartbeats 400000 in
theorem bnew_any (w : World) :
    Calls Tryz.prog 79 #[] w fun e w' => e = .returned (.pointer (some ⟨w.heap.size, 0, none⟩)) ∧ BdAt w' w.heap.size (fun i => i = w.heap.size) w.heap.size [] ∧ w' = w.alloc (.cells #[.int .i64 0, .slice none 0 0, .slice none 0 0, .slice none 0 0] 135) := by
  go_enter Tryz.func79, Tryz.ntmps79
  go_wp2
  go_ret
  exact ⟨rfl, ⟨Good.nil, _, _, _, BdR.fresh w _ (Nat.le_refl _), fun i => (bdM_nil _ i).symm⟩, rfl⟩

/-- What Bytes tells. -/
def BbPost (W : World) (B g : Nat) (M : Nat → Prop) (l : List KV) (e : Ending) (W' : World) : Prop :=
  ∃ u M', e = .returned u ∧ OwnB W' W.heap.size 5 u (blk l) ∧ BdAt W' B M' g [] ∧ (∀ i, M' i → M i) ∧ Upd (fun i => i = g) W W'

set_option maxRecDepth 100000 in
set_option maxHeartbeats 1600000 in
theorem bbytes_any {W : World} {B g : Nat} {M : Nat → Prop} {l : List KV} (h : BdAt W B M g l) :
    Calls Tryz.prog 81 #[.pointer (some ⟨g, 0, none⟩)] W (BbPost W B g M l) := by
  have h' := h
  obtain ⟨hg, vb, vt, vl, hR, hM⟩ := h
  have c0 := hR.cells.1
  by_cases h0 : l.length = 0
  · have HF : Hid (BbPost W B g M l (.returned (.slice none 0 0)) W) := by
      obtain rfl : l = [] := List.eq_nil_of_length_eq_zero h0
      exact ⟨_, M, rfl, by rw [show blk [] = [] from rfl]; exact OwnB.nil _ _ _, h', fun _ h => h, Upd.refl _ _⟩
    rw [h0] at c0
    clear hR hM hg h'
    go_enter Tryz.func81, Tryz.ntmps81
    go_wp2
    go_ret
    exact HF.out
  · have hbl : Hid (blk l = [enc l.length, bod l l.length, tab l l.length].flatten) := by show _ = _; unfold blk; rw [if_neg h0]; simp
    have hn64 := hg.n64
    have hbl1 := bod_len hg l.length (Nat.le_refl _)
    have hbl2 : (tab l l.length).length ≤ 100 := by have := tab_len l l.length; omega
    obtain ⟨ab, cb, rfl, rb, nb', _⟩ := owns_open hR.ob
    obtain ⟨at', ct, rfl, rt, nt', _⟩ := owns_open hR.ot
    have c1 := hR.cells.2.1
    have c2 := hR.cells.2.2.1
    have hfr := hR.cells.2.2.2.2
    have hgl := (hR.lt g (.inl rfl)).2
    have hne : ¬ (l.length : Int) = 0 := by omega
    have hel := (enc_len_le l.length (by omega)).2
    obtain ⟨es, hes⟩ : ∃ es, es = enc l.length := ⟨_, rfl⟩
    rw [← hes] at hbl hel
    have HVB : Hid (∀ x : Int, x = (l.length : Int) → Calls Tryz.prog 84 #[.int .u64 x] W.drew fun e w' => ∃ ad, e = .returned (.slice (some ad) es.length es.length) ∧ Row w' .u8 (some ad) es ∧ Below W.heap.size W w') := fun x hx => by
      subst hx
      refine (vbytes_any l.length W.drew (by omega)).mono ?_
      rintro e w' ⟨rfl, h1, h2⟩
      rw [← hes] at h1 ⊢
      exact ⟨_, rfl, h1, h2.os, h2.tape, h2.output, h2.size, h2.block⟩
    generalize hbs : bod l l.length = bs at *
    generalize hts : tab l l.length = ts at *
    obtain ⟨nb, hnb⟩ : ∃ k, bs.length = k := ⟨_, rfl⟩
    obtain ⟨nt, hnt⟩ : ∃ k, ts.length = k := ⟨_, rfl⟩
    rw [hnb] at c1 nb' hbl1 hR hM
    rw [hnt] at c2 nt' hbl2 hR hM
    have HCC : Hid (∀ (w2 : World) (ad : Addr), Row w2 .u8 (some ad) es → Below W.heap.size W w2 → Calls Tryz.prog 45 #[.slice (some ⟨w2.heap.size, 0, none⟩) 3 3] (w2.alloc (.cells #[.slice (some ad) es.length es.length, .slice ab nb cb, .slice at' nt ct] 23)) fun e w' => ∃ u, e = .returned u ∧ OwnB w' W.heap.size 5 u (blk l) ∧ Below W.heap.size W w' ∧ Below w2.heap.size w2 w') := fun w2 ad hr hB => by
      have hs := hB.size
      have hP := parts3 (w := w2.alloc (.cells #[.slice (some ad) es.length es.length, .slice ab nb cb, .slice at' nt ct] 23)) (b := w2.heap.size) (x := es) (y := bs) (z := ts) rfl hnb hnt (fun h => by cases h) nb' nt' (heap_alloc_new w2 _) (hr.alloc _) ((rb.below2 hB).alloc _) ((rt.below2 hB).alloc _)
      refine (concat_any w2.heap.size 0 3 3 _ _ _ rfl (by omega) hP (by simp; omega)).mono ?_
      rintro e w' ⟨u, rfl, ho, hb⟩
      refine ⟨u, rfl, ?_, (hB.alloc hs _).trans (hb.mono (by simp; omega)), ((Below.refl _ _).alloc (Nat.le_refl _) _).trans (hb.mono (by simp))⟩
      rw [hbl.out]
      exact ho.mono (by simp; omega)
    have HFIN : Hid (∀ (u : Value) (w3 w4 : World), OwnB w3 W.heap.size 5 u (blk l) → Below W.heap.size W w3 → Hid (w4 = (((w3.setCell ⟨g, 0, none⟩ (.int .i64 0)).setCell ⟨g, 1, none⟩ (.slice none 0 0)).setCell ⟨g, 2, none⟩ (.slice none 0 0)).setCell ⟨g, 3, none⟩ (.slice none 0 0)) → BbPost W B g M l (.returned u) w4) := fun u w3 w4 ho hb hw => by
      have hu3 := Upd.of_below hb (fun i => i = g)
      have hu4 : Upd (fun i => i = g) w3 w4 := by
        rw [hw.out]
        exact (((set_upd _ g 0 _).trans (set_upd _ g 1 _)).trans (set_upd _ g 2 _)).trans (set_upd _ g 3 _)
      have hb4 : w4.heap[g]? = some (.cells #[.int .i64 0, .slice none 0 0, .slice none 0 0, .slice none 0 0] 135 (0, 0)) := by
        rw [hw.out]
        exact block_setCell (block_setCell (block_setCell (block_setCell ((hb.block g hgl).trans hR.blk) 0 _) 1 _) 2 _) 3 _
      refine ⟨u, fun i => i = g, rfl, ho.upd hu4 (fun k hk e => by have := (ho.owns.lt k hk).1; omega), ⟨Good.nil, _, _, _, ⟨hb4, World.ownsRow_nil _ _ _ _, World.ownsRow_nil _ _ _ _, World.ownsRow_nil _ _ _ _, (fun i h => by cases h), (fun i h => by cases h), (fun i h => by cases h), hR.gB⟩, fun i => (bdM_nil g i).symm⟩, fun i hi => (hM i).2 (.inl hi), hu3.trans hu4⟩
    have HBL := hide hR.blk
    clear hR hM hg h' rb rt nb' nt' hbl hes hbs hts
    go_enter Tryz.func81, Tryz.ntmps81
    go_wp2_with fail
    go_region_held3 (fun w => w.cell? ⟨g, 0, none⟩ = some (.int .i64 (l.length : Int)) ∧ w.cell? ⟨g, 1, none⟩ = some (.slice ab nb cb) ∧ w.cell? ⟨g, 2, none⟩ = some (.slice at' nt ct)) (go_keep) (first
      | (go_at_call 45; refine (HCC.out w2 ad HR2.out HB2.out).mono ?_; rintro e w3 ⟨u, rfl, hou, hbu, hbv⟩; have f0 := (hbv.cell (p := ⟨g, 0, none⟩) hgl2).trans d0; have f1 := (hbv.cell (p := ⟨g, 1, none⟩) hgl2).trans d1; have f2 := (hbv.cell (p := ⟨g, 2, none⟩) hgl2).trans d2; have HOU := hide hou; have HBU := hide hbu; clear hou hbu hbv)
      | (go_at_call 84; refine (HVB.out _ (by first | rfl | (rw [IntKind.wrap_u64]; omega))).mono ?_; rintro e w2 ⟨ad, rfl, hr2, hb2⟩; have d0 := (hb2.cell (p := ⟨g, 0, none⟩) hgl).trans c0; have d1 := (hb2.cell (p := ⟨g, 1, none⟩) hgl).trans c1; have d2 := (hb2.cell (p := ⟨g, 2, none⟩) hgl).trans c2; have hgl2 : g < w2.heap.size := Nat.lt_of_lt_of_le hgl hb2.size; have HR2 := hide hr2; have HB2 := hide hb2; clear hr2 hb2)
      | fail)
    have hb3 := (HBU.out.block g hgl).trans HBL.out
    have k0 : ∀ j, w3.frozen? ⟨g, j, none⟩ = false := frozen_blk hb3
    have k1 := k0 0
    have k2 := k0 1
    have k3 := k0 2
    have k4 := k0 3
    have f3 : w3.cell? ⟨g, 3, none⟩ = some vl := by rw [cell_of_row _ _ _ _ _ _ hb3]; rfl
    have HFF := hide (fun w4 hw => HFIN.out u w3 w4 HOU.out HBU.out hw)
    have hu : ∃ a n c, u = .slice a n c := by obtain ⟨a, c, h, _⟩ := HOU.out.slice; exact ⟨a, _, c, h⟩
    obtain ⟨ua, un, uc, rfl⟩ := hu
    clear k0 hb3
    go_wp2_with fail
    go_ret
    exact HFF.out _ rfl

/-! ### Build -/
def kvs (L : List Ent) : List KV := L.map fun e => (e.ks, e.vs)
theorem kvs_len (L : List Ent) : (kvs L).length = L.length := by simp [kvs]
theorem kvs_ky (L : List Ent) (i : Nat) (h : i < L.length) : kyOf (kvs L) i = L[i].ks := by simp [kyOf, kvs, List.getD, List.getElem?_eq_getElem h]
theorem kvs_vl (L : List Ent) (i : Nat) (h : i < L.length) : vlOf (kvs L) i = L[i].vs := by simp [vlOf, kvs, List.getD, List.getElem?_eq_getElem h]
theorem kvs_take (L : List Ent) (i : Nat) (h : i < L.length) : (kvs L).take (i + 1) = (kvs L).take i ++ [(L[i].ks, L[i].vs)] := by
  rw [List.take_succ_eq_append_getElem (by rw [kvs_len]; exact h)]
  simp [kvs]
/-- Entries of which Sorted tells nothing are added one by one. -/
theorem add_ok {L : List Ent} (h64 : L.length ≤ 64) (hs : ∀ i, i < L.length → fL L i = 0) (i : Nat) (hi : i < L.length) : addE ((kvs L).take i) L[i].ks L[i].vs = 0 := by
  have htl : ((kvs L).take i).length = i := by rw [List.length_take, kvs_len]; omega
  have hc : chkE L[i].ks.length L[i].vs.length = 0 := by
    by_cases hc : chkE L[i].ks.length L[i].vs.length = 0
    · exact hc
    · have := fL_chk hi hc
      rw [hs i hi] at this
      exact absurd this.symm hc
  obtain ⟨fk1, _, _⟩ := fits_key hc
  unfold addE
  rw [if_neg (by rw [hc]; simp), htl, if_neg (by omega), if_pos ?_]
  by_cases h0 : i = 0
  · subst h0
    rw [List.take_zero, ahd_nil]
    cases hks : L[0].ks with
    | nil => rw [hks] at fk1; simp at fk1
    | cons x y => rw [cmpI_nil_cons]; decide
  · have hf := fL_succ hi (by omega) hc
    rw [hs i hi] at hf
    have e : ahd ((kvs L).take i) = (L[i - 1]'(by omega)).ks := by
      have hlt : i - 1 < i := by omega
      unfold ahd
      rw [htl, ← kvs_ky L (i - 1) (by omega)]
      unfold kyOf
      simp [List.getD, hlt]
    rw [e]
    by_cases hlt : cmpI (L[i - 1]'(by omega)).ks L[i].ks < 0
    · exact hlt
    · rw [if_neg hlt] at hf; simp at hf
theorem good_kvs {L : List Ent} {W : World} {b o : Nat} (hE : Ens W b o L) (h64 : L.length ≤ 64) (hs : ∀ i, i < L.length → fL L i = 0) : ∀ i, i ≤ L.length → Good ((kvs L).take i)
  | 0, _ => by rw [List.take_zero]; exact Good.nil
  | i + 1, hi => by
    have ih := good_kvs hE h64 hs i (by omega)
    have htl : ((kvs L).take i).length = i := by rw [List.length_take, kvs_len]; omega
    have hadd := add_ok h64 hs i (by omega)
    unfold addE at hadd
    by_cases hc : chkE L[i].ks.length L[i].vs.length = 0
    · rw [if_neg (by rw [hc]; simp), htl, if_neg (by omega)] at hadd
      obtain ⟨f1, f2, f3⟩ := fits_key hc
      rw [kvs_take L i (by omega)]
      refine ih.snoc _ _ (by omega) ⟨f1, f2⟩ f3 (hE.ok i (by omega)).k8 (hE.ok i (by omega)).v8 (fun _ => ?_)
      by_cases hlt : cmpI (ahd ((kvs L).take i)) L[i].ks < 0
      · exact hlt
      · rw [if_neg hlt] at hadd; simp at hadd
    · rw [if_pos hc] at hadd; exact absurd hadd hc

/-- What Build tells: a list, an error, a number. -/
def bldE (L : List Ent) (n : Nat) (r : Int) : Prop := if L.length < 1 ∨ 64 < L.length then r = 61 ∧ n = 0 else Srt (fL L) L.length n r
def bldL (L : List Ent) (r : Int) : List Int := if r = 0 then blk (kvs L) else []
theorem bldE.one {L : List Ent} {n n' : Nat} {r r' : Int} (h : bldE L n r) (h' : bldE L n' r') : n = n' ∧ r = r' := by
  unfold bldE at h h'
  split at h
  · rename_i hc
    rw [if_pos hc] at h'
    exact ⟨h.2.trans h'.2.symm, h.1.trans h'.1.symm⟩
  · rename_i hc
    rw [if_neg hc] at h'
    exact h.one h'
theorem bldE.good {L : List Ent} {W : World} {b o n : Nat} (hE : Ens W b o L) (h : bldE L n 0) : Good (kvs L) ∧ 0 < (kvs L).length ∧ n = 0 := by
  unfold bldE at h
  split at h
  · exact absurd h.1 (by decide)
  · rename_i hc
    rcases h with ⟨h1, h2, _⟩ | ⟨h1, h2, h3, _⟩
    · have := good_kvs hE (by omega) h1 L.length (Nat.le_refl _)
      rw [List.take_of_length_le (by rw [kvs_len]; exact Nat.le_refl _)] at this
      exact ⟨this, by rw [kvs_len]; omega, h2⟩
    · exact absurd h3.symm h2
def BuPost (w : World) (L : List Ent) (e : Ending) (w' : World) : Prop :=
  ∃ u n r, e = .returned (.tuple #[u, .int .i64 r, .int .i64 (n : Nat)]) ∧ bldE L n r ∧ OwnB w' w.heap.size 5 u (bldL L r) ∧ Below w.heap.size w w'

end Go.Proofs.YtepjblmjjegpgaaGreat

namespace Go.Proofs.YtepjblmjjegpgaaGreat
open Go.RowKit
set_option maxRecDepth 100000

set_option maxHeartbeats 400000 in
theorem blen_any {W : World} {B g : Nat} {M : Nat → Prop} {l : List KV} (h : BdAt W B M g l) :
    Calls Tryz.prog 52 #[.pointer (some ⟨g, 0, none⟩)] W fun e w' => e = .returned (.int .i64 (l.length : Int)) ∧ w' = W := by
  obtain ⟨hg, vb, vt, vl, hR, hM⟩ := h
  have c0 := hR.cells.1
  go_enter Tryz.func52, Tryz.ntmps52
  go_wp2_with fail
  go_ret
  exact ⟨rfl, rfl⟩

theorem blk_length {l : List KV} (h : Good l) (h0 : 0 < l.length) : (blk l).length = 1 + (bod l l.length).length + (tab l l.length).length := by
  rw [blk_some h h0]
  simp
  omega
set_option maxHeartbeats 400000 in
theorem blast_any {W : World} {B g : Nat} {M : Nat → Prop} {l : List KV} (h : BdAt W B M g l) :
    Calls Tryz.prog 80 #[.pointer (some ⟨g, 0, none⟩)] W fun e w' => ∃ v, e = .returned v ∧ OwnB w' W.heap.size 5 v (ahd l) ∧ Below W.heap.size W w' := by
  obtain ⟨hg, vb, vt, vl, hR, hM⟩ := h
  obtain ⟨a3, c3, rfl, hr3, hn3, _⟩ := owns_open hR.ol
  have q3 := hR.cells.2.2.2.1
  have h64 := hg.ahdl
  have HC := hide (bclone_any a3 (ahd l).length c3 (ahd l) W rfl (by omega) hn3 hr3)
  clear hR hM hr3 hn3
  go_enter Tryz.func80, Tryz.ntmps80
  go_wp2_with fail
  refine HC.out.mono ?_
  rintro e w1 ⟨v, rfl, ho, hb⟩
  go_wp2_with fail
  go_ret
  exact ⟨v, rfl, ho, hb⟩

end Go.Proofs.YtepjblmjjegpgaaGreat

namespace Go.Proofs.YtepjblmjjegpgaaGreat
open Go.RowKit
set_option maxRecDepth 100000

/-- Behind which key the entry i is written. -/
theorem rprev_any (a : Option Addr) (b o l c i : Nat) (L : List Ent) (w : World) (hl : L.length = l) (hm : l ≤ 140737488351232) (ha : 0 < l → a = some ⟨b, o, none⟩) (hE : Ens w b o L) (hi : i ≤ l) :
    ∃ pa pc, Row w .u8 pa (pvOf (kvs L) i) ∧ (pa = none → (pvOf (kvs L) i).length = 0 ∧ pc = 0) ∧ (pvOf (kvs L) i).length ≤ pc ∧ (∀ x, pa = some x → i % 8 ≠ 0) ∧
      ∀ W, Below w.heap.size w W → Calls Tryz.prog 125 #[.slice a l c, .int .i64 (i : Int)] W fun e w' => e = .returned (.slice pa (pvOf (kvs L) i).length pc) ∧ w' = W := by
  have h8 : ((i : Int) % 8 == 0) = decide (i % 8 = 0) := by
    by_cases h : i % 8 = 0
    · rw [decide_eq_true h]; simp; omega
    · rw [decide_eq_false h]; simp; omega
  by_cases h : i % 8 = 0
  · have hp : pvOf (kvs L) i = [] := by unfold pvOf; rw [if_pos h]
    rw [hp]
    refine ⟨none, 0, row_nil _ _ _, fun _ => ⟨rfl, rfl⟩, Nat.le_refl _, (fun x h => by cases h), fun W _ => ?_⟩
    rw [decide_eq_true h] at h8
    have h9 : (i : Int) % 8 = 0 := by omega
    clear hE ha
    go_enter Tryz.func125, Tryz.ntmps125
    go_wp2
    go_ret
    exact ⟨rfl, rfl⟩
  · have hlt : i - 1 < L.length := by omega
    have hp : pvOf (kvs L) i = (L[i - 1]'hlt).ks := by unfold pvOf; rw [if_neg h, kvs_ky L _ hlt]
    rw [hp]
    have ok := hE.ok (i - 1) hlt
    refine ⟨(L[i - 1]'hlt).ka, (L[i - 1]'hlt).kc, ok.k, ok.nk, ok.lk, fun _ _ => h, fun W hB => ?_⟩
    rw [decide_eq_false h] at h8
    have h9 : ¬ (i : Int) % 8 = 0 := by omega
    have c0 := (hE.below hB).at0 (i - 1) hlt
    unfold Ent.kv at c0
    obtain rfl := ha (by omega)
    obtain ⟨j, rfl⟩ : ∃ j, i = j + 1 := ⟨i - 1, by omega⟩
    simp only [Nat.add_sub_cancel] at c0 ⊢
    have hw2 : IntKind.i64.wrap (((j + 1 : Nat) : Int) - 1) = (j : Int) := by rw [IntKind.wrap_i64]; omega
    have hw1 : IntKind.i64.wrap ((j : Int) + 1 - 1) = (j : Int) := by rw [IntKind.wrap_i64]; omega
    have hw3 : IntKind.i64.wrap (j : Int) = (j : Int) := by rw [IntKind.wrap_i64]; omega
    have i1 : (j : Int) < (l : Int) := by omega
    have i2 : (0 : Int) ≤ (j : Int) := by omega
    generalize (L[j]'hlt).ka = ka at *
    generalize (L[j]'hlt).ks.length = kl at *
    generalize (L[j]'hlt).kc = kc at *
    clear hE ha hp ok h
    go_enter Tryz.func125, Tryz.ntmps125
    go_wp2
    go_ret
    exact ⟨rfl, rfl⟩

def RBPost (w : World) (L : List Ent) (e : Ending) (w' : World) : Prop :=
  ∃ a c n r, e = .returned (.tuple #[.slice a (bldL L r).length c, .int .i64 r, .int .i64 (n : Nat)]) ∧ bldE L n r ∧ Row w' .u8 a (bldL L r) ∧ (a = none → (bldL L r).length = 0 ∧ c = 0) ∧ (∀ x, a = some x → w.heap.size ≤ x.block) ∧ Below w.heap.size w w'
theorem pv_take (L : List Ent) (k : Nat) (h : k < L.length) : bod (kvs L) (k + 1) = bod (kvs L) k ++ encP (pvOf (kvs L) k) L[k].ks L[k].vs := by
  rw [bod, kvs_ky L k h, kvs_vl L k h]

/-- Two rows of one's own, apart. -/
structure Two (W : World) (N : Nat) (v1 v2 : Value) (z1 z2 : List Int) : Prop where
  o1 : W.ownsRow N 5 1 v1 z1.length (z1.map (Value.int .u8))
  o2 : W.ownsRow N 5 1 v2 z2.length (z2.map (Value.int .u8))
  d : ∀ i, v1.ownBlock = some i → v2.ownBlock ≠ some i
theorem Two.below {W W' : World} {N : Nat} {v1 v2 : Value} {z1 z2 : List Int} (h : Two W N v1 v2 z1 z2) (hb : Below W.heap.size W W') : Two W' N v1 v2 z1 z2 :=
  ⟨owns_below h.o1 hb, owns_below h.o2 hb, h.d⟩
theorem Two.set1 {W W' : World} {N : Nat} {v1 v2 v : Value} {z1 z2 z : List Int} (h : Two W N v1 v2 z1 z2) (ho : W'.ownsRow N 5 1 v z.length (z.map (Value.int .u8))) (hg : W.grownBy W' v1.ownBlock) (hk : ∀ k, v.ownBlock = some k → v1.ownBlock = some k ∨ W.heap.size ≤ k) : Two W' N v v2 z z2 :=
  ⟨ho, owns_upd h.o2 (Upd.of_grown (S := fun i => v1.ownBlock = some i) hg (fun k hk _ => hk)) (fun i hi e => h.d i e hi), fun i hi e => (hk i hi).elim (fun h1 => h.d i h1 e) (fun h1 => by have := (h.o2.lt i e).2; omega)⟩
theorem Two.set2 {W W' : World} {N : Nat} {v1 v2 v : Value} {z1 z2 z : List Int} (h : Two W N v1 v2 z1 z2) (ho : W'.ownsRow N 5 1 v z.length (z.map (Value.int .u8))) (hg : W.grownBy W' v2.ownBlock) (hk : ∀ k, v.ownBlock = some k → v2.ownBlock = some k ∨ W.heap.size ≤ k) : Two W' N v1 v z1 z :=
  ⟨owns_upd h.o1 (Upd.of_grown (S := fun i => v2.ownBlock = some i) hg (fun k hk _ => hk)) (fun i hi e => h.d i hi e), ho, fun i hi e => (hk i e).elim (fun h1 => h.d i hi h1) (fun h1 => by have := (h.o1.lt i hi).2; omega)⟩
theorem below_grown {N : Nat} {w W W' : World} {v : Value} {z : List Value} {n : Nat} (hb : Below N w W) (hN : N ≤ w.heap.size) (hg : W.grownBy W' v.ownBlock) (ho : W.ownsRow N 5 1 v n z) : Below N w W' :=
  hb.grown hg (Nat.le_trans hN hb.size) (fun k h => (ho.lt k h).1)

set_option maxRecDepth 100000 in
set_option maxHeartbeats 3200000 in
theorem rbuild_any (a : Option Addr) (b o l c : Nat) (L : List Ent) (w : World) (hl : L.length = l) (hm : l ≤ 140737488351232) (ha : 0 < l → a = some ⟨b, o, none⟩) (hE : Ens w b o L) :
    Calls Tryz.prog 96 #[.slice a l c] w (RBPost w L) := by
  obtain ⟨i0, hi0, hz0, hz1, hz2⟩ := info_parts infoByte'
  by_cases hc : l < 1 ∨ 64 < l
  · have HF : Hid (RBPost w L (.returned (.tuple #[.slice none 0 0, .int .i64 61, .int .i64 0])) w) := ⟨none, 0, 0, 61, rfl, by unfold bldE; rw [if_pos (by omega)]; exact ⟨rfl, rfl⟩, by unfold bldL; rw [if_neg (by decide)]; exact row_nil _ _ _, fun _ => ⟨rfl, rfl⟩, (fun x h => by cases h), Below.refl _ _⟩
    clear hE ha
    rcases hc with h1 | h1
    · have h2 : (l : Int) < 1 := by omega
      go_enter Tryz.func96, Tryz.ntmps96
      go_wp2_with fail
      go_ret3
      exact HF.out
    · have h2 : ¬ (l : Int) < 1 := by omega
      have h3 : (64 : Int) < (l : Int) := by omega
      go_enter Tryz.func96, Tryz.ntmps96
      go_wp2_with fail
      go_ret3
      exact HF.out
  · have h2 : ¬ (l : Int) < 1 := by omega
    have h3 : ¬ (64 : Int) < (l : Int) := by omega
    obtain rfl := ha (by omega)
    have HS := hide (rsorted_any (some ⟨b, o, none⟩) b o l c L w hl hm (fun _ => rfl) hE)
    have HE := hide hE
    have HBE : Hid (∀ n r, Srt (fL L) l n r → bldE L n r) := fun n r h => by unfold bldE; rw [if_neg (by omega), hl]; exact h
    clear hE ha
    go_enter Tryz.func96, Tryz.ntmps96
    go_wp2_with fail
    refine HS.out.mono ?_
    rintro e w1 ⟨n, r, rfl, hsr, hb1⟩
    have B1 := hide hb1
    by_cases hr : r = 0
    · subst hr
      have hsr' : (∀ i, i < l → fL L i = 0) ∧ n = 0 := by
        rcases hsr with ⟨h1, h2, _⟩ | ⟨h1, h2, h3, _⟩
        · exact ⟨h1, h2⟩
        · exact absurd h3.symm h2
      obtain ⟨hall, rfl⟩ := hsr'
      have HB0 := hide (HBE.out 0 0 hsr)
      have HG := hide (bldE.good HE.out HB0.out)
      have hgl := hide (kvs_len L)
      have HN := hide (rnum_any l w1 (by omega))
      have hel := (enc_len_le l (by omega)).2
      have hBK : Hid (bldL L 0 = enc l ++ bod (kvs L) l ++ tab (kvs L) l) := by show _ = _; unfold bldL blk; rw [if_pos rfl, kvs_len, hl, if_neg (by omega)]
      clear hsr hb1 hall
      go_wp2_with fail
      refine HN.out.mono ?_
      rintro e w2 ⟨v2, rfl, ho2, hb2⟩
      have hw2 : Hid (Below w.heap.size w w2) := B1.out.trans (hb2.mono B1.out.size)
      have hov : w2.ownsRow w.heap.size 5 1 v2 (enc l).length ((enc l).map (Value.int .u8)) := owns_mono ho2.owns B1.out.size
      obtain ⟨a2, c2, rfl, _⟩ := ho2.slice
      have H0 : Hid (Two w2 w.heap.size (.slice a2 (enc l).length c2) (.slice none 0 0) (enc l ++ bod (kvs L) 0) (tab (kvs L) 0)) := ⟨by rw [bod, List.append_nil]; exact hov, World.ownsRow_nil _ _ _ _, fun i _ e => by cases e⟩
      clear ho2 hb2 hov HN
      go_wp2_with fail
      go_loopw [7, 8, 9] (fun q7 q8 q9 wr => ∃ (k n7 n8 : Nat) (a7 : Option Addr) (c7 : Nat) (a8 : Option Addr) (c8 : Nat), k ≤ l ∧ q7 = .slice a7 n7 c7 ∧ q8 = .slice a8 n8 c8 ∧ q9 = .int .i64 (k : Int) ∧ Hid ((enc l ++ bod (kvs L) k).length = n7) ∧ Hid ((tab (kvs L) k).length = n8) ∧ Hid (Two wr w.heap.size (.slice a7 n7 c7) (.slice a8 n8 c8) (enc l ++ bod (kvs L) k) (tab (kvs L) k)) ∧ Hid (Below w.heap.size w wr)) (fun _ _ q _ => l - (intOf q).toNat)
      case atStart => exact ⟨0, _, 0, a2, c2, none, 0, by omega, rfl, rfl, rfl, by show _ = _; rw [bod, List.append_nil], rfl, H0, hw2⟩
      case round =>
        clear H0
        obtain ⟨k, n7, n8, a7, c7, a8, c8, hk, rfl, rfl, rfl, L7, L8, HT, HB⟩ := hrel
        have hn7 : n7 ≤ 30000 := by
          have := bod_len HG.out.1 k (by rw [kvs_len]; omega)
          have := L7.out
          rw [List.length_append] at this
          omega
        have hn8 : n8 ≤ 100 := by have := L8.out; rw [tab_len] at this; omega
        by_cases hlt : k < l
        · have hkL : k < L.length := by omega
          have i1 : (k : Int) < (l : Int) := by omega
          have h8 : ((k : Int) % 8 == 0) = decide (k % 8 = 0) := by
            by_cases h : k % 8 = 0
            · rw [decide_eq_true h]; simp; omega
            · rw [decide_eq_false h]; simp; omega
          obtain ⟨b8, hb8⟩ : ∃ b8, b8 = ((k : Int) % 8 == 0) := ⟨_, rfl⟩
          have HB8 := hide (hb8.trans h8)
          have HTAB : Hid (tab (kvs L) (k + 1) = if k % 8 = 0 then tab (kvs L) k ++ sp2 n7 else tab (kvs L) k) := by
            show _ = _
            rw [tab]
            have := L7.out
            rw [List.length_append, enc_small l (by omega), List.length_singleton] at this
            rw [this]
          obtain ⟨n9, hn9⟩ : ∃ n9, (tab (kvs L) (k + 1)).length = n9 := ⟨_, rfl⟩
          have L9 := hide hn9
          clear hn9 h8
          have e1 : IntKind.u8.wrap ((n7 : Int) % 256) = ((n7 % 256 : Nat) : Int) := by rw [IntKind.wrap_u8]; omega
          have e2 : IntKind.u8.wrap ((n7 : Int) / 256) = ((n7 / 256 % 256 : Nat) : Int) := by rw [IntKind.wrap_u8]; omega
          go_upto_if 39 with fail
          rw [← hb8]
          replace hb8 := hide hb8
          go_cut [8] (fun s8 wx => ∃ (a9 : Option Addr) (c9 : Nat), s8 = .slice a9 n9 c9 ∧ Hid (Two wx w.heap.size (.slice a7 n7 c7) (.slice a9 n9 c9) (enc l ++ bod (kvs L) k) (tab (kvs L) (k + 1))) ∧ Hid (Below w.heap.size w wx))
          case first =>
            by_cases hk8 : k % 8 = 0
            · obtain rfl : b8 = true := by rw [HB8.out, decide_eq_true hk8]
              have hb1 : Below wr.heap.size wr (wr.alloc (.cells #[.int .u8 ((n7 % 256 : Nat) : Int), .int .u8 ((n7 / 256 % 256 : Nat) : Int)] 5)) := (Below.refl _ _).alloc (Nat.le_refl _) _
              have HT1 := hide (HT.out.below hb1)
              have HB1 := hide (HB.out.trans (hb1.mono HB.out.size))
              have HR1 := hide (two_row wr ((n7 % 256 : Nat) : Int) ((n7 / 256 % 256 : Nat) : Int) 5)
              have hbz : Hid (w.heap.size ≤ (wr.alloc (.cells #[.int .u8 ((n7 % 256 : Nat) : Int), .int .u8 ((n7 / 256 % 256 : Nat) : Int)] 5)).heap.size) := HB1.out.size
              have ht9 : Hid (tab (kvs L) k ++ [((n7 % 256 : Nat) : Int), ((n7 / 256 % 256 : Nat) : Int)] = tab (kvs L) (k + 1)) := by show _ = _; rw [HTAB.out, if_pos hk8]; rfl
              clear hb1
              go_wp2_with (first
                | (at_builtin; refine app_list rfl (.tmp 40) (.tmp 49) 23 rfl w.heap.size 5 i0 Tryz.underlying23 hi0 hz0 hz1 hz2 (.slice a8 n8 c8) (tab (kvs L) k) rfl HT1.out.o2 (some ⟨wr.heap.size, 0, none⟩) 2 2 [((n7 % 256 : Nat) : Int), ((n7 / 256 % 256 : Nat) : Int)] rfl rfl (by intro h; cases h) HR1.out (by rw [L8.out]; omega) hbz.out ?_; intro v3 w3 ho3 hg3 hk3; rw [ht9.out] at ho3; have HT3 := hide (HT1.out.set2 ho3 hg3 hk3); have HB3 := hide (below_grown HB1.out (Nat.le_refl _) hg3 HT1.out.o2); obtain ⟨a9, c9, rfl, _⟩ := owns_openN ho3 L9.out; clear ho3 hg3 hk3)
                | fail)
              go_meet
              exact ⟨a9, c9, rfl, HT3, HB3⟩
            · obtain rfl : b8 = false := by rw [HB8.out, decide_eq_false hk8]
              have ht9 : tab (kvs L) (k + 1) = tab (kvs L) k := by rw [HTAB.out, if_neg hk8]
              obtain rfl : n9 = n8 := by rw [← L9.out, ← L8.out, ht9]
              go_wp2_with fail
              go_meet
              exact ⟨a8, c8, rfl, by rw [ht9]; exact HT, HB⟩
          case rest =>
            obtain ⟨a9, c9, rfl, HT9, HB9⟩ := hcut
            clear HT HB HTAB
            have hen := HE.out.below HB9.out
            have c0 := hen.at0 k hkL
            have c1 := hen.at1 k hkL
            have ok := hide (hen.ok k hkL)
            unfold Ent.kv at c0
            unfold Ent.vv at c1
            have hbr : b < wc.heap.size := hen.lt (by omega)
            have hbw : b < w.heap.size := HE.out.lt (by omega)
            obtain ⟨pa, pc, hpr, hpn, hpl, _, HPV⟩ := rprev_any (some ⟨b, o, none⟩) b o l c k L wc hl hm (fun _ => rfl) hen (by omega)
            have HPV1 := hide (HPV wc.drew ((Below.refl _ _).drew))
            have HBO := hide (pv_take L k hkL)
            have hpv64 := HG.out.1.pvl k (by rw [kvs_len]; omega)
            have hks := HG.out.1.k1 k (by rw [kvs_len]; omega)
            have hvs := HG.out.1.v1 k (by rw [kvs_len]; omega)
            rw [kvs_ky L k hkL] at hks
            rw [kvs_vl L k hkL] at hvs
            clear hen HPV
            obtain ⟨en, hen⟩ : ∃ en, en = L[k] := ⟨_, rfl⟩
            rw [← hen] at c0 c1 ok HBO hks hvs
            have hkv := (HE.out).at0 k hkL
            have hvv := (HE.out).at1 k hkL
            rw [← hen] at hkv hvv
            unfold Ent.kv at hkv
            unfold Ent.vv at hvv
            have HKV := hide hkv
            have HVV := hide hvv
            clear hen hkv hvv
            obtain ⟨px, hpx⟩ : ∃ px, px = pvOf (kvs L) k := ⟨_, rfl⟩
            rw [← hpx] at hpr hpn hpl HPV1 HBO hpv64
            obtain ⟨np, hnp⟩ : ∃ np, px.length = np := ⟨_, rfl⟩
            rw [hnp] at hpn hpl HPV1 hpv64
            have HRB : Hid (Calls Tryz.prog 124 #[.slice pa np pc, .agg #[.slice en.ka en.ks.length en.kc, .slice en.va en.vs.length en.vc]] wc.drew fun e w' => ∃ a6 c6 n6, e = .returned (.slice a6 n6 c6) ∧ (encP px en.ks en.vs).length = n6 ∧ Row w' .u8 a6 (encP px en.ks en.vs) ∧ (a6 = none → n6 = 0 ∧ c6 = 0) ∧ Below wc.heap.size wc w') := by
              refine (rbytes_any pa en.ka en.va np pc en.ks.length en.kc en.vs.length en.vc px en.ks en.vs wc.drew hnp rfl rfl (by omega) (by omega) (by omega) ok.out.lk ok.out.nv ok.out.nk (show Row wc .u8 _ _ from hpr) (show Row wc .u8 _ _ from ok.out.k) (show Row wc .u8 _ _ from ok.out.v)).mono ?_
              rintro e w6 ⟨u, rfl, ho, hb⟩
              rw [encE_P] at ho
              obtain ⟨a6, c6, rfl, hr6, hn6, _⟩ := ho.slice
              exact ⟨a6, c6, _, rfl, rfl, hr6, hn6, hb.os, hb.tape, hb.output, hb.size, hb.block⟩
            have hepl := encP_len px en.ks en.vs hks.2 hvs
            obtain ⟨n10, hn10⟩ : ∃ n10, (enc l ++ bod (kvs L) (k + 1)).length = n10 := ⟨_, rfl⟩
            have L10 := hide hn10
            have HBO2 : Hid (enc l ++ bod (kvs L) k ++ encP px en.ks en.vs = enc l ++ bod (kvs L) (k + 1)) := by show _ = _; rw [HBO.out, List.append_assoc]
            have hn7' : Hid ((enc l ++ bod (kvs L) k).length = n7) := L7
            clear hn10 hpr hpn hpl hpx hnp hks hvs HBO
            have hwN : w.heap.size ≤ wc.heap.size := HB9.out.size
            go_wp2_with fail
            go_region_held3 (fun W => W.cell? ⟨b, o + k * 2, none⟩ = some (.slice en.ka en.ks.length en.kc) ∧ W.cell? ⟨b, o + k * 2 + 1, none⟩ = some (.slice en.va en.vs.length en.vc)) (go_keep) (first
              | (refine step_app rfl (.tmp 51) (.tmp 59) 23 rfl w.heap.size 5 i0 Tryz.underlying23 hi0 hz0 hz1 hz2 (.slice a7 n7 c7) (enc l ++ bod (kvs L) k) (by simp [Act.eval]) HT6.out.o1 a6 n6 c6 (encP px en.ks en.vs) (by simp [Act.eval]) H6L.out H6N.out H6R.out (by rw [L7.out, ← H6L.out]; omega) HZ6.out ?_; intro v7 w7 hv7 hg7 hk7; rw [HBO2.out] at hv7; have HT7 := hide (HT6.out.set1 hv7 hg7 hk7); have HB7 := hide (below_grown HB6.out (Nat.le_refl _) hg7 HT6.out.o1); have g0 := (HB7.out.cell (p := ⟨b, o + k * 2, none⟩) hbw).trans HKV.out; have g1 := (HB7.out.cell (p := ⟨b, o + k * 2 + 1, none⟩) hbw).trans HVV.out; obtain ⟨a10, c10, rfl, _⟩ := owns_openN hv7 L10.out; clear hv7 hg7 hk7)
              | (go_at_call 124; refine HRB.out.mono ?_; rintro e w6 ⟨a6, c6, n6, rfl, h6l, h6r, h6n, h6b⟩; have HT6 := hide (HT9.out.below h6b); have HB6 := hide (HB9.out.trans (h6b.mono hwN)); have f0 := (h6b.cell (p := ⟨b, o + k * 2, none⟩) hbr).trans c0; have f1 := (h6b.cell (p := ⟨b, o + k * 2 + 1, none⟩) hbr).trans c1; have H6L := hide h6l; have H6R := hide h6r; have H6N := hide h6n; have HZ6 := hide (Nat.le_trans hwN h6b.size); clear h6l h6r h6n h6b)
              | (go_at_call 125; refine keep HPV1.out ?_)
              | fail)
            all_goals
              go_wp2_with fail
              go_roundw
              case rel => exact ⟨k + 1, n10, n9, a10, c10, a9, c9, by omega, rfl, rfl, by go_num, L10, L9, HT7, HB7⟩
              case measure => simp [intOf]; omega
        · obtain rfl : k = l := by omega
          have i1 : ¬ (k : Int) < (k : Int) := by omega
          have HR8 : Hid (Row wr .u8 a8 (tab (kvs L) k)) := row_of_owns2 (n := n8) (by have := HT.out.o2; rw [L8.out] at this; exact this)
          have HN8 : Hid (a8 = none → n8 = 0 ∧ c8 = 0) := by
            obtain ⟨a', c', h1, h2, _⟩ := owns_openN HT.out.o2 L8.out
            cases h1
            exact h2
          obtain ⟨nz, hnz⟩ : ∃ nz, (bldL L 0).length = nz := ⟨_, rfl⟩
          have LZ := hide hnz
          have hbz : Hid (w.heap.size ≤ wr.heap.size) := HB.out.size
          clear hnz
          go_wp2_with (first
            | (at_builtin; refine app_list rfl (.tmp 61) (.tmp 62) 23 rfl w.heap.size 5 i0 Tryz.underlying23 hi0 hz0 hz1 hz2 (.slice a7 n7 c7) (enc k ++ bod (kvs L) k) rfl HT.out.o1 a8 n8 c8 (tab (kvs L) k) rfl L8.out HN8.out HR8.out (by rw [L7.out]; omega) hbz.out ?_; intro v3 w3 ho3 hg3 hk3; rw [← hBK.out] at ho3; have HB3 := hide (below_grown HB.out (Nat.le_refl _) hg3 HT.out.o1); have HO3 := hide ho3; obtain ⟨a9, c9, rfl, _⟩ := owns_openN ho3 LZ.out; clear ho3 hg3 hk3)
            | fail)
          have HF : Hid (RBPost w L (.returned (.tuple #[.slice a9 nz c9, .int .i64 0, .int .i64 0])) w3) := by
            obtain ⟨a', c', h1, h2, h3, _⟩ := owns_open HO3.out
            rw [LZ.out] at h1
            cases h1
            exact ⟨a9, c9, 0, 0, by rw [LZ.out]; rfl, HB0.out, h2, h3, (fun x hx => by subst hx; exact (HO3.out.lt x.block rfl).1), HB3.out⟩
          go_wp2_with fail
          go_ret3
          exact HF.out
    · have hne : (r != 0) = true := by simp [hr]
      have HF : Hid (RBPost w L (.returned (.tuple #[.slice none 0 0, .int .i64 r, .int .i64 (n : Int)])) w1) := ⟨none, 0, n, r, by unfold bldL; rw [if_neg hr]; rfl, HBE.out n r hsr, by unfold bldL; rw [if_neg hr]; exact row_nil _ _ _, fun _ => by unfold bldL; rw [if_neg hr]; exact ⟨rfl, rfl⟩, (fun x h => by cases h), hb1⟩
      clear hsr hb1
      go_wp2_with fail
      go_ret3
      exact HF.out

end Go.Proofs.YtepjblmjjegpgaaGreat
