/- FootTrips: the walk. -/
import Derived.Test.YtlachimmfjagbaaFWrites
import Derived.Test.YtlachimmfjagbaaFRead
import Derived.Test.YtlachimmfjagbaaFTripP
import Derived.Test.YtlachimmfjagbaaKSlice
import Derived.Deep.DeepAppendWide
import Derived.Deep.CutBlock
import Derived.Deep.DeepCutAuto
namespace Go.Proofs.Ytlachimmfjagbaa
open Go.RowKit

/-- append onto a row of one's own, of great texts too. -/
theorem app_wideF {P : Program} {ops : Array Oper} {o : Oper} {rest : List Oper} {a : Act} {w : World} {Q : Exit → Act → World → Prop} (hgd : o.guard = none) (s x : Operand) (t : TypeId)
    (ho : o.op = .call { callee := .builtin .append, args := #[s, x], argTypes := #[t, t] })
    (base : Nat) (e : TypeId) (i : TypeInfo) (ht : P.underlying t = some (.slice e)) (hi : P.info? e = some i) (hz : i.zero = some (.int .u8 0)) (hsize : i.size = 1) (hby : i.bytes = 1)
    (v : Value) (zs : List Int) (hs : a.eval s = v) (hown : w.ownsRow base e 1 v zs.length (zs.map (Value.int .u8)))
    (ao : Option Addr) (m c : Nat) (ys : List Int) (hx : a.eval x = .slice ao m c) (hl : ys.length = m) (hnone : ao = none → m = 0 ∧ c = 0) (hrow : Row w .u8 ao ys)
    (hbytes : zs.length + m ≤ 140739000000000) (hbase : base ≤ w.heap.size)
    (h : ∀ v' w', w'.ownsRow base e 1 v' (zs ++ ys).length ((zs ++ ys).map (Value.int .u8)) → w.grownBy w' v.ownBlock → wpList P ops Q rest (a.put o.dst v') w') : wpList P ops Q (o :: rest) a w := by
  cases ao with
  | none =>
    obtain ⟨rfl, rfl⟩ := hnone rfl
    have hzl : zs.length ≤ 140739000000000 := by omega
    obtain rfl : ys = [] := List.eq_nil_of_length_eq_zero hl
    rw [List.append_nil] at h
    refine Lib.wpList_append_run w hgd s x t t ho v (.slice none 0 0) hs hx v w (run_append_owned_none w base t o.type e i 1 ht hi v _ _ hown) (h v w hown (grownBy_refl _ _))
  | some ad =>
    refine wpList_append_own_wide w hgd s x t ho base e i (.int .u8 0) 1 1 ht hi hz hsize hby rfl (by decide) v zs.length (zs.map (Value.int .u8)) hs hown ad m c (ys.map (Value.int .u8)) hx (by rw [List.length_map, Nat.mul_one]; exact hl) (hrow.cells ad rfl) (fun u hu => by obtain ⟨y, rfl⟩ := bytes_map ys u hu; rfl) (by unfold maxLen; omega) (by omega) hbase ?_
    intro v' w' h1 h2 _
    refine h v' w' ?_ h2
    rw [List.length_append, hl, List.map_append]
    exact h1


theorem owns_openF {W : World} {B n : Nat} {e : TypeId} {v : Value} {zs : List Int} (h : W.ownsRow B e 1 v zs.length (zs.map (Value.int .u8))) (hn : zs.length = n) : ∃ a c, v = .slice a n c ∧ (a = none → n = 0 ∧ c = 0) ∧ n ≤ c ∧ Row W .u8 a zs := by
  subst hn
  rcases h.2 with ⟨hv, h0⟩ | ⟨g, cap, cur, hv, hb, hh, h1, _⟩
  · exact ⟨none, 0, by rw [hv, h0], fun _ => ⟨h0, rfl⟩, by omega, by rw [List.eq_nil_of_length_eq_zero h0]; exact row_nil _ _ _⟩
  · exact ⟨some ⟨g, 0, none⟩, cap, hv, (fun e => by cases e), h1, row_of_owns2 (by rw [← hv]; exact h)⟩
theorem nine_madeT (w : World) : OwnB (w.alloc (.cells #[] 5)) w.heap.size 5 (.slice (some ⟨w.heap.size, 0, none⟩) 0 0) [] :=
  OwnB.made (w := w) (base := w.heap.size) (e := 5) #[] 0 (Nat.le_refl _) (by unfold maxLen; omega) rfl (fun u hu => by simp at hu)
theorem B8.app {a b : List Int} (ha : B8 a) (hb : B8 b) : B8 (a ++ b) := fun u hu => (List.mem_append.1 hu).elim (ha u) (hb u)
theorem fmid_b8 {l : List FRow} {i : Nat} (h : Gd l (i + 1)) (hi : i < 8388608) : ∀ k, B8 (fmid (l.getD i default) k)
  | 0 => fun u hu => by simp [fmid] at hu
  | k + 1 => (fmid_b8 h hi k).app (enc_mem8 _ (by have := rnum_le h hi k; omega))
theorem fpre_b8 {l : List FRow} (hk : ∀ j, j < l.length → B8 (l.getD j default).k) : ∀ {i : Nat}, Gd l i → i ≤ l.length → l.length ≤ 8388608 → B8 (fpre l i)
  | 0, _, _, hl => enc_mem8 _ (by omega)
  | i + 1, h, hi, hl => by
    have r := h.row i (Nat.lt_succ_self i)
    have e : B8 (enc (l.getD i default).k.length) := enc_mem8 _ (by omega)
    exact (fpre_b8 hk (h.mono (Nat.le_succ i)) (by omega) hl).app ((e.app (hk i (by omega))).app (fmid_b8 h (by omega) 3))
theorem footB_b8 {l : List FRow} (hk : ∀ j, j < l.length → B8 (l.getD j default).k) (hg : Gd l l.length) (hl : l.length ≤ 8388608) : B8 (footB l) :=
  (fpre_b8 hk hg (Nat.le_refl _) hl).app (enc_mem8 _ (by have := totN_le hg; omega))
theorem footB_pos (l : List FRow) (hl : l.length ≤ 8388608) : 0 < (footB l).length := by
  rw [footB_flat, List.length_append]
  have := (enc_len_le l.length (by omega)).1
  omega
theorem foot_cut {l : List FRow} (hk : ∀ j, j < l.length → B8 (l.getD j default).k) (hg : Gd l l.length) (hl : l.length ≤ 8388608) (q : Nat) (hq : q < (footB l).length) (l' : List FRow) (hl' : l' = (rdF ((footB l).take q)).1) (hn' : l'.length ≤ 8388608) (hg' : Gd l' l'.length) : (rdF ((footB l).take q)).2.1 ≠ 0 := by
  intro h0
  have h1 := rdF_dec (fun u hu => footB_b8 hk hg hl u (List.mem_of_mem_take hu)) h0
  rw [← hl'] at h1
  have h2 : footB l' ++ (footB l).drop q = footB l := by rw [h1, List.take_append_drop]
  have h3 := rdF_enc hn' hg' ((footB l).drop q)
  have hne : (footB l).drop q ≠ [] := fun e => by have := congrArg List.length e; rw [List.length_drop] at this; simp at this; omega
  rw [h2, if_neg hne] at h3
  have h4 := rdF_enc hl hg []
  rw [List.append_nil, h3] at h4
  simp at h4

set_option maxRecDepth 100000 in
set_option maxHeartbeats 3200000 in
theorem footTrips_any (a : Option Addr) (b o n c : Nat) (L : List Spn) (aB : Option Addr) (lB cB : Nat) (zB : List Int) (cut : Int) (aM : Option Addr) (lM cM : Nat) (zM : List Int) (w : World) (hl : L.length = n) (hm : n * 48 ≤ 140737488351232) (ha : 0 < n → a = some ⟨b, o, none⟩) (hS : Sps w b o L)
    (hlB : zB.length = lB) (hmB : lB ≤ 140737488351232) (hcB : lB ≤ cB) (nB : aB = none → lB = 0 ∧ cB = 0) (rB : Row w .u8 aB zB) (zB8 : B8 zB)
    (hlM : zM.length = lM) (hmM : lM ≤ 140737488351232) (nM : aM = none → lM = 0 ∧ cM = 0) (rM : Row w .u8 aM zM) (zM8 : B8 zM) :
    Calls Try.prog 7 #[.agg #[.slice a n c, .slice aB lB cB, .int .i64 cut, .slice aM lM cM]] w fun e w' => e = .returned (.bool true) ∧ Below w.heap.size w w' := by
  obtain ⟨i0, hi0, hz0, hz1, hz2⟩ := info_parts infoByte'
  have HS := hide (fun W (h : Below w.heap.size w W) => hS.below h)
  have HRB := hide (fun W (h : Below w.heap.size w W) => rB.below2 h)
  have HRM := hide (fun W (h : Below w.heap.size w W) => rM.below2 h)
  have HA := hide ha
  have HL := hide hl
  have HNB := hide nB
  have HNM := hide nM
  have HK8 : Hid (∀ j, j < (rws L).length → B8 ((rws L).getD j default).k) := fun j hj => by
    rw [rws_len] at hj
    rw [rws_at L j hj]
    exact (hS.ok j hj).k8
  clear hS ha hl rB rM nB nM
  obtain ⟨w0, hw0⟩ : ∃ w0, w0 = w.alloc (.cells #[.slice a n c, .slice aB lB cB, .int .i64 cut, .slice aM lM cM] 48) := ⟨_, rfl⟩
  have b0 : Below w.heap.size w w0 := by rw [hw0]; exact (Below.refl _ _).alloc (Nat.le_refl _) _
  have hbx : w0.heap[w.heap.size]? = some (.cells #[.slice a n c, .slice aB lB cB, .int .i64 cut, .slice aM lM cM] 48 (0, 0)) := by rw [hw0]; exact heap_alloc_new w _
  have HBX := hide hbx
  have B0 := hide b0
  have hlt0 := lt_of_block hbx
  clear b0 hbx
  go_enter Try.func7, Try.ntmps7
  go_wp2_with fail
  rw [← hw0]
  clear hw0
  refine (flives_any w0).mono ?_
  rintro e w1 ⟨rfl, b1⟩
  have B1 : Hid (Below w.heap.size w w1) := B0.out.trans (b1.mono B0.out.size)
  have HB1 := hide ((b1.block w.heap.size hlt0).trans HBX.out)
  clear b1
  obtain ⟨gx, hgx⟩ : ∃ gx, gx = w.heap.size := ⟨_, rfl⟩
  rw [← hgx] at HB1 ⊢
  replace hgx := hide hgx
  have x0 : w1.cell? ⟨gx, 0, none⟩ = some (.slice a n c) := by rw [cell_of_row _ _ _ _ _ _ HB1.out]; rfl
  have x1 : w1.cell? ⟨gx, 1, none⟩ = some (.slice aB lB cB) := by rw [cell_of_row _ _ _ _ _ _ HB1.out]; rfl
  have x3 : w1.cell? ⟨gx, 3, none⟩ = some (.slice aM lM cM) := by rw [cell_of_row _ _ _ _ _ _ HB1.out]; rfl
  have HFB := hide (fbytes_any a b o n c L w1 HL.out (by omega) HA.out (HS.out w1 B1.out))
  go_wp2_with fail
  refine HFB.out.mono ?_
  rintro e w2 h2
  obtain ⟨m, er, CK0, _, _⟩ := id h2
  obtain ⟨v2, rfl, ho2, b2⟩ := h2.tell CK0
  have CK := hide CK0
  obtain ⟨ns, hns⟩ : ∃ ns, (fzs (rws L) er).length = ns := ⟨_, rfl⟩
  have hnb : ns ≤ 1000000000 := by rw [← hns]; exact fzs_len CK0
  obtain ⟨a2, c2, rfl, hn2, hc2, _⟩ := ho2.sliceN hns
  have O2 := hide ho2
  have HN2 := hide hn2
  have B2 : Hid (Below w.heap.size w w2) := B1.out.trans (b2.mono B1.out.size)
  have HB2 := hide ((b2.block gx (lt_of_block HB1.out)).trans HB1.out)
  have HNS := hide hns
  clear h2 CK0 ho2 b2 hns hn2 x0 x1 x3 HFB
  have HFC := hide (fcheck_any a b o n c L w2 HL.out (by omega) HA.out (HS.out w2 B2.out))
  go_wp2_with fail
  refine HFC.out.mono ?_
  rintro e w3 ⟨m', er', rfl, hk, b3⟩
  obtain ⟨rfl, rfl⟩ := CK.out.uniq hk
  have O3 := hide (O2.out.below b3)
  have B3 : Hid (Below w.heap.size w w3) := B2.out.trans (b3.mono B2.out.size)
  have HB3 := hide ((b3.block gx (lt_of_block HB2.out)).trans HB2.out)
  clear hk b3 HFC O2
  go_upto_if 56 with fail
  go_cut [5] (fun s5 wx => s5 = .slice aB lB cB ∧ Hid (Below w.heap.size w wx))
  case first =>
    by_cases he : er = 0
    · subst he
      obtain ⟨hn8, hgd⟩ : (rws L).length ≤ 8388608 ∧ Gd (rws L) (rws L).length := ⟨(CK.out.ok rfl).1, (CK.out.ok rfl).2.1⟩
      have hfz : fzs (rws L) 0 = footB (rws L) := by unfold fzs; rw [if_pos rfl]
      rw [hfz] at O3 HNS
      have hpos : 0 < ns := by rw [← HNS.out]; exact footB_pos _ hn8
      have F8 := hide (footB_b8 HK8.out hgd hn8)
      have HGD := hide hgd
      have HR3 := hide (fread_any a2 ns c2 (footB (rws L)) w3 HNS.out (by omega) hc2 HN2.out O3.out.row F8.out)
      have HE3 : Hid (rdF (footB (rws L)) = (rws L, 0, 0)) := by have := rdF_enc hn8 hgd []; rw [List.append_nil, if_pos rfl] at this; exact this
      have HEM : Hid (rdF (footB (rws L) ++ zM) = if zM = [] then (rws L, 0, 0) else ([], 78, ns)) := by have := rdF_enc hn8 hgd zM; rw [HNS.out] at this; exact this
      have HCUT := hide (fun q hq l' h1 h2 h3 => foot_cut HK8.out hgd hn8 q hq l' h1 h2 h3)
      clear hfz hgd
      go_wp2_with fail
      refine HR3.out.mono ?_
      rintro e w4 ⟨v4, C4, rfl, li4, hr4, b4⟩
      rw [HE3.out] at hr4 ⊢
      replace hr4 : rws C4 = rws L := hr4
      have B4 : Hid (Below w.heap.size w w4) := B3.out.trans (b4.mono B3.out.size)
      have O4 := hide (O3.out.below b4)
      have HB4 := hide ((b4.block gx (lt_of_block HB3.out)).trans HB3.out)
      have hn4 : C4.length = n := by have := congrArg List.length hr4; rw [rws_len, rws_len, HL.out] at this; exact this
      obtain ⟨va, vb, vc, hv, hva, hsp⟩ := li4.sps
      rw [hn4] at hv hva
      subst hv
      have HS4 := hide (fsame_any va a vb 0 b o n vc c C4 L w4 hn4 HL.out (by omega) hva HA.out hsp (HS.out w4 B4.out) hr4)
      clear li4 b4 HR3 hva hsp hr4 hn4 HB3 O3
      simp only
      go_wp2_with fail
      refine HS4.out.mono ?_
      rintro e w5 ⟨rfl, b5⟩
      have B5 : Hid (Below w.heap.size w w5) := B4.out.trans (b5.mono B4.out.size)
      have O5 := hide (O4.out.below b5)
      have x2 : w5.cell? ⟨gx, 2, none⟩ = some (.int .i64 cut) := by rw [cell_of_row _ _ _ _ _ _ ((b5.block gx (lt_of_block HB4.out)).trans HB4.out)]; rfl
      clear b5 HS4 O4
      have hmod1 : cut.tmod (ns : Int) < (ns : Int) := Int.tmod_lt_of_pos cut (by omega)
      have hmod2 : -(ns : Int) < cut.tmod (ns : Int) := by
        have h1 := Int.tmod_lt_of_pos (-cut) (show (0 : Int) < (ns : Int) by omega)
        rw [Int.neg_tmod] at h1
        omega
      go_upto_if 78 with fail
      generalize cut.tmod (ns : Int) = md at *
      go_cut [16] (fun s16 wx => ∃ q : Nat, q < ns ∧ s16 = .int .i64 (q : Int) ∧ Hid (wx = w5))
      case first =>
        by_cases hneg : md < 0
        · have hw : IntKind.i64.wrap (md + (ns : Int)) = md + (ns : Int) := by rw [IntKind.wrap_i64]; omega
          have hq : Hid ((((md + (ns : Int)).toNat : Nat) : Int) = md + (ns : Int)) := hide (by omega)
          go_wp2_with fail
          go_meet
          exact ⟨(md + (ns : Int)).toNat, by omega, by rw [hq.out], rfl⟩
        · have hq : Hid (((md.toNat : Nat) : Int) = md) := hide (by omega)
          go_wp2_with fail
          go_meet
          exact ⟨md.toNat, by omega, by rw [hq.out], rfl⟩
      case rest =>
      obtain ⟨q, hq, rfl, hwc⟩ := hcut
      have hwc' := hwc.out.symm
      subst hwc'
      have hsl : ∀ W : World, (Instr.slice 25 (.slice a2 ns c2) none (some (.int .i64 (q : Int))) none).run Try.prog W = .ok (.slice a2 q c2) W := fun W => run_upto a2 ns c2 q (by omega) .i64 W
      have htl : ((footB (rws L)).take q).length = q := by rw [List.length_take]; have := HNS.out; omega
      have HRQ := hide (fread_any a2 q c2 ((footB (rws L)).take q) w5 htl (by omega) (by omega) (fun h => by have := HN2.out h; omega) (O5.out.row.take q) (fun u hu => F8.out u (List.mem_of_mem_take hu)))
      clear htl x2
      go_wp2_with fail
      refine HRQ.out.mono ?_
      rintro e w6 ⟨v6, C6, rfl, li6, hr6, b6⟩
      have hne := HCUT.out q (by rw [HNS.out]; exact hq) (rws C6) hr6 (by rw [rws_len]; exact li6.n) (by rw [rws_len]; exact li6.gd)
      have B6 : Hid (Below w.heap.size w w6) := B5.out.trans (b6.mono B5.out.size)
      have O6 := hide (O5.out.below b6)
      generalize (rdF ((footB (rws L)).take q)).2.1 = E6 at *
      generalize (rdF ((footB (rws L)).take q)).2.2 = P6 at *
      have hne0 : (E6 == 0) = false := by simp [hne]
      clear li6 hr6 b6 HRQ hsl O5
      have BA : Hid (Below w6.heap.size w6 (w6.alloc (.cells #[] 5))) := (Below.refl _ _).alloc (Nat.le_refl _) _
      have R6 := hide (O6.out.below BA.out).row
      obtain ⟨nl, hnl⟩ : ∃ k, (footB (rws L) ++ zM).length = k := ⟨_, rfl⟩
      have hnl' : nl = ns + lM := by rw [← hnl, List.length_append, HNS.out, hlM]
      have hnlb : nl ≤ 140739000000000 := by omega
      replace hnl := hide hnl
      clear hnl'
      go_wp2_with (first
        | (at_builtin; refine app_wideF rfl (.tmp 94) (.tmp 95) 25 rfl w6.heap.size 5 i0 Try.underlying25 hi0 hz0 hz1 hz2 (.slice a7 ns c7) (footB (rws L)) rfl O7.out.owns aM lM cM zM rfl hlM HNM.out (HRM.out w7 B7.out) (by rw [HNS.out]; omega) BB7.out.size ?_; intro v8 w8 ho8 hg8; obtain ⟨a8, c8, rfl, hn8', hc8, r8⟩ := owns_openF ho8 hnl.out; have HN8 := hide hn8'; have HR8 := hide r8; have BB8 : Hid (Below w6.heap.size w6 w8) := BB7.out.grown hg8 BB7.out.size (fun k h => (O7.out.owns.lt k h).1); clear ho8 hg8 r8 hn8')
        | (at_builtin; refine append_b rfl (.tmp 92) (.tmp 93) 25 rfl w6.heap.size 5 i0 Try.underlying25 hi0 hz0 hz1 hz2 (.slice (some ⟨w6.heap.size, 0, none⟩) 0 0) [] rfl (nine_madeT w6) a2 ns c2 (footB (rws L)) rfl HNS.out HN2.out R6.out (by simp; omega) (by simp) ?_; intro v7 w7 ho7 hg7; rw [List.nil_append] at ho7; obtain ⟨a7, c7, rfl, _⟩ := ho7.sliceN HNS.out; have O7 := hide ho7; have BB7 : Hid (Below w6.heap.size w6 w7) := BA.out.grown hg7 (by simp) (fun k hk => by have : w6.heap.size = k := (by simpa [Value.ownBlock] using hk); omega); have B7 : Hid (Below w.heap.size w w7) := B6.out.trans (BB7.out.mono B6.out.size); clear ho7 hg7)
        | fail)
      have B8' : Hid (Below w.heap.size w w8) := B6.out.trans (BB8.out.mono B6.out.size)
      have HRM8 := hide (fread_any a8 nl c8 (footB (rws L) ++ zM) w8 hnl.out hnlb hc8 HN8.out HR8.out (F8.out.app zM8))
      refine HRM8.out.mono ?_
      rintro e w9 ⟨v9, C9, rfl, _, _, b9⟩
      have B9 : Hid (Below w.heap.size w w9) := B8'.out.trans (b9.mono B8'.out.size)
      clear b9 HRM8
      by_cases hz : zM = []
      · have hl0 : lM = 0 := by rw [← hlM, hz]; rfl
        subst hl0
        rw [HEM.out, if_pos hz]
        simp only
        rw [show ((0 : Nat) : Int) = 0 from rfl] at *
        go_wp2_with fail
        go_meet
        exact ⟨rfl, B9⟩
      · have hl0 : (0 : Int) < (lM : Int) := by have := List.length_pos_iff.2 hz; omega
        rw [HEM.out, if_neg hz]
        simp only
        go_wp2_with fail
        go_meet
        exact ⟨rfl, B9⟩
    · have he' : (er == 0) = false := by simp [he]
      go_wp2_with fail
      go_meet
      exact ⟨rfl, B3⟩
  case rest =>
  obtain ⟨rfl, HB4⟩ := hcut
  rename World => w4
  have HRD := hide (fread_any aB lB cB zB w4 hlB (by omega) hcB HNB.out (HRB.out w4 HB4.out) zB8)
  go_wp2_with fail
  refine HRD.out.mono ?_
  rintro e w5 ⟨v5, C5, rfl, li5, hr5, b5⟩
  have LI5 := hide li5
  have B5 : Hid (Below w.heap.size w w5) := HB4.out.trans (b5.mono HB4.out.size)
  clear li5 b5 HRD
  have HDE := hide (fun h => rdF_dec zB8 h)
  by_cases h0 : (rdF zB).2.1 = 0
  · have hfb := HDE.out h0
    rw [← hr5] at hfb
    have HFB := hide hfb
    obtain ⟨va, vb, vc, hv, hva, hsp⟩ := LI5.out.sps
    have hn5 := LI5.out.n
    have hg5 := LI5.out.gd
    obtain ⟨n5, hn5'⟩ : ∃ n5, C5.length = n5 := ⟨_, rfl⟩
    rw [hn5'] at hv hva hn5 hg5
    subst hv
    have CK5 : Hid (IsChk (rws C5) 0 0) := .inr ⟨by rw [rws_len, hn5']; exact hn5, .inr ⟨by rw [rws_len, hn5']; exact hg5, rfl, rfl⟩⟩
    have HB5 := hide (fbytes_any va vb 0 n5 vc C5 w5 hn5' (by omega) hva hsp)
    rw [h0]
    generalize (rdF zB).2.2 = P at *
    clear hfb hva hsp hg5 h0 hr5
    go_wp2_with fail
    refine HB5.out.mono ?_
    rintro e w6 h6
    obtain ⟨v6, rfl, ho6, b6⟩ := h6.tell CK5.out
    rw [show fzs (rws C5) 0 = zB by unfold fzs; rw [if_pos rfl]; exact HFB.out] at ho6
    obtain ⟨a6, c6, rfl, _⟩ := ho6.sliceN hlB
    have O6 := hide ho6
    have B6 : Hid (Below w.heap.size w w6) := B5.out.trans (b6.mono B5.out.size)
    clear h6 ho6 b6 HB5
    go_wp2_with fail
    refine (same_any a6 aB lB c6 lB cB zB zB w6 (by unfold maxLen; omega) hlB hlB O6.out.row (HRB.out w6 B6.out)).mono ?_
    rintro e w7 ⟨rfl, s7⟩
    rw [decide_eq_true rfl]
    have B7 : Hid (Below w.heap.size w w7) := B6.out.trans ((s7.below w6.heap.size).mono B6.out.size)
    clear s7
    go_wp2_with fail
    go_ret
    exact ⟨rfl, B7.out⟩
  · generalize (rdF zB).2.1 = E at *
    generalize (rdF zB).2.2 = P at *
    have he : (E == 0) = false := by simp [h0]
    go_wp2_with fail
    go_ret
    exact ⟨rfl, B5.out⟩

end Go.Proofs.Ytlachimmfjagbaa
