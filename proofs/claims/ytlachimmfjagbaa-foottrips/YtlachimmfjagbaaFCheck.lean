/- foot: Check. -/
import Derived.Test.YtlachimmfjagbaaFPure
namespace Go.Proofs.Ytlachimmfjagbaa
open Go.RowKit

/-- The row ahead, in its variable. -/
structure Ahd (W : World) (g : Nat) (aa : Option Addr) (la ca p q : Nat) (z : Int) (pk : List Int) : Prop where
  b : W.heap[g]? = some (.cells #[.slice aa la ca, .int .i64 (p : Int), .int .i64 (q : Int), .int .i64 z] 33 (0, 0))
  r : Row W .u8 aa pk
  l : pk.length = la
  k8 : B8 pk
theorem Ahd.cells {W : World} {g : Nat} {aa : Option Addr} {la ca p q : Nat} {z : Int} {pk : List Int} (h : Ahd W g aa la ca p q z pk) : W.cell? ⟨g, 0, none⟩ = some (.slice aa la ca) ∧ W.cell? ⟨g, 1, none⟩ = some (.int .i64 (p : Int)) ∧ W.cell? ⟨g, 2, none⟩ = some (.int .i64 (q : Int)) ∧ W.cell? ⟨g, 3, none⟩ = some (.int .i64 z) ∧ (∀ j, W.frozen? ⟨g, j, none⟩ = false) :=
  ⟨by rw [cell_of_row _ _ _ _ _ _ h.b]; rfl, by rw [cell_of_row _ _ _ _ _ _ h.b]; rfl, by rw [cell_of_row _ _ _ _ _ _ h.b]; rfl, by rw [cell_of_row _ _ _ _ _ _ h.b]; rfl, fun j => by simp [World.frozen?, h.b]⟩
/-- Between two rounds of Check. -/
structure CkI (w wr : World) (g gt g2 g3 : Nat) (L : List Spn) (i : Nat) : Prop where
  tab : Tab wr gt g2 g3
  ah : ∃ aa la ca p q z pk, Ahd wr g aa la ca p q z pk ∧ pk = kAt (rws L) i ∧ ((p + q : Nat) : Int) = pAt (rws L) i
  gd : Gd (rws L) i
  bel : Below w.heap.size w wr

theorem i64_keep {x : Int} (h : 0 ≤ x) : ((x.toNat : Nat) : Int) = x := Int.toNat_of_nonneg h

theorem CkI.next {w W : World} {g gt g2 g3 b o : Nat} {L : List Spn} {i : Nat} {aa : Option Addr} {la ca p q : Nat} {z : Int} {pk : List Int} (T : Tab W gt g2 g3) (A : Ahd W g aa la ca p q z pk) (gd : Gd (rws L) i) (bel : Below w.heap.size w W) (hi : i < L.length) (hS : Sps w b o L) (hg : w.heap.size ≤ g) (h1 : gt ≠ g) (h2 : g2 ≠ g) (h3 : g3 ≠ g) (hf : fAt (rws L) i = 0) :
    CkI w ((((W.setCell ⟨g, 0, none⟩ L[i].kv).setCell ⟨g, 1, none⟩ (.int .i64 L[i].pl)).setCell ⟨g, 2, none⟩ (.int .i64 L[i].ln)).setCell ⟨g, 3, none⟩ (.int .i64 L[i].n)) g gt g2 g3 L (i + 1) := by
  have hu : Upd (fun k => k = g) W ((((W.setCell ⟨g, 0, none⟩ L[i].kv).setCell ⟨g, 1, none⟩ (.int .i64 L[i].pl)).setCell ⟨g, 2, none⟩ (.int .i64 L[i].ln)).setCell ⟨g, 3, none⟩ (.int .i64 L[i].n)) := (((((Upd.refl (fun k => k = g) W).setCell ⟨g, 0, none⟩ L[i].kv (fun _ => rfl)).setCell ⟨g, 1, none⟩ (.int .i64 L[i].pl) (fun _ => rfl)).setCell ⟨g, 2, none⟩ (.int .i64 L[i].ln) (fun _ => rfl)).setCell ⟨g, 3, none⟩ (.int .i64 L[i].n) (fun _ => rfl))
  have hb' : Below w.heap.size w ((((W.setCell ⟨g, 0, none⟩ L[i].kv).setCell ⟨g, 1, none⟩ (.int .i64 L[i].pl)).setCell ⟨g, 2, none⟩ (.int .i64 L[i].ln)).setCell ⟨g, 3, none⟩ (.int .i64 L[i].n)) := bel.trans ((hu.below bel.size (fun k hk e => by omega)))
  have gd' := gd.succ hf
  have r := gd'.row i (Nat.lt_succ_self i)
  rw [rws_at L i hi] at r
  have hp := gd.pos
  have ok := (hS.below hb').ok i hi
  refine ⟨T.upd hu h1 h2 h3, ⟨L[i].ka, L[i].ks.length, L[i].kc, L[i].pl.toNat, L[i].ln.toNat, L[i].n, L[i].ks, ⟨?_, ok.k, rfl, ok.k8⟩, ?_, ?_⟩, gd', hb'⟩
  · have e1 : L[i].pl = L[i].row.p := rfl
    have e2 : L[i].ln = L[i].row.l := rfl
    rw [i64_keep (by rw [e1, r.2.2.1]; omega), i64_keep (by rw [e2]; omega)]
    exact block_setCell (block_setCell (block_setCell (block_setCell A.b 0 _) 1 _) 2 _) 3 _
  · rw [kAt_succ, rws_at L i hi]; rfl
  · rw [pAt_succ, rws_at L i hi, Int.natCast_add, i64_keep (by have : L[i].pl = L[i].row.p := rfl; rw [this, r.2.2.1]; omega), i64_keep (by have : L[i].ln = L[i].row.l := rfl; rw [this]; omega)]
    rfl

set_option maxRecDepth 100000 in
set_option maxHeartbeats 1600000 in
theorem fcheck_any (a : Option Addr) (b o n c : Nat) (L : List Spn) (w : World) (hl : L.length = n) (hm : n ≤ 140737488351232) (ha : 0 < n → a = some ⟨b, o, none⟩) (hS : Sps w b o L) :
    Calls Try.prog 13 #[.slice a n c] w fun e w' => ∃ (m : Nat) (er : Int), e = .returned (.tuple #[.int .i64 (m : Int), .int .i64 er]) ∧ IsChk (rws L) m er ∧ Below w.heap.size w w' := by
  have HS := hide hS
  have HA := hide ha
  clear hS ha
  have HL : Hid ((rws L).length = n) := (rws_len L).trans hl
  go_enter Try.func13, Try.ntmps13
  by_cases hbig : 8388608 < n
  · have i1 : (8388608 : Int) < (n : Int) := by omega
    have HF : Hid (IsChk (rws L) 0 71) := .inl ⟨by rw [HL.out]; exact hbig, rfl, rfl⟩
    go_wp2_with fail
    go_ret2
    exact ⟨0, 71, rfl, HF.out, Below.refl _ _⟩
  · have i1 : ¬ (8388608 : Int) < (n : Int) := by omega
    go_wp2_with fail
    refine (rules_any w).mono ?_
    rintro e w1 ⟨rfl, T1, b1⟩
    have HT1 := hide T1
    have B1 := hide b1
    have hlt1 : w.heap.size + 2 < w1.heap.size := lt_of_block T1.t
    clear T1 b1
    generalize hgt : w.heap.size + 2 = gt at *
    generalize hg2 : w.heap.size = g2 at *
    generalize hg3 : g2 + 1 = g3 at *
    go_wp2_with fail
    refine (head_any w1).mono ?_
    rintro e w2 ⟨rfl, b2⟩
    have B2 := hide b2
    clear b2
    have hz2 := B2.out.size
    obtain ⟨w3, hw3⟩ : ∃ w3, w3 = w2.alloc (.cells #[.slice none 0 0, .int .i64 0, .int .i64 8, .int .i64 0] 33) := ⟨_, rfl⟩
    have hb3 : w3.heap[w2.heap.size]? = some (.cells #[.slice none 0 0, .int .i64 0, .int .i64 8, .int .i64 0] 33 (0, 0)) := by rw [hw3]; exact heap_alloc_new w2 _
    have B3 : Hid (Below w1.heap.size w1 w3) := B2.out.trans ((by rw [hw3]; exact (Below.refl _ _).alloc (Nat.le_refl _) _ : Below w2.heap.size w2 w3).mono hz2)
    obtain ⟨g, hg⟩ : ∃ g, g = w2.heap.size := ⟨_, rfl⟩
    have H0 : Hid (CkI w w3 g gt g2 g3 L 0) := ⟨HT1.out.below B3.out, ⟨none, 0, 0, 0, 8, 0, [], ⟨by rw [hg]; exact hb3, row_nil _ _ _, rfl, fun _ h => by simp at h⟩, rfl, rfl⟩, fun _ h => absurd h (Nat.not_lt_zero _), by rw [hg2]; exact B1.out.trans (B3.out.mono (by have := B1.out.size; omega))⟩
    have hgw : g2 ≤ g ∧ gt ≠ g ∧ g2 ≠ g ∧ g3 ≠ g := by omega
    clear hb3 HT1
    go_wp2_with fail
    rw [← hg, ← hw3]
    clear hg hw3 hz2 hlt1
    replace hgt := hide hgt
    replace hg2 := hide hg2
    replace hg3 := hide hg3
    go_loopw [15] (fun x wr => ∃ i : Nat, i ≤ n ∧ x = .int .i64 (i : Int) ∧ Hid (CkI w wr g gt g2 g3 L i)) (fun x _ => n - (intOf x).toNat)
    case atStart => exact ⟨0, Nat.zero_le _, rfl, H0⟩
    case round =>
      clear H0 B1 B2 B3
      obtain ⟨i, hi, rfl, HI⟩ := hrel
      rename World => wr
      by_cases hlt : i < n
      · have j1 : (i : Int) < (n : Int) := by omega
        have j2 : (0 : Int) ≤ (i : Int) := by omega
        obtain rfl := HA.out (by omega)
        have hiL : i < L.length := by omega
        obtain ⟨aa, la, ca, p, q, z, pk, A, hpk, hpq⟩ := HI.out.ah
        have hpb := HI.out.gd.pos
        have hp8 : p + q ≤ 8 + 131072 * 8388608 := by omega
        have AH := hide A
        obtain ⟨c0, c1, c2, c3, _⟩ := A.cells
        have hbel := HI.out.bel
        have SR := hide ((HS.out.below hbel).c i hiL)
        have OR := hide ((HS.out.below hbel).ok i hiL)
        have HFA : Hid (∀ W, Below wr.heap.size wr W → Calls Try.prog 34 #[.slice (some ⟨gt, 0, none⟩) 3 3, .agg #[.slice aa la ca, .int .i64 (p : Int), .int .i64 (q : Int), .int .i64 z], .pointer (some ⟨b, o + i * 4, none⟩)] W fun e w' => e = .returned (.int .i64 (fAt (rws L) i)) ∧ Below W.heap.size W w') := fun W hW => by
          have h := ffault_any (HI.out.tab.below hW) aa la ca p q z pk b (o + i * 4) L[i] (OR.out.below hW) (SR.out.below hW) (AH.out.r.below2 hW) AH.out.l AH.out.k8 (by omega) (by omega)
          rw [hpk, hpq] at h
          unfold fAt
          rw [rws_at L i hiL]
          exact h
        obtain ⟨fe, hfe⟩ : ∃ fe, fe = fAt (rws L) i := ⟨_, rfl⟩
        rw [← hfe] at HFA
        have HFE := hide hfe
        have hgl : g < wr.heap.size := lt_of_block A.b
        clear A hpk hpq hbel hfe hpb
        go_upto_region 8 with fail
        go_region_held3 (fun W => W.cell? ⟨g, 0, none⟩ = some (.slice aa la ca) ∧ W.cell? ⟨g, 1, none⟩ = some (.int .i64 (p : Int)) ∧ W.cell? ⟨g, 2, none⟩ = some (.int .i64 (q : Int)) ∧ W.cell? ⟨g, 3, none⟩ = some (.int .i64 z)) (go_keep) (first
          | (go_at_call 34; refine (HFA.out wr.drew ⟨rfl, rfl, rfl, Nat.le_refl _, fun _ _ => rfl⟩).mono ?_; rintro e v1 ⟨rfl, hv1⟩; have BV : Hid (Below wr.heap.size wr v1) := (⟨hv1.os, hv1.tape, hv1.output, hv1.size, hv1.block⟩); have d0 := (BV.out.cell (p := ⟨g, 0, none⟩) hgl).trans c0; have d1 := (BV.out.cell (p := ⟨g, 1, none⟩) hgl).trans c1; have d2 := (BV.out.cell (p := ⟨g, 2, none⟩) hgl).trans c2; have d3 := (BV.out.cell (p := ⟨g, 3, none⟩) hgl).trans c3; clear hv1)
          | fail)
        by_cases hf0 : fe = 0
        · subst hf0
          have AV : Hid (Ahd v1 g aa la ca p q z pk) := ⟨(BV.out.block g hgl).trans AH.out.b, AH.out.r.below2 BV.out, AH.out.l, AH.out.k8⟩
          obtain ⟨_, _, _, _, hfz⟩ := AV.out.cells
          have z0 := hfz 0
          have z1 := hfz 1
          have z2 := hfz 2
          have z3 := hfz 3
          have SV := SR.out.below BV.out
          have s0 := SV.c0
          have s1 := SV.c1
          have s2 := SV.c2
          have s3 := SV.c3
          have HN := hide (CkI.next (b := b) (o := o) (HI.out.tab.below BV.out) AV.out HI.out.gd (HI.out.bel.trans (BV.out.mono HI.out.bel.size)) hiL HS.out (by rw [hg2.out]; exact hgw.1) hgw.2.1 hgw.2.2.1 hgw.2.2.2 HFE.out.symm)
          unfold Spn.kv at s0 HN
          obtain ⟨nk, hnk⟩ : ∃ nk, L[i].ks.length = nk := ⟨_, rfl⟩
          rw [hnk] at s0 HN
          clear SV hfz
          go_wp2_with fail
          go_roundw
          case rel => exact ⟨i + 1, by omega, by go_num, HN⟩
          case measure => simp [intOf]; omega
        · have hf1 : (fe != 0) = true := by simp [hf0]
          have HF : Hid (IsChk (rws L) i fe) := .inr ⟨by rw [HL.out]; omega, .inl ⟨by rw [HL.out]; exact hlt, HI.out.gd, HFE.out.symm, hf0⟩⟩
          have HB := hide (HI.out.bel.trans (BV.out.mono HI.out.bel.size))
          go_wp2_with fail
          go_ret2
          exact ⟨i, fe, rfl, HF.out, HB.out⟩
      · have j1 : ¬ (i : Int) < (n : Int) := by omega
        obtain rfl : i = n := by omega
        have HF : Hid (IsChk (rws L) 0 0) := .inr ⟨by rw [HL.out]; omega, .inr ⟨by rw [HL.out]; exact HI.out.gd, rfl, rfl⟩⟩
        have HB := hide HI.out.bel
        go_wp2_with fail
        go_ret2
        exact ⟨0, 0, rfl, HF.out, HB.out⟩

end Go.Proofs.Ytlachimmfjagbaa
