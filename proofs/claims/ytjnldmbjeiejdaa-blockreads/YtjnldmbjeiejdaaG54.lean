/- BlockReads: the walk. -/
import Derived.Test.YtjnldmbjeiejdaaG51
import Derived.Test.YtjnldmbjeiejdaaG44
import Derived.Test.YtjnldmbjeiejdaaG46
import Derived.Test.YtjnldmbjeiejdaaG10
namespace Go.Proofs.Ytjnldmbjeiejdaa
open Go.RowKit

theorem Lent.upd {S : Nat → Prop} {w w' : World} {g : Nat} {zs : List Int} (h : Lent w g zs) (hu : Upd S w w') (hs : ¬ S g) : Lent w' g zs := fun i hi => hu.cell (h i hi) hs

theorem Ens.upd {S : Nat → Prop} {W W' : World} {b : Nat} {L : List Ent} (h : Ens W b 0 L) (hu : Upd S W W') (hb : 0 < L.length → ¬ S b) (hl : ∀ i (h : i < L.length) x, (L[i].ka = some x ∧ 0 < L[i].ks.length) ∨ (L[i].va = some x ∧ 0 < L[i].vs.length) → ¬ S x.block) : Ens W' b 0 L :=
  ⟨fun i hi => hu.cell (h.at0 i hi) (hb (by omega)), fun i hi => hu.cell (h.at1 i hi) (hb (by omega)), fun i hi => (h.ok i hi).upd hu (fun x hx h0 => hl i hi x (.inl ⟨hx, h0⟩)) (fun x hx h0 => hl i hi x (.inr ⟨hx, h0⟩))⟩

set_option maxRecDepth 100000 in
set_option maxHeartbeats 3200000 in
theorem blockReads_any (a : Option Addr) (l c : Nat) (zs : List Int) (w : World) (hl : zs.length = l) (hm : l ≤ 140737488351232) (hcl : l ≤ c) (na : a = none → l = 0 ∧ c = 0) (hr : Row w .u8 a zs) (z8 : B8 zs) :
    Calls Try.prog 5 #[.slice a l c] w fun e w' => e = .returned (.bool true) ∧ Below w.heap.size w w' := by
  have HR := hide (fun (W : World) (h : Below w.heap.size w W) => hr.below2 h)
  have HNA := hide na
  clear hr na
  go_enter Try.func5, Try.ntmps5
  go_wp2_with fail
  refine (lives_any _).mono ?_
  rintro e w1 ⟨rfl, t1⟩
  have T1 := hide t1
  clear t1
  go_wp2_with fail
  refine (lent_any a l c zs w1 hl hm HNA.out (HR.out w1 T1.out)).mono ?_
  rintro e w2 ⟨rfl, hL2, b2⟩
  have T2 := hide (T1.out.trans (b2.mono T1.out.size))
  have L2 := hide hL2
  obtain ⟨g, hg⟩ : ∃ g, g = w1.heap.size := ⟨_, rfl⟩
  rw [← hg] at L2 ⊢
  have hg2 : g < w2.heap.size := L2.out.lt
  have hgw : w.heap.size ≤ g := by rw [hg]; exact T1.out.size
  clear hL2 b2 hg
  have HRD := hide (bread_any (some ⟨g, 0, none⟩) l (l + 2) zs w2 hl (by omega) (by omega) (fun h => by cases h) L2.out.row z8)
  go_wp2_with fail
  refine HRD.out.mono ?_
  rintro e w3 ⟨b3, ⟨h0, ga, Es, rfl, hEl, hkv⟩ | ⟨h0, rfl⟩⟩
  · obtain ⟨hgd, hp0, _⟩ := bRes_back z8 h0
    have hgE : Good (kvs Es) := by rw [hkv]; exact hgd
    have h64 := hgE.n64
    rw [kvs_len] at h64
    obtain ⟨n, hn⟩ : ∃ n, Es.length = n := ⟨_, rfl⟩
    rw [hn] at h64
    have B3 := hide b3
    have L3 := hide (L2.out.below b3 hg2)
    have EL3 := hide hEl
    have KV3 := hide hkv
    have HG := hide hgE
    have HRD2 := hide (bread_any (some ⟨g, 0, none⟩) l (l + 2) zs w3 hl (by omega) (by omega) (fun h => by cases h) L3.out.row z8)
    rw [hn]
    have H0 := hide h0
    clear HRD b3 hEl hkv hgE hgd hp0 h0
    go_wp2_with fail
    refine HRD2.out.mono ?_
    rintro e w4 ⟨b4, ⟨_, ga2, Es2, rfl, hEl2, hkv2⟩ | ⟨h0', _⟩⟩
    · have hn2 : Es2.length = n := by rw [← hn, ← kvs_len, ← kvs_len, hkv2, KV3.out]
      have T4 := hide (T2.out.trans ((B3.out.trans (b4.mono B3.out.size)).mono T2.out.size))
      have B34 := hide b4
      have L4 := hide (L3.out.below b4 (Nat.lt_of_lt_of_le hg2 B3.out.size))
      have EL4 := hide hEl2
      have KV4 := hide hkv2
      have HRR := hide (rblk_any a l c zs w4 hl hm hcl HNA.out (HR.out w4 T4.out) z8)
      rw [hn2]
      clear HRD2 b4 hEl2 hkv2
      go_wp2_with fail
      refine HRR.out.mono ?_
      rintro e w5 ⟨a5, c5, b5', Ew, rfl, hkw, haw, hEw, hbw, b5, hlw⟩
      have hnw : Ew.length = n := by rw [← hn, ← kvs_len, ← kvs_len, hkw, KV3.out]
      have B35 := hide (B34.out.trans (b5.mono B34.out.size))
      have L5 := hide (L4.out.below b5 (by have := B3.out.size; have := B34.out.size; omega))
      have EL45 := hide (EL4.out.below b5)
      have EL35 := hide (EL3.out.below B35.out)
      have EW5 := hide hEw
      have KW := hide hkw
      rw [hnw] at haw hbw ⊢
      have HAW := hide haw
      have HBW := hide hbw
      have HLW := hide hlw
      have z45 := b5.size
      have h05 : (bRes zs).2.1 = 0 := H0.out
      obtain ⟨_, _, _, hq0⟩ := bRes_back z8 h05
      rw [h05, hq0]
      clear HRR b5 hEw hkw haw hbw hlw h05 hq0
      go_wp2_with fail
      refine (sameall_ens (some ⟨ga, 0, none⟩) a5 ga 0 n b5' 0 n c5 Es Ew w5 hn hnw (by rw [KV3.out, KW.out]) (by omega) (fun _ => rfl) HAW.out (EL35.out.ens HG.out) EW5.out).mono ?_
      rintro e w6 ⟨rfl, b6⟩
      have B36 := hide (B35.out.trans (b6.mono B35.out.size))
      have L6 := hide (L5.out.below b6 (by have := B3.out.size; have := B34.out.size; omega))
      have EL46 := hide (EL45.out.below b6)
      have EW6 := hide (EW5.out.below b6)
      have z56 := b6.size
      clear b6
      go_wp2_with fail
      refine (rspoil_any EL3.out B36.out hn (by omega)).mono ?_
      rintro e w7 ⟨rfl, u7⟩
      have z3 := B3.out.size
      have z34 := B34.out.size
      have EL47 := hide (EL46.out.upd u7 (fun i hi _ e => by omega))
      have L7 := hide (L6.out.upd u7 (fun e => by omega))
      have EW7 : Hid (Ens w7 b5' 0 Ew) := EW6.out.upd u7 (fun h e => by have := HBW.out (by omega); omega) (fun i hi x hx e => by have := HLW.out i hi x hx; omega)
      have HR7 : Hid (Row w7 .u8 a zs) := by
        have h6 := HR.out w6 (T2.out.trans ((B3.out.trans (B36.out.mono B3.out.size)).mono T2.out.size))
        refine h6.upd u7 (fun x hx h0 e => ?_)
        have h1 := row_lt (HR.out w (Below.refl _ _)) hx h0
        have h2 := T2.out.size
        omega
      have T7 : Hid (Below w.heap.size w w7) := (T2.out.trans ((B3.out.trans (B36.out.mono B3.out.size)).mono T2.out.size)).trans (u7.below (by have := T2.out.size; omega) (fun i hi e => by have := T2.out.size; omega))
      have HG2 : Hid (Good (kvs Es2)) := by show Good _; rw [KV4.out, ← KV3.out]; exact HG.out
      clear u7
      go_wp2_with fail
      refine (sameall_ens (some ⟨ga2, 0, none⟩) a5 ga2 0 n b5' 0 n c5 Es2 Ew w7 hn2 hnw (by rw [KV4.out, KW.out]) (by omega) (fun _ => rfl) HAW.out (EL47.out.ens HG2.out) EW7.out).mono ?_
      rintro e w8 ⟨rfl, b8⟩
      have T8 := hide (T7.out.trans (b8.mono T7.out.size))
      have L8 := hide (L7.out.below b8 (by have := L7.out.lt; omega))
      have R8 := hide (HR.out w8 T8.out)
      clear b8
      go_wp2_with fail
      refine (kept_any g a l c zs w8 hl hm L8.out R8.out).mono ?_
      rintro e w9 ⟨rfl, s9⟩
      have T9 := hide (T8.out.trans (s9.below _))
      clear s9
      go_wp2_with fail
      go_ret
      exact ⟨rfl, T9.out⟩
    · exact absurd H0.out h0'
  · have B3 := hide b3
    have L3 := hide (L2.out.below b3 hg2)
    obtain ⟨hl0, _⟩ := bRes_err z8 h0
    have HRD2 := hide (bread_any (some ⟨g, 0, none⟩) l (l + 2) zs w3 hl (by omega) (by omega) (fun h => by cases h) L3.out.row z8)
    have H0 := hide h0
    have HL0 := hide hl0
    have T3 := hide (T2.out.trans (b3.mono T2.out.size))
    have z3 := b3.size
    clear HRD b3 hl0
    go_wp2_with fail
    refine HRD2.out.mono ?_
    rintro e w4 ⟨b4, ⟨h0', _⟩ | ⟨_, rfl⟩⟩
    · exact absurd h0' H0.out
    · have T4 := hide (T3.out.trans (b4.mono T3.out.size))
      have L4 := hide (L3.out.below b4 (by omega))
      have HRR := hide (rblk_any a l c zs w4 hl hm hcl HNA.out (HR.out w4 T4.out) z8)
      have z4 := b4.size
      clear HRD2 b4
      go_wp2_with fail
      refine HRR.out.mono ?_
      rintro e w5 ⟨a5, c5, b5', Ew, rfl, hkw, _, _, _, b5, _⟩
      have hnw : Ew = [] := by
        rw [HL0.out] at hkw
        refine List.eq_nil_of_length_eq_zero ?_
        rw [← kvs_len, hkw]; rfl
      subst hnw
      have T5 := hide (T4.out.trans (b5.mono T4.out.size))
      have L5 := hide (L4.out.below b5 (by omega))
      have z5 := b5.size
      clear HRR b5 hkw
      generalize (bRes zs).2.1 = er at *
      generalize (bRes zs).2.2 = pl at *
      rw [show ([] : List Ent).length = 0 from rfl]
      have E0 : Hid (∀ W, Ens W 0 0 []) := fun W => ⟨fun i h => absurd h (Nat.not_lt_zero i), fun i h => absurd h (Nat.not_lt_zero i), fun i h => absurd h (Nat.not_lt_zero i)⟩
      go_wp2_with fail
      refine (sameall_ens none a5 0 0 0 0 0 0 c5 [] [] w5 rfl rfl rfl (by omega) (fun h => absurd h (Nat.lt_irrefl _)) (fun h => absurd h (Nat.lt_irrefl _)) (E0.out _) (E0.out _)).mono ?_
      rintro e w6 ⟨rfl, b6⟩
      have T6 := hide (T5.out.trans (b6.mono T5.out.size))
      have L6 := hide (L5.out.below b6 (by omega))
      have z6 := b6.size
      clear b6
      go_wp2_with fail
      refine (rspoil_nil w6).mono ?_
      rintro e w7 ⟨rfl, rfl⟩
      go_wp2_with fail
      refine (sameall_ens none a5 0 0 0 0 0 0 c5 [] [] w7 rfl rfl rfl (by omega) (fun h => absurd h (Nat.lt_irrefl _)) (fun h => absurd h (Nat.lt_irrefl _)) (E0.out _) (E0.out _)).mono ?_
      rintro e w8 ⟨rfl, b8⟩
      have T8 := hide (T6.out.trans (b8.mono T6.out.size))
      have L8 := hide (L6.out.below b8 (by omega))
      have R8 := hide (HR.out w8 T8.out)
      clear b8
      go_wp2_with fail
      refine (kept_any g a l c zs w8 hl hm L8.out R8.out).mono ?_
      rintro e w9 ⟨rfl, s9⟩
      have T9 := hide (T8.out.trans (s9.below _))
      clear s9
      go_wp2_with fail
      go_ret
      exact ⟨rfl, T9.out⟩

end Go.Proofs.Ytjnldmbjeiejdaa
