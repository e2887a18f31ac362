/- foot: the document's Bytes. -/
import Derived.Test.YtlachimmfjagbaaFRCheck
import Derived.Test.YtlachimmfjagbaaFFoot
namespace Go.Proofs.Ytlachimmfjagbaa
open Go.RowKit

/-- A row of bytes in making. -/
structure FbS (w wr : World) (v : Value) (zs : List Int) : Prop where
  o : OwnB wr w.heap.size 5 v zs
  b : Below w.heap.size w wr
theorem FbS.below {w wr w1 : World} {v : Value} {zs : List Int} (h : FbS w wr v zs) (hb : Below wr.heap.size wr w1) : FbS w w1 v zs := ⟨h.o.below hb, h.b.trans (hb.mono h.b.size)⟩
theorem FbS.app {w w1 w2 : World} {v v' : Value} {zs zs' : List Int} (h : FbS w w1 v zs) (ho : OwnB w2 w.heap.size 5 v' zs') (hg : w1.grownBy w2 v.ownBlock) : FbS w w2 v' zs' :=
  ⟨ho, h.b.grown hg h.b.size (fun k hk => (h.o.owns.lt k hk).1)⟩
/-- What Bytes answers. -/
def FByPost (w : World) (l : List FRow) (e : Ending) (w' : World) : Prop :=
  ∃ (m : Nat) (er : Int), IsChk l m er ∧ ((er ≠ 0 ∧ e = .returned (.tuple #[.slice none 0 0, .int .i64 er, .int .i64 (m : Int)])) ∨ (er = 0 ∧ ∃ v, e = .returned (.tuple #[v, .int .i64 0, .int .i64 0]) ∧ OwnB w' w.heap.size 5 v (footB l))) ∧ Below w.heap.size w w'

set_option maxRecDepth 100000 in
set_option maxHeartbeats 1600000 in
theorem rfbytes_any (a : Option Addr) (b o n c : Nat) (L : List Spn) (w : World) (hl : L.length = n) (hm : n ≤ 140737488351232) (ha : 0 < n → a = some ⟨b, o, none⟩) (hS : Sps w b o L) :
    Calls Try.prog 18 #[.slice a n c] w (FByPost w (rws L)) := by
  have HCK := hide (rfcheck_any a b o n c L w hl hm ha hS)
  have HTO := hide (fun W (h : Below w.heap.size w W) => rtotal_any a b o n c L W hl hm ha (hS.below h))
  have HP : Hid (∀ e w', FByPost w (rws L) e w' ↔ ∃ (m : Nat) (er : Int), IsChk (rws L) m er ∧ ((er ≠ 0 ∧ e = .returned (.tuple #[.slice none 0 0, .int .i64 er, .int .i64 (m : Int)])) ∨ (er = 0 ∧ ∃ v, e = .returned (.tuple #[v, .int .i64 0, .int .i64 0]) ∧ OwnB w' w.heap.size 5 v (footB (rws L)))) ∧ Below w.heap.size w w') := fun _ _ => Iff.rfl
  have HS := hide hS
  have HA := hide ha
  clear hS ha
  have HL : Hid ((rws L).length = n) := (rws_len L).trans hl
  obtain ⟨i0, hi, hz0, hz1, hz2⟩ := info_parts infoByte'
  have HRN : Hid (∀ (W : World) (N : Nat) (x : Int), N ≤ 18446744073709551615 → x = (N : Int) → Calls Try.prog 40 #[.int .u64 x] W fun e w' => ∃ ua uc, e = .returned (.slice ua (enc N).length uc) ∧ OwnB w' W.heap.size 5 (.slice ua (enc N).length uc) (enc N) ∧ (ua = none → (enc N).length = 0 ∧ uc = 0) ∧ Below W.heap.size W w') := fun W N x hN hx => by
    subst hx
    refine (rnum_any N W hN).mono ?_
    rintro e w' ⟨v, rfl, ho, hb⟩
    obtain ⟨ua, uc, rfl, h1, _⟩ := ho.sliceN rfl
    exact ⟨ua, uc, rfl, ho, h1, hb⟩
  go_enter Try.func18, Try.ntmps18
  go_wp2_with fail
  refine HCK.out.mono ?_
  rintro e w1 ⟨m, er, rfl, hck, b1⟩
  have CK := hide hck
  have B1 := hide b1
  clear hck b1 HCK
  by_cases he : er = 0
  · subst he
    obtain ⟨hn8, hgd, rfl⟩ := CK.out.ok rfl
    rw [HL.out] at hn8 hgd
    have GD := hide hgd
    clear hgd
    have hne : (n : Int) = ((n : Nat) : Int) := rfl
    go_wp2_with fail
    refine (HRN.out w1 n _ (by omega) (by first | rfl | (rw [IntKind.wrap_u64]; omega))).mono ?_
    rintro e w2 ⟨ua, uc, rfl, hr2, hn2, b2⟩
    have F0 : Hid (FbS w w2 (.slice ua (enc n).length uc) (fpre (rws L) 0)) := by
      have h : fpre (rws L) 0 = enc n := by rw [fpre, HL.out]
      show FbS _ _ _ _
      rw [h]
      exact ⟨hr2.mono B1.out.size, B1.out.trans (b2.mono B1.out.size)⟩
    clear hr2 hn2 b2
    have HL0 : Hid ((enc n).length = (fpre (rws L) 0).length) := by show _ = _; rw [fpre, HL.out]
    go_wp2_with fail
    go_loopw [7, 8] (fun y x wr => ∃ (i : Nat) (ua : Option Addr) (ln uc : Nat), i ≤ n ∧ x = .int .i64 (i : Int) ∧ y = .slice ua ln uc ∧ Hid (FbS w wr (.slice ua ln uc) (fpre (rws L) i))) (fun _ x _ => n - (intOf x).toNat)
    case atStart => exact ⟨0, ua, _, uc, Nat.zero_le _, rfl, rfl, F0⟩
    case round =>
      clear F0 HL0
      obtain ⟨i, ua, ln, uc, hi', rfl, rfl, HF⟩ := hrel
      rename World => wr
      by_cases hlt : i < n
      · have j1 : (i : Int) < (n : Int) := by omega
        have j2 : (0 : Int) ≤ (i : Int) := by omega
        obtain rfl := HA.out (by omega)
        have hiL : i < L.length := by omega
        have GI := GD.out.mono (show i + 1 ≤ n by omega)
        have hrow := GI.row i (Nat.lt_succ_self i)
        have hpos := (GI.mono (Nat.le_succ i)).pos
        have hZ0 := fpre_len (GI.mono (Nat.le_succ i)) (by omega) (by rw [HL.out]; exact hn8)
        have HFP : Hid (fpre (rws L) (i + 1) = fpre (rws L) i ++ (enc L[i].ks.length ++ L[i].ks ++ ((([] ++ enc L[i].pl.toNat) ++ enc L[i].ln.toNat) ++ enc L[i].n.toNat))) := by
          show fpre _ _ = _
          rw [fpre, rws_at L i hiL]
          rfl
        rw [rws_at L i hiL] at hrow
        obtain ⟨hk64, _, hp, hlr, hnr⟩ := hrow
        have SC := hide (fun W (h : Below w.heap.size w W) => (HS.out.below h).c i hiL)
        have OK := hide (fun W (h : Below w.heap.size w W) => (HS.out.below h).ok i hiL)
        replace hp : L[i].pl = pAt (rws L) i := hp
        replace hlr : 1 ≤ L[i].ln ∧ L[i].ln ≤ 131072 := hlr
        replace hnr : 1 ≤ L[i].n ∧ L[i].n ≤ 64 := hnr
        replace hk64 : 1 ≤ L[i].ks.length ∧ L[i].ks.length ≤ 64 := hk64
        generalize L[i] = s at *
        obtain ⟨pN, hpN⟩ : ∃ pN : Nat, s.pl = (pN : Int) := ⟨s.pl.toNat, by omega⟩
        obtain ⟨lN, hlN⟩ : ∃ lN : Nat, s.ln = (lN : Int) := ⟨s.ln.toNat, by omega⟩
        obtain ⟨nN, hnN⟩ : ∃ nN : Nat, s.n = (nN : Int) := ⟨s.n.toNat, by omega⟩
        have hpB : pN ≤ 1099511627784 := by omega
        have hlB : lN ≤ 131072 := by omega
        have hnB : nN ≤ 64 := by omega
        obtain ⟨nk, hnk⟩ : ∃ nk, s.ks.length = nk := ⟨_, rfl⟩
        rw [hpN, hlN, hnN, hnk, Int.toNat_natCast, Int.toNat_natCast, Int.toNat_natCast, List.nil_append] at HFP
        rw [hnk] at hk64
        have HC0 : Hid (∀ W, Below w.heap.size w W → W.cell? ⟨b, o + i * 4, none⟩ = some (.slice s.ka nk s.kc)) := fun W h => by have := (SC.out W h).c0; unfold Spn.kv at this; rw [hnk] at this; exact this
        have HC1 : Hid (∀ W, Below w.heap.size w W → W.cell? ⟨b, o + i * 4 + 1, none⟩ = some (.int .i64 (pN : Int))) := fun W h => by rw [← hpN]; exact (SC.out W h).c1
        have HC2 : Hid (∀ W, Below w.heap.size w W → W.cell? ⟨b, o + i * 4 + 2, none⟩ = some (.int .i64 (lN : Int))) := fun W h => by rw [← hlN]; exact (SC.out W h).c2
        have HC3 : Hid (∀ W, Below w.heap.size w W → W.cell? ⟨b, o + i * 4 + 3, none⟩ = some (.int .i64 (nN : Int))) := fun W h => by rw [← hnN]; exact (SC.out W h).c3
        have e1 := (enc_len_le nk (by omega)).2
        have e2 := (enc_len_le pN (by omega)).2
        have e3 := (enc_len_le lN (by omega)).2
        have e4 := (enc_len_le nN (by omega)).2
        replace hnk := hide hnk
        clear hp hlr hnr hpN hlN hnN hpos GI SC
        generalize fpre (rws L) i = Z at *
        obtain ⟨E1, hE1⟩ : ∃ E, E = enc nk := ⟨_, rfl⟩
        obtain ⟨E2, hE2⟩ : ∃ E, E = enc pN := ⟨_, rfl⟩
        obtain ⟨E3, hE3⟩ : ∃ E, E = enc lN := ⟨_, rfl⟩
        obtain ⟨E4, hE4⟩ : ∃ E, E = enc nN := ⟨_, rfl⟩
        have N1 := hide (fun W x hx => HRN.out W nk x (by omega) hx)
        have N2 := hide (fun W x hx => HRN.out W pN x (by omega) hx)
        have N3 := hide (fun W x hx => HRN.out W lN x (by omega) hx)
        have N4 := hide (fun W x hx => HRN.out W nN x (by omega) hx)
        rw [← hE1] at N1 e1 HFP
        rw [← hE2] at N2 e2 HFP
        rw [← hE3] at N3 e3 HFP
        rw [← hE4] at N4 e4 HFP
        have hks : s.ks.length ≤ 64 := by rw [hnk.out]; omega
        clear hE1 hE2 hE3 hE4
        have s0 := HC0.out wr HF.out.b
        go_wp2_with fail
        refine (N1.out wr _ (by first | rfl | (rw [IntKind.wrap_u64]; omega))).mono ?_
        rintro e w2 ⟨u1, c1, rfl, ho1, hn1, b2⟩
        have F1 := hide (HF.out.below b2)
        have R1 := hide ho1.row
        clear ho1 b2 s0
        go_upto_region 9 with (first | (at_builtin; refine append_b rfl (.tmp 28) (.tmp 36) 25 rfl w.heap.size 5 i0 Try.underlying25 hi hz0 hz1 hz2 _ (Z) rfl F1.out.o u1 _ c1 (E1) rfl rfl hn1 R1.out (by (try simp only [List.length_append]); omega) F1.out.b.size ?_; intro v3 w3 ho3 hg3))
        have F2 := hide (F1.out.app ho3 hg3)
        obtain ⟨n3, hn3⟩ : ∃ m, (Z ++ E1).length = m := ⟨_, rfl⟩
        obtain ⟨a3, q3, rfl, _⟩ := ho3.sliceN hn3
        replace hn3 := hide hn3
        have s0 := HC0.out w3 F2.out.b
        have K2 := hide (OK.out w3 F2.out.b)
        clear ho3 hg3 F1 R1 hn1 HF
        go_upto_region 10 with (first | (at_builtin; refine append_b rfl (.tmp 38) (.tmp 43) 25 rfl w.heap.size 5 i0 Try.underlying25 hi hz0 hz1 hz2 _ (Z ++ E1) rfl F2.out.o s.ka _ s.kc (s.ks) rfl hnk.out (by have := K2.out.nk; rw [hnk.out] at this; exact this) K2.out.k (by (try simp only [List.length_append]); omega) F2.out.b.size ?_; intro v4 w4 ho4 hg4))
        have F3 := hide (F2.out.app ho4 hg4)
        obtain ⟨n4, hn4⟩ : ∃ m, (Z ++ E1 ++ s.ks).length = m := ⟨_, rfl⟩
        obtain ⟨a4, q4, rfl, _⟩ := ho4.sliceN hn4
        replace hn4 := hide hn4
        have s1 := HC1.out w4 F3.out.b
        clear ho4 hg4 F2 K2 s0
        go_wp2_with fail
        refine (N2.out w4 _ (by first | rfl | (rw [IntKind.wrap_u64]; omega))).mono ?_
        rintro e w5 ⟨u1, c1, rfl, ho1, hn1, b2⟩
        have F4 := hide (F3.out.below b2)
        have R1 := hide ho1.row
        clear ho1 b2 s1 F3
        go_upto_region 11 with (first | (at_builtin; refine append_b rfl (.tmp 45) (.tmp 52) 25 rfl w.heap.size 5 i0 Try.underlying25 hi hz0 hz1 hz2 _ (Z ++ E1 ++ s.ks) rfl F4.out.o u1 _ c1 (E2) rfl rfl hn1 R1.out (by (try simp only [List.length_append]); omega) F4.out.b.size ?_; intro v6 w6 ho6 hg6))
        have F5 := hide (F4.out.app ho6 hg6)
        obtain ⟨n6, hn6⟩ : ∃ m, (Z ++ E1 ++ s.ks ++ E2).length = m := ⟨_, rfl⟩
        obtain ⟨a6, q6, rfl, _⟩ := ho6.sliceN hn6
        replace hn6 := hide hn6
        have s2 := HC2.out w6 F5.out.b
        clear ho6 hg6 F4 R1 hn1
        go_wp2_with fail
        refine (N3.out w6 _ (by first | rfl | (rw [IntKind.wrap_u64]; omega))).mono ?_
        rintro e w7 ⟨u1, c1, rfl, ho1, hn1, b2⟩
        have F6 := hide (F5.out.below b2)
        have R1 := hide ho1.row
        clear ho1 b2 s2 F5
        go_upto_region 12 with (first | (at_builtin; refine append_b rfl (.tmp 54) (.tmp 61) 25 rfl w.heap.size 5 i0 Try.underlying25 hi hz0 hz1 hz2 _ (Z ++ E1 ++ s.ks ++ E2) rfl F6.out.o u1 _ c1 (E3) rfl rfl hn1 R1.out (by (try simp only [List.length_append]); omega) F6.out.b.size ?_; intro v8 w8 ho8 hg8))
        have F7 := hide (F6.out.app ho8 hg8)
        obtain ⟨n8, hn8⟩ : ∃ m, (Z ++ E1 ++ s.ks ++ E2 ++ E3).length = m := ⟨_, rfl⟩
        obtain ⟨a8, q8, rfl, _⟩ := ho8.sliceN hn8
        replace hn8 := hide hn8
        have s3 := HC3.out w8 F7.out.b
        clear ho8 hg8 F6 R1 hn1
        go_wp2_with fail
        refine (N4.out w8 _ (by first | rfl | (rw [IntKind.wrap_u64]; omega))).mono ?_
        rintro e w9 ⟨u1, c1, rfl, ho1, hn1, b2⟩
        have F8 := hide (F7.out.below b2)
        have R1 := hide ho1.row
        clear ho1 b2 s3 F7
        go_wp2_with (first | (at_builtin; refine append_b rfl (.tmp 63) (.tmp 70) 25 rfl w.heap.size 5 i0 Try.underlying25 hi hz0 hz1 hz2 _ (Z ++ E1 ++ s.ks ++ E2 ++ E3) rfl F8.out.o u1 _ c1 (E4) rfl rfl hn1 R1.out (by (try simp only [List.length_append]); omega) F8.out.b.size ?_; intro v10 w10 ho10 hg10))
        have F9 := F8.out.app ho10 hg10
        obtain ⟨n10, hn10⟩ : ∃ m, (Z ++ E1 ++ s.ks ++ E2 ++ E3 ++ E4).length = m := ⟨_, rfl⟩
        obtain ⟨a10, q10, rfl, _⟩ := ho10.sliceN hn10
        replace hn10 := hide hn10
        have F10 : Hid (FbS w w10 (.slice a10 n10 q10) (fpre (rws L) (i + 1))) := by
          show FbS _ _ _ _
          rw [HFP.out]
          have e : Z ++ (E1 ++ s.ks ++ (E2 ++ E3 ++ E4)) = Z ++ E1 ++ s.ks ++ E2 ++ E3 ++ E4 := by simp only [List.append_assoc]
          rw [e]
          exact F9
        clear F9 ho10 hg10
        go_roundw
        case rel => exact ⟨i + 1, a10, _, q10, by omega, by go_num, rfl, F10⟩
        case measure => simp [intOf]; omega
      · have j1 : ¬ (i : Int) < (n : Int) := by omega
        obtain rfl : i = n := by omega
        have hZ0 := fpre_len GD.out hn8 (by rw [HL.out]; exact hn8)
        have ht := totN_le GD.out
        have HT := hide (HTO.out wr HF.out.b)
        rw [tot_good GD.out hn8] at HT
        have HFB : Hid (footB (rws L) = fpre (rws L) i ++ enc (totN (rws L) i)) := by show footB _ = _; unfold footB; rw [HL.out]
        generalize totN (rws L) i = tN at *
        have e1 := (enc_len_le tN (by omega)).2
        generalize fpre (rws L) i = Z at *
        go_wp2_with fail
        refine HT.out.mono ?_
        rintro e w2 ⟨rfl, b2⟩
        have F1 := hide (HF.out.below b2)
        clear b2 HT
        go_wp2_with fail
        refine (HRN.out w2 tN _ (by omega) (by first | rfl | (rw [IntKind.wrap_u64]; omega))).mono ?_
        rintro e w3 ⟨u1, c1, rfl, ho1, hn1, b3⟩
        have F2 := hide (F1.out.below b3)
        have R1 := hide ho1.row
        clear ho1 b3 F1
        go_wp2_with (first | (at_builtin; refine append_b rfl (.tmp 72) (.tmp 76) 25 rfl w.heap.size 5 i0 Try.underlying25 hi hz0 hz1 hz2 _ Z rfl F2.out.o u1 _ c1 (enc tN) rfl rfl hn1 R1.out (by omega) F2.out.b.size ?_; intro v4 w4 ho4 hg4))
        have F3 := F2.out.app ho4 hg4
        have HFin : Hid (FByPost w (rws L) (.returned (.tuple #[v4, .int .i64 0, .int .i64 0])) w4) := (HP.out _ _).2 ⟨0, 0, CK.out, .inr ⟨rfl, v4, rfl, by rw [HFB.out]; exact F3.o⟩, F3.b⟩
        clear F3 ho4 hg4
        go_ret3
        exact HFin.out
  · have he' : (er != 0) = true := by simp [he]
    have HF : Hid (FByPost w (rws L) (.returned (.tuple #[.slice none 0 0, .int .i64 er, .int .i64 (m : Int)])) w1) := ⟨m, er, CK.out, .inl ⟨he, rfl⟩, B1.out⟩
    go_wp2_with fail
    go_ret3
    exact HF.out

end Go.Proofs.Ytlachimmfjagbaa
