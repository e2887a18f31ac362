/- FootFinds: the walk. -/
import Derived.Test.YtlachimmfjagbaaFWrites
import Derived.Test.YtlachimmfjagbaaFFind
import Derived.Test.YtlachimmfjagbaaFTexts
namespace Go.Proofs.Ytlachimmfjagbaa
open Go.RowKit

set_option maxRecDepth 100000 in
set_option maxHeartbeats 1600000 in
theorem footFinds_any (a : Option Addr) (b o n c : Nat) (L : List Spn) (a' : Option Addr) (b' o' n' c' : Nat) (T : List Txt) (w : World) (hl : L.length = n) (hm : n * 48 ≤ 140737488351232) (ha : 0 < n → a = some ⟨b, o, none⟩) (hS : Sps w b o L) (hl' : T.length = n') (hm' : n' ≤ 140737488351232) (ha' : 0 < n' → a' = some ⟨b', o', none⟩) (hT : Txs w b' o' T) :
    Calls Try.prog 6 #[.slice a n c, .slice a' n' c'] w fun e w' => e = .returned (.bool true) ∧ Below w.heap.size w w' := by
  have HS := hide (fun W (h : Below w.heap.size w W) => hS.below h)
  have HTX := hide (fun W (h : Below w.heap.size w W) => hT.below h)
  have HA := hide ha
  have HA' := hide ha'
  have HL := hide hl
  clear hS ha hl hT ha'
  go_enter Try.func6, Try.ntmps6
  go_wp2_with fail
  refine (flives_any w).mono ?_
  rintro e w1 ⟨rfl, b1⟩
  have B1 := hide b1
  clear b1
  go_wp2_with fail
  refine (rfcheck_any a b o n c L w1 HL.out (by omega) HA.out (HS.out w1 B1.out)).mono ?_
  rintro e w2 ⟨m, er, rfl, hck, b2⟩
  have CK := hide hck
  have B2 : Hid (Below w.heap.size w w2) := B1.out.trans (b2.mono B1.out.size)
  clear hck b2
  go_wp2_with fail
  refine (rows_any a b o n c L w2 HL.out hm HA.out (HS.out w2 B2.out)).mono ?_
  rintro e w3 ⟨g, cap, C, rfl, hC, hcap, b3⟩
  have B3 : Hid (Below w.heap.size w w3) := B2.out.trans (b3.mono B2.out.size)
  have HC := hide hC
  have HRW : Hid (rws C = rws L) := hC.rws
  have HCL : Hid (C.length = n) := hC.len.trans HL.out
  clear hC b3
  go_wp2_with fail
  refine (total_any (some ⟨g, 0, none⟩) g 0 n cap C w3 HCL.out (by omega) (fun _ => rfl) (HC.out.sps (HS.out w3 B3.out).ok)).mono ?_
  rintro e w4 ⟨rfl, b4⟩
  rw [HRW.out]
  obtain ⟨tt, htt⟩ : ∃ tt, totW (rws L) n = tt := ⟨_, rfl⟩
  rw [htt]
  replace htt := hide htt
  have B4 := hide b4
  clear b4
  go_wp2_with fail
  go_loopw [10] (fun x wr => ∃ i : Nat, i ≤ n' ∧ x = .int .i64 (i : Int) ∧ Hid (Below w3.heap.size w3 wr)) (fun x _ => n' - (intOf x).toNat)
  case atStart => exact ⟨0, Nat.zero_le _, rfl, B4⟩
  case round =>
    clear B4
    obtain ⟨i, hi, rfl, HB⟩ := hrel
    rename World => wr
    have BW : Hid (Below w.heap.size w wr) := B3.out.trans (HB.out.mono B3.out.size)
    by_cases hlt : i < n'
    · have j1 : (i : Int) < (n' : Int) := by omega
      have j2 : (0 : Int) ≤ (i : Int) := by omega
      obtain rfl := HA'.out (by omega)
      have hiT : i < T.length := by omega
      have s0 := (HTX.out wr BW.out).at' i hiT
      have HTI := hide (fun W h => (HTX.out W h).ok i hiT)
      have HTC := hide (fun W h => (HTX.out W h).at' i hiT)
      generalize T[i] = t at *
      unfold Txt.v at s0 HTC
      obtain ⟨nk, hnk⟩ : ∃ nk, t.s.length = nk := ⟨_, rfl⟩
      rw [hnk] at s0 HTC
      have hzk : nk ≤ 140737488351232 := by rw [← hnk]; exact (HTI.out wr BW.out).z
      replace hnk := hide hnk
      go_wp2_with fail
      refine (lent_any t.a nk t.c t.s wr hnk.out hzk (by have := (HTI.out wr BW.out).n; rw [hnk.out] at this; exact this) (HTI.out wr BW.out).r).mono ?_
      rintro e v1 ⟨rfl, hL1, hb1⟩
      have L1 := hide hL1
      have HB1 := hide (HB.out.trans (hb1.mono HB.out.size))
      have BW1 : Hid (Below w.heap.size w v1) := B3.out.trans (HB1.out.mono B3.out.size)
      generalize wr.heap.size = gk at *
      clear hL1 hb1 s0
      go_wp2_with fail
      refine (ffind_any (some ⟨g, 0, none⟩) g 0 n cap C (some ⟨gk, 0, none⟩) nk (nk + 2) t.s v1 HCL.out (by omega) (fun _ => rfl) ((HC.out.below HB1.out).sps (HS.out w3 B3.out).ok) L1.out.row hnk.out (HTI.out wr BW.out).b8).mono ?_
      rintro e v2 ⟨k, rfl, hsr, hb2⟩
      rw [HRW.out] at hsr
      have SR := hide hsr
      have L2 := hide (L1.out.below hb2 L1.out.lt)
      have HB2 := hide (HB1.out.trans (hb2.mono HB1.out.size))
      have BW2 : Hid (Below w.heap.size w v2) := B3.out.trans (HB2.out.mono B3.out.size)
      have s0 := HTC.out v2 BW2.out
      clear hsr hb2 L1
      go_wp2_with fail
      refine (kept_any gk t.a nk t.c t.s v2 hnk.out hzk L2.out (HTI.out v2 BW2.out).r).mono ?_
      rintro e v3 ⟨rfl, s3⟩
      have hb3 := s3.below v2.heap.size
      have HB3 := hide (HB2.out.trans (hb3.mono HB2.out.size))
      have BW3 : Hid (Below w.heap.size w v3) := B3.out.trans (HB3.out.mono B3.out.size)
      clear s3 hb3 L2 s0
      have s0 := HTC.out v3 BW3.out
      by_cases he : er = 0
      · subst he
        go_wp2_with fail
        refine (rffind_any a b o n c L t.a nk t.c t.s v3 HL.out (by omega) HA.out (HS.out v3 BW3.out) (HTI.out v3 BW3.out).r hnk.out hzk).mono ?_
        rintro e v4 ⟨k', rfl, hk', hb4⟩
        obtain rfl : k = k' := by
          have h := (CK.out.ok rfl).2.1
          rw [rws_len, HL.out] at h
          exact find_same h SR.out hk'
        have HB4 := hide (HB3.out.trans (hb4.mono HB3.out.size))
        clear hk' hb4 s0
        go_wp2_with fail
        go_roundw
        case rel => exact ⟨i + 1, by omega, by go_num, HB4⟩
        case measure => simp [intOf]; omega
      · have he' : (er == 0) = false := by simp [he]
        clear s0
        go_wp2_with fail
        go_roundw
        case rel => exact ⟨i + 1, by omega, by go_num, HB3⟩
        case measure => simp [intOf]; omega
    · have j1 : ¬ (i : Int) < (n' : Int) := by omega
      go_wp2_with fail
      refine (keptrows_any a w2.heap.size g cap b o n c C L wr HL.out (by omega) hcap (HC.out.below HB.out) HA.out (HS.out wr BW.out)).mono ?_
      rintro e v1 ⟨rfl, b1⟩
      have BV : Hid (Below w.heap.size w v1) := BW.out.trans (b1.mono BW.out.size)
      clear b1
      by_cases he : er = 0
      · subst he
        go_wp2_with fail
        refine (rtotal_any a b o n c L v1 HL.out (by omega) HA.out (HS.out v1 BV.out)).mono ?_
        rintro e v2 ⟨rfl, b2⟩
        rw [htt.out]
        have BV2 : Hid (Below w.heap.size w v2) := BV.out.trans (b2.mono BV.out.size)
        clear b2
        go_wp2_with fail
        go_ret
        exact ⟨rfl, BV2.out⟩
      · have he' : (er != 0) = true := by simp [he]
        go_wp2_with fail
        go_ret
        exact ⟨rfl, BV.out⟩

end Go.Proofs.Ytlachimmfjagbaa
