/- foot: the document's Check. -/
import Derived.Test.YtlachimmfjagbaaFTotal
namespace Go.Proofs.Ytlachimmfjagbaa
open Go.RowKit

theorem cmp_nilF {ks : List Int} (h : 1 ≤ ks.length) : cmpI [] ks < 0 := by
  cases ks with
  | nil => simp at h
  | cons x xs => show (-1 : Int) < 0; omega
/-- Between two rounds of the document's Check. -/
def Sp1 (W : World) (g : Nat) (s : Spn) (nk : Nat) : Prop := W.heap[g]? = some (.cells #[.slice s.ka nk s.kc, .int .i64 s.pl, .int .i64 s.ln, .int .i64 s.n] 33 (0, 0))

theorem drewN_drewNF (w : World) (q m : Nat) : (w.drewN q).drewN m = w.drewN (q + m) := by simp [World.drewN, Nat.add_assoc]

set_option maxRecDepth 100000 in
set_option maxHeartbeats 1600000 in
theorem rfcheck_any (a : Option Addr) (b o n c : Nat) (L : List Spn) (w : World) (hl : L.length = n) (hm : n ≤ 140737488351232) (ha : 0 < n → a = some ⟨b, o, none⟩) (hS : Sps w b o L) :
    Calls Try.prog 17 #[.slice a n c] w fun e w' => ∃ (m : Nat) (er : Int), e = .returned (.tuple #[.int .i64 (m : Int), .int .i64 er]) ∧ IsChk (rws L) m er ∧ Below w.heap.size w w' := by
  have HS := hide hS
  have HA := hide ha
  clear hS ha
  have HL : Hid ((rws L).length = n) := (rws_len L).trans hl
  go_enter Try.func17, Try.ntmps17
  by_cases hbig : 8388608 < n
  · have i1 : (8388608 : Int) < (n : Int) := by omega
    have HF : Hid (IsChk (rws L) 0 71) := .inl ⟨by rw [HL.out]; exact hbig, rfl, rfl⟩
    go_wp2_with fail
    go_ret2
    exact ⟨0, 71, rfl, HF.out, Below.refl _ _⟩
  · have i1 : ¬ (8388608 : Int) < (n : Int) := by omega
    go_wp2_with fail
    go_loopw [4, 5] (fun y x wr => ∃ i : Nat, i ≤ n ∧ x = .int .i64 (i : Int) ∧ y = .int .i64 (pAt (rws L) i) ∧ Hid (Gd (rws L) i) ∧ Hid (Below w.heap.size w wr)) (fun _ x _ => n - (intOf x).toNat)
    case atStart => exact ⟨0, Nat.zero_le _, rfl, rfl, fun _ h => absurd h (Nat.not_lt_zero _), Below.refl _ _⟩
    case round =>
      obtain ⟨i, hi, rfl, rfl, HG, HB⟩ := hrel
      rename World => wr
      by_cases hlt : i < n
      · have j1 : (i : Int) < (n : Int) := by omega
        have j2 : (0 : Int) ≤ (i : Int) := by omega
        obtain rfl := HA.out (by omega)
        have hiL : i < L.length := by omega
        have SV := (HS.out.below HB.out).c i hiL
        have OK := hide ((HS.out.below HB.out).ok i hiL)
        have s0 := SV.c0
        have s1 := SV.c1
        have s2 := SV.c2
        have s3 := SV.c3
        unfold Spn.kv at s0
        have hpb := HG.out.pos
        have hrow := rws_at L i hiL
        have HPREV : Hid (∀ m (h : m < L.length), i = m + 1 → wr.cell? ⟨b, o + m * 4, none⟩ = some (.slice L[m].ka L[m].ks.length L[m].kc) ∧ Row wr .u8 L[m].ka L[m].ks ∧ kAt (rws L) i = L[m].ks ∧ L[m].ks.length ≤ 140737488351232) := fun m h e => by
          have q := (HS.out.below HB.out).c m h
          have k := (HS.out.below HB.out).ok m h
          exact ⟨q.c0, k.k, by rw [e, kAt_succ, rws_at L m h]; rfl, k.zk⟩
        have HFA : Hid (fAt (rws L) i = flt (kAt (rws L) i) (pAt (rws L) i) L[i].row) := by show fAt _ _ = _; unfold fAt; rw [hrow]
        have HPS : Hid (pAt (rws L) (i + 1) = L[i].pl + L[i].ln) := by rw [pAt_succ, hrow]; rfl
        obtain ⟨ps, hps⟩ : ∃ ps, pAt (rws L) i = ps := ⟨_, rfl⟩
        rw [hps] at HFA hpb ⊢
        obtain ⟨kp, hkp⟩ : ∃ kp, kAt (rws L) i = kp := ⟨_, rfl⟩
        rw [hkp] at HFA HPREV
        have hk0 : i = 0 → kp = [] := fun e => by rw [← hkp, e]; rfl
        replace hk0 := hide hk0
        replace hps := hide hps
        clear SV hrow hkp
        generalize L[i] = s at *
        obtain ⟨nk, hnk⟩ : ∃ nk, s.ks.length = nk := ⟨_, rfl⟩
        rw [hnk] at s0
        obtain ⟨w1, hw1⟩ : ∃ w1, w1 = wr.alloc (.cells #[.slice s.ka nk s.kc, .int .i64 s.pl, .int .i64 s.ln, .int .i64 s.n] 33) := ⟨_, rfl⟩
        have bl : w1.heap[wr.heap.size]? = some (.cells #[.slice s.ka nk s.kc, .int .i64 s.pl, .int .i64 s.ln, .int .i64 s.n] 33 (0, 0)) := by rw [hw1]; exact heap_alloc_new wr _
        have b1 : Below wr.heap.size wr w1 := by rw [hw1]; exact (Below.refl _ _).alloc (Nat.le_refl _) _
        have HB1 := hide b1
        have BL := hide bl
        have HKEY := hide (rkey_any s.ka nk s.kc w1)
        obtain ⟨ek, hek⟩ : ∃ ek, ek = keyE nk := ⟨_, rfl⟩
        rw [← hek] at HKEY
        replace hek := hide hek
        have x0 : w1.cell? ⟨wr.heap.size, 0, none⟩ = some (.slice s.ka nk s.kc) := by rw [cell_of_row _ _ _ _ _ _ bl]; rfl
        clear bl b1
        go_upto_region 8 with fail
        rw [← hw1]
        clear hw1
        generalize hgr : wr.heap.size = gr at *
        replace hgr := hide hgr
        go_wp2_with fail
        refine keep HKEY.out ?_
        obtain ⟨bb, hbb⟩ : ∃ bb : Bool, bb = decide (¬ (ek = 0 ∧ cmpI kp s.ks < 0)) := ⟨_, rfl⟩
        replace hbb := hide hbb
        go_upto_region 9 with fail
        go_cut [24] (fun s24 wx => s24 = .bool bb ∧ Hid (Below w1.heap.size w1 wx))
        case first =>
          by_cases hk : ek = 0
          · subst hk
            by_cases hi0 : i = 0
            · subst hi0
              obtain rfl : bb = false := by
                rw [hbb.out, decide_eq_false_iff_not, Decidable.not_not, hk0.out rfl]
                refine ⟨rfl, cmp_nilF ?_⟩
                have := hek.out
                rcases keyE_cases nk with h | h <;> omega
              rw [show ((0 : Nat) : Int) = 0 from rfl] at *
              go_quiet (fail)
              go_wp2_with fail
              go_meet
              exact ⟨rfl, below_of_drewNF (Below.refl _ _) _⟩
            · obtain ⟨m, hm1⟩ : ∃ m, i = m + 1 := ⟨i - 1, by omega⟩
              obtain ⟨p0, p1, p2, p3⟩ := HPREV.out m (by omega) hm1
              have y0 : w1.cell? ⟨b, o + m * 4, none⟩ = some (.slice L[m].ka L[m].ks.length L[m].kc) := (HB1.out.cell (p := ⟨b, o + m * 4, none⟩) (by have := World.block_lt_of_cell? wr ⟨b, o + m * 4, none⟩ p0; have h2 := hgr.out; show b < gr; change b < wr.heap.size at this; omega)).trans p0
              have hz : wr.heap.size ≤ w1.heap.size := HB1.out.size
              obtain ⟨cv, hcv⟩ : ∃ cv, cv = cmpI kp s.ks := ⟨_, rfl⟩
              have hcr := cmpI_fits kp s.ks
              rw [← hcv] at hcr
              have HCM : Hid (∀ q, Calls Try.prog 39 #[.slice L[m].ka L[m].ks.length L[m].kc, .slice s.ka nk s.kc] (w1.drewN q) fun e w' => e = .returned (.int .i64 cv) ∧ ∃ m, w' = w1.drewN m) := fun q => by
                rw [hcv, p2]
                refine (rcompare_any L[m].ka s.ka L[m].ks.length L[m].kc nk s.kc L[m].ks s.ks (w1.drewN q) (by unfold maxLen; omega) (by have := OK.out.zk; unfold maxLen; omega) rfl hnk (show Row w1 .u8 _ _ from p1.below2 (by rw [hgr.out]; exact HB1.out)) (show Row w1 .u8 _ _ from OK.out.k.below2 (by rw [hgr.out]; exact HB1.out))).mono ?_
                rintro e w' ⟨rfl, m, rfl⟩
                exact ⟨rfl, _, drewN_drewNF w1 q m⟩
              have q1 : IntKind.i64.wrap ((i : Int) - 1) = (m : Int) := by rw [IntKind.wrap_i64]; omega
              have q3 : (m : Int) < (n : Int) := by omega
              have q4 : (0 : Int) < (i : Int) := by omega
              have q5 : (0 : Int) ≤ (m : Int) := by omega
              have q6 : 0 < i := by omega
              obtain rfl : bb = decide (0 ≤ cv) := by
                rw [hbb.out, hcv, decide_eq_decide]
                constructor
                · intro h
                  have : ¬ cmpI kp s.ks < 0 := fun q => h ⟨rfl, q⟩
                  omega
                · rintro h ⟨_, q⟩
                  omega
              generalize L[m].ka = pa at *
              generalize L[m].ks.length = pn at *
              generalize L[m].kc = pc at *
              clear hm1 p0 p1 p2 p3 hcv hz
              go_quiet ((go_at_call 39; with_reducible exact HCM.out _))
              go_wp2_with fail
              go_meet
              exact ⟨rfl, below_of_drewNF (Below.refl _ _) _⟩
          · obtain rfl : ek = 3 := by have := hek.out; rcases keyE_cases nk with h | h <;> omega
            obtain rfl : bb = true := by rw [hbb.out, decide_eq_true_iff]; exact fun h => hk h.1
            go_quiet (fail)
            go_wp2_with fail
            go_meet
            exact ⟨rfl, below_of_drewNF (Below.refl _ _) _⟩
        case rest =>
        obtain ⟨rfl, HBX⟩ := hcut
        rename World => w2
        have HB2 : Hid (Below w.heap.size w w2) := HB.out.trans ((HB1.out.mono (by rw [← hgr.out]; exact HB.out.size)).trans (HBX.out.mono (by have := HB.out.size; have := HB1.out.size; omega)))
        have BL2 := hide ((HBX.out.block gr (lt_of_block BL.out)).trans BL.out)
        have y1 : w2.cell? ⟨gr, 1, none⟩ = some (.int .i64 s.pl) := by rw [cell_of_row _ _ _ _ _ _ BL2.out]; rfl
        have y2 : w2.cell? ⟨gr, 2, none⟩ = some (.int .i64 s.ln) := by rw [cell_of_row _ _ _ _ _ _ BL2.out]; rfl
        have y3 : w2.cell? ⟨gr, 3, none⟩ = some (.int .i64 s.n) := by rw [cell_of_row _ _ _ _ _ _ BL2.out]; rfl
        have HEND : Hid (∀ er : Int, er ≠ 0 → flt kp ps s.row = er → IsChk (rws L) i er) := fun er h0 h => .inr ⟨by rw [HL.out]; omega, .inl ⟨by rw [HL.out]; exact hlt, HG.out, HFA.out.trans h, h0⟩⟩
        have rp := OK.out.rp
        have rl := OK.out.rl
        have rn := OK.out.rn
        unfold I64 at rp rl rn
        cases bb with
        | true =>
          have HF := hide (HEND.out 72 (by decide) (flt_key (by
            have h := of_decide_eq_true hbb.out.symm
            by_cases q : keyE s.row.k.length = 0
            · exact .inr (fun q2 => h ⟨by rw [hek.out, ← hnk]; exact q, q2⟩)
            · exact .inl q)))
          go_wp2_with fail
          go_ret2
          exact ⟨i, 72, rfl, HF.out, HB2.out⟩
        | false =>
          have HK : Hid (KeyOk kp s.row) := by
            have h := Decidable.not_not.1 (of_decide_eq_false hbb.out.symm)
            exact ⟨by show keyE s.ks.length = 0; rw [hnk, ← hek.out]; exact h.1, h.2⟩
          by_cases hp : s.pl = ps
          · by_cases hln : 1 ≤ s.ln ∧ s.ln ≤ 131072
            · by_cases hnn : 1 ≤ s.n ∧ s.n ≤ 64
              · have HN : Hid (Gd (rws L) (i + 1)) := HG.out.succ (HFA.out.trans (flt_good HK.out (fun j hj => by
                  match j, hj with
                  | 0, _ => exact hp
                  | 1, _ => exact hln
                  | 2, _ => exact hnn)))
                have l1 : ¬ s.ln < 1 := by omega
                have l2 : ¬ 131072 < s.ln := by omega
                have n1 : ¬ s.n < 1 := by omega
                have n2 : ¬ 64 < s.n := by omega
                have HQ : Hid (pAt (rws L) (i + 1) = ps + s.ln) := by rw [← hp]; exact HPS.out
                have q9 : IntKind.i64.wrap (ps + s.ln) = ps + s.ln := by rw [IntKind.wrap_i64]; omega
                have hpe : (s.pl != ps) = false := by simp [hp]
                go_wp2_with fail
                go_roundw
                case rel => exact ⟨i + 1, by omega, by go_num, by rw [HQ.out], HN, HB2⟩
                case measure => simp [intOf]; omega
              · have HF := hide (HEND.out 75 (by decide) (flt_rule HK.out 2 (by omega) (fun j hj => by
                  match j, hj with
                  | 0, _ => exact hp
                  | 1, _ => exact hln) hnn))
                have l1 : ¬ s.ln < 1 := by omega
                have l2 : ¬ 131072 < s.ln := by omega
                have hpe : (s.pl != ps) = false := by simp [hp]
                by_cases n1 : s.n < 1
                · go_wp2_with fail
                  go_ret2
                  exact ⟨i, 75, rfl, HF.out, HB2.out⟩
                · have n2 : 64 < s.n := by omega
                  go_wp2_with fail
                  go_ret2
                  exact ⟨i, 75, rfl, HF.out, HB2.out⟩
            · have HF := hide (HEND.out 74 (by decide) (flt_rule HK.out 1 (by omega) (fun j hj => by
                match j, hj with
                | 0, _ => exact hp) hln))
              have hpe : (s.pl != ps) = false := by simp [hp]
              by_cases l1 : s.ln < 1
              · go_wp2_with fail
                go_ret2
                exact ⟨i, 74, rfl, HF.out, HB2.out⟩
              · have l2 : 131072 < s.ln := by omega
                go_wp2_with fail
                go_ret2
                exact ⟨i, 74, rfl, HF.out, HB2.out⟩
          · have HF := hide (HEND.out 73 (by decide) (flt_rule HK.out 0 (by omega) (fun j hj => absurd hj (Nat.not_lt_zero j)) hp))
            have hpe : (s.pl != ps) = true := by simp [hp]
            go_wp2_with fail
            go_ret2
            exact ⟨i, 73, rfl, HF.out, HB2.out⟩
      · have j1 : ¬ (i : Int) < (n : Int) := by omega
        obtain rfl : i = n := by omega
        have HF : Hid (IsChk (rws L) 0 0) := .inr ⟨by rw [HL.out]; omega, .inr ⟨by rw [HL.out]; exact HG.out, rfl, rfl⟩⟩
        go_wp2_with fail
        go_ret2
        exact ⟨0, 0, rfl, HF.out, HB.out⟩

end Go.Proofs.Ytlachimmfjagbaa
