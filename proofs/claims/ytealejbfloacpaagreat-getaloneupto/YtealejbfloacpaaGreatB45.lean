/- Texts of one's own. -/
import Derived.Test.YtealejbfloacpaaGreatB30
import Derived.Test.YtealejbfloacpaaGreatB29
import Derived.Test.YtealejbfloacpaaGreatB38
import Derived.Test.YtealejbfloacpaaGreatB44
import Derived.Test.YtealejbfloacpaaGreatB42
import Derived.Test.YtealejbfloacpaaGreatB17
import Derived.Deep.DeepCutAuto
namespace Go.Proofs.YtealejbfloacpaaGreat
open Go.RowKit
set_option maxRecDepth 100000
/-- A script of turns in memory. -/
structure TOps (N : Nat) (W : World) (a : Option Addr) (L : List TOp) : Prop where
  c : ∀ i (h : i < L.length), ∃ b o, a = some ⟨b, o, none⟩ ∧ b < N ∧ ∀ j (v : Value), L[i].cs[j]? = some v → W.cell? ⟨b, o + i * 13 + j, none⟩ = some v
  ok : ∀ x ∈ L, x.Ok (fun k => k < N) W
theorem TOp.Ok.below {N : Nat} {W W' : World} {o : TOp} (h : o.Ok (fun k => k < N) W) (hb : Below W.heap.size W W') : o.Ok (fun k => k < N) W' := ⟨h.k1, h.a1, h.b1, h.key.below hb, h.value.below hb, h.n.below hb, h.i⟩
theorem TOps.below {W W' : World} {a : Option Addr} {L : List TOp} (h : TOps W.heap.size W a L) (hb : Below W.heap.size W W') : TOps W.heap.size W' a L := by
  refine ⟨fun i hi => ?_, fun x hx => (h.ok x hx).below hb⟩
  obtain ⟨b, o, ha, hk, hc⟩ := h.c i hi
  exact ⟨b, o, ha, hk, fun j v hv => (hb.cell (p := ⟨b, o + i * 13 + j, none⟩) hk).trans (hc j v hv)⟩
theorem chp_l {W w' : World} {nd lf inn fl bk : Int} {s : AS} {e : Ending} {x : Int × Int} (h : ChP W nd lf inn fl bk s e w') (hl : s.look nd lf inn fl bk = .inl x) : ∃ i er, e = .returned (.agg #[.bool false, .int .i64 i, .int .i64 er, .int .i64 0, .int .i64 0, .int .i64 0]) ∧ Below W.heap.size W w' := by
  obtain ⟨v, rfl, hr, hb⟩ := h
  rcases hr with ⟨id, er, _, rfl⟩ | ⟨ls, c, h1, _⟩
  · exact ⟨id, er, rfl, hb⟩
  · rw [hl] at h1; cases h1
theorem chp_r {W w' : World} {nd lf inn fl bk : Int} {s : AS} {e : Ending} {x : List Chn} (h : ChP W nd lf inn fl bk s e w') (hl : s.look nd lf inn fl bk = .inr x) : ∃ a b c, e = .returned (.agg #[.bool true, .int .i64 0, .int .i64 0, .int .i64 a, .int .i64 b, .int .i64 c]) ∧ Below W.heap.size W w' := by
  obtain ⟨v, rfl, hr, hb⟩ := h
  rcases hr with ⟨id, er, h1, _⟩ | ⟨ls, c, h1, _, rfl⟩
  · rw [hl] at h1; cases h1
  · exact ⟨_, _, _, rfl, hb⟩
set_option maxRecDepth 100000 in
set_option maxHeartbeats 25600000 in
theorem getAlone_any (aS : Option Addr) (lS cS : Nat) (kx : Tx) (L : List TOp) (w : World)
    (hL : L.length = lS) (hO : TOps w.heap.size w aS L) (hS : ∀ x ∈ L, SzP 1048576 x.n.p) (hlS : lS ≤ 1048576) (hk : kx.Ok w) :
    Calls Tryz.prog 3 #[.slice aS lS cS, kx.v] w fun e w' => e = .returned (.bool true) ∧ Below w.heap.size w w' := by
  obtain ⟨ka, kc, kz⟩ := kx
  simp only [Tx.v]
  obtain ⟨kl, hkl⟩ : ∃ kl, kz.length = kl := ⟨_, rfl⟩
  rw [hkl]
  have HKL := hide hkl
  have HHD := hide (ghead_any w)
  have HBG : Hid (∀ W, Calls Tryz.prog 10 #[.int .i64 60] W (BegP W 60)) := fun W => begun_good 60 W (by decide) (by decide)
  have HO := hide hO
  have HLL := hide hL
  have HSZ := hide hS
  have HK := hide hk
  have HLS := hide hlS
  have hlS2 : (lS : Int) ≤ 9223372036854775807 := by omega
  clear hO hL hlS hk hkl hS
  go_enter Tryz.func3, Tryz.ntmps3
  go_wp2_with fail
  refine HHD.out.mono ?_
  rintro e w1 ⟨rfl, hb1⟩
  have B1 := hide hb1
  clear hb1 HHD
  go_wp2_with fail
  refine (HBG.out w1).mono ?_
  rintro e w2 ⟨P, AX, AY, rfl, hA, hb⟩
  obtain ⟨K, hK⟩ : ∃ K : Nat → Prop, K = fun k => k < w1.heap.size ∨ k = P := ⟨_, rfl⟩
  rw [← hK] at hA
  have KW : Hid (∀ k, k < w.heap.size → K k) := fun k hk => by rw [hK]; exact .inl (Nat.lt_of_lt_of_le hk B1.out.size)
  have H1 : Hid (∃ s, AW K w2 P AX AY s s ∧ SI s (1048576 + 0) ∧ Upd (fun k => ¬ K k) w2 w2) := ⟨_, hA, SI.new _ _, Upd.refl _ _⟩
  have HBW : Hid (∀ W, Upd (fun k => ¬ K k) w2 W → Below w.heap.size w W) := fun W hU => B1.out.trans ((hb.trans (hU.below hb.size (fun k hk e => e (by rw [hK]; exact .inl hk)))).mono B1.out.size)
  have HOPS : Hid (∀ W, Upd (fun k => ¬ K k) w2 W → TOps w.heap.size W aS L) := fun W hU => HO.out.below (HBW.out W hU)
  clear hA hb hK HBG HO
  go_wp2_with fail
  go_loopw [8] (fun q8 wr => ∃ i : Nat, i ≤ lS ∧ q8 = .int .i64 (i : Int) ∧ Hid (∃ s, AW K wr P AX AY s s ∧ SI s (1048576 + i) ∧ Upd (fun k => ¬ K k) w2 wr)) (fun q8 _ => lS - (intOf q8).toNat)
  case atStart => exact ⟨0, Nat.zero_le _, rfl, H1⟩
  case round =>
    clear H1
    obtain ⟨i, hi, rfl, HI⟩ := hrel
    rename World => wr
    by_cases hlt : i < lS
    · have j1 : (i : Int) < (lS : Int) := by omega
      have hiL : i < L.length := by rw [HLL.out]; exact hlt
      obtain ⟨s, hA, hSI, hU⟩ := HI.out
      have hops := HOPS.out wr hU
      obtain ⟨ob, oo, hoa, hok, hoc⟩ := hops.c i hiL
      subst hoa
      have oko := hops.ok L[i] (List.getElem_mem hiL)
      have hsz := HSZ.out L[i] (List.getElem_mem hiL)
      have TN := hide (turn_any hA hSI L[i] ⟨oko.k1, oko.a1, oko.b1, oko.key, oko.value, oko.n, oko.i.mono (fun k hk => KW.out k hk)⟩ (hsz.mono (by omega)) (by have := HLS.out; omega))
      have HSK : Hid (∃ s, AW K wr P AX AY s s ∧ SI s (1048576 + (i + 1)) ∧ Upd (fun k => ¬ K k) w2 wr) := ⟨s, hA, hSI.mono (by omega), hU⟩
      have HU := hide hU
      generalize L[i] = op at *
      obtain ⟨kd, ra, rb, ⟨k1a, k1c, k1⟩, ⟨k2a, k2c, k2⟩, ⟨k3a, k3c, k3⟩, ch', ⟨lv, ⟨ha, hc, hs⟩, ri, ⟨ka', kc', KL⟩, ⟨va, vc, V⟩, ⟨ca, cc, C⟩⟩⟩ := op
      simp only [TOp.v, TOp.cs, Tx.v, TL.v, IL.v] at TN hoc
      have e0 : wr.cell? ⟨ob, oo + i * 13, none⟩ = some (.int .i64 kd) := hoc 0 _ rfl
      have e1 : wr.cell? ⟨ob, oo + i * 13 + 1, none⟩ = some (.int .i64 ra) := hoc 1 _ rfl
      have e2 : wr.cell? ⟨ob, oo + i * 13 + 2, none⟩ = some (.int .i64 rb) := hoc 2 _ rfl
      have e3 : wr.cell? ⟨ob, oo + i * 13 + 3, none⟩ = some (.slice k1a k1.length k1c) := hoc 3 _ rfl
      have e4 : wr.cell? ⟨ob, oo + i * 13 + 4, none⟩ = some (.slice k2a k2.length k2c) := hoc 4 _ rfl
      have e5 : wr.cell? ⟨ob, oo + i * 13 + 5, none⟩ = some (.slice k3a k3.length k3c) := hoc 5 _ rfl
      have e6 : wr.cell? ⟨ob, oo + i * 13 + 6, none⟩ = some (.bool ch') := hoc 6 _ rfl
      have e7 : wr.cell? ⟨ob, oo + i * 13 + 7, none⟩ = some (.int .i64 lv) := hoc 7 _ rfl
      have e8 : wr.cell? ⟨ob, oo + i * 13 + 8, none⟩ = some (.slice ha hs.length hc) := hoc 8 _ rfl
      have e9 : wr.cell? ⟨ob, oo + i * 13 + 9, none⟩ = some (.int .i64 ri) := hoc 9 _ rfl
      have e10 : wr.cell? ⟨ob, oo + i * 13 + 10, none⟩ = some (.slice ka' KL.length kc') := hoc 10 _ rfl
      have e11 : wr.cell? ⟨ob, oo + i * 13 + 11, none⟩ = some (.slice va V.length vc) := hoc 11 _ rfl
      have e12 : wr.cell? ⟨ob, oo + i * 13 + 12, none⟩ = some (.slice ca C.length cc) := hoc 12 _ rfl
      generalize k1.length = l1 at *
      generalize k2.length = l2 at *
      generalize k3.length = l3 at *
      generalize hs.length = lh at *
      generalize KL.length = lk at *
      generalize V.length = lw at *
      generalize C.length = lc at *
      clear hops hok hoc oko hsz hA hSI hU HI
      by_cases h4 : kd = 4
      · subst h4
        clear TN HU e1 e2 e3 e4 e5 e6 e7 e8 e9 e10 e11 e12
        go_wp2_with fail
        go_roundw
        case rel => exact ⟨i + 1, by omega, by go_num, HSK⟩
        case measure => simp [intOf]; omega
      · have q4 : (kd == 4) = false := by rw [beq_eq_false_iff_ne]; exact h4
        by_cases h6 : kd ≤ 6
        · clear HSK
          go_wp2_with fail
          refine TN.out.mono ?_
          rintro e w3 ⟨s', ⟨rfl, hA3, hU3⟩, hSI3⟩
          have HI3 : Hid (∃ s, AW K w3 P AX AY s s ∧ SI s (1048576 + (i + 1)) ∧ Upd (fun k => ¬ K k) w2 w3) := ⟨s', hA3, hSI3, HU.out.trans hU3⟩
          clear hA3 hU3 hSI3 e0 e1 e2 e3 e4 e5 e6 e7 e8 e9 e10 e11 e12 TN HU
          go_wp2_with fail
          go_roundw
          case rel => exact ⟨i + 1, by omega, by go_num, HI3⟩
          case measure => simp [intOf]; omega
        · clear TN HU e1 e2 e3 e4 e5 e6 e7 e8 e9 e10 e11 e12
          go_wp2_with fail
          go_roundw
          case rel => exact ⟨i + 1, by omega, by go_num, HSK⟩
          case measure => simp [intOf]; omega
    · have j1 : ¬ (i : Int) < (lS : Int) := by omega
      obtain ⟨s, hA, hSI, hU⟩ := HI.out
      have HA := hide hA
      have BA := hide (HBW.out wr hU)
      have HKA := hide (HK.out.below BA.out)
      have hlen := hA.len.1
      have hlP : P < wr.heap.size := hA.klt P hA.kp
      clear HI hA hSI hU HBW HOPS HLL HK KW B1 HSZ HLS hlS2
      -- BEHIND
      have HF : Hid (∀ Y, Below wr.heap.size wr Y → AW K Y P AX AY s s ∧ (⟨ka, kc, kz⟩ : Tx).Ok Y ∧ Below w.heap.size w Y ∧ Y.cell? ⟨P, 0, none⟩ = some (.pointer (some ⟨AX, 0, none⟩)) ∧ Y.cell? ⟨P, 1, none⟩ = some (.pointer (some ⟨AY, 0, none⟩))) := fun Y hb => ⟨HA.out.below hb, HKA.out.below hb, BA.out.trans (hb.mono BA.out.size), (HA.out.below hb).cells.1, (HA.out.below hb).cells.2⟩
      have HKY : Hid (∀ W, Calls Tryz.prog 12 #[.slice ka kl kc] W fun e w' => e = .returned (.bool (decide (kOk kz))) ∧ w' = W) := fun W => by
        have := rkey_any ka kl kc W
        rw [← HKL.out] at this ⊢
        exact this
      obtain ⟨good, hgood⟩ : ∃ b, decide (kOk kz) = b := ⟨_, rfl⟩
      rw [hgood] at HKY
      have HGD := hide hgood
      have HWD : Hid (∀ Y, Below wr.heap.size wr Y → Calls Tryz.prog 14 #[] Y fun e w' => e = .returned (.agg #[.int .i64 60, .int .i64 64, .int .i64 64, .int .i64 1, .int .i64 1]) ∧ Below wr.heap.size wr w' ∧ w'.cell? ⟨P, 1, none⟩ = some (.pointer (some ⟨AY, 0, none⟩))) := fun Y hb => (gwide_any Y).mono fun e w' ⟨h1, h2⟩ => by
        have h3 := hb.trans (h2.mono hb.size)
        exact ⟨h1, h3, (HF.out _ h3).2.2.2.2⟩
      have HCK : Hid (∀ Y, Below wr.heap.size wr Y → Calls Tryz.prog 13 #[.pointer (some ⟨AY, 0, none⟩), .agg #[.int .i64 60, .int .i64 64, .int .i64 64, .int .i64 1, .int .i64 1]] Y (ChP Y 60 64 64 1 1 s)) := fun Y hb => by
        obtain ⟨F, hp⟩ := (HF.out Y hb).1.rx
        exact rcheck11_any hp 60 64 64 1 1
      have FLD : ∀ (b : Bool) (i e l n m : Int) (Y : World), (Instr.field 42 (.agg #[.bool b, .int .i64 i, .int .i64 e, .int .i64 l, .int .i64 n, .int .i64 m]) 0).run Tryz.prog Y = .ok (.bool b) Y := fun b i e l n m Y => by kernel_rfl
      clear hgood HA
      go_wp2_with fail
      refine keep (HKY.out _) ?_
      go_upto_region 11 with fail
      have p1 := (HF.out wr (Below.refl _ _)).2.2.2.2
      cases hlook : s.look 60 64 64 1 1 with
      | inl x =>
        have HLK := hide hlook
        clear hlook
        have HCL : Hid (∀ Y, Below wr.heap.size wr Y → Calls Tryz.prog 13 #[.pointer (some ⟨AY, 0, none⟩), .agg #[.int .i64 60, .int .i64 64, .int .i64 64, .int .i64 1, .int .i64 1]] Y fun e w' => (∃ i er, e = .returned (.agg #[.bool false, .int .i64 i, .int .i64 er, .int .i64 0, .int .i64 0, .int .i64 0])) ∧ Below wr.heap.size wr w' ∧ w'.cell? ⟨P, 1, none⟩ = some (.pointer (some ⟨AY, 0, none⟩))) := fun Y hb => (HCK.out Y hb).mono fun e w' hq => by
          obtain ⟨i, er, h1, h2⟩ := chp_l hq HLK.out
          have h3 := hb.trans (h2.mono hb.size)
          exact ⟨⟨i, er, h1⟩, h3, (HF.out _ h3).2.2.2.2⟩
        go_region_held3 (fun Y => Y.cell? ⟨P, 1, none⟩ = some (.pointer (some ⟨AY, 0, none⟩))) (go_keep) (first
          | (go_at_call 14; refine (HWD.out _ (below_drew (Below.refl _ _))).mono ?_; rintro e w9 ⟨rfl, hb9, k9⟩; have B9 := hide hb9; clear hb9)
          | (go_at_call 13; refine (HCL.out _ (by first | exact B9.out | exact below_drew B9.out)).mono ?_; rintro e w8 ⟨⟨i8, er8, rfl⟩, hb8, k8⟩; have B8 := hide hb8; clear hb8)
          | fail)
        all_goals
          have HFIN := hide (HF.out _ B8.out).2.2.1
          go_wp2_with fail
          go_ret
          exact ⟨rfl, HFIN.out⟩
      | inr ls =>
        have HLK := hide hlook
        clear hlook
        have HCL : Hid (∀ Y, Below wr.heap.size wr Y → Calls Tryz.prog 13 #[.pointer (some ⟨AY, 0, none⟩), .agg #[.int .i64 60, .int .i64 64, .int .i64 64, .int .i64 1, .int .i64 1]] Y fun e w' => (∃ a b c, e = .returned (.agg #[.bool true, .int .i64 0, .int .i64 0, .int .i64 a, .int .i64 b, .int .i64 c])) ∧ Below wr.heap.size wr w' ∧ w'.cell? ⟨P, 1, none⟩ = some (.pointer (some ⟨AY, 0, none⟩))) := fun Y hb => (HCK.out Y hb).mono fun e w' hq => by
          obtain ⟨a, b, c, h1, h2⟩ := chp_r hq HLK.out
          have h3 := hb.trans (h2.mono hb.size)
          exact ⟨⟨a, b, c, h1⟩, h3, (HF.out _ h3).2.2.2.2⟩
        go_cut [75] (fun s75 wx => s75 = .bool false ∧ Hid (Below wr.heap.size wr wx))
        case first =>
          go_region_held3 (fun Y => Y.cell? ⟨P, 1, none⟩ = some (.pointer (some ⟨AY, 0, none⟩))) (go_keep) (first
            | (go_at_call 14; refine (HWD.out _ (below_drew (Below.refl _ _))).mono ?_; rintro e w9 ⟨rfl, hb9, k9⟩; have B9 := hide hb9; clear hb9)
            | (go_at_call 13; refine (HCL.out _ (by first | exact B9.out | exact below_drew B9.out)).mono ?_; rintro e w8 ⟨⟨a8, b8, c8, rfl⟩, hb8, k8⟩; have B8 := hide hb8; clear hb8)
            | fail)
          all_goals
            go_wp2_with fail
            go_meet
            exact ⟨rfl, B8⟩
        case rest =>
        rename World => wx
        obtain ⟨rfl, BX⟩ := hcut
        clear p1 HCL HWD HCK HKY FLD
        obtain ⟨ln, hln⟩ : ∃ x, s.sl.length = x := ⟨_, rfl⟩
        have HLN := hide hln
        have hlz : ln ≤ 65536 := by rw [← hln]; exact hlen
        have HSND := hide (look_snd HLK.out)
        have HF2 : Hid (∀ Y, Below wx.heap.size wx Y → AW K Y P AX AY s s ∧ (⟨ka, kc, kz⟩ : Tx).Ok Y ∧ Below w.heap.size w Y ∧ Y.cell? ⟨P, 0, none⟩ = some (.pointer (some ⟨AX, 0, none⟩)) ∧ Y.cell? ⟨P, 1, none⟩ = some (.pointer (some ⟨AY, 0, none⟩))) := fun Y hb => HF.out Y (BX.out.trans (hb.mono BX.out.size))
        have HGN := hide (gnew_any (A := AX) ⟨ka, kc, kz⟩ (HF.out wx BX.out).2.1)
        simp only [Tx.v] at HGN
        rw [HKL.out] at HGN
        have c0 := (HF.out wx BX.out).2.2.2.1
        clear hln hlen HF hlP BA HKA HLK BX
        go_wp2_with fail
        refine HGN.out.mono ?_
        rintro e w3 ⟨Pm, p, kt, vt, D, rfl, hgp, hPm, hD, hb3⟩
        have H3 : Hid (∃ vt D, GP w3 Pm AX p kt vt D ((GS.new kz).run s 0) ∧ (∀ x, D x → wx.heap.size ≤ x) ∧ Below wx.heap.size wx w3 ∧ (∀ m, m < 0 → ((GS.new kz).run s m).thr = false) ∧ ((GS.new kz).run s 0).thr = false) := ⟨vt, D, hgp, hD, hb3, fun m hm => (by omega), rfl⟩
        have HPM := hide hPm
        clear hgp hPm hD hb3 HGN c0
        go_wp2_with fail
        go_loopw [11, 12] (fun q11 q12 wy => ∃ (n : Nat) (th : Bool), n ≤ 1 + 4 * ln ∧ q11 = .int .i64 (n : Int) ∧ q12 = .bool th ∧ Hid (∃ vt D, GP wy Pm AX p kt vt D ((GS.new kz).run s n) ∧ (∀ x, D x → wx.heap.size ≤ x) ∧ Below wx.heap.size wx wy ∧ (∀ m, m < n → ((GS.new kz).run s m).thr = false) ∧ ((GS.new kz).run s n).thr = th)) (fun q11 _ _ => 2 + 4 * ln - (intOf q11).toNat)
        case atStart => exact ⟨0, false, Nat.zero_le _, rfl, rfl, H3.out⟩
        case round =>
          clear H3
          obtain ⟨n, th, hn, rfl, rfl, HI⟩ := hrel
          rename World => wy
          obtain ⟨vt, D, hgp, hD, hby, hm, hth⟩ := HI.out
          cases th with
          | false =>
            obtain ⟨hv0, ht0, he0, hn0, htk⟩ := gwait HSND.out hth
            rw [HLN.out] at hn0
            have HAN : Hid (Calls Tryz.prog 16 #[.pointer (some ⟨Pm, 0, none⟩)] wy fun e w' => ∃ va vc, e = .returned (.tuple #[.slice va 0 vc, .bool false, .int .i64 0]) ∧ Below wy.heap.size wy w') := (ganswer_any hgp).mono fun e w' ⟨v, h1, h2, _, _, h5⟩ => ⟨v.a, v.c, by rw [h1, ht0, he0]; simp only [Tx.v, h2, hv0, List.length_nil], h5⟩
            have HST : Hid (∀ w4, Below wy.heap.size wy w4 → Calls Tryz.prog 18 #[.pointer (some ⟨Pm, 0, none⟩)] w4 fun e w' => ∃ b, e = .returned (.tuple #[.bool b, .bool b]) ∧ (∃ vt D, GP w' Pm AX p kt vt D ((GS.new kz).run s (n + 1)) ∧ (∀ x, D x → wx.heap.size ≤ x) ∧ Below wx.heap.size wx w' ∧ (∀ m, m < n + 1 → ((GS.new kz).run s m).thr = false) ∧ ((GS.new kz).run s (n + 1)).thr = b)) := fun w4 hb4 => by
              have B4 := hby.trans (hb4.mono hby.size)
              have hg4 : GP w4 Pm AX p kt vt D ((GS.new kz).run s n) := hgp.upd (S := Noth) (Upd.of_below hb4 _) (fun _ _ e => e)
              obtain ⟨F, hp⟩ := (HF2.out w4 B4).1.px
              have hcn := GS.run_cnt (key := kz) s n
              refine (gstep_any hg4 hp (by omega) (by omega)).mono ?_
              rintro e w5 ⟨he, vt', D', h1, h2, h3⟩
              refine ⟨((GS.new kz).run s (n + 1)).thr, by rw [he, htk]; rfl, vt', D', h1, fun x hx => ?_, ?_, fun m hm' => ?_, rfl⟩
              · rcases h2 x hx with h | h
                · exact hD x h
                · exact Nat.le_trans B4.size h
              · exact B4.trans (h3.below B4.size (fun k hk e => by
                  rcases e with rfl | rfl
                  · exact absurd hk (by have := HPM.out; omega)
                  · exact absurd hk (by have := hD _ hgp.dp; omega)))
              · by_cases hmn : m < n
                · exact hm m hmn
                · rw [show m = n by omega]; exact hth
            have HUS : Hid (∀ w4, Below wy.heap.size wy w4 → Calls Tryz.prog 17 #[.pointer (some ⟨AY, 0, none⟩)] w4 fun e w' => e = .returned (.int .i64 (ln : Nat)) ∧ w' = w4) := fun w4 hb4 => by
              have := aw_usedY (HF2.out w4 (hby.trans (hb4.mono hby.size))).1
              rw [HLN.out] at this
              exact this
            have HC1 : Hid (∀ w4, Below wy.heap.size wy w4 → w4.cell? ⟨P, 1, none⟩ = some (.pointer (some ⟨AY, 0, none⟩))) := fun w4 hb4 => (HF2.out w4 (hby.trans (hb4.mono hby.size))).2.2.2.2
            have z1 : IntKind.i64.wrap (4 * (ln : Int)) = 4 * (ln : Int) := by rw [IntKind.wrap_i64]; omega
            have z2 : IntKind.i64.wrap (1 + 4 * (ln : Int)) = 1 + 4 * (ln : Int) := by rw [IntKind.wrap_i64]; omega
            have z3 : ¬ (n : Int) > 1 + 4 * (ln : Int) := by omega
            have z4 : IntKind.i64.wrap ((n : Int) + 1) = ((n + 1 : Nat) : Int) := by rw [IntKind.wrap_i64]; omega
            clear hgp hD hby hm hth hv0 ht0 he0 htk HI
            go_wp2_with fail
            refine HAN.out.mono ?_
            rintro e w4 ⟨va, vc, rfl, hb4⟩
            have c1 := HC1.out w4 hb4
            have HU4 := hide (HUS.out w4 hb4)
            have HS4 := hide (HST.out w4 hb4)
            clear hb4 HAN HUS HST HC1
            go_wp2_with fail
            refine keep HU4.out ?_
            go_wp2_with fail
            refine HS4.out.mono ?_
            rintro e w5 ⟨b, rfl, hnx⟩
            have HNX := hide hnx
            clear hnx HS4 HU4 c1
            cases b with
            | false =>
              go_wp2_with fail
              go_roundw
              case rel => exact ⟨n + 1, false, by omega, by go_num, rfl, HNX⟩
              case measure => simp [intOf]; omega
            | true =>
              go_wp2_with fail
              go_roundw
              case rel => exact ⟨n + 1, true, by omega, by go_num, rfl, HNX⟩
              case measure => simp [intOf]; omega
          | true =>
            -- THROUGH
            obtain ⟨g, hg⟩ : ∃ g, g = (GS.new kz).run s n := ⟨_, rfl⟩
            have HG : Hid (if good = true then g.err = 0 ∧ g.the = (mapV s.map kz).isSome ∧ g.val = (mapV s.map kz).getD [] else n = 1 ∧ g.err = 3 ∧ g.the = false ∧ g.val = []) := by
              show if _ then _ else _
              by_cases hk : kOk kz
              · rw [show good = true by rw [← HGD.out]; exact decide_eq_true hk, if_pos rfl, hg]
                exact galone HSND.out hk hth
              · rw [show good = false by rw [← HGD.out]; exact decide_eq_false hk, if_neg (by decide)]
                have hn1 : n = 1 := by
                  rcases Nat.lt_trichotomy n 1 with h | h | h
                  · have : n = 0 := by omega
                    subst this
                    exact absurd hth (by show ¬ (false = true); decide)
                  · exact h
                  · have := hm 1 h
                    rw [grun_not hk s 0] at this
                    cases this
                subst hn1
                rw [hg, grun_not hk s 0]
                exact ⟨rfl, rfl, rfl, rfl⟩
            have hst : g.step s = g := by rw [hg]; unfold GS.step; rw [if_pos hth]
            have htk : g.took s = false := by rw [hg]; unfold GS.took; rw [if_pos hth]
            have htg : g.thr = true := by rw [hg]; exact hth
            have hcn := GS.run_cnt (key := kz) s n
            rw [← hg] at hgp hcn
            obtain ⟨F, hp⟩ := (HF2.out wy hby).1.px
            have HST : Hid (Calls Tryz.prog 18 #[.pointer (some ⟨Pm, 0, none⟩)] wy fun e w' => e = .returned (.tuple #[.bool true, .bool false]) ∧ (∃ vt D, GP w' Pm AX p kt vt D g) ∧ Below wx.heap.size wx w') := by
              refine (gstep_any hgp hp (by omega) (by omega)).mono ?_
              rintro e w5 ⟨he, vt', D', h1, h2, h3⟩
              rw [hst] at he h1
              rw [htk, htg] at he
              refine ⟨he, ⟨vt', D', h1⟩, hby.trans (h3.below hby.size (fun k hk e => ?_))⟩
              rcases e with rfl | rfl
              · exact absurd hk (by have := HPM.out; omega)
              · exact absurd hk (by have := hD _ hgp.dp; omega)
            clear hgp hD hby hm hth HI hst htk htg hcn hp hg HPM
            go_wp2_with fail
            refine HST.out.mono ?_
            rintro e w5 ⟨rfl, ⟨vt, D, hg5⟩, hb5⟩
            have HAN : Hid (Calls Tryz.prog 16 #[.pointer (some ⟨Pm, 0, none⟩)] w5 fun e w' => ∃ va vl vc vz, e = .returned (.tuple #[.slice va vl vc, .bool g.the, .int .i64 g.err]) ∧ vz.length = vl ∧ vz = g.val ∧ (⟨va, vc, vz⟩ : Tx).Ok w' ∧ Below wx.heap.size wx w') := (ganswer_any hg5).mono fun e w' ⟨v, h1, h2, _, h4, h5⟩ => ⟨v.a, _, v.c, v.s, h1, rfl, h2, h4, hb5.trans (h5.mono hb5.size)⟩
            clear hg5 hb5 HST
            go_wp2_with fail
            refine HAN.out.mono ?_
            rintro e w6 ⟨va, vl, vc, vz, rfl, hvl, hvz, hvok, hb6⟩
            have HV : Hid (vz.length = vl ∧ vz = g.val ∧ (⟨va, vc, vz⟩ : Tx).Ok w6) := ⟨hvl, hvz, hvok⟩
            have B6 := hide hb6
            have c1 := (HF2.out w6 hb6).2.2.2.2
            have HMP : Hid (Calls Tryz.prog 20 #[.pointer (some ⟨AY, 0, none⟩)] w6 (MpP w6 s.map)) := by
              obtain ⟨F, hp⟩ := (HF2.out w6 hb6).1.rx
              obtain ⟨q1, q2, q3, q4⟩ := snd_on HSND.out
              exact rmapC_any hp _ q1 q2 q3 q4
            clear hvl hvz hvok hb6 HAN HSND
            go_wp2_with fail
            refine HMP.out.mono ?_
            rintro e w7 ⟨E, v, rfl, hrow, hown, hE, hb7⟩
            obtain ⟨nE, hnE⟩ : ∃ x, E.length = x := ⟨_, rfl⟩
            obtain ⟨oa, oc, hv⟩ : ∃ a c, v = .slice a nE c := by
              rcases hrow.2 with ⟨q1, q2⟩ | ⟨g, cap, cur, q1, _⟩
              · exact ⟨none, 0, by rw [q1, ← hnE, q2]⟩
              · exact ⟨_, _, by rw [q1, hnE]⟩
            subst hv
            have hnz : (nE : Int) ≤ 9223372036854775807 := by
              rcases hrow.2 with ⟨q1, q2⟩ | ⟨g, cap, cur, q1, q2, q3, q4, q5, q6⟩
              · omega
              · unfold maxLen at q5; omega
            have B7 := hide (B6.out.trans (hb7.mono B6.out.size))
            have HV7 : Hid (vz.length = vl ∧ vz = g.val ∧ (⟨va, vc, vz⟩ : Tx).Ok w7) := ⟨HV.out.1, HV.out.2.1, HV.out.2.2.below hb7⟩
            have HVL : Hid (Calls Tryz.prog 19 #[.slice oa nE oc, .slice ka kl kc] w7 (GvlP w7 (mapV s.map kz))) := by
              have := gmapv_any oa nE oc E ⟨ka, kc, kz⟩ w7 hnE hnz (EnRd.of hrow hown) (HF2.out w7 B7.out).2.1
              rw [hE] at this
              simp only [Tx.v] at this
              rw [HKL.out] at this
              exact this
            clear hrow hown hE hb7 hnE hnz HMP c1 HV B6
            go_wp2_with fail
            refine HVL.out.mono ?_
            rintro e w8 ⟨⟨ua, uc, uz⟩, ub, rfl, huok, hub, hus, m8, hm8⟩
            simp only [Tx.v]
            obtain ⟨ul, hul⟩ : ∃ x, uz.length = x := ⟨_, rfl⟩
            rw [hul]
            have b78 : Below w7.heap.size w7 w8 := by rw [hm8]; exact below_drewN (Below.refl _ _) m8
            have HFIN : Hid (Below w.heap.size w w8) := (HF2.out w8 (B7.out.trans (b78.mono B7.out.size))).2.2.1
            have k1 : (convert 23 9 (.slice va vl vc)).run Tryz.prog w8 = .ok (.string (strOfNums vz)) w8 := nconv_row vc HV7.out.1 (HV7.out.2.2.below b78).r
            have k2 : (convert 23 9 (.slice ua ul uc)).run Tryz.prog w8 = .ok (.string (strOfNums uz)) w8 := nconv_row uc hul huok.r
            obtain ⟨gthe, hgt⟩ : ∃ b, g.the = b := ⟨_, rfl⟩
            obtain ⟨gerr, hge⟩ : ∃ b, g.err = b := ⟨_, rfl⟩
            rw [hgt, hge]
            have hG := HG.out
            rw [hgt, hge, ← HV7.out.2.1] at hG
            have hvl := HV7.out.1
            cases good with
            | false =>
              rw [if_neg (by decide)] at hG
              obtain ⟨rfl, rfl, rfl, rfl⟩ := hG
              obtain rfl : 0 = vl := hvl
              clear k1 k2 hul hus hub huok hm8 b78 HV7 HG hgt hge B7 HVL
              go_wp2_with fail
              go_ret
              exact ⟨by first | rfl | simp, HFIN.out⟩
            | true =>
              rw [if_pos rfl] at hG
              obtain ⟨rfl, h2, h3⟩ := hG
              have huz : uz = vz := Eq.trans hus h3.symm
              have hbb : gthe = ub := h2.trans hub.symm
              subst hbb
              rw [huz] at k2
              generalize strOfNums vz = st at *
              clear hul hus hub huok hm8 b78 HV7 HG hgt hge hvl B7 HVL h2 h3 huz
              cases gthe with
              | false =>
                go_wp2_with fail
                go_ret
                exact ⟨by first | rfl | simp, HFIN.out⟩
              | true =>
                go_wp2_with fail
                go_ret
                exact ⟨by first | rfl | simp, HFIN.out⟩
end Go.Proofs.YtealejbfloacpaaGreat
