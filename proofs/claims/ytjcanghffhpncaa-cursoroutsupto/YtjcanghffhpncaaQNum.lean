/- An In's Number. -/
import Derived.Test.YtjcanghffhpncaaQOps2
import Derived.Test.YtjcanghffhpncaaQStep
namespace Go.Proofs.Ytjcanghffhpncaa
open Go.RowKit

/-- A number, byte by byte, of which zs were read. -/
def numF {σ : Type} (RD : Nat → σ → Int × Int × List Int × σ) : Nat → List Int → InS σ → Int × Int × InS σ
  | 0, _, x => (0, 0, x)
  | fu + 1, zs, x =>
    if (takeP RD 1 x).2.1 ≠ 0 then (0, (takeP RD 1 x).2.1, (takeP RD 1 x).2.2.ends (takeP RD 1 x).2.1) else
    if faultOf zs.length ((takeP RD 1 x).1.getD 0 0) ≠ 0 then (0, faultOf zs.length ((takeP RD 1 x).1.getD 0 0), (takeP RD 1 x).2.2.ends (faultOf zs.length ((takeP RD 1 x).1.getD 0 0))) else
    if (takeP RD 1 x).1.getD 0 0 < 128 then (pre (zs ++ [(takeP RD 1 x).1.getD 0 0]) 0 (zs.length + 1), 0, (takeP RD 1 x).2.2.goes (zs.length + 1)) else
    numF RD fu (zs ++ [(takeP RD 1 x).1.getD 0 0]) (takeP RD 1 x).2.2
def numP {σ : Type} (RD : Nat → σ → Int × Int × List Int × σ) (x : InS σ) : Int × Int × InS σ :=
  if x.err ≠ 0 then (0, x.err, x) else numF RD 10 [] x
theorem num_step {σ : Type} {RD : Nat → σ → Int × Int × List Int × σ} {fu : Nat} {zs : List Int} {x : InS σ} (q : List Int × Int × InS σ) (hq : takeP RD 1 x = q) (hf : 0 < fu) :
    numF RD fu zs x = if q.2.1 ≠ 0 then (0, q.2.1, q.2.2.ends q.2.1) else if faultOf zs.length (q.1.getD 0 0) ≠ 0 then (0, faultOf zs.length (q.1.getD 0 0), q.2.2.ends (faultOf zs.length (q.1.getD 0 0))) else
      if q.1.getD 0 0 < 128 then (pre (zs ++ [q.1.getD 0 0]) 0 (zs.length + 1), 0, q.2.2.goes (zs.length + 1)) else numF RD (fu - 1) (zs ++ [q.1.getD 0 0]) q.2.2 := by
  obtain ⟨fu, rfl⟩ : ∃ f, fu = f + 1 := ⟨fu - 1, by omega⟩
  rw [numF, hq]
  rfl

theorem TakeOk.inOk {σ : Type} {cnt m vol : σ → Nat} {C l n : Nat} {x : InS σ} {q : List Int × Int × InS σ} (h : TakeOk cnt m vol C l n x q) (hx : InOk cnt m vol C l x) (he : x.err = 0) (h0 : q.2.1 = 0) : InOk cnt m vol (C + 17) (l - n) q.2.2 :=
  ⟨h.held1, h.b8, fun _ => (h.ok h0).2.2.1, fun _ => h.pot, fun _ => by have := h.ok h0; have := hx.lim he; have := h.at1; omega, fun _ => h.vo, by have := h.ok h0; have := hx.lim he; have := h.at1; omega⟩

theorem OwnB.row' {w : World} {base : Nat} {e : TypeId} {v : Value} {zs : List Int} (h : OwnB w base e v zs) {n : Nat} (_hn : zs.length = n) : ∀ a c, v = .slice a n c → Row w .u8 a zs := by
  intro a c hv
  rw [hv] at h
  exact h.row

structure NI {σ : Type} (RD : Nat → σ → Int × Int × List Int × σ) (cnt m vol : σ → Nat) (Rd : World → σ → (Nat → Prop) → Prop) (B g tb : Nat) (r : Value) (C l : Nat) (res : Int × Int × InS σ) (F0 : Nat → Prop) (W W' : World) (zs : List Int) (st : Nat) (x : InS σ) (F : Nat → Prop) : Prop where
  vt : VT W' tb zs st
  good : Good zs st
  isin : IsIn Rd B g r W' x F
  upd : Upd F0 W W'
  sub : ∀ j, F j → F0 j ∨ W.heap.size ≤ j
  nt : ¬ F tb
  st1 : st ≤ 1
  err : x.err = 0
  go : st = 0 → res = numF RD (10 - zs.length) zs x ∧ InOk cnt m vol (C + 17 * zs.length) (l - zs.length) x
  done : st = 1 → res = (pre zs 0 zs.length, 0, x.goes zs.length) ∧ x.at' + zs.length ≤ 9223372036854775807

set_option maxRecDepth 100000 in
set_option maxHeartbeats 3200000 in
theorem num_any {σ : Type} {RD : Nat → σ → Int × Int × List Int × σ} {cnt m vol : σ → Nat} {f : FuncId} {recv : Value} {B : Nat} {Rd : World → σ → (Nat → Prop) → Prop} {ty : TypeId} {pv : Value} (L : Leads "Read" ty pv f recv) (X : RFam RD cnt m vol f recv B Rd)
    (W : World) (g : Nat) (x : InS σ) (F0 : Nat → Prop) (C l : Nat) (hI : IsIn Rd B g (.iface ty pv) W x F0) (hok : InOk cnt m vol C l x) (hC : C ≤ 4611686018427386000) (hl : l ≤ 9223372036854775807) (hB : B ≤ W.heap.size) (hlt0 : ∀ j, F0 j → j < W.heap.size) :
    Calls Try.prog 14 #[.pointer (some ⟨g, 0, none⟩)] W fun e W' => BytePost Rd B g (.iface ty pv) (.int .u64 (numP RD x).1) (numP RD x).2.1 (numP RD x).2.2 F0 W e W' := by
  have hg := hI.g
  have c2 := hg.2.2.2.1
  by_cases he : x.err = 0
  · obtain ⟨res, hres⟩ : ∃ res, res = numP RD x := ⟨_, rfl⟩
    have hres' : res = numF RD 10 [] x := by rw [hres]; unfold numP; rw [if_neg (by simp [he])]
    rw [← hres]
    have HNEW := hide (new_any W)
    have H0 : Hid (∀ w1, IsT w1 W.heap.size 0 0 false false → Below W.heap.size W w1 → NI RD cnt m vol Rd B g W.heap.size (.iface ty pv) C l res F0 W w1 [] 0 x F0) := hide fun w1 ht hb => ⟨⟨0, ht, fun _ => rfl⟩, Good.start, hI.upd X (Upd.of_below hb Noth) (fun _ e => e.elim), Upd.of_below hb _, fun _ h => .inl h, fun h => by have := hlt0 _ h; omega, by omega, he, fun _ => ⟨hres', hok⟩, fun h => absurd h (by decide)⟩
    have HL := hide L
    have HX := hide X
    rw [he] at c2
    obtain ⟨tb, htb⟩ : ∃ tb, tb = W.heap.size := ⟨_, rfl⟩
    rw [← htb] at H0
    have HTB := hide htb
    clear hg hI hok L X he hres hres'
    go_enter Try.func14, Try.ntmps14
    go_wp2_with fail
    refine HNEW.out.mono ?_
    rintro e w1 ⟨rfl, ht1, hs1, hb1⟩
    rw [← htb] at ht1 hb1
    have H1 := hide (H0.out w1 ht1 hb1)
    rw [← htb]
    clear H0 HNEW ht1 hs1 hb1 htb
    go_wp2_with fail
    go_loopw [5, 6, 7] (fun a _ _ wr => ∃ (zs : List Int) (st : Nat) (x : InS σ) (F : Nat → Prop), a = .bool (st == 1) ∧ Hid (NI RD cnt m vol Rd B g tb (.iface ty pv) C l res F0 W wr zs st x F)) (fun a _ _ wr => match a with
      | .bool true => 0
      | _ => 11 - cellN wr tb 1)
    case atStart => exact ⟨_, _, _, _, rfl, H1⟩
    case round =>
      clear H1
      obtain ⟨zs, st, x, F, rfl, HI⟩ := hrel
      have hin := HI.out.isin
      have hzr := HI.out.upd.size
      have hig := hin.g
      have hst := HI.out.st1
      have htl := HI.out.vt.lt
      by_cases hs0 : st = 0
      · subst hs0
        have hgo := HI.out.good.goes rfl
        have hz9 := hgo.1
        have HT := hide (take_any HL.out HX.out wr g x F _ _ 1 (by omega) hin (HI.out.go rfl).2 HI.out.err (by omega) (by omega) (by omega))
        have HOK := hide (take_ok HX.out 1 x _ _ (HI.out.go rfl).2 HI.out.err)
        have HST := hide (fun q hq => (HI.out.go rfl).1.trans (num_step (RD := RD) (fu := 10 - zs.length) (zs := zs) (x := x) q hq (by omega)))
        have HST' := hide (HST.out _ rfl)
        have HIOK := hide (fun h => (TakeOk.inOk HOK.out (HI.out.go rfl).2 HI.out.err h))
        have hlim := (HI.out.go rfl).2.lim HI.out.err
        have hcell0 : cellN wr tb 1 = zs.length := by
          obtain ⟨nn, h1, _⟩ := HI.out.vt
          unfold cellN
          rw [h1.c1]
          simp
        have hblk : Hid (∀ w', (w'.heap[tb]? = wr.heap[tb]?) → VT w' tb zs 0) := hide fun w' h => HI.out.vt.block h
        clear HST hig hin hgo
        generalize takeP RD 1 x = q at *
        obtain ⟨bs, er, x'⟩ := q
        simp only at HST'
        go_wp2_with fail
        refine HT.out.mono ?_
        rintro e w2 ⟨v, F', rfl, ho2, hi2, hu2, hf2, hd2⟩
        simp only at ho2 hi2
        have hzz : wr.heap.size ≤ w2.heap.size := hu2.size
        obtain ⟨lb, hlb⟩ : ∃ lb, bs.length = lb := ⟨_, rfl⟩
        have hb2 : w2.heap[tb]? = wr.heap[tb]? := hu2.block tb htl (fun e => HI.out.nt e)
        have HV2 := hide (hblk.out w2 hb2)
        have hnt2 : ¬ F' tb := fun e => (hf2 tb e).elim HI.out.nt (fun h => by omega)
        have HSUB2 : Hid (∀ j, F' j → F0 j ∨ W.heap.size ≤ j) := hide fun j h => (hf2 j h).elim (fun h => HI.out.sub j h) (fun h => .inr (by omega))
        have HUP2 : Hid (Upd F0 W w2) := hide (HI.out.upd.then hu2 (fun j hj e => (HI.out.sub j e).elim id (fun h => by omega)))
        have hrow := ho2.row' hlb
        obtain ⟨a1, c1, rfl, hn1, hc1, _⟩ := ho2.sliceN hlb
        have hg2 := hi2.g
        have d2 := hg2.2.2.2.1
        have f2 := hg2.2.2.2.2.1
        replace hlb := hide hlb
        have HI2 := hide hi2
        have HROW := hide hrow
        clear HT ho2 hu2 hf2 hd2 hi2 hrow hb2 hn1
        by_cases e0 : er = 0
        · subst e0
          rw [if_neg (by simp)] at HST'
          have hok1 := HOK.out.ok rfl
          obtain rfl : lb = 1 := by rw [← hlb.out]; exact hok1.1
          obtain ⟨b, o, ha, hcell⟩ := HROW.out a1 c1 rfl 0 (by rw [hlb.out]; omega)
          subst ha
          simp only [Nat.add_zero] at hcell
          obtain ⟨c, hc⟩ : ∃ c, c = bs.getD 0 0 := ⟨_, rfl⟩
          rw [← hc] at HST' hcell
          have hc8 : 0 ≤ c ∧ c ≤ 255 := by
            have h8 := hok1.2.1
            have : c ∈ bs := by
              rw [hc]
              cases bs with
              | nil => have := hlb.out; simp at this
              | cons y r => simp
            exact h8 c this
          have HTK := hide (vtake tb zs 0 c w2 HV2.out HI.out.good hc8.1 hc8.2)
          have HGS := hide (HI.out.good.step c hc8.1 hc8.2)
          have e1 : stepZs zs 0 c = zs ++ [c] := by simp [stepZs]
          have e4 : stepErr zs 0 c = faultOf zs.length c := by simp [stepErr]
          rw [e1, e4] at HTK
          rw [e1] at HGS
          have HFA : Hid (stepDone zs 0 c = decide (faultOf zs.length c = 0 ∧ c < 128)) := hide (by simp [stepDone])
          have HFB : Hid (stepSt zs 0 c = if faultOf zs.length c ≠ 0 then 2 else if c < 128 then 1 else 0) := hide (by simp [stepSt])
          replace hc := hide hc
          clear e1 e4 hok1 HROW
          have HAFT : Hid (∀ w3 st', VT w3 tb (zs ++ [c]) st' → w2.grownBy w3 (some tb) → IsIn Rd B g (.iface ty pv) w3 x' F' ∧ Upd F0 W w3) := hide fun w3 st' hv3 hg3 => by
            have hu3 : Upd (fun j => j = tb) w2 w3 := Upd.of_grown hg3 (fun j hj _ => (Option.some.inj hj).symm)
            exact ⟨HI2.out.upd HX.out hu3 (fun j e => by subst e; exact ⟨by have := HTB.out; omega, hnt2⟩), HUP2.out.then hu3 (fun j hj e => by have := HTB.out; omega)⟩
          by_cases hfa : faultOf zs.length c = 0
          · rw [if_neg (by simp [hfa])] at HST'
            rw [hfa] at HTK
            by_cases h128 : c < 128
            · rw [if_pos h128] at HST'
              have e2 : stepSt zs 0 c = 1 := by rw [HFB.out, if_neg (by simp [hfa]), if_pos h128]
              have e3 : stepDone zs 0 c = true := by rw [HFA.out]; simp [hfa, h128]
              rw [e2, e3] at HTK
              rw [e2] at HGS
              clear HFA HFB e2 e3
              go_wp2_with (first
                | (go_at_call 36; refine HTK.out.mono ?_; rintro e w3 ⟨rfl, hv3, hs3, hg3⟩; replace hv3 := hide hv3; replace hg3 := hide hg3)
                | fail)
              have hA := HAFT.out w3 1 hv3.out hg3.out
              have hcn3 : cellN w3 tb 1 = (zs ++ [c]).length := by
                obtain ⟨nn, h1, _⟩ := hv3.out
                unfold cellN
                rw [h1.c1]
                simp
              have HN : Hid (NI RD cnt m vol Rd B g tb (.iface ty pv) C l res F0 W w3 (zs ++ [c]) 1 x' F') := hide ⟨hv3.out, HGS.out, hA.1, hA.2, HSUB2.out, hnt2, by omega, by have := HOK.out.err1; simp only at this; rw [this]; exact HI.out.err, fun h => absurd h (by decide), fun _ => ⟨by rw [HST'.out]; simp, by have h1 := HOK.out.at1; have h2 := (HOK.out.ok rfl).2.2.2.1; simp only at h1 h2; simp; omega⟩⟩
              clear hA
              go_roundw
              case rel => exact ⟨_, 1, _, _, rfl, HN⟩
              case measure => simp only; rw [hcell0]; simp; omega
            · rw [if_neg h128] at HST'
              have e2 : stepSt zs 0 c = 0 := by rw [HFB.out, if_neg (by simp [hfa]), if_neg h128]
              have e3 : stepDone zs 0 c = false := by rw [HFA.out]; simp [h128]
              rw [e2, e3] at HTK
              rw [e2] at HGS
              clear HFA HFB e2 e3
              go_wp2_with (first
                | (go_at_call 36; refine HTK.out.mono ?_; rintro e w3 ⟨rfl, hv3, hs3, hg3⟩; replace hv3 := hide hv3; replace hg3 := hide hg3)
                | fail)
              have hA := HAFT.out w3 0 hv3.out hg3.out
              have hcn3 : cellN w3 tb 1 = (zs ++ [c]).length := by
                obtain ⟨nn, h1, _⟩ := hv3.out
                unfold cellN
                rw [h1.c1]
                simp
              have hlen : (zs ++ [c]).length = zs.length + 1 := by simp
              have HN : Hid (NI RD cnt m vol Rd B g tb (.iface ty pv) C l res F0 W w3 (zs ++ [c]) 0 x' F') := hide ⟨hv3.out, HGS.out, hA.1, hA.2, HSUB2.out, hnt2, by omega, by have := HOK.out.err1; simp only at this; rw [this]; exact HI.out.err, fun _ => ⟨by rw [HST'.out, hlen, Nat.sub_sub], by
                have h1 := HIOK.out trivial
                rw [hlen, Nat.mul_add, ← Nat.add_assoc, ← Nat.sub_sub]
                exact h1⟩, fun h => absurd h (by decide)⟩
              clear hA
              go_roundw
              case rel => exact ⟨_, 0, _, _, rfl, HN⟩
              case measure => simp only; rw [hcell0, hcn3, hlen]; simp; omega
          · rw [if_pos hfa] at HST'
            have e2 : stepSt zs 0 c = 2 := by rw [HFB.out, if_pos hfa]
            have e3 : stepDone zs 0 c = false := by rw [HFA.out]; simp [hfa]
            rw [e2, e3] at HTK
            have hfa' : (faultOf zs.length c != 0) = true := by simp [hfa]
            clear HFA HFB e2 e3 HGS
            generalize faultOf zs.length c = fa at *
            go_wp2_with (first
              | (go_at_call 36; refine HTK.out.mono ?_; rintro e w3 ⟨rfl, hv3, hs3, hg3⟩; replace hv3 := hide hv3; replace hg3 := hide hg3; have hA := HAFT.out w3 2 hv3.out hg3.out; have d2' := hA.1.g.2.2.2.1; have f2' := hA.1.g.2.2.2.2.1; replace hA := hide hA; have HE := hide (end_any g fa (.int .i64 x'.err) w3 d2' f2'))
              | (go_at_call 37; refine HE.out.mono ?_; rintro e w4 ⟨rfl, rfl⟩)
              | fail)
            obtain ⟨q1, q2⟩ := hA.out.1.setErr (HX.out.R 1 (by omega) (by omega)).upd fa
            have HF : Hid (BytePost Rd B g (.iface ty pv) (.int .u64 res.1) res.2.1 res.2.2 F0 W (.returned (.tuple #[.int .u64 0, .int .i64 fa])) (w3.setCell ⟨g, 2, none⟩ (.int .i64 fa))) := by
              rw [HST'.out]
              exact ⟨F', rfl, q1, hA.out.2.then q2 (fun j hj e => (HSUB2.out j e).elim id (fun h => by omega)), HSUB2.out⟩
            go_ret2
            exact HF.out
        · rw [if_pos e0] at HST'
          have e0' : (er != 0) = true := by simp [e0]
          have HE := hide (end_any g er (.int .i64 x'.err) w2 d2 f2)
          have HF : Hid (BytePost Rd B g (.iface ty pv) (.int .u64 res.1) res.2.1 res.2.2 F0 W (.returned (.tuple #[.int .u64 0, .int .i64 er])) (w2.setCell ⟨g, 2, none⟩ (.int .i64 er))) := by
            rw [HST'.out]
            obtain ⟨q1, q2⟩ := HI2.out.setErr (HX.out.R 1 (by omega) (by omega)).upd er
            exact ⟨F', rfl, q1, HUP2.out.then q2 (fun j hj e => (HSUB2.out j e).elim id (fun h => by omega)), HSUB2.out⟩
          go_wp2_with (first
            | (go_at_call 37; refine HE.out.mono ?_; rintro e w3 ⟨rfl, rfl⟩)
            | fail)
          go_ret2
          exact HF.out
      · obtain rfl : st = 1 := by omega
        have hdn := HI.out.done rfl
        have d0 := hig.2.2.1
        have f0 := hig.2.2.2.2.2
        have HTN : Hid (∀ n, Calls Try.prog 38 #[.pointer (some ⟨tb, 0, none⟩)] (wr.drewN n) fun e w' => e = .returned (.int .i64 (zs.length : Int)) ∧ w' = wr.drewN n) := hide fun n => vtaken tb zs 1 (wr.drewN n) HI.out.vt
        have hat : x.at' + zs.length ≤ 9223372036854775807 := hdn.2
        obtain ⟨zl, hzl⟩ : ∃ zl, zl = zs.length := ⟨_, rfl⟩
        rw [← hzl] at hat HTN
        have HVN : Hid (∀ n, Calls Try.prog 39 #[.pointer (some ⟨tb, 0, none⟩)] ((wr.drewN n).setCell ⟨g, 0, none⟩ (.int .i64 ((x.at' : Int) + (zl : Int)))) fun e w' => e = .returned (.tuple #[.int .u64 (pre zs 0 zl), .bool true]) ∧ w' = (wr.drewN n).setCell ⟨g, 0, none⟩ (.int .i64 ((x.at' : Int) + (zl : Int)))) := hide fun n => by
          have hu : Upd (fun j => j = g) (wr.drewN n) ((wr.drewN n).setCell ⟨g, 0, none⟩ (.int .i64 ((x.at' : Int) + (zl : Int)))) := (Upd.refl _ _).set1 0 _
          have hv : VT ((wr.drewN n).setCell ⟨g, 0, none⟩ (.int .i64 ((x.at' : Int) + (zl : Int)))) tb zs 1 := HI.out.vt.block (hu.block tb htl (fun e => HI.out.nt (e ▸ hig.1)))
          have := vnumber tb zs 1 _ hv
          rw [show tellNum zs 1 = pre zs 0 zl from by rw [hzl]; rfl] at this
          exact this
        have HF : Hid (∀ n, BytePost Rd B g (.iface ty pv) (.int .u64 res.1) res.2.1 res.2.2 F0 W (.returned (.tuple #[.int .u64 (pre zs 0 zl), .int .i64 0])) ((wr.drewN n).setCell ⟨g, 0, none⟩ (.int .i64 ((x.at' : Int) + (zl : Int))))) := hide fun n => by
          rw [hdn.1, ← hzl]
          obtain ⟨q1, q2⟩ := (hin.still HX.out n).setAt (HX.out.R 1 (by omega) (by omega)).upd zl ((x.at' : Int) + (zl : Int)) rfl
          exact ⟨F, rfl, q1, (HI.out.upd.trans ((((Still.refl wr).drewN n).upd Noth).noth)).then q2 (fun j hj e => (HI.out.sub j e).elim id (fun h => by omega)), HI.out.sub⟩
        replace hzl := hide hzl
        generalize pre zs 0 zl = pz at *
        clear hdn hin hig
        go_wp2_with fail
        go_region_with (first
          | (go_at_call 38; refine (HTN.out _).mono ?_; rintro e w3 ⟨rfl, rfl⟩)
          | fail)
        all_goals go_wp2_with (first
          | (go_at_call 39; refine (HVN.out _).mono ?_; rintro e w4 ⟨rfl, rfl⟩)
          | fail)
        all_goals go_ret2
        all_goals exact HF.out _
  · have he' : (x.err != 0) = true := by simp [he]
    have HF : Hid (∀ n, BytePost Rd B g (.iface ty pv) (.int .u64 (numP RD x).1) (numP RD x).2.1 (numP RD x).2.2 F0 W (.returned (.tuple #[.int .u64 0, .int .i64 x.err])) (W.drewN n)) := hide fun n => by
      have hb : numP RD x = (0, x.err, x) := by unfold numP; rw [if_pos he]
      rw [hb]
      exact ⟨F0, rfl, hI.still X n, (((Still.refl W).drewN n).upd Noth).noth, fun _ h => .inl h⟩
    clear hg hI hok L X
    go_enter Try.func14, Try.ntmps14
    go_wp2_with fail
    go_quiet (fail)
    go_wp2_with fail
    go_ret2
    exact HF.out _

end Go.Proofs.Ytjcanghffhpncaa
