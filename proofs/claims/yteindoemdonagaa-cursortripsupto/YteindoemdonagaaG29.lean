/- An In's Number. -/
import Derived.Test.YteindoemdonagaaG26
import Derived.Test.YteindoemdonagaaG10
import Derived.Test.YteindoemdonagaaG18
import Derived.Test.YteindoemdonagaaG13
namespace Go.Proofs.Yteindoemdonagaa
open Go.RowKit

/-- A number, byte by byte, of which zs were read. -/
def numF {σ : Type} (RD : Nat → σ → Int × Int × List Int × σ) : Nat → List Int → InS σ → Int × Int × InS σ
  | 0, _, x => (0, 0, x)
  | fu + 1, zs, x =>
    if (takeP RD 1 x).2.1 ≠ 0 then (0, (takeP RD 1 x).2.1, (takeP RD 1 x).2.2.ends (takeP RD 1 x).2.1) else
    if faultOf zs.length ((takeP RD 1 x).1.getD 0 0) ≠ 0 then (0, faultOf zs.length ((takeP RD 1 x).1.getD 0 0), (takeP RD 1 x).2.2.ends (faultOf zs.length ((takeP RD 1 x).1.getD 0 0))) else
    if (takeP RD 1 x).1.getD 0 0 < 128 then (pre (zs ++ [(takeP RD 1 x).1.getD 0 0]) 0 (zs.length + 1), 0, (takeP RD 1 x).2.2.goes (zs.length + 1)) else
    numF RD fu (zs ++ [(takeP RD 1 x).1.getD 0 0]) (takeP RD 1 x).2.2
def numP {σ : Type} (RD : Nat → σ → Int × Int × List Int × σ) (x : InS σ) : Int × Int × InS σ :=
  if x.err ≠ 0 then (0, x.err, x) else numF RD 10 [] x
theorem num_step {σ : Type} {RD : Nat → σ → Int × Int × List Int × σ} {fu : Nat} {zs : List Int} {x : InS σ} (q : List Int × Int × InS σ) (hq : takeP RD 1 x = q) (hf : 0 < fu) :
    numF RD fu zs x = if q.2.1 ≠ 0 then (0, q.2.1, q.2.2.ends q.2.1) else if faultOf zs.length (q.1.getD 0 0) ≠ 0 then (0, faultOf zs.length (q.1.getD 0 0), q.2.2.ends (faultOf zs.length (q.1.getD 0 0))) else
      if q.1.getD 0 0 < 128 then (pre (zs ++ [q.1.getD 0 0]) 0 (zs.length + 1), 0, q.2.2.goes (zs.length + 1)) else numF RD (fu - 1) (zs ++ [q.1.getD 0 0]) q.2.2 := by
  obtain ⟨fu, rfl⟩ : ∃ f, fu = f + 1 := ⟨fu - 1, by omega⟩
  rw [numF, hq]
  rfl

theorem TakeOk.inOk {σ : Type} {cnt m vol : σ → Nat} {C l n : Nat} {x : InS σ} {q : List Int × Int × InS σ} (h : TakeOk cnt m vol C l n x q) (hx : InOk cnt m vol C l x) (he : x.err = 0) (h0 : q.2.1 = 0) : InOk cnt m vol (C + 17) (l - n) q.2.2 :=
  ⟨h.held1, h.b8, fun _ => (h.ok h0).2.2.1, fun _ => h.pot, fun _ => by have := h.ok h0; have := hx.lim he; have := h.at1; omega, fun _ => h.vo, by have := h.ok h0; have := hx.lim he; have := h.at1; omega⟩

theorem OwnB.row' {w : World} {base : Nat} {e : TypeId} {v : Value} {zs : List Int} (h : OwnB w base e v zs) {n : Nat} (_hn : zs.length = n) : ∀ a c, v = .slice a n c → Row w .u8 a zs := by
  intro a c hv
  rw [hv] at h
  exact h.row

structure NI {σ : Type} (RD : Nat → σ → Int × Int × List Int × σ) (cnt m vol : σ → Nat) (Rd : World → σ → (Nat → Prop) → Prop) (B g tb : Nat) (r : Value) (C l : Nat) (res : Int × Int × InS σ) (F0 : Nat → Prop) (W W' : World) (zs : List Int) (st : Nat) (x : InS σ) (F : Nat → Prop) : Prop where
  vt : VT W' tb zs st
  good : Good zs st
  isin : IsIn Rd B g r W' x F
  upd : Upd F0 W W'
  sub : ∀ j, F j → F0 j ∨ W.heap.size ≤ j
  nt : ¬ F tb
  st1 : st ≤ 1
  err : x.err = 0
  go : st = 0 → res = numF RD (10 - zs.length) zs x ∧ InOk cnt m vol (C + 17 * zs.length) (l - zs.length) x
  done : st = 1 → res = (pre zs 0 zs.length, 0, x.goes zs.length) ∧ x.at' + zs.length ≤ 9223372036854775807

set_option maxRecDepth 100000 in
set_option maxHeartbeats 3200000 in
theorem num_any {σ : Type} {RD : Nat → σ → Int × Int × List Int × σ} {cnt m vol : σ → Nat} {f : FuncId} {recv : Value} {B : Nat} {Rd : World → σ → (Nat → Prop) → Prop} {ty : TypeId} {pv : Value} (L : Leads "Read" ty pv f recv) (X : RFam RD cnt m vol f recv B Rd)
    (W : World) (g : Nat) (x : InS σ) (F0 : Nat → Prop) (C l : Nat) (hI : IsIn Rd B g (.iface ty pv) W x F0) (hok : InOk cnt m vol C l x) (hC : C ≤ 4611686018427386000) (hl : l ≤ 9223372036854775807) (hB : B ≤ W.heap.size) (hlt0 : ∀ j, F0 j → j < W.heap.size) :
    Calls Try.prog 17 #[.pointer (some ⟨g, 0, none⟩)] W fun e W' => BytePost Rd B g (.iface ty pv) (.int .u64 (numP RD x).1) (numP RD x).2.1 (numP RD x).2.2 F0 W e W' := by
  have hg := hI.g
  have c2 := hg.2.2.2.1
  by_cases he : x.err = 0
  · obtain ⟨res, hres⟩ : ∃ res, res = numP RD x := ⟨_, rfl⟩
    have hres' : res = numF RD 10 [] x := by rw [hres]; unfold numP; rw [if_neg (by simp [he])]
    rw [← hres]
    have HNEW := hide (new_any W)
    have H0 : Hid (∀ w1, IsT w1 W.heap.size 0 0 false false → Below W.heap.size W w1 → NI RD cnt m vol Rd B g W.heap.size (.iface ty pv) C l res F0 W w1 [] 0 x F0) := hide fun w1 ht hb => ⟨⟨0, ht, fun _ => rfl⟩, Good.start, hI.upd X (Upd.of_below hb Noth) (fun _ e => e.elim), Upd.of_below hb _, fun _ h => .inl h, fun h => by have := hlt0 _ h; omega, by omega, he, fun _ => ⟨hres', hok⟩, fun h => absurd h (by decide)⟩
    have HL := hide L
    have HX := hide X
    rw [he] at c2
    obtain ⟨tb, htb⟩ : ∃ tb, tb = W.heap.size := ⟨_, rfl⟩
    rw [← htb] at H0
    have HTB := hide htb
    clear hg hI hok L X he hres hres'
    go_enter Try.func17, Try.ntmps17
    go_wp2_with fail
    refine HNEW.out.mono ?_
    rintro e w1 ⟨rfl, ht1, hs1, hb1⟩
    rw [← htb] at ht1 hb1
    have H1 := hide (H0.out w1 ht1 hb1)
    rw [← htb]
    clear H0 HNEW ht1 hs1 hb1 htb
    go_wp2_with fail
    go_loopw [5, 6, 7] (fun a _ _ wr => ∃ (zs : List Int) (st : Nat) (x : InS σ) (F : Nat → Prop), a = .bool (st == 1) ∧ Hid (NI RD cnt m vol Rd B g tb (.iface ty pv) C l res F0 W wr zs st x F)) (fun a _ _ wr => match a with
      | .bool true => 0
      | _ => 11 - cellN wr tb 1)
    case atStart => exact ⟨_, _, _, _, rfl, H1⟩
    case round =>
      clear H1
      obtain ⟨zs, st, x, F, rfl, HI⟩ := hrel
      have hin := HI.out.isin
      have hzr := HI.out.upd.size
      have hig := hin.g
      have hst := HI.out.st1
      have htl := HI.out.vt.lt
      by_cases hs0 : st = 0
      · subst hs0
        have hgo := HI.out.good.goes rfl
        have hz9 := hgo.1
        have HT := hide (take_any HL.out HX.out wr g x F _ _ 1 (by omega) hin (HI.out.go rfl).2 HI.out.err (by omega) (by omega) (by omega))
        have HOK := hide (take_ok HX.out 1 x _ _ (HI.out.go rfl).2 HI.out.err)
        have HST := hide (fun q hq => (HI.out.go rfl).1.trans (num_step (RD := RD) (fu := 10 - zs.length) (zs := zs) (x := x) q hq (by omega)))
        have HST' := hide (HST.out _ rfl)
        have HIOK := hide (fun h => (TakeOk.inOk HOK.out (HI.out.go rfl).2 HI.out.err h))
        have hlim := (HI.out.go rfl).2.lim HI.out.err
        have hcell0 : cellN wr tb 1 = zs.length := by
          obtain ⟨nn, h1, _⟩ := HI.out.vt
          unfold cellN
          rw [h1.c1]
          simp
        have hblk : Hid (∀ w', (w'.heap[tb]? = wr.heap[tb]?) → VT w' tb zs 0) := hide fun w' h => HI.out.vt.block h
        clear HST hig hin hgo
        generalize takeP RD 1 x = q at *
        obtain ⟨bs, er, x'⟩ := q
        simp only at HST'
        go_wp2_with fail
        refine HT.out.mono ?_
        rintro e w2 ⟨v, F', rfl, ho2, hi2, hu2, hf2, hd2⟩
        simp only at ho2 hi2
        have hzz : wr.heap.size ≤ w2.heap.size := hu2.size
        obtain ⟨lb, hlb⟩ : ∃ lb, bs.length = lb := ⟨_, rfl⟩
        have hb2 : w2.heap[tb]? = wr.heap[tb]? := hu2.block tb htl (fun e => HI.out.nt e)
        have HV2 := hide (hblk.out w2 hb2)
        have hnt2 : ¬ F' tb := fun e => (hf2 tb e).elim HI.out.nt (fun h => by omega)
        have HSUB2 : Hid (∀ j, F' j → F0 j ∨ W.heap.size ≤ j) := hide fun j h => (hf2 j h).elim (fun h => HI.out.sub j h) (fun h => .inr (by omega))
        have HUP2 : Hid (Upd F0 W w2) := hide (HI.out.upd.then hu2 (fun j hj e => (HI.out.sub j e).elim id (fun h => by omega)))
        have hrow := ho2.row' hlb
        obtain ⟨a1, c1, rfl, hn1, hc1, _⟩ := ho2.sliceN hlb
        have hg2 := hi2.g
        have d2 := hg2.2.2.2.1
        have f2 := hg2.2.2.2.2.1
        replace hlb := hide hlb
        have HI2 := hide hi2
        have HROW := hide hrow
        clear HT ho2 hu2 hf2 hd2 hi2 hrow hb2 hn1
        by_cases e0 : er = 0
        · subst e0
          rw [if_neg (by simp)] at HST'
          have hok1 := HOK.out.ok rfl
          obtain rfl : lb = 1 := by rw [← hlb.out]; exact hok1.1
          obtain ⟨b, o, ha, hcell⟩ := HROW.out a1 c1 rfl 0 (by rw [hlb.out]; omega)
          subst ha
          simp only [Nat.add_zero] at hcell
          obtain ⟨c, hc⟩ : ∃ c, c = bs.getD 0 0 := ⟨_, rfl⟩
          rw [← hc] at HST' hcell
          have hc8 : 0 ≤ c ∧ c ≤ 255 := by
            have h8 := hok1.2.1
            have : c ∈ bs := by
              rw [hc]
              cases bs with
              | nil => have := hlb.out; simp at this
              | cons y r => simp
            exact h8 c this
          have HTK := hide (vtake tb zs 0 c w2 HV2.out HI.out.good hc8.1 hc8.2)
          have HGS := hide (HI.out.good.step c hc8.1 hc8.2)
          have e1 : stepZs zs 0 c = zs ++ [c] := by simp [stepZs]
          have e4 : stepErr zs 0 c = faultOf zs.length c := by simp [stepErr]
          rw [e1, e4] at HTK
          rw [e1] at HGS
          have HFA : Hid (stepDone zs 0 c = decide (faultOf zs.length c = 0 ∧ c < 128)) := hide (by simp [stepDone])
          have HFB : Hid (stepSt zs 0 c = if faultOf zs.length c ≠ 0 then 2 else if c < 128 then 1 else 0) := hide (by simp [stepSt])
          replace hc := hide hc
          clear e1 e4 hok1 HROW
          have HAFT : Hid (∀ w3 st', VT w3 tb (zs ++ [c]) st' → w2.grownBy w3 (some tb) → IsIn Rd B g (.iface ty pv) w3 x' F' ∧ Upd F0 W w3) := hide fun w3 st' hv3 hg3 => by
            have hu3 : Upd (fun j => j = tb) w2 w3 := Upd.of_grown hg3 (fun j hj _ => (Option.some.inj hj).symm)
            exact ⟨HI2.out.upd HX.out hu3 (fun j e => by subst e; exact ⟨by have := HTB.out; omega, hnt2⟩), HUP2.out.then hu3 (fun j hj e => by have := HTB.out; omega)⟩
          by_cases hfa : faultOf zs.length c = 0
          · rw [if_neg (by simp [hfa])] at HST'
            rw [hfa] at HTK
            by_cases h128 : c < 128
            · rw [if_pos h128] at HST'
              have e2 : stepSt zs 0 c = 1 := by rw [HFB.out, if_neg (by simp [hfa]), if_pos h128]
              have e3 : stepDone zs 0 c = true := by rw [HFA.out]; simp [hfa, h128]
              rw [e2, e3] at HTK
              rw [e2] at HGS
              clear HFA HFB e2 e3
              go_wp2_with (first
                | (go_at_call 26; refine HTK.out.mono ?_; rintro e w3 ⟨rfl, hv3, hs3, hg3⟩; replace hv3 := hide hv3; replace hg3 := hide hg3)
                | fail)
              have hA := HAFT.out w3 1 hv3.out hg3.out
              have hcn3 : cellN w3 tb 1 = (zs ++ [c]).length := by
                obtain ⟨nn, h1, _⟩ := hv3.out
                unfold cellN
                rw [h1.c1]
                simp
              have HN : Hid (NI RD cnt m vol Rd B g tb (.iface ty pv) C l res F0 W w3 (zs ++ [c]) 1 x' F') := hide ⟨hv3.out, HGS.out, hA.1, hA.2, HSUB2.out, hnt2, by omega, by have := HOK.out.err1; simp only at this; rw [this]; exact HI.out.err, fun h => absurd h (by decide), fun _ => ⟨by rw [HST'.out]; simp, by have h1 := HOK.out.at1; have h2 := (HOK.out.ok rfl).2.2.2.1; simp only at h1 h2; simp; omega⟩⟩
              clear hA
              go_roundw
              case rel => exact ⟨_, 1, _, _, rfl, HN⟩
              case measure => simp only; rw [hcell0]; simp; omega
            · rw [if_neg h128] at HST'
              have e2 : stepSt zs 0 c = 0 := by rw [HFB.out, if_neg (by simp [hfa]), if_neg h128]
              have e3 : stepDone zs 0 c = false := by rw [HFA.out]; simp [h128]
              rw [e2, e3] at HTK
              rw [e2] at HGS
              clear HFA HFB e2 e3
              go_wp2_with (first
                | (go_at_call 26; refine HTK.out.mono ?_; rintro e w3 ⟨rfl, hv3, hs3, hg3⟩; replace hv3 := hide hv3; replace hg3 := hide hg3)
                | fail)
              have hA := HAFT.out w3 0 hv3.out hg3.out
              have hcn3 : cellN w3 tb 1 = (zs ++ [c]).length := by
                obtain ⟨nn, h1, _⟩ := hv3.out
                unfold cellN
                rw [h1.c1]
                simp
              have hlen : (zs ++ [c]).length = zs.length + 1 := by simp
              have HN : Hid (NI RD cnt m vol Rd B g tb (.iface ty pv) C l res F0 W w3 (zs ++ [c]) 0 x' F') := hide ⟨hv3.out, HGS.out, hA.1, hA.2, HSUB2.out, hnt2, by omega, by have := HOK.out.err1; simp only at this; rw [this]; exact HI.out.err, fun _ => ⟨by rw [HST'.out, hlen, Nat.sub_sub], by
                have h1 := HIOK.out trivial
                rw [hlen, Nat.mul_add, ← Nat.add_assoc, ← Nat.sub_sub]
                exact h1⟩, fun h => absurd h (by decide)⟩
              clear hA
              go_roundw
              case rel => exact ⟨_, 0, _, _, rfl, HN⟩
              case measure => simp only; rw [hcell0, hcn3, hlen]; simp; omega
          · rw [if_pos hfa] at HST'
            have e2 : stepSt zs 0 c = 2 := by rw [HFB.out, if_pos hfa]
            have e3 : stepDone zs 0 c = false := by rw [HFA.out]; simp [hfa]
            rw [e2, e3] at HTK
            have hfa' : (faultOf zs.length c != 0) = true := by simp [hfa]
            clear HFA HFB e2 e3 HGS
            generalize faultOf zs.length c = fa at *
            go_wp2_with (first
              | (go_at_call 26; refine HTK.out.mono ?_; rintro e w3 ⟨rfl, hv3, hs3, hg3⟩; replace hv3 := hide hv3; replace hg3 := hide hg3; have hA := HAFT.out w3 2 hv3.out hg3.out; have d2' := hA.1.g.2.2.2.1; have f2' := hA.1.g.2.2.2.2.1; replace hA := hide hA; have HE := hide (end_any g fa (.int .i64 x'.err) w3 d2' f2'))
              | (go_at_call 24; refine HE.out.mono ?_; rintro e w4 ⟨rfl, rfl⟩)
              | fail)
            obtain ⟨q1, q2⟩ := hA.out.1.setErr (HX.out.R 1 (by omega) (by omega)).upd fa
            have HF : Hid (BytePost Rd B g (.iface ty pv) (.int .u64 res.1) res.2.1 res.2.2 F0 W (.returned (.tuple #[.int .u64 0, .int .i64 fa])) (w3.setCell ⟨g, 2, none⟩ (.int .i64 fa))) := by
              rw [HST'.out]
              exact ⟨F', rfl, q1, hA.out.2.then q2 (fun j hj e => (HSUB2.out j e).elim id (fun h => by omega)), HSUB2.out⟩
            go_ret2
            exact HF.out
        · rw [if_pos e0] at HST'
          have e0' : (er != 0) = true := by simp [e0]
          have HE := hide (end_any g er (.int .i64 x'.err) w2 d2 f2)
          have HF : Hid (BytePost Rd B g (.iface ty pv) (.int .u64 res.1) res.2.1 res.2.2 F0 W (.returned (.tuple #[.int .u64 0, .int .i64 er])) (w2.setCell ⟨g, 2, none⟩ (.int .i64 er))) := by
            rw [HST'.out]
            obtain ⟨q1, q2⟩ := HI2.out.setErr (HX.out.R 1 (by omega) (by omega)).upd er
            exact ⟨F', rfl, q1, HUP2.out.then q2 (fun j hj e => (HSUB2.out j e).elim id (fun h => by omega)), HSUB2.out⟩
          go_wp2_with (first
            | (go_at_call 24; refine HE.out.mono ?_; rintro e w3 ⟨rfl, rfl⟩)
            | fail)
          go_ret2
          exact HF.out
      · obtain rfl : st = 1 := by omega
        have hdn := HI.out.done rfl
        have d0 := hig.2.2.1
        have f0 := hig.2.2.2.2.2
        have HTN : Hid (∀ n, Calls Try.prog 27 #[.pointer (some ⟨tb, 0, none⟩)] (wr.drewN n) fun e w' => e = .returned (.int .i64 (zs.length : Int)) ∧ w' = wr.drewN n) := hide fun n => vtaken tb zs 1 (wr.drewN n) HI.out.vt
        have hat : x.at' + zs.length ≤ 9223372036854775807 := hdn.2
        obtain ⟨zl, hzl⟩ : ∃ zl, zl = zs.length := ⟨_, rfl⟩
        rw [← hzl] at hat HTN
        have HVN : Hid (∀ n, Calls Try.prog 28 #[.pointer (some ⟨tb, 0, none⟩)] ((wr.drewN n).setCell ⟨g, 0, none⟩ (.int .i64 ((x.at' : Int) + (zl : Int)))) fun e w' => e = .returned (.tuple #[.int .u64 (pre zs 0 zl), .bool true]) ∧ w' = (wr.drewN n).setCell ⟨g, 0, none⟩ (.int .i64 ((x.at' : Int) + (zl : Int)))) := hide fun n => by
          have hu : Upd (fun j => j = g) (wr.drewN n) ((wr.drewN n).setCell ⟨g, 0, none⟩ (.int .i64 ((x.at' : Int) + (zl : Int)))) := (Upd.refl _ _).set1 0 _
          have hv : VT ((wr.drewN n).setCell ⟨g, 0, none⟩ (.int .i64 ((x.at' : Int) + (zl : Int)))) tb zs 1 := HI.out.vt.block (hu.block tb htl (fun e => HI.out.nt (e ▸ hig.1)))
          have := vnumber tb zs 1 _ hv
          rw [show tellNum zs 1 = pre zs 0 zl from by rw [hzl]; rfl] at this
          exact this
        have HF : Hid (∀ n, BytePost Rd B g (.iface ty pv) (.int .u64 res.1) res.2.1 res.2.2 F0 W (.returned (.tuple #[.int .u64 (pre zs 0 zl), .int .i64 0])) ((wr.drewN n).setCell ⟨g, 0, none⟩ (.int .i64 ((x.at' : Int) + (zl : Int))))) := hide fun n => by
          rw [hdn.1, ← hzl]
          obtain ⟨q1, q2⟩ := (hin.still HX.out n).setAt (HX.out.R 1 (by omega) (by omega)).upd zl ((x.at' : Int) + (zl : Int)) rfl
          exact ⟨F, rfl, q1, (HI.out.upd.trans ((((Still.refl wr).drewN n).upd Noth).noth)).then q2 (fun j hj e => (HI.out.sub j e).elim id (fun h => by omega)), HI.out.sub⟩
        replace hzl := hide hzl
        generalize pre zs 0 zl = pz at *
        clear hdn hin hig
        go_wp2_with fail
        go_region_with (first
          | (go_at_call 27; refine (HTN.out _).mono ?_; rintro e w3 ⟨rfl, rfl⟩)
          | fail)
        all_goals go_wp2_with (first
          | (go_at_call 28; refine (HVN.out _).mono ?_; rintro e w4 ⟨rfl, rfl⟩)
          | fail)
        all_goals go_ret2
        all_goals exact HF.out _
  · have he' : (x.err != 0) = true := by simp [he]
    have HF : Hid (∀ n, BytePost Rd B g (.iface ty pv) (.int .u64 (numP RD x).1) (numP RD x).2.1 (numP RD x).2.2 F0 W (.returned (.tuple #[.int .u64 0, .int .i64 x.err])) (W.drewN n)) := hide fun n => by
      have hb : numP RD x = (0, x.err, x) := by unfold numP; rw [if_pos he]
      rw [hb]
      exact ⟨F0, rfl, hI.still X n, (((Still.refl W).drewN n).upd Noth).noth, fun _ h => .inl h⟩
    clear hg hI hok L X
    go_enter Try.func17, Try.ntmps17
    go_wp2_with fail
    go_quiet (fail)
    go_wp2_with fail
    go_ret2
    exact HF.out _

end Go.Proofs.Yteindoemdonagaa

namespace Go.Proofs.Yteindoemdonagaa
open Go.RowKit

theorem IsIn.lt0 {σ : Type} {RD : Nat → σ → Int × Int × List Int × σ} {cnt m vol : σ → Nat} {B g : Nat} {Rd : World → σ → (Nat → Prop) → Prop} {W : World} {x : InS σ} {F : Nat → Prop} {f : FuncId} {recv r : Value} (X : RFam RD cnt m vol f recv B Rd) (h : IsIn Rd B g r W x F) : ∀ j, F j → B ≤ j ∧ j < W.heap.size := by
  obtain ⟨hv, M, hi, hr, ho, hMg, hBg, hd, hF⟩ := h
  intro j hj
  rcases (hF j).1 hj with h | h | h
  · exact (X.R 1 (by omega) (by omega)).lt hr j h
  · subst h; exact ⟨hBg, lt_of_block hi⟩
  · exact ho.owns.lt j h

theorem src_fam (zs gs : List Int) (fail : Int) (eager : Bool) (g B : Nat) (M0 : Nat → Prop) (hz8 : B8 zs) : RFam (fun k => srcRd zs gs fail eager k) Prod.fst (fun s => zs.length - s.2) (fun s => zs.length - s.2) 58 (.pointer (some ⟨g, 0, none⟩)) B (SrcRd zs gs fail eager g B M0) where
  R := fun k _ h => src_reader zs gs fail eager k g B M0 hz8 (by omega)
  vol := fun k s _ _ => by
    have := srcN_le zs gs fail (s.1 + 1) s.2 k
    simp only [srcRd, List.length_take, List.length_drop]
    omega

set_option maxHeartbeats 400000 in
theorem newIn_any (ty : TypeId) (pv : Value) (most : Int) (mo : Nat) (W : World) (hmo : (mo : Int) = max 0 most) :
    Calls Try.prog 13 #[.iface ty pv, .int .i64 most] W fun e W' => e = .returned (.pointer (some ⟨W.heap.size, 0, none⟩)) ∧ W' = W.alloc (.cells #[.int .i64 0, .int .i64 0, .int .i64 0, .iface ty pv, .int .i64 (mo : Int), .slice none 0 0] 63) := by
  have HM := hide hmo
  clear hmo
  by_cases h : most < 0
  · have hm0 : Hid (mo = 0) := hide (by have := HM.out; omega)
    go_enter Try.func13, Try.ntmps13
    go_wp2_with fail
    go_ret
    refine ⟨rfl, ?_⟩
    rw [hm0.out]
    first | rfl | (congr 1; simp; omega)
  · have hm0 : Hid ((mo : Int) = most) := hide (by have := HM.out; omega)
    go_enter Try.func13, Try.ntmps13
    go_wp2_with fail
    all_goals go_ret
    all_goals refine ⟨rfl, ?_⟩
    all_goals (first | (rw [hm0.out]; done) | rw [show (mo : Int) = 0 from by have := hm0.out; omega])

/-- A new In over a source. -/
theorem newIn_src {W : World} {zs gs : List Int} {fail : Int} {eager : Bool} {g B : Nat} {M0 : Nat → Prop} (hz8 : B8 zs) (hS : SrcAt W M0 zs gs fail eager g 0 0) (hMB : ∀ i, M0 i → B ≤ i) (hB : B ≤ W.heap.size) (mo : Nat) (v : Value) :
    IsIn (SrcRd zs gs fail eager g B M0) B W.heap.size v (W.alloc (.cells #[.int .i64 0, .int .i64 0, .int .i64 0, v, .int .i64 (mo : Int), .slice none 0 0] 63)) ⟨(0, 0), 0, 0, 0, mo, []⟩ (fun j => M0 j ∨ j = W.heap.size) := by
  have hu : Upd Noth W (W.alloc (.cells #[.int .i64 0, .int .i64 0, .int .i64 0, v, .int .i64 (mo : Int), .slice none 0 0] 63)) := (Upd.refl _ _).alloc _
  refine ⟨.slice none 0 0, M0, heap_alloc_new W _, ((src_fam zs gs fail eager g B M0 hz8).R 1 (by omega) (by omega)).upd (show SrcRd zs gs fail eager g B M0 W (0, 0) M0 from ⟨rfl, hS, hMB⟩) hu (fun _ e => e.elim), OwnB.nil _ _ _, fun e => by have := hS.lt.1 _ e; omega, hB, (fun j hj => by cases hj), fun j => ⟨fun h => h.elim .inl (fun h => .inr (.inl h)), fun h => h.elim .inl (fun h => h.elim .inr (fun h => by cases h))⟩⟩

theorem lives_num : (numP (fun k => srcRd [172, 2] [] 0 false k) ⟨(0, 0), 0, 0, 0, 9, []⟩).1 = 300 ∧ (numP (fun k => srcRd [172, 2] [] 0 false k) ⟨(0, 0), 0, 0, 0, 9, []⟩).2.1 = 0 := by decide +kernel
theorem two_row (W : World) (x y : Int) : Row (W.alloc (.cells #[.int .u8 x, .int .u8 y] 5)) .u8 (some ⟨W.heap.size, 0, none⟩) [x, y] := by
  intro i hi
  refine ⟨_, _, rfl, ?_⟩
  rw [cell_of_row _ _ _ _ _ _ (World.alloc_heap_new W _)]
  match i, hi with
  | 0, _ => rfl
  | 1, _ => rfl

theorem new_ok (zs : List Int) (mo C : Nat) (hC : 17 * zs.length + 16 ≤ C) (hz : zs.length ≤ 140737488355328) : InOk Prod.fst (fun s : Nat × Nat => zs.length - s.2) (fun s : Nat × Nat => zs.length - s.2) C mo ⟨(0, 0), 0, 0, 0, mo, []⟩ :=
  ⟨by simp, b8_nil, fun _ => by simp, fun _ => by simp only; omega, fun _ => by simp, fun _ => by simp only [List.length_nil]; omega, Nat.zero_le _⟩

set_option maxRecDepth 100000 in
set_option maxHeartbeats 800000 in
theorem lives_any (w : World) :
    Calls Try.prog 4 #[] w fun e w' => e = .returned (.bool true) ∧ Below w.heap.size w w' := by
  have HN := hide (newSource_any (some ⟨w.heap.size, 0, none⟩) none 2 2 0 0 [172, 2] [] 0 false (w.alloc (.cells #[.int .u8 172, .int .u8 2] 5)) rfl rfl (by omega) (by omega) (fun h => by cases h) (fun _ => ⟨rfl, rfl⟩) (two_row w 172 2) (row_nil _ _ _))
  have h8 : B8 [172, 2] := fun x hx => by simp at hx; omega
  go_enter Try.func4, Try.ntmps4
  go_wp2_with fail
  refine HN.out.mono ?_
  rintro e w1 ⟨g, M, rfl, hS, hM, hb1⟩
  have hb1' := hide (below_lit' hb1)
  have HNI := hide (newIn_src h8 hS (fun i hi => by have := hM i hi; simp at this; omega : ∀ i, M i → w.heap.size ≤ i) hb1'.out.size 9 (.iface 49 (.pointer (some ⟨g, 0, none⟩))))
  have HNA := hide (newIn_any 49 (.pointer (some ⟨g, 0, none⟩)) 9 9 w1 (by omega))
  have HMb : Hid (∀ i, M i → w.heap.size ≤ i) := hide (fun i hi => by have := hM i hi; simp at this; omega)
  clear hb1 HN hS hM
  go_wp2_with fail
  refine HNA.out.mono ?_
  rintro e w2 ⟨rfl, rfl⟩
  have hz1 := hb1'.out.size
  have HX := hide (src_fam [172, 2] [] 0 false g w.heap.size M h8)
  have HNM := hide (num_any (src_leads g) HX.out _ w1.heap.size _ _ 100 9 HNI.out (new_ok _ _ _ (by simp) (by simp)) (by omega) (by omega) (by simp; omega) (fun j hj => (HNI.out.lt0 HX.out j hj).2))
  have HL := hide lives_num
  rw [HL.out.1, HL.out.2] at HNM
  have hb2 : Below w.heap.size w (w1.alloc (.cells #[.int .i64 0, .int .i64 0, .int .i64 0, .iface 49 (.pointer (some ⟨g, 0, none⟩)), .int .i64 ((9 : Nat) : Int), .slice none 0 0] 63)) := hb1'.out.alloc hz1 _
  replace hb2 := hide hb2
  clear HNA HNI
  go_wp2_with fail
  refine HNM.out.mono ?_
  rintro e w3 ⟨F', rfl, _, hu3, _⟩
  have hb3 := hide (hb2.out.trans (hu3.below hb2.out.size (fun k hk e => e.elim (fun h => by have := HMb.out k h; omega) (fun h => by omega))))
  clear hu3 HNM hb2
  go_wp2_with fail
  go_ret
  exact ⟨rfl, hb3.out⟩

end Go.Proofs.Yteindoemdonagaa

namespace Go.Proofs.Yteindoemdonagaa
open Go.RowKit

section
variable {σ : Type} {RD : Nat → σ → Int × Int × List Int × σ} {cnt m vol : σ → Nat} {f : FuncId} {recv : Value} {B : Nat} {Rd : World → σ → (Nat → Prop) → Prop}
theorem InOk.mono {C C' l : Nat} {x : InS σ} (h : InOk cnt m vol C l x) (hC : C ≤ C') : InOk cnt m vol C' l x :=
  ⟨h.held1, h.b8, h.i16, fun e => Nat.le_trans (h.pot e) hC, h.lim, h.vo, h.atl⟩
theorem TakeOk.ended {C l n : Nat} {x : InS σ} {q : List Int × Int × InS σ} (h : TakeOk cnt m vol C l n x q) (hx : InOk cnt m vol C l x) (C' : Nat) (e : Int) (he : e ≠ 0) (L : Nat) (hL : l ≤ L) : InOk cnt m vol C' L (q.2.2.ends e) :=
  ⟨h.held1, h.b8, fun h => absurd h he, fun h => absurd h he, fun h => absurd h he, fun h => absurd h he, by have := hx.atl; have := h.at1; simp only [InS.ends]; omega⟩
theorem TakeOk.gone {C l n : Nat} {x : InS σ} {q : List Int × Int × InS σ} (h : TakeOk cnt m vol C l n x q) (hx : InOk cnt m vol C l x) (he : x.err = 0) (h0 : q.2.1 = 0) (k : Nat) : InOk cnt m vol (C + 17) (l + k) (q.2.2.goes (n + k)) := by
  have h1 := h.inOk hx he h0
  have h2 := (h.ok h0).2.2.2.1
  have h3 := hx.lim he
  have h4 := h.at1
  have h5 := (h.ok h0).2.2.2.2
  exact ⟨h1.held1, h1.b8, h1.i16, h1.pot, fun _ => by simp only [InS.goes]; omega, h1.vo, by simp only [InS.goes]; omega⟩

theorem ask_lt {k : Nat} {s : σ} {i : Nat} (hi : i < 16) (h : (ask1 RD k s i).2.1 ≠ 33) : (ask1 RD k s i).2.2.2 < 16 := by
  unfold ask1 at *
  by_cases hb : (RD k s).1 < 0 ∨ (k : Int) < (RD k s).1
  · rw [if_pos hb]; exact hi
  · rw [if_neg hb] at *
    have h2 : idleOf i (RD k s).1.toNat (RD k s).2.1 ≤ i + 1 := by unfold idleOf; split <;> omega
    have h3 : idleOf i (RD k s).1.toNat (RD k s).2.1 ≠ 16 := fun e => h (by simp only [toldOf]; rw [if_pos e])
    simp only
    omega
theorem fill_lt (n : Nat) (H : ∀ k s i, 1 ≤ k → k ≤ 4096 → AskOk cnt m vol k s i (ask1 RD k s i)) : ∀ (fu : Nat) (b : List Int) (s : σ) (i : Nat), i < 16 → (fillF RD n fu b s i).2.1 ≠ 33 → (fillF RD n fu b s i).2.2.2 < 16
  | 0, b, s, i, hi, _ => hi
  | fu + 1, b, s, i, hi, h => by
    by_cases hn : n ≤ b.length
    · rw [fillF, if_pos hn]; exact hi
    · have hA := H (min (n - b.length) 4096) s i (by omega) (by omega)
      have hL := fun h => ask_lt (RD := RD) (k := min (n - b.length) 4096) (s := s) (i := i) hi h
      rw [fill_step _ rfl (Nat.succ_pos _) hn] at h ⊢
      generalize ask1 RD (min (n - b.length) 4096) s i = q at *
      by_cases hx : n ≤ b.length + q.1.length
      · rw [if_pos hx]
        have hne : q.1 ≠ [] := fun e => by rw [e] at hx; simp at hx; omega
        have := hA.i0 hne
        simp only
        omega
      · rw [if_neg hx] at h ⊢
        by_cases e31 : q.2.1 = 31
        · rw [if_pos e31]; exact hL (by rw [e31]; decide)
        · rw [if_neg e31] at h ⊢
          by_cases e0 : q.2.1 ≠ 0
          · rw [if_pos e0] at h ⊢; exact hL h
          · rw [if_neg e0] at h ⊢
            exact fill_lt n H _ _ _ _ (hL (by rw [show q.2.1 = 0 from by simpa using e0]; decide)) h
theorem RFam.fill41 (X : RFam RD cnt m vol f recv B Rd) (n : Nat) (b : List Int) (s : σ) (i : Nat) (hi : i < 16) (h : (fillA RD n b s i).2.1 = 41) : (fillA RD n b s i).2.2.2 < 16 :=
  fill_lt n (fun k s i h1 h2 => ask_ok (X.R k h1 h2) (fun s => X.vol k s h1 h2) s i) _ b s i hi (by unfold fillA at h; rw [h]; decide)

theorem bytes_ok (X : RFam RD cnt m vol f recv B Rd) (n : Int) (x : InS σ) (C l : Nat) (hx : InOk cnt m vol C l x) : InOk cnt m vol (C + 200) l (bytesP RD n x).2.2 := by
  unfold bytesP
  by_cases he : x.err ≠ 0
  · rw [if_pos he]; exact hx.mono (by omega)
  · rw [if_neg he]
    have he' : x.err = 0 := by simpa using he
    split
    · exact hx.mono (by omega)
    · have hT := take_ok X n.toNat x C l hx he'
      split
      · rename_i h; exact hT.ended hx _ _ h _ (Nat.le_refl _)
      · rename_i h; exact (hT.gone hx he' (by simpa using h) 0).mono (by omega)
theorem byte_ok (X : RFam RD cnt m vol f recv B Rd) (x : InS σ) (C l : Nat) (hx : InOk cnt m vol C l x) : InOk cnt m vol (C + 200) l (byteP RD x).2.2 := by
  unfold byteP
  by_cases he : x.err ≠ 0
  · rw [if_pos he]; exact hx.mono (by omega)
  · rw [if_neg he]
    have he' : x.err = 0 := by simpa using he
    have hT := take_ok X 1 x C l hx he'
    split
    · rename_i h; exact hT.ended hx _ _ h _ (Nat.le_refl _)
    · rename_i h; exact (hT.gone hx he' (by simpa using h) 0).mono (by omega)
theorem numF_ok (X : RFam RD cnt m vol f recv B Rd) : ∀ (fu : Nat) (zs : List Int) (x : InS σ) (C l : Nat), fu + zs.length = 10 → zs.length ≤ 9 → x.err = 0 → InOk cnt m vol C l x → InOk cnt m vol (C + 17 * fu) (l + zs.length) (numF RD fu zs x).2.2
  | 0, zs, x, C, l, h1, h2, he, hx => absurd h1 (by omega)
  | fu + 1, zs, x, C, l, h1, h2, he, hx => by
    have hT := take_ok X 1 x C l hx he
    rw [num_step _ rfl (Nat.succ_pos _)]
    generalize takeP RD 1 x = q at *
    by_cases h0 : q.2.1 ≠ 0
    · rw [if_pos h0]
      exact hT.ended hx _ _ h0 _ (by omega)
    · rw [if_neg h0]
      have h0' : q.2.1 = 0 := by simpa using h0
      by_cases hf : faultOf zs.length (q.1.getD 0 0) ≠ 0
      · rw [if_pos hf]
        exact hT.ended hx _ _ hf _ (by omega)
      · rw [if_neg hf]
        by_cases hc : q.1.getD 0 0 < 128
        · rw [if_pos hc]
          have := hT.gone hx he h0' zs.length
          rw [Nat.add_comm 1] at this
          exact this.mono (by omega)
        · rw [if_neg hc]
          have hz : zs.length ≠ 9 := fun e => hf (by
            rw [e]
            unfold faultOf
            rw [if_pos ⟨rfl, by omega⟩]
            decide)
          have h3 := hT.inOk hx he h0'
          have h4 := (hT.ok h0').2.2.2.1
          have h5 := hx.lim he
          have ih := numF_ok X fu (zs ++ [q.1.getD 0 0]) q.2.2 (C + 17) (l - 1) (by simp; omega) (by simp; omega) (by rw [hT.err1]; exact he) h3
          have e1 : l - 1 + (zs ++ [q.1.getD 0 0]).length = l + zs.length := by simp; omega
          rw [e1] at ih
          exact ih.mono (by omega)
theorem num_ok (X : RFam RD cnt m vol f recv B Rd) (x : InS σ) (C l : Nat) (hx : InOk cnt m vol C l x) : InOk cnt m vol (C + 200) l (numP RD x).2.2 := by
  unfold numP
  by_cases he : x.err ≠ 0
  · rw [if_pos he]; exact hx.mono (by omega)
  · rw [if_neg he]
    exact (numF_ok X 10 [] x C l (by simp) (by simp) (by simpa using he) hx).mono (by omega)
theorem end_ok (X : RFam RD cnt m vol f recv B Rd) (x : InS σ) (C l : Nat) (hx : InOk cnt m vol C l x) : InOk cnt m vol (C + 200) l (endP RD x).2.2 := by
  unfold endP
  by_cases he : x.err ≠ 0
  · rw [if_pos he]; exact hx.mono (by omega)
  · rw [if_neg he]
    have he' : x.err = 0 := by simpa using he
    by_cases hh : x.held ≠ []
    · rw [if_pos hh]; exact hx.mono (by omega)
    · rw [if_neg hh]
      have hh' : x.held = [] := by simpa using hh
      have hF := X.fill 1 [] x.s x.i (hx.i16 he') (by simp)
      have hF41 := X.fill41 1 [] x.s x.i (hx.i16 he')
      have h1 := hF.pot
      have h2 := hF.vol
      have h3 := hx.pot he'
      have h4 := hx.lim he'
      have h5 := hx.vo he'
      have h6 := hx.atl
      rw [hh'] at h5
      simp only [List.length_nil] at h2 h5
      generalize fillA RD 1 [] x.s x.i = q at *
      by_cases e41 : q.2.1 = 41
      · rw [if_pos e41]
        exact ⟨hx.held1, hx.b8, fun _ => hF41 e41, fun _ => by simp only; omega, fun _ => h4, fun _ => by simp only; rw [hh']; simp only [List.length_nil]; omega, h6⟩
      · rw [if_neg e41]
        by_cases e0 : q.2.1 ≠ 0
        · rw [if_pos e0]
          exact ⟨hx.held1, hx.b8, fun h => absurd h e0, fun h => absurd h e0, fun h => absurd h e0, fun h => absurd h e0, h6⟩
        · rw [if_neg e0]
          have e0' : q.2.1 = 0 := by simpa using e0
          have h7 := hF.full e0'
          exact ⟨by simp only; omega, hF.b8 b8_nil, fun _ => h7.2, fun _ => by simp only; omega, fun _ => h4, fun _ => by simp only; omega, h6⟩
end

end Go.Proofs.Yteindoemdonagaa

namespace Go.Proofs.Yteindoemdonagaa
open Go.RowKit

section
variable {σ : Type} {RD : Nat → σ → Int × Int × List Int × σ} {cnt m vol : σ → Nat} {B g g2 most : Nat} {Rd : World → σ → (Nat → Prop) → Prop} {W W' : World} {x : InS σ} {F S : Nat → Prop}
theorem IsIn.lt {f : FuncId} {recv r : Value} (X : RFam RD cnt m vol f recv B Rd) (h : IsIn Rd B g r W x F) : ∀ j, F j → B ≤ j ∧ j < W.heap.size := by
  obtain ⟨hv, M, hi, hr, ho, hMg, hBg, hd, hF⟩ := h
  intro j hj
  rcases (hF j).1 hj with h | h | h
  · exact (X.R 1 (by omega) (by omega)).lt hr j h
  · subst h; exact ⟨hBg, lt_of_block hi⟩
  · exact ho.owns.lt j h
end

theorem take_goes {σ : Type} {RD : Nat → σ → Int × Int × List Int × σ} (n k : Nat) (x : InS σ) : takeP RD n (x.goes k) = ((takeP RD n x).1, (takeP RD n x).2.1, (takeP RD n x).2.2.goes k) := by
  unfold takeP InS.goes
  simp only
  split
  · rfl
  · split <;> rfl
theorem byte_goes {σ : Type} {RD : Nat → σ → Int × Int × List Int × σ} (k : Nat) (x : InS σ) (he : x.err = 0) (q : List Int × Int × InS σ) (hq : takeP RD 1 x = q) : byteP RD (x.goes k) = if q.2.1 ≠ 0 then (0, q.2.1, (q.2.2.goes k).ends q.2.1) else (q.1.getD 0 0, 0, q.2.2.goes (k + 1)) := by
  unfold byteP
  rw [if_neg (show ¬ (x.goes k).err ≠ 0 from by simp [InS.goes, he]), take_goes, hq]
  rfl

def slenC (W : World) (b k : Nat) : Nat := match W.cell? ⟨b, k, none⟩ with
  | some v => slen v
  | none => 0

end Go.Proofs.Yteindoemdonagaa
