/- The document's In: Number. -/
import Derived.Test.YtkginmhfpegkiaaQROps2
import Derived.Test.YtkginmhfpegkiaaQNum
import Derived.Test.YtkginmhfpegkiaaQRTake
namespace Go.Proofs.Ytkginmhfpegkiaa
open Go.RowKit

section
variable {σ : Type} {RD : Nat → σ → Int × Int × List Int × σ} {cnt m vol : σ → Nat} {B g g2 most : Nat} {Rd : World → σ → (Nat → Prop) → Prop} {W W' : World} {x : InS σ} {F S : Nat → Prop}
theorem IsRIn.lt {f : FuncId} {recv : Value} (X : RFam RD cnt m vol f recv B Rd) (h : IsRIn Rd B g g2 most W x F) : ∀ j, F j → B ≤ j ∧ j < W.heap.size := by
  obtain ⟨hv, hs', i, M, hi, hr, ho, hMg, hBg, hd, he, hF⟩ := h
  intro j hj
  rcases (hF j).1 hj with h | h | h
  · exact (X.R 1 (by omega) (by omega)).lt hr j h
  · subst h; exact ⟨hBg, lt_of_block hi⟩
  · exact ho.owns.lt j h
theorem IsIn.lt {f : FuncId} {recv r : Value} (X : RFam RD cnt m vol f recv B Rd) (h : IsIn Rd B g r W x F) : ∀ j, F j → B ≤ j ∧ j < W.heap.size := by
  obtain ⟨hv, M, hi, hr, ho, hMg, hBg, hd, hF⟩ := h
  intro j hj
  rcases (hF j).1 hj with h | h | h
  · exact (X.R 1 (by omega) (by omega)).lt hr j h
  · subst h; exact ⟨hBg, lt_of_block hi⟩
  · exact ho.owns.lt j h
theorem IsRIn.setAtErr {f : FuncId} {recv : Value} (X : RFam RD cnt m vol f recv B Rd) (h : IsRIn Rd B g g2 most W x F) (n : Nat) (e : Int) (he : e ≠ 0) (y : InS σ) (hy : y.s = x.s ∧ y.err = e ∧ y.at' = n) : IsRIn Rd B g g2 most ((W.setCell ⟨g, 2, none⟩ (.int .i64 (n : Int))).setCell ⟨g, 3, none⟩ (.int .i64 e)) y F ∧ Upd F W ((W.setCell ⟨g, 2, none⟩ (.int .i64 (n : Int))).setCell ⟨g, 3, none⟩ (.int .i64 e)) := by
  obtain ⟨hv, hs, i, M, hi, hr, ho, hMg, hBg, hd, _, hF⟩ := h
  have hu : Upd (fun j => j = g) W ((W.setCell ⟨g, 2, none⟩ (.int .i64 (n : Int))).setCell ⟨g, 3, none⟩ (.int .i64 e)) := ((Upd.refl _ _).set1 2 _).trans ((Upd.refl _ _).set1 3 _)
  refine ⟨⟨hv, hs, i, M, ?_, ?_, ho.upd hu (fun j hj e => (hd j hj).2 e), hMg, hBg, hd, fun h => absurd (hy.2.1.symm.trans h) he, hF⟩, hu.mono (fun j _ e => (hF j).2 (.inr (.inl e)))⟩
  · rw [hy.2.1, hy.2.2]; exact block_setCell (block_setCell hi 2 _) 3 _
  · rw [hy.1]; exact (X.R 1 (by omega) (by omega)).upd hr hu (fun j e => by subst e; exact ⟨hBg, hMg⟩)
end

theorem take_goes {σ : Type} {RD : Nat → σ → Int × Int × List Int × σ} (n k : Nat) (x : InS σ) : takeP RD n (x.goes k) = ((takeP RD n x).1, (takeP RD n x).2.1, (takeP RD n x).2.2.goes k) := by
  unfold takeP InS.goes
  simp only
  split
  · rfl
  · split <;> rfl
theorem byte_goes {σ : Type} {RD : Nat → σ → Int × Int × List Int × σ} (k : Nat) (x : InS σ) (he : x.err = 0) (q : List Int × Int × InS σ) (hq : takeP RD 1 x = q) : byteP RD (x.goes k) = if q.2.1 ≠ 0 then (0, q.2.1, (q.2.2.goes k).ends q.2.1) else (q.1.getD 0 0, 0, q.2.2.goes (k + 1)) := by
  unfold byteP
  rw [if_neg (show ¬ (x.goes k).err ≠ 0 from by simp [InS.goes, he]), take_goes, hq]
  rfl

structure RNI {σ : Type} (RD : Nat → σ → Int × Int × List Int × σ) (cnt m vol : σ → Nat) (Rd : World → σ → (Nat → Prop) → Prop) (B g g2 most tb at0 : Nat) (C l : Nat) (res : Int × Int × InS σ) (F0 : Nat → Prop) (W W' : World) (zs : List Int) (x : InS σ) (v : Value) (F : Nat → Prop) : Prop where
  ry : RY W' tb #[v, .int .i64 0] 125
  own : W'.ownsRow (tb + 1) 5 1 v zs.length (zs.map (Value.int .u8))
  good : Good zs 0
  isin : IsRIn Rd B g g2 most W' (x.goes zs.length) F
  upd : Upd F0 W W'
  sub : ∀ j, F j → F0 j ∨ W.heap.size ≤ j
  nt : ¬ F tb
  nv : ∀ j, v.ownBlock = some j → ¬ F j
  err : x.err = 0
  at1 : x.at' = at0
  eq : res = numF RD (10 - zs.length) zs x
  ok : InOk cnt m vol (C + 17 * zs.length) l (x.goes zs.length)
  ok' : InOk cnt m vol (C + 17 * zs.length) (l - zs.length) x

def slenC (W : World) (b k : Nat) : Nat := match W.cell? ⟨b, k, none⟩ with
  | some v => slen v
  | none => 0

set_option maxRecDepth 100000 in
set_option maxHeartbeats 3200000 in
theorem rnum_any {σ : Type} {RD : Nat → σ → Int × Int × List Int × σ} {cnt m vol : σ → Nat} {B g2 : Nat} {Rd : World → σ → (Nat → Prop) → Prop} (X : RFam RD cnt m vol 66 (.pointer (some ⟨g2, 0, none⟩)) B Rd)
    (W : World) (g most : Nat) (x0 : InS σ) (F0 : Nat → Prop) (C l : Nat) (hI : IsRIn Rd B g g2 most W x0 F0) (hok : InOk cnt m vol C l x0) (hC : C ≤ 4611686018427386000) (hml : most ≤ 9223372036854775807) (hB : B ≤ W.heap.size) :
    Calls Try.prog 45 #[.pointer (some ⟨g, 0, none⟩)] W fun e W' => RBytePost Rd B g g2 most (.int .u64 (numP RD x0).1) (numP RD x0).2.1 (numP RD x0).2.2 F0 W e W' := by
  have hg := hI.at0
  have c2 := hg.2.2.2.1
  have c3 := hg.2.2.2.2.1
  have hlt0 := hI.lt X
  by_cases he : x0.err = 0
  · obtain ⟨res, hres⟩ : ∃ res, res = numP RD x0 := ⟨_, rfl⟩
    have hres' : res = numF RD 10 [] x0 := by rw [hres]; unfold numP; rw [if_neg (by simp [he])]
    rw [← hres]
    have hu0 : Upd Noth W (W.alloc (.cells #[.slice none 0 0, .int .i64 0] 125)) := (Upd.refl _ _).alloc _
    have H0 : Hid (RNI RD cnt m vol Rd B g g2 most W.heap.size x0.at' C l res F0 W (W.alloc (.cells #[.slice none 0 0, .int .i64 0] 125)) [] x0 (.slice none 0 0) F0) := hide ⟨heap_alloc_new W _, ⟨rfl, .inl ⟨rfl, rfl⟩⟩, Good.start, hI.upd X hu0 (fun _ e => e.elim), hu0.noth, fun _ h => .inl h, fun h => by have := hlt0 _ h; omega, (fun j hj => by cases hj), he, rfl, hres', hok, hok⟩
    have HX := hide X
    rw [he] at c3
    obtain ⟨tb, htb⟩ : ∃ tb, tb = W.heap.size := ⟨_, rfl⟩
    rw [← htb] at H0
    have HTB := hide htb
    obtain ⟨at0, hat0⟩ : ∃ a, a = x0.at' := ⟨_, rfl⟩
    rw [← hat0] at H0 c2
    have hatm : Hid (at0 ≤ most) := hide (by have := hg.2.2.2.2.2.2 he; omega)
    clear hg hI hok X he hres hres' hu0 hlt0 hat0
    go_enter Try.func45, Try.ntmps45
    go_wp2_with fail
    rw [← htb]
    clear htb
    go_loopw [6, 7, 8, 9] (fun _ _ _ _ wr => ∃ (zs : List Int) (x : InS σ) (v : Value) (F : Nat → Prop), Hid (RNI RD cnt m vol Rd B g g2 most tb at0 C l res F0 W wr zs x v F)) (fun _ _ _ _ wr => 11 - slenC wr tb 0)
    case atStart => exact ⟨_, _, _, _, H0⟩
    case round =>
      clear H0
      obtain ⟨zs, x, v, F, HI⟩ := hrel
      have hin := HI.out.isin
      have hzr := HI.out.upd.size
      have hgo := HI.out.good.goes rfl
      have hz9 := hgo.1
      have htl : tb < wr.heap.size := lt_of_block HI.out.ry
      have hvl := HI.out.own.lt
      have HT := hide (rbyte_any HX.out wr g most (x.goes zs.length) F _ _ hin HI.out.ok (by omega) hml (by omega))
      have HOK := hide (take_ok HX.out 1 x _ _ HI.out.ok' HI.out.err)
      have HIOK := hide (fun h => (TakeOk.inOk HOK.out HI.out.ok' HI.out.err h))
      have HST := hide (HI.out.eq.trans (num_step (RD := RD) (fu := 10 - zs.length) (zs := zs) (x := x) _ rfl (by omega)))
      have HBG := hide (byte_goes (RD := RD) zs.length x HI.out.err _ rfl)
      rw [HBG.out] at HT
      have hlim := HI.out.ok'.lim HI.out.err
      have hatl := HI.out.ok.lim HI.out.err
      have hcell0 : slenC wr tb 0 = zs.length := by
        unfold slenC
        rw [HI.out.ry.cell (v := v) rfl]
        obtain ⟨a, cc, hv, _⟩ := slice_of_owns2 HI.out.own
        rw [hv]
        rfl
      replace hvl := hide hvl
      clear hin hgo HBG
      generalize takeP RD 1 x = q at *
      obtain ⟨bs, er, x'⟩ := q
      simp only at HST HT
      have hat' : x'.at' = at0 := by have := HOK.out.at1; simp only at this; rw [this]; exact HI.out.at1
      have her' : x'.err = 0 := by have := HOK.out.err1; simp only at this; rw [this]; exact HI.out.err
      by_cases e0 : er = 0
      · subst e0
        rw [if_neg (by simp)] at HST HT
        simp only at HT
        have hok1 := HOK.out.ok rfl
        obtain ⟨c, hc⟩ : ∃ c, c = bs.getD 0 0 := ⟨_, rfl⟩
        rw [← hc] at HST HT
        have hc8 : 0 ≤ c ∧ c ≤ 255 := by
          have h8 := hok1.2.1
          have : c ∈ bs := by
            rw [hc]
            cases bs with
            | nil => have := hok1.1; simp at this
            | cons y r => simp
          exact h8 c this
        have e1 : stepZs zs 0 c = zs ++ [c] := by simp [stepZs]
        have e4 : stepErr zs 0 c = faultOf zs.length c := by simp [stepErr]
        have HFA : Hid (stepDone zs 0 c = decide (faultOf zs.length c = 0 ∧ c < 128)) := hide (by simp [stepDone])
        have HFB : Hid (stepSt zs 0 c = if faultOf zs.length c ≠ 0 then 2 else if c < 128 then 1 else 0) := hide (by simp [stepSt])
        have HGS := hide (HI.out.good.step c hc8.1 hc8.2)
        rw [e1] at HGS
        have hlen : (zs ++ [c]).length = zs.length + 1 := by simp
        have HAFT : Hid (∀ w2 F', IsRIn Rd B g g2 most w2 (x'.goes (zs.length + 1)) F' → Upd F wr w2 → (∀ j, F' j → F j ∨ wr.heap.size ≤ j) → Calls Try.prog 56 #[.pointer (some ⟨tb, 0, none⟩), .int .u8 c] w2 fun e w3 => e = .returned (.tuple #[.bool (stepDone zs 0 c), .int .i64 (faultOf zs.length c)]) ∧ ∃ v', RY w3 tb #[v', .int .i64 (stepSt zs 0 c : Int)] 125 ∧ w3.ownsRow (tb + 1) 5 1 v' (zs ++ [c]).length ((zs ++ [c]).map (Value.int .u8)) ∧ IsRIn Rd B g g2 most w3 (x'.goes (zs.length + 1)) F' ∧ Upd F0 W w3 ∧ (∀ j, F' j → F0 j ∨ W.heap.size ≤ j) ∧ ¬ F' tb ∧ ∀ j, v'.ownBlock = some j → ¬ F' j) := hide fun w2 F' hi2 hu2 hf2 => by
          have hzz := hu2.size
          have hnt2 : ¬ F' tb := fun e => (hf2 tb e).elim HI.out.nt (fun h => by omega)
          have hnv2 : ∀ j, v.ownBlock = some j → ¬ F' j := fun j hj e => (hf2 j e).elim (HI.out.nv j hj) (fun h => by have := (hvl.out j hj).2; omega)
          have hry2 : RY w2 tb #[v, .int .i64 0] 125 := by unfold RY; rw [hu2.block tb htl HI.out.nt]; exact HI.out.ry
          have how2 := owns_upd HI.out.own hu2 HI.out.nv
          have hT := rtake tb 0 125 #[v, .int .i64 0] v zs 0 c w2 HI.out.good hc8.1 hc8.2 hry2 rfl rfl how2
          rw [e1, e4] at hT
          refine hT.mono ?_
          rintro e w3 ⟨rfl, v', hy3, ho3, hb3, hg3⟩
          have hu3 : Upd (fun j => j = tb ∨ v.ownBlock = some j) w2 w3 := ⟨hg3.os, hg3.tape, hg3.output, hg3.size, fun j hj hs => hg3.block j hj (fun e => hs (.inl (Option.some.inj e))) (fun e => hs (.inr e.symm))⟩
          have hlt2 := hi2.lt HX.out
          refine ⟨rfl, v', hy3, ho3, hi2.upd HX.out hu3 (fun j e => ?_), ?_, fun j hj => (hf2 j hj).elim (fun h => HI.out.sub j h) (fun h => .inr (by omega)), hnt2, fun j hj e => ?_⟩
          · rcases e with rfl | e
            · exact ⟨by have := HTB.out; omega, hnt2⟩
            · exact ⟨by have := (hvl.out j e).1; have := HTB.out; omega, hnv2 j e⟩
          · exact (HI.out.upd.then hu2 (fun j hj e => (HI.out.sub j e).elim id (fun h => by omega))).then hu3 (fun j hj e => by
              rcases e with rfl | e
              · have := HTB.out; omega
              · have := (hvl.out j e).1; have := HTB.out; omega)
          · rcases hb3 with h | ⟨k, h, h'⟩
            · exact hnv2 j (h ▸ hj) e
            · rw [h] at hj; cases hj; have := (hlt2 _ e).2; omega
        replace hc := hide hc
        clear e1 e4 hok1
        go_wp2_with fail
        refine HT.out.mono ?_
        rintro e w2 ⟨F', rfl, hi2, hu2, hf2⟩
        have HTK := hide (HAFT.out w2 F' hi2 hu2 hf2)
        clear HAFT HT hi2 hu2 hf2
        by_cases hfa : faultOf zs.length c = 0
        · rw [if_neg (by simp [hfa])] at HST
          rw [hfa] at HTK
          by_cases h128 : c < 128
          · rw [if_pos h128] at HST
            have e2 : stepSt zs 0 c = 1 := by rw [HFB.out, if_neg (by simp [hfa]), if_pos h128]
            have e3 : stepDone zs 0 c = true := by rw [HFA.out]; simp [hfa, h128]
            rw [e2, e3] at HTK
            rw [e2] at HGS
            clear HFA HFB e2 e3
            have HRN : Hid (∀ w3 v', RY w3 tb #[v', .int .i64 ((1 : Nat) : Int)] 125 → w3.ownsRow (tb + 1) 5 1 v' (zs ++ [c]).length ((zs ++ [c]).map (Value.int .u8)) → Calls Try.prog 57 #[.pointer (some ⟨tb, 0, none⟩)] w3 fun e w' => e = .returned (.tuple #[.int .u64 (pre (zs ++ [c]) 0 (zs.length + 1)), .bool true]) ∧ w' = w3) := hide fun w3 v' h1 h2 => by
              have := rnumber tb 0 125 #[v', .int .i64 ((1 : Nat) : Int)] v' (zs ++ [c]) 1 w3 HGS.out h1 rfl rfl h2
              rw [show tellNum (zs ++ [c]) 1 = pre (zs ++ [c]) 0 (zs.length + 1) from by unfold tellNum; rw [if_pos rfl, hlen]] at this
              exact this
            go_wp2_with (first
              | (go_at_call 56; refine HTK.out.mono ?_; rintro e w3 ⟨rfl, v3, hy3, ho3, hi3, hu3, hs3, hn3, hm3⟩; replace hi3 := hide hi3; replace hu3 := hide hu3; replace hs3 := hide hs3; clear hn3 hm3; have HR3 := hide (HRN.out w3 v3 hy3 ho3); clear hy3 ho3)
              | (go_at_call 57; refine keep HR3.out ?_)
              | fail)
            have HF : Hid (RBytePost Rd B g g2 most (.int .u64 res.1) res.2.1 res.2.2 F0 W (.returned (.tuple #[.int .u64 (pre (zs ++ [c]) 0 (zs.length + 1)), .int .i64 0])) w3) := by
              rw [HST.out]
              exact ⟨F', rfl, hi3.out, hu3.out, hs3.out⟩
            go_ret2
            exact HF.out
          · rw [if_neg h128] at HST
            have e2 : stepSt zs 0 c = 0 := by rw [HFB.out, if_neg (by simp [hfa]), if_neg h128]
            have e3 : stepDone zs 0 c = false := by rw [HFA.out]; simp [h128]
            rw [e2, e3] at HTK
            rw [e2] at HGS
            clear HFA HFB e2 e3
            go_wp2_with (first
              | (go_at_call 56; refine HTK.out.mono ?_; rintro e w3 ⟨rfl, v3, hy3, ho3, hi3, hu3, hs3, hn3, hm3⟩; replace hi3 := hide hi3; replace hu3 := hide hu3; replace hs3 := hide hs3; replace hm3 := hide hm3; replace hy3 := hide hy3; replace ho3 := hide ho3)
              | fail)
            have hcn3 : slenC w3 tb 0 = (zs ++ [c]).length := by
              unfold slenC
              rw [hy3.out.cell (v := v3) rfl]
              obtain ⟨a, cc, hv, _⟩ := slice_of_owns2 ho3.out
              rw [hv]
              rfl
            have hok2 := HIOK.out trivial
            have HN : Hid (RNI RD cnt m vol Rd B g g2 most tb at0 C l res F0 W w3 (zs ++ [c]) x' v3 F') := hide ⟨hy3.out, ho3.out, HGS.out, by rw [hlen]; exact hi3.out, hu3.out, hs3.out, hn3, hm3.out, her', hat', by rw [HST.out, hlen, Nat.sub_sub], by
              rw [hlen, Nat.mul_add, ← Nat.add_assoc]
              exact ⟨hok2.held1, hok2.b8, hok2.i16, hok2.pot, fun _ => by have h1 := hok2.lim her'; have h2 := (HOK.out.ok rfl).2.2.2.1; simp only [InS.goes] at hatl ⊢; omega, hok2.vo, by have h1 := hok2.lim her'; have h2 := (HOK.out.ok rfl).2.2.2.1; simp only [InS.goes] at hatl ⊢; omega⟩, by
              rw [hlen, Nat.mul_add, ← Nat.add_assoc, ← Nat.sub_sub]
              exact hok2⟩
            clear hok2
            go_roundw
            case rel => exact ⟨_, _, _, _, HN⟩
            case measure => rw [hcell0, hcn3, hlen]; omega
        · rw [if_pos hfa] at HST
          have e2 : stepSt zs 0 c = 2 := by rw [HFB.out, if_pos hfa]
          have e3 : stepDone zs 0 c = false := by rw [HFA.out]; simp [hfa]
          rw [e2, e3] at HTK
          have hfa' : (faultOf zs.length c != 0) = true := by simp [hfa]
          clear HFA HFB e2 e3 HGS
          generalize faultOf zs.length c = fa at *
          go_wp2_with (first
            | (go_at_call 56; refine HTK.out.mono ?_; rintro e w3 ⟨rfl, v3, hy3, ho3, hi3, hu3, hs3, hn3, hm3⟩; have d2' := hi3.at0.2.2.2.1; have d3' := hi3.at0.2.2.2.2.1; have f2' := hi3.at0.2.2.2.2.2.1 2; have f3' := hi3.at0.2.2.2.2.2.1 3; replace hi3 := hide hi3; replace hu3 := hide hu3; replace hs3 := hide hs3; clear hy3 ho3 hn3 hm3)
            | fail)
          obtain ⟨q1, q2⟩ := hi3.out.setAtErr HX.out at0 fa hfa (x'.ends fa) ⟨rfl, rfl, hat'⟩
          have HF : Hid (RBytePost Rd B g g2 most (.int .u64 res.1) res.2.1 res.2.2 F0 W (.returned (.tuple #[.int .u64 0, .int .i64 fa])) ((w3.setCell ⟨g, 2, none⟩ (.int .i64 (at0 : Int))).setCell ⟨g, 3, none⟩ (.int .i64 fa))) := by
            rw [HST.out]
            exact ⟨F', rfl, q1, hu3.out.then q2 (fun j hj e => (hs3.out j e).elim id (fun h => by omega)), hs3.out⟩
          go_ret2
          exact HF.out
      · rw [if_pos e0] at HST HT
        simp only at HT
        have e0' : (er != 0) = true := by simp [e0]
        go_wp2_with fail
        refine HT.out.mono ?_
        rintro e w2 ⟨F', rfl, hi2, hu2, hf2⟩
        have d2 := hi2.at0.2.2.2.1
        have f2 := hi2.at0.2.2.2.2.2.1 2
        obtain ⟨q1, q2⟩ := hi2.setAt HX.out at0 (x'.ends er) ⟨rfl, rfl, hat'⟩ (fun h => absurd h e0)
        have HF : Hid (RBytePost Rd B g g2 most (.int .u64 res.1) res.2.1 res.2.2 F0 W (.returned (.tuple #[.int .u64 0, .int .i64 er])) (w2.setCell ⟨g, 2, none⟩ (.int .i64 (at0 : Int)))) := by
          rw [HST.out]
          have hs2 : ∀ j, F' j → F0 j ∨ W.heap.size ≤ j := fun j hj => (hf2 j hj).elim (fun h => HI.out.sub j h) (fun h => .inr (by omega))
          exact ⟨F', rfl, q1, (HI.out.upd.then hu2 (fun j hj e => (HI.out.sub j e).elim id (fun h => by omega))).then q2 (fun j hj e => (hs2 j e).elim id (fun h => by omega)), hs2⟩
        clear q1 q2 hi2 hu2 hf2 HT
        go_wp2_with fail
        go_ret2
        exact HF.out
  · have he' : (x0.err != 0) = true := by simp [he]
    have HF : Hid (∀ n, RBytePost Rd B g g2 most (.int .u64 (numP RD x0).1) (numP RD x0).2.1 (numP RD x0).2.2 F0 W (.returned (.tuple #[.int .u64 0, .int .i64 x0.err])) (W.drewN n)) := hide fun n => by
      have hb : numP RD x0 = (0, x0.err, x0) := by unfold numP; rw [if_pos he]
      rw [hb]
      exact ⟨F0, rfl, hI.still X n, (((Still.refl W).drewN n).upd Noth).noth, fun _ h => .inl h⟩
    clear hg hI hok X hlt0
    go_enter Try.func45, Try.ntmps45
    go_wp2_with fail
    go_quiet (fail)
    go_wp2_with fail
    go_ret2
    exact HF.out _

end Go.Proofs.Ytkginmhfpegkiaa
