/- Writers of whatever make, and hand: a writer is called till it has all. -/
import Derived.Test.YtcffekhlnidjnaaPAsk
namespace Go.Proofs.Ytcffekhlnidjnaa
open Go.RowKit

/-- A writer: wf: what a call tells (a number, an error), and its state then; cnt: how often it was called; sz: how many bytes it has. -/
structure Writer {τ : Type} (wf : τ → List Int → Int × Int × τ) (cnt sz : τ → Nat) (f : FuncId) (recv : Value) (B : Nat) (Wd : World → τ → (Nat → Prop) → Prop) : Prop where
  upd : ∀ {W W' : World} {t : τ} {M S : Nat → Prop}, Wd W t M → Upd S W W' → (∀ i, S i → B ≤ i ∧ ¬ M i) → Wd W' t M
  lt : ∀ {W : World} {t : τ} {M : Nat → Prop}, Wd W t M → ∀ i, M i → B ≤ i ∧ i < W.heap.size
  cnt1 : ∀ t b, cnt (wf t b).2.2 = cnt t + 1
  szle : ∀ t b, sz (wf t b).2.2 ≤ sz t + b.length
  szin : ∀ t b, 0 ≤ (wf t b).1 → (wf t b).1 ≤ b.length → sz (wf t b).2.2 ≤ sz t + (wf t b).1.toNat
  write : ∀ (W : World) (t : τ) (M : Nat → Prop) (b o len pc : Nat) (ys : List Int), Wd W t M → cnt t < 4611686018427387904 → ys.length = len → 0 < len → len ≤ pc → Row W .u8 (some ⟨b, o, none⟩) ys → ¬ M b → sz t + len ≤ 140737488355328 → B ≤ W.heap.size →
    Calls Try.prog f #[recv, .slice (some ⟨b, o, none⟩) len pc] W fun e W' => ∃ M', e = .returned (.tuple #[.int .i64 (wf t ys).1, .int .i64 (wf t ys).2.1]) ∧ Wd W' (wf t ys).2.2 M' ∧ Upd M W W' ∧ ∀ i, M' i → M i ∨ W.heap.size ≤ i

/-- How many bytes a writer takes of b, and the error; its state then. -/
def handF {τ : Type} (wf : τ → List Int → Int × Int × τ) : Nat → τ → List Int → Nat → Nat × Int × τ
  | 0, t, _, _ => (0, 0, t)
  | fu + 1, t, b, idle =>
    if b = [] then (0, 0, t) else
    if (wf t b).1 < 0 ∨ (b.length : Int) < (wf t b).1 then (0, 34, (wf t b).2.2) else
    if (wf t b).2.1 ≠ 0 then ((wf t b).1.toNat, (wf t b).2.1, (wf t b).2.2) else
    if (if 0 < (wf t b).1 then 0 else idle + 1) = 16 then ((wf t b).1.toNat, 33, (wf t b).2.2) else
    ((wf t b).1.toNat + (handF wf fu (wf t b).2.2 (b.drop (wf t b).1.toNat) (if 0 < (wf t b).1 then 0 else idle + 1)).1, (handF wf fu (wf t b).2.2 (b.drop (wf t b).1.toNat) (if 0 < (wf t b).1 then 0 else idle + 1)).2)
/-- All of b is offered. -/
def handA {τ : Type} (wf : τ → List Int → Int × Int × τ) (t : τ) (b : List Int) : Nat × Int × τ := handF wf (17 * b.length + 17) t b 0

def HandPost {τ : Type} (wf : τ → List Int → Int × Int × τ) (Wd : World → τ → (Nat → Prop) → Prop) (W : World) (t : τ) (M : Nat → Prop) (b : List Int) (e : Ending) (W' : World) : Prop :=
  ∃ M', e = .returned (.tuple #[.int .i64 ((handA wf t b).1 : Nat), .int .i64 (handA wf t b).2.1]) ∧ Wd W' (handA wf t b).2.2 M' ∧ Upd M W W' ∧ ∀ i, M' i → M i ∨ W.heap.size ≤ i

theorem handF_done {τ : Type} (wf : τ → List Int → Int × Int × τ) (fu : Nat) (t : τ) (idle : Nat) : handF wf fu t [] idle = (0, 0, t) := by
  cases fu with
  | zero => rfl
  | succ fu => rw [handF, if_pos rfl]
theorem handF_bad {τ : Type} {wf : τ → List Int → Int × Int × τ} {fu : Nat} {t : τ} {b : List Int} {idle : Nat} (hf : 0 < fu) (hb : b ≠ []) (h : (wf t b).1 < 0 ∨ (b.length : Int) < (wf t b).1) : handF wf fu t b idle = (0, 34, (wf t b).2.2) := by
  obtain ⟨fu, rfl⟩ : ∃ f, fu = f + 1 := ⟨fu - 1, by omega⟩
  rw [handF, if_neg hb, if_pos h]
theorem handF_err {τ : Type} {wf : τ → List Int → Int × Int × τ} {fu : Nat} {t : τ} {b : List Int} {idle : Nat} (hf : 0 < fu) (hb : b ≠ []) (h : ¬ ((wf t b).1 < 0 ∨ (b.length : Int) < (wf t b).1)) (he : (wf t b).2.1 ≠ 0) : handF wf fu t b idle = ((wf t b).1.toNat, (wf t b).2.1, (wf t b).2.2) := by
  obtain ⟨fu, rfl⟩ : ∃ f, fu = f + 1 := ⟨fu - 1, by omega⟩
  rw [handF, if_neg hb, if_neg h, if_pos he]
theorem handF_some {τ : Type} {wf : τ → List Int → Int × Int × τ} {fu : Nat} {t : τ} {b : List Int} {idle : Nat} (hf : 0 < fu) (hb : b ≠ []) (h : ¬ ((wf t b).1 < 0 ∨ (b.length : Int) < (wf t b).1)) (he : (wf t b).2.1 = 0) (hp : 0 < (wf t b).1) :
    handF wf fu t b idle = ((wf t b).1.toNat + (handF wf (fu - 1) (wf t b).2.2 (b.drop (wf t b).1.toNat) 0).1, (handF wf (fu - 1) (wf t b).2.2 (b.drop (wf t b).1.toNat) 0).2) := by
  obtain ⟨fu, rfl⟩ : ∃ f, fu = f + 1 := ⟨fu - 1, by omega⟩
  rw [handF, if_neg hb, if_neg h, if_neg (by simp [he]), if_pos hp, if_neg (by decide)]
  rfl
theorem handF_idle {τ : Type} {wf : τ → List Int → Int × Int × τ} {fu : Nat} {t : τ} {b : List Int} {idle : Nat} (hf : 0 < fu) (hb : b ≠ []) (he : (wf t b).2.1 = 0) (hp : (wf t b).1 = 0) (hi : idle + 1 ≠ 16) :
    handF wf fu t b idle = handF wf (fu - 1) (wf t b).2.2 b (idle + 1) := by
  obtain ⟨fu, rfl⟩ : ∃ f, fu = f + 1 := ⟨fu - 1, by omega⟩
  rw [handF, if_neg hb, if_neg (by omega), if_neg (by simp [he])]
  simp [hp, hi]
theorem handF_16 {τ : Type} {wf : τ → List Int → Int × Int × τ} {fu : Nat} {t : τ} {b : List Int} {idle : Nat} (hf : 0 < fu) (hb : b ≠ []) (he : (wf t b).2.1 = 0) (hp : (wf t b).1 = 0) (hi : idle + 1 = 16) :
    handF wf fu t b idle = (0, 33, (wf t b).2.2) := by
  obtain ⟨fu, rfl⟩ : ∃ f, fu = f + 1 := ⟨fu - 1, by omega⟩
  rw [handF, if_neg hb, if_neg (by omega), if_neg (by simp [he])]
  simp [hp, hi]

/-- What holds at the head of a round: k bytes are taken, i calls running took nothing. -/
def HandAt {τ : Type} (wf : τ → List Int → Int × Int × τ) (cnt sz : τ → Nat) (Wd : World → τ → (Nat → Prop) → Prop) (W : World) (t0 : τ) (M0 : Nat → Prop) (b : List Int) (k i : Nat) (W' : World) : Prop :=
  ∃ (t : τ) (M : Nat → Prop) (fu : Nat), k ≤ b.length ∧ i < 16 ∧ 17 * (b.length - k) + (16 - i) < fu ∧ handA wf t0 b = (k + (handF wf fu t (b.drop k) i).1, (handF wf fu t (b.drop k) i).2) ∧ Wd W' t M ∧ Upd M0 W W' ∧ (∀ j, M j → M0 j ∨ W.heap.size ≤ j) ∧ cnt t + 17 * (b.length - k) + (16 - i) ≤ 4611686018427387903 ∧ sz t + (b.length - k) ≤ 140737488355328

set_option maxRecDepth 100000 in
set_option maxHeartbeats 1600000 in
theorem hand_any {τ : Type} {wf : τ → List Int → Int × Int × τ} {cnt sz : τ → Nat} {f : FuncId} {recv : Value} {B : Nat} {Wd : World → τ → (Nat → Prop) → Prop} {ty : TypeId} {pv : Value} (T : Writer wf cnt sz f recv B Wd) (L : Leads "Write" ty pv f recv)
    (W : World) (t : τ) (M : Nat → Prop) (a : Option Addr) (len cap : Nat) (b : List Int) (hl : b.length = len) (hcap : len ≤ cap) (hrow : Row W .u8 a b) (hm : len ≤ 1048576) (hM : ∀ x, a = some x → ¬ M x.block) (hB : B ≤ W.heap.size) (hW : Wd W t M)
    (hcnt : cnt t + 17 * len + 16 ≤ 4611686018427387903) (hsz : sz t + len ≤ 140737488355328) :
    Calls Try.prog 28 #[.iface ty pv, .slice a len cap] W fun e W' => HandPost wf Wd W t M b e W' := by
  have hme := L.method
  have hen := L.enter
  have HT := hide T
  have HR := hide hrow
  have HM := hide hM
  have H0 : Hid (HandAt wf cnt sz Wd W t M b 0 0 W) := hide ⟨t, M, 17 * b.length + 17, by omega, by omega, by omega, by simp [handA], hW, Upd.refl _ _, fun _ h => .inl h, by omega, by omega⟩
  clear hrow hM hW L T hcnt hsz
  go_enter Try.func28, Try.ntmps28
  go_wp2_with fail
  go_loopw [6, 7] (fun q r wr' => ∃ k i : Nat, q = .int .i64 k ∧ r = .int .i64 i ∧ Hid (HandAt wf cnt sz Wd W t M b k i wr')) (fun q r _ => 17 * (len - (intOf q).toNat) + (16 - (intOf r).toNat))
  case atStart => exact ⟨0, 0, rfl, rfl, H0⟩
  case round =>
    clear H0
    obtain ⟨k, i, rfl, rfl, HA⟩ := hrel
    obtain ⟨t1, M1, fu, hk, hi, hfu, heq, hw1, hu1, hm1, hc1, hs1⟩ := HA.out
    clear HA
    replace heq := hide heq
    replace hw1 := hide hw1
    replace hu1 := hide hu1
    replace hm1 := hide hm1
    replace hs1 := hide hs1
    replace hc1 := hide hc1
    replace hfu := hide hfu
    by_cases hlt : k < len
    · have hR1 := (HR.out).upd hu1.out (fun x hx _ => HM.out x hx)
      obtain ⟨bb, o, rfl, hbb, hcells⟩ := hR1.cons (by omega)
      have hdl : (b.drop k).length = len - k := by rw [List.length_drop, hl]
      have HC := hide (bclone_some ⟨bb, o + k, none⟩ (len - k) (cap - k) (b.drop k) wr hdl (by omega) (hR1.drop k))
      have hne : b.drop k ≠ [] := fun e => by rw [e] at hdl; simp at hdl; omega
      clear hcells hR1
      have g1 : (k : Int) < (len : Int) := by omega
      have g2 : (k : Int) ≤ (len : Int) := by omega
      have g3 : (0 : Int) ≤ (k : Int) := by omega
      have g4 : (len : Int) ≤ (cap : Int) := by omega
      have g5 : ¬ cap = k := by omega
      have g6 : (k : Int) ≤ (cap : Int) := by omega
      go_wp2_with fail
      refine HC.out.mono ?_
      rintro e w2 ⟨v2, rfl, ho2, hb2⟩
      obtain ⟨a2, c2, rfl, hn2, hc2, hz2⟩ := ho2.sliceN hdl
      have hsz1 := hu1.out.size
      have HR2 := hide (ho2.row)
      obtain ⟨b2, o2, rfl, hb2lt, _⟩ := HR2.out.cons (by omega)
      have hz2' := hz2 b2 rfl
      have HW2 := hide (HT.out.upd hw1.out (Upd.of_below hb2 Noth) (fun i e => e.elim))
      have hM2 : ¬ M1 b2 := fun e => by have := HT.out.lt hw1.out _ e; omega
      have HRC := hide (HT.out.write w2 t1 M1 b2 o2 (len - k) c2 (b.drop k) HW2.out (by have := hc1.out; omega) hdl (by omega) hc2 HR2.out hM2 (by have := hs1.out; omega) (by have := hb2.size; omega))
      have HU2 := hide (hu1.out.trans (Upd.of_below hb2 _))
      have hsz2 := hb2.size
      clear ho2 hb2 hn2 hz2 HC
      have q1 := hide (fun h => handF_bad (wf := wf) (fu := fu) (t := t1) (b := b.drop k) (idle := i) (by have := hfu.out; omega) hne h)
      have q2 := hide (fun h => handF_err (wf := wf) (fu := fu) (t := t1) (b := b.drop k) (idle := i) (by have := hfu.out; omega) hne h)
      have q3 := hide (fun h => handF_some (wf := wf) (fu := fu) (t := t1) (b := b.drop k) (idle := i) (by have := hfu.out; omega) hne h)
      have q4 := hide (fun h => handF_idle (wf := wf) (fu := fu) (t := t1) (b := b.drop k) (idle := i) (by have := hfu.out; omega) hne h)
      have q5 := hide (fun h => handF_16 (wf := wf) (fu := fu) (t := t1) (b := b.drop k) (idle := i) (by have := hfu.out; omega) hne h)
      have q6 := hide (HT.out.cnt1 t1 (b.drop k))
      have q7 := hide (HT.out.szin t1 (b.drop k))
      rw [hdl] at q1 q2 q3 q7
      go_wp2_with fail
      refine HRC.out.mono ?_
      rintro e w3 ⟨M3, rfl, hw3, hu3, hm3⟩
      have HU3 : Hid (Upd M W w3) := hide (HU2.out.then hu3 (fun j hj hM => (hm1.out j hM).elim id (fun h => by omega)))
      have HM3 : Hid (∀ j, M3 j → M j ∨ W.heap.size ≤ j) := hide (fun j hj => (hm3 j hj).elim (fun h => hm1.out j h) (fun h => .inr (by omega)))
      replace hw3 := hide hw3
      clear hu3 hm3 HRC HU2 HW2 HR2 hw1 hu1 hm1
      generalize wf t1 (b.drop k) = q at *
      obtain ⟨n, er, t3⟩ := q
      simp only at q1 q2 q3 q4 q5 q6 q7 hw3
      generalize hL : len - k = L at *
      replace hL := hide hL
      by_cases hbad : n < 0 ∨ (L : Int) < n
      · have hz : handA wf t b = (k, 34, t3) := by rw [heq.out, q1.out hbad]; simp
        replace hz := hide hz
        have HF : Hid (HandPost wf Wd W t M b (.returned (.tuple #[.int .i64 (k : Nat), .int .i64 34])) w3) := hide ⟨M3, by rw [hz.out], by rw [hz.out]; exact hw3.out, HU3.out, HM3.out⟩
        rcases hbad with hneg | hbig
        · go_wp2_with fail
          go_ret2
          exact HF.out
        · have hneg : ¬ n < 0 := by omega
          go_wp2_with fail
          go_ret2
          exact HF.out
      · obtain ⟨x, rfl⟩ : ∃ x : Nat, n = x := ⟨n.toNat, by omega⟩
        simp only [Int.toNat_natCast] at q2 q3 q7
        have n1 : ¬ (x : Int) < 0 := by omega
        have n2 : ¬ (L : Int) < (x : Int) := by omega
        by_cases he : er = 0
        · subst he
          by_cases hx : x = 0
          · subst hx
            by_cases h16 : i + 1 = 16
            · have hz : handA wf t b = (k, 33, t3) := by rw [heq.out, q5.out rfl rfl h16]; simp
              replace hz := hide hz
              have HF : Hid (HandPost wf Wd W t M b (.returned (.tuple #[.int .i64 (k : Nat), .int .i64 33])) w3) := hide ⟨M3, by rw [hz.out], by rw [hz.out]; exact hw3.out, HU3.out, HM3.out⟩
              obtain rfl : i = 15 := by omega
              clear hbad
              rw [show ((15 : Nat) : Int) = 15 from rfl]
              go_wp2_with fail
              go_ret2
              exact HF.out
            · have hz : handA wf t b = (k + (handF wf (fu - 1) t3 (b.drop k) (i + 1)).1, (handF wf (fu - 1) t3 (b.drop k) (i + 1)).2) := by rw [heq.out, q4.out rfl rfl h16]
              replace hz := hide hz
              have HN : Hid (HandAt wf cnt sz Wd W t M b k (i + 1) w3) := hide ⟨t3, M3, fu - 1, hk, by omega, by have := hfu.out; omega, hz.out, hw3.out, HU3.out, HM3.out, by have := q6.out; have := hc1.out; omega, by have := q7.out (by omega) (by omega); have := hs1.out; omega⟩
              have h16' : ¬ (i : Int) + 1 = 16 := by omega
              clear hbad
              go_wp2_with fail
              go_roundw
              case rel => exact ⟨k, i + 1, by go_num, by go_num, HN⟩
              case measure => simp [intOf]; omega
          · have hz : handA wf t b = (k + x + (handF wf (fu - 1) t3 (b.drop (k + x)) 0).1, (handF wf (fu - 1) t3 (b.drop (k + x)) 0).2) := by
              rw [heq.out, q3.out hbad rfl (by omega), List.drop_drop, Nat.add_assoc]
            replace hz := hide hz
            have HN : Hid (HandAt wf cnt sz Wd W t M b (k + x) 0 w3) := hide ⟨t3, M3, fu - 1, by have := hL.out; omega, by omega, by have := hfu.out; have := hL.out; omega, hz.out, hw3.out, HU3.out, HM3.out, by have := q6.out; have := hc1.out; have := hL.out; omega, by have := q7.out (by omega) (by omega); have := hs1.out; have := hL.out; omega⟩
            have hx1 : (0 : Int) < (x : Int) := by omega
            have hLx := hL.out
            clear hbad
            go_wp2_with fail
            go_roundw
            case rel => exact ⟨k + x, 0, by go_num, rfl, HN⟩
            case measure => simp [intOf]; omega
        · have hz : handA wf t b = (k + x, er, t3) := by rw [heq.out, q2.out hbad he]
          replace hz := hide hz
          have HF : Hid (HandPost wf Wd W t M b (.returned (.tuple #[.int .i64 ((k + x : Nat) : Int), .int .i64 er])) w3) := hide ⟨M3, by rw [hz.out], by rw [hz.out]; exact hw3.out, HU3.out, HM3.out⟩
          have hcast : ((k + x : Nat) : Int) = (k : Int) + (x : Int) := by omega
          rw [hcast] at HF
          have hLx := hL.out
          clear hbad
          go_wp2_with fail
          go_ret2
          exact HF.out
    · obtain rfl : k = len := by omega
      have hz : handA wf t b = (k, 0, t1) := by
        rw [heq.out, List.drop_eq_nil_of_le (by omega), handF_done]; simp
      replace hz := hide hz
      have HF : Hid (HandPost wf Wd W t M b (.returned (.tuple #[.int .i64 (k : Nat), .int .i64 0])) wr) := hide ⟨M1, by rw [hz.out], by rw [hz.out]; exact hw1.out, hu1.out, hm1.out⟩
      have g1 : ¬ (k : Int) < (k : Int) := by omega
      go_wp2_with fail
      go_ret2
      exact HF.out

end Go.Proofs.Ytcffekhlnidjnaa
