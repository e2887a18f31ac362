/- An In's calls: Byte, Bytes, End. -/
import Derived.Test.YtjcanghffhpncaaQTake
namespace Go.Proofs.Ytjcanghffhpncaa
open Go.RowKit

def InS.ends {σ : Type} (x : InS σ) (e : Int) : InS σ := ⟨x.s, x.at', x.i, e, x.left, x.held⟩
def InS.goes {σ : Type} (x : InS σ) (n : Nat) : InS σ := ⟨x.s, x.at' + n, x.i, x.err, x.left, x.held⟩
def byteP {σ : Type} (RD : Nat → σ → Int × Int × List Int × σ) (x : InS σ) : Int × Int × InS σ :=
  if x.err ≠ 0 then (0, x.err, x) else
  if (takeP RD 1 x).2.1 ≠ 0 then (0, (takeP RD 1 x).2.1, (takeP RD 1 x).2.2.ends (takeP RD 1 x).2.1) else ((takeP RD 1 x).1.getD 0 0, 0, (takeP RD 1 x).2.2.goes 1)
def bytesP {σ : Type} (RD : Nat → σ → Int × Int × List Int × σ) (n : Int) (x : InS σ) : List Int × Int × InS σ :=
  if x.err ≠ 0 then ([], x.err, x) else if n < 0 then ([], 1, x) else
  if (takeP RD n.toNat x).2.1 ≠ 0 then ([], (takeP RD n.toNat x).2.1, (takeP RD n.toNat x).2.2.ends (takeP RD n.toNat x).2.1) else ((takeP RD n.toNat x).1, 0, (takeP RD n.toNat x).2.2.goes n.toNat)
def endP {σ : Type} (RD : Nat → σ → Int × Int × List Int × σ) (x : InS σ) : Bool × Int × InS σ :=
  if x.err ≠ 0 then (false, x.err, x) else if x.held ≠ [] then (false, 0, x) else
  if (fillA RD 1 [] x.s x.i).2.1 = 41 then (true, 0, ⟨(fillA RD 1 [] x.s x.i).2.2.1, x.at', (fillA RD 1 [] x.s x.i).2.2.2, x.err, x.left, x.held⟩) else
  if (fillA RD 1 [] x.s x.i).2.1 ≠ 0 then (false, (fillA RD 1 [] x.s x.i).2.1, ⟨(fillA RD 1 [] x.s x.i).2.2.1, x.at', (fillA RD 1 [] x.s x.i).2.2.2, (fillA RD 1 [] x.s x.i).2.1, x.left, x.held⟩) else
  (false, 0, ⟨(fillA RD 1 [] x.s x.i).2.2.1, x.at', (fillA RD 1 [] x.s x.i).2.2.2, x.err, x.left, (fillA RD 1 [] x.s x.i).1⟩)

/-- What is known behind take. -/
structure TakeOk {σ : Type} (cnt m vol : σ → Nat) (C l n : Nat) (x : InS σ) (q : List Int × Int × InS σ) : Prop where
  ok : q.2.1 = 0 → q.1.length = n ∧ B8 q.1 ∧ q.2.2.i < 16 ∧ n ≤ x.left ∧ q.2.2.left = x.left - n
  none : q.2.1 ≠ 0 → q.1 = []
  at1 : q.2.2.at' = x.at'
  err1 : q.2.2.err = x.err
  held1 : q.2.2.held.length ≤ 1
  b8 : B8 q.2.2.held
  pot : cnt q.2.2.s + 17 * m q.2.2.s + (16 - q.2.2.i) ≤ C + 17
  vo : min q.2.2.left (q.2.2.held.length + vol q.2.2.s) ≤ 140737488355328

theorem take_ok {σ : Type} {RD : Nat → σ → Int × Int × List Int × σ} {cnt m vol : σ → Nat} {f : FuncId} {recv : Value} {B : Nat} {Rd : World → σ → (Nat → Prop) → Prop} (X : RFam RD cnt m vol f recv B Rd) (n : Nat) (x : InS σ) (C l : Nat) (hok : InOk cnt m vol C l x) (he : x.err = 0) : TakeOk cnt m vol C l n x (takeP RD n x) := by
  obtain ⟨s, at', i, err, left, held⟩ := x
  simp only at he
  subst he
  have h1 := hok.held1
  have h2 := hok.b8
  have h3 := hok.i16 rfl
  have h4 := hok.pot rfl
  have h5 := hok.vo rfl
  simp only at h1 h2 h3 h4 h5
  unfold takeP
  simp only
  by_cases hlt : left < n
  · rw [if_pos hlt]
    exact ⟨fun h => absurd h (by simp), fun _ => rfl, rfl, rfl, h1, h2, by simp only; omega, h5⟩
  · rw [if_neg hlt]
    by_cases hn0 : n = 0
    · rw [if_pos hn0]
      exact ⟨fun _ => ⟨hn0.symm, b8_nil, h3, by simp only; omega, by simp only; omega⟩, fun h => absurd rfl h, rfl, rfl, h1, h2, by simp only; omega, h5⟩
    · rw [if_neg hn0]
      have hF := X.fill n held s i h3 (by omega)
      have k1 := hF.pot
      have k2 := hF.vol
      exact ⟨fun h => ⟨(hF.full h).1, hF.b8 h2, (hF.full h).2, by simp only; omega, rfl⟩, hF.none, rfl, rfl, by simp, b8_nil, by simp only; omega, by simp only [List.length_nil]; omega⟩

def BytePost {σ : Type} (Rd : World → σ → (Nat → Prop) → Prop) (B g : Nat) (r v : Value) (ee : Int) (x : InS σ) (F : Nat → Prop) (W : World) (e : Ending) (W' : World) : Prop :=
  ∃ F', e = .returned (.tuple #[v, .int .i64 ee]) ∧ IsIn Rd B g r W' x F' ∧ Upd F W W' ∧ (∀ j, F' j → F j ∨ W.heap.size ≤ j)

theorem IsIn.g {σ : Type} {Rd : World → σ → (Nat → Prop) → Prop} {B g : Nat} {r : Value} {W : World} {x : InS σ} {F : Nat → Prop} (h : IsIn Rd B g r W x F) : F g ∧ g < W.heap.size ∧ W.cell? ⟨g, 0, none⟩ = some (.int .i64 (x.at' : Int)) ∧ W.cell? ⟨g, 2, none⟩ = some (.int .i64 x.err) ∧ W.frozen? ⟨g, 2, none⟩ = false ∧ W.frozen? ⟨g, 0, none⟩ = false := by
  obtain ⟨hv, M, hi, hr, ho, hMg, hBg, hd, hF⟩ := h
  exact ⟨(hF g).2 (.inr (.inl rfl)), lt_of_block hi, (InC.c hi).1, (InC.c hi).2.2.1, (InC.c hi).2.2.2.2.2.2 2, (InC.c hi).2.2.2.2.2.2 0⟩
/-- A cell of its own is set: its error, or where it stands. -/
theorem IsIn.setErr {σ : Type} {Rd : World → σ → (Nat → Prop) → Prop} {B g : Nat} {r : Value} {W : World} {x : InS σ} {F : Nat → Prop} (hup : ∀ {W W' : World} {s : σ} {M S : Nat → Prop}, Rd W s M → Upd S W W' → (∀ i, S i → B ≤ i ∧ ¬ M i) → Rd W' s M) (h : IsIn Rd B g r W x F) (e : Int) : IsIn Rd B g r (W.setCell ⟨g, 2, none⟩ (.int .i64 e)) (x.ends e) F ∧ Upd F W (W.setCell ⟨g, 2, none⟩ (.int .i64 e)) := by
  obtain ⟨hv, M, hi, hr, ho, hMg, hBg, hd, hF⟩ := h
  have hu : Upd (fun j => j = g) W (W.setCell ⟨g, 2, none⟩ (.int .i64 e)) := (Upd.refl _ _).set1 2 _
  exact ⟨⟨hv, M, block_setCell hi 2 _, hup hr hu (fun j e => by subst e; exact ⟨hBg, hMg⟩), ho.upd hu (fun j hj e => (hd j hj).2 e), hMg, hBg, hd, hF⟩, hu.mono (fun j _ e => (hF j).2 (.inr (.inl e)))⟩
theorem IsIn.setAt {σ : Type} {Rd : World → σ → (Nat → Prop) → Prop} {B g : Nat} {r : Value} {W : World} {x : InS σ} {F : Nat → Prop} (hup : ∀ {W W' : World} {s : σ} {M S : Nat → Prop}, Rd W s M → Upd S W W' → (∀ i, S i → B ≤ i ∧ ¬ M i) → Rd W' s M) (h : IsIn Rd B g r W x F) (n : Nat) (z : Int) (hz : z = (x.at' : Int) + (n : Int)) : IsIn Rd B g r (W.setCell ⟨g, 0, none⟩ (.int .i64 z)) (x.goes n) F ∧ Upd F W (W.setCell ⟨g, 0, none⟩ (.int .i64 z)) := by
  obtain ⟨hv, M, hi, hr, ho, hMg, hBg, hd, hF⟩ := h
  have hu : Upd (fun j => j = g) W (W.setCell ⟨g, 0, none⟩ (.int .i64 z)) := (Upd.refl _ _).set1 0 _
  refine ⟨⟨hv, M, ?_, hup hr hu (fun j e => by subst e; exact ⟨hBg, hMg⟩), ho.upd hu (fun j hj e => (hd j hj).2 e), hMg, hBg, hd, hF⟩, hu.mono (fun j _ e => (hF j).2 (.inr (.inl e)))⟩
  subst hz
  have e1 : ((x.at' + n : Nat) : Int) = (x.at' : Int) + (n : Int) := by omega
  unfold InC InS.goes
  rw [e1]
  exact block_setCell hi 0 _

set_option maxRecDepth 100000 in
set_option maxHeartbeats 1600000 in
theorem byte_any {σ : Type} {RD : Nat → σ → Int × Int × List Int × σ} {cnt m vol : σ → Nat} {f : FuncId} {recv : Value} {B : Nat} {Rd : World → σ → (Nat → Prop) → Prop} {ty : TypeId} {pv : Value} (L : Leads "Read" ty pv f recv) (X : RFam RD cnt m vol f recv B Rd)
    (W : World) (g : Nat) (x : InS σ) (F : Nat → Prop) (C l : Nat) (hI : IsIn Rd B g (.iface ty pv) W x F) (hok : InOk cnt m vol C l x) (hC : C ≤ 4611686018427387000) (hl : l ≤ 9223372036854775807) (hB : B ≤ W.heap.size) :
    Calls Try.prog 17 #[.pointer (some ⟨g, 0, none⟩)] W fun e W' => BytePost Rd B g (.iface ty pv) (.int .u8 (byteP RD x).1) (byteP RD x).2.1 (byteP RD x).2.2 F W e W' := by
  have hg := hI.g
  have c2 := hg.2.2.2.1
  by_cases he : x.err = 0
  · have HT := hide (take_any L X W g x F C l 1 (by omega) hI hok he hC hl hB)
    have HOK := hide (take_ok X 1 x C l hok he)
    have hlim := hok.lim he
    have HBP : Hid (byteP RD x = if (takeP RD 1 x).2.1 ≠ 0 then (0, (takeP RD 1 x).2.1, (takeP RD 1 x).2.2.ends (takeP RD 1 x).2.1) else ((takeP RD 1 x).1.getD 0 0, 0, (takeP RD 1 x).2.2.goes 1)) := hide (by unfold byteP; rw [if_neg (by simp [he])])
    have HX := hide X
    rw [he] at c2
    clear hg hI hok L X he
    generalize takeP RD 1 x = q at *
    obtain ⟨bs, er, x'⟩ := q
    simp only at HBP
    go_enter Try.func17, Try.ntmps17
    go_wp2_with fail
    refine HT.out.mono ?_
    rintro e w1 ⟨v, F', rfl, ho1, hi1, hu1, hf1, hd1⟩
    simp only at ho1 hi1
    obtain ⟨lb, hlb⟩ : ∃ lb, bs.length = lb := ⟨_, rfl⟩
    have hr1 := ho1.slice
    obtain ⟨a1, c1, rfl, hn1, hc1, _⟩ := ho1.sliceN hlb
    have hrow := ho1.row
    have hg1 := hi1.g
    have d0 := hg1.2.2.1
    have d2 := hg1.2.2.2.1
    have f2 := hg1.2.2.2.2.1
    have f0 := hg1.2.2.2.2.2
    replace hlb := hide hlb
    have HI1 := hide hi1
    have HU1 := hide hu1
    have HF1 := hide hf1
    by_cases e0 : er = 0
    · subst e0
      rw [if_neg (by simp)] at HBP
      have hok1 := HOK.out.ok rfl
      obtain rfl : lb = 1 := by rw [← hlb.out]; exact hok1.1
      obtain ⟨b, o, ha, hcell⟩ := hrow 0 (by rw [hlb.out]; omega)
      subst ha
      have hat : x'.at' + 1 ≤ 9223372036854775807 := by have h1 := HOK.out.at1; simp only at h1 hok1; omega
      have hcell2 : (w1.setCell ⟨g, 0, none⟩ (.int .i64 ((x'.at' : Int) + 1))).cell? ⟨b, o, none⟩ = some (.int .u8 (bs.getD 0 0)) := by
        have hne : b ≠ g := fun e => by
          subst e
          have h1 := OwnB.bo ho1
          have h2 : (Value.slice (some ⟨b, o, none⟩) 1 c1).ownBlock = some b := by rw [← h1]; rfl
          exact (hd1 b h2).1 hg1.1
        have hu : Upd (fun j => j = g) w1 (w1.setCell ⟨g, 0, none⟩ (.int .i64 ((x'.at' : Int) + 1))) := (Upd.refl _ _).set1 0 _
        exact hu.cell (p := ⟨b, o, none⟩) hcell hne
      have HF : Hid (BytePost Rd B g (.iface ty pv) (.int .u8 (byteP RD x).1) (byteP RD x).2.1 (byteP RD x).2.2 F W (.returned (.tuple #[.int .u8 (bs.getD 0 0), .int .i64 0])) (w1.setCell ⟨g, 0, none⟩ (.int .i64 ((x'.at' : Int) + 1)))) := by
        rw [HBP.out]
        obtain ⟨q1, q2⟩ := hi1.setAt (HX.out.R 1 (by omega) (by omega)).upd 1 ((x'.at' : Int) + 1) rfl
        exact ⟨F', rfl, q1, hu1.then q2 (fun j hj e => (hf1 j e).elim id (fun h => by omega)), hf1⟩
      clear HBP HT hi1 ho1 hu1 hf1 hd1 hr1 hrow hcell hok1 hg1
      go_wp2_with fail
      go_ret2
      exact HF.out
    · rw [if_pos e0] at HBP
      have e0' : (er != 0) = true := by simp [e0]
      have HE := hide (end_any g er (.int .i64 x'.err) w1 d2 f2)
      have HF : Hid (BytePost Rd B g (.iface ty pv) (.int .u8 (byteP RD x).1) (byteP RD x).2.1 (byteP RD x).2.2 F W (.returned (.tuple #[.int .u8 0, .int .i64 er])) (w1.setCell ⟨g, 2, none⟩ (.int .i64 er))) := by
        rw [HBP.out]
        obtain ⟨q1, q2⟩ := hi1.setErr (HX.out.R 1 (by omega) (by omega)).upd er
        exact ⟨F', rfl, q1, hu1.then q2 (fun j hj e => (hf1 j e).elim id (fun h => by omega)), hf1⟩
      clear HBP HT hi1 ho1 hu1 hf1 hd1 hr1 hrow hg1
      go_wp2_with (first
        | (go_at_call 37; refine HE.out.mono ?_; rintro e w2 ⟨rfl, rfl⟩)
        | fail)
      go_ret2
      exact HF.out
  · have he' : (x.err != 0) = true := by simp [he]
    have HF : Hid (∀ n, BytePost Rd B g (.iface ty pv) (.int .u8 (byteP RD x).1) (byteP RD x).2.1 (byteP RD x).2.2 F W (.returned (.tuple #[.int .u8 0, .int .i64 x.err])) (W.drewN n)) := hide fun n => by
      have hb : byteP RD x = (0, x.err, x) := by unfold byteP; rw [if_pos he]
      rw [hb]
      obtain ⟨hv, M, hi, hr, ho, hMg, hBg, hd, hF⟩ := hI
      have hu : Upd Noth W (W.drewN n) := ((Still.refl W).drewN n).upd Noth
      exact ⟨F, rfl, ⟨hv, M, hi, (X.R 1 (by omega) (by omega)).upd hr hu (fun _ e => e.elim), ho.upd hu (fun _ _ e => e), hMg, hBg, hd, hF⟩, hu.noth, fun _ h => .inl h⟩
    clear hg hI hok L X
    go_enter Try.func17, Try.ntmps17
    go_wp2_with fail
    go_quiet (fail)
    go_wp2_with fail
    go_ret2
    exact HF.out _

end Go.Proofs.Ytjcanghffhpncaa
