/- Rising keys as lists: where a key is, a key more, a key less. No program is named here. -/
import Derived.Test.YtpljbgcofmlhbaaGreatG15
import Derived.Test.YtpljbgcofmlhbaaGreatG19
namespace Go.Proofs.YtpljbgcofmlhbaaGreat
open Go.RowKit
set_option maxRecDepth 100000
theorem cmp_lt_trans {a b c : List Int} (h1 : cmpI a b < 0) (h2 : cmpI b c < 0) : cmpI a c < 0 := (cmpI_trans a b c (by omega) (by omega)).2 h1
theorem Rs.far {l : List (List Int)} (h : Rs l) : ∀ d i, i + d + 1 < l.length → cmpI (l.getD i []) (l.getD (i + d + 1) []) < 0
 | 0, i, hi => h i (by omega)
 | d + 1, i, hi => cmp_lt_trans (Rs.far h d i (by omega)) (h (i + d + 1) (by omega))
theorem Rs.pair {l : List (List Int)} (h : Rs l) : l.Pairwise fun a b => cmpI a b < 0 := by
 rw [List.pairwise_iff_getElem]
 intro i j hi hj hij
 have := h.far (j - i - 1) i (by omega)
 rw [show i + (j - i - 1) + 1 = j by omega] at this
 simpa [hi, hj] using this
theorem Rs.of {l : List (List Int)} (h : l.Pairwise fun a b => cmpI a b < 0) : Rs l := by
 intro j hj
 rw [List.pairwise_iff_getElem] at h
 have h1 : j < l.length := by omega
 have h2 : j + 1 < l.length := by omega
 have := h j (j + 1) h1 h2 (by omega)
 simpa [h1, h2] using this
theorem isIn_iff {ks : List (List Int)} {key : List Int} : isIn ks key = true ↔ key ∈ ks := by
 unfold isIn
 simp [List.any_eq_true]
theorem isIn_false {ks : List (List Int)} {key : List Int} : isIn ks key = false ↔ key ∉ ks := by
 rw [← isIn_iff]; cases isIn ks key <;> simp
theorem cntB_nil (key : List Int) : cntB [] key = 0 := rfl
theorem cntB_cons (a : List Int) (r : List (List Int)) (key : List Int) : cntB (a :: r) key = cntB r key + if cmpI a key < 0 then 1 else 0 := by
 simp [cntB, List.countP_cons]
theorem cntB_app (a r : List (List Int)) (key : List Int) : cntB (a ++ r) key = cntB a key + cntB r key := by simp [cntB, List.countP_append]
theorem cntB_zero {r : List (List Int)} {key : List Int} (h : ∀ x ∈ r, ¬ cmpI x key < 0) : cntB r key = 0 := by
 unfold cntB
 rw [List.countP_eq_zero]
 intro x hx
 simp only [decide_eq_true_eq]
 exact h x hx
theorem cntB_all {r : List (List Int)} {key : List Int} (h : ∀ x ∈ r, cmpI x key < 0) : cntB r key = r.length := by
 unfold cntB
 rw [List.countP_eq_length]
 intro x hx
 simp only [decide_eq_true_eq]
 exact h x hx
theorem cmp_gt {a b : List Int} (h : cmpI a b < 0) : ¬ cmpI b a < 0 := by rw [cmpI_swap a b]; omega
theorem cmp_ne {a b : List Int} (h : cmpI a b < 0) : a ≠ b := fun e => by rw [e, cmpI_refl] at h; omega
theorem parts : ∀ (ks : List (List Int)) (key : List Int), (ks.Pairwise fun a b => cmpI a b < 0) →
  ∃ A B, (∀ x ∈ A, cmpI x key < 0) ∧ (∀ x ∈ B, cmpI key x < 0) ∧ cntB ks key = A.length ∧ ((isIn ks key = true ∧ ks = A ++ key :: B) ∨ (isIn ks key = false ∧ ks = A ++ B))
 | [], key, _ => ⟨[], [], fun x hx => (by cases hx), fun x hx => (by cases hx), rfl, .inr ⟨rfl, rfl⟩⟩
 | a :: r, key, h => by
  rw [List.pairwise_cons] at h
  obtain ⟨A, B, hA, hB, hc, hor⟩ := parts r key h.2
  rcases cmpI_range a key with h1 | h1 | h1
  ·have hal : cmpI a key < 0 := by omega
   refine ⟨a :: A, B, fun x hx => ?_, hB, by rw [cntB_cons, if_pos hal, hc]; rfl, ?_⟩
   ·rcases List.mem_cons.1 hx with rfl | hx
    ·exact hal
    ·exact hA x hx
   ·rcases hor with ⟨h2, h3⟩ | ⟨h2, h3⟩
    ·exact .inl ⟨by rw [isIn_iff]; exact List.mem_cons_of_mem _ (isIn_iff.1 h2), by rw [h3]; rfl⟩
    ·refine .inr ⟨?_, by rw [h3]; rfl⟩
     rw [isIn_false]
     intro hm
     rcases List.mem_cons.1 hm with e | hm
     ·exact cmp_ne hal e.symm
     ·exact (isIn_false.1 h2) hm
  ·obtain rfl := cmpI_zero a key h1
   have hz : cntB r a = 0 := cntB_zero fun x hx => cmp_gt (h.1 x hx)
   have hA0 : A = [] := List.eq_nil_of_length_eq_zero (by omega)
   subst hA0
   refine ⟨[], r, fun x hx => (by cases hx), h.1, by rw [cntB_cons, hz, if_neg (by omega)]; rfl, .inl ⟨by rw [isIn_iff]; exact List.mem_cons_self, rfl⟩⟩
  ·have hg : cmpI key a < 0 := by rw [cmpI_swap a key]; omega
   have hz : cntB r key = 0 := cntB_zero fun x hx => cmp_gt (cmp_lt_trans hg (h.1 x hx))
   refine ⟨[], a :: r, fun x hx => (by cases hx), fun x hx => ?_, by rw [cntB_cons, hz, if_neg (by omega)]; rfl, .inr ⟨?_, rfl⟩⟩
   ·rcases List.mem_cons.1 hx with rfl | hx
    ·exact hg
    ·exact cmp_lt_trans hg (h.1 x hx)
   ·rw [isIn_false]
    intro hm
    rcases List.mem_cons.1 hm with e | hm
    ·exact cmp_ne hg e
    ·exact cmp_ne (cmp_lt_trans hg (h.1 key hm)) rfl
theorem insL_at {α : Type} (A B : List α) (x : α) : insL (A ++ B) A.length x = A ++ x :: B := by simp [insL]
theorem remL_at {α : Type} (A B : List α) (x : α) : remL (A ++ x :: B) A.length = A ++ B := by simp [remL, List.drop_append]
theorem split_at {α : Type} {l : List α} {i : Nat} (h : i ≤ l.length) : ∃ A B, l = A ++ B ∧ A.length = i := ⟨l.take i, l.drop i, (List.take_append_drop i l).symm, by rw [List.length_take]; omega⟩
theorem split_at1 {α : Type} {l : List α} {i : Nat} (h : i < l.length) : ∃ A x B, l = A ++ x :: B ∧ A.length = i := ⟨l.take i, l[i], l.drop (i + 1), by rw [← List.drop_eq_getElem_cons h, List.take_append_drop], by rw [List.length_take]; omega⟩
theorem remL_insL {α : Type} {l : List α} {i : Nat} (h : i ≤ l.length) (x : α) : remL (insL l i x) i = l := by
 obtain ⟨A, B, rfl, rfl⟩ := split_at h
 rw [insL_at, remL_at]
theorem insL_get {α : Type} {l : List α} {i : Nat} (h : i ≤ l.length) (x : α) : (insL l i x)[i]? = some x := by
 obtain ⟨A, B, rfl, rfl⟩ := split_at h
 rw [insL_at]; simp
theorem remL_len1 {α : Type} {l : List α} {i : Nat} (h : i < l.length) : (remL l i).length + 1 = l.length := by
 obtain ⟨A, x, B, rfl, rfl⟩ := split_at1 h
 rw [remL_at]; simp; omega
structure BackP (p : NP) (key value : List Int) : Prop where
 now : isIn (p.with_ key value).ks key = true
 at' : cntB (p.with_ key value).ks key = cntB p.ks key
 k : (p.with_ key value).ks[cntB p.ks key]? = some key
 v : (p.with_ key value).vs[cntB p.ks key]? = some value
 still : isIn ((p.with_ key value).without key).ks key = false
 back : (p.with_ key value).without key = p.without key
theorem back_ok {p : NP} {key value : List Int} (h : RtP p) (h0 : p.lv = 0) : BackP p key value := by
 obtain ⟨hrs, hor⟩ := h
 have hvl : p.vs.length = p.ks.length := by
  rcases hor with h | h
  ·exact h.2.1
  ·omega
 obtain ⟨A, B, hA, hB, hc, hor2⟩ := parts p.ks key hrs.pair
 have hAn : key ∉ A := fun hm => cmp_ne (hA key hm) rfl
 have hBn : key ∉ B := fun hm => cmp_ne (hB key hm) rfl
 rcases hor2 with ⟨hin, hks⟩ | ⟨hin, hks⟩
 ·have hiv : cntB p.ks key < p.vs.length := by rw [hvl, hc, hks]; simp
  have e1 : p.with_ key value = { p with vs := insL (remL p.vs (cntB p.ks key)) (cntB p.ks key) value } := by unfold NP.with_; rw [hin]; rfl
  have hr1 := remL_len1 hiv
  have e2 : (p.with_ key value).without key = { p with ks := remL p.ks (cntB p.ks key), vs := remL p.vs (cntB p.ks key) } := by
   rw [e1]
   unfold NP.without
   simp only [hin, if_true]
   rw [remL_insL (by omega)]
  have e3 : p.without key = { p with ks := remL p.ks (cntB p.ks key), vs := remL p.vs (cntB p.ks key) } := by unfold NP.without; rw [hin]; rfl
  refine ⟨by rw [e1]; exact hin, by rw [e1], ?_, ?_, ?_, by rw [e2, e3]⟩
  ·rw [e1]
   simp only
   rw [hc, hks]
   simp
  ·rw [e1]
   exact insL_get (by omega) value
  ·rw [e2]
   simp only
   rw [hc, hks, remL_at, isIn_false]
   intro hm
   rcases List.mem_append.1 hm with h | h
   ·exact hAn h
   ·exact hBn h
 ·have hik : cntB p.ks key ≤ p.ks.length := cntB_le _ _
  have e1 : p.with_ key value = { p with ks := insL p.ks (cntB p.ks key) key, vs := insL p.vs (cntB p.ks key) value } := by unfold NP.with_; rw [hin]; rfl
  have hcc : cntB (insL p.ks (cntB p.ks key) key) key = cntB p.ks key := by
   rw [hc, hks, insL_at, cntB_app, cntB_cons, cmpI_refl, cntB_all hA, cntB_zero (fun x hx => cmp_gt (hB x hx))]
   simp
  have hii : isIn (insL p.ks (cntB p.ks key) key) key = true := by
   rw [isIn_iff, hc, hks, insL_at]; simp
  have e2 : (p.with_ key value).without key = p := by
   rw [e1]
   unfold NP.without
   simp only [hii, if_true, hcc]
   rw [remL_insL hik, remL_insL (by omega)]
  have e3 : p.without key = p := by unfold NP.without; rw [hin]; rfl
  refine ⟨by rw [e1]; exact hii, by rw [e1]; exact hcc, ?_, ?_, ?_, by rw [e2, e3]⟩
  ·rw [e1]; exact insL_get hik key
  ·rw [e1]; exact insL_get (by omega) value
  ·rw [e2]; exact hin
end Go.Proofs.YtpljbgcofmlhbaaGreat
namespace Go.Proofs.YtpljbgcofmlhbaaGreat
open Go.RowKit
set_option maxRecDepth 100000
set_option maxHeartbeats 800000 in
theorem rbytes_any (a : Option Addr) (len cap : Nat) (zs : List Int) (w : World) (hl : zs.length = len) (hm : len ≤ 140737488355328) (hn : a = none → len = 0 ∧ cap = 0) (hr : Row w .u8 a zs) :
  Calls Tryz.prog 108 #[.slice a len cap] w fun e w' => ∃ v, e = .returned v ∧ OwnB w' w.heap.size 5 v zs ∧ Below w.heap.size w w' := by
 obtain ⟨i0, hi, hz0, hz1, hz2⟩ := info_parts infoByte'
 have HR := hide hr
 have HN := hide hn
 clear hr hn
 go_enter Tryz.func108, Tryz.ntmps108
 go_wp2_with (first
  | (at_builtin; refine append_b rfl (.tmp 3) (.tmp 4) 28 rfl w.heap.size 5 i0 Tryz.underlying28 hi hz0 hz1 hz2 (.slice (some ⟨w.heap.size, 0, none⟩) 0 0) [] rfl (OwnB.made #[] 0 (Nat.le_refl _) (by unfold maxLen; omega) rfl (by intro u hu; cases hu)) a len cap zs rfl hl HN.out (HR.out.alloc _) (by simp; omega) (by simp) ?_; intro v4 w4 hown4 hg4; simp only [List.nil_append] at hown4)
  | fail)
 go_ret
 exact ⟨v4, rfl, hown4, ((Below.refl _ _).alloc (Nat.le_refl _) _).grown hg4 (by simp) (fun k h => by cases h; exact Nat.le_refl _)⟩
theorem ownB_grown {W W' : World} {N M : Nat} {x : Tx} {v : Value} {n : Nat} {xs : List Value} (h : OwnB W N 5 x.v x.s) (ho : W.ownsRow M 28 1 v n xs) (hg : W.grownBy W' v.ownBlock) : OwnB W' N 5 x.v x.s := by
 refine h.kept hg fun k hk e => ?_
 rcases ho.2 with ⟨hv, _⟩ | ⟨g, c, cur, hv, _, hh, _⟩
 ·rw [hv] at e; cases e
 ·rw [hv] at e
  have : k = g := by simpa [Value.ownBlock] using e
  exact typ_ne h hh k hk this
structure RtI (w W : World) (v : Value) (L C : List Tx) : Prop where
 le : C.length ≤ L.length
 row : W.ownsRow w.heap.size 28 1 v C.length (C.map Tx.v)
 each : ∀ x ∈ C, OwnB W w.heap.size 5 x.v x.s
 s : C.map (·.s) = (L.take C.length).map (·.s)
 b : Below w.heap.size w W
set_option maxRecDepth 100000 in
set_option maxHeartbeats 1600000 in
theorem rtexts_any (a : Option Addr) (l c : Nat) (L : List Tx) (w : World) (ht : (⟨a, c, L⟩ : TL).Ok w) (hl : L.length = l) (hm : l * 24 ≤ 140737488355000) :
  Calls Tryz.prog 111 #[.slice a l c] w (CtP w L l) := by
 obtain ⟨i0, hi, hz0, hz1, hz2⟩ := info_parts infoT
 have HT : Hid (∀ W, Below w.heap.size w W → (⟨a, c, L⟩ : TL).Ok W) := fun W h => ht.below h
 replace hl := hide hl
 clear ht
 go_enter Tryz.func111, Tryz.ntmps111
 go_wp2_with fail
 go_loopw [3, 4] (fun q3 q4 wr => ∃ (v : Value) (C : List Tx), q3 = v ∧ q4 = .int .i64 (C.length : Nat) ∧ Hid (RtI w wr v L C)) (fun _ q4 _ => l - (intOf q4).toNat)
 case atStart => exact ⟨_, [], rfl, rfl, ⟨Nat.zero_le _, World.ownsRow_nil _ _ _ _, fun x hx => (by cases hx), rfl, Below.refl _ _⟩⟩
 case round =>
  obtain ⟨v, C, rfl, rfl, HI⟩ := hrel
  rename World => wr
  have hle := HI.out.le
  rw [hl.out] at hle
  obtain ⟨i, hic⟩ : ∃ i, C.length = i := ⟨_, rfl⟩
  rw [hic] at hle ⊢
  replace hic := hide hic
  obtain ⟨va, vc, hve, hvok, hvf⟩ := vok_of_owns HI.out.row
  rw [hic.out] at hve
  subst hve
  by_cases hlt : i < l
  ·have j1 : (i : Int) < (l : Int) := by omega
   have hiL : i < L.length := by rw [hl.out]; exact hlt
   have hT := HT.out wr HI.out.b
   obtain ⟨b, o, ha, s0⟩ := hT.r i hiL
   simp only at ha
   subst ha
   have OK := hide (hT.ok L[i] (List.getElem_mem hiL))
   obtain ⟨x, hx⟩ : ∃ x, x = L[i] := ⟨_, rfl⟩
   simp only [← hx] at s0 OK
   have HX := hide hx
   unfold Tx.v at s0
   obtain ⟨nk, hnk⟩ : ∃ nk, x.s.length = nk := ⟨_, rfl⟩
   rw [hnk] at s0
   have HBY := hide (rbytes_any x.a nk x.c x.s wr hnk (by have := OK.out.z; omega) (by have := OK.out.n; rw [hnk] at this; exact this) OK.out.r)
   replace hnk := hide hnk
   have HRW : Hid (wr.ownsRow w.heap.size 28 1 (.slice va i vc) i (C.map Tx.v)) := by have := HI.out.row; rw [hic.out] at this; exact this
   clear hT hx hvok hvf
   go_wp2_with fail
   refine HBY.out.mono ?_
   rintro e w2 ⟨v2, rfl, hv2, hb2⟩
   obtain ⟨na, nc, hve, _, _, _⟩ := hv2.slice
   rw [hnk.out] at hve
   subst hve
   have V2 := hide hv2
   have B2 := hide hb2
   have R2 := hide (owns_below HRW.out hb2)
   clear hv2 hb2 HBY s0
   have hsz := B2.out.size
   have hsw := HI.out.b.size
   go_wp2_with (first
    | (at_builtin; refine append_own_any rfl (.tmp 11) (.tmp 17) 31 rfl w.heap.size 28 i0 (.slice none 0 0) 1 24 Tryz.underlying31 hi hz0 hz1 hz2 rfl (by decide) (.slice va i vc) i (C.map Tx.v) rfl (owns_below R2.out ((Below.refl _ _).alloc (Nat.le_refl _) _)) (some ⟨w2.heap.size, 0, none⟩) 1 1 [.slice na nk nc] rfl rfl (by intro h; cases h) (by intro ad had; cases had; exact one_new _ _ _) (by intro u hu; simp at hu; subst hu; rfl) (by unfold maxLen; omega) (by omega) (by simp; omega) ?_; intro v5 w5 hown5 hg5; have HO5 := hide hown5; have HG5 := hide hg5; clear hown5 hg5)
    | fail)
   have HNEW : Hid (RtI w w5 v5 L (C ++ [⟨na, nc, x.s⟩])) := by
    have hci := hic.out
    have hnv : (⟨na, nc, x.s⟩ : Tx).v = .slice na nk nc := by simp only [Tx.v, hnk.out]
    have bA : Below w2.heap.size w2 (w2.alloc (.cells #[.slice na nk nc] 28)) := (Below.refl _ _).alloc (Nat.le_refl _) _
    have RA := owns_below R2.out bA
    refine ⟨by rw [List.length_append, List.length_singleton, hci, hl.out]; omega, ?_, ?_, ?_, ?_⟩
    ·rw [List.length_append, List.length_singleton, hci, List.map_append, List.map_singleton, hnv]
     exact HO5.out
    ·intro y hy
     rcases List.mem_append.1 hy with hy | hy
     ·exact ownB_grown (((HI.out.each y hy).below B2.out).below bA) RA HG5.out
     ·obtain rfl : y = ⟨na, nc, x.s⟩ := by simpa using hy
      have h1 : OwnB w2 w.heap.size 5 (⟨na, nc, x.s⟩ : Tx).v x.s := by rw [hnv]; exact V2.out.mono HI.out.b.size
      exact ownB_grown (h1.below bA) RA HG5.out
    ·rw [List.map_append, HI.out.s, List.length_append, List.length_singleton, hci, take_next hiL, List.map_append, HX.out]
     rfl
    ·exact ((HI.out.b.trans (B2.out.mono HI.out.b.size)).trans (bA.mono (by omega))).grown HG5.out (by simp; omega) (fun k h => (RA.lt k h).1)
   clear V2 B2 R2 HO5 HG5
   go_wp2_with fail
   go_roundw
   case rel => exact ⟨_, _, rfl, by rw [List.length_append, List.length_singleton, hic.out]; go_num, HNEW⟩
   case measure => simp [intOf]; omega
  ·have j1 : ¬ (i : Int) < (l : Int) := by omega
   obtain rfl : i = l := by omega
   have HF : Hid (CtP w L i (.returned (.slice va i vc)) wr) := by
    have hs := HI.out.s
    rw [List.take_of_length_le (by rw [hl.out, hic.out]; exact Nat.le_refl _)] at hs
    have hr := HI.out.row
    rw [hic.out] at hr
    refine ⟨va, vc, C, rfl, hs, hic.out, ⟨by simp only [TL.v, hic.out]; exact hr, HI.out.each, fun x hx => ?_⟩, HI.out.b⟩
    have : x.s ∈ L.map (·.s) := by rw [← hs]; exact List.mem_map.2 ⟨x, hx, rfl⟩
    obtain ⟨y, hy, hys⟩ := List.mem_map.1 this
    have := (HT.out w (Below.refl _ _)).ok y hy
    rw [← hys]
    exact ⟨this.b8, this.z⟩
   go_wp2_with fail
   go_ret
   exact HF.out
end Go.Proofs.YtpljbgcofmlhbaaGreat
