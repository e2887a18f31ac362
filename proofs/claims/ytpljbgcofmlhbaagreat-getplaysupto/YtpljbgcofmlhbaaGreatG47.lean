/- A descent: the statements' pick and head. -/
import Derived.Test.YtpljbgcofmlhbaaGreatG35
import Derived.Test.YtpljbgcofmlhbaaGreatG24
import Derived.Lib.SlBytesConst
import Derived.Test.YtpljbgcofmlhbaaGreatG15
import Derived.Test.YtpljbgcofmlhbaaGreatG20
import Derived.Test.YtpljbgcofmlhbaaGreatG26
import Derived.Test.YtpljbgcofmlhbaaGreatG39
import Derived.Test.YtpljbgcofmlhbaaGreatG11
import Derived.Deep.CutBlock
import Derived.Test.YtpljbgcofmlhbaaGreatG12
import Derived.Test.YtpljbgcofmlhbaaGreatG18
import Derived.Test.YtpljbgcofmlhbaaGreatG28
namespace Go.Proofs.YtpljbgcofmlhbaaGreat
open Go.RowKit
set_option maxRecDepth 100000
def hst : Nat → MS
 | 0 => MS.new [107] 0
 | i + 1 => (hst i).step (AS.new 3)
theorem hst_facts : (hst 1).nx = 1 ∧ (hst 2).nx = 2 ∧ (hst 3).nx = 3 ∧ (hst 4).nx = 4 ∧ (hst 5).nx = 5 ∧ (hst 5).id = 1 ∧ (hst 5).wd = 0 ∧ (hst 5).nd = NP.zero := ⟨by decide +kernel, by decide +kernel, by decide +kernel, by decide +kernel, by decide +kernel, by decide +kernel, by decide +kernel, by kernel_rfl⟩
theorem hst_cnt : ∀ i, i ≤ 5 → (hst i).an = 0 ∧ (hst i).mo = 0 := by decide +kernel
theorem hst_lt : ∀ i, i < 4 → (hst (i + 1)).nx < 5 := by decide +kernel
def HdS (W : World) (P A : Nat) (i : Nat) (F : Nat → Prop) : Prop := (∃ k n D, PM W P A k n D (hst i)) ∧ PX W A F (AS.new 3)
theorem hd_step {W : World} {P A : Nat} {i : Nat} {F : Nat → Prop} (h : HdS W P A i F) (hi : i < 5) (hP : ¬ F P) : Calls Tryz.prog 64 #[.pointer (some ⟨P, 0, none⟩)] W fun e w' => e = .returned (.bool (decide (5 ≤ (hst (i + 1)).nx))) ∧ HdS w' P A (i + 1) F ∧ Upd (fun k => k = P) W w' := by
 obtain ⟨⟨k, n, D, hm⟩, hp⟩ := h
 have hc := hst_cnt i (by omega)
 refine (step_any hm hp (by rw [hc.1]; decide) (by rw [hc.2]; decide)).mono ?_
 rintro e w' ⟨rfl, n', D', h1, h2, h3⟩
 exact ⟨rfl, ⟨⟨k, n', D', h1⟩, hp.upd h3 (fun x hx e => hP (e ▸ hx))⟩, h3⟩
theorem tx_k {w : World} : (⟨some ⟨w.heap.size, 0, none⟩, 1, [107]⟩ : Tx).Ok (w.alloc (.cells #[.int .u8 107] 5 (1, 2))) := by
 refine ⟨fun i hi => ?_, (fun e => by cases e), (by simp), fun c hc => ?_, (by simp)⟩
 ·obtain rfl : i = 0 := by simp at hi; omega
  exact ⟨w.heap.size, 0, rfl, by rw [cell_of_row _ _ _ _ _ _ (heap_alloc_new w _)]; rfl⟩
 ·simp only [List.mem_singleton] at hc; omega
end Go.Proofs.YtpljbgcofmlhbaaGreat
namespace Go.Proofs.YtpljbgcofmlhbaaGreat
open Go.RowKit
set_option maxRecDepth 100000
def gIdx (ks : List (List Int)) (key : List Int) : Int := if isIn ks key = true then ((ks.idxOf key : Nat) : Int) else -1
theorem idx_app {A B : List (List Int)} {key : List Int} (h : key ∉ A) : (A ++ key :: B).idxOf key = A.length := by
 rw [List.idxOf_append, if_neg h, List.idxOf_cons_self]; omega
theorem gIdx_at {K : List Tx} {xs : List Int} {i : Nat} (hi : i < K.length) (he : K[i].s = xs) (hn : ∀ x ∈ K.take i, ¬ x.s = xs) : gIdx (K.map (·.s)) xs = (i : Int) := by
 have e : K.map (·.s) = (K.take i).map (·.s) ++ xs :: (K.drop (i + 1)).map (·.s) := by
  rw [← he, ← List.map_cons (f := fun x : Tx => x.s), ← List.drop_eq_getElem_cons hi, ← List.map_append, List.take_append_drop]
 have hA : xs ∉ (K.take i).map (·.s) := fun hm => by
  obtain ⟨x, hx, hs⟩ := List.mem_map.1 hm
  exact hn x hx hs
 unfold gIdx
 rw [e, if_pos (by rw [isIn_iff]; exact List.mem_append.2 (.inr List.mem_cons_self)), idx_app hA, List.length_map, List.length_take, Nat.min_eq_left (Nat.le_of_lt hi)]
theorem gIdx_no {K : List Tx} {xs : List Int} (hn : ∀ x ∈ K, ¬ x.s = xs) : gIdx (K.map (·.s)) xs = -1 := by
 unfold gIdx
 rw [if_neg]
 rw [isIn_iff]
 intro hm
 obtain ⟨x, hx, hs⟩ := List.mem_map.1 hm
 exact hn x hx hs
set_option maxHeartbeats 1600000 in
theorem gsame_any (ea xa : Option Addr) (el ec lx xc b : Nat) (es xs : List Int) (w : World) (h1 : es.length = el) (h2 : xs.length = lx) (r1 : Row w .u8 ea es) (r2 : Row w .u8 xa xs) (b1 : B8 es) (b2 : B8 xs) (hb : w.cell? ⟨b, 0, none⟩ = some (.slice xa lx xc)) :
  Calls Tryz.prog 145 #[.slice ea el ec, .pointer (some ⟨b, 0, none⟩)] w fun e w' => e = .returned (.bool (decide (es = xs))) ∧ w' = w := by
 have HE := hide (nequal_any ea xa el ec lx xc es xs w h1 h2 r1 r2 b1 b2)
 generalize decide (es = xs) = R at *
 clear r1 r2 b1 b2 h1 h2
 go_enter Tryz.func145, Tryz.ntmps145
 go_wp2_with fail
 refine keep HE.out ?_
 go_wp2_with fail
 go_ret
 exact ⟨rfl, rfl⟩
set_option maxRecDepth 100000 in
set_option maxHeartbeats 1600000 in
theorem gindex_any (ka xa : Option Addr) (lk kc lx xc b : Nat) (K : List Tx) (xs : List Int) (w : World) (hK : (⟨ka, kc, K⟩ : TL).Ok w) (hl : K.length = lk) (hz : lk ≤ 140737488355328) (hx : (⟨xa, xc, xs⟩ : Tx).Ok w) (h2 : xs.length = lx) (hb : w.cell? ⟨b, 0, none⟩ = some (.slice xa lx xc)) :
  Calls Tryz.prog 144 #[.slice ka lk kc, .func (.func 145) #[] #[.pointer (some ⟨b, 0, none⟩)]] w fun e w' => e = .returned (.int .i64 (gIdx (K.map (·.s)) xs)) ∧ w' = w := by
 obtain ⟨R, hR⟩ : ∃ R : Int, R = gIdx (K.map (·.s)) xs := ⟨_, rfl⟩
 rw [← hR]
 have HR := hide hR
 have HK := hide hK
 have HL := hide hl
 have HX := hide hx
 have H2 := hide h2
 have HB := hide hb
 clear hR hK hl hx h2 hb
 go_enter Tryz.func144, Tryz.ntmps144
 go_wp2_with fail
 go_loopw [8] (fun q wr => ∃ i : Nat, i ≤ lk ∧ q = .int .i64 (i : Int) ∧ wr = w ∧ Hid (∀ x ∈ K.take i, ¬ x.s = xs)) (fun q _ => lk - (intOf q).toNat)
 case atStart => exact ⟨0, Nat.zero_le _, rfl, rfl, fun x hx => by simp at hx⟩
 case round =>
  obtain ⟨i, hi, rfl, rfl, HI⟩ := hrel
  rename World => wr
  by_cases hlt : i < lk
  ·have j1 : (i : Int) < (lk : Int) := by omega
   have j0 : (0 : Int) ≤ (i : Int) := by omega
   have hiK : i < K.length := by rw [HL.out]; exact hlt
   obtain ⟨kb, ko, hka, hkc⟩ := HK.out.r i hiK
   simp only at hka
   have hko := HK.out.ok _ (List.getElem_mem hiK)
   have HAT : Hid (K[i].s = xs → R = (i : Int)) := fun he => by rw [HR.out]; exact gIdx_at hiK he HI.out
   have HNX : Hid (¬ K[i].s = xs → ∀ x ∈ K.take (i + 1), ¬ x.s = xs) := fun hne x hx => by
    rw [List.take_succ_eq_append_getElem hiK] at hx
    rcases List.mem_append.1 hx with h | h
    ·exact HI.out x h
    ·rw [List.mem_singleton] at h; rw [h]; exact hne
   generalize K[i] = xi at *
   obtain ⟨ea, ec, es⟩ := xi
   obtain ⟨el, hel⟩ : ∃ el, es.length = el := ⟨_, rfl⟩
   have HS := hide (gsame_any ea xa el ec lx xc b es xs wr hel H2.out hko.r HX.out.r hko.b8 HX.out.b8 HB.out)
   simp only [Tx.v, hel] at hkc
   simp only at HAT HNX
   subst hka
   clear hko hel
   by_cases he : es = xs
   ·rw [decide_eq_true he] at HS
    have HF : Hid (R = (i : Int)) := HAT.out he
    clear HAT HNX he
    go_wp2_with fail
    refine keep HS.out ?_
    go_wp2_with fail
    go_ret
    exact ⟨ret_int HF.out.symm, rfl⟩
   ·rw [decide_eq_false he] at HS
    have HF : Hid (∀ x ∈ K.take (i + 1), ¬ x.s = xs) := HNX.out he
    clear HAT HNX he
    go_wp2_with fail
    refine keep HS.out ?_
    go_wp2_with fail
    go_roundw
    case rel => exact ⟨i + 1, by omega, by go_num, trivial, HF⟩
    case measure => simp [intOf]; omega
  ·have j1 : ¬ (i : Int) < (lk : Int) := by omega
   have HF : Hid (R = -1) := by show _ = _; rw [HR.out]; exact gIdx_no (fun x hx => HI.out x (by rw [List.take_of_length_le (by rw [HL.out]; omega)]; exact hx))
   go_wp2_with fail
   go_ret
   exact ⟨ret_int HF.out.symm, rfl⟩
def gVal (p : NP) (key : List Int) : List Int := if isIn p.ks key = true then p.vs.getD (p.ks.idxOf key) [] else []
def GvP (w : World) (n : Nd) (key : List Int) (e : Ending) (w' : World) : Prop :=
 ∃ v : Tx, e = .returned (.tuple #[v.v, .bool (isIn n.p.ks key)]) ∧ v.s = gVal n.p key ∧ v.Ok w' ∧ (∀ x, v.a = some x → 0 < v.s.length → ∃ t ∈ n.vs.L, t.a = some x) ∧ Below w.heap.size w w'
set_option maxRecDepth 100000 in
set_option maxHeartbeats 1600000 in
theorem gvalue_any (n : Nd) (k : Tx) (w : World) (hn : n.Ok w) (hk : k.Ok w) : Calls Tryz.prog 114 #[n.v, k.v] w (GvP w n k.s) := by
 have hkz := hn.kz
 have hvz := hn.vz
 have HN : Hid (∀ W, Below w.heap.size w W → n.Ok W) := fun W hb => hn.below hb
 have HK : Hid (∀ W, Below w.heap.size w W → k.Ok W) := fun W hb => hk.below hb
 clear hn hk
 obtain ⟨P, hP⟩ : ∃ P, P = GvP w n k.s := ⟨_, rfl⟩
 have HP : Hid (∀ e w', GvP w n k.s e w' → P e w') := fun e w' h => by rw [hP]; exact h
 rw [← hP]
 clear hP
 obtain ⟨G, hG⟩ : ∃ G, G = gIdx n.ks.p k.s := ⟨_, rfl⟩
 have HG := hide hG
 clear hG
 obtain ⟨an, han⟩ : ∃ an, an = n := ⟨_, rfl⟩
 obtain ⟨ak, hak⟩ : ∃ ak, ak = k := ⟨_, rfl⟩
 rw [← han] at HN HP HG
 rw [← hak] at HK HP HG
 have HAN := hide han
 have HAK := hide hak
 clear han hak
 obtain ⟨lv, ⟨ha, hc, hs⟩, ri, ⟨ka, kc, K⟩, ⟨va, vc, V⟩, ⟨ca, cc, C⟩⟩ := n
 obtain ⟨xa, xc, xs⟩ := k
 simp only [Nd.v, Tx.v, TL.v, IL.v] at hkz hvz ⊢
 generalize hs.length = lh at *
 obtain ⟨lk, hlk⟩ : ∃ x, K.length = x := ⟨_, rfl⟩
 obtain ⟨lw, hlw⟩ : ∃ x, V.length = x := ⟨_, rfl⟩
 obtain ⟨lx, hlx⟩ : ∃ x, xs.length = x := ⟨_, rfl⟩
 generalize C.length = lc at *
 rw [hlk] at hkz ⊢
 rw [hlw] at hvz ⊢
 rw [hlx]
 obtain ⟨w0, hw0⟩ : ∃ w0, w0 = (w.alloc (.cells #[.int .i64 lv, .slice ha lh hc, .int .i64 ri, .slice ka lk kc, .slice va lw vc, .slice ca lc cc] 36)).alloc (.cells #[.slice xa lx xc] 28) := ⟨_, rfl⟩
 have b0 : Below w.heap.size w w0 := by rw [hw0]; exact ((Below.refl _ _).alloc (Nat.le_refl _) _).alloc (by simp) _
 have g0 : w0.heap[w.heap.size]? = some (.cells #[.int .i64 lv, .slice ha lh hc, .int .i64 ri, .slice ka lk kc, .slice va lw vc, .slice ca lc cc] 36 (0, 0)) := by rw [hw0]; exact old_at (new_at rfl)
 have g1 : w0.heap[w.heap.size + 1]? = some (.cells #[.slice xa lx xc] 28 (0, 0)) := by rw [hw0]; exact new_at (by simp)
 have c1 : w0.cell? ⟨w.heap.size + 1, 0, none⟩ = some (.slice xa lx xc) := by rw [cell_of_row _ _ _ _ _ _ g1]; rfl
 have hN0 := HN.out w0 b0
 have hK0 := HK.out w0 b0
 rw [HAN.out] at hN0
 rw [HAK.out] at hK0
 have HIX : Hid (Calls Tryz.prog 144 #[.slice ka lk kc, .func (.func 145) #[] #[.pointer (some ⟨w.heap.size + 1, 0, none⟩)]] w0 fun e w' => e = .returned (.int .i64 G) ∧ w' = w0) := by
  have := gindex_any ka xa lk kc lx xc (w.heap.size + 1) K xs w0 hN0.k hlk (by omega) hK0 hlx c1
  rw [HG.out, HAN.out, HAK.out]
  exact this
 have HVO := hide hN0.v
 have HLW := hide hlw
 have HLK := hide hlk
 have B0 := hide b0
 have HW0 := hide hw0
 have hGk : isIn an.p.ks ak.s = true → G = ((an.p.ks.idxOf ak.s : Nat) : Int) := fun h => by rw [HG.out]; exact if_pos h
 have hGn : isIn an.p.ks ak.s = false → G = -1 := fun h => by rw [HG.out]; exact if_neg (by rw [show an.ks.p = an.p.ks from rfl, h]; decide)
 have HGK := hide (And.intro hGk hGn)
 obtain ⟨c3, c4⟩ := And.intro (Six.of g0).2.2.2.1 (Six.of g0).2.2.2.2.1
 clear hw0 b0 g0 g1 hN0 hK0 hGk hGn hlw hlk hlx c1
 go_enter Tryz.func114, Tryz.ntmps114
 go_upto_region 1 with fail
 rw [← HW0.out]
 clear HW0
 go_wp2_with fail
 refine keep HIX.out ?_
 clear HIX
 cases hin : isIn an.p.ks ak.s
 ·obtain rfl : G = -1 := HGK.out.2 hin
  have HIN := hide hin
  clear hin
  go_wp2_with fail
  refine HP.out _ _ ⟨⟨none, 0, []⟩, by rw [HIN.out]; rfl, by unfold gVal; rw [HIN.out]; rfl, Tx.nil_ok _, (fun x e => by cases e), B0.out⟩
 ·obtain ⟨i, hi⟩ : ∃ i, i = an.p.ks.idxOf ak.s := ⟨_, rfl⟩
  obtain rfl : G = (i : Int) := by rw [HGK.out.1 hin, hi]
  have HIN := hide hin
  have HI := hide hi
  have jn : ¬ (i : Int) < 0 := by omega
  have hil : i ≤ lk := by
   rw [hi]
   have h1 := List.idxOf_le_length (a := ak.s) (l := an.p.ks)
   have h2 : an.p.ks.length = K.length := by rw [HAN.out]; exact TL.p_len _
   rw [h2, HLK.out] at h1
   exact h1
  clear hin hi
  by_cases hlt : i < lw
  ·have j1 : ¬ (lw : Int) ≤ (i : Int) := by omega
   have j2 : (i : Int) < (lw : Int) := by omega
   have j0 : (0 : Int) ≤ (i : Int) := by omega
   have hiV : i < V.length := by rw [HLW.out]; exact hlt
   obtain ⟨vb, vo, hva, hvc⟩ := HVO.out.r i hiV
   simp only at hva
   have HOK := hide (HVO.out.ok _ (List.getElem_mem hiV))
   have hmem := List.getElem_mem hiV
   have hgd : an.p.vs.getD i [] = V[i].s := by
    rw [HAN.out]
    show (V.map (·.s)).getD i [] = _
    rw [List.getD_eq_getElem?_getD, List.getElem?_map, List.getElem?_eq_getElem hiV]; rfl
   have HGD := hide hgd
   have HMM : Hid (V[i] ∈ an.vs.L) := by show _ ∈ _; rw [HAN.out]; exact hmem
   generalize V[i] = vi at *
   obtain ⟨ea, ec, es⟩ := vi
   obtain ⟨el, hel⟩ : ∃ el, es.length = el := ⟨_, rfl⟩
   simp only [Tx.v, hel] at hvc
   have HEL := hide hel
   subst hva
   clear hmem hgd hel
   go_wp2_with fail
   refine HP.out _ _ ⟨⟨ea, ec, es⟩, by rw [HIN.out]; simp only [Tx.v, HEL.out]; rfl, ?_, HOK.out, (fun x e l => ⟨_, HMM.out, e⟩), B0.out⟩
   unfold gVal
   rw [HIN.out, if_pos rfl, ← HI.out, HGD.out]
  ·have j1 : (lw : Int) ≤ (i : Int) := by omega
   have HNO : Hid (an.p.vs.length ≤ i) := by show _ ≤ _; rw [HAN.out]; show (V.map (·.s)).length ≤ i; rw [List.length_map, HLW.out]; omega
   go_wp2_with fail
   refine HP.out _ _ ⟨⟨none, 0, []⟩, by rw [HIN.out]; rfl, ?_, Tx.nil_ok _, (fun x e => by cases e), B0.out⟩
   unfold gVal
   rw [HIN.out, if_pos rfl, ← HI.out, List.getD_eq_getElem?_getD, List.getElem?_eq_none HNO.out]; rfl
end Go.Proofs.YtpljbgcofmlhbaaGreat
namespace Go.Proofs.YtpljbgcofmlhbaaGreat
open Go.RowKit
set_option maxRecDepth 100000
theorem MS.step_key (m : MS) (s : AS) : (m.step s).key = m.key := by
 unfold MS.step MS.goTo MS.fail MS.valid MS.choose MS.fail MS.goTo
 repeat' split
 all_goals rfl
structure GS where
 m : MS
 thr : Bool
 val : List Int
 the : Bool
 err : Int
def GS.new (key : List Int) : GS := ⟨MS.new key 0, false, [], false, 0⟩
def kOk (key : List Int) : Prop := 1 ≤ key.length ∧ key.length ≤ 64
instance (key : List Int) : Decidable (kOk key) := by unfold kOk; exact inferInstance
def GS.step (g : GS) (s : AS) : GS :=
 if g.thr = true then g
 else if ¬ kOk g.m.key then ⟨g.m, true, g.val, g.the, 3⟩
 else if ¬ 5 ≤ (g.m.step s).nx then ⟨g.m.step s, false, g.val, g.the, g.err⟩
 else if (g.m.step s).id = 0 then ⟨g.m.step s, true, g.val, g.the, 101⟩
 else ⟨g.m.step s, true, gVal (g.m.step s).nd g.m.key, isIn (g.m.step s).nd.ks g.m.key, g.err⟩
def GS.took (g : GS) (s : AS) : Bool :=
 if g.thr = true then false
 else if ¬ kOk g.m.key then true
 else if ¬ 5 ≤ (g.m.step s).nx then false
 else decide (¬ (g.m.step s).id = 0)
def gcel (p : Nat) (k v : Tx) (g : GS) : Array Value := #[.pointer (some ⟨p, 0, none⟩), k.v, .bool g.thr, v.v, .bool g.the, .int .i64 g.err]
structure GP (W : World) (P A p : Nat) (kt vt : Tx) (D : Nat → Prop) (g : GS) : Prop where
 c : W.heap[P]? = some (.cells (gcel p kt vt g) 135 (0, 0))
 pm : ∃ k n Dm, PM W p A k n Dm g.m ∧ ∀ x, Dm x → D x
 dp : D p
 ko : kt.Ok W
 ks : kt.s = g.m.key
 ki : ∀ x, kt.a = some x → 0 < kt.s.length → D x.block ∧ x.block ≠ p
 vo : vt.Ok W
 vs : vt.s = g.val
 vi : ∀ x, vt.a = some x → 0 < vt.s.length → D x.block ∧ x.block ≠ p
 pd : ¬ D P
 lt : ∀ x, D x → x < W.heap.size
def GNx (W : World) (P A p : Nat) (kt : Tx) (D : Nat → Prop) (g : GS) (w' : World) : Prop := ∃ vt D', GP w' P A p kt vt D' g ∧ (∀ x, D' x → D x ∨ W.heap.size ≤ x) ∧ Upd (fun k => k = P ∨ k = p) W w'
section
variable {W w' : World} {P A p : Nat} {kt vt : Tx} {D F : Nat → Prop} {g : GS} {s : AS}
theorem GP.ne (h : GP W P A p kt vt D g) : p ≠ P := fun e => h.pd (e ▸ h.dp)
theorem GP.upd {S : Nat → Prop} (h : GP W P A p kt vt D g) (hu : Upd S W w') (hs : ∀ x, x = P ∨ D x → ¬ S x) : GP w' P A p kt vt D g := by
 obtain ⟨k, n, Dm, h1, h2⟩ := h.pm
 refine ⟨hu.heap h.c (hs P (.inl rfl)), ⟨k, n, Dm, h1.upd hu (fun x hx => ?_), h2⟩, h.dp, h.ko.updL hu (fun x e l => hs _ (.inr (h.ki x e l).1)), h.ks, h.ki, h.vo.updL hu (fun x e l => hs _ (.inr (h.vi x e l).1)), h.vs, h.vi, h.pd, fun x hx => Nat.lt_of_lt_of_le (h.lt x hx) hu.size⟩
 rcases hx with rfl | hx
 ·exact hs _ (.inr h.dp)
 ·exact hs x (.inr (h2 x hx))
theorem g6_2 {W : World} {P : Nat} {T : TypeId} {a0 a1 a2 a3 a4 a5 : Value} (h : W.heap[P]? = some (.cells #[a0, a1, a2, a3, a4, a5] T (0, 0))) (x : Value) : (W.setCell ⟨P, 2, none⟩ x).heap[P]? = some (.cells #[a0, a1, x, a3, a4, a5] T (0, 0)) := block_setCell h 2 x
theorem g6_3 {W : World} {P : Nat} {T : TypeId} {a0 a1 a2 a3 a4 a5 : Value} (h : W.heap[P]? = some (.cells #[a0, a1, a2, a3, a4, a5] T (0, 0))) (x : Value) : (W.setCell ⟨P, 3, none⟩ x).heap[P]? = some (.cells #[a0, a1, a2, x, a4, a5] T (0, 0)) := block_setCell h 3 x
theorem g6_4 {W : World} {P : Nat} {T : TypeId} {a0 a1 a2 a3 a4 a5 : Value} (h : W.heap[P]? = some (.cells #[a0, a1, a2, a3, a4, a5] T (0, 0))) (x : Value) : (W.setCell ⟨P, 4, none⟩ x).heap[P]? = some (.cells #[a0, a1, a2, a3, x, a5] T (0, 0)) := block_setCell h 4 x
theorem g6_5 {W : World} {P : Nat} {T : TypeId} {a0 a1 a2 a3 a4 a5 : Value} (h : W.heap[P]? = some (.cells #[a0, a1, a2, a3, a4, a5] T (0, 0))) (x : Value) : (W.setCell ⟨P, 5, none⟩ x).heap[P]? = some (.cells #[a0, a1, a2, a3, a4, x] T (0, 0)) := block_setCell h 5 x
theorem GP.turn {g' : GS} {vt' : Tx} (h : GP W P A p kt vt D g) (hc : w'.heap[P]? = some (.cells (gcel p kt vt' g') 135 (0, 0))) (hu : Upd (fun k => k = P) W w') (hm : g'.m = g.m) (hvs : vt'.s = g'.val) (hvo : vt'.Ok w') (hvi : ∀ x, vt'.a = some x → 0 < vt'.s.length → (D x.block ∨ W.heap.size ≤ x.block) ∧ x.block ≠ p) (hlt : ∀ x, vt'.a = some x → 0 < vt'.s.length → x.block < w'.heap.size) : GNx W P A p kt D g' w' := by
 obtain ⟨k, n, Dm, h1, h2⟩ := h.pm
 have hP := lt_of_block h.c
 have hpl := h.lt p h.dp
 refine ⟨vt', fun x => D x ∨ (W.heap.size ≤ x ∧ x < w'.heap.size), ⟨hc, ⟨k, n, Dm, ?_, fun x hx => .inl (h2 x hx)⟩, .inl h.dp, h.ko.updL hu (fun x e l e' => h.pd (e' ▸ (h.ki x e l).1)), by rw [hm]; exact h.ks, fun x e l => ⟨.inl (h.ki x e l).1, (h.ki x e l).2⟩, hvo, hvs, fun x e l => ⟨?_, (hvi x e l).2⟩, ?_, ?_⟩, ?_, hu.mono (fun k _ e => .inl e)⟩
 ·rw [hm]
  refine h1.upd hu (fun x hx e => ?_)
  rcases hx with rfl | hx
  ·exact h.ne e
  ·exact h.pd (e ▸ h2 x hx)
 ·rcases (hvi x e l).1 with h3 | h3
  ·exact .inl h3
  ·exact .inr ⟨h3, hlt x e l⟩
 ·rintro (h3 | h3)
  ·exact h.pd h3
  ·omega
 ·rintro x (h3 | h3)
  ·exact Nat.lt_of_lt_of_le (h.lt x h3) hu.size
  ·exact h3.2
 ·rintro x (h3 | h3)
  ·exact .inl h3
  ·exact .inr h3.1
theorem GP.desc (h : GP W P A p kt vt D g) {k : Tx} {m : MS} {Dm : Nat → Prop} (hD : ∀ x, Dm x → D x) (hn : MNx W p A k Dm m w') (hk : m.key = g.m.key) : GNx W P A p kt D ⟨m, g.thr, g.val, g.the, g.err⟩ w' := by
 obtain ⟨n', Dm', h1, h2, hu⟩ := hn
 have hP := lt_of_block h.c
 have hpl := h.lt p h.dp
 refine ⟨vt, fun x => D x ∨ (W.heap.size ≤ x ∧ x < w'.heap.size), ⟨hu.heap h.c (fun e => h.ne e.symm), ⟨k, n', Dm', h1, fun x hx => ?_⟩, .inl h.dp, h.ko.updL hu (fun x e l => (h.ki x e l).2), by rw [h.ks]; exact hk.symm, fun x e l => ⟨.inl (h.ki x e l).1, (h.ki x e l).2⟩, h.vo.updL hu (fun x e l => (h.vi x e l).2), h.vs, fun x e l => ⟨.inl (h.vi x e l).1, (h.vi x e l).2⟩, ?_, ?_⟩, ?_, hu.mono (fun k _ e => .inr e)⟩
 ·rcases h2 x hx with h3 | h3
  ·exact .inl (hD x h3)
  ·exact .inr ⟨h3, h1.lt x hx⟩
 ·rintro (h3 | h3)
  ·exact h.pd h3
  ·omega
 ·rintro x (h3 | h3)
  ·exact Nat.lt_of_lt_of_le (h.lt x h3) hu.size
  ·exact h3.2
 ·rintro x (h3 | h3)
  ·exact .inl h3
  ·exact .inr h3.1
theorem GNx.trans {D' : Nat → Prop} {g'' : GS} {w'' : World} (h2 : ∀ x, D' x → D x ∨ W.heap.size ≤ x) (hu : Upd (fun k => k = P ∨ k = p) W w') (h3 : GNx w' P A p kt D' g'' w'') : GNx W P A p kt D g'' w'' := by
 obtain ⟨vt'', D'', h4, h5, h6⟩ := h3
 refine ⟨vt'', D'', h4, fun x hx => ?_, hu.trans h6⟩
 rcases h5 x hx with h7 | h7
 ·exact h2 x h7
 ·exact .inr (Nat.le_trans hu.size h7)
end
end Go.Proofs.YtpljbgcofmlhbaaGreat
namespace Go.Proofs.YtpljbgcofmlhbaaGreat
open Go.RowKit
set_option maxRecDepth 100000
theorem gmay_any (a : Option Addr) (l c : Nat) (w : World) : Calls Tryz.prog 63 #[.slice a l c] w fun e w' => e = .returned (.bool (decide (1 ≤ l ∧ l ≤ 64))) ∧ w' = w := by
 obtain ⟨R, hR⟩ : ∃ R, R = decide (1 ≤ l ∧ l ≤ 64) := ⟨_, rfl⟩
 rw [← hR]
 have HR := hide hR
 clear hR
 by_cases h1 : 1 ≤ l
 ·have j1 : (1 : Int) ≤ (l : Int) := by omega
  by_cases h2 : l ≤ 64
  ·have j2 : (l : Int) ≤ 64 := by omega
   obtain rfl : R = true := by rw [HR.out]; exact decide_eq_true ⟨h1, h2⟩
   go_enter Tryz.func63, Tryz.ntmps63
   go_wp2_with fail
   go_ret
   exact ⟨rfl, rfl⟩
  ·have j2 : ¬ (l : Int) ≤ 64 := by omega
   obtain rfl : R = false := by rw [HR.out]; exact decide_eq_false (fun h => h2 h.2)
   go_enter Tryz.func63, Tryz.ntmps63
   go_wp2_with fail
   go_ret
   exact ⟨rfl, rfl⟩
 ·have j1 : ¬ (1 : Int) ≤ (l : Int) := by omega
  obtain rfl : R = false := by rw [HR.out]; exact decide_eq_false (fun h => h1 h.1)
  go_enter Tryz.func63, Tryz.ntmps63
  go_wp2_with fail
  go_ret
  exact ⟨rfl, rfl⟩
section
variable {W w' : World} {P A p : Nat} {kt vt : Tx} {D F : Nat → Prop} {g : GS} {s : AS}
def GS.look (g : GS) : GS := if g.m.id = 0 then ⟨g.m, g.thr, g.val, g.the, 101⟩ else ⟨g.m, g.thr, gVal g.m.nd g.m.key, isIn g.m.nd.ks g.m.key, g.err⟩
set_option maxRecDepth 100000 in
set_option maxHeartbeats 3200000 in
theorem glook_any (h : GP W P A p kt vt D g) (hx : 5 ≤ g.m.nx) : Calls Tryz.prog 65 #[.pointer (some ⟨P, 0, none⟩)] W fun e w' => e = .returned (.bool (decide (¬ g.m.id = 0))) ∧ GNx W P A p kt D g.look w' := by
 obtain ⟨k, n0, Dm, hpm, hD⟩ := h.pm
 have HAT := hide (dat_any hpm hx)
 unfold AtP at HAT
 have HT0 : Hid (g.m.id = 0 → ∀ w', w'.heap[P]? = some (.cells (gcel p kt vt ⟨g.m, g.thr, g.val, g.the, 101⟩) 135 (0, 0)) → Upd (fun k => k = P) W w' → GNx W P A p kt D g.look w') := fun he w' hc hu => by
  unfold GS.look
  rw [if_pos he]
  exact h.turn hc hu rfl h.vs (h.vo.updL hu (fun x e l e' => h.pd (e' ▸ (h.vi x e l).1))) (fun x e l => ⟨.inl (h.vi x e l).1, (h.vi x e l).2⟩) (fun x e l => Nat.lt_of_lt_of_le (h.lt _ (h.vi x e l).1) hu.size)
 have HT1 : Hid (¬ g.m.id = 0 → ∀ w' (v : Tx), w'.heap[P]? = some (.cells (gcel p kt v ⟨g.m, g.thr, gVal g.m.nd g.m.key, isIn g.m.nd.ks g.m.key, g.err⟩) 135 (0, 0)) → Upd (fun k => k = P) W w' → v.s = gVal g.m.nd g.m.key → v.Ok w' → (∀ x, v.a = some x → 0 < v.s.length → W.heap.size ≤ x.block ∧ x.block < w'.heap.size) → GNx W P A p kt D g.look w') := fun he w' v hc hu hvs hvo hvi => by
  unfold GS.look
  rw [if_neg he]
  exact h.turn hc hu rfl hvs hvo (fun x e l => ⟨.inr (hvi x e l).1, fun e' => by have := (hvi x e l).1; have := h.lt p h.dp; omega⟩) (fun x e l => (hvi x e l).2)
 have HKO : Hid (∀ W', Below W.heap.size W W' → kt.Ok W') := fun W' hb => h.ko.below hb
 have HC := hide h.c
 have HKS := hide h.ks
 have hP := lt_of_block h.c
 have hpP := h.ne
 clear h hpm hD hx
 obtain ⟨Q, hQ⟩ : ∃ Q : World → Prop, Q = GNx W P A p kt D g.look := ⟨_, rfl⟩
 rw [← hQ] at HT0 HT1 ⊢
 clear hQ
 obtain ⟨⟨key, lev, nx, id, wd, nd, an, mo⟩, thr, val, the, err⟩ := g
 simp only at HAT HT0 HT1 HKS
 unfold gcel at HC HT0 HT1
 simp only at HC HT0 HT1
 obtain ⟨akt, hakt⟩ : ∃ akt, akt = kt := ⟨_, rfl⟩
 rw [← hakt] at HKO HKS
 have HAK := hide hakt
 clear hakt
 obtain ⟨ka, kc, ks⟩ := kt
 obtain ⟨va, vc, vs⟩ := vt
 simp only [Tx.v] at HC HT0 HT1
 obtain ⟨lk, hlk⟩ : ∃ x, ks.length = x := ⟨_, rfl⟩
 rw [hlk] at HC HT0 HT1
 have HLK := hide hlk
 clear hlk
 generalize vs.length = lw at *
 have c0 : W.cell? ⟨P, 0, none⟩ = some (.pointer (some ⟨p, 0, none⟩)) := by rw [cell_of_row _ _ _ _ _ _ HC.out]; rfl
 go_enter Tryz.func65, Tryz.ntmps65
 go_wp2_with fail
 refine HAT.out.mono ?_
 rintro e w1 ⟨⟨nlv, ⟨nha, nhc, nhs⟩, nri, ⟨nka, nkc, nK⟩, ⟨nva, nvc, nV⟩, ⟨nca, ncc, nC⟩⟩, rfl, hnp, hno, hb1⟩
 have g1 := (hb1.block P hP).trans HC.out
 obtain ⟨nn, hnn⟩ : ∃ nn : Nd, nn = ⟨nlv, ⟨nha, nhc, nhs⟩, nri, ⟨nka, nkc, nK⟩, ⟨nva, nvc, nV⟩, ⟨nca, ncc, nC⟩⟩ := ⟨_, rfl⟩
 rw [← hnn] at hnp hno
 have HNV : Hid (nn.v = .agg #[.int .i64 nlv, .slice nha nhs.length nhc, .int .i64 nri, .slice nka nK.length nkc, .slice nva nV.length nvc, .slice nca nC.length ncc]) := by show _ = _; rw [hnn]; rfl
 simp only [Nd.v, Tx.v, TL.v, IL.v]
 generalize nhs.length = nlh at *
 generalize nK.length = nlk at *
 generalize nV.length = nlw at *
 generalize nC.length = nlc at *
 obtain ⟨w2, hw2⟩ : ∃ w2, w2 = w1.alloc (.cells #[.int .i64 nlv, .slice nha nlh nhc, .int .i64 nri, .slice nka nlk nkc, .slice nva nlw nvc, .slice nca nlc ncc] 36) := ⟨_, rfl⟩
 have b2 : Below w1.heap.size w1 w2 := by rw [hw2]; exact (Below.refl _ _).alloc (Nat.le_refl _) _
 have g2 : w2.heap[w1.heap.size]? = some (.cells #[.int .i64 nlv, .slice nha nlh nhc, .int .i64 nri, .slice nka nlk nkc, .slice nva nlw nvc, .slice nca nlc ncc] 36 (0, 0)) := by rw [hw2]; exact heap_alloc_new w1 _
 have g3 := (b2.block P (lt_of_block g1)).trans g1
 have HB2 : Hid (Below W.heap.size W w2) := hb1.trans (b2.mono hb1.size)
 have G3 := hide g3
 have G2 := hide g2
 have HW2 := hide hw2
 have HNP := hide hnp
 have HNO : Hid (nn.Own w2 W.heap.size) := hno.below b2
 have hl1 : ¬ P = w1.heap.size := by have := hb1.size; omega
 clear hnn hnp hno b2 g2 hw2 HAT c0
 obtain ⟨p0, p1, p2, p3, p4, p5⟩ := Six.of g3
 have fz := fun j => frozen_of g3 j
 have hl2 := lt_of_block g3
 clear g1 g3
 go_upto_region 2 with fail
 rw [← HW2.out]
 clear HW2
 by_cases hid : id = 0
 ·subst hid
  have HR : Hid (Q (w2.setCell ⟨P, 5, none⟩ (.int .i64 101))) := HT0.out rfl _ (g6_5 G3.out _) ((Upd.of_below HB2.out _).setCell _ _ (fun _ => rfl))
  go_wp2_with fail
  go_ret
  exact ⟨by simp, HR.out⟩
 ·have HVA : Hid (∀ W', Below w2.heap.size w2 W' → Calls Tryz.prog 114 #[.agg #[.int .i64 nlv, .slice nha nlh nhc, .int .i64 nri, .slice nka nlk nkc, .slice nva nlw nvc, .slice nca nlc ncc], .slice ka lk kc] W' (GvP W' nn ks)) := fun W' hb => by
   have hk := HKO.out W' (HB2.out.trans (hb.mono HB2.out.size))
   rw [HAK.out] at hk
   have := gvalue_any nn ⟨ka, kc, ks⟩ W' (HNO.out.below hb).ok hk
   rw [HNV.out] at this
   simp only [Tx.v, HLK.out] at this
   exact this
  have HKE : Hid (ks = key) := by have := HKS.out; rw [HAK.out] at this; exact this
  obtain ⟨n0, n1, n2, n3, n4, n5⟩ := Six.of G2.out
  have HID := hide hid
  have HFIN : Hid (∀ w4 (v : Tx), Below w2.heap.size w2 w4 → v.s = gVal nn.p ks → v.Ok w4 → (∀ x, v.a = some x → 0 < v.s.length → ∃ t ∈ nn.vs.L, t.a = some x) → Q ((w4.setCell ⟨P, 3, none⟩ v.v).setCell ⟨P, 4, none⟩ (.bool (isIn nn.p.ks ks)))) := fun w4 v hb hs ho hi => by
   have g4 := (hb.block P hl2).trans G3.out
   have hvi : ∀ x, v.a = some x → 0 < v.s.length → W.heap.size ≤ x.block ∧ x.block < w2.heap.size := fun x e l => by
    obtain ⟨t, ht, he⟩ := hi x e l
    exact ownB_in (HNO.out.v.each t ht) x he
   have hu : Upd (fun k => k = P) w4 ((w4.setCell ⟨P, 3, none⟩ v.v).setCell ⟨P, 4, none⟩ (.bool (isIn nn.p.ks ks))) := updP (updP (Upd.refl _ _) _ _) _ _
   have hbw := HB2.out.trans (hb.mono HB2.out.size)
   have hkk := HKE.out
   have hnp2 := HNP.out
   refine HT1.out HID.out _ v ?_ ((Upd.of_below hbw _).trans hu) (by rw [hs, hkk, hnp2]) (ho.updL hu (fun x e l e' => by have := (hvi x e l).1; omega)) (fun x e l => ⟨(hvi x e l).1, Nat.lt_of_lt_of_le (hvi x e l).2 (Nat.le_trans hb.size hu.size)⟩)
   have := g6_4 (g6_3 g4 v.v) (.bool (isIn nn.p.ks ks))
   rw [hnp2, hkk] at this ⊢
   exact this
  clear HT0 HT1
  go_wp2_with fail
  go_region_held3 (fun W' => W'.cell? ⟨w1.heap.size, 0, none⟩ = some (.int .i64 nlv) ∧ W'.cell? ⟨w1.heap.size, 1, none⟩ = some (.slice nha nlh nhc) ∧ W'.cell? ⟨w1.heap.size, 2, none⟩ = some (.int .i64 nri) ∧ W'.cell? ⟨w1.heap.size, 3, none⟩ = some (.slice nka nlk nkc) ∧ W'.cell? ⟨w1.heap.size, 4, none⟩ = some (.slice nva nlw nvc) ∧ W'.cell? ⟨w1.heap.size, 5, none⟩ = some (.slice nca nlc ncc) ∧ W'.cell? ⟨P, 1, none⟩ = some (.slice ka lk kc)) (go_keep) (first
   | (go_at_call 114; refine (HVA.out _ (below_drew (Below.refl _ _))).mono ?_; rintro e w4 ⟨⟨xa, xc, xs⟩, rfl, hs, ho, hi, hb⟩; have hb4 := (below_drew (Below.refl w2.heap.size w2)).trans hb; have HF := hide (HFIN.out w4 ⟨xa, xc, xs⟩ hb4 hs ho hi); have g4 := (hb4.block P hl2).trans G3.out; obtain ⟨p0, p1, p2, p3, p4, p5⟩ := Six.of g4; have fz := (fun j => frozen_of g4 j); obtain ⟨n0, n1, n2, n3, n4, n5⟩ := Six.of ((hb4.block _ (lt_of_block G2.out)).trans G2.out); simp only [Tx.v] at HF ⊢; have q1 := (Six.of (g6_3 g4 (.slice xa xs.length xc))).2.1; have q2 := (Six.of (g6_4 (g6_3 g4 (.slice xa xs.length xc)) (.bool (isIn nn.p.ks ks)))).2.1; have q3 := (Six.of (g6_4 g4 (.bool (isIn nn.p.ks ks)))).2.1; clear hs ho hi hb hb4 g4; generalize xs.length = xl at *)
   | fail)
  go_wp2_with fail
  go_ret
  exact ⟨by simp [hid], HF.out⟩
theorem GNx.refl (h : GP W P A p kt vt D g) : GNx W P A p kt D g W := ⟨vt, D, h, fun _ hx => .inl hx, Upd.refl _ _⟩
set_option maxRecDepth 100000 in
set_option maxHeartbeats 3200000 in
theorem gstep_any (h : GP W P A p kt vt D g) (hp : PX W A F s) (han : g.m.an < 4611686018427387904) (hmo : g.m.mo < 4611686018427387904) : Calls Tryz.prog 14 #[.pointer (some ⟨P, 0, none⟩)] W fun e w' => e = .returned (.tuple #[.bool (g.step s).thr, .bool (g.took s)]) ∧ GNx W P A p kt D (g.step s) w' := by
 obtain ⟨k, n0, Dm, hpm, hD⟩ := h.pm
 have HST := hide (step_any hpm hp han hmo)
 unfold SpP at HST
 have HDE : Hid (∀ w1, MNx W p A k Dm (g.m.step s) w1 → GNx W P A p kt D ⟨g.m.step s, g.thr, g.val, g.the, g.err⟩ w1) := fun w1 hn => h.desc hD hn (MS.step_key _ _)
 have HT0 : Hid (∀ w', w'.heap[P]? = some (.cells (gcel p kt vt ⟨g.m, true, g.val, g.the, 3⟩) 135 (0, 0)) → Upd (fun k => k = P) W w' → GNx W P A p kt D ⟨g.m, true, g.val, g.the, 3⟩ w') := fun w' hc hu => h.turn hc hu rfl h.vs (h.vo.updL hu (fun x e l e' => h.pd (e' ▸ (h.vi x e l).1))) (fun x e l => ⟨.inl (h.vi x e l).1, (h.vi x e l).2⟩) (fun x e l => Nat.lt_of_lt_of_le (h.lt _ (h.vi x e l).1) hu.size)
 have HRF : Hid (GNx W P A p kt D g W) := GNx.refl h
 have HC := hide h.c
 have hks := h.ks
 clear h hpm hD hp han hmo
 unfold gcel at HC HT0
 obtain ⟨x0, x1, x2, x3, x4, x5⟩ := Six.of HC.out
 have fz := fun j => frozen_of HC.out j
 unfold GS.step GS.took
 by_cases hthr : g.thr = true
 ·rw [if_pos hthr, if_pos hthr, hthr]
  rw [hthr] at x2
  clear fz HST HDE HT0
  go_enter Tryz.func14, Tryz.ntmps14
  go_wp2_with fail
  go_ret2
  exact ⟨rfl, HRF.out⟩
 rw [if_neg hthr, if_neg hthr]
 have hthf : g.thr = false := by simpa using hthr
 rw [hthf] at x2
 obtain ⟨ka, kc, ks⟩ := kt
 simp only [Tx.v] at x1 hks
 obtain ⟨lk, hlk⟩ : ∃ x, ks.length = x := ⟨_, rfl⟩
 rw [hlk] at x1
 have HMB : Hid (∀ W', Calls Tryz.prog 63 #[.slice ka lk kc] W' fun e w' => e = .returned (.bool (decide (kOk g.m.key))) ∧ w' = W') := fun W' => by
  have := gmay_any ka lk kc W'
  rw [← hlk, hks] at this
  rw [← hlk, hks]
  exact this
 clear hks hlk
 by_cases hk : kOk g.m.key
 case neg =>
  rw [if_pos hk, if_pos hk]
  rw [decide_eq_false hk] at HMB
  have HF : Hid (GNx W P A p ⟨ka, kc, ks⟩ D ⟨g.m, true, g.val, g.the, 3⟩ ((W.setCell ⟨P, 2, none⟩ (.bool true)).setCell ⟨P, 5, none⟩ (.int .i64 3))) := HT0.out _ (g6_5 (g6_2 HC.out _) _) (updP (updP (Upd.refl _ _) _ _) _ _)
  have hbl := HMB.out W
  have HBL := hide hbl
  clear HST HDE HT0 HRF hbl HMB hk
  go_enter Tryz.func14, Tryz.ntmps14
  go_wp2_with fail
  refine keep HBL.out ?_
  go_wp2_with fail
  go_ret2
  exact ⟨rfl, HF.out⟩
 rw [if_neg (show ¬ ¬ kOk g.m.key from fun hn => hn hk), if_neg (show ¬ ¬ kOk g.m.key from fun hn => hn hk)]
 rw [decide_eq_true hk] at HMB
 have HBL := hide (HMB.out W)
 clear HMB HT0 HRF hk fz
 rw [hthf] at HDE
 by_cases hnx : 5 ≤ (g.m.step s).nx
 case neg =>
  rw [if_pos hnx, if_pos hnx]
  rw [decide_eq_false hnx] at HST
  clear hnx
  go_enter Tryz.func14, Tryz.ntmps14
  go_wp2_with fail
  refine keep HBL.out ?_
  go_wp2_with fail
  refine HST.out.mono ?_
  rintro e w1 ⟨rfl, hn⟩
  have HF := hide (HDE.out w1 hn)
  clear hn
  go_wp2_with fail
  go_ret2
  exact ⟨rfl, HF.out⟩
 rw [if_neg (show ¬ ¬ 5 ≤ (g.m.step s).nx from fun hn => hn hnx), if_neg (show ¬ ¬ 5 ≤ (g.m.step s).nx from fun hn => hn hnx)]
 rw [decide_eq_true hnx] at HST
 have HNX := hide hnx
 clear hnx
 have HRE : Hid ((if (g.m.step s).id = 0 then (⟨g.m.step s, true, g.val, g.the, 101⟩ : GS) else ⟨g.m.step s, true, gVal (g.m.step s).nd g.m.key, isIn (g.m.step s).nd.ks g.m.key, g.err⟩) = GS.look ⟨g.m.step s, true, g.val, g.the, g.err⟩) := by
  show _ = _
  unfold GS.look
  simp only [MS.step_key]
 rw [HRE.out]
 have HTH : Hid ((GS.look ⟨g.m.step s, true, g.val, g.the, g.err⟩).thr = true) := by
  show _ = _
  unfold GS.look
  split <;> rfl
 rw [HTH.out]
 obtain ⟨gg, hgg⟩ : ∃ gg, gg = GS.look ⟨g.m.step s, true, g.val, g.the, g.err⟩ := ⟨_, rfl⟩
 rw [← hgg]
 have HGG := hide hgg
 clear hgg HRE HTH
 go_enter Tryz.func14, Tryz.ntmps14
 go_wp2_with fail
 refine keep HBL.out ?_
 go_wp2_with fail
 refine HST.out.mono ?_
 rintro e w1 ⟨rfl, hn⟩
 obtain ⟨vt1, D1, hg1, hd1, hu1⟩ := HDE.out w1 hn
 have hc1 := hg1.c
 unfold gcel at hc1
 simp only at hc1
 obtain ⟨y0, y1, y2, y3, y4, y5⟩ := Six.of hc1
 have fz := fun j => frozen_of hc1 j
 obtain ⟨vt2, D2, hg2, hd2, hu2⟩ := hg1.turn (g' := ⟨g.m.step s, true, g.val, g.the, g.err⟩) (g6_2 hc1 (.bool true)) (updP (Upd.refl _ _) _ _) rfl hg1.vs (hg1.vo.updL (updP (Upd.refl _ _) _ _) (fun x e l e' => hg1.pd (e' ▸ (hg1.vi x e l).1))) (fun x e l => ⟨.inl (hg1.vi x e l).1, (hg1.vi x e l).2⟩) (fun x e l => Nat.lt_of_lt_of_le (hg1.lt _ (hg1.vi x e l).1) (updP (Upd.refl (fun k => k = P) w1) 2 (.bool true)).size)
 have HLK := hide (glook_any hg2 HNX.out)
 have HFI : Hid (∀ w', GNx (w1.setCell ⟨P, 2, none⟩ (.bool true)) P A p ⟨ka, kc, ks⟩ D2 (GS.look ⟨g.m.step s, true, g.val, g.the, g.err⟩) w' → GNx W P A p ⟨ka, kc, ks⟩ D (GS.look ⟨g.m.step s, true, g.val, g.the, g.err⟩) w') := fun w' hn => GNx.trans hd1 hu1 (GNx.trans hd2 hu2 hn)
 clear hn hg1 hd1 hu1 hc1 hg2 hd2 hu2 HST HDE HBL x0 x1 x2 x3 x4 x5
 go_wp2_with fail
 refine HLK.out.mono ?_
 rintro e w2 ⟨rfl, hn⟩
 have HF := hide (HFI.out w2 hn)
 rw [← HGG.out] at HF
 clear hn
 go_wp2_with fail
 go_ret2
 exact ⟨by simp, HF.out⟩
end
end Go.Proofs.YtpljbgcofmlhbaaGreat
namespace Go.Proofs.YtpljbgcofmlhbaaGreat
open Go.RowKit
set_option maxRecDepth 100000
def GaP (W : World) (g : GS) (e : Ending) (w' : World) : Prop := ∃ v : Tx, e = .returned (.tuple #[v.v, .bool g.the, .int .i64 g.err]) ∧ v.s = g.val ∧ OwnB w' W.heap.size 5 v.v v.s ∧ v.Ok w' ∧ Below W.heap.size W w'
def GNewP (W : World) (A : Nat) (key : List Int) (e : Ending) (w' : World) : Prop := ∃ P p kt vt D, e = .returned (.pointer (some ⟨P, 0, none⟩)) ∧ GP w' P A p kt vt D (GS.new key) ∧ W.heap.size ≤ P ∧ (∀ x, D x → W.heap.size ≤ x) ∧ Below W.heap.size W w'
section
variable {W w' : World} {P A p : Nat} {kt vt : Tx} {D F : Nat → Prop} {g : GS} {s : AS}
set_option maxRecDepth 100000 in
set_option maxHeartbeats 1600000 in
theorem ganswer_any (h : GP W P A p kt vt D g) : Calls Tryz.prog 50 #[.pointer (some ⟨P, 0, none⟩)] W (GaP W g) := by
 have hc := h.c
 have hvo := h.vo
 have hvs := h.vs
 unfold gcel at hc
 clear h
 obtain ⟨va, vc, vs⟩ := vt
 simp only [Tx.v] at hc hvs
 obtain ⟨lv, hlv⟩ : ∃ x, vs.length = x := ⟨_, rfl⟩
 rw [hlv] at hc
 have HCL : Hid (∀ W', Below W.heap.size W W' → Calls Tryz.prog 61 #[.slice va lv vc] W' fun e w' => ∃ v, e = .returned v ∧ OwnB w' W'.heap.size 5 v vs ∧ Below W'.heap.size W' w') := fun W' hb => bclone_any va lv vc vs W' hlv (by have := hvo.z; simp only [hlv] at this; omega) (fun e => by have := hvo.n e; simp only [hlv] at this; exact this) (hvo.below hb).r
 have H8 : Hid (B8 vs ∧ vs.length ≤ 140737488351232) := ⟨hvo.b8, hvo.z⟩
 have HVS := hide hvs
 have HC := hide hc
 have hP := lt_of_block hc
 obtain ⟨x0, x1, x2, x3, x4, x5⟩ := Six.of hc
 obtain ⟨Q, hQ⟩ : ∃ Q, Q = GaP W g := ⟨_, rfl⟩
 have HQ : Hid (∀ e w', GaP W g e w' → Q e w') := fun e w' h => by rw [hQ]; exact h
 rw [← hQ]
 unfold GaP at HQ
 obtain ⟨m, thr, val, the, err⟩ := g
 simp only at x2 x4 x5 HVS HQ
 clear hvo hvs hc hlv hQ x0 x1 x2 hP
 go_enter Tryz.func50, Tryz.ntmps50
 go_wp2_with fail
 go_region_held3 (fun W' => W'.cell? ⟨P, 3, none⟩ = some (.slice va lv vc) ∧ W'.cell? ⟨P, 4, none⟩ = some (.bool the) ∧ W'.cell? ⟨P, 5, none⟩ = some (.int .i64 err)) (go_keep) (first
  | (go_at_call 61; refine (HCL.out _ (below_drew (Below.refl _ _))).mono ?_; rintro e w2 ⟨kv, rfl, ho, hb⟩; obtain ⟨na, nc, rfl, _, _⟩ := ho.slice; have HO := hide ho; have HB : Hid (Below W.heap.size W w2) := (below_drew (Below.refl _ _)).trans hb; obtain ⟨_, _, _, x3, x4, x5⟩ := Six.of ((HB.out.block _ (lt_of_block HC.out)).trans HC.out); clear ho hb)
  | fail)
 go_wp2_with fail
 have ho : OwnB w2 W.heap.size 5 (⟨na, nc, vs⟩ : Tx).v vs := HO.out
 exact HQ.out _ _ ⟨⟨na, nc, vs⟩, rfl, HVS.out, ho, ownB_ok (x := ⟨na, nc, vs⟩) ho H8.out.1 H8.out.2, HB.out⟩
set_option maxRecDepth 100000 in
set_option maxHeartbeats 1600000 in
theorem gnew_any (k : Tx) (hk : k.Ok W) : Calls Tryz.prog 11 #[.pointer (some ⟨A, 0, none⟩), k.v] W (GNewP W A k.s) := by
 have HD := hide (dnew_any (A := A) k 0 hk)
 unfold DNewP at HD
 have HCL : Hid (∀ W', Below W.heap.size W W' → Calls Tryz.prog 61 #[k.v] W' fun e w' => ∃ v, e = .returned v ∧ OwnB w' W'.heap.size 5 v k.s ∧ Below W'.heap.size W' w') := fun W' hb => bclone_any k.a k.s.length k.c k.s W' rfl (by have := hk.z; omega) hk.n (hk.below hb).r
 have H8 : Hid (B8 k.s ∧ k.s.length ≤ 140737488351232) := ⟨hk.b8, hk.z⟩
 clear hk
 obtain ⟨Q, hQ⟩ : ∃ Q, Q = GNewP W A k.s := ⟨_, rfl⟩
 have HQ : Hid (∀ e w', GNewP W A k.s e w' → Q e w') := fun e w' h => by rw [hQ]; exact h
 rw [← hQ]
 clear hQ
 unfold GNewP at HQ
 obtain ⟨xa, xc, xs⟩ := k
 simp only [Tx.v] at HD HCL H8 HQ ⊢
 obtain ⟨lx, hlx⟩ : ∃ x, xs.length = x := ⟨_, rfl⟩
 rw [hlx] at HD HCL ⊢
 have HLX := hide hlx
 clear hlx
 go_enter Tryz.func11, Tryz.ntmps11
 go_wp2_with fail
 refine HD.out.mono ?_
 rintro e w1 ⟨p, k, n, Dm, rfl, hpm, hp1, hD1, hb1⟩
 have HPM := hide hpm
 have HB1 := hide hb1
 have HP1 := hide (And.intro hp1 hD1)
 clear hpm hb1 hp1 hD1 HD
 go_wp2_with fail
 refine (HCL.out w1 HB1.out).mono ?_
 rintro e w2 ⟨kv, rfl, ho, hb2⟩
 obtain ⟨na, nc, rfl, _, _⟩ := ho.slice
 rw [HLX.out] at ho ⊢
 have HO := hide ho
 have HB2 := hide hb2
 clear ho hb2 HCL
 go_wp2_with fail
 have hb : Below W.heap.size W w2 := HB1.out.trans (HB2.out.mono HB1.out.size)
 have ba : Below w2.heap.size w2 (w2.alloc (.cells #[.pointer (some ⟨p, 0, none⟩), .slice na lx nc, .bool false, .slice none 0 0, .bool false, .int .i64 0] 135)) := (Below.refl _ _).alloc (Nat.le_refl _) _
 have ga := heap_alloc_new w2 (.cells #[.pointer (some ⟨p, 0, none⟩), .slice na lx nc, .bool false, .slice none 0 0, .bool false, .int .i64 0] 135)
 have ho : OwnB w2 w1.heap.size 5 (⟨na, nc, xs⟩ : Tx).v xs := by simp only [Tx.v, HLX.out]; exact HO.out
 have hin := ownB_in (x := ⟨na, nc, xs⟩) ho
 have hpl := lt_of_block HPM.out.c
 have hs1 := HB1.out.size
 have hs2 := HB2.out.size
 have hbb := HB2.out.trans (ba.mono HB2.out.size)
 refine HQ.out _ _ ⟨w2.heap.size, p, ⟨na, nc, xs⟩, ⟨none, 0, []⟩, fun x => W.heap.size ≤ x ∧ x < w2.heap.size, rfl, ⟨?_, ⟨k, n, Dm, HPM.out.upd (S := Noth) (Upd.of_below hbb _) (fun _ _ e => e), fun x hx => ⟨HP1.out.2 x hx, Nat.lt_of_lt_of_le (HPM.out.lt x hx) hs2⟩⟩, ⟨HP1.out.1, by omega⟩, (ownB_ok (x := ⟨na, nc, xs⟩) ho H8.out.1 H8.out.2).below ba, rfl, fun x e _ => ⟨⟨by have := (hin x e).1; omega, (hin x e).2⟩, fun e' => by have := (hin x e).1; omega⟩, Tx.nil_ok _, rfl, (fun x e => by cases e), fun h => Nat.lt_irrefl _ h.2, fun x h => Nat.lt_of_lt_of_le h.2 ba.size⟩, by omega, fun x h => h.1, hb.trans (ba.mono hb.size)⟩
 unfold gcel
 simp only [Tx.v, HLX.out]
 exact ga
end
end Go.Proofs.YtpljbgcofmlhbaaGreat
namespace Go.Proofs.YtpljbgcofmlhbaaGreat
open Go.RowKit
set_option maxRecDepth 100000
def ghS : AS := (((AS.new 3).lockS 1 0).bodS 1 [[107]] [[118]] []).unlS 1 true
def ghst : Nat → GS
 | 0 => GS.new [107]
 | i + 1 => (ghst i).step ghS
theorem ghst_facts : (∀ i, i < 4 → (ghst (i + 1)).thr = false ∧ (ghst i).took ghS = false) ∧ (ghst 5).thr = true ∧ (ghst 4).took ghS = true ∧ (ghst 5).val = [118] ∧ (ghst 5).the = true ∧ (ghst 5).err = 0 := by decide +kernel
theorem ghst_cnt : ∀ i, i ≤ 5 → (ghst i).m.an = 0 ∧ (ghst i).m.mo = 0 := by decide +kernel
def GHd (W : World) (P A : Nat) (i : Nat) (F : Nat → Prop) (N : Nat) : Prop := (∃ p kt vt D, GP W P A p kt vt D (ghst i) ∧ ∀ x, x = p ∨ x = P → ¬ F x ∧ N ≤ x) ∧ PX W A F ghS
theorem ghd_step {W : World} {P A N : Nat} {i : Nat} {F : Nat → Prop} (h : GHd W P A i F N) (hi : i < 5) (hN : N ≤ W.heap.size) : Calls Tryz.prog 14 #[.pointer (some ⟨P, 0, none⟩)] W fun e w' => e = .returned (.tuple #[.bool (ghst (i + 1)).thr, .bool ((ghst i).took ghS)]) ∧ GHd w' P A (i + 1) F N ∧ Below N W w' := by
 obtain ⟨⟨p, kt, vt, D, hm, hF⟩, hp⟩ := h
 have hc := ghst_cnt i (by omega)
 refine (gstep_any hm hp (by rw [hc.1]; decide) (by rw [hc.2]; decide)).mono ?_
 rintro e w' ⟨rfl, vt', D', h1, h2, h3⟩
 have hpp := (hF p (.inl rfl)).2
 have hPP := (hF P (.inr rfl)).2
 exact ⟨rfl, ⟨⟨p, kt, vt', D', h1, hF⟩, hp.upd h3 (fun x hx e => e.elim (fun e => (hF x (.inr e)).1 hx) (fun e => (hF x (.inl e)).1 hx))⟩, h3.below hN (fun k hk e => by omega)⟩
theorem tx_c (w : World) (z : Int) (hz : 0 ≤ z ∧ z ≤ 255) : (⟨some ⟨w.heap.size, 0, none⟩, 1, [z]⟩ : Tx).Ok (w.alloc (.cells #[.int .u8 z] 5 (1, 2))) := by
 refine ⟨fun i hi => ?_, (fun e => by cases e), (by simp), fun c hc => ?_, (by simp)⟩
 ·obtain rfl : i = 0 := by simp at hi; omega
  exact ⟨w.heap.size, 0, rfl, by rw [cell_of_row _ _ _ _ _ _ (heap_alloc_new w _)]; rfl⟩
 ·simp only [List.mem_singleton] at hc; omega
theorem tl_c (w : World) (t : Tx) (ht : t.Ok w) : (⟨some ⟨w.heap.size, 0, none⟩, 1, [t]⟩ : TL).Ok (w.alloc (.cells #[t.v] 28)) := by
 refine ⟨fun i hi => ?_, fun x hx => ?_, (fun e => by cases e), (by simp)⟩
 ·obtain rfl : i = 0 := by simp at hi; omega
  exact ⟨w.heap.size, 0, rfl, by rw [cell_of_row _ _ _ _ _ _ (heap_alloc_new w _)]; rfl⟩
 ·rw [List.mem_singleton.1 hx]; exact ht.below ((Below.refl _ _).alloc (Nat.le_refl _) _)
set_option maxRecDepth 100000 in
set_option maxHeartbeats 6400000 in
theorem ghead_any (w : World) : Calls Tryz.prog 8 #[] w fun e w' => e = .returned (.bool true) ∧ Below w.heap.size w w' := by
 have HBG := hide (begun_good 3 w (by decide) (by decide))
 go_enter Tryz.func8, Tryz.ntmps8
 go_wp2_with fail
 refine HBG.out.mono ?_
 rintro e w1 ⟨P0, AX, AY, rfl, hA, hb⟩
 obtain ⟨K, hK⟩ : ∃ K : Nat → Prop, K = fun k => k < w.heap.size ∨ k = P0 := ⟨_, rfl⟩
 rw [← hK] at hA
 have HKW : Hid (∀ k, k < w.heap.size → K k) := fun k hk => by rw [hK]; exact .inl hk
 obtain ⟨c0, c1⟩ := hA.cells
 have HB1 := hide hb
 have HBX : Hid (∀ Y, Upd (fun k => ¬ K k) w1 Y → Below w.heap.size w Y) := fun Y hu => HB1.out.trans (hu.below HB1.out.size (fun k hk e => e (HKW.out k hk)))
 have HLK := hide (hA.X (fun F hp => px_lock hp 1 0 (by decide)))
 generalize (AS.new 3).lockB 1 0 = lb at *
 generalize (AS.new 3).wordE 1 = le at *
 clear hA hb hK HBG HB1 c1
 go_wp2_with fail
 refine HLK.out.mono ?_
 rintro e w2 ⟨rfl, hA2, hu2⟩
 have HA2 := hide hA2
 have HU2 := hide hu2
 obtain ⟨d0, d1⟩ := hA2.cells
 have hP2 : P0 < w2.heap.size := hA2.klt P0 hA2.kp
 -- the body
 obtain ⟨v1, hv1⟩ : ∃ x, x = w2.alloc (.cells #[.int .u8 107] 5 (1, 2)) := ⟨_, rfl⟩
 obtain ⟨v2, hv2⟩ : ∃ x, x = v1.alloc (.cells #[.slice (some ⟨w2.heap.size, 0, none⟩) 1 1] 28) := ⟨_, rfl⟩
 obtain ⟨v3, hv3⟩ : ∃ x, x = v2.alloc (.cells #[.int .u8 118] 5 (1, 2)) := ⟨_, rfl⟩
 obtain ⟨v4, hv4⟩ : ∃ x, x = v3.alloc (.cells #[.slice (some ⟨w2.heap.size + 1 + 1, 0, none⟩) 1 1] 28) := ⟨_, rfl⟩
 have z1 : v1.heap.size = w2.heap.size + 1 := by rw [hv1]; simp
 have z2 : v2.heap.size = w2.heap.size + 1 + 1 := by rw [hv2]; simp; omega
 have z3 : v3.heap.size = w2.heap.size + 1 + 1 + 1 := by rw [hv3]; simp; omega
 have b1 : Below w2.heap.size w2 v1 := by rw [hv1]; exact (Below.refl _ _).alloc (Nat.le_refl _) _
 have b2 : Below v1.heap.size v1 v2 := by rw [hv2]; exact (Below.refl _ _).alloc (Nat.le_refl _) _
 have b3 : Below v2.heap.size v2 v3 := by rw [hv3]; exact (Below.refl _ _).alloc (Nat.le_refl _) _
 have b4 : Below v3.heap.size v3 v4 := by rw [hv4]; exact (Below.refl _ _).alloc (Nat.le_refl _) _
 have k1 : (⟨some ⟨w2.heap.size, 0, none⟩, 1, [107]⟩ : Tx).Ok v1 := by rw [hv1]; exact tx_c w2 107 (by decide)
 have k2 : (⟨some ⟨w2.heap.size + 1, 0, none⟩, 1, [⟨some ⟨w2.heap.size, 0, none⟩, 1, [107]⟩]⟩ : TL).Ok v2 := by
  have := tl_c v1 _ k1
  rw [z1] at this
  rw [hv2]; exact this
 have k3 : (⟨some ⟨w2.heap.size + 1 + 1, 0, none⟩, 1, [118]⟩ : Tx).Ok v3 := by
  have := tx_c v2 118 (by decide)
  rw [z2] at this
  rw [hv3]; exact this
 have k4 : (⟨some ⟨w2.heap.size + 1 + 1 + 1, 0, none⟩, 1, [⟨some ⟨w2.heap.size + 1 + 1, 0, none⟩, 1, [118]⟩]⟩ : TL).Ok v4 := by
  have := tl_c v3 _ k3
  rw [z3] at this
  rw [hv4]; exact this
 have b24 := b2.trans ((b3.trans (b4.mono b3.size)).mono b2.size)
 have b14 := b1.trans (b24.mono b1.size)
 have b34 := b3.trans (b4.mono b3.size)
 have HSB : Hid (Calls Tryz.prog 48 #[.pointer (some ⟨AX, 0, none⟩), .int .i64 1, .agg #[.slice (some ⟨w2.heap.size + 1, 0, none⟩) 1 1, .slice (some ⟨w2.heap.size + 1 + 1 + 1, 0, none⟩) 1 1, .slice none 0 0]] v4 fun e w' => e = .returned (.int .i64 (((AS.new 3).lockS 1 0).unlE 1)) ∧ AW K w' P0 AX AY (((AS.new 3).lockS 1 0).bodS 1 [[107]] [[118]] []) (AS.new 3) ∧ Upd (fun k => ¬ K k) v4 w') :=
  (hA2.below b14).X (fun F hp => px_setB hp 1 ⟨some ⟨w2.heap.size + 1, 0, none⟩, 1, [⟨some ⟨w2.heap.size, 0, none⟩, 1, [107]⟩]⟩ ⟨some ⟨w2.heap.size + 1 + 1 + 1, 0, none⟩, 1, [⟨some ⟨w2.heap.size + 1 + 1, 0, none⟩, 1, [118]⟩]⟩ ⟨none, 0, []⟩ (k2.below b34) k4 (IL.nil_ok _) (by simp) (by simp) (by simp))
 have HV4 : Hid ((((w2.alloc (.cells #[.int .u8 107] 5 (1, 2))).alloc (.cells #[.slice (some ⟨w2.heap.size, 0, none⟩) 1 1] 28)).alloc (.cells #[.int .u8 118] 5 (1, 2))).alloc (.cells #[.slice (some ⟨w2.heap.size + 1 + 1, 0, none⟩) 1 1] 28) = v4) := by show _ = _; rw [hv4, hv3, hv2, hv1]
 have HB14 := hide b14
 have q2 := Lib.run_convert_bytes_const (P := Tryz.prog) w2 28 5 #[.int .u8 107] 1 1 Tryz.underlying28 Tryz.underlying5
 simp only [show (#[Value.int .u8 107] : Array Value).size = 1 from rfl] at q2
 have kc2 := conv2 w2 (.cells #[.int .u8 107] 5 (1, 2)) (.cells #[.slice (some ⟨w2.heap.size, 0, none⟩) 1 1] 28) #[.int .u8 118] 1 1
 simp only [show (#[Value.int .u8 118] : Array Value).size = 1 from rfl] at kc2
 generalize ((AS.new 3).lockS 1 0).unlE 1 = ue at *
 clear hA2 hu2 hv1 hv2 hv3 hv4 z1 z2 z3 b1 b2 b3 b4 k1 k2 k3 k4 b24 b14 b34 c0 HLK
 go_wp2_with fail
 rw [HV4.out]
 refine HSB.out.mono ?_
 rintro e w3 ⟨rfl, hA3, hu3⟩
 have HA3 := hide hA3
 have HU3 : Hid (Upd (fun k => ¬ K k) w1 w3) := (HU2.out.trans (kept_below HB14.out)).trans hu3
 have HUL := hide (hA3.X (fun F hp => px_unlock hp 1 true))
 generalize (((AS.new 3).lockS 1 0).bodS 1 [[107]] [[118]] []).unlE 1 = uf at *
 have c0 := hA3.cells.1
 clear hA3 hu3 d0 d1 q2 kc2 HSB HV4 hP2
 go_wp2_with fail
 refine HUL.out.mono ?_
 rintro e w4 ⟨rfl, hA4, hu4⟩
 have d0 := hA4.cells.1
 have HU4 : Hid (Upd (fun k => ¬ K k) w1 w4) := HU3.out.trans hu4
 have HPX : Hid (∃ F, PX w4 AX F ghS) := hA4.px
 obtain ⟨w5, hw5⟩ : ∃ x, x = w4.alloc (.cells #[.int .u8 107] 5 (1, 2)) := ⟨_, rfl⟩
 have b5 : Below w4.heap.size w4 w5 := by rw [hw5]; exact (Below.refl _ _).alloc (Nat.le_refl _) _
 have HT : (⟨some ⟨w4.heap.size, 0, none⟩, 1, [107]⟩ : Tx).Ok w5 := by rw [hw5]; exact tx_c w4 107 (by decide)
 have HN := hide (gnew_any (A := AX) _ HT)
 simp only [Tx.v, show ([107] : List Int).length = 1 from rfl] at HN
 have q2 := Lib.run_convert_bytes_const (P := Tryz.prog) w4 28 5 #[.int .u8 107] 1 1 Tryz.underlying28 Tryz.underlying5
 simp only [show (#[Value.int .u8 107] : Array Value).size = 1 from rfl] at q2
 have HW5 := hide hw5
 have B5 := hide b5
 have HBW4 := hide (HBX.out w4 HU4.out)
 have hP4 : P0 < w4.heap.size := hA4.klt P0 hA4.kp
 clear hA4 hu4 hw5 b5 HT c0 HUL
 go_wp2_with fail
 rw [← HW5.out]
 refine HN.out.mono ?_
 rintro e w6 ⟨P, p, kt, vt, D, rfl, hm, hP, hD, hb6⟩
 obtain ⟨F, hF⟩ := HPX.out
 have b46 := B5.out.trans (hb6.mono B5.out.size)
 have hz5 := B5.out.size
 have hzw := HBW4.out.size
 have H0 : Hid (GHd w6 P AX 0 F w.heap.size ∧ Below w.heap.size w w6) := by
  refine ⟨⟨⟨p, kt, vt, D, hm, fun x hx => ?_⟩, hF.upd (S := Noth) (Upd.of_below b46 _) (fun _ _ e => e)⟩, HBW4.out.trans (b46.mono HBW4.out.size)⟩
  have hx4 : w4.heap.size ≤ x := by
   rcases hx with rfl | rfl
   ·have := hD x hm.dp; omega
   ·omega
  exact ⟨fun e => by have h1 := hF.lt x e; omega, by omega⟩
 clear hm hP hD hb6 hF b46 hz5 hzw HN HW5 HPX B5 HBW4 hP4 d0 q2 HBX HKW HU2 HU3 HU4 HA2 HA3 HB14
 go_wp2_with fail
 go_loopw [4] (fun q wr => ∃ i : Nat, i ≤ 4 ∧ q = .int .i64 (i : Int) ∧ Hid (GHd wr P AX i F w.heap.size ∧ Below w.heap.size w wr)) (fun q _ => 4 - (intOf q).toNat)
 case atStart => exact ⟨0, Nat.zero_le _, rfl, H0⟩
 case round =>
  clear H0
  obtain ⟨i, hi, rfl, HI⟩ := hrel
  rename World => wr
  by_cases hlt : i < 4
  ·have j1 : (i : Int) < 4 := by omega
   have HS := hide (ghd_step HI.out.1 (by omega) HI.out.2.size)
   obtain ⟨f1, f2⟩ := ghst_facts.1 i hlt
   rw [f1, f2] at HS
   clear f1 f2
   go_wp2_with fail
   refine HS.out.mono ?_
   rintro e w7 ⟨rfl, h1, h2⟩
   have HI2 : Hid (GHd w7 P AX (i + 1) F w.heap.size ∧ Below w.heap.size w w7) := ⟨h1, HI.out.2.trans h2⟩
   clear h1 h2 HS
   go_wp2_with fail
   go_roundw
   case rel => exact ⟨i + 1, by omega, by go_num, HI2⟩
   case measure => simp [intOf]; omega
  ·have j1 : ¬ (i : Int) < 4 := by omega
   obtain rfl : i = 4 := by omega
   have HS := hide (ghd_step HI.out.1 (by omega) HI.out.2.size)
   obtain ⟨_, f1, f2, f3, f4, f5⟩ := ghst_facts
   rw [show (4 : Nat) + 1 = 5 from rfl, f1, f2] at HS
   go_wp2_with fail
   refine HS.out.mono ?_
   rintro e w7 ⟨rfl, h1, h2⟩
   have B7 := hide (HI.out.2.trans h2)
   obtain ⟨⟨p7, kt7, vt7, D7, hm7, _⟩, _⟩ := h1
   have HAN := hide (ganswer_any hm7)
   unfold GaP at HAN
   rw [f4, f5] at HAN
   have HF3 := hide f3
   clear h2 HS HI hm7 f1 f2 f3 f4 f5
   go_wp2_with fail
   refine HAN.out.mono ?_
   rintro e w8 ⟨⟨va, vc, vz⟩, rfl, hvs, _, hvo, hb8⟩
   have hvz : vz = [118] := hvs.trans HF3.out
   subst hvz
   simp only [Tx.v, show ([118] : List Int).length = 1 from rfl]
   have cv : (convert 28 9 (.slice va 1 vc)).run Tryz.prog w8 = .ok (.string (strOfNums [118])) w8 := nconv_row vc rfl hvo.r
   rw [show strOfNums [118] = ⟨#[118]⟩ from by decide +kernel] at cv
   have HB8 := hide (B7.out.trans (hb8.mono B7.out.size))
   clear hvs hvo hb8 HAN HF3
   go_wp2_with fail
   go_ret
   exact ⟨rfl, HB8.out⟩
end Go.Proofs.YtpljbgcofmlhbaaGreat
namespace Go.Proofs.YtpljbgcofmlhbaaGreat
open Go.RowKit
set_option maxRecDepth 100000
def gValR (p : NP) (key : List Int) : List Int := if isIn p.ks key = true then p.vs.getD (cntB p.ks key) [] else []
def GS.stepR (g : GS) (s : AS) : GS :=
 if g.thr = true then g
 else if ¬ kOk g.m.key then ⟨g.m, true, g.val, g.the, 3⟩
 else if ¬ 5 ≤ (g.m.step s).nx then ⟨g.m.step s, false, g.val, g.the, g.err⟩
 else if (g.m.step s).id = 0 then ⟨g.m.step s, true, g.val, g.the, 101⟩
 else ⟨g.m.step s, true, if isIn (g.m.step s).nd.ks g.m.key = true ∧ cntB (g.m.step s).nd.ks g.m.key < (g.m.step s).nd.vs.length then gValR (g.m.step s).nd g.m.key else g.val, isIn (g.m.step s).nd.ks g.m.key, g.err⟩
theorem gval_eq {p : NP} {key : List Int} (h : Rs p.ks) : gValR p key = gVal p key := by
 unfold gValR gVal
 obtain ⟨A, B, hA, hB, hc, hor⟩ := parts p.ks key h.pair
 rcases hor with ⟨hin, hks⟩ | ⟨hin, hks⟩
 ·have hn : key ∉ A := fun hm => cmp_ne (hA key hm) rfl
  rw [if_pos hin, if_pos hin, hc]
  congr 1
  conv => rhs; rw [hks, idx_app hn]
 ·rw [if_neg (by rw [hin]; decide), if_neg (by rw [hin]; decide)]
theorem stepR_eq {g : GS} {s : AS} (h : Rs (g.m.step s).nd.ks) (hv : g.thr = false → g.val = []) : g.stepR s = g.step s := by
 unfold GS.stepR GS.step
 by_cases h1 : g.thr = true
 ·rw [if_pos h1, if_pos h1]
 rw [if_neg h1, if_neg h1]
 by_cases h2 : kOk g.m.key
 case neg => rw [if_pos h2, if_pos h2]
 rw [if_neg (show ¬ ¬ kOk g.m.key from fun hn => hn h2), if_neg (show ¬ ¬ kOk g.m.key from fun hn => hn h2)]
 by_cases h3 : 5 ≤ (g.m.step s).nx
 case neg => rw [if_pos h3, if_pos h3]
 rw [if_neg (show ¬ ¬ 5 ≤ (g.m.step s).nx from fun hn => hn h3), if_neg (show ¬ ¬ 5 ≤ (g.m.step s).nx from fun hn => hn h3)]
 by_cases h4 : (g.m.step s).id = 0
 ·rw [if_pos h4, if_pos h4]
 rw [if_neg h4, if_neg h4]
 congr 1
 by_cases h5 : isIn (g.m.step s).nd.ks g.m.key = true ∧ cntB (g.m.step s).nd.ks g.m.key < (g.m.step s).nd.vs.length
 ·rw [if_pos h5, gval_eq h]
 ·rw [if_neg h5, ← gval_eq h, hv (by simpa using h1)]
  unfold gValR
  by_cases h6 : isIn (g.m.step s).nd.ks g.m.key = true
  ·rw [if_pos h6, List.getD_eq_getElem?_getD, List.getElem?_eq_none (Nat.le_of_not_lt (fun h7 => h5 ⟨h6, h7⟩))]; rfl
  ·rw [if_neg h6]
def rgcel (p : Nat) (k v : Tx) (g : GS) : Array Value := #[.pointer (some ⟨p, 0, none⟩), k.v, .bool g.thr, v.v, .bool g.the, .int .i64 g.err]
structure RGP (W : World) (P A p : Nat) (kt vt : Tx) (D : Nat → Prop) (g : GS) : Prop where
 c : W.heap[P]? = some (.cells (rgcel p kt vt g) 139 (0, 0))
 pm : ∃ k n Dm r, RM W p A k n Dm r ∧ (∀ x, Dm x → D x) ∧ Sim g.m r
 dp : D p
 ko : kt.Ok W
 ks : kt.s = g.m.key
 ki : ∀ x, kt.a = some x → 0 < kt.s.length → D x.block ∧ x.block ≠ p
 vo : vt.Ok W
 vs : vt.s = g.val
 vi : ∀ x, vt.a = some x → 0 < vt.s.length → D x.block ∧ x.block ≠ p
 pd : ¬ D P
 lt : ∀ x, D x → x < W.heap.size
def RGNx (W : World) (P A p : Nat) (kt : Tx) (D : Nat → Prop) (g : GS) (w' : World) : Prop := ∃ vt D', RGP w' P A p kt vt D' g ∧ (∀ x, D' x → D x ∨ W.heap.size ≤ x) ∧ Upd (fun k => k = P ∨ k = p) W w'
section
variable {W w' : World} {P A p : Nat} {kt vt : Tx} {D F : Nat → Prop} {g : GS} {s : AS}
theorem RGP.ne (h : RGP W P A p kt vt D g) : p ≠ P := fun e => h.pd (e ▸ h.dp)
theorem RGP.upd {S : Nat → Prop} (h : RGP W P A p kt vt D g) (hu : Upd S W w') (hs : ∀ x, x = P ∨ D x → ¬ S x) : RGP w' P A p kt vt D g := by
 obtain ⟨k, n, Dm, r, h1, h2, h9⟩ := h.pm
 refine ⟨hu.heap h.c (hs P (.inl rfl)), ⟨k, n, Dm, r, h1.upd hu (fun x hx => ?_), h2, h9⟩, h.dp, h.ko.updL hu (fun x e l => hs _ (.inr (h.ki x e l).1)), h.ks, h.ki, h.vo.updL hu (fun x e l => hs _ (.inr (h.vi x e l).1)), h.vs, h.vi, h.pd, fun x hx => Nat.lt_of_lt_of_le (h.lt x hx) hu.size⟩
 rcases hx with rfl | hx
 ·exact hs _ (.inr h.dp)
 ·exact hs x (.inr (h2 x hx))
theorem RGP.turn {g' : GS} {vt' : Tx} (h : RGP W P A p kt vt D g) (hc : w'.heap[P]? = some (.cells (rgcel p kt vt' g') 139 (0, 0))) (hu : Upd (fun k => k = P) W w') (hm : g'.m = g.m) (hvs : vt'.s = g'.val) (hvo : vt'.Ok w') (hvi : ∀ x, vt'.a = some x → 0 < vt'.s.length → (D x.block ∨ W.heap.size ≤ x.block) ∧ x.block ≠ p) (hlt : ∀ x, vt'.a = some x → 0 < vt'.s.length → x.block < w'.heap.size) : RGNx W P A p kt D g' w' := by
 obtain ⟨k, n, Dm, r, h1, h2, h9⟩ := h.pm
 have hP := lt_of_block h.c
 have hpl := h.lt p h.dp
 refine ⟨vt', fun x => D x ∨ (W.heap.size ≤ x ∧ x < w'.heap.size), ⟨hc, ⟨k, n, Dm, r, ?_, fun x hx => .inl (h2 x hx), by rw [hm]; exact h9⟩, .inl h.dp, h.ko.updL hu (fun x e l e' => h.pd (e' ▸ (h.ki x e l).1)), by rw [hm]; exact h.ks, fun x e l => ⟨.inl (h.ki x e l).1, (h.ki x e l).2⟩, hvo, hvs, fun x e l => ⟨?_, (hvi x e l).2⟩, ?_, ?_⟩, ?_, hu.mono (fun k _ e => .inl e)⟩
 ·refine h1.upd hu (fun x hx e => ?_)
  rcases hx with rfl | hx
  ·exact h.ne e
  ·exact h.pd (e ▸ h2 x hx)
 ·rcases (hvi x e l).1 with h3 | h3
  ·exact .inl h3
  ·exact .inr ⟨h3, hlt x e l⟩
 ·rintro (h3 | h3)
  ·exact h.pd h3
  ·omega
 ·rintro x (h3 | h3)
  ·exact Nat.lt_of_lt_of_le (h.lt x h3) hu.size
  ·exact h3.2
 ·rintro x (h3 | h3)
  ·exact .inl h3
  ·exact .inr h3.1
theorem RGP.desc (h : RGP W P A p kt vt D g) {k : Tx} {m : MS} {r : RMS} {Dm : Nat → Prop} (hD : ∀ x, Dm x → D x) (hn : RNx W p A k Dm r w') (hs : Sim m r) (hk : m.key = g.m.key) : RGNx W P A p kt D ⟨m, g.thr, g.val, g.the, g.err⟩ w' := by
 obtain ⟨n', Dm', h1, h2, hu⟩ := hn
 have hP := lt_of_block h.c
 have hpl := h.lt p h.dp
 refine ⟨vt, fun x => D x ∨ (W.heap.size ≤ x ∧ x < w'.heap.size), ⟨hu.heap h.c (fun e => h.ne e.symm), ⟨k, n', Dm', r, h1, fun x hx => ?_, hs⟩, .inl h.dp, h.ko.updL hu (fun x e l => (h.ki x e l).2), by rw [h.ks]; exact hk.symm, fun x e l => ⟨.inl (h.ki x e l).1, (h.ki x e l).2⟩, h.vo.updL hu (fun x e l => (h.vi x e l).2), h.vs, fun x e l => ⟨.inl (h.vi x e l).1, (h.vi x e l).2⟩, ?_, ?_⟩, ?_, hu.mono (fun k _ e => .inr e)⟩
 ·rcases h2 x hx with h3 | h3
  ·exact .inl (hD x h3)
  ·exact .inr ⟨h3, h1.lt x hx⟩
 ·rintro (h3 | h3)
  ·exact h.pd h3
  ·omega
 ·rintro x (h3 | h3)
  ·exact Nat.lt_of_lt_of_le (h.lt x h3) hu.size
  ·exact h3.2
 ·rintro x (h3 | h3)
  ·exact .inl h3
  ·exact .inr h3.1
theorem RGNx.trans {D' : Nat → Prop} {g'' : GS} {w'' : World} (h2 : ∀ x, D' x → D x ∨ W.heap.size ≤ x) (hu : Upd (fun k => k = P ∨ k = p) W w') (h3 : RGNx w' P A p kt D' g'' w'') : RGNx W P A p kt D g'' w'' := by
 obtain ⟨vt'', D'', h4, h5, h6⟩ := h3
 refine ⟨vt'', D'', h4, fun x hx => ?_, hu.trans h6⟩
 rcases h5 x hx with h7 | h7
 ·exact h2 x h7
 ·exact .inr (Nat.le_trans hu.size h7)
end
end Go.Proofs.YtpljbgcofmlhbaaGreat
namespace Go.Proofs.YtpljbgcofmlhbaaGreat
open Go.RowKit
set_option maxRecDepth 100000
section
variable {W w' : World} {P A p : Nat} {kt vt : Tx} {D F : Nat → Prop} {g : GS} {s : AS}
theorem RGNx.refl (h : RGP W P A p kt vt D g) : RGNx W P A p kt D g W := ⟨vt, D, h, fun _ hx => .inl hx, Upd.refl _ _⟩
theorem sim_id {m : MS} {r : RMS} (_ : Sim m r) (hx : 5 ≤ m.nx) : m.atI = m.id ∧ m.atN = m.nd := ⟨if_pos hx, if_pos hx⟩
theorem RGP.flags {g' : GS} (h : RGP W P A p kt vt D g) (hc : w'.heap[P]? = some (.cells (rgcel p kt vt g') 139 (0, 0))) (hu : Upd (fun k => k = P) W w') (hm : g'.m = g.m) (hv : g'.val = g.val) : RGNx W P A p kt D g' w' :=
 h.turn hc hu hm (by rw [hv]; exact h.vs) (h.vo.updL hu (fun x e l e' => h.pd (e' ▸ (h.vi x e l).1))) (fun x e l => ⟨.inl (h.vi x e l).1, (h.vi x e l).2⟩) (fun x e l => Nat.lt_of_lt_of_le (h.lt _ (h.vi x e l).1) hu.size)
set_option maxRecDepth 100000 in
set_option maxHeartbeats 3200000 in
theorem rgstep_any (h : RGP W P A p kt vt D g) (hp : RX W A F s) (han : g.m.an < 4611686018427387904) (hmo : g.m.mo < 4611686018427387904) : Calls Tryz.prog 15 #[.pointer (some ⟨P, 0, none⟩)] W fun e w' => e = .returned (.tuple #[.bool (g.stepR s).thr, .bool (g.took s)]) ∧ RGNx W P A p kt D (g.stepR s) w' := by
 obtain ⟨i0, hi0, hz0, hz1, hz2⟩ := info_parts infoByte'
 obtain ⟨k, n0, Dm, r, hpm, hD, hS⟩ := h.pm
 have HST := hide (rdstep_any hpm hp (by rw [hS.an]; exact han) (by rw [hS.mo]; exact hmo))
 unfold RSpP at HST
 have hnx5 : decide ((r.step s).nx = 5) = decide (5 ≤ (g.m.step s).nx) := by
  rw [(hS.step s).nx]
  by_cases h5 : 5 ≤ (g.m.step s).nx
  ·rw [decide_eq_true h5, decide_eq_true (by omega)]
  ·rw [decide_eq_false h5, decide_eq_false (by omega)]
 rw [hnx5] at HST
 have HDE : Hid (∀ w1, RNx W p A k Dm (r.step s) w1 → RGNx W P A p kt D ⟨g.m.step s, g.thr, g.val, g.the, g.err⟩ w1) := fun w1 hn => h.desc hD hn (hS.step s) (MS.step_key _ _)
 have HT0 : Hid (∀ w', w'.heap[P]? = some (.cells (rgcel p kt vt ⟨g.m, true, g.val, g.the, 3⟩) 139 (0, 0)) → Upd (fun k => k = P) W w' → RGNx W P A p kt D ⟨g.m, true, g.val, g.the, 3⟩ w') := fun w' hc hu => h.flags hc hu rfl rfl
 have HRF : Hid (RGNx W P A p kt D g W) := RGNx.refl h
 have HC := hide h.c
 have hks := h.ks
 have HKB : Hid (∀ W', Below W.heap.size W W' → kt.Ok W') := fun W' hb => h.ko.below hb
 clear h hpm hD hp han hmo hS hnx5
 unfold rgcel at HC HT0
 obtain ⟨x0, x1, x2, x3, x4, x5⟩ := Six.of HC.out
 have fz := fun j => frozen_of HC.out j
 unfold GS.stepR GS.took
 by_cases hthr : g.thr = true
 ·rw [if_pos hthr, if_pos hthr, hthr]
  rw [hthr] at x2
  clear fz HST HDE HT0
  go_enter Tryz.func15, Tryz.ntmps15
  go_wp2_with fail
  go_ret2
  exact ⟨rfl, HRF.out⟩
 rw [if_neg hthr, if_neg hthr]
 have hthf : g.thr = false := by simpa using hthr
 rw [hthf] at x2
 obtain ⟨ka, kc, ks⟩ := kt
 simp only [Tx.v] at x1 hks
 obtain ⟨lk, hlk⟩ : ∃ x, ks.length = x := ⟨_, rfl⟩
 rw [hlk] at x1
 have HLK := hide hlk
 have HKS := hide hks
 have HMB : Hid (∀ W', Calls Tryz.prog 24 #[.slice ka lk kc] W' fun e w' => e = .returned (.bool (decide (kOk g.m.key))) ∧ w' = W') := fun W' => by
  have := rkey_any ka lk kc W'
  rw [← hlk, hks] at this
  rw [← hlk, hks]
  exact this
 clear hks hlk
 by_cases hk : kOk g.m.key
 case neg =>
  rw [if_pos hk, if_pos hk]
  rw [decide_eq_false hk] at HMB
  have HF : Hid (RGNx W P A p ⟨ka, kc, ks⟩ D ⟨g.m, true, g.val, g.the, 3⟩ ((W.setCell ⟨P, 2, none⟩ (.bool true)).setCell ⟨P, 5, none⟩ (.int .i64 3))) := HT0.out _ (g6_5 (g6_2 HC.out _) _) (updP (updP (Upd.refl _ _) _ _) _ _)
  have HBL := hide (HMB.out W)
  have f2 : (W.setCell ⟨P, 2, none⟩ (.bool true)).frozen? ⟨P, 5, none⟩ = false := frozen_of (g6_2 HC.out _) 5
  have q5 := (Six.of (g6_2 HC.out (.bool true))).2.2.2.2.2
  clear HST HDE HT0 HRF HMB hk
  go_enter Tryz.func15, Tryz.ntmps15
  go_wp2_with fail
  refine keep HBL.out ?_
  go_wp2_with fail
  go_ret2
  exact ⟨rfl, HF.out⟩
 rw [if_neg (show ¬ ¬ kOk g.m.key from fun hn => hn hk), if_neg (show ¬ ¬ kOk g.m.key from fun hn => hn hk)]
 rw [decide_eq_true hk] at HMB
 have HBL := hide (HMB.out W)
 clear HMB HT0 HRF hk fz
 rw [hthf] at HDE
 by_cases hnx : 5 ≤ (g.m.step s).nx
 case neg =>
  rw [if_pos hnx, if_pos hnx]
  rw [decide_eq_false hnx] at HST
  clear hnx
  go_enter Tryz.func15, Tryz.ntmps15
  go_wp2_with fail
  refine keep HBL.out ?_
  go_wp2_with fail
  refine HST.out.mono ?_
  rintro e w1 ⟨rfl, hn⟩
  have HF := hide (HDE.out w1 hn)
  clear hn
  go_wp2_with fail
  go_ret2
  exact ⟨rfl, HF.out⟩
 rw [if_neg (show ¬ ¬ 5 ≤ (g.m.step s).nx from fun hn => hn hnx), if_neg (show ¬ ¬ 5 ≤ (g.m.step s).nx from fun hn => hn hnx)]
 rw [decide_eq_true hnx] at HST
 have HNX := hide hnx
 clear hnx
 obtain ⟨m', hm'⟩ : ∃ m', m' = g.m.step s := ⟨_, rfl⟩
 rw [← hm'] at HDE HNX ⊢
 have hmk : m'.key = g.m.key := by rw [hm']; exact MS.step_key _ _
 have HMK := hide hmk
 clear hm' hmk
 obtain ⟨tk, htk⟩ : ∃ tk, tk = decide (¬ m'.id = 0) := ⟨_, rfl⟩
 rw [← htk]
 obtain ⟨g9, hg9⟩ : ∃ g9 : GS, g9 = if m'.id = 0 then ⟨m', true, g.val, g.the, 101⟩ else ⟨m', true, if isIn m'.nd.ks g.m.key = true ∧ cntB m'.nd.ks g.m.key < m'.nd.vs.length then gValR m'.nd g.m.key else g.val, isIn m'.nd.ks g.m.key, g.err⟩ := ⟨_, rfl⟩
 rw [← hg9]
 have HTH : Hid (g9.thr = true) := by show _ = _; rw [hg9]; split <;> rfl
 rw [HTH.out]
 have HG9 := hide hg9
 have HTK := hide htk
 clear hg9 htk HTH
 go_enter Tryz.func15, Tryz.ntmps15
 go_wp2_with fail
 refine keep HBL.out ?_
 go_wp2_with fail
 refine HST.out.mono ?_
 rintro e w1 ⟨rfl, hn⟩
 obtain ⟨vt1, D1, hg1, hd1, hu1⟩ := HDE.out w1 hn
 have hc1 := hg1.c
 unfold rgcel at hc1
 simp only at hc1
 obtain ⟨y0, y1, y2, y3, y4, y5⟩ := Six.of hc1
 have fz := fun j => frozen_of hc1 j
 obtain ⟨w2, hw2⟩ : ∃ w2, w2 = w1.setCell ⟨P, 2, none⟩ (.bool true) := ⟨_, rfl⟩
 obtain ⟨vt2, D2, hg2, hd2, hu2⟩ := hg1.flags (g' := ⟨m', true, g.val, g.the, g.err⟩) (g6_2 hc1 (.bool true)) (updP (Upd.refl _ _) _ _) rfl rfl
 rw [← hw2] at hg2 hu2
 have HW2 := hide hw2
 have HTR : Hid (∀ w' g', RGNx w2 P A p ⟨ka, kc, ks⟩ D2 g' w' → RGNx W P A p ⟨ka, kc, ks⟩ D g' w') := fun w' g' hn => RGNx.trans hd1 hu1 (RGNx.trans hd2 hu2 hn)
 obtain ⟨k2, n2, Dm2, r2, hpm2, hD2, hS2⟩ := hg2.pm
 have HAT := hide (rdat_all hpm2 hS2)
 rw [(sim_id hS2 HNX.out).1, (sim_id hS2 HNX.out).2] at HAT
 unfold AtP at HAT
 have HG2 := hide hg2
 have hc2 := hg2.c
 unfold rgcel at hc2
 simp only at hc2
 have HC2 := hide hc2
 obtain ⟨z0, z1, z2, z3, z4, z5⟩ := Six.of hc2
 have hl2 := lt_of_block hc2
 clear hn hg1 hd1 hu1 hc1 hg2 hd2 hu2 hw2 HST HDE HBL x0 x1 x2 x3 x4 x5 hpm2 hD2 hS2 hc2
 go_upto_region 12 with fail
 rw [← HW2.out]
 clear HW2 y0 y1 y2 y3 y4 y5 fz
 go_wp2_with fail
 refine HAT.out.mono ?_
 rintro e w3 ⟨⟨nlv, ⟨nha, nhc, nhs⟩, nri, ⟨nka, nkc, nK⟩, ⟨nva, nvc, nV⟩, ⟨nca, ncc, nC⟩⟩, rfl, hnp, hno, hb3⟩
 obtain ⟨nn, hnn⟩ : ∃ nn : Nd, nn = ⟨nlv, ⟨nha, nhc, nhs⟩, nri, ⟨nka, nkc, nK⟩, ⟨nva, nvc, nV⟩, ⟨nca, ncc, nC⟩⟩ := ⟨_, rfl⟩
 rw [← hnn] at hnp hno
 have HNV : Hid (nn.v = .agg #[.int .i64 nlv, .slice nha nhs.length nhc, .int .i64 nri, .slice nka nK.length nkc, .slice nva nV.length nvc, .slice nca nC.length ncc]) := by show _ = _; rw [hnn]; rfl
 have HVS : Hid (nn.vs = ⟨nva, nvc, nV⟩) := by show _ = _; rw [hnn]
 simp only [Nd.v, Tx.v, TL.v, IL.v]
 generalize nhs.length = nlh at *
 generalize nK.length = nlk at *
 obtain ⟨nlw, hlw⟩ : ∃ x, nV.length = x := ⟨_, rfl⟩
 rw [hlw] at HNV ⊢
 generalize nC.length = nlc at *
 have HLW := hide hlw
 obtain ⟨w4, hw4⟩ : ∃ w4, w4 = w3.alloc (.cells #[.int .i64 nlv, .slice nha nlh nhc, .int .i64 nri, .slice nka nlk nkc, .slice nva nlw nvc, .slice nca nlc ncc] 36) := ⟨_, rfl⟩
 have b4 : Below w3.heap.size w3 w4 := by rw [hw4]; exact (Below.refl _ _).alloc (Nat.le_refl _) _
 have g4 : w4.heap[w3.heap.size]? = some (.cells #[.int .i64 nlv, .slice nha nlh nhc, .int .i64 nri, .slice nka nlk nkc, .slice nva nlw nvc, .slice nca nlc ncc] 36 (0, 0)) := by rw [hw4]; exact heap_alloc_new w3 _
 have hb24 := hb3.trans (b4.mono hb3.size)
 have gp4 := (hb24.block P hl2).trans HC2.out
 have HB4 := hide hb24
 have G4 := hide g4
 have GP4 := hide gp4
 have HW4 := hide hw4
 have HNP := hide hnp
 have HNO : Hid (nn.Own w4 w2.heap.size) := hno.below b4
 have hne4 : ¬ P = w3.heap.size := by have := hb3.size; omega
 obtain ⟨y0, y1, y2, y3, y4, y5⟩ := Six.of gp4
 simp only [Tx.v, HLK.out] at y1
 have fz := fun j => frozen_of gp4 j
 clear hnn hnp hno hb3 b4 g4 hb24 gp4 hw4 hlw HAT z0 z1 z2 z3 z4 z5
 go_upto_region 13 with fail
 rw [← HW4.out]
 clear HW4
 by_cases hid : m'.id = 0
 ·have HF : Hid (RGNx W P A p ⟨ka, kc, ks⟩ D g9 (w4.setCell ⟨P, 5, none⟩ (.int .i64 101))) := by
   show RGNx _ _ _ _ _ _ _ _
   rw [HG9.out, if_pos hid]
   exact HTR.out _ _ (HG2.out.flags (g' := ⟨m', true, g.val, g.the, 101⟩) (g6_5 GP4.out _) ((Upd.of_below HB4.out _).setCell _ _ (fun _ => rfl)) rfl rfl)
  have HTF : Hid (tk = false) := by show _ = _; rw [HTK.out]; simp [hid]
  obtain rfl := HTF.out
  rw [hid]
  clear hid HTK HTF
  go_wp2_with fail
  go_ret2
  exact ⟨rfl, HF.out⟩
 have HTF : Hid (tk = true) := by show _ = _; rw [HTK.out]; simp [hid]
 obtain rfl := HTF.out
 have HKE : Hid (ks = g.m.key) := HKS.out
 obtain ⟨cn, hcn⟩ : ∃ cn, cn = cntB nn.p.ks ks := ⟨_, rfl⟩
 obtain ⟨isn, hisn⟩ : ∃ isn, isn = isIn nn.p.ks ks := ⟨_, rfl⟩
 have HFD : Hid (∀ W', Below w4.heap.size w4 W' → Calls Tryz.prog 68 #[.agg #[.int .i64 nlv, .slice nha nlh nhc, .int .i64 nri, .slice nka nlk nkc, .slice nva nlw nvc, .slice nca nlc ncc], .slice ka lk kc] W' fun e w' => e = .returned (.tuple #[.int .i64 (cn : Nat), .bool isn]) ∧ Below W'.heap.size W' w') := fun W' hb => by
  have hk2 := HG2.out.ko.below (HB4.out.trans (hb.mono HB4.out.size))
  have := rfind_any nn ⟨ka, kc, ks⟩ W' (HNO.out.below hb).ok hk2
  rw [HNV.out] at this
  simp only [Tx.v, HLK.out] at this
  rw [hcn, hisn]
  exact this
 have hcl : cn ≤ 140737488355328 := by
  have h1 := cntB_le nn.p.ks ks
  have h2 : nn.p.ks.length = nn.ks.L.length := TL.p_len _
  have h3 := HNO.out.kz
  omega
 have HCN := hide (And.intro hcn hisn)
 clear hcn hisn
 have hl4 := lt_of_block GP4.out
 obtain ⟨n0, n1, n2, n3, n4, n5⟩ := Six.of G4.out
 have HVL : Hid (nn.p.vs.length = nlw) := by show _ = _; rw [← HLW.out]; have : nn.p.vs.length = nn.vs.L.length := TL.p_len _; rw [this, HVS.out]
 have HNVZ := HNO.out.vz
 rw [HVS.out] at HNVZ
 simp only [HLW.out] at HNVZ
 -- what stands in the end
 have HE1 : Hid (¬ (isn = true ∧ cn < nlw) → ∀ w5, Below w4.heap.size w4 w5 → RGNx W P A p ⟨ka, kc, ks⟩ D g9 (w5.setCell ⟨P, 4, none⟩ (.bool isn))) := fun hno w5 hb => by
  have e9 : g9 = ⟨m', true, g.val, isn, g.err⟩ := by
   rw [HG9.out, if_neg hid, if_neg (by rw [← HNP.out, ← HKE.out, HVL.out, ← HCN.out.1, ← HCN.out.2]; exact hno), ← HNP.out, ← HKE.out, ← HCN.out.2]
  rw [e9]
  refine HTR.out _ _ (HG2.out.flags (g' := ⟨m', true, g.val, isn, g.err⟩) (g6_4 ((hb.block P hl4).trans GP4.out) _) ((Upd.of_below (HB4.out.trans (hb.mono HB4.out.size)) _).setCell _ _ (fun _ => rfl)) rfl rfl)
 have HE2 : Hid (isn = true → cn < nlw → ∀ w5 w6 (v : Tx), Below w4.heap.size w4 w5 → Below (w5.setCell ⟨P, 4, none⟩ (.bool isn)).heap.size (w5.setCell ⟨P, 4, none⟩ (.bool isn)) w6 → v.s = nn.p.vs.getD cn [] → v.Ok w6 → OwnB w6 w5.heap.size 5 v.v v.s → RGNx W P A p ⟨ka, kc, ks⟩ D g9 (w6.setCell ⟨P, 3, none⟩ v.v)) := fun hi1 hi2 w5 w6 v hb hb6 hvs hvo hvo2 => by
  have e9 : g9 = ⟨m', true, nn.p.vs.getD cn [], isn, g.err⟩ := by
   rw [HG9.out, if_neg hid, if_pos (by rw [← HNP.out, ← HKE.out, HVL.out, ← HCN.out.1, ← HCN.out.2]; exact ⟨hi1, hi2⟩), ← HNP.out, ← HKE.out, ← HCN.out.2]
   unfold gValR
   rw [if_pos (by rw [← HCN.out.2]; exact hi1), ← HCN.out.1]
  rw [e9]
  have u5 : Upd (fun k => k = P) w2 (w5.setCell ⟨P, 4, none⟩ (.bool isn)) := (Upd.of_below (HB4.out.trans (hb.mono HB4.out.size)) _).setCell _ _ (fun _ => rfl)
  have u6 : Upd (fun k => k = P) w2 w6 := u5.trans (Upd.of_below hb6 _)
  have g5 := g6_4 ((hb.block P hl4).trans GP4.out) (.bool isn)
  have g6 := (hb6.block P (lt_of_block g5)).trans g5
  have hin := ownB_in (x := v) hvo2
  have hz5 : w2.heap.size ≤ w5.heap.size := Nat.le_trans HB4.out.size hb.size
  have hpl := HG2.out.lt p HG2.out.dp
  refine HTR.out _ _ (HG2.out.turn (g' := ⟨m', true, nn.p.vs.getD cn [], isn, g.err⟩) (vt' := v) (g6_3 g6 _) (u6.setCell _ _ (fun _ => rfl)) rfl hvs (hvo.updL (updP (Upd.refl (fun k => k = P) w6) 3 v.v) (fun x e l e' => by have := (hin x e).1; omega)) (fun x e l => ⟨.inr (by have := (hin x e).1; omega), fun e' => by have := (hin x e).1; omega⟩) (fun x e l => Nat.lt_of_lt_of_le (hin x e).2 (updP (Upd.refl (fun k => k = P) w6) 3 v.v).size))
 have HIDD := hide hid
 go_wp2_with fail
 go_region_held3 (fun W' => W'.cell? ⟨w3.heap.size, 0, none⟩ = some (.int .i64 nlv) ∧ W'.cell? ⟨w3.heap.size, 1, none⟩ = some (.slice nha nlh nhc) ∧ W'.cell? ⟨w3.heap.size, 2, none⟩ = some (.int .i64 nri) ∧ W'.cell? ⟨w3.heap.size, 3, none⟩ = some (.slice nka nlk nkc) ∧ W'.cell? ⟨w3.heap.size, 4, none⟩ = some (.slice nva nlw nvc) ∧ W'.cell? ⟨w3.heap.size, 5, none⟩ = some (.slice nca nlc ncc) ∧ W'.cell? ⟨P, 1, none⟩ = some (.slice ka lk kc)) (go_keep) (first
  | (go_at_call 68; refine (HFD.out _ (below_drew (Below.refl _ _))).mono ?_; rintro e w5 ⟨rfl, hb⟩; have HB5 : Hid (Below w4.heap.size w4 w5) := (below_drew (Below.refl _ _)).trans hb; have gq := (HB5.out.block P hl4).trans GP4.out; have GQ := hide gq; obtain ⟨y0, y1, y2, y3, y4, y5⟩ := Six.of gq; simp only [Tx.v, HLK.out] at y1; have fz := (fun j => frozen_of gq j); have gm := (HB5.out.block _ (lt_of_block G4.out)).trans G4.out; have GM := hide gm; obtain ⟨n0, n1, n2, n3, n4, n5⟩ := Six.of gm; clear hb gq gm)
  | fail)
 obtain ⟨w6, hw6⟩ : ∃ w6, w6 = w5.setCell ⟨P, 4, none⟩ (.bool isn) := ⟨_, rfl⟩
 have HW6 := hide hw6
 have gm6 : w6.heap[w3.heap.size]? = some (.cells #[.int .i64 nlv, .slice nha nlh nhc, .int .i64 nri, .slice nka nlk nkc, .slice nva nlw nvc, .slice nca nlc ncc] 36 (0, 0)) := by rw [hw6]; exact (updP (Upd.refl (fun k => k = P) w5) 4 (.bool isn)).heap GM.out (fun e => hne4 e.symm)
 have gq6 := g6_4 GQ.out (.bool isn)
 rw [← hw6] at gq6
 have HF1 : Hid (¬ (isn = true ∧ cn < nlw) → RGNx W P A p ⟨ka, kc, ks⟩ D g9 w6) := fun h => by rw [hw6]; exact HE1.out h w5 HB5.out
 have HF2 : Hid (isn = true → cn < nlw → ∀ w7 (v : Tx), Below w6.heap.size w6 w7 → v.s = nn.p.vs.getD cn [] → v.Ok w7 → OwnB w7 w6.heap.size 5 v.v v.s → RGNx W P A p ⟨ka, kc, ks⟩ D g9 (w7.setCell ⟨P, 3, none⟩ v.v)) := fun h1 h2 w7 v hb hs ho ho2 => by
  rw [hw6] at hb ho2
  exact HE2.out h1 h2 w5 w7 v HB5.out hb hs ho (ho2.mono (by simp))
 have HNO6 : Hid (nn.Own w6 w2.heap.size) := by
  show nn.Own _ _
  rw [hw6]
  exact (HNO.out.below HB5.out).upd (updP (Upd.refl (fun k => k = P) w5) 4 (.bool isn)) (fun b h1 _ e => by omega)
 have GQ6 := hide gq6
 have hl6 := lt_of_block gq6
 have hm6 := lt_of_block gm6
 clear HE1 HE2 hw6 HFD
 go_upto_region 18 with fail
 rw [← HW6.out]
 clear HW6 y0 y1 y2 y3 y4 y5 n0 n1 n2 n3 n4 n5 fz
 obtain ⟨n0, n1, n2, n3, n4, n5⟩ := Six.of gm6
 cases isn
 ·have HF := hide (HF1.out (fun h => by cases h.1))
  go_wp2_with fail
  go_ret2
  exact ⟨rfl, HF.out⟩
 by_cases hlt : cn < nlw
 case neg =>
  have j1 : ¬ (cn : Int) < (nlw : Int) := by omega
  have HF := hide (HF1.out (fun h => hlt h.2))
  go_wp2_with fail
  go_ret2
  exact ⟨rfl, HF.out⟩
 have j1 : (cn : Int) < (nlw : Int) := by omega
 have j0 : (0 : Int) ≤ (cn : Int) := by omega
 have HFF := hide (HF2.out rfl hlt)
 have hvok := HNO6.out.v.ok
 rw [HVS.out] at hvok
 have hiV : cn < nV.length := by rw [HLW.out]; exact hlt
 obtain ⟨vb, vo, hva, hvc⟩ := hvok.r cn hiV
 simp only at hva
 have hgd : nn.p.vs.getD cn [] = nV[cn].s := by
  have : nn.p.vs = nV.map (·.s) := by show nn.vs.p = _; rw [HVS.out]; rfl
  rw [this, List.getD_eq_getElem?_getD, List.getElem?_map, List.getElem?_eq_getElem hiV]; rfl
 rw [hgd] at HFF
 have HEO := hide (hvok.ok _ (List.getElem_mem hiV))
 generalize nV[cn] = vi at *
 obtain ⟨ea, ec, es⟩ := vi
 obtain ⟨el, hel⟩ : ∃ el, es.length = el := ⟨_, rfl⟩
 simp only [Tx.v, hel] at hvc
 simp only at HFF
 have HEL := hide hel
 have HEN : Hid (ea = none → el = 0 ∧ ec = 0) := fun e => by have := HEO.out.n e; simp only [HEL.out] at this; exact this
 have hez : el ≤ 140737488351232 := by have := HEO.out.z; simp only [HEL.out] at this; exact this
 have HER : Hid (Row w6 .u8 ea es) := HEO.out.r
 have hvb : vb < w6.heap.size := World.block_lt_of_cell? w6 _ hvc
 subst hva
 clear hvok hgd hel HF1 HF2 hlt
 go_wp2_with (first
  | (at_builtin; refine append_b rfl (.tmp 75) (.tmp 81) 28 rfl w6.heap.size 5 i0 Tryz.underlying28 hi0 hz0 hz1 hz2 (.slice (some ⟨w6.heap.size, 0, none⟩) 0 0) [] rfl (OwnB.made #[] 0 (Nat.le_refl _) (by unfold maxLen; omega) rfl (by intro u hu; cases hu)) ea el ec es rfl HEL.out HEN.out (HER.out.alloc _) (by simp; omega) (by simp) ?_; intro v4 w7 hown hg; simp only [List.nil_append] at hown; obtain ⟨na, nc, rfl, _, _⟩ := hown.slice; have HO := hide hown; have HB7 : Hid (Below w6.heap.size w6 w7) := ((Below.refl _ _).alloc (Nat.le_refl _) _).grown hg (by simp) (fun k h => by cases h; exact Nat.le_refl _); have g7 := (HB7.out.block P hl6).trans GQ6.out; obtain ⟨y0, y1, y2, y3, y4, y5⟩ := Six.of g7; have fz := (fun j => frozen_of g7 j); clear hown hg g7)
  | fail)
 go_ret2
 refine ⟨rfl, ?_⟩
 have ho : OwnB w7 w6.heap.size 5 (⟨na, nc, es⟩ : Tx).v es := HO.out
 exact HFF.out w7 ⟨na, nc, es⟩ HB7.out rfl (ownB_ok (x := ⟨na, nc, es⟩) ho HEO.out.b8 HEO.out.z) ho
end
end Go.Proofs.YtpljbgcofmlhbaaGreat
