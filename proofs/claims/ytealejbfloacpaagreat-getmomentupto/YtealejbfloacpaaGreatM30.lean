/- Texts of one's own. -/
import Derived.Test.YtealejbfloacpaaGreatM25
import Derived.Test.YtealejbfloacpaaGreatM15
import Derived.Lib.SlBytesConst
import Derived.Test.YtealejbfloacpaaGreatM8
import Derived.Test.YtealejbfloacpaaGreatM11
import Derived.Test.YtealejbfloacpaaGreatM17
import Derived.Test.YtealejbfloacpaaGreatM23
import Derived.Test.YtealejbfloacpaaGreatM12
import Derived.Test.YtealejbfloacpaaGreatM2
import Derived.Deep.CutBlock
import Derived.Test.YtealejbfloacpaaGreatM22
namespace Go.Proofs.YtealejbfloacpaaGreat
open Go.RowKit
set_option maxRecDepth 100000
def hst : Nat → MS
 | 0 => MS.new [107] 0
 | i + 1 => (hst i).step (AS.new 3)
theorem tx_k {w : World} : (⟨some ⟨w.heap.size, 0, none⟩, 1, [107]⟩ : Tx).Ok (w.alloc (.cells #[.int .u8 107] 5 (1, 2))) := by
 refine ⟨fun i hi => ?_, (fun e => by cases e), (by simp), fun c hc => ?_, (by simp)⟩
 ·obtain rfl : i = 0 := by simp at hi; omega
  exact ⟨w.heap.size, 0, rfl, by rw [cell_of_row _ _ _ _ _ _ (heap_alloc_new w _)]; rfl⟩
 ·simp only [List.mem_singleton] at hc; omega
end Go.Proofs.YtealejbfloacpaaGreat
namespace Go.Proofs.YtealejbfloacpaaGreat
open Go.RowKit
set_option maxRecDepth 100000
def gIdx (ks : List (List Int)) (key : List Int) : Int := if isIn ks key = true then ((ks.idxOf key : Nat) : Int) else -1
theorem idx_app {A B : List (List Int)} {key : List Int} (h : key ∉ A) : (A ++ key :: B).idxOf key = A.length := by
 rw [List.idxOf_append, if_neg h, List.idxOf_cons_self]; omega
theorem gIdx_at {K : List Tx} {xs : List Int} {i : Nat} (hi : i < K.length) (he : K[i].s = xs) (hn : ∀ x ∈ K.take i, ¬ x.s = xs) : gIdx (K.map (·.s)) xs = (i : Int) := by
 have e : K.map (·.s) = (K.take i).map (·.s) ++ xs :: (K.drop (i + 1)).map (·.s) := by
  rw [← he, ← List.map_cons (f := fun x : Tx => x.s), ← List.drop_eq_getElem_cons hi, ← List.map_append, List.take_append_drop]
 have hA : xs ∉ (K.take i).map (·.s) := fun hm => by
  obtain ⟨x, hx, hs⟩ := List.mem_map.1 hm
  exact hn x hx hs
 unfold gIdx
 rw [e, if_pos (by rw [isIn_iff]; exact List.mem_append.2 (.inr List.mem_cons_self)), idx_app hA, List.length_map, List.length_take, Nat.min_eq_left (Nat.le_of_lt hi)]
theorem gIdx_no {K : List Tx} {xs : List Int} (hn : ∀ x ∈ K, ¬ x.s = xs) : gIdx (K.map (·.s)) xs = -1 := by
 unfold gIdx
 rw [if_neg]
 rw [isIn_iff]
 intro hm
 obtain ⟨x, hx, hs⟩ := List.mem_map.1 hm
 exact hn x hx hs
set_option maxHeartbeats 1600000 in
theorem gsame_any (ea xa : Option Addr) (el ec lx xc b : Nat) (es xs : List Int) (w : World) (h1 : es.length = el) (h2 : xs.length = lx) (r1 : Row w .u8 ea es) (r2 : Row w .u8 xa xs) (b1 : B8 es) (b2 : B8 xs) (hb : w.cell? ⟨b, 0, none⟩ = some (.slice xa lx xc)) :
  Calls Tryz.prog 151 #[.slice ea el ec, .pointer (some ⟨b, 0, none⟩)] w fun e w' => e = .returned (.bool (decide (es = xs))) ∧ w' = w := by
 have HE := hide (nequal_any ea xa el ec lx xc es xs w h1 h2 r1 r2 b1 b2)
 generalize decide (es = xs) = R at *
 clear r1 r2 b1 b2 h1 h2
 go_enter Tryz.func151, Tryz.ntmps151
 go_wp2_with fail
 refine keep HE.out ?_
 go_wp2_with fail
 go_ret
 exact ⟨rfl, rfl⟩
set_option maxRecDepth 100000 in
set_option maxHeartbeats 1600000 in
theorem gindex_any (ka xa : Option Addr) (lk kc lx xc b : Nat) (K : List Tx) (xs : List Int) (w : World) (hK : (⟨ka, kc, K⟩ : TL).Ok w) (hl : K.length = lk) (hz : lk ≤ 140737488355328) (hx : (⟨xa, xc, xs⟩ : Tx).Ok w) (h2 : xs.length = lx) (hb : w.cell? ⟨b, 0, none⟩ = some (.slice xa lx xc)) :
  Calls Tryz.prog 150 #[.slice ka lk kc, .func (.func 151) #[] #[.pointer (some ⟨b, 0, none⟩)]] w fun e w' => e = .returned (.int .i64 (gIdx (K.map (·.s)) xs)) ∧ w' = w := by
 obtain ⟨R, hR⟩ : ∃ R : Int, R = gIdx (K.map (·.s)) xs := ⟨_, rfl⟩
 rw [← hR]
 have HR := hide hR
 have HK := hide hK
 have HL := hide hl
 have HX := hide hx
 have H2 := hide h2
 have HB := hide hb
 clear hR hK hl hx h2 hb
 go_enter Tryz.func150, Tryz.ntmps150
 go_wp2_with fail
 go_loopw [8] (fun q wr => ∃ i : Nat, i ≤ lk ∧ q = .int .i64 (i : Int) ∧ wr = w ∧ Hid (∀ x ∈ K.take i, ¬ x.s = xs)) (fun q _ => lk - (intOf q).toNat)
 case atStart => exact ⟨0, Nat.zero_le _, rfl, rfl, fun x hx => by simp at hx⟩
 case round =>
  obtain ⟨i, hi, rfl, rfl, HI⟩ := hrel
  rename World => wr
  by_cases hlt : i < lk
  ·have j1 : (i : Int) < (lk : Int) := by omega
   have j0 : (0 : Int) ≤ (i : Int) := by omega
   have hiK : i < K.length := by rw [HL.out]; exact hlt
   obtain ⟨kb, ko, hka, hkc⟩ := HK.out.r i hiK
   simp only at hka
   have hko := HK.out.ok _ (List.getElem_mem hiK)
   have HAT : Hid (K[i].s = xs → R = (i : Int)) := fun he => by rw [HR.out]; exact gIdx_at hiK he HI.out
   have HNX : Hid (¬ K[i].s = xs → ∀ x ∈ K.take (i + 1), ¬ x.s = xs) := fun hne x hx => by
    rw [List.take_succ_eq_append_getElem hiK] at hx
    rcases List.mem_append.1 hx with h | h
    ·exact HI.out x h
    ·rw [List.mem_singleton] at h; rw [h]; exact hne
   generalize K[i] = xi at *
   obtain ⟨ea, ec, es⟩ := xi
   obtain ⟨el, hel⟩ : ∃ el, es.length = el := ⟨_, rfl⟩
   have HS := hide (gsame_any ea xa el ec lx xc b es xs wr hel H2.out hko.r HX.out.r hko.b8 HX.out.b8 HB.out)
   simp only [Tx.v, hel] at hkc
   simp only at HAT HNX
   subst hka
   clear hko hel
   by_cases he : es = xs
   ·rw [decide_eq_true he] at HS
    have HF : Hid (R = (i : Int)) := HAT.out he
    clear HAT HNX he
    go_wp2_with fail
    refine keep HS.out ?_
    go_wp2_with fail
    go_ret
    exact ⟨ret_int HF.out.symm, rfl⟩
   ·rw [decide_eq_false he] at HS
    have HF : Hid (∀ x ∈ K.take (i + 1), ¬ x.s = xs) := HNX.out he
    clear HAT HNX he
    go_wp2_with fail
    refine keep HS.out ?_
    go_wp2_with fail
    go_roundw
    case rel => exact ⟨i + 1, by omega, by go_num, trivial, HF⟩
    case measure => simp [intOf]; omega
  ·have j1 : ¬ (i : Int) < (lk : Int) := by omega
   have HF : Hid (R = -1) := by show _ = _; rw [HR.out]; exact gIdx_no (fun x hx => HI.out x (by rw [List.take_of_length_le (by rw [HL.out]; omega)]; exact hx))
   go_wp2_with fail
   go_ret
   exact ⟨ret_int HF.out.symm, rfl⟩
def gVal (p : NP) (key : List Int) : List Int := if isIn p.ks key = true then p.vs.getD (p.ks.idxOf key) [] else []
def GvP (w : World) (n : Nd) (key : List Int) (e : Ending) (w' : World) : Prop :=
 ∃ v : Tx, e = .returned (.tuple #[v.v, .bool (isIn n.p.ks key)]) ∧ v.s = gVal n.p key ∧ v.Ok w' ∧ (∀ x, v.a = some x → 0 < v.s.length → ∃ t ∈ n.vs.L, t.a = some x) ∧ Below w.heap.size w w'
set_option maxRecDepth 100000 in
set_option maxHeartbeats 1600000 in
theorem gvalue_any (n : Nd) (k : Tx) (w : World) (hn : n.Ok w) (hk : k.Ok w) : Calls Tryz.prog 121 #[n.v, k.v] w (GvP w n k.s) := by
 have hkz := hn.kz
 have hvz := hn.vz
 have HN : Hid (∀ W, Below w.heap.size w W → n.Ok W) := fun W hb => hn.below hb
 have HK : Hid (∀ W, Below w.heap.size w W → k.Ok W) := fun W hb => hk.below hb
 clear hn hk
 obtain ⟨P, hP⟩ : ∃ P, P = GvP w n k.s := ⟨_, rfl⟩
 have HP : Hid (∀ e w', GvP w n k.s e w' → P e w') := fun e w' h => by rw [hP]; exact h
 rw [← hP]
 clear hP
 obtain ⟨G, hG⟩ : ∃ G, G = gIdx n.ks.p k.s := ⟨_, rfl⟩
 have HG := hide hG
 clear hG
 obtain ⟨an, han⟩ : ∃ an, an = n := ⟨_, rfl⟩
 obtain ⟨ak, hak⟩ : ∃ ak, ak = k := ⟨_, rfl⟩
 rw [← han] at HN HP HG
 rw [← hak] at HK HP HG
 have HAN := hide han
 have HAK := hide hak
 clear han hak
 obtain ⟨lv, ⟨ha, hc, hs⟩, ri, ⟨ka, kc, K⟩, ⟨va, vc, V⟩, ⟨ca, cc, C⟩⟩ := n
 obtain ⟨xa, xc, xs⟩ := k
 simp only [Nd.v, Tx.v, TL.v, IL.v] at hkz hvz ⊢
 generalize hs.length = lh at *
 obtain ⟨lk, hlk⟩ : ∃ x, K.length = x := ⟨_, rfl⟩
 obtain ⟨lw, hlw⟩ : ∃ x, V.length = x := ⟨_, rfl⟩
 obtain ⟨lx, hlx⟩ : ∃ x, xs.length = x := ⟨_, rfl⟩
 generalize C.length = lc at *
 rw [hlk] at hkz ⊢
 rw [hlw] at hvz ⊢
 rw [hlx]
 obtain ⟨w0, hw0⟩ : ∃ w0, w0 = (w.alloc (.cells #[.int .i64 lv, .slice ha lh hc, .int .i64 ri, .slice ka lk kc, .slice va lw vc, .slice ca lc cc] 35)).alloc (.cells #[.slice xa lx xc] 23) := ⟨_, rfl⟩
 have b0 : Below w.heap.size w w0 := by rw [hw0]; exact ((Below.refl _ _).alloc (Nat.le_refl _) _).alloc (by simp) _
 have g0 : w0.heap[w.heap.size]? = some (.cells #[.int .i64 lv, .slice ha lh hc, .int .i64 ri, .slice ka lk kc, .slice va lw vc, .slice ca lc cc] 35 (0, 0)) := by rw [hw0]; exact old_at (new_at rfl)
 have g1 : w0.heap[w.heap.size + 1]? = some (.cells #[.slice xa lx xc] 23 (0, 0)) := by rw [hw0]; exact new_at (by simp)
 have c1 : w0.cell? ⟨w.heap.size + 1, 0, none⟩ = some (.slice xa lx xc) := by rw [cell_of_row _ _ _ _ _ _ g1]; rfl
 have hN0 := HN.out w0 b0
 have hK0 := HK.out w0 b0
 rw [HAN.out] at hN0
 rw [HAK.out] at hK0
 have HIX : Hid (Calls Tryz.prog 150 #[.slice ka lk kc, .func (.func 151) #[] #[.pointer (some ⟨w.heap.size + 1, 0, none⟩)]] w0 fun e w' => e = .returned (.int .i64 G) ∧ w' = w0) := by
  have := gindex_any ka xa lk kc lx xc (w.heap.size + 1) K xs w0 hN0.k hlk (by omega) hK0 hlx c1
  rw [HG.out, HAN.out, HAK.out]
  exact this
 have HVO := hide hN0.v
 have HLW := hide hlw
 have HLK := hide hlk
 have B0 := hide b0
 have HW0 := hide hw0
 have hGk : isIn an.p.ks ak.s = true → G = ((an.p.ks.idxOf ak.s : Nat) : Int) := fun h => by rw [HG.out]; exact if_pos h
 have hGn : isIn an.p.ks ak.s = false → G = -1 := fun h => by rw [HG.out]; exact if_neg (by rw [show an.ks.p = an.p.ks from rfl, h]; decide)
 have HGK := hide (And.intro hGk hGn)
 obtain ⟨c3, c4⟩ := And.intro (Six.of g0).2.2.2.1 (Six.of g0).2.2.2.2.1
 clear hw0 b0 g0 g1 hN0 hK0 hGk hGn hlw hlk hlx c1
 go_enter Tryz.func121, Tryz.ntmps121
 go_upto_region 1 with fail
 rw [← HW0.out]
 clear HW0
 go_wp2_with fail
 refine keep HIX.out ?_
 clear HIX
 cases hin : isIn an.p.ks ak.s
 ·obtain rfl : G = -1 := HGK.out.2 hin
  have HIN := hide hin
  clear hin
  go_wp2_with fail
  refine HP.out _ _ ⟨⟨none, 0, []⟩, by rw [HIN.out]; rfl, by unfold gVal; rw [HIN.out]; rfl, Tx.nil_ok _, (fun x e => by cases e), B0.out⟩
 ·obtain ⟨i, hi⟩ : ∃ i, i = an.p.ks.idxOf ak.s := ⟨_, rfl⟩
  obtain rfl : G = (i : Int) := by rw [HGK.out.1 hin, hi]
  have HIN := hide hin
  have HI := hide hi
  have jn : ¬ (i : Int) < 0 := by omega
  have hil : i ≤ lk := by
   rw [hi]
   have h1 := List.idxOf_le_length (a := ak.s) (l := an.p.ks)
   have h2 : an.p.ks.length = K.length := by rw [HAN.out]; exact TL.p_len _
   rw [h2, HLK.out] at h1
   exact h1
  clear hin hi
  by_cases hlt : i < lw
  ·have j1 : ¬ (lw : Int) ≤ (i : Int) := by omega
   have j2 : (i : Int) < (lw : Int) := by omega
   have j0 : (0 : Int) ≤ (i : Int) := by omega
   have hiV : i < V.length := by rw [HLW.out]; exact hlt
   obtain ⟨vb, vo, hva, hvc⟩ := HVO.out.r i hiV
   simp only at hva
   have HOK := hide (HVO.out.ok _ (List.getElem_mem hiV))
   have hmem := List.getElem_mem hiV
   have hgd : an.p.vs.getD i [] = V[i].s := by
    rw [HAN.out]
    show (V.map (·.s)).getD i [] = _
    rw [List.getD_eq_getElem?_getD, List.getElem?_map, List.getElem?_eq_getElem hiV]; rfl
   have HGD := hide hgd
   have HMM : Hid (V[i] ∈ an.vs.L) := by show _ ∈ _; rw [HAN.out]; exact hmem
   generalize V[i] = vi at *
   obtain ⟨ea, ec, es⟩ := vi
   obtain ⟨el, hel⟩ : ∃ el, es.length = el := ⟨_, rfl⟩
   simp only [Tx.v, hel] at hvc
   have HEL := hide hel
   subst hva
   clear hmem hgd hel
   go_wp2_with fail
   refine HP.out _ _ ⟨⟨ea, ec, es⟩, by rw [HIN.out]; simp only [Tx.v, HEL.out]; rfl, ?_, HOK.out, (fun x e l => ⟨_, HMM.out, e⟩), B0.out⟩
   unfold gVal
   rw [HIN.out, if_pos rfl, ← HI.out, HGD.out]
  ·have j1 : (lw : Int) ≤ (i : Int) := by omega
   have HNO : Hid (an.p.vs.length ≤ i) := by show _ ≤ _; rw [HAN.out]; show (V.map (·.s)).length ≤ i; rw [List.length_map, HLW.out]; omega
   go_wp2_with fail
   refine HP.out _ _ ⟨⟨none, 0, []⟩, by rw [HIN.out]; rfl, ?_, Tx.nil_ok _, (fun x e => by cases e), B0.out⟩
   unfold gVal
   rw [HIN.out, if_pos rfl, ← HI.out, List.getD_eq_getElem?_getD, List.getElem?_eq_none HNO.out]; rfl
end Go.Proofs.YtealejbfloacpaaGreat
namespace Go.Proofs.YtealejbfloacpaaGreat
open Go.RowKit
set_option maxRecDepth 100000
theorem MS.step_key (m : MS) (s : AS) : (m.step s).key = m.key := by
 unfold MS.step MS.goTo MS.fail MS.valid MS.choose MS.fail MS.goTo
 repeat' split
 all_goals rfl
structure GS where
 m : MS
 thr : Bool
 val : List Int
 the : Bool
 err : Int
def GS.new (key : List Int) : GS := ⟨MS.new key 0, false, [], false, 0⟩
def kOk (key : List Int) : Prop := 1 ≤ key.length ∧ key.length ≤ 64
instance (key : List Int) : Decidable (kOk key) := by unfold kOk; exact inferInstance
def GS.step (g : GS) (s : AS) : GS :=
 if g.thr = true then g
 else if ¬ kOk g.m.key then ⟨g.m, true, g.val, g.the, 3⟩
 else if ¬ 5 ≤ (g.m.step s).nx then ⟨g.m.step s, false, g.val, g.the, g.err⟩
 else if (g.m.step s).id = 0 then ⟨g.m.step s, true, g.val, g.the, 101⟩
 else ⟨g.m.step s, true, gVal (g.m.step s).nd g.m.key, isIn (g.m.step s).nd.ks g.m.key, g.err⟩
def GS.took (g : GS) (s : AS) : Bool :=
 if g.thr = true then false
 else if ¬ kOk g.m.key then true
 else if ¬ 5 ≤ (g.m.step s).nx then false
 else decide (¬ (g.m.step s).id = 0)
def gcel (p : Nat) (k v : Tx) (g : GS) : Array Value := #[.pointer (some ⟨p, 0, none⟩), k.v, .bool g.thr, v.v, .bool g.the, .int .i64 g.err]
structure GP (W : World) (P A p : Nat) (kt vt : Tx) (D : Nat → Prop) (g : GS) : Prop where
 c : W.heap[P]? = some (.cells (gcel p kt vt g) 146 (0, 0))
 pm : ∃ k n Dm, PM W p A k n Dm g.m ∧ ∀ x, Dm x → D x
 dp : D p
 ko : kt.Ok W
 ks : kt.s = g.m.key
 ki : ∀ x, kt.a = some x → 0 < kt.s.length → D x.block ∧ x.block ≠ p
 vo : vt.Ok W
 vs : vt.s = g.val
 vi : ∀ x, vt.a = some x → 0 < vt.s.length → D x.block ∧ x.block ≠ p
 pd : ¬ D P
 lt : ∀ x, D x → x < W.heap.size
def GNx (W : World) (P A p : Nat) (kt : Tx) (D : Nat → Prop) (g : GS) (w' : World) : Prop := ∃ vt D', GP w' P A p kt vt D' g ∧ (∀ x, D' x → D x ∨ W.heap.size ≤ x) ∧ Upd (fun k => k = P ∨ k = p) W w'
section
variable {W w' : World} {P A p : Nat} {kt vt : Tx} {D F : Nat → Prop} {g : GS} {s : AS}
theorem GP.ne (h : GP W P A p kt vt D g) : p ≠ P := fun e => h.pd (e ▸ h.dp)
theorem GP.upd {S : Nat → Prop} (h : GP W P A p kt vt D g) (hu : Upd S W w') (hs : ∀ x, x = P ∨ D x → ¬ S x) : GP w' P A p kt vt D g := by
 obtain ⟨k, n, Dm, h1, h2⟩ := h.pm
 refine ⟨hu.heap h.c (hs P (.inl rfl)), ⟨k, n, Dm, h1.upd hu (fun x hx => ?_), h2⟩, h.dp, h.ko.updL hu (fun x e l => hs _ (.inr (h.ki x e l).1)), h.ks, h.ki, h.vo.updL hu (fun x e l => hs _ (.inr (h.vi x e l).1)), h.vs, h.vi, h.pd, fun x hx => Nat.lt_of_lt_of_le (h.lt x hx) hu.size⟩
 rcases hx with rfl | hx
 ·exact hs _ (.inr h.dp)
 ·exact hs x (.inr (h2 x hx))
theorem g6_2 {W : World} {P : Nat} {T : TypeId} {a0 a1 a2 a3 a4 a5 : Value} (h : W.heap[P]? = some (.cells #[a0, a1, a2, a3, a4, a5] T (0, 0))) (x : Value) : (W.setCell ⟨P, 2, none⟩ x).heap[P]? = some (.cells #[a0, a1, x, a3, a4, a5] T (0, 0)) := block_setCell h 2 x
theorem g6_3 {W : World} {P : Nat} {T : TypeId} {a0 a1 a2 a3 a4 a5 : Value} (h : W.heap[P]? = some (.cells #[a0, a1, a2, a3, a4, a5] T (0, 0))) (x : Value) : (W.setCell ⟨P, 3, none⟩ x).heap[P]? = some (.cells #[a0, a1, a2, x, a4, a5] T (0, 0)) := block_setCell h 3 x
theorem g6_4 {W : World} {P : Nat} {T : TypeId} {a0 a1 a2 a3 a4 a5 : Value} (h : W.heap[P]? = some (.cells #[a0, a1, a2, a3, a4, a5] T (0, 0))) (x : Value) : (W.setCell ⟨P, 4, none⟩ x).heap[P]? = some (.cells #[a0, a1, a2, a3, x, a5] T (0, 0)) := block_setCell h 4 x
theorem g6_5 {W : World} {P : Nat} {T : TypeId} {a0 a1 a2 a3 a4 a5 : Value} (h : W.heap[P]? = some (.cells #[a0, a1, a2, a3, a4, a5] T (0, 0))) (x : Value) : (W.setCell ⟨P, 5, none⟩ x).heap[P]? = some (.cells #[a0, a1, a2, a3, a4, x] T (0, 0)) := block_setCell h 5 x
theorem GP.turn {g' : GS} {vt' : Tx} (h : GP W P A p kt vt D g) (hc : w'.heap[P]? = some (.cells (gcel p kt vt' g') 146 (0, 0))) (hu : Upd (fun k => k = P) W w') (hm : g'.m = g.m) (hvs : vt'.s = g'.val) (hvo : vt'.Ok w') (hvi : ∀ x, vt'.a = some x → 0 < vt'.s.length → (D x.block ∨ W.heap.size ≤ x.block) ∧ x.block ≠ p) (hlt : ∀ x, vt'.a = some x → 0 < vt'.s.length → x.block < w'.heap.size) : GNx W P A p kt D g' w' := by
 obtain ⟨k, n, Dm, h1, h2⟩ := h.pm
 have hP := lt_of_block h.c
 have hpl := h.lt p h.dp
 refine ⟨vt', fun x => D x ∨ (W.heap.size ≤ x ∧ x < w'.heap.size), ⟨hc, ⟨k, n, Dm, ?_, fun x hx => .inl (h2 x hx)⟩, .inl h.dp, h.ko.updL hu (fun x e l e' => h.pd (e' ▸ (h.ki x e l).1)), by rw [hm]; exact h.ks, fun x e l => ⟨.inl (h.ki x e l).1, (h.ki x e l).2⟩, hvo, hvs, fun x e l => ⟨?_, (hvi x e l).2⟩, ?_, ?_⟩, ?_, hu.mono (fun k _ e => .inl e)⟩
 ·rw [hm]
  refine h1.upd hu (fun x hx e => ?_)
  rcases hx with rfl | hx
  ·exact h.ne e
  ·exact h.pd (e ▸ h2 x hx)
 ·rcases (hvi x e l).1 with h3 | h3
  ·exact .inl h3
  ·exact .inr ⟨h3, hlt x e l⟩
 ·rintro (h3 | h3)
  ·exact h.pd h3
  ·omega
 ·rintro x (h3 | h3)
  ·exact Nat.lt_of_lt_of_le (h.lt x h3) hu.size
  ·exact h3.2
 ·rintro x (h3 | h3)
  ·exact .inl h3
  ·exact .inr h3.1
theorem GP.desc (h : GP W P A p kt vt D g) {k : Tx} {m : MS} {Dm : Nat → Prop} (hD : ∀ x, Dm x → D x) (hn : MNx W p A k Dm m w') (hk : m.key = g.m.key) : GNx W P A p kt D ⟨m, g.thr, g.val, g.the, g.err⟩ w' := by
 obtain ⟨n', Dm', h1, h2, hu⟩ := hn
 have hP := lt_of_block h.c
 have hpl := h.lt p h.dp
 refine ⟨vt, fun x => D x ∨ (W.heap.size ≤ x ∧ x < w'.heap.size), ⟨hu.heap h.c (fun e => h.ne e.symm), ⟨k, n', Dm', h1, fun x hx => ?_⟩, .inl h.dp, h.ko.updL hu (fun x e l => (h.ki x e l).2), by rw [h.ks]; exact hk.symm, fun x e l => ⟨.inl (h.ki x e l).1, (h.ki x e l).2⟩, h.vo.updL hu (fun x e l => (h.vi x e l).2), h.vs, fun x e l => ⟨.inl (h.vi x e l).1, (h.vi x e l).2⟩, ?_, ?_⟩, ?_, hu.mono (fun k _ e => .inr e)⟩
 ·rcases h2 x hx with h3 | h3
  ·exact .inl (hD x h3)
  ·exact .inr ⟨h3, h1.lt x hx⟩
 ·rintro (h3 | h3)
  ·exact h.pd h3
  ·omega
 ·rintro x (h3 | h3)
  ·exact Nat.lt_of_lt_of_le (h.lt x h3) hu.size
  ·exact h3.2
 ·rintro x (h3 | h3)
  ·exact .inl h3
  ·exact .inr h3.1
theorem GNx.trans {D' : Nat → Prop} {g'' : GS} {w'' : World} (h2 : ∀ x, D' x → D x ∨ W.heap.size ≤ x) (hu : Upd (fun k => k = P ∨ k = p) W w') (h3 : GNx w' P A p kt D' g'' w'') : GNx W P A p kt D g'' w'' := by
 obtain ⟨vt'', D'', h4, h5, h6⟩ := h3
 refine ⟨vt'', D'', h4, fun x hx => ?_, hu.trans h6⟩
 rcases h5 x hx with h7 | h7
 ·exact h2 x h7
 ·exact .inr (Nat.le_trans hu.size h7)
end
end Go.Proofs.YtealejbfloacpaaGreat
namespace Go.Proofs.YtealejbfloacpaaGreat
open Go.RowKit
set_option maxRecDepth 100000
theorem gmay_any (a : Option Addr) (l c : Nat) (w : World) : Calls Tryz.prog 66 #[.slice a l c] w fun e w' => e = .returned (.bool (decide (1 ≤ l ∧ l ≤ 64))) ∧ w' = w := by
 obtain ⟨R, hR⟩ : ∃ R, R = decide (1 ≤ l ∧ l ≤ 64) := ⟨_, rfl⟩
 rw [← hR]
 have HR := hide hR
 clear hR
 by_cases h1 : 1 ≤ l
 ·have j1 : (1 : Int) ≤ (l : Int) := by omega
  by_cases h2 : l ≤ 64
  ·have j2 : (l : Int) ≤ 64 := by omega
   obtain rfl : R = true := by rw [HR.out]; exact decide_eq_true ⟨h1, h2⟩
   go_enter Tryz.func66, Tryz.ntmps66
   go_wp2_with fail
   go_ret
   exact ⟨rfl, rfl⟩
  ·have j2 : ¬ (l : Int) ≤ 64 := by omega
   obtain rfl : R = false := by rw [HR.out]; exact decide_eq_false (fun h => h2 h.2)
   go_enter Tryz.func66, Tryz.ntmps66
   go_wp2_with fail
   go_ret
   exact ⟨rfl, rfl⟩
 ·have j1 : ¬ (1 : Int) ≤ (l : Int) := by omega
  obtain rfl : R = false := by rw [HR.out]; exact decide_eq_false (fun h => h1 h.1)
  go_enter Tryz.func66, Tryz.ntmps66
  go_wp2_with fail
  go_ret
  exact ⟨rfl, rfl⟩
section
variable {W w' : World} {P A p : Nat} {kt vt : Tx} {D F : Nat → Prop} {g : GS} {s : AS}
def GS.look (g : GS) : GS := if g.m.id = 0 then ⟨g.m, g.thr, g.val, g.the, 101⟩ else ⟨g.m, g.thr, gVal g.m.nd g.m.key, isIn g.m.nd.ks g.m.key, g.err⟩
set_option maxRecDepth 100000 in
set_option maxHeartbeats 3200000 in
theorem glook_any (h : GP W P A p kt vt D g) (hx : 5 ≤ g.m.nx) : Calls Tryz.prog 68 #[.pointer (some ⟨P, 0, none⟩)] W fun e w' => e = .returned (.bool (decide (¬ g.m.id = 0))) ∧ GNx W P A p kt D g.look w' := by
 obtain ⟨k, n0, Dm, hpm, hD⟩ := h.pm
 have HAT := hide (dat_any hpm hx)
 unfold AtP at HAT
 have HT0 : Hid (g.m.id = 0 → ∀ w', w'.heap[P]? = some (.cells (gcel p kt vt ⟨g.m, g.thr, g.val, g.the, 101⟩) 146 (0, 0)) → Upd (fun k => k = P) W w' → GNx W P A p kt D g.look w') := fun he w' hc hu => by
  unfold GS.look
  rw [if_pos he]
  exact h.turn hc hu rfl h.vs (h.vo.updL hu (fun x e l e' => h.pd (e' ▸ (h.vi x e l).1))) (fun x e l => ⟨.inl (h.vi x e l).1, (h.vi x e l).2⟩) (fun x e l => Nat.lt_of_lt_of_le (h.lt _ (h.vi x e l).1) hu.size)
 have HT1 : Hid (¬ g.m.id = 0 → ∀ w' (v : Tx), w'.heap[P]? = some (.cells (gcel p kt v ⟨g.m, g.thr, gVal g.m.nd g.m.key, isIn g.m.nd.ks g.m.key, g.err⟩) 146 (0, 0)) → Upd (fun k => k = P) W w' → v.s = gVal g.m.nd g.m.key → v.Ok w' → (∀ x, v.a = some x → 0 < v.s.length → W.heap.size ≤ x.block ∧ x.block < w'.heap.size) → GNx W P A p kt D g.look w') := fun he w' v hc hu hvs hvo hvi => by
  unfold GS.look
  rw [if_neg he]
  exact h.turn hc hu rfl hvs hvo (fun x e l => ⟨.inr (hvi x e l).1, fun e' => by have := (hvi x e l).1; have := h.lt p h.dp; omega⟩) (fun x e l => (hvi x e l).2)
 have HKO : Hid (∀ W', Below W.heap.size W W' → kt.Ok W') := fun W' hb => h.ko.below hb
 have HC := hide h.c
 have HKS := hide h.ks
 have hP := lt_of_block h.c
 have hpP := h.ne
 clear h hpm hD hx
 obtain ⟨Q, hQ⟩ : ∃ Q : World → Prop, Q = GNx W P A p kt D g.look := ⟨_, rfl⟩
 rw [← hQ] at HT0 HT1 ⊢
 clear hQ
 obtain ⟨⟨key, lev, nx, id, wd, nd, an, mo⟩, thr, val, the, err⟩ := g
 simp only at HAT HT0 HT1 HKS
 unfold gcel at HC HT0 HT1
 simp only at HC HT0 HT1
 obtain ⟨akt, hakt⟩ : ∃ akt, akt = kt := ⟨_, rfl⟩
 rw [← hakt] at HKO HKS
 have HAK := hide hakt
 clear hakt
 obtain ⟨ka, kc, ks⟩ := kt
 obtain ⟨va, vc, vs⟩ := vt
 simp only [Tx.v] at HC HT0 HT1
 obtain ⟨lk, hlk⟩ : ∃ x, ks.length = x := ⟨_, rfl⟩
 rw [hlk] at HC HT0 HT1
 have HLK := hide hlk
 clear hlk
 generalize vs.length = lw at *
 have c0 : W.cell? ⟨P, 0, none⟩ = some (.pointer (some ⟨p, 0, none⟩)) := by rw [cell_of_row _ _ _ _ _ _ HC.out]; rfl
 go_enter Tryz.func68, Tryz.ntmps68
 go_wp2_with fail
 refine HAT.out.mono ?_
 rintro e w1 ⟨⟨nlv, ⟨nha, nhc, nhs⟩, nri, ⟨nka, nkc, nK⟩, ⟨nva, nvc, nV⟩, ⟨nca, ncc, nC⟩⟩, rfl, hnp, hno, hb1⟩
 have g1 := (hb1.block P hP).trans HC.out
 obtain ⟨nn, hnn⟩ : ∃ nn : Nd, nn = ⟨nlv, ⟨nha, nhc, nhs⟩, nri, ⟨nka, nkc, nK⟩, ⟨nva, nvc, nV⟩, ⟨nca, ncc, nC⟩⟩ := ⟨_, rfl⟩
 rw [← hnn] at hnp hno
 have HNV : Hid (nn.v = .agg #[.int .i64 nlv, .slice nha nhs.length nhc, .int .i64 nri, .slice nka nK.length nkc, .slice nva nV.length nvc, .slice nca nC.length ncc]) := by show _ = _; rw [hnn]; rfl
 simp only [Nd.v, Tx.v, TL.v, IL.v]
 generalize nhs.length = nlh at *
 generalize nK.length = nlk at *
 generalize nV.length = nlw at *
 generalize nC.length = nlc at *
 obtain ⟨w2, hw2⟩ : ∃ w2, w2 = w1.alloc (.cells #[.int .i64 nlv, .slice nha nlh nhc, .int .i64 nri, .slice nka nlk nkc, .slice nva nlw nvc, .slice nca nlc ncc] 35) := ⟨_, rfl⟩
 have b2 : Below w1.heap.size w1 w2 := by rw [hw2]; exact (Below.refl _ _).alloc (Nat.le_refl _) _
 have g2 : w2.heap[w1.heap.size]? = some (.cells #[.int .i64 nlv, .slice nha nlh nhc, .int .i64 nri, .slice nka nlk nkc, .slice nva nlw nvc, .slice nca nlc ncc] 35 (0, 0)) := by rw [hw2]; exact heap_alloc_new w1 _
 have g3 := (b2.block P (lt_of_block g1)).trans g1
 have HB2 : Hid (Below W.heap.size W w2) := hb1.trans (b2.mono hb1.size)
 have G3 := hide g3
 have G2 := hide g2
 have HW2 := hide hw2
 have HNP := hide hnp
 have HNO : Hid (nn.Own w2 W.heap.size) := hno.below b2
 have hl1 : ¬ P = w1.heap.size := by have := hb1.size; omega
 clear hnn hnp hno b2 g2 hw2 HAT c0
 obtain ⟨p0, p1, p2, p3, p4, p5⟩ := Six.of g3
 have fz := fun j => frozen_of g3 j
 have hl2 := lt_of_block g3
 clear g1 g3
 go_upto_region 2 with fail
 rw [← HW2.out]
 clear HW2
 by_cases hid : id = 0
 ·subst hid
  have HR : Hid (Q (w2.setCell ⟨P, 5, none⟩ (.int .i64 101))) := HT0.out rfl _ (g6_5 G3.out _) ((Upd.of_below HB2.out _).setCell _ _ (fun _ => rfl))
  go_wp2_with fail
  go_ret
  exact ⟨by simp, HR.out⟩
 ·have HVA : Hid (∀ W', Below w2.heap.size w2 W' → Calls Tryz.prog 121 #[.agg #[.int .i64 nlv, .slice nha nlh nhc, .int .i64 nri, .slice nka nlk nkc, .slice nva nlw nvc, .slice nca nlc ncc], .slice ka lk kc] W' (GvP W' nn ks)) := fun W' hb => by
   have hk := HKO.out W' (HB2.out.trans (hb.mono HB2.out.size))
   rw [HAK.out] at hk
   have := gvalue_any nn ⟨ka, kc, ks⟩ W' (HNO.out.below hb).ok hk
   rw [HNV.out] at this
   simp only [Tx.v, HLK.out] at this
   exact this
  have HKE : Hid (ks = key) := by have := HKS.out; rw [HAK.out] at this; exact this
  obtain ⟨n0, n1, n2, n3, n4, n5⟩ := Six.of G2.out
  have HID := hide hid
  have HFIN : Hid (∀ w4 (v : Tx), Below w2.heap.size w2 w4 → v.s = gVal nn.p ks → v.Ok w4 → (∀ x, v.a = some x → 0 < v.s.length → ∃ t ∈ nn.vs.L, t.a = some x) → Q ((w4.setCell ⟨P, 3, none⟩ v.v).setCell ⟨P, 4, none⟩ (.bool (isIn nn.p.ks ks)))) := fun w4 v hb hs ho hi => by
   have g4 := (hb.block P hl2).trans G3.out
   have hvi : ∀ x, v.a = some x → 0 < v.s.length → W.heap.size ≤ x.block ∧ x.block < w2.heap.size := fun x e l => by
    obtain ⟨t, ht, he⟩ := hi x e l
    exact ownB_in (HNO.out.v.each t ht) x he
   have hu : Upd (fun k => k = P) w4 ((w4.setCell ⟨P, 3, none⟩ v.v).setCell ⟨P, 4, none⟩ (.bool (isIn nn.p.ks ks))) := updP (updP (Upd.refl _ _) _ _) _ _
   have hbw := HB2.out.trans (hb.mono HB2.out.size)
   have hkk := HKE.out
   have hnp2 := HNP.out
   refine HT1.out HID.out _ v ?_ ((Upd.of_below hbw _).trans hu) (by rw [hs, hkk, hnp2]) (ho.updL hu (fun x e l e' => by have := (hvi x e l).1; omega)) (fun x e l => ⟨(hvi x e l).1, Nat.lt_of_lt_of_le (hvi x e l).2 (Nat.le_trans hb.size hu.size)⟩)
   have := g6_4 (g6_3 g4 v.v) (.bool (isIn nn.p.ks ks))
   rw [hnp2, hkk] at this ⊢
   exact this
  clear HT0 HT1
  go_wp2_with fail
  go_region_held3 (fun W' => W'.cell? ⟨w1.heap.size, 0, none⟩ = some (.int .i64 nlv) ∧ W'.cell? ⟨w1.heap.size, 1, none⟩ = some (.slice nha nlh nhc) ∧ W'.cell? ⟨w1.heap.size, 2, none⟩ = some (.int .i64 nri) ∧ W'.cell? ⟨w1.heap.size, 3, none⟩ = some (.slice nka nlk nkc) ∧ W'.cell? ⟨w1.heap.size, 4, none⟩ = some (.slice nva nlw nvc) ∧ W'.cell? ⟨w1.heap.size, 5, none⟩ = some (.slice nca nlc ncc) ∧ W'.cell? ⟨P, 1, none⟩ = some (.slice ka lk kc)) (go_keep) (first
   | (go_at_call 121; refine (HVA.out _ (below_drew (Below.refl _ _))).mono ?_; rintro e w4 ⟨⟨xa, xc, xs⟩, rfl, hs, ho, hi, hb⟩; have hb4 := (below_drew (Below.refl w2.heap.size w2)).trans hb; have HF := hide (HFIN.out w4 ⟨xa, xc, xs⟩ hb4 hs ho hi); have g4 := (hb4.block P hl2).trans G3.out; obtain ⟨p0, p1, p2, p3, p4, p5⟩ := Six.of g4; have fz := (fun j => frozen_of g4 j); obtain ⟨n0, n1, n2, n3, n4, n5⟩ := Six.of ((hb4.block _ (lt_of_block G2.out)).trans G2.out); simp only [Tx.v] at HF ⊢; have q1 := (Six.of (g6_3 g4 (.slice xa xs.length xc))).2.1; have q2 := (Six.of (g6_4 (g6_3 g4 (.slice xa xs.length xc)) (.bool (isIn nn.p.ks ks)))).2.1; have q3 := (Six.of (g6_4 g4 (.bool (isIn nn.p.ks ks)))).2.1; clear hs ho hi hb hb4 g4; generalize xs.length = xl at *)
   | fail)
  go_wp2_with fail
  go_ret
  exact ⟨by simp [hid], HF.out⟩
theorem GNx.refl (h : GP W P A p kt vt D g) : GNx W P A p kt D g W := ⟨vt, D, h, fun _ hx => .inl hx, Upd.refl _ _⟩
set_option maxRecDepth 100000 in
set_option maxHeartbeats 3200000 in
theorem gstep_any (h : GP W P A p kt vt D g) (hp : PX W A F s) (han : g.m.an < 4611686018427387904) (hmo : g.m.mo < 4611686018427387904) : Calls Tryz.prog 18 #[.pointer (some ⟨P, 0, none⟩)] W fun e w' => e = .returned (.tuple #[.bool (g.step s).thr, .bool (g.took s)]) ∧ GNx W P A p kt D (g.step s) w' := by
 obtain ⟨k, n0, Dm, hpm, hD⟩ := h.pm
 have HST := hide (step_any hpm hp han hmo)
 unfold SpP at HST
 have HDE : Hid (∀ w1, MNx W p A k Dm (g.m.step s) w1 → GNx W P A p kt D ⟨g.m.step s, g.thr, g.val, g.the, g.err⟩ w1) := fun w1 hn => h.desc hD hn (MS.step_key _ _)
 have HT0 : Hid (∀ w', w'.heap[P]? = some (.cells (gcel p kt vt ⟨g.m, true, g.val, g.the, 3⟩) 146 (0, 0)) → Upd (fun k => k = P) W w' → GNx W P A p kt D ⟨g.m, true, g.val, g.the, 3⟩ w') := fun w' hc hu => h.turn hc hu rfl h.vs (h.vo.updL hu (fun x e l e' => h.pd (e' ▸ (h.vi x e l).1))) (fun x e l => ⟨.inl (h.vi x e l).1, (h.vi x e l).2⟩) (fun x e l => Nat.lt_of_lt_of_le (h.lt _ (h.vi x e l).1) hu.size)
 have HRF : Hid (GNx W P A p kt D g W) := GNx.refl h
 have HC := hide h.c
 have hks := h.ks
 clear h hpm hD hp han hmo
 unfold gcel at HC HT0
 obtain ⟨x0, x1, x2, x3, x4, x5⟩ := Six.of HC.out
 have fz := fun j => frozen_of HC.out j
 unfold GS.step GS.took
 by_cases hthr : g.thr = true
 ·rw [if_pos hthr, if_pos hthr, hthr]
  rw [hthr] at x2
  clear fz HST HDE HT0
  go_enter Tryz.func18, Tryz.ntmps18
  go_wp2_with fail
  go_ret2
  exact ⟨rfl, HRF.out⟩
 rw [if_neg hthr, if_neg hthr]
 have hthf : g.thr = false := by simpa using hthr
 rw [hthf] at x2
 obtain ⟨ka, kc, ks⟩ := kt
 simp only [Tx.v] at x1 hks
 obtain ⟨lk, hlk⟩ : ∃ x, ks.length = x := ⟨_, rfl⟩
 rw [hlk] at x1
 have HMB : Hid (∀ W', Calls Tryz.prog 66 #[.slice ka lk kc] W' fun e w' => e = .returned (.bool (decide (kOk g.m.key))) ∧ w' = W') := fun W' => by
  have := gmay_any ka lk kc W'
  rw [← hlk, hks] at this
  rw [← hlk, hks]
  exact this
 clear hks hlk
 by_cases hk : kOk g.m.key
 case neg =>
  rw [if_pos hk, if_pos hk]
  rw [decide_eq_false hk] at HMB
  have HF : Hid (GNx W P A p ⟨ka, kc, ks⟩ D ⟨g.m, true, g.val, g.the, 3⟩ ((W.setCell ⟨P, 2, none⟩ (.bool true)).setCell ⟨P, 5, none⟩ (.int .i64 3))) := HT0.out _ (g6_5 (g6_2 HC.out _) _) (updP (updP (Upd.refl _ _) _ _) _ _)
  have hbl := HMB.out W
  have HBL := hide hbl
  clear HST HDE HT0 HRF hbl HMB hk
  go_enter Tryz.func18, Tryz.ntmps18
  go_wp2_with fail
  refine keep HBL.out ?_
  go_wp2_with fail
  go_ret2
  exact ⟨rfl, HF.out⟩
 rw [if_neg (show ¬ ¬ kOk g.m.key from fun hn => hn hk), if_neg (show ¬ ¬ kOk g.m.key from fun hn => hn hk)]
 rw [decide_eq_true hk] at HMB
 have HBL := hide (HMB.out W)
 clear HMB HT0 HRF hk fz
 rw [hthf] at HDE
 by_cases hnx : 5 ≤ (g.m.step s).nx
 case neg =>
  rw [if_pos hnx, if_pos hnx]
  rw [decide_eq_false hnx] at HST
  clear hnx
  go_enter Tryz.func18, Tryz.ntmps18
  go_wp2_with fail
  refine keep HBL.out ?_
  go_wp2_with fail
  refine HST.out.mono ?_
  rintro e w1 ⟨rfl, hn⟩
  have HF := hide (HDE.out w1 hn)
  clear hn
  go_wp2_with fail
  go_ret2
  exact ⟨rfl, HF.out⟩
 rw [if_neg (show ¬ ¬ 5 ≤ (g.m.step s).nx from fun hn => hn hnx), if_neg (show ¬ ¬ 5 ≤ (g.m.step s).nx from fun hn => hn hnx)]
 rw [decide_eq_true hnx] at HST
 have HNX := hide hnx
 clear hnx
 have HRE : Hid ((if (g.m.step s).id = 0 then (⟨g.m.step s, true, g.val, g.the, 101⟩ : GS) else ⟨g.m.step s, true, gVal (g.m.step s).nd g.m.key, isIn (g.m.step s).nd.ks g.m.key, g.err⟩) = GS.look ⟨g.m.step s, true, g.val, g.the, g.err⟩) := by
  show _ = _
  unfold GS.look
  simp only [MS.step_key]
 rw [HRE.out]
 have HTH : Hid ((GS.look ⟨g.m.step s, true, g.val, g.the, g.err⟩).thr = true) := by
  show _ = _
  unfold GS.look
  split <;> rfl
 rw [HTH.out]
 obtain ⟨gg, hgg⟩ : ∃ gg, gg = GS.look ⟨g.m.step s, true, g.val, g.the, g.err⟩ := ⟨_, rfl⟩
 rw [← hgg]
 have HGG := hide hgg
 clear hgg HRE HTH
 go_enter Tryz.func18, Tryz.ntmps18
 go_wp2_with fail
 refine keep HBL.out ?_
 go_wp2_with fail
 refine HST.out.mono ?_
 rintro e w1 ⟨rfl, hn⟩
 obtain ⟨vt1, D1, hg1, hd1, hu1⟩ := HDE.out w1 hn
 have hc1 := hg1.c
 unfold gcel at hc1
 simp only at hc1
 obtain ⟨y0, y1, y2, y3, y4, y5⟩ := Six.of hc1
 have fz := fun j => frozen_of hc1 j
 obtain ⟨vt2, D2, hg2, hd2, hu2⟩ := hg1.turn (g' := ⟨g.m.step s, true, g.val, g.the, g.err⟩) (g6_2 hc1 (.bool true)) (updP (Upd.refl _ _) _ _) rfl hg1.vs (hg1.vo.updL (updP (Upd.refl _ _) _ _) (fun x e l e' => hg1.pd (e' ▸ (hg1.vi x e l).1))) (fun x e l => ⟨.inl (hg1.vi x e l).1, (hg1.vi x e l).2⟩) (fun x e l => Nat.lt_of_lt_of_le (hg1.lt _ (hg1.vi x e l).1) (updP (Upd.refl (fun k => k = P) w1) 2 (.bool true)).size)
 have HLK := hide (glook_any hg2 HNX.out)
 have HFI : Hid (∀ w', GNx (w1.setCell ⟨P, 2, none⟩ (.bool true)) P A p ⟨ka, kc, ks⟩ D2 (GS.look ⟨g.m.step s, true, g.val, g.the, g.err⟩) w' → GNx W P A p ⟨ka, kc, ks⟩ D (GS.look ⟨g.m.step s, true, g.val, g.the, g.err⟩) w') := fun w' hn => GNx.trans hd1 hu1 (GNx.trans hd2 hu2 hn)
 clear hn hg1 hd1 hu1 hc1 hg2 hd2 hu2 HST HDE HBL x0 x1 x2 x3 x4 x5
 go_wp2_with fail
 refine HLK.out.mono ?_
 rintro e w2 ⟨rfl, hn⟩
 have HF := hide (HFI.out w2 hn)
 rw [← HGG.out] at HF
 clear hn
 go_wp2_with fail
 go_ret2
 exact ⟨by simp, HF.out⟩
end
end Go.Proofs.YtealejbfloacpaaGreat
namespace Go.Proofs.YtealejbfloacpaaGreat
open Go.RowKit
set_option maxRecDepth 100000
def GaP (W : World) (g : GS) (e : Ending) (w' : World) : Prop := ∃ v : Tx, e = .returned (.tuple #[v.v, .bool g.the, .int .i64 g.err]) ∧ v.s = g.val ∧ OwnB w' W.heap.size 5 v.v v.s ∧ v.Ok w' ∧ Below W.heap.size W w'
def GNewP (W : World) (A : Nat) (key : List Int) (e : Ending) (w' : World) : Prop := ∃ P p kt vt D, e = .returned (.pointer (some ⟨P, 0, none⟩)) ∧ GP w' P A p kt vt D (GS.new key) ∧ W.heap.size ≤ P ∧ (∀ x, D x → W.heap.size ≤ x) ∧ Below W.heap.size W w'
section
variable {W w' : World} {P A p : Nat} {kt vt : Tx} {D F : Nat → Prop} {g : GS} {s : AS}
set_option maxRecDepth 100000 in
set_option maxHeartbeats 1600000 in
theorem ganswer_any (h : GP W P A p kt vt D g) : Calls Tryz.prog 16 #[.pointer (some ⟨P, 0, none⟩)] W (GaP W g) := by
 have hc := h.c
 have hvo := h.vo
 have hvs := h.vs
 unfold gcel at hc
 clear h
 obtain ⟨va, vc, vs⟩ := vt
 simp only [Tx.v] at hc hvs
 obtain ⟨lv, hlv⟩ : ∃ x, vs.length = x := ⟨_, rfl⟩
 rw [hlv] at hc
 have HCL : Hid (∀ W', Below W.heap.size W W' → Calls Tryz.prog 65 #[.slice va lv vc] W' fun e w' => ∃ v, e = .returned v ∧ OwnB w' W'.heap.size 5 v vs ∧ Below W'.heap.size W' w') := fun W' hb => bclone_any va lv vc vs W' hlv (by have := hvo.z; simp only [hlv] at this; omega) (fun e => by have := hvo.n e; simp only [hlv] at this; exact this) (hvo.below hb).r
 have H8 : Hid (B8 vs ∧ vs.length ≤ 140737488351232) := ⟨hvo.b8, hvo.z⟩
 have HVS := hide hvs
 have HC := hide hc
 have hP := lt_of_block hc
 obtain ⟨x0, x1, x2, x3, x4, x5⟩ := Six.of hc
 obtain ⟨Q, hQ⟩ : ∃ Q, Q = GaP W g := ⟨_, rfl⟩
 have HQ : Hid (∀ e w', GaP W g e w' → Q e w') := fun e w' h => by rw [hQ]; exact h
 rw [← hQ]
 unfold GaP at HQ
 obtain ⟨m, thr, val, the, err⟩ := g
 simp only at x2 x4 x5 HVS HQ
 clear hvo hvs hc hlv hQ x0 x1 x2 hP
 go_enter Tryz.func16, Tryz.ntmps16
 go_wp2_with fail
 go_region_held3 (fun W' => W'.cell? ⟨P, 3, none⟩ = some (.slice va lv vc) ∧ W'.cell? ⟨P, 4, none⟩ = some (.bool the) ∧ W'.cell? ⟨P, 5, none⟩ = some (.int .i64 err)) (go_keep) (first
  | (go_at_call 65; refine (HCL.out _ (below_drew (Below.refl _ _))).mono ?_; rintro e w2 ⟨kv, rfl, ho, hb⟩; obtain ⟨na, nc, rfl, _, _⟩ := ho.slice; have HO := hide ho; have HB : Hid (Below W.heap.size W w2) := (below_drew (Below.refl _ _)).trans hb; obtain ⟨_, _, _, x3, x4, x5⟩ := Six.of ((HB.out.block _ (lt_of_block HC.out)).trans HC.out); clear ho hb)
  | fail)
 go_wp2_with fail
 have ho : OwnB w2 W.heap.size 5 (⟨na, nc, vs⟩ : Tx).v vs := HO.out
 exact HQ.out _ _ ⟨⟨na, nc, vs⟩, rfl, HVS.out, ho, ownB_ok (x := ⟨na, nc, vs⟩) ho H8.out.1 H8.out.2, HB.out⟩
set_option maxRecDepth 100000 in
set_option maxHeartbeats 1600000 in
theorem gnew_any (k : Tx) (hk : k.Ok W) : Calls Tryz.prog 15 #[.pointer (some ⟨A, 0, none⟩), k.v] W (GNewP W A k.s) := by
 have HD := hide (dnew_any (A := A) k 0 hk)
 unfold DNewP at HD
 have HCL : Hid (∀ W', Below W.heap.size W W' → Calls Tryz.prog 65 #[k.v] W' fun e w' => ∃ v, e = .returned v ∧ OwnB w' W'.heap.size 5 v k.s ∧ Below W'.heap.size W' w') := fun W' hb => bclone_any k.a k.s.length k.c k.s W' rfl (by have := hk.z; omega) hk.n (hk.below hb).r
 have H8 : Hid (B8 k.s ∧ k.s.length ≤ 140737488351232) := ⟨hk.b8, hk.z⟩
 clear hk
 obtain ⟨Q, hQ⟩ : ∃ Q, Q = GNewP W A k.s := ⟨_, rfl⟩
 have HQ : Hid (∀ e w', GNewP W A k.s e w' → Q e w') := fun e w' h => by rw [hQ]; exact h
 rw [← hQ]
 clear hQ
 unfold GNewP at HQ
 obtain ⟨xa, xc, xs⟩ := k
 simp only [Tx.v] at HD HCL H8 HQ ⊢
 obtain ⟨lx, hlx⟩ : ∃ x, xs.length = x := ⟨_, rfl⟩
 rw [hlx] at HD HCL ⊢
 have HLX := hide hlx
 clear hlx
 go_enter Tryz.func15, Tryz.ntmps15
 go_wp2_with fail
 refine HD.out.mono ?_
 rintro e w1 ⟨p, k, n, Dm, rfl, hpm, hp1, hD1, hb1⟩
 have HPM := hide hpm
 have HB1 := hide hb1
 have HP1 := hide (And.intro hp1 hD1)
 clear hpm hb1 hp1 hD1 HD
 go_wp2_with fail
 refine (HCL.out w1 HB1.out).mono ?_
 rintro e w2 ⟨kv, rfl, ho, hb2⟩
 obtain ⟨na, nc, rfl, _, _⟩ := ho.slice
 rw [HLX.out] at ho ⊢
 have HO := hide ho
 have HB2 := hide hb2
 clear ho hb2 HCL
 go_wp2_with fail
 have hb : Below W.heap.size W w2 := HB1.out.trans (HB2.out.mono HB1.out.size)
 have ba : Below w2.heap.size w2 (w2.alloc (.cells #[.pointer (some ⟨p, 0, none⟩), .slice na lx nc, .bool false, .slice none 0 0, .bool false, .int .i64 0] 146)) := (Below.refl _ _).alloc (Nat.le_refl _) _
 have ga := heap_alloc_new w2 (.cells #[.pointer (some ⟨p, 0, none⟩), .slice na lx nc, .bool false, .slice none 0 0, .bool false, .int .i64 0] 146)
 have ho : OwnB w2 w1.heap.size 5 (⟨na, nc, xs⟩ : Tx).v xs := by simp only [Tx.v, HLX.out]; exact HO.out
 have hin := ownB_in (x := ⟨na, nc, xs⟩) ho
 have hpl := lt_of_block HPM.out.c
 have hs1 := HB1.out.size
 have hs2 := HB2.out.size
 have hbb := HB2.out.trans (ba.mono HB2.out.size)
 refine HQ.out _ _ ⟨w2.heap.size, p, ⟨na, nc, xs⟩, ⟨none, 0, []⟩, fun x => W.heap.size ≤ x ∧ x < w2.heap.size, rfl, ⟨?_, ⟨k, n, Dm, HPM.out.upd (S := Noth) (Upd.of_below hbb _) (fun _ _ e => e), fun x hx => ⟨HP1.out.2 x hx, Nat.lt_of_lt_of_le (HPM.out.lt x hx) hs2⟩⟩, ⟨HP1.out.1, by omega⟩, (ownB_ok (x := ⟨na, nc, xs⟩) ho H8.out.1 H8.out.2).below ba, rfl, fun x e _ => ⟨⟨by have := (hin x e).1; omega, (hin x e).2⟩, fun e' => by have := (hin x e).1; omega⟩, Tx.nil_ok _, rfl, (fun x e => by cases e), fun h => Nat.lt_irrefl _ h.2, fun x h => Nat.lt_of_lt_of_le h.2 ba.size⟩, by omega, fun x h => h.1, hb.trans (ba.mono hb.size)⟩
 unfold gcel
 simp only [Tx.v, HLX.out]
 exact ga
end
end Go.Proofs.YtealejbfloacpaaGreat
namespace Go.Proofs.YtealejbfloacpaaGreat
open Go.RowKit
set_option maxRecDepth 100000
def ghS : AS := (((AS.new 3).lockS 1 0).bodS 1 [[107]] [[118]] []).unlS 1 true
def ghst : Nat → GS
 | 0 => GS.new [107]
 | i + 1 => (ghst i).step ghS
theorem ghst_facts : (∀ i, i < 4 → (ghst (i + 1)).thr = false ∧ (ghst i).took ghS = false) ∧ (ghst 5).thr = true ∧ (ghst 4).took ghS = true ∧ (ghst 5).val = [118] ∧ (ghst 5).the = true ∧ (ghst 5).err = 0 := by decide +kernel
theorem ghst_cnt : ∀ i, i ≤ 5 → (ghst i).m.an = 0 ∧ (ghst i).m.mo = 0 := by decide +kernel
def GHd (W : World) (P A : Nat) (i : Nat) (F : Nat → Prop) (N : Nat) : Prop := (∃ p kt vt D, GP W P A p kt vt D (ghst i) ∧ ∀ x, x = p ∨ x = P → ¬ F x ∧ N ≤ x) ∧ PX W A F ghS
theorem ghd_step {W : World} {P A N : Nat} {i : Nat} {F : Nat → Prop} (h : GHd W P A i F N) (hi : i < 5) (hN : N ≤ W.heap.size) : Calls Tryz.prog 18 #[.pointer (some ⟨P, 0, none⟩)] W fun e w' => e = .returned (.tuple #[.bool (ghst (i + 1)).thr, .bool ((ghst i).took ghS)]) ∧ GHd w' P A (i + 1) F N ∧ Below N W w' := by
 obtain ⟨⟨p, kt, vt, D, hm, hF⟩, hp⟩ := h
 have hc := ghst_cnt i (by omega)
 refine (gstep_any hm hp (by rw [hc.1]; decide) (by rw [hc.2]; decide)).mono ?_
 rintro e w' ⟨rfl, vt', D', h1, h2, h3⟩
 have hpp := (hF p (.inl rfl)).2
 have hPP := (hF P (.inr rfl)).2
 exact ⟨rfl, ⟨⟨p, kt, vt', D', h1, hF⟩, hp.upd h3 (fun x hx e => e.elim (fun e => (hF x (.inr e)).1 hx) (fun e => (hF x (.inl e)).1 hx))⟩, h3.below hN (fun k hk e => by omega)⟩
theorem tx_c (w : World) (z : Int) (hz : 0 ≤ z ∧ z ≤ 255) : (⟨some ⟨w.heap.size, 0, none⟩, 1, [z]⟩ : Tx).Ok (w.alloc (.cells #[.int .u8 z] 5 (1, 2))) := by
 refine ⟨fun i hi => ?_, (fun e => by cases e), (by simp), fun c hc => ?_, (by simp)⟩
 ·obtain rfl : i = 0 := by simp at hi; omega
  exact ⟨w.heap.size, 0, rfl, by rw [cell_of_row _ _ _ _ _ _ (heap_alloc_new w _)]; rfl⟩
 ·simp only [List.mem_singleton] at hc; omega
theorem tl_c (w : World) (t : Tx) (ht : t.Ok w) : (⟨some ⟨w.heap.size, 0, none⟩, 1, [t]⟩ : TL).Ok (w.alloc (.cells #[t.v] 23)) := by
 refine ⟨fun i hi => ?_, fun x hx => ?_, (fun e => by cases e), (by simp)⟩
 ·obtain rfl : i = 0 := by simp at hi; omega
  exact ⟨w.heap.size, 0, rfl, by rw [cell_of_row _ _ _ _ _ _ (heap_alloc_new w _)]; rfl⟩
 ·rw [List.mem_singleton.1 hx]; exact ht.below ((Below.refl _ _).alloc (Nat.le_refl _) _)
set_option maxRecDepth 100000 in
set_option maxHeartbeats 6400000 in
theorem ghead_any (w : World) : Calls Tryz.prog 9 #[] w fun e w' => e = .returned (.bool true) ∧ Below w.heap.size w w' := by
 have HBG := hide (begun_good 3 w (by decide) (by decide))
 go_enter Tryz.func9, Tryz.ntmps9
 go_wp2_with fail
 refine HBG.out.mono ?_
 rintro e w1 ⟨P0, AX, AY, rfl, hA, hb⟩
 obtain ⟨K, hK⟩ : ∃ K : Nat → Prop, K = fun k => k < w.heap.size ∨ k = P0 := ⟨_, rfl⟩
 rw [← hK] at hA
 have HKW : Hid (∀ k, k < w.heap.size → K k) := fun k hk => by rw [hK]; exact .inl hk
 obtain ⟨c0, c1⟩ := hA.cells
 have HB1 := hide hb
 have HBX : Hid (∀ Y, Upd (fun k => ¬ K k) w1 Y → Below w.heap.size w Y) := fun Y hu => HB1.out.trans (hu.below HB1.out.size (fun k hk e => e (HKW.out k hk)))
 have HLK := hide (hA.X (fun F hp => px_lock hp 1 0 (by decide)))
 generalize (AS.new 3).lockB 1 0 = lb at *
 generalize (AS.new 3).wordE 1 = le at *
 clear hA hb hK HBG HB1 c1
 go_wp2_with fail
 refine HLK.out.mono ?_
 rintro e w2 ⟨rfl, hA2, hu2⟩
 have HA2 := hide hA2
 have HU2 := hide hu2
 obtain ⟨d0, d1⟩ := hA2.cells
 have hP2 : P0 < w2.heap.size := hA2.klt P0 hA2.kp
 -- the body
 obtain ⟨v1, hv1⟩ : ∃ x, x = w2.alloc (.cells #[.int .u8 107] 5 (1, 2)) := ⟨_, rfl⟩
 obtain ⟨v2, hv2⟩ : ∃ x, x = v1.alloc (.cells #[.slice (some ⟨w2.heap.size, 0, none⟩) 1 1] 23) := ⟨_, rfl⟩
 obtain ⟨v3, hv3⟩ : ∃ x, x = v2.alloc (.cells #[.int .u8 118] 5 (1, 2)) := ⟨_, rfl⟩
 obtain ⟨v4, hv4⟩ : ∃ x, x = v3.alloc (.cells #[.slice (some ⟨w2.heap.size + 1 + 1, 0, none⟩) 1 1] 23) := ⟨_, rfl⟩
 have z1 : v1.heap.size = w2.heap.size + 1 := by rw [hv1]; simp
 have z2 : v2.heap.size = w2.heap.size + 1 + 1 := by rw [hv2]; simp; omega
 have z3 : v3.heap.size = w2.heap.size + 1 + 1 + 1 := by rw [hv3]; simp; omega
 have b1 : Below w2.heap.size w2 v1 := by rw [hv1]; exact (Below.refl _ _).alloc (Nat.le_refl _) _
 have b2 : Below v1.heap.size v1 v2 := by rw [hv2]; exact (Below.refl _ _).alloc (Nat.le_refl _) _
 have b3 : Below v2.heap.size v2 v3 := by rw [hv3]; exact (Below.refl _ _).alloc (Nat.le_refl _) _
 have b4 : Below v3.heap.size v3 v4 := by rw [hv4]; exact (Below.refl _ _).alloc (Nat.le_refl _) _
 have k1 : (⟨some ⟨w2.heap.size, 0, none⟩, 1, [107]⟩ : Tx).Ok v1 := by rw [hv1]; exact tx_c w2 107 (by decide)
 have k2 : (⟨some ⟨w2.heap.size + 1, 0, none⟩, 1, [⟨some ⟨w2.heap.size, 0, none⟩, 1, [107]⟩]⟩ : TL).Ok v2 := by
  have := tl_c v1 _ k1
  rw [z1] at this
  rw [hv2]; exact this
 have k3 : (⟨some ⟨w2.heap.size + 1 + 1, 0, none⟩, 1, [118]⟩ : Tx).Ok v3 := by
  have := tx_c v2 118 (by decide)
  rw [z2] at this
  rw [hv3]; exact this
 have k4 : (⟨some ⟨w2.heap.size + 1 + 1 + 1, 0, none⟩, 1, [⟨some ⟨w2.heap.size + 1 + 1, 0, none⟩, 1, [118]⟩]⟩ : TL).Ok v4 := by
  have := tl_c v3 _ k3
  rw [z3] at this
  rw [hv4]; exact this
 have b24 := b2.trans ((b3.trans (b4.mono b3.size)).mono b2.size)
 have b14 := b1.trans (b24.mono b1.size)
 have b34 := b3.trans (b4.mono b3.size)
 have HSB : Hid (Calls Tryz.prog 53 #[.pointer (some ⟨AX, 0, none⟩), .int .i64 1, .agg #[.slice (some ⟨w2.heap.size + 1, 0, none⟩) 1 1, .slice (some ⟨w2.heap.size + 1 + 1 + 1, 0, none⟩) 1 1, .slice none 0 0]] v4 fun e w' => e = .returned (.int .i64 (((AS.new 3).lockS 1 0).unlE 1)) ∧ AW K w' P0 AX AY (((AS.new 3).lockS 1 0).bodS 1 [[107]] [[118]] []) (AS.new 3) ∧ Upd (fun k => ¬ K k) v4 w') :=
  (hA2.below b14).X (fun F hp => px_setB hp 1 ⟨some ⟨w2.heap.size + 1, 0, none⟩, 1, [⟨some ⟨w2.heap.size, 0, none⟩, 1, [107]⟩]⟩ ⟨some ⟨w2.heap.size + 1 + 1 + 1, 0, none⟩, 1, [⟨some ⟨w2.heap.size + 1 + 1, 0, none⟩, 1, [118]⟩]⟩ ⟨none, 0, []⟩ (k2.below b34) k4 (IL.nil_ok _) (by simp) (by simp) (by simp))
 have HV4 : Hid ((((w2.alloc (.cells #[.int .u8 107] 5 (1, 2))).alloc (.cells #[.slice (some ⟨w2.heap.size, 0, none⟩) 1 1] 23)).alloc (.cells #[.int .u8 118] 5 (1, 2))).alloc (.cells #[.slice (some ⟨w2.heap.size + 1 + 1, 0, none⟩) 1 1] 23) = v4) := by show _ = _; rw [hv4, hv3, hv2, hv1]
 have HB14 := hide b14
 have q2 := Lib.run_convert_bytes_const (P := Tryz.prog) w2 23 5 #[.int .u8 107] 1 1 Tryz.underlying23 Tryz.underlying5
 simp only [show (#[Value.int .u8 107] : Array Value).size = 1 from rfl] at q2
 have kc2 := conv2 w2 (.cells #[.int .u8 107] 5 (1, 2)) (.cells #[.slice (some ⟨w2.heap.size, 0, none⟩) 1 1] 23) #[.int .u8 118] 1 1
 simp only [show (#[Value.int .u8 118] : Array Value).size = 1 from rfl] at kc2
 generalize ((AS.new 3).lockS 1 0).unlE 1 = ue at *
 clear hA2 hu2 hv1 hv2 hv3 hv4 z1 z2 z3 b1 b2 b3 b4 k1 k2 k3 k4 b24 b14 b34 c0 HLK
 go_wp2_with fail
 rw [HV4.out]
 refine HSB.out.mono ?_
 rintro e w3 ⟨rfl, hA3, hu3⟩
 have HA3 := hide hA3
 have HU3 : Hid (Upd (fun k => ¬ K k) w1 w3) := (HU2.out.trans (kept_below HB14.out)).trans hu3
 have HUL := hide (hA3.X (fun F hp => px_unlock hp 1 true))
 generalize (((AS.new 3).lockS 1 0).bodS 1 [[107]] [[118]] []).unlE 1 = uf at *
 have c0 := hA3.cells.1
 clear hA3 hu3 d0 d1 q2 kc2 HSB HV4 hP2
 go_wp2_with fail
 refine HUL.out.mono ?_
 rintro e w4 ⟨rfl, hA4, hu4⟩
 have d0 := hA4.cells.1
 have HU4 : Hid (Upd (fun k => ¬ K k) w1 w4) := HU3.out.trans hu4
 have HPX : Hid (∃ F, PX w4 AX F ghS) := hA4.px
 obtain ⟨w5, hw5⟩ : ∃ x, x = w4.alloc (.cells #[.int .u8 107] 5 (1, 2)) := ⟨_, rfl⟩
 have b5 : Below w4.heap.size w4 w5 := by rw [hw5]; exact (Below.refl _ _).alloc (Nat.le_refl _) _
 have HT : (⟨some ⟨w4.heap.size, 0, none⟩, 1, [107]⟩ : Tx).Ok w5 := by rw [hw5]; exact tx_c w4 107 (by decide)
 have HN := hide (gnew_any (A := AX) _ HT)
 simp only [Tx.v, show ([107] : List Int).length = 1 from rfl] at HN
 have q2 := Lib.run_convert_bytes_const (P := Tryz.prog) w4 23 5 #[.int .u8 107] 1 1 Tryz.underlying23 Tryz.underlying5
 simp only [show (#[Value.int .u8 107] : Array Value).size = 1 from rfl] at q2
 have HW5 := hide hw5
 have B5 := hide b5
 have HBW4 := hide (HBX.out w4 HU4.out)
 have hP4 : P0 < w4.heap.size := hA4.klt P0 hA4.kp
 clear hA4 hu4 hw5 b5 HT c0 HUL
 go_wp2_with fail
 rw [← HW5.out]
 refine HN.out.mono ?_
 rintro e w6 ⟨P, p, kt, vt, D, rfl, hm, hP, hD, hb6⟩
 obtain ⟨F, hF⟩ := HPX.out
 have b46 := B5.out.trans (hb6.mono B5.out.size)
 have hz5 := B5.out.size
 have hzw := HBW4.out.size
 have H0 : Hid (GHd w6 P AX 0 F w.heap.size ∧ Below w.heap.size w w6) := by
  refine ⟨⟨⟨p, kt, vt, D, hm, fun x hx => ?_⟩, hF.upd (S := Noth) (Upd.of_below b46 _) (fun _ _ e => e)⟩, HBW4.out.trans (b46.mono HBW4.out.size)⟩
  have hx4 : w4.heap.size ≤ x := by
   rcases hx with rfl | rfl
   ·have := hD x hm.dp; omega
   ·omega
  exact ⟨fun e => by have h1 := hF.lt x e; omega, by omega⟩
 clear hm hP hD hb6 hF b46 hz5 hzw HN HW5 HPX B5 HBW4 hP4 d0 q2 HBX HKW HU2 HU3 HU4 HA2 HA3 HB14
 go_wp2_with fail
 go_loopw [4] (fun q wr => ∃ i : Nat, i ≤ 4 ∧ q = .int .i64 (i : Int) ∧ Hid (GHd wr P AX i F w.heap.size ∧ Below w.heap.size w wr)) (fun q _ => 4 - (intOf q).toNat)
 case atStart => exact ⟨0, Nat.zero_le _, rfl, H0⟩
 case round =>
  clear H0
  obtain ⟨i, hi, rfl, HI⟩ := hrel
  rename World => wr
  by_cases hlt : i < 4
  ·have j1 : (i : Int) < 4 := by omega
   have HS := hide (ghd_step HI.out.1 (by omega) HI.out.2.size)
   obtain ⟨f1, f2⟩ := ghst_facts.1 i hlt
   rw [f1, f2] at HS
   clear f1 f2
   go_wp2_with fail
   refine HS.out.mono ?_
   rintro e w7 ⟨rfl, h1, h2⟩
   have HI2 : Hid (GHd w7 P AX (i + 1) F w.heap.size ∧ Below w.heap.size w w7) := ⟨h1, HI.out.2.trans h2⟩
   clear h1 h2 HS
   go_wp2_with fail
   go_roundw
   case rel => exact ⟨i + 1, by omega, by go_num, HI2⟩
   case measure => simp [intOf]; omega
  ·have j1 : ¬ (i : Int) < 4 := by omega
   obtain rfl : i = 4 := by omega
   have HS := hide (ghd_step HI.out.1 (by omega) HI.out.2.size)
   obtain ⟨_, f1, f2, f3, f4, f5⟩ := ghst_facts
   rw [show (4 : Nat) + 1 = 5 from rfl, f1, f2] at HS
   go_wp2_with fail
   refine HS.out.mono ?_
   rintro e w7 ⟨rfl, h1, h2⟩
   have B7 := hide (HI.out.2.trans h2)
   obtain ⟨⟨p7, kt7, vt7, D7, hm7, _⟩, _⟩ := h1
   have HAN := hide (ganswer_any hm7)
   unfold GaP at HAN
   rw [f4, f5] at HAN
   have HF3 := hide f3
   clear h2 HS HI hm7 f1 f2 f3 f4 f5
   go_wp2_with fail
   refine HAN.out.mono ?_
   rintro e w8 ⟨⟨va, vc, vz⟩, rfl, hvs, _, hvo, hb8⟩
   have hvz : vz = [118] := hvs.trans HF3.out
   subst hvz
   simp only [Tx.v, show ([118] : List Int).length = 1 from rfl]
   have cv : (convert 23 9 (.slice va 1 vc)).run Tryz.prog w8 = .ok (.string (strOfNums [118])) w8 := nconv_row vc rfl hvo.r
   rw [show strOfNums [118] = ⟨#[118]⟩ from by decide +kernel] at cv
   have HB8 := hide (B7.out.trans (hb8.mono B7.out.size))
   clear hvs hvo hb8 HAN HF3
   go_wp2_with fail
   go_ret
   exact ⟨rfl, HB8.out⟩
end Go.Proofs.YtealejbfloacpaaGreat
namespace Go.Proofs.YtealejbfloacpaaGreat
open Go.RowKit
set_option maxRecDepth 100000
def Lk (s : AS) : Int → List Int → Chn → Prop
 | _, _, [] => False
 | id, low, x :: r => x = (id, low) ∧ (((s.n id).ri = 0 ∧ r = []) ∨ ((s.n id).ri ≠ 0 ∧ Lk s (s.n id).ri (s.n id).hi r))
theorem Lk.head {s : AS} {id : Int} {low : List Int} {c : Chn} (h : Lk s id low c) : ∃ r, c = (id, low) :: r := by
 cases c with
 | nil => exact h.elim
 | cons x r => exact ⟨r, by rw [h.1]⟩
theorem chn_lk {s : AS} {ck : NP → Int} {lev : Int} {old : List Int} : ∀ (f : Nat) (id : Int) (low : List Int) (cur ch : Chn), s.chn ck lev old f id low cur = .inr ch → ∃ r, ch = cur ++ r ∧ Lk s id low r
 | 0, _, _, _, _, h => by rw [AS.chn] at h; cases h
 | f + 1, id, low, cur, ch, h => by
  rw [AS.chn] at h
  split at h
  ·cases h
  ·split at h
   ·rename_i h2
    cases h
    exact ⟨[(id, low)], rfl, rfl, .inl ⟨h2, rfl⟩⟩
   ·rename_i h2
    obtain ⟨r, rfl, hr⟩ := chn_lk f _ _ _ _ h
    exact ⟨(id, low) :: r, by simp, rfl, .inr ⟨h2, hr⟩⟩
theorem wchn_ok {s : AS} {ck : NP → Int} {lev : Int} {old : List Int} : ∀ (f : Nat) (id : Int) (low : List Int) (cur ch : Chn), s.chn ck lev old f id low cur = .inr ch → Met s (old ++ cur.map (·.1)) → ChnOk s ck lev cur → Met s (old ++ ch.map (·.1)) ∧ ChnOk s ck lev ch
 | 0, _, _, _, _, h, _, _ => by rw [AS.chn] at h; cases h
 | f + 1, id, low, cur, ch, h, hm, hc => by
  rw [AS.chn] at h
  split at h
  ·cases h
  ·rename_i he
   have he' : s.metE ck lev low (old ++ cur.map (·.1)) id = 0 := Decidable.not_not.1 he
   have hm' : Met s (old ++ (cur ++ [(id, low)]).map (·.1)) := by
    have := hm.add he'
    rw [List.map_append, ← List.append_assoc]
    exact this
   split at h
   ·cases h
    exact ⟨hm', hc.add he'⟩
   ·exact wchn_ok f _ _ _ _ h hm' (hc.add he')
theorem Lk.suf {s : AS} : ∀ (c : Chn) (id : Int) (low : List Int), Lk s id low c → ∀ x ∈ c, ∃ a r, c = a ++ r ∧ Lk s x.1 x.2 r
 | [], _, _, h, _, _ => h.elim
 | y :: c, id, low, h, x, hx => by
  obtain ⟨rfl, h2⟩ := h
  rcases List.mem_cons.1 hx with rfl | hx
  ·exact ⟨[], (id, low) :: c, rfl, rfl, h2⟩
  ·rcases h2 with ⟨_, rfl⟩ | ⟨_, h3⟩
   ·cases hx
   ·obtain ⟨a, r, rfl, hr⟩ := Lk.suf c _ _ h3 x hx
    exact ⟨(id, low) :: a, r, rfl, hr⟩
def Lv (s : AS) (ck : NP → Int) : Int → Int → Chn → List Chn → Prop
 | _, _, _, [] => False
 | lev, id, up, c :: r => Lk s id [] c ∧ ChnOk s ck lev c ∧ (∀ x ∈ up, s.kidsOk c x) ∧ ((lev = 0 ∧ r = []) ∨ (lev ≠ 0 ∧ Lv s ck (lev - 1) (s.first c) c r))
theorem wstray_none {s : AS} {up down : Chn} (h : s.stray up down = none) : ∀ x ∈ up, s.kidsOk down x := by
 unfold AS.stray at h
 rw [Option.map_eq_none_iff, List.find?_eq_none] at h
 intro x hx
 have := h x hx
 simpa using this
theorem lvs_lv {s : AS} {ck : NP → Int} : ∀ (f : Nat) (lev id : Int) (outs ls : List Chn), s.lvs ck f lev id outs = .inr ls → Met s (idsOf outs) → ∃ r, ls = outs ++ r ∧ Lv s ck lev id (outs.getLastD []) r ∧ Met s (idsOf ls)
 | 0, _, _, _, _, h, _ => by rw [AS.lvs] at h; cases h
 | f + 1, lev, id, outs, ls, h, hm => by
  rw [AS.lvs] at h
  split at h
  ·cases h
  ·rename_i cur hc
   obtain ⟨r0, e0, hk⟩ := chn_lk _ _ _ _ _ hc
   rw [List.nil_append] at e0
   subst e0
   obtain ⟨hm1, hco⟩ := wchn_ok _ _ _ _ _ hc (by rw [List.map_nil, List.append_nil]; exact hm) (ChnOk.nil _ _ _)
   rw [← ids_snoc] at hm1
   split at h
   ·cases h
   ·rename_i hs
    have hs' := wstray_none hs
    split at h
    ·rename_i h0
     cases h
     exact ⟨[cur], rfl, ⟨hk, hco, hs', .inl ⟨h0, rfl⟩⟩, hm1⟩
    ·rename_i h0
     obtain ⟨r, rfl, hr, hm2⟩ := lvs_lv f _ _ _ _ h hm1
     refine ⟨cur :: r, by simp, ⟨hk, hco, hs', .inr ⟨h0, ?_⟩⟩, hm2⟩
     have e : (outs ++ [cur]).getLastD [] = cur := by simp [List.getLastD_eq_getLast?]
     rw [e] at hr
     exact hr
theorem Lv.len {s : AS} {ck : NP → Int} : ∀ (ls : List Chn) (lev id : Int) (up : Chn), Lv s ck lev id up ls → (ls.length : Int) = lev + 1
 | [], _, _, _, h => h.elim
 | c :: r, lev, id, up, h => by
  obtain ⟨_, _, _, h4⟩ := h
  rcases h4 with ⟨rfl, rfl⟩ | ⟨_, h5⟩
  ·rfl
  ·have := Lv.len r _ _ _ h5
   rw [List.length_cons]; omega
structure Snd (s : AS) (nd lf inn fl bk : Int) (ls : List Chn) : Prop where
 cfg : cfgOk nd lf inn fl bk
 ev : ∀ id, s.inn id → s.w id % 2 = 0
 lv : Lv s (fun p => nchkE p nd lf inn fl bk) (s.rd s.root).lv s.root [] ls
 met : Met s (idsOf ls)
theorem held_even {s : AS} (h : s.held = []) : ∀ id, s.inn id → s.w id % 2 = 0 := by
 intro id hi
 unfold AS.held heldL heldN at h
 rw [List.map_eq_nil_iff, List.filter_eq_nil_iff] at h
 unfold AS.inn at hi
 have h1 := h (id - 1).toNat (by rw [List.mem_range, List.length_map]; omega)
 have e : ((s.sl.map (·.1)).getD (id - 1).toNat 0) = s.w id := by
  unfold AS.w
  generalize (id - 1).toNat = i
  rw [List.getD_eq_getElem?_getD, List.getD_eq_getElem?_getD, List.getElem?_map]
  cases s.sl[i]? <;> rfl
 rw [e] at h1
 simp only [decide_eq_true_eq] at h1
 omega
theorem look_snd {s : AS} {nd lf inn fl bk : Int} {ls : List Chn} (h : s.look nd lf inn fl bk = .inr ls) : Snd s nd lf inn fl bk ls := by
 unfold AS.look at h
 split at h
 ·rename_i hc
  split at h
  ·cases h
  ·rename_i hh
   obtain ⟨r, e, h1, h2⟩ := lvs_lv _ _ _ _ _ h (Met.nil s)
   rw [List.nil_append] at e
   subst e
   exact ⟨hc, held_even hh, h1, h2⟩
 ·cases h
theorem nchk_more {p : NP} {nd lf inn fl bk : Int} (h : nchkE p nd lf inn fl bk = 0) : (p.hi.length = 0 ↔ p.ri = 0) ∧ 0 ≤ p.lv ∧ (p.lv ≠ 0 → p.cs.length = p.ks.length + 1) ∧ (p.lv = 0 → p.vs.length = p.ks.length) ∧ KyP p.hi p.ks := by
 unfold nchkE at h
 split at h
 ·split at h
  ·rename_i h2
   obtain ⟨⟨⟨h3, _⟩, h6, _⟩, h4, _, h5⟩ := h2
   refine ⟨h6, h3.1, fun hp => ?_, fun hp => ?_, h4⟩
   ·rw [if_neg hp] at h5
    exact h5.1.2
   ·rw [if_pos hp] at h5
    exact h5.1.2
  ·omega
 ·omega
theorem cntL_at {ks : List (List Int)} {key : List Int} (h : Rs ks) {j : Nat} (hj : cntL ks key = j + 1) : 0 ≤ cmpI key (ks.getD j []) := by
 refine Decidable.byContradiction fun hc => ?_
 have hlt : cmpI key (ks.getD j []) < 0 := by omega
 have hle := cntL_le ks key
 have hjl : j < ks.length := by omega
 have e : cntL ks key = cntL (ks.take j) key + cntL (ks.drop j) key := by
  unfold cntL
  rw [← List.countP_append, List.take_append_drop]
 have h0 : cntL (ks.drop j) key = 0 := by
  unfold cntL
  rw [List.countP_eq_zero]
  intro x hx
  simp only [decide_eq_true_eq]
  obtain ⟨i, hi, rfl⟩ := List.getElem_of_mem hx
  rw [List.getElem_drop]
  rw [List.length_drop] at hi
  have hg : ks.getD (j + i) [] = ks[j + i]'(by omega) := by simp [show j + i < ks.length by omega]
  rw [← hg]
  rcases Nat.eq_zero_or_pos i with rfl | hi0
  ·rw [Nat.add_zero]; omega
  ·have := h.far (i - 1) j (by omega)
   rw [show j + (i - 1) + 1 = j + i by omega] at this
   have := cmp_lt_trans hlt this
   omega
 have h1 := cntL_le (ks.take j) key
 rw [List.length_take] at h1
 omega
def cntC (ls : List Chn) : Nat := (idsOf ls).length
theorem cntC_cons (c : Chn) (r : List Chn) : cntC (c :: r) = c.length + cntC r := by simp [cntC, idsOf]
theorem Snd.in_ {s : AS} {nd lf inn fl bk : Int} {ls : List Chn} (h : Snd s nd lf inn fl bk ls) : ∀ c ∈ ls, ∀ x ∈ c, s.inn x.1 := fun c hc x hx =>
 h.met.inn _ (List.mem_flatMap.2 ⟨c, hc, List.mem_map.2 ⟨x, hx, rfl⟩⟩)
theorem Snd.cnt {s : AS} {nd lf inn fl bk : Int} {ls : List Chn} (h : Snd s nd lf inn fl bk ls) : cntC ls ≤ s.sl.length := h.met.len
theorem MS.step_cnt (m : MS) (s : AS) : (m.step s).an ≤ m.an + 1 ∧ (m.step s).mo ≤ m.mo + 1 := by
 unfold MS.step MS.valid MS.choose MS.goTo MS.fail
 repeat' split
 all_goals first | omega | (simp only; omega)
end Go.Proofs.YtealejbfloacpaaGreat
namespace Go.Proofs.YtealejbfloacpaaGreat
open Go.RowKit
set_option maxRecDepth 100000
theorem cmp_ge_trans {a b c : List Int} (h1 : 0 ≤ cmpI a b) (h2 : 0 ≤ cmpI b c) : 0 ≤ cmpI a c := by
 have e1 := cmpI_swap a b
 have e2 := cmpI_swap b c
 have e3 := cmpI_swap a c
 have := (cmpI_trans c b a (by omega) (by omega)).1
 omega
theorem cmp_lt_ge {a b c : List Int} (h1 : cmpI a b < 0) (h2 : 0 ≤ cmpI c b) : cmpI a c < 0 := by
 have e1 := cmpI_swap c b
 exact (cmpI_trans a b c (by omega) (by omega)).2 h1
theorem ChnOk.lies {s : AS} {nd lf inn fl bk l : Int} {c : Chn} (h : ChnOk s (fun p => nchkE p nd lf inn fl bk) l c) {x : Int × List Int} (hx : x ∈ c) : liesP x.2 (s.n x.1) :=
 (lies_iff (nchk_more (h.ck x hx)).2.2.2.2).2 (h.ab x hx)
theorem ChnOk.tail {s : AS} {ck : NP → Int} {l : Int} {x : Int × List Int} {c : Chn} (h : ChnOk s ck l (x :: c)) : ChnOk s ck l c :=
 ⟨fun y hy => h.lv y (.tail _ hy), fun y hy => h.ck y (.tail _ hy), fun y hy => h.ab y (.tail _ hy)⟩
theorem Lk.lows {s : AS} {nd lf inn fl bk l : Int} : ∀ (c : Chn) (id : Int) (low : List Int), Lk s id low c → ChnOk s (fun p => nchkE p nd lf inn fl bk) l c → ∀ y ∈ c, 0 ≤ cmpI y.2 low
 | [], _, _, h, _, _, _ => h.elim
 | x :: c, id, low, h, hc, y, hy => by
  obtain ⟨rfl, h2⟩ := h
  rcases List.mem_cons.1 hy with rfl | hy
  ·simp only [cmpI_refl]; decide
  ·rcases h2 with ⟨_, rfl⟩ | ⟨hri, h3⟩
   ·cases hy
   ·have h4 := Lk.lows c _ _ h3 hc.tail y hy
    have h5 := (hc.lies List.mem_cons_self).2
    have h6 := (nchk_more (hc.ck _ List.mem_cons_self)).1
    simp only at h5 h6
    have h7 : 0 < cmpI (s.n id).hi low := by
     rcases h5 with h5 | h5
     ·exact absurd (h6.1 h5) hri
     ·exact h5
    exact cmp_ge_trans h4 (by omega)
theorem Lk.uniq {s : AS} {nd lf inn fl bk l : Int} {key : List Int} : ∀ (c : Chn) (id : Int) (low : List Int), Lk s id low c → ChnOk s (fun p => nchkE p nd lf inn fl bk) l c → ∀ x ∈ c, ∀ y ∈ c, 0 ≤ cmpI key x.2 → beyB (s.n x.1).hi key = false → 0 ≤ cmpI key y.2 → beyB (s.n y.1).hi key = false → x = y
 | [], _, _, h, _, _, _, _, _, _, _, _, _ => h.elim
 | z :: c, id, low, h, hc, x, hx, y, hy, hx1, hx2, hy1, hy2 => by
  have h6 := (nchk_more (hc.ck _ List.mem_cons_self)).1
  obtain ⟨rfl, h2⟩ := h
  simp only at h6
  have far : ∀ q ∈ c, 0 ≤ cmpI key q.2 → beyB (s.n id).hi key = false → False := fun q hq h1 h3 => by
   rcases h2 with ⟨_, rfl⟩ | ⟨hri, h4⟩
   ·cases hq
   ·have h5 := Lk.lows c _ _ h4 hc.tail q hq
    have h7 := cmp_ge_trans h1 h5
    have h8 : 0 < (s.n id).hi.length := Nat.pos_of_ne_zero fun e => hri (h6.1 e)
    unfold beyB at h3
    simp only [h8, h7, decide_true, Bool.and_self] at h3
    cases h3
  rcases List.mem_cons.1 hx with rfl | hx
  ·rcases List.mem_cons.1 hy with rfl | hy
   ·rfl
   ·exact (far y hy hy1 hx2).elim
  ·rcases List.mem_cons.1 hy with rfl | hy
   ·exact (far x hx hx1 hy2).elim
   ·rcases h2 with ⟨_, rfl⟩ | ⟨hri, h4⟩
    ·cases hx
    ·exact Lk.uniq c _ _ h4 hc.tail x hx y hy hx1 hx2 hy1 hy2
theorem ky_mem {hi : List Int} {ks : List (List Int)} (h : KyP hi ks) {k : List Int} (hk : k ∈ ks) : beyB hi k = false := by
 obtain ⟨i, hi', rfl⟩ := List.getElem_of_mem hk
 have := (h i hi').1.2
 simpa [hi'] using this
theorem lies_mem {low : List Int} {p : NP} (h : liesP low p) {k : List Int} (hk : k ∈ p.ks) : 0 ≤ cmpI k low := by
 obtain ⟨i, hi', rfl⟩ := List.getElem_of_mem hk
 have := h.1 i hi'
 simpa [hi'] using this
theorem Lk.rise {s : AS} {nd lf inn fl bk l : Int} : ∀ (c : Chn) (id : Int) (low : List Int), Lk s id low c → ChnOk s (fun p => nchkE p nd lf inn fl bk) l c → ((c.flatMap fun x => (s.n x.1).ks).Pairwise fun a b => cmpI a b < 0) ∧ ∀ k ∈ (c.flatMap fun x => (s.n x.1).ks), 0 ≤ cmpI k low
 | [], _, _, h, _ => h.elim
 | z :: c, id, low, h, hc => by
  have h6 := nchk_more (hc.ck _ List.mem_cons_self)
  have h7 := hc.lies List.mem_cons_self
  obtain ⟨rfl, h2⟩ := h
  simp only at h6 h7
  rw [List.flatMap_cons]
  rcases h2 with ⟨_, rfl⟩ | ⟨hri, h4⟩
  ·rw [List.flatMap_nil, List.append_nil]
   exact ⟨h6.2.2.2.2.rs.pair, fun k hk => lies_mem h7 hk⟩
  ·obtain ⟨r1, r2⟩ := Lk.rise c _ _ h4 hc.tail
   have h8 : 0 < (s.n id).hi.length := Nat.pos_of_ne_zero fun e => hri (h6.1.1 e)
   refine ⟨List.pairwise_append.2 ⟨h6.2.2.2.2.rs.pair, r1, fun a ha b hb => ?_⟩, fun k hk => ?_⟩
   ·have h9 := ky_mem h6.2.2.2.2 ha
    unfold beyB at h9
    simp only [h8, decide_true, Bool.true_and, decide_eq_false_iff_not] at h9
    exact cmp_lt_ge (by omega) (r2 b hb)
   ·rcases List.mem_append.1 hk with hk | hk
    ·exact lies_mem h7 hk
    ·refine cmp_ge_trans (r2 k hk) ?_
     rcases h7.2 with h9 | h9
     ·omega
     ·omega
theorem map_leaves {s : AS} {ck : NP → Int} : ∀ (rest : Chn) (id : Int) (low : List Int) (f : Nat) (met : List Int) (leaf : Bool) (acc : List (List Int × List Int)), Lk s id low rest → ChnOk s ck 0 rest → (∀ x ∈ rest, s.inn x.1) → (met ++ rest.map (·.1)).Nodup → rest.length ≤ f → s.mapF f met leaf id acc = acc ++ rest.flatMap fun x => (s.n x.1).ents
 | [], _, _, _, _, _, _, h, _, _, _, _ => h.elim
 | x :: r, id, low, f, met, leaf, acc, h, hc, hin, hnd, hf => by
  obtain ⟨f, rfl⟩ : ∃ g, f = g + 1 := ⟨f - 1, by rw [List.length_cons] at hf; omega⟩
  obtain ⟨rfl, h2⟩ := h
  have hnm : id ∉ met := fun hm => by
   rw [List.map_cons] at hnd
   exact (List.nodup_append.1 hnd).2.2 id hm id List.mem_cons_self rfl
  have hlv := hc.lv _ List.mem_cons_self
  simp only at hlv
  have hi : s.inn id := hin _ List.mem_cons_self
  rw [mapF_leaf ⟨hi, hnm⟩ (by omega), List.flatMap_cons]
  rcases h2 with ⟨h0, rfl⟩ | ⟨_, h3⟩
  ·rw [h0, List.flatMap_nil, List.append_nil]
   cases f with
   | zero => rfl
   | succ f => exact mapF_stop (fun hh => by have := hh.1.1; omega)
  ·rw [map_leaves r _ _ f (met ++ [id]) true (acc ++ (s.n id).ents) h3 hc.tail (fun y hy => hin y (.tail _ hy)) (by rw [List.append_assoc]; exact hnd) (by rw [List.length_cons] at hf; omega), List.append_assoc]
theorem map_down {s : AS} {nd lf inn fl bk : Int} : ∀ (ls : List Chn) (lev id : Int) (up : Chn) (f : Nat) (met : List Int), Lv s (fun p => nchkE p nd lf inn fl bk) lev id up ls → (∀ c ∈ ls, ∀ x ∈ c, s.inn x.1) → (met ++ idsOf ls).Nodup → cntC ls ≤ f → s.mapF f met false id [] = (ls.getLastD []).flatMap fun x => (s.n x.1).ents
 | [], _, _, _, _, _, h, _, _, _ => h.elim
 | c :: r, lev, id, up, f, met, h, hin, hnd, hf => by
  obtain ⟨g1, g2, _, g4⟩ := h
  have e1 : idsOf (c :: r) = c.map (·.1) ++ idsOf r := by simp [idsOf]
  rw [cntC_cons] at hf
  rw [e1, ← List.append_assoc] at hnd
  rcases g4 with ⟨rfl, rfl⟩ | ⟨h0, h5⟩
  ·rw [map_leaves c _ _ f met false [] g1 g2 (hin c List.mem_cons_self) ((List.nodup_append.1 hnd).1) (by omega)]
   rfl
  ·obtain ⟨q, rfl⟩ := g1.head
   rw [List.length_cons] at hf
   obtain ⟨f, rfl⟩ : ∃ g, f = g + 1 := ⟨f - 1, by omega⟩
   have hi := hin _ List.mem_cons_self _ List.mem_cons_self
   have hnm : id ∉ met := fun hm => by
    have := (List.nodup_append.1 (List.nodup_append.1 hnd).1).2.2 id hm id (by simp)
    exact this rfl
   have hlv := g2.lv _ List.mem_cons_self
   obtain ⟨_, f2, f3, _⟩ := nchk_more (g2.ck _ List.mem_cons_self)
   simp only at hlv f2 f3 hi
   have hcs : (s.n id).cs ≠ [] := fun e => by have := f3 (by omega); rw [e] at this; simp at this
   rw [mapF_down ⟨hi, hnm⟩ (by omega) (fun e => e.elim (fun e => by cases e) hcs)]
   have e2 : (s.n id).cs.getD 0 0 = s.first ((id, []) :: q) := rfl
   rw [e2, map_down r _ _ _ f (met ++ [id]) h5 (fun d hd => hin d (.tail _ hd)) ?_ (by omega)]
   ·cases r with
    | nil => exact h5.elim
    | cons d r => simp [List.getLastD_eq_getLast?]
   ·refine hnd.sublist ?_
    refine List.Sublist.append ?_ (List.Sublist.refl _)
    refine List.Sublist.append (List.Sublist.refl _) ?_
    exact List.Sublist.cons_cons _ (List.nil_sublist _)
theorem map_snd {s : AS} {nd lf inn fl bk : Int} {ls : List Chn} (h : Snd s nd lf inn fl bk ls) : s.map = (ls.getLastD []).flatMap fun x => (s.n x.1).ents :=
 map_down ls _ _ _ _ [] h.lv h.in_ (by rw [List.nil_append]; exact h.met.nd) (by have := h.cnt; omega)
theorem Lv.last {s : AS} {ck : NP → Int} : ∀ (ls : List Chn) (lev id : Int) (up : Chn), Lv s ck lev id up ls → ∃ i, Lk s i [] (ls.getLastD []) ∧ ChnOk s ck 0 (ls.getLastD []) ∧ ls.getLastD [] ∈ ls
 | [], _, _, _, h => h.elim
 | c :: r, lev, id, up, h => by
  obtain ⟨g1, g2, _, g4⟩ := h
  rcases g4 with ⟨rfl, rfl⟩ | ⟨_, h5⟩
  ·exact ⟨id, g1, g2, List.mem_cons_self⟩
  ·obtain ⟨i, h1, h2, h3⟩ := Lv.last r _ _ _ h5
   have e : (c :: r).getLastD [] = r.getLastD [] := by
    cases r with
    | nil => exact h5.elim
    | cons d r => simp [List.getLastD_eq_getLast?]
   rw [e]
   exact ⟨i, h1, h2, List.mem_cons_of_mem _ h3⟩
theorem ents_fst (p : NP) : p.ents.map (·.1) = p.ks := by
 refine List.ext_getElem (by simp [NP.ents]) fun i h1 h2 => ?_
 simp [NP.ents, h2]
theorem map_rise {s : AS} {nd lf inn fl bk : Int} {ls : List Chn} (h : Snd s nd lf inn fl bk ls) : (s.map.map (·.1)).Pairwise fun a b => cmpI a b < 0 := by
 obtain ⟨i, h1, h2, _⟩ := Lv.last _ _ _ _ h.lv
 rw [map_snd h, List.map_flatMap]
 simp only [ents_fst]
 exact (Lk.rise _ _ _ h1 h2).1
def leafHas (p : NP) (key val : List Int) : Bool := isIn p.ks key && (decide (cntB p.ks key < p.vs.length) && decide (p.vs.getD (cntB p.ks key) [] = val))
theorem cntB_at {ks : List (List Int)} (h : Rs ks) {i : Nat} (hi : i < ks.length) : cntB ks (ks.getD i []) = i := by
 have e : cntB ks (ks.getD i []) = cntB (ks.take i) (ks.getD i []) + cntB (ks.drop i) (ks.getD i []) := by
  unfold cntB
  rw [← List.countP_append, List.take_append_drop]
 have h1 : cntB (ks.take i) (ks.getD i []) = (ks.take i).length := cntB_all fun x hx => by
  obtain ⟨j, hj, rfl⟩ := List.getElem_of_mem hx
  rw [List.length_take] at hj
  have := h.far (i - 1 - j) j (by omega)
  rw [show j + (i - 1 - j) + 1 = i by omega] at this
  have hg : ks.getD j [] = ks[j]'(by omega) := by simp [show j < ks.length by omega]
  rw [List.getElem_take, ← hg]
  exact this
 have h2 : cntB (ks.drop i) (ks.getD i []) = 0 := cntB_zero fun x hx => by
  obtain ⟨j, hj, rfl⟩ := List.getElem_of_mem hx
  rw [List.length_drop] at hj
  have hg : ks.getD (i + j) [] = ks[i + j]'(by omega) := by simp [show i + j < ks.length by omega]
  rw [List.getElem_drop, ← hg]
  rcases Nat.eq_zero_or_pos j with rfl | hj0
  ·rw [Nat.add_zero, cmpI_refl]; decide
  ·have := h.far (j - 1) i (by omega)
   rw [show i + (j - 1) + 1 = i + j by omega] at this
   exact cmp_gt this
 rw [e, h1, h2, List.length_take]
 omega
theorem leaf_has {p : NP} (h : Rs p.ks) (hv : p.vs.length = p.ks.length) {x : List Int × List Int} (hx : x ∈ p.ents) : leafHas p x.1 x.2 = true ∧ x.1 ∈ p.ks := by
 unfold NP.ents at hx
 obtain ⟨i, hi, rfl⟩ := List.mem_map.1 hx
 rw [List.mem_range] at hi
 have hg : p.ks.getD i [] = p.ks[i] := by simp [hi]
 have hm : p.ks.getD i [] ∈ p.ks := by rw [hg]; exact List.getElem_mem hi
 refine ⟨?_, hm⟩
 unfold leafHas
 simp only
 rw [cntB_at h hi, isIn_iff.2 hm, decide_eq_true (by omega), decide_eq_true rfl]
 rfl
theorem nchk_sz {p : NP} {nd lf inn fl bk : Int} (h : nchkE p nd lf inn fl bk = 0) : p.ks.length ≤ 64 := by
 unfold nchkE at h
 split at h
 ·rename_i hc
  split at h
  ·rename_i h2
   obtain ⟨_, _, h6, h5⟩ := h2
   unfold OvP at h6
   obtain ⟨_, ⟨_, hl⟩, ⟨_, hi⟩, _⟩ := hc
   by_cases hp : p.lv = 0
   ·rw [if_pos hp] at h6
    omega
   ·rw [if_neg hp] at h6 h5
    have := h5.1.2
    omega
  ·omega
 ·omega
theorem Lv.steps {s : AS} {nd lf inn fl bk : Int} : ∀ (ls : List Chn) (lev id : Int) (up : Chn), Lv s (fun p => nchkE p nd lf inn fl bk) lev id up ls → ∀ c ∈ ls, ∀ x ∈ c, nchkE (s.n x.1) nd lf inn fl bk = 0 ∧ ((s.n x.1).ri = 0 ∨ ∃ y ∈ c, y.1 = (s.n x.1).ri) ∧ (¬ (s.n x.1).lv ≤ 0 → ∃ d ∈ ls, ∃ y ∈ d, y.1 = (s.n x.1).cs.getD 0 0)
 | [], _, _, _, h => h.elim
 | c :: r, lev, id, up, h => by
  obtain ⟨g1, g2, _, g4⟩ := h
  intro d hd x hx
  rcases List.mem_cons.1 hd with hd | hd
  ·subst hd
   refine ⟨g2.ck x hx, ?_, fun hlv => ?_⟩
   ·obtain ⟨a, r2, e, hk⟩ := Lk.suf d _ _ g1 x hx
    obtain ⟨q, rfl⟩ := hk.head
    rcases hk.2 with h1 | h1
    ·exact .inl h1.1
    ·obtain ⟨q2, e2⟩ := h1.2.head
     exact .inr ⟨((s.n x.1).ri, (s.n x.1).hi), by rw [e, e2]; simp, rfl⟩
   ·rcases g4 with ⟨h0, _⟩ | ⟨h0, h5⟩
    ·have := g2.lv x hx; omega
    ·cases r with
     | nil => exact h5.elim
     | cons d2 r =>
      obtain ⟨_, _, h6, _⟩ := h5
      have h7 := (nchk_more (g2.ck x hx)).2.2.1 (by omega)
      have h8 := h6 x hx 0 (by omega)
      exact ⟨d2, List.mem_cons_of_mem _ List.mem_cons_self, _, h8, rfl⟩
  ·rcases g4 with ⟨_, rfl⟩ | ⟨_, h5⟩
   ·cases hd
   ·obtain ⟨h1, h2, h3⟩ := Lv.steps r _ _ _ h5 d hd x hx
    exact ⟨h1, h2, fun hlv => by
     obtain ⟨d2, hd2, y, hy, e⟩ := h3 hlv
     exact ⟨d2, List.mem_cons_of_mem _ hd2, y, hy, e⟩⟩
def onL (ls : List Chn) (id : Int) : Prop := id = 0 ∨ ∃ c ∈ ls, ∃ x ∈ c, x.1 = id
theorem snd_on {s : AS} {nd lf inn fl bk : Int} {ls : List Chn} (h : Snd s nd lf inn fl bk ls) : onL ls s.root ∧ (∀ id, onL ls id → s.inn id → (s.n id).lv ≤ 0 → onL ls (s.n id).ri) ∧ (∀ id, onL ls id → s.inn id → ¬ (s.n id).lv ≤ 0 → onL ls ((s.n id).cs.getD 0 0)) ∧ (∀ id, onL ls id → s.inn id → (s.n id).ks.length ≤ 1048576) := by
 have hst := Lv.steps ls _ _ _ h.lv
 refine ⟨?_, ?_, ?_, ?_⟩
 ·have hl := h.lv
  cases ls with
  | nil => exact hl.elim
  | cons c r =>
   obtain ⟨q, hq⟩ := hl.1.head
   exact .inr ⟨c, List.mem_cons_self, (s.root, []), by rw [hq]; simp, rfl⟩
 ·rintro id (rfl | ⟨c, hc, x, hx, rfl⟩) hin _
  ·exact absurd hin.1 (by decide)
  ·rcases (hst c hc x hx).2.1 with h1 | ⟨y, hy, e⟩
   ·exact .inl h1
   ·exact .inr ⟨c, hc, y, hy, e⟩
 ·rintro id (rfl | ⟨c, hc, x, hx, rfl⟩) hin hlv
  ·exact absurd hin.1 (by decide)
  ·obtain ⟨d, hd, y, hy, e⟩ := (hst c hc x hx).2.2 hlv
   exact .inr ⟨d, hd, y, hy, e⟩
 ·rintro id (rfl | ⟨c, hc, x, hx, rfl⟩) hin
  ·exact absurd hin.1 (by decide)
  ·have := nchk_sz (hst c hc x hx).1
   omega
end Go.Proofs.YtealejbfloacpaaGreat
namespace Go.Proofs.YtealejbfloacpaaGreat
open Go.RowKit
set_option maxRecDepth 100000
def mapV (L : List (List Int × List Int)) (key : List Int) : Option (List Int) := (L.find? fun e => decide (e.1 = key)).map (·.2)
theorem fst_one {L : List (List Int × List Int)} (h : (L.map (·.1)).Pairwise fun a b => cmpI a b < 0) : ∀ e ∈ L, ∀ f ∈ L, e.1 = f.1 → e = f := by
 induction L with
 | nil => intro e he; cases he
 | cons a r ih =>
  rw [List.map_cons, List.pairwise_cons] at h
  intro e he f hf hef
  rcases List.mem_cons.1 he with h1 | h1
  ·rcases List.mem_cons.1 hf with h2 | h2
   ·rw [h1, h2]
   ·rw [h1] at hef
    exact absurd hef (cmp_ne (h.1 _ (List.mem_map.2 ⟨f, h2, rfl⟩)))
  ·rcases List.mem_cons.1 hf with h2 | h2
   ·rw [h2] at hef
    exact absurd hef.symm (cmp_ne (h.1 _ (List.mem_map.2 ⟨e, h1, rfl⟩)))
   ·exact ih h.2 e h1 f h2 hef
theorem map_val {s : AS} {nd lf inn fl bk : Int} {ls : List Chn} (h : Snd s nd lf inn fl bk ls) {key : List Int} {x : Int × List Int} (hx : x ∈ ls.getLastD []) (h1 : beyB (s.n x.1).hi key = false) (h2 : 0 ≤ cmpI key x.2) : mapV s.map key = if isIn (s.n x.1).ks key = true then some (gVal (s.n x.1) key) else none := by
 obtain ⟨i, q1, q2, _⟩ := Lv.last _ _ _ _ h.lv
 unfold mapV
 by_cases hi : isIn (s.n x.1).ks key = true
 ·rw [if_pos hi]
  have hm := isIn_iff.1 hi
  have hlt : (s.n x.1).ks.idxOf key < (s.n x.1).ks.length := List.idxOf_lt_length_iff.2 hm
  have hent : (key, gVal (s.n x.1) key) ∈ s.map := by
   rw [map_snd h]
   refine List.mem_flatMap.2 ⟨x, hx, List.mem_map.2 ⟨(s.n x.1).ks.idxOf key, List.mem_range.2 hlt, ?_⟩⟩
   unfold gVal
   rw [if_pos hi]
   have : (s.n x.1).ks.getD ((s.n x.1).ks.idxOf key) [] = key := by
    rw [List.getD_eq_getElem?_getD, List.getElem?_eq_getElem hlt]
    exact List.getElem_idxOf hlt
   rw [this]
  cases hf : s.map.find? (fun e => decide (e.1 = key)) with
  | none =>
   have := List.find?_eq_none.1 hf _ hent
   simp at this
  | some e =>
   have he := List.find?_some hf
   have hem := List.mem_of_find?_eq_some hf
   simp only [decide_eq_true_eq] at he
   rw [fst_one (map_rise h) e hem _ hent he]
   rfl
 ·rw [if_neg hi]
  have hn : s.map.find? (fun e => decide (e.1 = key)) = none := by
   rw [List.find?_eq_none]
   intro e he
   simp only [decide_eq_true_eq]
   rintro rfl
   rw [map_snd h] at he
   obtain ⟨y, hy, hey⟩ := List.mem_flatMap.1 he
   have hyc := nchk_more (q2.ck y hy)
   obtain ⟨_, hk⟩ := leaf_has hyc.2.2.2.2.rs (hyc.2.2.2.1 (q2.lv y hy)) hey
   have e1 := Lk.uniq _ _ _ q1 q2 x hx y hy h2 h1 (lies_mem (q2.lies hy) hk) (ky_mem hyc.2.2.2.2 hk)
   exact hi (isIn_iff.2 (by rw [e1]; exact hk))
  rw [hn]
  rfl
end Go.Proofs.YtealejbfloacpaaGreat
