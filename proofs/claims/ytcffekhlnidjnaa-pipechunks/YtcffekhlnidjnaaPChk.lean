/- PipeChunks: a round of its loop. -/
import Derived.Test.YtcffekhlnidjnaaPChkP
import Derived.Test.YtcffekhlnidjnaaPMarks
import Derived.Test.YtcffekhlnidjnaaPCalls
import Derived.Test.YtcffekhlnidjnaaPSame
import Derived.Test.YtcffekhlnidjnaaPLaw
namespace Go.Proofs.Ytcffekhlnidjnaa
open Go.RowKit Go.Shelf
attribute [local go_sem] Oper.semAt_some

set_option maxRecDepth 100000 in
theorem cframe_list (f : Nat → Value) : (#[f 0, f 1, f 2, f 3, f 4, f 5, f 6, f 7, f 8, f 9, f 10, f 11, f 12, f 13, f 14, f 15, f 16, f 17, f 18, f 19, f 20, f 21, f 22, f 23, f 24, f 25, f 26, f 27, f 28, f 29, f 30, f 31, f 32, f 33, f 34, f 35, f 36, f 37, f 38, f 39, f 40, f 41, f 42, f 43, f 44, f 45, f 46, f 47, f 48, f 49, f 50, f 51, f 52, f 53, f 54, f 55, f 56, f 57, f 58, f 59, f 60, f 61, f 62, f 63, f 64, f 65, f 66, f 67, f 68, f 69, f 70, f 71, f 72, f 73, f 74, f 75, f 76, f 77, f 78, f 79, f 80, f 81, f 82, f 83, f 84, f 85, f 86, f 87, f 88, f 89, f 90, f 91, f 92, f 93, f 94, f 95, f 96, f 97, f 98] : Array Value) = ((List.range 99).map f).toArray := rfl
theorem cframe_of (t : Array Value) (hs : t.size = 99) : t = ((List.range 99).map fun i => t.getD i undef).toArray := by
  refine Array.ext (by simp [hs]) (fun i h1 h2 => ?_)
  simp [Array.getD, h1]

/-- What holds between two rounds. -/
structure ChW (w1 X : World) (N : Nat) (zs gs : List Int) (fail : Int) (eager : Bool) (ab : Option Addr) (lb cb : Nat) (ag : Option Addr) (lg cg : Nat) (g r : Nat) (M : Nat → Prop) (i c k : Nat) : Prop where
  src : SrcAt X M zs gs fail eager g c k
  rsr : ∃ M3, RSrcRd zs gs fail eager ab lb cb ag lg cg r N X (c, k) M3
  up : Upd (fun j => N ≤ j) w1 X
  bc : c + 17 * (zs.length - k) ≤ 17 * zs.length + 16 * i
/-- What stays. -/
structure ChF (w w1 : World) (N L0 : Nat) (zs : List Int) (al : Option Addr) (ll : Nat) (lv : List Int) (B6 r : Nat) (M : Nat → Prop) : Prop where
  mN : ∀ j, M j → N ≤ j
  mr : ¬ M r
  hN : N = w1.heap.size
  bel : Below w.heap.size w w1
  row : Row w1 .u8 al lv
  b6 : Boxed w1 B6 4 (.bool false)
  b6w : w.heap.size ≤ B6
  len : lv.length = ll
  l8 : B8 lv
  lm : ll ≤ 140737488351232
  zm : zs.length ≤ 140737488351232
  z8 : B8 zs
  ml : ∀ j, M j → j < L0
  rl : r < L0
  wl : w.heap.size ≤ L0

def CAt (_w w1 : World) (N L0 : Nat) (zs gs : List Int) (fail : Int) (eager : Bool) (size : Int) (ab : Option Addr) (lb cb : Nat) (ag : Option Addr) (lg cg : Nat) (al : Option Addr) (ll cl g r B6 : Nat) (M : Nat → Prop) (i : Nat) (act : Act) (X : World) : Prop :=
  ∃ (f : Nat → Value) (ds : List Deferred) (c k : Nat), act = { tmps := #[f 0, .int .i64 size, .slice al ll cl, f 3, f 4, f 5, .pointer (some ⟨B6, 0, none⟩), f 7, .pointer (some ⟨g, 0, none⟩), .pointer (some ⟨r, 0, none⟩), .int .i64 (i : Int), f 11, f 12, f 13, f 14, f 15, f 16, f 17, f 18, f 19, f 20, f 21, f 22, f 23, f 24, f 25, f 26, f 27, f 28, f 29, f 30, f 31, f 32, f 33, f 34, f 35, f 36, f 37, f 38, f 39, f 40, f 41, f 42, f 43, f 44, f 45, f 46, f 47, f 48, f 49, f 50, f 51, f 52, f 53, f 54, f 55, f 56, f 57, f 58, f 59, f 60, f 61, f 62, f 63, f 64, f 65, f 66, f 67, f 68, f 69, f 70, f 71, f 72, f 73, f 74, f 75, f 76, f 77, f 78, f 79, f 80, f 81, f 82, f 83, f 84, f 85, f 86, f 87, f 88, f 89, f 90, f 91, f 92, f 93, f 94, f 95, f 96, f 97, f 98], defers := ds } ∧ ChW w1 X N zs gs fail eager ab lb cb ag lg cg g r M i c k ∧ L0 ≤ X.heap.size ∧ Marks L0 ds X
def CEnd (_w w1 : World) (N L0 : Nat) (size : Int) (al : Option Addr) (ll cl g r B6 : Nat) (act : Act) (X : World) : Prop :=
  ∃ (f : Nat → Value) (ds : List Deferred), act = { tmps := #[f 0, .int .i64 size, .slice al ll cl, f 3, f 4, f 5, .pointer (some ⟨B6, 0, none⟩), f 7, .pointer (some ⟨g, 0, none⟩), .pointer (some ⟨r, 0, none⟩), f 10, f 11, f 12, f 13, f 14, f 15, f 16, f 17, f 18, f 19, f 20, f 21, f 22, f 23, f 24, f 25, f 26, f 27, f 28, f 29, f 30, f 31, f 32, f 33, f 34, f 35, f 36, f 37, f 38, f 39, f 40, f 41, f 42, f 43, f 44, f 45, f 46, f 47, f 48, f 49, f 50, f 51, f 52, f 53, f 54, f 55, f 56, f 57, f 58, f 59, f 60, f 61, f 62, f 63, f 64, f 65, f 66, f 67, f 68, f 69, f 70, f 71, f 72, f 73, f 74, f 75, f 76, f 77, f 78, f 79, f 80, f 81, f 82, f 83, f 84, f 85, f 86, f 87, f 88, f 89, f 90, f 91, f 92, f 93, f 94, f 95, f 96, f 97, f 98], defers := ds } ∧ Upd (fun j => N ≤ j) w1 X ∧ Marks L0 ds X
theorem CAt.mk {w w1 : World} {N L0 : Nat} {zs gs : List Int} {fail : Int} {eager : Bool} {size : Int} {ab : Option Addr} {lb cb : Nat} {ag : Option Addr} {lg cg : Nat} {al : Option Addr} {ll cl g r B6 : Nat} {M : Nat → Prop} {i : Nat} {t : Array Value} {ds : List Deferred} {X : World} {c k : Nat} (hs : t.size = 99)
    (h1 : t[1]? = some (.int .i64 size)) (h2 : t[2]? = some (.slice al ll cl)) (h6 : t[6]? = some (.pointer (some ⟨B6, 0, none⟩))) (h8 : t[8]? = some (.pointer (some ⟨g, 0, none⟩))) (h9 : t[9]? = some (.pointer (some ⟨r, 0, none⟩))) (h10 : t[10]? = some (.int .i64 (i : Int)))
    (hw : ChW w1 X N zs gs fail eager ab lb cb ag lg cg g r M i c k) (hL : L0 ≤ X.heap.size) (hm : Marks L0 ds X) : CAt w w1 N L0 zs gs fail eager size ab lb cb ag lg cg al ll cl g r B6 M i { tmps := t, defers := ds } X := by
  refine ⟨fun i => t.getD i undef, ds, c, k, ?_, hw, hL, hm⟩
  rw [Act.mk.injEq]
  refine ⟨(cframe_of t hs).trans ((cframe_list fun i => t.getD i undef).symm.trans ?_), rfl⟩
  rw [getD_of h1, getD_of h2, getD_of h6, getD_of h8, getD_of h9, getD_of h10]
theorem CEnd.mk {w w1 : World} {N L0 : Nat} {size : Int} {al : Option Addr} {ll cl g r B6 : Nat} {t : Array Value} {ds : List Deferred} {X : World} (hs : t.size = 99)
    (h1 : t[1]? = some (.int .i64 size)) (h2 : t[2]? = some (.slice al ll cl)) (h6 : t[6]? = some (.pointer (some ⟨B6, 0, none⟩))) (h8 : t[8]? = some (.pointer (some ⟨g, 0, none⟩))) (h9 : t[9]? = some (.pointer (some ⟨r, 0, none⟩)))
    (hu : Upd (fun j => N ≤ j) w1 X) (hm : Marks L0 ds X) : CEnd w w1 N L0 size al ll cl g r B6 { tmps := t, defers := ds } X := by
  refine ⟨fun i => t.getD i undef, ds, ?_, hu, hm⟩
  rw [Act.mk.injEq]
  refine ⟨(cframe_of t hs).trans ((cframe_list fun i => t.getD i undef).symm.trans ?_), rfl⟩
  rw [getD_of h1, getD_of h2, getD_of h6, getD_of h8, getD_of h9]

/-- Scratch is let go. -/
theorem chk_frame {c : Code} {F : Fence} {n : Nat} {P : Program} {Q : Exit → Act → World → Prop} {ds : List Deferred} {W : World} {t : Array Value} {size : Int} {al : Option Addr} {ll cl g r B6 B11 B12 B13 : Nat} {i : Nat} {v : Value} (hs : t.size = 99)
    (h1 : t[1]? = some (.int .i64 size)) (h2 : t[2]? = some (.slice al ll cl)) (h6 : t[6]? = some (.pointer (some ⟨B6, 0, none⟩))) (h8 : t[8]? = some (.pointer (some ⟨g, 0, none⟩))) (h9 : t[9]? = some (.pointer (some ⟨r, 0, none⟩))) (h10 : t[10]? = some (.int .i64 (i : Int))) (h11 : t[11]? = some (.pointer (some ⟨B11, 0, none⟩))) (h12 : t[12]? = some (.pointer (some ⟨B12, 0, none⟩))) (h13 : t[13]? = some (.pointer (some ⟨B13, 0, none⟩))) (h53 : t[53]? = some v)
    (h : ∀ f : Nat → Value, c.wpIn F n P Q { tmps := #[f 0, .int .i64 size, .slice al ll cl, f 3, f 4, f 5, .pointer (some ⟨B6, 0, none⟩), f 7, .pointer (some ⟨g, 0, none⟩), .pointer (some ⟨r, 0, none⟩), .int .i64 (i : Int), .pointer (some ⟨B11, 0, none⟩), .pointer (some ⟨B12, 0, none⟩), .pointer (some ⟨B13, 0, none⟩), f 14, f 15, f 16, f 17, f 18, f 19, f 20, f 21, f 22, f 23, f 24, f 25, f 26, f 27, f 28, f 29, f 30, f 31, f 32, f 33, f 34, f 35, f 36, f 37, f 38, f 39, f 40, f 41, f 42, f 43, f 44, f 45, f 46, f 47, f 48, f 49, f 50, f 51, f 52, v, f 54, f 55, f 56, f 57, f 58, f 59, f 60, f 61, f 62, f 63, f 64, f 65, f 66, f 67, f 68, f 69, f 70, f 71, f 72, f 73, f 74, f 75, f 76, f 77, f 78, f 79, f 80, f 81, f 82, f 83, f 84, f 85, f 86, f 87, f 88, f 89, f 90, f 91, f 92, f 93, f 94, f 95, f 96, f 97, f 98], defers := ds } W) : c.wpIn F n P Q { tmps := t, defers := ds } W := by
  have e := (cframe_of t hs).trans (cframe_list fun i => t.getD i undef).symm
  rw [getD_of h1, getD_of h2, getD_of h6, getD_of h8, getD_of h9, getD_of h10, getD_of h11, getD_of h12, getD_of h13, getD_of h53] at e
  rw [e]
  exact h (fun i => t.getD i undef)


def rngOf : Code → Code
  | .seq _ (.seq (.block _ (.seq _ (.seq _ (.seq _ (.seq _ (.seq (.seq _ (.block _ r)) _)))))) _) => r
  | c => c

/-- The chunk that has so many ahead of it. -/
theorem cs_at {σ : Type} {Cs : List RC} {all : List (List Int × Int × σ)} {lim : Nat} (h : Cs.map RC.t = two2 (all.take lim)) {pre : List (Ck σ)} {x : Ck σ} {rest : List (List Int × Int × σ)} (ha : all = (pre ++ [x]).map Ck.t ++ rest) (hl : pre.length < lim) :
    ∃ h' : pre.length < Cs.length, Cs[pre.length].b = x.b ∧ Cs[pre.length].e = x.e := by
  have e := congrArg (fun l => l[pre.length]?) h
  have hg : (all.take lim)[pre.length]? = some x.t := by
    rw [List.getElem?_take, if_pos hl, ha, List.map_append, List.append_assoc, List.getElem?_append_right (by simp)]
    simp
  simp only [two2, List.getElem?_map, hg, Option.map_some] at e
  have hlt : pre.length < Cs.length := by
    by_cases h2 : pre.length < Cs.length
    · exact h2
    · rw [List.getElem?_eq_none (by omega)] at e; cases e
  refine ⟨hlt, ?_⟩
  rw [List.getElem?_eq_getElem hlt] at e
  simp only [Option.map_some, Option.some.injEq, RC.t, Ck.t, Prod.mk.injEq] at e
  exact e

set_option maxRecDepth 100000 in
set_option maxHeartbeats 2000000 in
theorem chk_range (n : Nat) (hn : 12 ≤ n) (zs gs : List Int) (fail : Int) (eager : Bool) (size : Int) (al : Option Addr) (ll cl g r B6 : Nat) (M M9 : Nat → Prop) (Cs : List RC) (av : Option Addr) (nC cv : Nat) (N B11 B12 Nw : Nat) (lim : Nat) (hl1 : 1 ≤ lim) (hl2 : lim ≤ 2147483648) (c k i : Nat) (z8 : B8 zs) (zm : zs.length ≤ 140737488351232) (hc : c ≤ 1000000000000000000)
    (Wr : World) (hsz : Wr.heap.size = B12 + 4) (hBN : N ≤ B11) (h11 : B11 < Nw) (h12 : Nw ≤ B12) (hS : SrcAt Wr M zs gs fail eager g c k) (hMN : ∀ j, M j → N ≤ j) (hML : ∀ j, M j → j < B11)
    (b11 : Boxed Wr B11 3 (.int .i64 (lim : Int))) (b12 : Boxed Wr B12 53 (.slice av nC cv)) (b13 : Boxed Wr (B12 + 1) 3 (.int .i64 0)) (c1 : Wr.cell? ⟨B12 + 1 + 1, 0, none⟩ = some (.iface 27 (.pointer (some ⟨g, 0, none⟩)))) (c2 : Wr.cell? ⟨B12 + 1 + 1 + 1, 0, none⟩ = some (.int .i64 size))
    (hnC : nC = Cs.length) (hcl : CLst Nw Wr (.slice av nC cv) Cs M9) (hclt : ∀ i, (Value.slice av nC cv).ownBlock = some i → i < B12) (hclr : ∀ d ∈ Cs, ∀ x, d.ba = some x → 0 < d.b.length → x.block < B12) (hcs : Cs.map RC.t = two2 ((srcAll zs gs fail eager size (c, k)).take lim)) (hc4 : ∀ d ∈ Cs, d.b.length ≤ 4096)
    (K1 : Act → World → Prop) (Q2 : Exit → Act → World → Prop) (f : Nat → Value) (ds : List Deferred)
    (hCONT : ∀ (D : Nat) (s' : Nat × Nat) (Wc : World), s' = endL (c, k) ((srcAll zs gs fail eager size (c, k)).take lim) → Boxed Wc (B12 + 1) 3 (.int .i64 (nC : Int)) → Upd (fun j => M j ∨ j = B12 + 1 ∨ B12 + 4 ≤ j) Wr Wc → SrcAt Wc M zs gs fail eager g s'.1 s'.2 → B12 + 4 ≤ D → Wc.heap[D]? = some (.deferred (some [])) →
      K1 { tmps := #[f 0, .int .i64 size, .slice al ll cl, f 3, f 4, f 5, .pointer (some ⟨B6, 0, none⟩), f 7, .pointer (some ⟨g, 0, none⟩), .pointer (some ⟨r, 0, none⟩), .int .i64 (i : Int), .pointer (some ⟨B11, 0, none⟩), .pointer (some ⟨B12, 0, none⟩), .pointer (some ⟨B12 + 1, 0, none⟩), f 14, f 15, f 16, f 17, f 18, f 19, f 20, f 21, f 22, f 23, f 24, f 25, f 26, f 27, f 28, f 29, f 30, f 31, f 32, f 33, f 34, f 35, f 36, f 37, f 38, f 39, f 40, f 41, f 42, f 43, f 44, f 45, f 46, f 47, f 48, f 49, f 50, f 51, f 52, .func (.func 35) #[] #[.pointer (some ⟨B12 + 1 + 1, 0, none⟩), .pointer (some ⟨B12 + 1 + 1 + 1, 0, none⟩)], f 54, f 55, f 56, f 57, f 58, f 59, f 60, f 61, f 62, f 63, f 64, f 65, f 66, f 67, f 68, f 69, f 70, f 71, f 72, f 73, f 74, f 75, f 76, f 77, f 78, f 79, f 80, f 81, f 82, f 83, f 84, f 85, f 86, f 87, f 88, f 89, f 90, f 91, f 92, f 93, f 94, f 95, f 96, f 97, f 98], defers := { target := .collected D, args := #[] } :: ds } Wc) :
    (rngOf (loopOf (firstOf (partOf 4 (Try.f6.body.getD .skip))))).wpIn Fence.wide n Try.prog (Exit.inBlock 2 (Exit.then K1 Q2)) { tmps := #[f 0, .int .i64 size, .slice al ll cl, f 3, f 4, f 5, .pointer (some ⟨B6, 0, none⟩), f 7, .pointer (some ⟨g, 0, none⟩), .pointer (some ⟨r, 0, none⟩), .int .i64 (i : Int), .pointer (some ⟨B11, 0, none⟩), .pointer (some ⟨B12, 0, none⟩), .pointer (some ⟨B12 + 1, 0, none⟩), f 14, f 15, f 16, f 17, f 18, f 19, f 20, f 21, f 22, f 23, f 24, f 25, f 26, f 27, f 28, f 29, f 30, f 31, f 32, f 33, f 34, f 35, f 36, f 37, f 38, f 39, f 40, f 41, f 42, f 43, f 44, f 45, f 46, f 47, f 48, f 49, f 50, f 51, f 52, .func (.func 35) #[] #[.pointer (some ⟨B12 + 1 + 1, 0, none⟩), .pointer (some ⟨B12 + 1 + 1 + 1, 0, none⟩)], f 54, f 55, f 56, f 57, f 58, f 59, f 60, f 61, f 62, f 63, f 64, f 65, f 66, f 67, f 68, f 69, f 70, f 71, f 72, f 73, f 74, f 75, f 76, f 77, f 78, f 79, f 80, f 81, f 82, f 83, f 84, f 85, f 86, f 87, f 88, f 89, f 90, f 91, f 92, f 93, f 94, f 95, f 96, f 97, f 98], defers := ds } Wr := by
  have h1 : 1 ≤ n := by omega
  have HSZ := hide hsz
  have HCL := hide hcl
  have HCS := hide hcs
  have HNC := hide hnC
  have HCONT := hide hCONT
  have HCLT := hide hclt
  have HCLR := hide hclr
  have HC4 := hide hc4
  have HML := hide hML
  have hseq := seqS_any zs gs fail eager size g N M Wr c k (n - 1) (by omega) z8 hS hMN (by omega) (by omega) (B12 + 1 + 1) (B12 + 1 + 1 + 1) c1 c2 (fun e => by have := hML _ e; omega) (fun e => by have := hML _ e; omega)
  have hMlt : ∀ j, M j → j < Wr.heap.size := fun j hj => by have := hML j hj; omega
  have hPlt : ∀ j, CkPr M N (B12 + 1 + 1) (B12 + 1 + 1 + 1) j → j < Wr.heap.size := fun j hj => by
    rcases hj with h | h | h | h
    · omega
    · exact hMlt j h
    · omega
    · omega
  obtain ⟨all, hall⟩ : ∃ all, all = srcAll zs gs fail eager size (c, k) := ⟨_, rfl⟩
  rw [← hall] at hseq HCS HCONT
  have HS := hide hS
  have SRU : Hid (∀ (W W' : World) (s : Nat × Nat) (S : Nat → Prop), SrcRd zs gs fail eager g N M W s M → Upd S W W' → (∀ j, M j → ¬ S j) → SrcRd zs gs fail eager g N M W' s M) := fun W W' s S ⟨q1, q2, q3⟩ hu hs => ⟨q1, q2.upd hu hs, q3⟩
  clear hcl hcs hnC hCONT hclt hclr hS hc4 hsz hall
  conv => arg 4; whnf
  refine wpIn_range_w rfl h1 (gf := 35) (lb := #[.pointer (some ⟨B12 + 1 + 1, 0, none⟩), .pointer (some ⟨B12 + 1 + 1 + 1, 0, none⟩)]) rfl trivial (enters_of Try.func35 (by kernel_rfl) rfl) hseq hMlt hPlt (fun _ => rfl) ?hD
    (fun pre W' => (Boxed W' (B12 + 1) 3 (.int .i64 (pre.length : Int)) ∧ pre.length < lim) ∧ Upd (fun j => M j ∨ j = B12 + 1 ∨ B12 + 4 ≤ j) Wr W')
    (fun cd pre W' => (cd = .exit 2 ∧ pre.length = lim ∧ ∃ rest, all = pre.map Ck.t ++ rest) ∧ Boxed W' (B12 + 1) 3 (.int .i64 (pre.length : Int)) ∧ Upd (fun j => M j ∨ j = B12 + 1 ∨ B12 + 4 ≤ j) Wr W' ∧ SrcRd zs gs fail eager g N M W' (endS (c, k) pre) M)
    ?hI ?hIx ⟨⟨b13, hl1⟩, Upd.refl _ _⟩
    (fun x => { tmps := #[f 0, .int .i64 size, .slice al ll cl, f 3, f 4, f 5, .pointer (some ⟨B6, 0, none⟩), f 7, .pointer (some ⟨g, 0, none⟩), .pointer (some ⟨r, 0, none⟩), .int .i64 (i : Int), .pointer (some ⟨B11, 0, none⟩), .pointer (some ⟨B12, 0, none⟩), .pointer (some ⟨B12 + 1, 0, none⟩), x.v, .int .i64 x.e, f 16, f 17, f 18, f 19, f 20, f 21, f 22, f 23, f 24, f 25, f 26, f 27, f 28, f 29, f 30, f 31, f 32, f 33, f 34, f 35, f 36, f 37, f 38, f 39, f 40, f 41, f 42, f 43, f 44, f 45, f 46, f 47, f 48, f 49, f 50, f 51, f 52, .func (.func 35) #[] #[.pointer (some ⟨B12 + 1 + 1, 0, none⟩), .pointer (some ⟨B12 + 1 + 1 + 1, 0, none⟩)], x.v, .int .i64 x.e, f 56, f 57, f 58, f 59, f 60, f 61, f 62, f 63, f 64, f 65, f 66, f 67, f 68, f 69, f 70, f 71, f 72, f 73, f 74, f 75, f 76, f 77, f 78, f 79, f 80, f 81, f 82, f 83, f 84, f 85, f 86, f 87, f 88, f 89, f 90, f 91, f 92, f 93, f 94, f 95, f 96, f 97, f 98], defers := [] }) ?assign ?body ?done ?stop
  case hD =>
    rintro pre x W0 W1 W2 ⟨q1, q2, q3⟩ hu hlt
    have hs := HSZ.out
    refine ⟨q1, q2.upd hu (fun j hj e => ?_), SRU.out _ _ _ _ q3 hu (fun j hj e => ?_)⟩
    · have := (q2.owns.lt j hj).1
      omega
    · have := HML.out j hj
      omega
  case hI =>
    rintro pre A B ⟨⟨q1, q2⟩, q3⟩ hu
    have hs := HSZ.out
    exact ⟨⟨boxed_upd q1 hu (by omega), q2⟩, q3.trans (hu.mono (fun j _ e => .inr (.inr (by omega))))⟩
  case hIx =>
    rintro cd pre A B ⟨q0, q1, q2, q3⟩ hu
    have hs := HSZ.out
    exact ⟨q0, boxed_upd q1 hu (by omega), q2.trans (hu.mono (fun j _ e => .inr (.inr (by omega)))), SRU.out _ _ _ _ q3 hu (fun j hj e => by have := HML.out j hj; omega)⟩
  case assign =>
    intro l x Wa K hK
    simp only [Ck.vs]
    gi_wp2
    exact hK
  case body =>
    rintro l pre ⟨v, b, er, s⟩ W0 W ⟨⟨hk0, hlt0⟩, hu0⟩ hu ⟨⟨rest, hrest⟩, hov, hrd⟩ hlq
    change OwnB W W0.heap.size 5 v b at hov
    change SrcRd zs gs fail eager g N M W s M at hrd
    have hs := HSZ.out
    obtain ⟨hkl, e1, e2⟩ := cs_at HCS.out hrest hlt0
    simp only at e1 e2
    have huW : Upd (fun j => M j ∨ j = B12 + 1 ∨ B12 + 4 ≤ j) Wr W := hu0.trans (hu.mono (fun j _ e => e.elim .inl (fun e => .inr (.inr (by omega)))))
    have hlow : ∀ j, B11 ≤ j → j ≤ B12 → ¬ (M j ∨ j = B12 + 1 ∨ B12 + 4 ≤ j) := fun j q1 q2 e => by
      rcases e with e | e | e
      · have := HML.out j e; omega
      · omega
      · omega
    have k13 := boxed_upd hk0 hu (fun e => e.elim (fun e => by have := HML.out _ e; omega) (fun e => by omega))
    have k11 := boxed_upd b11 huW (hlow _ (by omega) (by omega))
    have k12 := boxed_upd b12 huW (hlow _ (by omega) (by omega))
    have hnCl := HNC.out
    have hown := ownsC_upd HCL.out.own huW (fun j hj => hlow j (by have := (HCL.out.own.lt j hj).1; omega) (by have := HCLT.out j hj; omega))
    obtain ⟨gv, cap, hgv, hd0, hd1⟩ : ∃ gv cap, (Value.slice av nC cv) = .slice (some ⟨gv, 0, none⟩) nC cap ∧ W.cell? ⟨gv, pre.length * 2, none⟩ = some Cs[pre.length].bv ∧ W.cell? ⟨gv, pre.length * 2 + 1, none⟩ = some (.int .i64 Cs[pre.length].e) := by
      rcases hown.2 with ⟨_, q2⟩ | ⟨gv, cap, cur, q1, _⟩
      · omega
      · have hcc := hown.cells (g := gv) (by rw [q1]; rfl)
        have := cellsC_get Cs pre.length hkl
        refine ⟨gv, cap, by rw [q1, hnCl], ?_, ?_⟩
        · have q := hcc _ _ this.1
          rwa [Addr.add_lit, Nat.zero_add] at q
        · have q := hcc _ _ this.2
          rwa [Addr.add_lit, Nat.zero_add] at q
    have hmem : Cs[pre.length] ∈ Cs := List.getElem_mem hkl
    have hrow2 : Row W .u8 Cs[pre.length].ba Cs[pre.length].b := (HCL.out.row _ hmem).upd huW (fun x hx h0 => hlow _ (by have := (HCL.out.loc _ hmem x hx h0).1; omega) (by have := HCLR.out _ hmem x hx h0; omega))
    have hb4 := HC4.out _ hmem
    unfold RC.bv at hd0
    rw [e1] at hd0 hrow2 hb4
    rw [e2] at hd1
    generalize Cs[pre.length].ba = ba at *
    generalize Cs[pre.length].bc = bc at *
    simp only [Value.slice.injEq] at hgv
    obtain ⟨rfl, _, rfl⟩ := hgv
    obtain ⟨ax, cx, rfl, hrow, _, hcap⟩ := hov.slice
    have HSM := hide (sameq ax ba b.length cx bc b W (by unfold maxLen; omega) rfl hrow hrow2)
    have c13 := k13.cell
    have f13 := k13.frozen
    have c12' := k12.cell
    have c11 := k11.cell
    have HK13 := hide k13
    have HK12 := hide k12
    have HK11 := hide k11
    have HOV := hide hov
    have HRD := hide hrd
    have HUW := hide huW
    have HW0 : Hid (B12 + 6 ≤ W0.heap.size) := by show _ ≤ _; omega
    have j1 : (0 : Int) ≤ (pre.length : Int) := by omega
    have j2 : (pre.length : Int) < (nC : Int) := by omega
    have j3 : ¬ (nC : Int) ≤ (pre.length : Int) := by omega
    have HRS : Hid (∃ rest, all = (pre ++ [(⟨.slice ax b.length cx, b, er, s⟩ : Ck (Nat × Nat))]).map Ck.t ++ rest) := ⟨rest, hrest⟩
    have hblk : Hid (∀ j, (Value.slice ax b.length cx).ownBlock = some j → B12 + 6 ≤ j) := fun j hj => by have := (HOV.out.owns.lt j hj).1; have := HW0.out; omega
    have HLT0 := hide hlt0
    have hpl : pre.length ≤ 2147483648 := by omega
    have hgvl : gv < B12 := HCLT.out gv rfl
    have HD1 := hide hd1
    clear hs hkl e1 e2 huW hlow k13 k11 k12 hnCl hown hmem hrow2 hov hrd hrow hcap hrest hu hu0 hk0 hb4 b11 b12 b13 c1 c2 hseq hMlt hPlt hlt0 hd1
    dsimp only
    gi_wp2
    refine ⟨trivial, fun _ => by omega, (CallsIn.inRound l ((callsIn_wide (n := n - 1 - 1 - 1)).2 HSM.out)).mono ?_⟩
    rintro e w2 ⟨rfl, m2, hw2⟩
    have U2 : Hid (Upd Noth W w2) := by rw [hw2]; exact ⟨rfl, rfl, rfl, Nat.le_refl _, fun _ _ _ => rfl⟩
    have HSP := hide (spoil_any (HOV.out.upd U2.out (fun _ _ e => e)))
    clear hw2 HSM
    gi_wp2
    refine ⟨trivial, fun _ => by omega, (CallsIn.inRound l ((callsIn_wide (n := n - 1 - 1 - 1)).2 HSP.out)).mono ?_⟩
    rintro e w3 ⟨rfl, hg3⟩
    have U3 : Hid (Upd (fun j => (Value.slice ax b.length cx).ownBlock = some j) W w3) := U2.out.noth.trans (Upd.of_grown hg3 (fun j hj _ => hj))
    clear hg3 HSP
    have q13 := boxed_upd HK13.out U3.out (fun e => by have := hblk.out _ e; omega)
    have q12 := boxed_upd HK12.out U3.out (fun e => by have := hblk.out _ e; omega)
    have q11 := boxed_upd HK11.out U3.out (fun e => by have := hblk.out _ e; omega)
    have x13 := q13.cell
    have y13 := q13.frozen
    have x12 := q12.cell
    have d1 := U3.out.cell HD1.out (fun e => by have := hblk.out _ e; simp only at this; omega)
    have HFN : Hid (∀ z : Int, z = (pre.length : Int) + 1 → Upd (fun j => ¬ CkPr M N (B12 + 1 + 1) (B12 + 1 + 1 + 1) j ∧ j ≠ Wr.heap.size ∧ j ≠ Wr.heap.size + 1) W (w3.setCell ⟨B12 + 1, 0, none⟩ (.int .i64 z)) ∧ Boxed (w3.setCell ⟨B12 + 1, 0, none⟩ (.int .i64 z)) (B12 + 1) 3 (.int .i64 (((pre ++ [(⟨.slice ax b.length cx, b, er, s⟩ : Ck (Nat × Nat))]).length : Nat) : Int)) ∧ Upd (fun j => M j ∨ j = B12 + 1 ∨ B12 + 4 ≤ j) Wr (w3.setCell ⟨B12 + 1, 0, none⟩ (.int .i64 z)) ∧ SrcRd zs gs fail eager g N M (w3.setCell ⟨B12 + 1, 0, none⟩ (.int .i64 z)) s M) := fun z hz => by
      have hs := HSZ.out
      have hp : ∀ j, B12 + 6 ≤ j ∨ j = B12 + 1 → ¬ CkPr M N (B12 + 1 + 1) (B12 + 1 + 1 + 1) j ∧ j ≠ Wr.heap.size ∧ j ≠ Wr.heap.size + 1 := fun j hj => by
        refine ⟨?_, by omega, by omega⟩
        rintro (e | e | e | e)
        · omega
        · have := HML.out j e; omega
        · omega
        · omega
      have u4 : Upd (fun j => B12 + 6 ≤ j ∨ j = B12 + 1) W (w3.setCell ⟨B12 + 1, 0, none⟩ (.int .i64 z)) := (U3.out.mono (fun j _ e => .inl (hblk.out j e))).setCell _ _ (fun _ => .inr rfl)
      refine ⟨u4.mono (fun j _ e => hp j e), ?_, HUW.out.trans (u4.mono (fun j _ e => e.elim (fun e => .inr (.inr (by omega))) (fun e => .inr (.inl e)))), SRU.out _ _ _ _ HRD.out u4 (fun j hj e => by have := HML.out j hj; omega)⟩
      rw [List.length_append, List.length_singleton, show ((pre.length + 1 : Nat) : Int) = z by omega]
      exact q13.set _
    have z13 := World.cell?_setCell_same w3 ⟨B12 + 1, 0, none⟩ (.int .i64 ((pre.length : Int) + 1)) x13
    have z11 : (w3.setCell ⟨B12 + 1, 0, none⟩ (.int .i64 ((pre.length : Int) + 1))).cell? ⟨B11, 0, none⟩ = some (.int .i64 (lim : Int)) := (World.cell?_setCell_other _ _ _ _ (by intro h; have := congrArg Addr.block h; simp at this; omega)).trans q11.cell
    have HPL : Hid ((pre ++ [(⟨.slice ax b.length cx, b, er, s⟩ : Ck (Nat × Nat))]).length = pre.length + 1) := by show _ = _; rw [List.length_append, List.length_singleton]
    have t78 : (er != er) = false := by simp
    clear q13 q12 q11 c13 f13 c12' c11 hd0
    by_cases hex : pre.length + 1 = lim
    · have t84 : ((pre.length : Int) + 1 == (lim : Int)) = true := by rw [beq_iff_eq]; omega
      have HEX := hide hex
      clear hex
      gi_wp2
      obtain ⟨r1, r2, r3, r4⟩ := HFN.out _ rfl
      refine ⟨r1.mono (fun _ _ e => e.2), ⟨rfl, by rw [HPL.out]; exact HEX.out, HRS.out⟩, r2, r3, ?_⟩
      rw [endS_snoc]
      exact r4
    · have t84 : ((pre.length : Int) + 1 == (lim : Int)) = false := by rw [beq_eq_false_iff_ne]; omega
      have HEX := hide hex
      clear hex
      gi_wp2
      obtain ⟨r1, r2, r3, r4⟩ := HFN.out _ rfl
      exact ⟨r1, ⟨r2, by rw [HPL.out]; have := HLT0.out; have := HEX.out; omega⟩, r3⟩
  case done =>
    rintro D xs W0 Wa Wb rfl ⟨⟨hk, hlt⟩, hu0⟩ hu1 ⟨hxs, hrd⟩ hu2 hlq hDD
    have hs := HSZ.out
    have hall : all.take lim = xs.map Ck.t := by rw [← hxs, List.take_of_length_le (by rw [List.length_map]; omega)]
    have hnl : nC = xs.length := by
      have q := congrArg List.length HCS.out
      rw [hall] at q
      simp only [two2, List.length_map] at q
      rw [HNC.out, q]
    have hend : endL (c, k) (all.take lim) = endS (c, k) xs := by
      rw [hall]
      unfold endL endS
      rw [List.getLast?_map, Option.map_map]
      rfl
    have hrd' := SRU.out _ _ _ _ hrd hu2 (fun j hj e => by have := HML.out j hj; omega)
    refine HCONT.out _ (endS (c, k) xs) Wb hend.symm ?_ ((hu0.trans (hu1.mono (fun j _ e => .inl e))).trans (hu2.mono (fun j _ e => .inr (.inr (by omega))))) hrd'.2.1 (by omega) hDD
    rw [hnl]
    exact boxed_upd (boxed_upd hk hu1 (fun e => by have := HML.out _ e; omega)) hu2 (by omega)
  case stop =>
    rintro D cd pre Wb rfl ⟨⟨rfl, hpl, rest, hrest⟩, hk, hu0, hrd⟩ hDD
    have hs := HSZ.out
    have hall : all.take lim = pre.map Ck.t := by rw [hrest, List.take_left' (by rw [List.length_map]; exact hpl)]
    have hnl : nC = pre.length := by
      have q := congrArg List.length HCS.out
      rw [hall] at q
      simp only [two2, List.length_map] at q
      rw [HNC.out, q]
    have hend : endL (c, k) (all.take lim) = endS (c, k) pre := by
      rw [hall]
      unfold endL endS
      rw [List.getLast?_map, Option.map_map]
      rfl
    refine wpIn_exit (inBlock_exit (HCONT.out _ (endS (c, k) pre) Wb hend.symm ?_ hu0 hrd.2.1 (by omega) hDD))
    rw [hnl]
    exact hk

end Go.Proofs.Ytcffekhlnidjnaa
