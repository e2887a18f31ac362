/- PipeOdd: the range. -/
import Derived.Test.YtcffekhlnidjnaaPOddP
import Derived.Test.YtcffekhlnidjnaaPMarks
import Derived.Test.YtcffekhlnidjnaaPSame
import Derived.Test.YtcffekhlnidjnaaPLaw
namespace Go.Proofs.Ytcffekhlnidjnaa
open Go.RowKit Go.Shelf
attribute [local go_sem] Oper.semAt_some

set_option maxRecDepth 100000 in
theorem oframe_list (f : Nat → Value) : (#[f 0, f 1, f 2, f 3, f 4, f 5, f 6, f 7, f 8, f 9, f 10, f 11, f 12, f 13, f 14, f 15, f 16, f 17, f 18, f 19, f 20, f 21, f 22, f 23, f 24, f 25, f 26, f 27, f 28, f 29, f 30, f 31, f 32, f 33, f 34, f 35, f 36, f 37, f 38, f 39, f 40, f 41, f 42, f 43, f 44, f 45, f 46, f 47, f 48, f 49, f 50, f 51, f 52, f 53, f 54, f 55, f 56, f 57, f 58, f 59, f 60, f 61, f 62, f 63, f 64, f 65, f 66, f 67, f 68, f 69, f 70, f 71, f 72, f 73, f 74, f 75, f 76, f 77, f 78, f 79, f 80, f 81, f 82, f 83, f 84, f 85, f 86, f 87, f 88, f 89, f 90, f 91, f 92, f 93, f 94, f 95, f 96, f 97, f 98, f 99, f 100, f 101, f 102, f 103, f 104, f 105, f 106, f 107, f 108, f 109, f 110, f 111, f 112, f 113, f 114, f 115, f 116, f 117, f 118, f 119, f 120, f 121, f 122, f 123, f 124, f 125, f 126, f 127, f 128, f 129, f 130, f 131, f 132, f 133, f 134, f 135, f 136, f 137, f 138, f 139, f 140, f 141, f 142, f 143, f 144, f 145, f 146, f 147, f 148, f 149, f 150, f 151, f 152, f 153, f 154, f 155, f 156] : Array Value) = ((List.range 157).map f).toArray := rfl
theorem oframe_of (t : Array Value) (hs : t.size = 157) : t = ((List.range 157).map fun i => t.getD i undef).toArray := by
  refine Array.ext (by simp [hs]) (fun i h1 h2 => ?_)
  simp [Array.getD, h1]
/-- Scratch is let go. -/
theorem o_frame {c : Code} {F : Fence} {n : Nat} {P : Program} {Q : Exit → Act → World → Prop} {ds : List Deferred} {W : World} {t : Array Value} {gA B2 g r B12 B13 : Nat} (hs : t.size = 157)
    (h1 : t[1]? = some (.pointer (some ⟨gA, 0, none⟩))) (h2 : t[2]? = some (.pointer (some ⟨B2, 0, none⟩))) (h4 : t[4]? = some (.pointer (some ⟨g, 0, none⟩))) (h5 : t[5]? = some (.pointer (some ⟨r, 0, none⟩))) (h12 : t[12]? = some (.pointer (some ⟨B12, 0, none⟩))) (h13 : t[13]? = some (.pointer (some ⟨B13, 0, none⟩))) (h14 : t[14]? = some (.pointer (some ⟨B13 + 1, 0, none⟩))) (h115 : t[115]? = some (.func (.func 35) #[] #[.pointer (some ⟨B13 + 1 + 1, 0, none⟩), .pointer (some ⟨B13 + 1 + 1 + 1, 0, none⟩)]))
    (h : ∀ f : Nat → Value, c.wpIn F n P Q { tmps := #[f 0, .pointer (some ⟨gA, 0, none⟩), .pointer (some ⟨B2, 0, none⟩), f 3, .pointer (some ⟨g, 0, none⟩), .pointer (some ⟨r, 0, none⟩), f 6, f 7, f 8, f 9, f 10, f 11, .pointer (some ⟨B12, 0, none⟩), .pointer (some ⟨B13, 0, none⟩), .pointer (some ⟨B13 + 1, 0, none⟩), f 15, f 16, f 17, f 18, f 19, f 20, f 21, f 22, f 23, f 24, f 25, f 26, f 27, f 28, f 29, f 30, f 31, f 32, f 33, f 34, f 35, f 36, f 37, f 38, f 39, f 40, f 41, f 42, f 43, f 44, f 45, f 46, f 47, f 48, f 49, f 50, f 51, f 52, f 53, f 54, f 55, f 56, f 57, f 58, f 59, f 60, f 61, f 62, f 63, f 64, f 65, f 66, f 67, f 68, f 69, f 70, f 71, f 72, f 73, f 74, f 75, f 76, f 77, f 78, f 79, f 80, f 81, f 82, f 83, f 84, f 85, f 86, f 87, f 88, f 89, f 90, f 91, f 92, f 93, f 94, f 95, f 96, f 97, f 98, f 99, f 100, f 101, f 102, f 103, f 104, f 105, f 106, f 107, f 108, f 109, f 110, f 111, f 112, f 113, f 114, .func (.func 35) #[] #[.pointer (some ⟨B13 + 1 + 1, 0, none⟩), .pointer (some ⟨B13 + 1 + 1 + 1, 0, none⟩)], f 116, f 117, f 118, f 119, f 120, f 121, f 122, f 123, f 124, f 125, f 126, f 127, f 128, f 129, f 130, f 131, f 132, f 133, f 134, f 135, f 136, f 137, f 138, f 139, f 140, f 141, f 142, f 143, f 144, f 145, f 146, f 147, f 148, f 149, f 150, f 151, f 152, f 153, f 154, f 155, f 156], defers := ds } W) : c.wpIn F n P Q { tmps := t, defers := ds } W := by
  have e := (oframe_of t hs).trans (oframe_list fun i => t.getD i undef).symm
  rw [getD_of h1, getD_of h2, getD_of h4, getD_of h5, getD_of h12, getD_of h13, getD_of h14, getD_of h115] at e
  rw [e]
  exact h (fun i => t.getD i undef)

def orngOf : Code → Code
  | .seq (.seq _ (.block _ r)) _ => r
  | c => c
/-- The chunk that has so many ahead of it. -/
theorem cs_atO {σ : Type} {Cs : List RC} {all : List (List Int × Int × σ)} (h : Cs.map RC.t = two2 all) {pre : List (Ck σ)} {x : Ck σ} {rest : List (List Int × Int × σ)} (ha : all = (pre ++ [x]).map Ck.t ++ rest) :
    ∃ h' : pre.length < Cs.length, Cs[pre.length].b = x.b ∧ Cs[pre.length].e = x.e := by
  have e := congrArg (fun l => l[pre.length]?) h
  have hg : all[pre.length]? = some x.t := by
    rw [ha, List.map_append, List.append_assoc, List.getElem?_append_right (by simp)]
    simp
  simp only [two2, List.getElem?_map, hg, Option.map_some] at e
  have hlt : pre.length < Cs.length := by
    by_cases h2 : pre.length < Cs.length
    · exact h2
    · rw [List.getElem?_eq_none (by omega)] at e; cases e
  refine ⟨hlt, ?_⟩
  rw [List.getElem?_eq_getElem hlt] at e
  simp only [Option.map_some, Option.some.injEq, RC.t, Ck.t, Prod.mk.injEq] at e
  exact e

set_option maxRecDepth 100000 in
set_option maxHeartbeats 3200000 in
theorem o_range (n : Nat) (hn : 12 ≤ n) (ns es : List Int) (an ae : Option Addr) (ln cn le ce : Nat) (size : Int) (gA B2 g r : Nat) (M M9 : Nat → Prop) (Cs : List RC) (av : Option Addr) (nC cv : Nat) (N B12 B13 Nw : Nat) (s0 : OSt) (hln : ns.length = ln) (hle : es.length = le) (hc : s0.c + 17 * (ns.length - s0.c) ≤ 20000000)
    (Wr : World) (hsz : Wr.heap.size = B13 + 4) (hBN : N ≤ B12) (h11 : B12 < Nw) (h12 : Nw ≤ B13) (hS : PRd ns es an ln cn ae le ce g N M Wr s0 M) (hML : ∀ j, M j → j < B12)
    (b12 : Boxed Wr B12 4 (.bool true)) (b13 : Boxed Wr B13 53 (.slice av nC cv)) (b14 : Boxed Wr (B13 + 1) 3 (.int .i64 0)) (c1 : Wr.cell? ⟨B13 + 1 + 1, 0, none⟩ = some (.iface 67 (.pointer (some ⟨g, 0, none⟩)))) (c2 : Wr.cell? ⟨B13 + 1 + 1 + 1, 0, none⟩ = some (.int .i64 size))
    (hnC : nC = Cs.length) (hnm : nC ≤ 2147483648) (hcl : CLst Nw Wr (.slice av nC cv) Cs M9) (hclt : ∀ i, (Value.slice av nC cv).ownBlock = some i → i < B13) (hclr : ∀ d ∈ Cs, ∀ x, d.ba = some x → 0 < d.b.length → x.block < B13) (hcs : Cs.map RC.t = two2 (oAll ns es size s0)) (hc4 : ∀ d ∈ Cs, d.b.length ≤ 4096)
    (K1 : Act → World → Prop) (Q2 : Exit → Act → World → Prop) (f : Nat → Value) (ds : List Deferred)
    (hCONT : ∀ (D : Nat) (s' : OSt) (Wc : World), s' = endL s0 (oAll ns es size s0) → Boxed Wc (B13 + 1) 3 (.int .i64 (nC : Int)) → Upd (fun j => M j ∨ j = B13 + 1 ∨ j = B12 ∨ B13 + 4 ≤ j) Wr Wc → PRd ns es an ln cn ae le ce g N M Wc s' M → B13 + 4 ≤ D → Wc.heap[D]? = some (.deferred (some [])) →
      K1 { tmps := #[f 0, .pointer (some ⟨gA, 0, none⟩), .pointer (some ⟨B2, 0, none⟩), f 3, .pointer (some ⟨g, 0, none⟩), .pointer (some ⟨r, 0, none⟩), f 6, f 7, f 8, f 9, f 10, f 11, .pointer (some ⟨B12, 0, none⟩), .pointer (some ⟨B13, 0, none⟩), .pointer (some ⟨B13 + 1, 0, none⟩), f 15, f 16, f 17, f 18, f 19, f 20, f 21, f 22, f 23, f 24, f 25, f 26, f 27, f 28, f 29, f 30, f 31, f 32, f 33, f 34, f 35, f 36, f 37, f 38, f 39, f 40, f 41, f 42, f 43, f 44, f 45, f 46, f 47, f 48, f 49, f 50, f 51, f 52, f 53, f 54, f 55, f 56, f 57, f 58, f 59, f 60, f 61, f 62, f 63, f 64, f 65, f 66, f 67, f 68, f 69, f 70, f 71, f 72, f 73, f 74, f 75, f 76, f 77, f 78, f 79, f 80, f 81, f 82, f 83, f 84, f 85, f 86, f 87, f 88, f 89, f 90, f 91, f 92, f 93, f 94, f 95, f 96, f 97, f 98, f 99, f 100, f 101, f 102, f 103, f 104, f 105, f 106, f 107, f 108, f 109, f 110, f 111, f 112, f 113, f 114, .func (.func 35) #[] #[.pointer (some ⟨B13 + 1 + 1, 0, none⟩), .pointer (some ⟨B13 + 1 + 1 + 1, 0, none⟩)], f 116, f 117, f 118, f 119, f 120, f 121, f 122, f 123, f 124, f 125, f 126, f 127, f 128, f 129, f 130, f 131, f 132, f 133, f 134, f 135, f 136, f 137, f 138, f 139, f 140, f 141, f 142, f 143, f 144, f 145, f 146, f 147, f 148, f 149, f 150, f 151, f 152, f 153, f 154, f 155, f 156], defers := { target := .collected D, args := #[] } :: ds } Wc) :
    (orngOf (partOf 12 (Try.f8.body.getD .skip))).wpIn Fence.wide n Try.prog (Exit.inBlock 0 (Exit.then K1 Q2)) { tmps := #[f 0, .pointer (some ⟨gA, 0, none⟩), .pointer (some ⟨B2, 0, none⟩), f 3, .pointer (some ⟨g, 0, none⟩), .pointer (some ⟨r, 0, none⟩), f 6, f 7, f 8, f 9, f 10, f 11, .pointer (some ⟨B12, 0, none⟩), .pointer (some ⟨B13, 0, none⟩), .pointer (some ⟨B13 + 1, 0, none⟩), f 15, f 16, f 17, f 18, f 19, f 20, f 21, f 22, f 23, f 24, f 25, f 26, f 27, f 28, f 29, f 30, f 31, f 32, f 33, f 34, f 35, f 36, f 37, f 38, f 39, f 40, f 41, f 42, f 43, f 44, f 45, f 46, f 47, f 48, f 49, f 50, f 51, f 52, f 53, f 54, f 55, f 56, f 57, f 58, f 59, f 60, f 61, f 62, f 63, f 64, f 65, f 66, f 67, f 68, f 69, f 70, f 71, f 72, f 73, f 74, f 75, f 76, f 77, f 78, f 79, f 80, f 81, f 82, f 83, f 84, f 85, f 86, f 87, f 88, f 89, f 90, f 91, f 92, f 93, f 94, f 95, f 96, f 97, f 98, f 99, f 100, f 101, f 102, f 103, f 104, f 105, f 106, f 107, f 108, f 109, f 110, f 111, f 112, f 113, f 114, .func (.func 35) #[] #[.pointer (some ⟨B13 + 1 + 1, 0, none⟩), .pointer (some ⟨B13 + 1 + 1 + 1, 0, none⟩)], f 116, f 117, f 118, f 119, f 120, f 121, f 122, f 123, f 124, f 125, f 126, f 127, f 128, f 129, f 130, f 131, f 132, f 133, f 134, f 135, f 136, f 137, f 138, f 139, f 140, f 141, f 142, f 143, f 144, f 145, f 146, f 147, f 148, f 149, f 150, f 151, f 152, f 153, f 154, f 155, f 156], defers := ds } Wr := by
  have h1 : 1 ≤ n := by omega
  have HSZ := hide hsz
  have HCL := hide hcl
  have HCS := hide hcs
  have HNC := hide hnC
  have HCONT := hide hCONT
  have HCLT := hide hclt
  have HCLR := hide hclr
  have HC4 := hide hc4
  have HML := hide hML
  have hseq := oseq_any size g N M Wr s0 (n - 1) (by omega) hln hle hS (by omega) hc (B13 + 1 + 1) (B13 + 1 + 1 + 1) c1 c2 (fun e => by have := hML _ e; omega) (fun e => by have := hML _ e; omega)
  have hMlt : ∀ j, M j → j < Wr.heap.size := fun j hj => by have := hML j hj; omega
  have hPlt : ∀ j, CkPr M N (B13 + 1 + 1) (B13 + 1 + 1 + 1) j → j < Wr.heap.size := fun j hj => by
    rcases hj with h | h | h | h
    · omega
    · exact hMlt j h
    · omega
    · omega
  obtain ⟨all, hall⟩ : ∃ all, all = oAll ns es size s0 := ⟨_, rfl⟩
  rw [← hall] at hseq HCS HCONT
  have SRU : Hid (∀ (W W' : World) (s : OSt) (S : Nat → Prop), PRd ns es an ln cn ae le ce g N M W s M → Upd S W W' → (∀ j, S j → N ≤ j ∧ ¬ M j) → PRd ns es an ln cn ae le ce g N M W' s M) := fun W W' s S h hu hs => h.upd hu hs
  clear hcl hcs hnC hCONT hclt hclr hS hc4 hsz hall
  conv => arg 4; whnf
  refine wpIn_range_w rfl h1 (gf := 35) (lb := #[.pointer (some ⟨B13 + 1 + 1, 0, none⟩), .pointer (some ⟨B13 + 1 + 1 + 1, 0, none⟩)]) rfl trivial (enters_of Try.func35 (by kernel_rfl) rfl) hseq hMlt hPlt (fun _ => rfl) ?hD
    (fun pre W' => Boxed W' (B13 + 1) 3 (.int .i64 (pre.length : Int)) ∧ Boxed W' B12 4 (.bool true) ∧ Upd (fun j => M j ∨ j = B13 + 1 ∨ j = B12 ∨ B13 + 4 ≤ j) Wr W')
    (fun _ _ _ => False)
    ?hI ?hIx ⟨b14, b12, Upd.refl _ _⟩
    (fun x => { tmps := #[f 0, .pointer (some ⟨gA, 0, none⟩), .pointer (some ⟨B2, 0, none⟩), f 3, .pointer (some ⟨g, 0, none⟩), .pointer (some ⟨r, 0, none⟩), f 6, f 7, f 8, f 9, f 10, f 11, .pointer (some ⟨B12, 0, none⟩), .pointer (some ⟨B13, 0, none⟩), .pointer (some ⟨B13 + 1, 0, none⟩), x.v, .int .i64 x.e, f 17, f 18, f 19, f 20, f 21, f 22, f 23, f 24, f 25, f 26, f 27, f 28, f 29, f 30, f 31, f 32, f 33, f 34, f 35, f 36, f 37, f 38, f 39, f 40, f 41, f 42, f 43, f 44, f 45, f 46, f 47, f 48, f 49, f 50, f 51, f 52, f 53, f 54, f 55, f 56, f 57, f 58, f 59, f 60, f 61, f 62, f 63, f 64, f 65, f 66, f 67, f 68, f 69, f 70, f 71, f 72, f 73, f 74, f 75, f 76, f 77, f 78, f 79, f 80, f 81, f 82, f 83, f 84, f 85, f 86, f 87, f 88, f 89, f 90, f 91, f 92, f 93, f 94, f 95, f 96, f 97, f 98, f 99, f 100, f 101, f 102, f 103, f 104, f 105, f 106, f 107, f 108, f 109, f 110, f 111, f 112, f 113, f 114, .func (.func 35) #[] #[.pointer (some ⟨B13 + 1 + 1, 0, none⟩), .pointer (some ⟨B13 + 1 + 1 + 1, 0, none⟩)], x.v, .int .i64 x.e, f 118, f 119, f 120, f 121, f 122, f 123, f 124, f 125, f 126, f 127, f 128, f 129, f 130, f 131, f 132, f 133, f 134, f 135, f 136, f 137, f 138, f 139, f 140, f 141, f 142, f 143, f 144, f 145, f 146, f 147, f 148, f 149, f 150, f 151, f 152, f 153, f 154, f 155, f 156], defers := [] }) ?assign ?body ?done ?stop
  case hD =>
    rintro pre x W0 W1 W2 ⟨q1, q2, q3⟩ hu hlt
    have hs := HSZ.out
    refine ⟨q1, q2.upd hu (fun j hj e => ?_), SRU.out _ _ _ _ q3 hu (fun j e => ⟨by omega, fun hj => ?_⟩)⟩
    · have := (q2.owns.lt j hj).1
      omega
    · have := HML.out j hj
      omega
  case hI =>
    rintro pre A B ⟨q1, q2, q3⟩ hu
    have hs := HSZ.out
    exact ⟨boxed_upd q1 hu (by omega), boxed_upd q2 hu (by omega), q3.trans (hu.mono (fun j _ e => .inr (.inr (.inr (by omega)))))⟩
  case hIx =>
    rintro cd pre A B h hu
    exact h.elim
  case assign =>
    intro l x Wa K hK
    simp only [Ck.vs]
    gi_wp2
    exact hK
  case body =>
    rintro l pre ⟨v, b, er, s⟩ W0 W ⟨hk0, hq0, hu0⟩ hu ⟨⟨rest, hrest⟩, hov, hrd⟩ hlq
    change OwnB W W0.heap.size 5 v b at hov
    change PRd ns es an ln cn ae le ce g N M W s M at hrd
    have hs := HSZ.out
    obtain ⟨hkl, e1, e2⟩ := cs_atO HCS.out hrest
    simp only at e1 e2
    have huW : Upd (fun j => M j ∨ j = B13 + 1 ∨ j = B12 ∨ B13 + 4 ≤ j) Wr W := hu0.trans (hu.mono (fun j _ e => e.elim .inl (fun e => .inr (.inr (.inr (by omega))))))
    have hlow : ∀ j, B12 < j → j ≤ B13 → ¬ (M j ∨ j = B13 + 1 ∨ j = B12 ∨ B13 + 4 ≤ j) := fun j q1 q2 e => by
      rcases e with e | e | e | e
      · have := HML.out j e; omega
      · omega
      · omega
      · omega
    have k14 := boxed_upd hk0 hu (fun e => e.elim (fun e => by have := HML.out _ e; omega) (fun e => by omega))
    have k12 := boxed_upd hq0 hu (fun e => e.elim (fun e => by have := HML.out _ e; omega) (fun e => by omega))
    have k13 := boxed_upd b13 huW (hlow _ (by omega) (by omega))
    have hnCl := HNC.out
    have hown := ownsC_upd HCL.out.own huW (fun j hj => hlow j (by have := (HCL.out.own.lt j hj).1; omega) (by have := HCLT.out j hj; omega))
    obtain ⟨gv, cap, hgv, hd0, hd1⟩ : ∃ gv cap, (Value.slice av nC cv) = .slice (some ⟨gv, 0, none⟩) nC cap ∧ W.cell? ⟨gv, pre.length * 2, none⟩ = some Cs[pre.length].bv ∧ W.cell? ⟨gv, pre.length * 2 + 1, none⟩ = some (.int .i64 Cs[pre.length].e) := by
      rcases hown.2 with ⟨_, q2⟩ | ⟨gv, cap, cur, q1, _⟩
      · omega
      · have hcc := hown.cells (g := gv) (by rw [q1]; rfl)
        have := cellsC_get Cs pre.length hkl
        refine ⟨gv, cap, by rw [q1, hnCl], ?_, ?_⟩
        · have q := hcc _ _ this.1
          rwa [Addr.add_lit, Nat.zero_add] at q
        · have q := hcc _ _ this.2
          rwa [Addr.add_lit, Nat.zero_add] at q
    have hmem : Cs[pre.length] ∈ Cs := List.getElem_mem hkl
    have hrow2 : Row W .u8 Cs[pre.length].ba Cs[pre.length].b := (HCL.out.row _ hmem).upd huW (fun x hx h0 => hlow _ (by have := (HCL.out.loc _ hmem x hx h0).1; omega) (by have := HCLR.out _ hmem x hx h0; omega))
    have hb4 := HC4.out _ hmem
    unfold RC.bv at hd0
    rw [e1] at hd0 hrow2 hb4
    rw [e2] at hd1
    generalize Cs[pre.length].ba = ba at *
    generalize Cs[pre.length].bc = bc at *
    simp only [Value.slice.injEq] at hgv
    obtain ⟨rfl, _, rfl⟩ := hgv
    obtain ⟨ax, cx, rfl, hrow, _, hcap⟩ := hov.slice
    have HSM := hide (sameq ax ba b.length cx bc b W (by unfold maxLen; omega) rfl hrow hrow2)
    have c14 := k14.cell
    have c13 := k13.cell
    have HK14 := hide k14
    have HK13 := hide k13
    have HK12 := hide k12
    have HRD := hide hrd
    have HUW := hide huW
    have j1 : (0 : Int) ≤ (pre.length : Int) := by omega
    have j2 : (pre.length : Int) < (nC : Int) := by omega
    have j3 : ¬ (nC : Int) ≤ (pre.length : Int) := by omega
    have hpl : pre.length ≤ 2147483648 := by omega
    have hgvl : gv < B13 := HCLT.out gv rfl
    have hgvg : B12 < gv := by have := (HCL.out.own.lt gv rfl).1; omega
    have HD1 := hide hd1
    clear hs hkl e1 e2 huW hlow k14 k13 k12 hnCl hown hmem hrow2 hov hrd hrow hcap hrest hu hu0 hk0 hq0 hb4 b12 b13 b14 c1 c2 hseq hMlt hPlt hd1
    dsimp only
    gi_wp2
    refine ⟨trivial, fun _ => by omega, (CallsIn.inRound l ((callsIn_wide (n := n - 1 - 1 - 1)).2 HSM.out)).mono ?_⟩
    rintro e w2 ⟨rfl, m2, hw2⟩
    have U2 : Hid (Upd Noth W w2) := by rw [hw2]; exact ⟨rfl, rfl, rfl, Nat.le_refl _, fun _ _ _ => rfl⟩
    clear hw2 HSM
    have q12 := boxed_upd HK12.out U2.out (fun e => e)
    have x12 := q12.cell
    have y12 := q12.frozen
    have U3 : Hid (Upd (fun j => j = B12) W (w2.setCell ⟨B12, 0, none⟩ (.bool true))) := U2.out.noth.trans ((Upd.refl _ _).set1 0 _)
    have q14 := boxed_upd HK14.out U3.out (by omega)
    have q13 := boxed_upd HK13.out U3.out (by omega)
    have r12 := q12.set (.bool true)
    have z12 := r12.cell
    have x14 := q14.cell
    have y14 := q14.frozen
    have x13 := q13.cell
    have d1 := U3.out.cell HD1.out (by simp only; omega)
    have HR12 := hide r12
    have HQ14 := hide q14
    clear q12 q14 q13 r12 c14 c13 hd0
    have HFN : Hid (∀ z : Int, z = (pre.length : Int) + 1 → Upd (fun j => ¬ CkPr M N (B13 + 1 + 1) (B13 + 1 + 1 + 1) j ∧ j ≠ Wr.heap.size ∧ j ≠ Wr.heap.size + 1) W ((w2.setCell ⟨B12, 0, none⟩ (.bool true)).setCell ⟨B13 + 1, 0, none⟩ (.int .i64 z)) ∧ Boxed ((w2.setCell ⟨B12, 0, none⟩ (.bool true)).setCell ⟨B13 + 1, 0, none⟩ (.int .i64 z)) (B13 + 1) 3 (.int .i64 (((pre ++ [(⟨.slice ax b.length cx, b, er, s⟩ : Ck OSt)]).length : Nat) : Int)) ∧ Boxed ((w2.setCell ⟨B12, 0, none⟩ (.bool true)).setCell ⟨B13 + 1, 0, none⟩ (.int .i64 z)) B12 4 (.bool true) ∧ Upd (fun j => M j ∨ j = B13 + 1 ∨ j = B12 ∨ B13 + 4 ≤ j) Wr ((w2.setCell ⟨B12, 0, none⟩ (.bool true)).setCell ⟨B13 + 1, 0, none⟩ (.int .i64 z))) := fun z hz => by
      have hs := HSZ.out
      have hp : ∀ j, j = B12 ∨ j = B13 + 1 → ¬ CkPr M N (B13 + 1 + 1) (B13 + 1 + 1 + 1) j ∧ j ≠ Wr.heap.size ∧ j ≠ Wr.heap.size + 1 := fun j hj => by
        refine ⟨?_, by omega, by omega⟩
        rintro (e | e | e | e)
        · omega
        · have := HML.out j e; omega
        · omega
        · omega
      have us : Upd (fun j => j = B13 + 1) (w2.setCell ⟨B12, 0, none⟩ (.bool true)) ((w2.setCell ⟨B12, 0, none⟩ (.bool true)).setCell ⟨B13 + 1, 0, none⟩ (.int .i64 z)) := (Upd.refl _ _).set1 0 _
      have u4 : Upd (fun j => j = B12 ∨ j = B13 + 1) W ((w2.setCell ⟨B12, 0, none⟩ (.bool true)).setCell ⟨B13 + 1, 0, none⟩ (.int .i64 z)) := (U3.out.mono (fun j _ e => .inl e)).trans (us.mono (fun j _ e => .inr e))
      refine ⟨u4.mono (fun j _ e => hp j e), ?_, boxed_upd HR12.out us (by omega), HUW.out.trans (u4.mono (fun j _ e => e.elim (fun e => .inr (.inr (.inl e))) (fun e => .inr (.inl e))))⟩
      rw [List.length_append, List.length_singleton, show ((pre.length + 1 : Nat) : Int) = z by omega]
      exact HQ14.out.set _
    have t78 : (er != er) = false := by simp
    gi_wp2
    obtain ⟨r1, r2, r3, r4⟩ := HFN.out _ rfl
    exact ⟨r1, r2, r3, r4⟩
  case done =>
    rintro D xs W0 Wa Wb rfl ⟨hk, hq, hu0⟩ hu1 ⟨hxs, hrd⟩ hu2 hlq hDD
    have hs := HSZ.out
    have hall : all = xs.map Ck.t := hxs.symm
    have hnl : nC = xs.length := by
      have q := congrArg List.length HCS.out
      rw [hall] at q
      simp only [two2, List.length_map] at q
      rw [HNC.out, q]
    have hend : endL s0 all = endS s0 xs := by
      rw [hall]
      unfold endL endS
      rw [List.getLast?_map, Option.map_map]
      rfl
    have hrd' := SRU.out _ _ _ _ hrd hu2 (fun j e => ⟨by omega, fun hj => by have := HML.out j hj; omega⟩)
    refine HCONT.out _ (endS s0 xs) Wb hend.symm ?_ ((hu0.trans (hu1.mono (fun j _ e => .inl e))).trans (hu2.mono (fun j _ e => .inr (.inr (.inr (by omega)))))) hrd' (by omega) hDD
    rw [hnl]
    exact boxed_upd (boxed_upd hk hu1 (fun e => by have := HML.out _ e; omega)) hu2 (by omega)
  case stop =>
    rintro D cd pre Wb rfl h hDD
    exact h.elim

end Go.Proofs.Ytcffekhlnidjnaa
