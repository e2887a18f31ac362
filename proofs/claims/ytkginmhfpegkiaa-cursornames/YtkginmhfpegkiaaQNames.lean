/- CursorNames: the walk. -/
import Derived.Test.YtkginmhfpegkiaaQFlush
import Derived.Test.YtkginmhfpegkiaaQIns
import Derived.Lib.SlBytesConst
namespace Go.Proofs.Ytkginmhfpegkiaa
open Go.RowKit

abbrev NR : Nat → Nat × Nat → Int × Int × List Int × (Nat × Nat) := fun k => srcRd [5, 172, 2, 97, 98, 99] [1, 0, 1] 0 false k
def nx0 : InS (Nat × Nat) := ⟨(0, 0), 0, 0, 0, 9, []⟩
def nx1 := (numP NR nx0).2.2
def nx2 := (numP NR nx1).2.2
def nx3 := (bytesP NR 2 nx2).2.2
def nx4 := (byteP NR nx3).2.2
def nx5 := (endP NR nx4).2.2
def nx6 := (byteP NR nx5).2.2
def ny1 := (bytesP NR 10 nx0).2.2
def ny2 := (bytesP NR 1 ny1).2.2
theorem n_num : (numP NR nx1).1 = 300 := by decide +kernel
theorem n_bytes : (bytesP NR 2 nx2).1 = [97, 98] := by decide +kernel
theorem n_at : nx3.at' = 5 := by decide +kernel
theorem n_end : (endP NR nx4).1 = true := by decide +kernel
theorem n_e : (byteP NR nx5).2.1 = 41 := by decide +kernel
theorem n_f : (bytesP NR 10 nx0).2.1 = 42 := by decide +kernel
theorem n_g : (bytesP NR 1 ny1).2.1 = 42 := by decide +kernel
def nz0 : OutS (Nat × List Int) := ⟨(0, []), [], 0, 0, 0⟩
def nz1 : OutS (Nat × List Int) := layP nz0 (List.replicate 5000 0)
def nz2 : OutS (Nat × List Int) := flushA (snkWf [] 2) nz1
def nz3 : OutS (Nat × List Int) := layP nz2 []
theorem n_h : nz2.err = 32 := by decide +kernel
theorem n_l : nz3.b.length = 904 := by decide +kernel
theorem n_h0 : nz1.err = 0 := by decide +kernel


theorem lit_row {W : World} {k : IntKind} {t : TypeId} {fr : Nat × Nat} (zs : List Int) (g : Nat) (h : W.heap[g]? = some (.cells (zs.map (Value.int k)).toArray t fr)) : Row W k (some ⟨g, 0, none⟩) zs := by
  intro i hi
  refine ⟨g, 0, rfl, ?_⟩
  rw [Nat.zero_add, cell_of_row _ _ _ _ _ _ h]
  simp [List.getD, hi]

/-- Two Ins and an Out, apart from one another. -/
structure NB {σ τ : Type} (Rd1 Rd2 : World → σ → (Nat → Prop) → Prop) (Wd : World → τ → (Nat → Prop) → Prop) (gc gd gw : Nat) (r1 r2 r3 : Value) (B : Nat) (w W : World) (x y : InS σ) (z : OutS τ) (v : Value) (xs : List Int) (F1 F2 F3 : Nat → Prop) : Prop where
  a : IsIn Rd1 B gc r1 W x F1
  b : IsIn Rd2 B gd r2 W y F2
  c : IsOut Wd B gw r3 W z F3
  d12 : ∀ j, F1 j → ¬ F2 j
  d13 : ∀ j, F1 j → ¬ F3 j
  d23 : ∀ j, F2 j → ¬ F3 j
  own : OwnB W B 5 v xs
  nv : ∀ j, v.ownBlock = some j → ¬ F1 j ∧ ¬ F2 j ∧ ¬ F3 j
  bs : B ≤ w.heap.size
  bel : Below B w W
section
variable {σ τ : Type} {RD : Nat → σ → Int × Int × List Int × σ} {cnt m vol : σ → Nat} {f1 f2 f3 : FuncId} {recv1 recv2 recv3 : Value} {Rd1 Rd2 : World → σ → (Nat → Prop) → Prop} {wf : τ → List Int → Int × Int × τ} {cw sz : τ → Nat} {Wd : World → τ → (Nat → Prop) → Prop} {gc gd gw : Nat} {r1 r2 r3 : Value} {B : Nat} {w W W' : World} {x y x' : InS σ} {z z' : OutS τ} {v : Value} {xs : List Int} {F1 F2 F3 F' : Nat → Prop}
theorem NB.step1 (X : RFam RD cnt m vol f1 recv1 B Rd1) (Y : RFam RD cnt m vol f2 recv2 B Rd2) (T : Writer wf cw sz f3 recv3 B Wd) (h : NB Rd1 Rd2 Wd gc gd gw r1 r2 r3 B w W x y z v xs F1 F2 F3) (hI : IsIn Rd1 B gc r1 W' x' F') (hu : Upd F1 W W') (hs : ∀ j, F' j → F1 j ∨ W.heap.size ≤ j) : NB Rd1 Rd2 Wd gc gd gw r1 r2 r3 B w W' x' y z v xs F' F2 F3 :=
  ⟨hI, h.b.upd Y hu (fun j e => ⟨(h.a.lt0 X j e).1, h.d12 j e⟩), h.c.upd T hu (fun j e => ⟨(h.a.lt0 X j e).1, h.d13 j e⟩), fun j e => (hs j e).elim (h.d12 j) (fun h1 h2 => by have := (h.b.lt0 Y j h2).2; omega), fun j e => (hs j e).elim (h.d13 j) (fun h1 h2 => by have := (h.c.lt T j h2).2; omega), h.d23, h.own.upd hu (fun j hj => (h.nv j hj).1), fun j hj => ⟨fun e => (hs j e).elim (h.nv j hj).1 (fun h1 => by have := (h.own.owns.lt j hj).2; omega), (h.nv j hj).2⟩, h.bs, h.bel.trans (hu.below (Nat.le_trans h.bs h.bel.size) (fun k hk e => by have := (h.a.lt0 X k e).1; omega))⟩
theorem NB.step2 (X : RFam RD cnt m vol f1 recv1 B Rd1) (Y : RFam RD cnt m vol f2 recv2 B Rd2) (T : Writer wf cw sz f3 recv3 B Wd) (h : NB Rd1 Rd2 Wd gc gd gw r1 r2 r3 B w W x y z v xs F1 F2 F3) (hI : IsIn Rd2 B gd r2 W' x' F') (hu : Upd F2 W W') (hs : ∀ j, F' j → F2 j ∨ W.heap.size ≤ j) : NB Rd1 Rd2 Wd gc gd gw r1 r2 r3 B w W' x x' z v xs F1 F' F3 :=
  ⟨h.a.upd X hu (fun j e => ⟨(h.b.lt0 Y j e).1, fun h' => h.d12 j h' e⟩), hI, h.c.upd T hu (fun j e => ⟨(h.b.lt0 Y j e).1, h.d23 j e⟩), fun j e h' => (hs j h').elim (h.d12 j e) (fun h1 => by have := (h.a.lt0 X j e).2; omega), h.d13, fun j e => (hs j e).elim (h.d23 j) (fun h1 h2 => by have := (h.c.lt T j h2).2; omega), h.own.upd hu (fun j hj => (h.nv j hj).2.1), fun j hj => ⟨(h.nv j hj).1, fun e => (hs j e).elim (h.nv j hj).2.1 (fun h1 => by have := (h.own.owns.lt j hj).2; omega), (h.nv j hj).2.2⟩, h.bs, h.bel.trans (hu.below (Nat.le_trans h.bs h.bel.size) (fun k hk e => by have := (h.b.lt0 Y k e).1; omega))⟩
theorem NB.step3 (X : RFam RD cnt m vol f1 recv1 B Rd1) (Y : RFam RD cnt m vol f2 recv2 B Rd2) (T : Writer wf cw sz f3 recv3 B Wd) (h : NB Rd1 Rd2 Wd gc gd gw r1 r2 r3 B w W x y z v xs F1 F2 F3) (hI : IsOut Wd B gw r3 W' z' F') (hu : Upd F3 W W') (hs : ∀ j, F' j → F3 j ∨ W.heap.size ≤ j) : NB Rd1 Rd2 Wd gc gd gw r1 r2 r3 B w W' x y z' v xs F1 F2 F' :=
  ⟨h.a.upd X hu (fun j e => ⟨(h.c.lt T j e).1, fun h' => h.d13 j h' e⟩), h.b.upd Y hu (fun j e => ⟨(h.c.lt T j e).1, fun h' => h.d23 j h' e⟩), hI, h.d12, fun j e h' => (hs j h').elim (h.d13 j e) (fun h1 => by have := (h.a.lt0 X j e).2; omega), fun j e h' => (hs j h').elim (h.d23 j e) (fun h1 => by have := (h.b.lt0 Y j e).2; omega), h.own.upd hu (fun j hj => (h.nv j hj).2.2), fun j hj => ⟨(h.nv j hj).1, (h.nv j hj).2.1, fun e => (hs j e).elim (h.nv j hj).2.2 (fun h1 => by have := (h.own.owns.lt j hj).2; omega)⟩, h.bs, h.bel.trans (hu.below (Nat.le_trans h.bs h.bel.size) (fun k hk e => by have := (h.c.lt T k e).1; omega))⟩
theorem NB.grow (X : RFam RD cnt m vol f1 recv1 B Rd1) (Y : RFam RD cnt m vol f2 recv2 B Rd2) (T : Writer wf cw sz f3 recv3 B Wd) (h : NB Rd1 Rd2 Wd gc gd gw r1 r2 r3 B w W x y z v xs F1 F2 F3) (hu : Upd Noth W W') : NB Rd1 Rd2 Wd gc gd gw r1 r2 r3 B w W' x y z v xs F1 F2 F3 :=
  ⟨h.a.upd X hu (fun _ e => e.elim), h.b.upd Y hu (fun _ e => e.elim), h.c.upd T hu (fun _ e => e.elim), h.d12, h.d13, h.d23, h.own.upd hu (fun _ _ e => e), h.nv, h.bs, h.bel.trans (hu.toBelow.mono (Nat.le_trans h.bs h.bel.size))⟩
/-- What a call tells of bytes is taken. -/
theorem NB.put (h : NB Rd1 Rd2 Wd gc gd gw r1 r2 r3 B w W x y z v xs F1 F2 F3) {v' : Value} {xs' : List Int} (ho : OwnB W B 5 v' xs') (hn : ∀ j, v'.ownBlock = some j → ¬ F1 j ∧ ¬ F2 j ∧ ¬ F3 j) : NB Rd1 Rd2 Wd gc gd gw r1 r2 r3 B w W x y z v' xs' F1 F2 F3 := ⟨h.a, h.b, h.c, h.d12, h.d13, h.d23, ho, hn, h.bs, h.bel⟩
end

set_option maxHeartbeats 400000 in
theorem newIn_nil (n : Int) (W : World) : Calls Try.prog 10 #[.nilIface, .int .i64 n] W fun e W' => e = .returned (.pointer none) ∧ W' = W := by
  go_enter Try.func10, Try.ntmps10
  go_wp2_with fail
  go_ret
  exact ⟨rfl, rfl⟩
set_option maxHeartbeats 400000 in
theorem newOut_nil (W : World) : Calls Try.prog 12 #[.nilIface] W fun e W' => e = .returned (.pointer none) ∧ W' = W := by
  go_enter Try.func12, Try.ntmps12
  go_wp2_with fail
  go_ret
  exact ⟨rfl, rfl⟩
/-- A new Out over a sink. -/
theorem newOut_snk {W : World} {ts : List Int} {fail : Int} {g B : Nat} {M0 : Nat → Prop} (hS : SnkAt W B M0 ts fail g 0 []) (hB : B ≤ W.heap.size) (v : Value) :
    IsOut (SnkWd ts fail g B) B W.heap.size v (W.alloc (.cells #[.int .i64 0, .int .i64 0, .int .i64 0, v, .slice none 0 0] 95)) ⟨(0, []), [], 0, 0, 0⟩ (fun j => M0 j ∨ j = W.heap.size) := by
  have hu : Upd Noth W (W.alloc (.cells #[.int .i64 0, .int .i64 0, .int .i64 0, v, .slice none 0 0] 95)) := (Upd.refl _ _).alloc _
  refine ⟨.slice none 0 0, 0, M0, heap_alloc_new W _, (snk_writer ts fail g B).upd (show SnkWd ts fail g B W (0, []) M0 from hS) hu (fun _ e => e.elim), OwnW.nil _ _ _ _, fun e => by have := (SnkAt.lt hS _ e).2; omega, hB, (fun j hj => by cases hj), fun j => ⟨fun h => h.elim .inl (fun h => .inr (.inl h)), fun h => h.elim .inl (fun h => h.elim .inr (fun h => by cases h))⟩⟩

set_option maxRecDepth 100000 in
set_option maxHeartbeats 3200000 in
theorem cursorNames_any (w : World) : Calls Try.prog 3 #[] w fun e w' => e = .returned (.bool true) ∧ Below w.heap.size w w' := by
  have h8 : B8 [5, 172, 2, 97, 98, 99] := fun x hx => by simp at hx; omega
  have HLV := hide (lives_any w)
  go_enter Try.func3, Try.ntmps3
  go_wp2_with fail
  refine HLV.out.mono ?_
  rintro e w1 ⟨rfl, hb1⟩
  have HB1 := hide hb1
  clear hb1 HLV
  go_upto_region 3 with fail
  have hne := three_new w1 (.cells #[.int .u8 5, .int .u8 172, .int .u8 2, .int .u8 97, .int .u8 98, .int .u8 99] 5) (.cells #[.int .i64 1, .int .i64 0, .int .i64 1] 3) (.cells #[.slice (some ⟨w1.heap.size, 0, none⟩) 6 6, .slice (some ⟨w1.heap.size + 1, 0, none⟩) 3 3, .int .i64 0, .bool false] 26)
  have hU2 : Upd Noth w1 (((w1.alloc (.cells #[.int .u8 5, .int .u8 172, .int .u8 2, .int .u8 97, .int .u8 98, .int .u8 99] 5)).alloc (.cells #[.int .i64 1, .int .i64 0, .int .i64 1] 3)).alloc (.cells #[.slice (some ⟨w1.heap.size, 0, none⟩) 6 6, .slice (some ⟨w1.heap.size + 1, 0, none⟩) 3 3, .int .i64 0, .bool false] 26)) := (((Upd.refl _ _).alloc _).alloc _).alloc _
  generalize (((w1.alloc (.cells #[.int .u8 5, .int .u8 172, .int .u8 2, .int .u8 97, .int .u8 98, .int .u8 99] 5)).alloc (.cells #[.int .i64 1, .int .i64 0, .int .i64 1] 3)).alloc (.cells #[.slice (some ⟨w1.heap.size, 0, none⟩) 6 6, .slice (some ⟨w1.heap.size + 1, 0, none⟩) 3 3, .int .i64 0, .bool false] 26)) = w2 at hne hU2 ⊢
  obtain ⟨q1, hq1⟩ : ∃ q, q = w1.heap.size := ⟨_, rfl⟩
  rw [← hq1] at hne ⊢
  have hB2 : Below w.heap.size w w2 := HB1.out.trans (hU2.toBelow.mono HB1.out.size)
  have hfc := feed_cells hne.2.2
  have c0 := hfc.1
  have c1 := hfc.2.1
  have c2 := hfc.2.2.1
  have c3 := hfc.2.2.2.1
  have HF := hide hne.2.2
  have HR1 := hide (lit_row [5, 172, 2, 97, 98, 99] q1 hne.1)
  have HR2 := hide (lit_row [1, 0, 1] (q1 + 1) hne.2.1)
  have HNS := hide (newSource_any (some ⟨q1, 0, none⟩) (some ⟨q1 + 1, 0, none⟩) 6 6 3 3 [5, 172, 2, 97, 98, 99] [1, 0, 1] 0 false w2 rfl rfl (by omega) (by omega) (fun h => by cases h) (fun h => by cases h) HR1.out HR2.out)
  have HB2 := hide hB2
  have hqF : q1 + 2 < w2.heap.size := lt_of_block HF.out
  have hwq : w.heap.size ≤ q1 := by rw [hq1]; exact HB1.out.size
  clear hfc hne hU2 hB2 hq1 HB1
  go_wp2_with fail
  refine HNS.out.mono ?_
  rintro e w3 ⟨g1, M1, rfl, hS1, hM1, hb3⟩
  have hz3 := hb3.size
  have HB3 := hide (HB2.out.trans (hb3.mono (by omega)))
  have HI1 := hide (newIn_src h8 hS1 (fun i hi => by have := hM1 i hi; omega : ∀ i, M1 i → w.heap.size ≤ i) (by omega) 9 (.iface 29 (.pointer (some ⟨g1, 0, none⟩))))
  have HNA := hide (newIn_any 29 (.pointer (some ⟨g1, 0, none⟩)) 9 9 w3 (by omega))
  have hU4 : Upd Noth w2 (w3.alloc (.cells #[.int .i64 0, .int .i64 0, .int .i64 0, .iface 29 (.pointer (some ⟨g1, 0, none⟩)), .int .i64 ((9 : Nat) : Int), .slice none 0 0] 47)) := (Upd.of_below hb3 Noth).alloc _
  have hfc := feed_cells (hU4.heap HF.out (fun e => e))
  have d0 := hfc.1
  have d1 := hfc.2.1
  have d2 := hfc.2.2.1
  have d3 := hfc.2.2.2.1
  have HNS2 := hide (newSource_any (some ⟨q1, 0, none⟩) (some ⟨q1 + 1, 0, none⟩) 6 6 3 3 [5, 172, 2, 97, 98, 99] [1, 0, 1] 0 false (w3.alloc (.cells #[.int .i64 0, .int .i64 0, .int .i64 0, .iface 29 (.pointer (some ⟨g1, 0, none⟩)), .int .i64 ((9 : Nat) : Int), .slice none 0 0] 47)) rfl rfl (by omega) (by omega) (fun h => by cases h) (fun h => by cases h) (HR1.out.upd hU4 (fun _ _ _ e => e)) (HR2.out.upd hU4 (fun _ _ _ e => e)))
  have HB4 := hide (HB3.out.alloc HB3.out.size (.cells #[.int .i64 0, .int .i64 0, .int .i64 0, .iface 29 (.pointer (some ⟨g1, 0, none⟩)), .int .i64 ((9 : Nat) : Int), .slice none 0 0] 47))
  have HM1 : Hid (∀ i, M1 i → w.heap.size ≤ i) := hide (fun i hi => by have := hM1 i hi; omega)
  have hz4 : (w3.alloc (.cells #[.int .i64 0, .int .i64 0, .int .i64 0, .iface 29 (.pointer (some ⟨g1, 0, none⟩)), .int .i64 ((9 : Nat) : Int), .slice none 0 0] 47)).heap.size = w3.heap.size + 1 := by simp
  clear hS1 hM1 hb3 HNS hfc c0 c1 c2 c3 hU4
  go_wp2_with fail
  refine HNA.out.mono ?_
  rintro e w4 ⟨rfl, rfl⟩
  generalize w3.alloc (.cells #[.int .i64 0, .int .i64 0, .int .i64 0, .iface 29 (.pointer (some ⟨g1, 0, none⟩)), .int .i64 ((9 : Nat) : Int), .slice none 0 0] 47) = w4 at *
  obtain ⟨gc, hgc⟩ : ∃ gc, gc = w3.heap.size := ⟨_, rfl⟩
  rw [← hgc] at HI1 hz4 ⊢
  replace hgc := hide hgc
  clear HNA
  go_wp2_with fail
  refine HNS2.out.mono ?_
  rintro e w5 ⟨g2, M2, rfl, hS2, hM2, hb5⟩
  have hz5 := hb5.size
  have hgc' := hgc.out
  have HX : Hid (RFam NR Prod.fst (fun s => [5, 172, 2, 97, 98, 99].length - s.2) (fun s => [5, 172, 2, 97, 98, 99].length - s.2) 83 (.pointer (some ⟨g1, 0, none⟩)) w.heap.size (SrcRd [5, 172, 2, 97, 98, 99] [1, 0, 1] 0 false g1 w.heap.size M1)) := hide (src_fam _ _ _ _ _ _ _ h8)
  have HY : Hid (RFam NR Prod.fst (fun s => [5, 172, 2, 97, 98, 99].length - s.2) (fun s => [5, 172, 2, 97, 98, 99].length - s.2) 83 (.pointer (some ⟨g2, 0, none⟩)) w.heap.size (SrcRd [5, 172, 2, 97, 98, 99] [1, 0, 1] 0 false g2 w.heap.size M2)) := hide (src_fam _ _ _ _ _ _ _ h8)
  have HB5 := hide (HB4.out.trans (hb5.mono (by omega)))
  have HI1' := hide (HI1.out.upd HX.out (Upd.of_below hb5 Noth) (fun _ e => e.elim))
  have HL1 := hide (HI1.out.lt0 HX.out)
  have HI2 := hide (newIn_src h8 hS2 (fun i hi => by have := hM2 i hi; omega : ∀ i, M2 i → w.heap.size ≤ i) (by omega) 9 (.iface 29 (.pointer (some ⟨g2, 0, none⟩))))
  have HNA := hide (newIn_any 29 (.pointer (some ⟨g2, 0, none⟩)) 9 9 w5 (by omega))
  have HM2 := hide hM2
  have hM2l := hS2.lt.1
  have HB6 := hide (HB5.out.alloc HB5.out.size (.cells #[.int .i64 0, .int .i64 0, .int .i64 0, .iface 29 (.pointer (some ⟨g2, 0, none⟩)), .int .i64 ((9 : Nat) : Int), .slice none 0 0] 47))
  have hu6 : Upd Noth w5 (w5.alloc (.cells #[.int .i64 0, .int .i64 0, .int .i64 0, .iface 29 (.pointer (some ⟨g2, 0, none⟩)), .int .i64 ((9 : Nat) : Int), .slice none 0 0] 47)) := (Upd.refl _ _).alloc _
  have HI1'' := hide (HI1'.out.upd HX.out hu6 (fun _ e => e.elim))
  have hz6 : (w5.alloc (.cells #[.int .i64 0, .int .i64 0, .int .i64 0, .iface 29 (.pointer (some ⟨g2, 0, none⟩)), .int .i64 ((9 : Nat) : Int), .slice none 0 0] 47)).heap.size = w5.heap.size + 1 := by simp
  have HNK := hide (newSink_any none 0 0 [] 2 (w5.alloc (.cells #[.int .i64 0, .int .i64 0, .int .i64 0, .iface 29 (.pointer (some ⟨g2, 0, none⟩)), .int .i64 ((9 : Nat) : Int), .slice none 0 0] 47)) rfl (by omega) (fun _ => ⟨rfl, rfl⟩) (row_nil _ _ _))
  clear hgc' hS2 hM2 hb5 HNS2 HI1 HI1' hu6 d0 d1 d2 d3 HR1 HR2 HF HB2 HB3 HB4
  go_wp2_with fail
  refine HNA.out.mono ?_
  rintro e w6 ⟨rfl, rfl⟩
  generalize w5.alloc (.cells #[.int .i64 0, .int .i64 0, .int .i64 0, .iface 29 (.pointer (some ⟨g2, 0, none⟩)), .int .i64 ((9 : Nat) : Int), .slice none 0 0] 47) = w6 at *
  obtain ⟨gd, hgd⟩ : ∃ gd, gd = w5.heap.size := ⟨_, rfl⟩
  rw [← hgd] at HI2 hz6 ⊢
  replace hgd := hide hgd
  clear HNA
  go_wp2_with fail
  refine keep (newIn_nil 9 w6) ?_
  go_wp2_with fail
  refine keep (newOut_nil w6) ?_
  go_wp2_with fail
  refine HNK.out.mono ?_
  rintro e w7 ⟨g3, M3, rfl, hK, hb7⟩
  have hz7 := hb7.size
  have hgc' := hgc.out
  have hgd' := hgd.out
  have HK := hide (hK.mono (B' := w.heap.size) (by omega))
  have hKl := hK.lt
  have HT := hide (snk_writer [] 2 g3 w.heap.size)
  have HO := hide (newOut_snk HK.out (by omega) (.iface 33 (.pointer (some ⟨g3, 0, none⟩))))
  have hu8 : Upd Noth w6 (w7.alloc (.cells #[.int .i64 0, .int .i64 0, .int .i64 0, .iface 33 (.pointer (some ⟨g3, 0, none⟩)), .slice none 0 0] 95)) := (Upd.of_below hb7 Noth).alloc _
  have HNB : Hid (NB (SrcRd [5, 172, 2, 97, 98, 99] [1, 0, 1] 0 false g1 w.heap.size M1) (SrcRd [5, 172, 2, 97, 98, 99] [1, 0, 1] 0 false g2 w.heap.size M2) (SnkWd [] 2 g3 w.heap.size) gc gd w7.heap.size (.iface 29 (.pointer (some ⟨g1, 0, none⟩))) (.iface 29 (.pointer (some ⟨g2, 0, none⟩))) (.iface 33 (.pointer (some ⟨g3, 0, none⟩))) w.heap.size w (w7.alloc (.cells #[.int .i64 0, .int .i64 0, .int .i64 0, .iface 33 (.pointer (some ⟨g3, 0, none⟩)), .slice none 0 0] 95)) nx0 nx0 nz0 (.slice none 0 0) [] (fun j => M1 j ∨ j = gc) (fun j => M2 j ∨ j = gd) (fun j => M3 j ∨ j = w7.heap.size)) := hide (by
    refine ⟨HI1''.out.upd HX.out hu8 (fun _ e => e.elim), HI2.out.upd HY.out hu8 (fun _ e => e.elim), HO.out, ?_, ?_, ?_, OwnB.nil _ _ _, (fun j hj => by cases hj), Nat.le_refl _, HB6.out.trans (hu8.toBelow.mono (by omega))⟩
    · intro j h1 h2
      have := (HL1.out j h1).2
      rcases h2 with h2 | h2
      · have := HM2.out j h2; omega
      · omega
    · intro j h1 h2
      have := (HL1.out j h1).2
      rcases h2 with h2 | h2
      · have := (hKl j h2).1; omega
      · omega
    · intro j h1 h2
      have h3 : j < w6.heap.size := by
        rcases h1 with h1 | h1
        · have := hM2l j h1; omega
        · omega
      rcases h2 with h2 | h2
      · have := (hKl j h2).1; omega
      · omega)
  have HNO := hide (newOut_any 33 (.pointer (some ⟨g3, 0, none⟩)) w7)
  clear hgc' hgd' hK hb7 hKl hu8 HO HNK HI1'' HI2 HL1 HM2 hM2l HK HB5 HB6 HM1
  go_wp2_with fail
  refine HNO.out.mono ?_
  rintro e w8 ⟨rfl, rfl⟩
  generalize w7.alloc (.cells #[.int .i64 0, .int .i64 0, .int .i64 0, .iface 33 (.pointer (some ⟨g3, 0, none⟩)), .slice none 0 0] 95) = w8 at *
  obtain ⟨gw, hgw⟩ : ∃ gw, gw = w7.heap.size := ⟨_, rfl⟩
  rw [← hgw] at HNB ⊢
  replace hgw := hide hgw
  clear HNO hgw hgd hgc hz3 hz4 hz5 hz6 hz7 hqF hwq
  have HOK0 : Hid (InOk Prod.fst (fun s : Nat × Nat => [5, 172, 2, 97, 98, 99].length - s.2) (fun s : Nat × Nat => [5, 172, 2, 97, 98, 99].length - s.2) 200 9 nx0) := hide (new_ok [5, 172, 2, 97, 98, 99] 9 200 (by simp) (by simp))
  have HZB : Hid (∀ (W : World) (x y : InS (Nat × Nat)) (z : OutS (Nat × List Int)) (v : Value) (xs : List Int) (F1 F2 F3 : Nat → Prop), NB (SrcRd [5, 172, 2, 97, 98, 99] [1, 0, 1] 0 false g1 w.heap.size M1) (SrcRd [5, 172, 2, 97, 98, 99] [1, 0, 1] 0 false g2 w.heap.size M2) (SnkWd [] 2 g3 w.heap.size) gc gd gw (.iface 29 (.pointer (some ⟨g1, 0, none⟩))) (.iface 29 (.pointer (some ⟨g2, 0, none⟩))) (.iface 33 (.pointer (some ⟨g3, 0, none⟩))) w.heap.size w W x y z v xs F1 F2 F3 → w.heap.size ≤ W.heap.size) := hide fun _ _ _ _ _ _ _ _ _ h => h.bel.size
  have HB := hide (num_any (RD := NR) (src_leads g1) HX.out w8 gc nx0 _ _ 9 HNB.out.a HOK0.out (by omega) (by omega) (HZB.out _ _ _ _ _ _ _ _ _ HNB.out) (fun j hj => (HNB.out.a.lt0 HX.out j hj).2))
  have HOK1 := hide ((num_ok HX.out nx0 _ 9 HOK0.out : InOk _ _ _ _ _ nx1))
  go_wp2_with fail
  refine HB.out.mono ?_
  rintro e w9 ⟨F', rfl, hi, hu, hs⟩
  have HNB' := hide (HNB.out.step1 HX.out HY.out HT.out hi hu hs)
  clear HNB hi hu hs HB
  have HNB := HNB'
  clear HNB'
  have HB := hide (num_any (RD := NR) (src_leads g1) HX.out w9 gc nx1 _ _ 9 HNB.out.a HOK1.out (by omega) (by omega) (HZB.out _ _ _ _ _ _ _ _ _ HNB.out) (fun j hj => (HNB.out.a.lt0 HX.out j hj).2))
  rw [n_num] at HB
  have HOK2 := hide ((num_ok HX.out nx1 _ 9 HOK1.out : InOk _ _ _ _ _ nx2))
  go_wp2_with fail
  refine HB.out.mono ?_
  rintro e w10 ⟨F', rfl, hi, hu, hs⟩
  have HNB' := hide (HNB.out.step1 HX.out HY.out HT.out hi hu hs)
  clear HNB hi hu hs HB
  have HNB := HNB'
  clear HNB'
  have HB := hide (bytes_any (RD := NR) (src_leads g1) HX.out w10 gc nx2 _ _ 9 2 (by omega) HNB.out.a HOK2.out (by omega) (by omega) (HZB.out _ _ _ _ _ _ _ _ _ HNB.out))
  have HOK3 := hide ((bytes_ok HX.out 2 nx2 _ 9 HOK2.out : InOk _ _ _ _ _ nx3))
  go_wp2_with fail
  refine HB.out.mono ?_
  rintro e w11 ⟨v, F', rfl, ho, hi, hu, hs, hd⟩
  have HNB' := hide (HNB.out.step1 HX.out HY.out HT.out hi hu hs)
  have hov : OwnB w11 w.heap.size 5 v [97, 98] := by rw [← n_bytes]; exact ho
  have HNB' := hide (HNB'.out.put hov (fun j hj => ⟨(hd j hj).1, (hd j hj).2.elim (HNB.out.d12 j) (fun h h2 => by have := (HNB.out.b.lt0 HY.out j h2).2; omega), (hd j hj).2.elim (HNB.out.d13 j) (fun h h2 => by have := (HNB.out.c.lt HT.out j h2).2; omega)⟩))
  obtain ⟨av, cv, rfl, _, _, _⟩ := hov.sliceN (n := 2) rfl
  clear hov
  clear HNB hi hu hs HB ho hd
  have HNB := HNB'
  clear HNB'
  have k5 : w11.cell? ⟨gc, 0, none⟩ = some (.int .i64 5) := by have := HNB.out.a.g.2.2.1; rw [show (bytesP NR 2 nx2).2.2.at' = 5 from n_at] at this; exact this
  have HATC := hide (sat_any gc 5 w11 k5)
  go_wp2_with fail
  refine keep HATC.out ?_
  clear k5 HATC
  have HB := hide (byte_any (RD := NR) (src_leads g1) HX.out w11 gc nx3 _ _ 9 HNB.out.a HOK3.out (by omega) (by omega) (HZB.out _ _ _ _ _ _ _ _ _ HNB.out))
  have HOK4 := hide ((byte_ok HX.out nx3 _ 9 HOK3.out : InOk _ _ _ _ _ nx4))
  go_wp2_with fail
  refine HB.out.mono ?_
  rintro e w12 ⟨F', rfl, hi, hu, hs⟩
  have HNB' := hide (HNB.out.step1 HX.out HY.out HT.out hi hu hs)
  clear HNB hi hu hs HB
  have HNB := HNB'
  clear HNB'
  have HB := hide (inend_any (RD := NR) (src_leads g1) HX.out w12 gc nx4 _ _ 9 HNB.out.a HOK4.out (by omega) (HZB.out _ _ _ _ _ _ _ _ _ HNB.out))
  rw [n_end] at HB
  have HOK5 := hide ((end_ok HX.out nx4 _ 9 HOK4.out : InOk _ _ _ _ _ nx5))
  go_wp2_with fail
  refine HB.out.mono ?_
  rintro e w13 ⟨F', rfl, hi, hu, hs⟩
  have HNB' := hide (HNB.out.step1 HX.out HY.out HT.out hi hu hs)
  clear HNB hi hu hs HB
  have HNB := HNB'
  clear HNB'
  have HB := hide (byte_any (RD := NR) (src_leads g1) HX.out w13 gc nx5 _ _ 9 HNB.out.a HOK5.out (by omega) (by omega) (HZB.out _ _ _ _ _ _ _ _ _ HNB.out))
  rw [n_e] at HB
  have HOK6 := hide ((byte_ok HX.out nx5 _ 9 HOK5.out : InOk _ _ _ _ _ nx6))
  go_wp2_with fail
  refine HB.out.mono ?_
  rintro e w14 ⟨F', rfl, hi, hu, hs⟩
  have HNB' := hide (HNB.out.step1 HX.out HY.out HT.out hi hu hs)
  clear HNB hi hu hs HB
  have HNB := HNB'
  clear HNB'
  have HB := hide (bytes_any (RD := NR) (src_leads g2) HY.out w14 gd nx0 _ _ 9 10 (by omega) HNB.out.b HOK0.out (by omega) (by omega) (HZB.out _ _ _ _ _ _ _ _ _ HNB.out))
  have HOD1 := hide ((bytes_ok HY.out 10 nx0 _ 9 HOK0.out : InOk _ _ _ _ _ ny1))
  go_wp2_with fail
  refine HB.out.mono ?_
  rintro e w15 ⟨v15, F', rfl, ho, hi, hu, hs, hd⟩
  have HNB' := hide (HNB.out.step2 HX.out HY.out HT.out hi hu hs)
  obtain ⟨a15, c15, rfl, _, _, _⟩ := ho.sliceN rfl
  rw [n_f]
  clear HNB hi hu hs HB ho hd
  have HNB := HNB'
  clear HNB'
  have HB := hide (bytes_any (RD := NR) (src_leads g2) HY.out w15 gd ny1 _ _ 9 1 (by omega) HNB.out.b HOD1.out (by omega) (by omega) (HZB.out _ _ _ _ _ _ _ _ _ HNB.out))
  have HOD2 := hide ((bytes_ok HY.out 1 ny1 _ 9 HOD1.out : InOk _ _ _ _ _ ny2))
  go_wp2_with fail
  refine HB.out.mono ?_
  rintro e w16 ⟨v16, F', rfl, ho, hi, hu, hs, hd⟩
  have HNB' := hide (HNB.out.step2 HX.out HY.out HT.out hi hu hs)
  obtain ⟨a16, c16, rfl, _, _, _⟩ := ho.sliceN rfl
  rw [n_g]
  clear HNB hi hu hs HB ho hd
  have HNB := HNB'
  clear HNB'
  have hmk := run_zeros 5000 (by omega) w16
  rw [show ((5000 : Nat) : Int) = 5000 from rfl] at hmk
  have hu17 : Upd Noth w16 (w16.alloc (.cells (zeros 5000).toArray 5)) := (Upd.refl _ _).alloc _
  have HNB17 := hide (HNB.out.grow HX.out HY.out HT.out hu17)
  have hrz : Row (w16.alloc (.cells (zeros 5000).toArray 5)) .u8 (some ⟨w16.heap.size, 0, none⟩) (List.replicate 5000 0) := lit_row (k := .u8) (t := 5) (fr := (0, 0)) (List.replicate 5000 0) w16.heap.size (by rw [heap_alloc_new w16 _]; simp [zeros])
  have HLAY := hide (lay_any HT.out (w16.alloc (.cells (zeros 5000).toArray 5)) gw nz0 _ (some ⟨w16.heap.size, 0, none⟩) 5000 5000 (List.replicate 5000 0) (by simp) (fun h => by cases h) hrz HNB17.out.c (HZB.out _ _ _ _ _ _ _ _ _ HNB17.out) (by simp [nz0]))
  clear hu17 hrz HNB
  go_wp2_with fail
  refine HLAY.out.mono ?_
  rintro e w18 ⟨F', rfl, hi, hu, hs⟩
  have HNB := hide (HNB17.out.step3 HX.out HY.out HT.out hi hu hs)
  have HOZ1 : Hid (OutOk Prod.fst (fun t : Nat × List Int => t.2.length) 100000 5000 nz1) := hide (by
    have e1 : nz1 = ⟨(0, []), List.replicate 5000 0, 0, 0, 0⟩ := by simp [nz1, layP, nz0]
    rw [e1]
    exact ⟨fun _ => by simp, fun _ => by simp, fun _ => by simp, by simp⟩)
  have HFL := hide (flush_any (snk_leads g3) HT.out w18 gw nz1 _ 100000 5000 HNB.out.c HOZ1.out (by omega) (by omega) (HZB.out _ _ _ _ _ _ _ _ _ HNB.out))
  rw [show (flushA (snkWf [] 2) nz1).err = 32 from n_h] at HFL
  clear hi hu hs HLAY HNB17 hmk
  go_wp2_with fail
  refine HFL.out.mono ?_
  rintro e w19 ⟨F', rfl, hi, hu, hs⟩
  have HNB' := hide (HNB.out.step3 HX.out HY.out HT.out hi hu hs)
  clear HNB hi hu hs HFL
  have HNB := HNB'
  clear HNB'
  have hz2ok : OutOk Prod.fst (fun t : Nat × List Int => t.2.length) 100000 5000 nz2 := flush_ok HT.out 100000 5000 _ nz1 HOZ1.out
  have hz2len : nz2.b.length ≤ 5000 := by have := hz2ok.all; omega
  clear hz2ok
  have HLAY := hide (lay_any HT.out w19 gw nz2 _ none 0 0 [] rfl (fun _ => ⟨rfl, rfl⟩) (row_nil _ _ _) HNB.out.c (HZB.out _ _ _ _ _ _ _ _ _ HNB.out) (by omega))
  rw [n_h] at HLAY
  clear hz2len
  go_wp2_with fail
  refine HLAY.out.mono ?_
  rintro e w20 ⟨F', rfl, hi, hu, hs⟩
  have HNB' := hide (HNB.out.step3 HX.out HY.out HT.out hi hu hs)
  clear HNB hi hu hs HLAY
  have HNB := HNB'
  clear HNB'
  obtain ⟨a20, c20, h20⟩ := HNB.out.c.at0.2.2.2.2
  rw [show (layP nz2 []).b.length = 904 from n_l] at h20
  have HLF := hide (oleft_any gw a20 904 c20 w20 h20)
  clear h20
  go_wp2_with fail
  refine keep HLF.out ?_
  clear HLF
  have q5 := heap_alloc_new w20 (.cells #[.int .u8 97, .int .u8 98] 5 (2, 3))
  have hrv := HNB.out.own.row
  have HSM := hide (sameq av (some ⟨w20.heap.size, 0, none⟩) 2 cv 2 [97, 98] (w20.alloc (.cells #[.int .u8 97, .int .u8 98] 5 (2, 3))) (by unfold maxLen; omega) rfl (hrv.alloc _) (lit_row [97, 98] _ q5))
  have HEND : Hid (∀ m, Below w.heap.size w ((w20.alloc (.cells #[.int .u8 97, .int .u8 98] 5 (2, 3))).drewN m)) := hide (fun m => (HNB.out.bel.alloc HNB.out.bel.size _).trans (((Still.refl _).drewN m).below _))
  clear q5 hrv HNB
  have kc := fun (w : World) (C : Array Value) (n c : Nat) => Lib.run_convert_bytes_const (P := Try.prog) w 23 5 C n c Try.underlying23 Try.underlying5
  go_wp2_with fail
  refine HSM.out.mono ?_
  rintro e w21 ⟨rfl, m21, hw21⟩
  have hw21' := hw21
  subst hw21'
  go_wp2_with fail
  go_ret
  exact ⟨rfl, HEND.out _⟩

end Go.Proofs.Ytkginmhfpegkiaa
