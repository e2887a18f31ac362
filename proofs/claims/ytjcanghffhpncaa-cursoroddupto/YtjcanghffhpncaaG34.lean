/- CursorOuts: the walk. -/
import Derived.Test.YtjcanghffhpncaaG31
import Derived.Test.YtjcanghffhpncaaG30
import Derived.Test.YtjcanghffhpncaaG15
import Derived.Deep.MidRow
namespace Go.Proofs.Ytjcanghffhpncaa
open Go.RowKit

theorem infoLay : (Try.prog.info? 76).map (·.size) = some 2 := by kernel_rfl
/-- What is told, as it came in. -/
structure IsLays (w : World) (a : Option Addr) (len : Nat) (Kf : Nat → Int) (Af : Nat → Option Addr) (Lf Cf : Nat → Nat) (Zf : Nat → List Int) : Prop where
  cells : ∀ i, i < len → ∃ b o, a = some ⟨b, o, none⟩ ∧ w.rangeAt b (o + i * 2) [.int .i64 (Kf i), .slice (Af i) (Lf i) (Cf i)]
  none : ∀ i, i < len → Af i = none → Lf i = 0 ∧ Cf i = 0
  zlen : ∀ i, i < len → (Zf i).length = Lf i
  row : ∀ i, i < len → Row w .u8 (Af i) (Zf i)
def tot (Lf : Nat → Nat) : Nat → Nat
  | 0 => 0
  | i + 1 => tot Lf i + Lf i
theorem tot_le (Lf : Nat → Nat) {i n : Nat} (h : i ≤ n) : tot Lf i ≤ tot Lf n := by
  induction n with
  | zero => rw [Nat.le_zero.1 h]; exact Nat.le_refl _
  | succ n ih =>
    by_cases hi : i = n + 1
    · rw [hi]; exact Nat.le_refl _
    · exact Nat.le_trans (ih (by omega)) (Nat.le_add_right _ _)
theorem rangeL_below {B g o : Nat} {w w' : World} {cs : List Value} (hb : Below B w w') (hg : g < B) (h : w.rangeAt g o cs) : w'.rangeAt g o cs :=
  fun j v hv => (hb.cell (p := ⟨g, o + j, none⟩) hg).trans (h j v hv)
theorem row_ltL {w : World} {k : IntKind} {a : Option Addr} {zs : List Int} (h : Row w k a zs) {x : Addr} (hx : a = some x) (hp : 0 < zs.length) : x.block < w.heap.size := by
  obtain ⟨b, o, h1, h2, _⟩ := h.cons hp
  rw [hx] at h1
  cases h1
  exact h2
theorem three_newL (W : World) (a b c : Obj) : ((W.alloc a).alloc b |>.alloc c).heap[W.heap.size]? = some a ∧ ((W.alloc a).alloc b |>.alloc c).heap[W.heap.size + 1]? = some b ∧ ((W.alloc a).alloc b |>.alloc c).heap[W.heap.size + 2]? = some c := by
  have hs : ∀ (V : World) (x : Obj) (k : Nat), V.heap.size = k → (V.alloc x).heap[k]? = some x := fun V x k h => by rw [← h]; exact World.alloc_heap_new V x
  have ho : ∀ (V : World) (x : Obj) (k : Nat), k < V.heap.size → (V.alloc x).heap[k]? = V.heap[k]? := fun V x k h => Below.heap_alloc V x k h
  refine ⟨?_, ?_, hs _ _ _ (by simp)⟩
  · rw [ho _ _ _ (by simp only [World.size_alloc]; omega), ho _ _ _ (by simp)]; exact hs _ _ _ rfl
  · rw [ho _ _ _ (by simp)]; exact hs _ _ _ (by simp)
theorem IsOut.snk {ts : List Int} {fail : Int} {g B gc : Nat} {r : Value} {W : World} {x : OutS (Nat × List Int)} {F : Nat → Prop} (h : IsOut (SnkWd ts fail g B) B gc r W x F) : ∃ M, SnkAt W B M ts fail g x.t.1 x.t.2 := by
  obtain ⟨wv, off, M, _, hr, _⟩ := h
  exact ⟨M, hr⟩
theorem IsROut.snk {at' : Option Addr} {lt ct : Nat} {ts : List Int} {fail : Int} {g2 B gd : Nat} {W : World} {x : OutS (Nat × List Int)} {F : Nat → Prop} (h : IsROut (RSWd at' lt ct ts fail g2 B) B gd g2 W x F) : W.cell? ⟨g2, 2, none⟩ = some (.int .i64 (x.t.1 : Int)) ∧ ∃ ay cy, W.cell? ⟨g2, 3, none⟩ = some (.slice ay x.t.2.length cy) ∧ Row W .u8 ay x.t.2 := by
  obtain ⟨wv, off, i, M, _, hr, _⟩ := h
  obtain ⟨ay, cy, hs⟩ := (show RSAt W B M at' lt ct ts fail g2 x.t.1 x.t.2 from hr)
  exact ⟨(rsnk_cells hs.blk).2.2.1, ay, cy, (rsnk_cells hs.blk).2.2.2.1, row_of_owns2 hs.own⟩

theorem snk_push (ts : List Int) (fail : Int) (x : OutS (Nat × List Int)) (h : x.t.2.length = x.at') : (pushP (snkWf ts fail) x).2.2.t.2.length = (pushP (snkWf ts fail) x).2.2.at' := by
  by_cases hx : x.err ≠ 0 ∨ x.b = []
  · have hp : pushP (snkWf ts fail) x = (0, x.err, x) := by unfold pushP; rw [if_pos hx]
    rw [hp]; exact h
  · rw [push_step (Classical.byContradiction fun e => hx (.inl e)) (fun e => hx (.inr e)) _ rfl]
    unfold snkWf
    split
    · rw [if_neg (by simp)]
      simp only [Int.toNat_zero, Nat.add_zero]
      exact h
    · have hm := mostN_le ts (x.t.1 + 1) (x.b.take 4096).length
      rw [if_neg (by simp only; omega)]
      simp only [Int.toNat_natCast, List.length_append, List.length_take] at hm ⊢
      omega
theorem snk_flush (ts : List Int) (fail : Int) : ∀ (fu : Nat) (x : OutS (Nat × List Int)), x.t.2.length = x.at' → (flushF (snkWf ts fail) fu x).t.2.length = (flushF (snkWf ts fail) fu x).at'
  | 0, x, h => h
  | fu + 1, x, h => by
    rw [flushF]
    split
    · exact h
    · exact snk_flush ts fail fu _ (snk_push ts fail x h)
theorem snk_op (ts : List Int) (fail : Int) (k : Int) (ys : List Int) (x : OutS (Nat × List Int)) (h : x.t.2.length = x.at') : (opO (snkWf ts fail) k ys x).t.2.length = (opO (snkWf ts fail) k ys x).at' := by
  unfold opO
  split
  · unfold layP
    split
    · exact h
    · exact h
  · split
    · exact snk_push ts fail x h
    · split
      · exact snk_flush ts fail _ x h
      · exact h

set_option maxRecDepth 100000 in
set_option maxHeartbeats 3200000 in
theorem cursorOuts_any (at' as' : Option Addr) (lt ct ls cs : Nat) (ts : List Int) (fail : Int) (Kf : Nat → Int) (Af : Nat → Option Addr) (Lf Cf : Nat → Nat) (Zf : Nat → List Int) (w : World)
    (hlt : ts.length = lt) (hmt : lt * 8 ≤ 140737488351232) (nt : at' = none → lt = 0 ∧ ct = 0) (rt : Row w .i64 at' ts) (hms : ls ≤ 1048576) (hA : IsLays w as' ls Kf Af Lf Cf Zf) (htot : tot Lf ls ≤ 1048576) :
    Calls Try.prog 5 #[.slice at' lt ct, .int .i64 fail, .slice as' ls cs] w fun e w' => e = .returned (.bool true) ∧ Below w.heap.size w w' := by
  have HRT := hide rt
  have HNT := hide nt
  have HA := hide hA
  clear rt nt hA
  go_enter Try.func5, Try.ntmps5
  go_wp2_with fail
  refine (lives_any w).mono ?_
  rintro e w1 ⟨rfl, hb1⟩
  have HNS := hide (newSink_any at' lt ct ts fail w1 hlt (by omega) HNT.out (HRT.out.below2 hb1))
  have HB1 := hide hb1
  have hz1 := hb1.size
  clear hb1
  go_wp2_with fail
  refine HNS.out.mono ?_
  rintro e w2 ⟨g, M, rfl, hS, hb2⟩
  obtain ⟨B, hBe⟩ : ∃ B, B = w1.heap.size := ⟨_, rfl⟩
  rw [← hBe] at hS hb2 hz1
  have hb02 : Below w.heap.size w w2 := HB1.out.trans (hb2.mono hz1)
  have hz2 : B ≤ w2.heap.size := by have := hb2.size; omega
  have HS := hide hS
  have HB02 := hide hb02
  clear hS hb2 hBe HNS HB1 hb02
  have HNO := hide (newOut_any 33 (.pointer (some ⟨g, 0, none⟩)) (w2.alloc (.cells #[.slice at' lt ct, .int .i64 fail, .int .i64 0, .slice none 0 0, .bool false, .slice none 0 0, .slice none 0 0, .slice none 0 0] 70)))
  go_wp2_with fail
  refine HNO.out.mono ?_
  rintro e w3 ⟨rfl, rfl⟩
  have hne := three_newL w2 (.cells #[.slice at' lt ct, .int .i64 fail, .int .i64 0, .slice none 0 0, .bool false, .slice none 0 0, .slice none 0 0, .slice none 0 0] 70) (.cells #[.int .i64 0, .int .i64 0, .int .i64 0, .iface 33 (.pointer (some ⟨g, 0, none⟩)), .slice none 0 0] 95) (.cells #[.pointer (some ⟨w2.heap.size, 0, none⟩), .slice none 0 0, .int .i64 0, .int .i64 0, .int .i64 0] 73)
  have hU : Upd Noth w2 (((w2.alloc (.cells #[.slice at' lt ct, .int .i64 fail, .int .i64 0, .slice none 0 0, .bool false, .slice none 0 0, .slice none 0 0, .slice none 0 0] 70)).alloc (.cells #[.int .i64 0, .int .i64 0, .int .i64 0, .iface 33 (.pointer (some ⟨g, 0, none⟩)), .slice none 0 0] 95)).alloc (.cells #[.pointer (some ⟨w2.heap.size, 0, none⟩), .slice none 0 0, .int .i64 0, .int .i64 0, .int .i64 0] 73)) := (((Upd.refl _ _).alloc _).alloc _).alloc _
  go_upto_region 8 with fail
  generalize (((w2.alloc (.cells #[.slice at' lt ct, .int .i64 fail, .int .i64 0, .slice none 0 0, .bool false, .slice none 0 0, .slice none 0 0, .slice none 0 0] 70)).alloc (.cells #[.int .i64 0, .int .i64 0, .int .i64 0, .iface 33 (.pointer (some ⟨g, 0, none⟩)), .slice none 0 0] 95)).alloc (.cells #[.pointer (some ⟨w2.heap.size, 0, none⟩), .slice none 0 0, .int .i64 0, .int .i64 0, .int .i64 0] 73)) = w5 at *
  obtain ⟨g2, hg2⟩ : ∃ g2, g2 = w2.heap.size := ⟨_, rfl⟩
  obtain ⟨gc, hgc⟩ : ∃ gc, gc = g2 + 1 := ⟨_, rfl⟩
  obtain ⟨gd, hgd⟩ : ∃ gd, gd = g2 + 1 + 1 := ⟨_, rfl⟩
  rw [← hg2] at hne ⊢
  rw [← hgd, ← hgc]
  have hz5 : w2.heap.size ≤ w5.heap.size := hU.size
  have HX := hide (snk_writer ts fail g B)
  have HY := hide (rsnk_writer at' lt ct ts fail g2 B hlt)
  have hMl := HS.out.lt
  have hb05 : Below w.heap.size w w5 := HB02.out.trans (hU.toBelow.mono HB02.out.size)
  have hgd5 : gd < w5.heap.size := by have := lt_of_block hne.2.2; omega
  have H0 : Hid (OP (SnkWd ts fail g B) (RSWd at' lt ct ts fail g2 B) B gc gd g2 (.iface 33 (.pointer (some ⟨g, 0, none⟩))) w5 (fun j => M j ∨ j = gc) (fun j => j = g2 ∨ j = gd) w5 ⟨(0, []), [], 0, 0, 0⟩ (fun j => M j ∨ j = gc) (fun j => j = g2 ∨ j = gd)) := hide (by
    refine ⟨⟨.slice none 0 0, 0, M, ?_, ?_, .inl ⟨rfl, rfl⟩, fun e => by have := (hMl _ e).2; omega, by omega, (fun j hj => by cases hj), fun j => ⟨fun h => h.elim .inl (fun h => .inr (.inl h)), fun h => h.elim .inl (fun h => h.elim .inr (fun h => by cases h))⟩⟩, ⟨.slice none 0 0, 0, 0, (fun j => j = g2), ?_, ?_, .inl ⟨rfl, rfl⟩, by omega, by omega, (fun j hj => by cases hj), fun _ => rfl, fun j => ⟨fun h => h.elim .inl (fun h => .inr (.inl h)), fun h => h.elim .inl (fun h => h.elim .inr (fun h => by cases h))⟩⟩, fun _ h => .inl h, fun _ h => .inl h, fun j h e => ?_, Upd.refl _ _⟩
    · have := hne.2.1; rw [← hgc] at this; exact this
    · exact HS.out.upd hU (fun _ _ e => e)
    · have := hne.2.2; rw [show g2 + 2 = gd from by omega] at this; exact this
    · refine ⟨none, 0, hne.1, HRT.out.below2 hb05, fun x hx h0 => by have := row_ltL HRT.out hx h0; omega, World.ownsRow_nil _ _ _ _, (fun i h => by cases h), rfl, fun i hi => ?_⟩
      have e' : i = g2 := hi
      omega
    · rcases h with h | h
      · have := (hMl _ h).2; omega
      · omega)
  have HOK0 : Hid (OutOk (τ := Nat × List Int) Prod.fst (fun t => t.2.length) (16 + 17 * tot Lf 0) (tot Lf 0) ⟨(0, []), [], 0, 0, 0⟩) := ⟨fun _ => by simp, fun _ => by simp [tot], fun _ => by simp [tot], by simp [tot]⟩
  have HB05 := hide hb05
  have hMB : Hid (∀ i, M i → B ≤ i) := fun i hi => (hMl i hi).1
  have hgcB : B ≤ gc := by omega
  have hgdB : B ≤ gd := by omega
  have hg2B : B ≤ g2 := by omega
  have hwB : w.heap.size ≤ B := hz1
  have hB5 : B ≤ w5.heap.size := by omega
  clear hne hU hMl hb05 hz5 HNO hgc hgd hg2 hgd5
  go_wp2_with fail
  go_loopw [12] (fun q wr => ∃ (i : Nat) (x : OutS (Nat × List Int)) (F G : Nat → Prop), i ≤ ls ∧ q = .int .i64 i ∧ Hid (OP (SnkWd ts fail g B) (RSWd at' lt ct ts fail g2 B) B gc gd g2 (.iface 33 (.pointer (some ⟨g, 0, none⟩))) w5 (fun j => M j ∨ j = gc) (fun j => j = g2 ∨ j = gd) wr x F G) ∧ Hid (OutOk Prod.fst (fun t : Nat × List Int => t.2.length) (16 + 17 * tot Lf i) (tot Lf i) x) ∧ Hid (x.t.2.length = x.at')) (fun q _ => ls - (intOf q).toNat)
  case atStart => exact ⟨0, _, _, _, by omega, rfl, H0, HOK0, rfl⟩
  case round =>
    clear H0 HOK0
    obtain ⟨i, x, F, G, hi, rfl, HAP, HOK, HEQ⟩ := hrel
    have hbW : Below w.heap.size w wr := HB05.out.trans ((HAP.out.up.below (n := w.heap.size) (by omega) (fun k hk e => e.elim (fun e => e.elim (fun e => by have := hMB.out k e; omega) (fun e => by omega)) (fun e => by omega))))
    have HBW := hide hbW
    by_cases hlti : i < ls
    · obtain ⟨b, o, ha, hrg⟩ := HA.out.cells i hlti
      subst ha
      have hbw : b < w.heap.size := World.block_lt_of_cell? w ⟨b, o + i * 2 + 0, none⟩ (hrg 0 _ rfl)
      have hrW := rangeL_below hbW hbw hrg
      have hidx : (i : Int) < (ls : Int) := by omega
      have htl := tot_le Lf (show i + 1 ≤ ls by omega)
      have htl2 : tot Lf (i + 1) = tot Lf i + Lf i := rfl
      have hzl := HA.out.zlen i hlti
      have HTLD := hide (told_any (snk_leads g) HX.out HY.out (Kf i) (Af i) (Lf i) (Cf i) (Zf i) wr x F G _ _ hzl (HA.out.none i hlti) ((HA.out.row i hlti).below2 hbW) (fun y hy h0 => by have := row_ltL (HA.out.row i hlti) hy (by omega); omega) HAP.out.a HAP.out.b HAP.out.dis HOK.out (by omega) (by omega) (Nat.le_trans hB5 HAP.out.up.size))
      have HOK1 : Hid (OutOk Prod.fst (fun t : Nat × List Int => t.2.length) (16 + 17 * tot Lf (i + 1)) (tot Lf (i + 1)) (opO (snkWf ts fail) (Kf i) (Zf i) x)) := (opO_ok HX.out HOK.out (Kf i) (Zf i)).mono (by rw [hzl, htl2]; omega) (by rw [hzl, htl2]; exact Nat.le_refl _)
      clear hbW hrg hbw htl2 hzl
      go_wp2_with (first
        | (refine wpList_load_mid rfl 76 (.tmp 49) rfl b (o + i * 2) rfl _ _ hrW Try.underlying76 rfl infoLay ?_)
        | (go_at_call 26; refine HTLD.out.mono ?_; rintro e w6 ⟨rfl, F', G', hap⟩; have HAP1 := hide hap; clear hap)
        | fail)
      have hap2 := HAP.out.trans HAP1.out
      have HEQ1 := hide (snk_op ts fail (Kf i) (Zf i) x HEQ.out)
      have hall := HOK1.out.all
      generalize opO (snkWf ts fail) (Kf i) (Zf i) x = y at *
      obtain ⟨M6, hsn⟩ := hap2.a.snk
      obtain ⟨q2, ay6, cy6, q3, r3⟩ := hap2.b.snk
      have hyl : y.t.2.length ≤ 1048576 := by rw [HEQ1.out]; omega
      have HC := hide (scalls_any hsn)
      have HBY := hide (sbytes_any hsn (by omega))
      have HAP2 := hide hap2
      have HR3 := hide r3
      obtain ⟨c', hc'⟩ : ∃ c', c' = y.t.1 := ⟨_, rfl⟩
      obtain ⟨n', hn'⟩ : ∃ n', n' = y.t.2.length := ⟨_, rfl⟩
      rw [← hc'] at HC q2
      rw [← hn'] at q3 hyl
      have HN' := hide hn'
      clear hap2 hsn r3 hc' hn' HAP HAP1 hall HTLD
      go_wp2_with (first
        | (go_at_call 27; refine keep HC.out ?_)
        | (go_at_call 28; refine HBY.out.mono ?_; rintro e w7 ⟨v7, rfl, ho7, hb7⟩; obtain ⟨a7, c7, rfl, _, _, _⟩ := ho7.sliceN HN'.out.symm; have p2 := (hb7.cell (p := ⟨g2, 2, none⟩) (World.block_lt_of_cell? _ ⟨g2, 2, none⟩ q2)).trans q2; have p3 := (hb7.cell (p := ⟨g2, 3, none⟩) (World.block_lt_of_cell? _ ⟨g2, 3, none⟩ q3)).trans q3; have HSQ := hide (sameq a7 ay6 n' c7 cy6 y.t.2 w7 (by unfold maxLen; omega) HN'.out.symm ho7.row (HR3.out.below2 hb7)); have HB7 := hide hb7; clear ho7 hb7)
        | (go_at_call 22; refine HSQ.out.mono ?_; rintro e w8 ⟨rfl, m8, hw8⟩; have p2' : w8.cell? ⟨g2, 2, none⟩ = some (.int .i64 (c' : Int)) := (by rw [hw8]; exact p2); have U8 : Hid (Upd Noth w6 w8) := (by rw [hw8]; exact (Upd.of_below HB7.out Noth).trans (((Still.refl w7).drewN m8).upd Noth)); clear hw8)
        | fail)
      go_roundw
      case rel => exact ⟨i + 1, y, F', G', by omega, by go_num, HAP2.out.upd HX.out HY.out U8.out (fun _ e => e.elim) (fun _ _ e => e.elim), HOK1, HEQ1⟩
      case measure => simp [intOf]; omega
    · obtain rfl : i = ls := by omega
      have hidx : ¬ ((i : Nat) : Int) < (i : Int) := by omega
      go_wp2_with fail
      go_ret
      exact ⟨rfl, HBW.out⟩

end Go.Proofs.Ytjcanghffhpncaa
