/- PipeChunks, whole. -/
import Derived.Test.YtcffekhlnidjnaaPChk2
namespace Go.Proofs.Ytcffekhlnidjnaa
open Go.RowKit Go.Shelf
attribute [local go_sem] Oper.semAt_some

def ChkEnd (n : Nat) (w : World) : Exit → Act → World → Prop := bodyPostM Fence.wide n Try.prog Try.f6 (fun e w' => e = .returned (.bool true) ∧ Below w.heap.size w w')
theorem chk_leave (n : Nat) (w W : World) (tmps : Array Value) (ds : List Deferred) (B6 L0 : Nat) (h6 : tmps[6]? = some (.pointer (some ⟨B6, 0, none⟩))) (hb : Below w.heap.size w W) (hl : w.heap.size ≤ L0) (hm : Marks L0 ds W)
    (b : Boxed W B6 4 (.bool true)) : ChkEnd n w .ret { tmps := tmps, defers := ds } W := by
  refine hm.leave (fun W' hb' hbx => ?_)
  have c := (hbx _ _ _ b).cell
  exact ⟨.bool true, by simp [results, Try.results6, go_sem, c, h6], rfl, hb.trans (hb'.mono hl)⟩

theorem chk_rounds (n : Nat) (hn : 12 ≤ n) (w w1 : World) (N L0 : Nat) (zs gs : List Int) (fail : Int) (eager : Bool) (size : Int) (ab : Option Addr) (lb cb : Nat) (ag : Option Addr) (lg cg : Nat) (al : Option Addr) (ll cl g r B6 : Nat) (lv : List Int) (M : Nat → Prop) (hlb : zs.length = lb) (hlg : gs.length = lg)
    (hF : ChF w w1 N L0 zs al ll lv B6 r M) (Q : Exit → Act → World → Prop) (hQ : ∀ act X', CEnd w w1 N L0 size al ll cl g r B6 act X' → Q (.exit 0) act X') : ∀ (m i : Nat) (act : Act) (X : World), CAt w w1 N L0 zs gs fail eager size ab lb cb ag lg cg al ll cl g r B6 M i act X → i + m = ll + 2 → i ≤ ll + 1 →
    Code.roundsIn Fence.wide n Try.prog (loopOf (firstOf (partOf 4 (Try.f6.body.getD .skip)))) Q m act X
  | 0, i, act, X, h, hc, h2 => by omega
  | m + 1, i, act, X, h, hc, h2 => by
    rw [roundsIn_succ]
    refine wpIn_mono (chk_round n hn w w1 N L0 zs gs fail eager size ab lb cb ag lg cg al ll cl g r B6 lv M hlb hlg hF i h2 act X Q h hQ) (fun e act' X' he => ?_)
    cases e with
    | normal => exact chk_rounds n hn w w1 N L0 zs gs fail eager size ab lb cb ag lg cg al ll cl g r B6 lv M hlb hlg hF Q hQ m (i + 1) act' X' he.2 (by omega) (by have h3 : i ≤ ll := he.1; omega)
    | exit id => exact he
    | goto t => exact he
    | ret => exact he
    | panic ch => exact he
    | outgrown => exact he

set_option maxRecDepth 100000 in
set_option maxHeartbeats 1000000 in
theorem chk_last (n : Nat) (w w1 : World) (N L0 : Nat) (zs : List Int) (size : Int) (al : Option Addr) (ll cl g r B6 : Nat) (lv : List Int) (M : Nat → Prop)
    (hF : ChF w w1 N L0 zs al ll lv B6 r M) (act : Act) (X : World) (h : CEnd w w1 N L0 size al ll cl g r B6 act X) :
    (partOf 5 (Try.f6.body.getD .skip)).wpIn Fence.wide n Try.prog (ChkEnd n w) act X := by
  obtain ⟨f, ds, rfl, hu, hmk⟩ := h
  have hl6 := hF.b6.lt
  have hN := hF.hN
  have b6 := boxed_upd hF.b6 hu (by omega)
  have c6 := b6.cell
  have f6 := b6.frozen
  have hbX : Below w.heap.size w X := hF.bel.trans (hu.below hF.bel.size (fun j hj e => by have := hF.bel.size; omega))
  have hb3 : Below w.heap.size X (X.setCell ⟨B6, 0, none⟩ (.bool true)) := Upd.below ((Upd.refl (fun k => k = B6) X).setCell ⟨B6, 0, none⟩ _ (fun _ => rfl)) hbX.size (fun k hk e => by have := hF.b6w; omega)
  have HF := hide (hbX.trans hb3)
  have HMK : Hid (Marks L0 ds (X.setCell ⟨B6, 0, none⟩ (.bool true))) := hmk.kept fun D _ hD => (Below.heap_setCell _ _ _ _ (fun e => by
    have e' : D = B6 := e
    subst e'
    rw [show X.heap[D]? = _ from b6] at hD
    cases hD)).trans hD
  have HB6 := hide (b6.set (.bool true))
  have HWL := hide hF.wl
  clear hb3 hu hmk hF hl6 hN b6 hbX
  conv => arg 4; whnf
  gi_wp2
  exact chk_leave n w _ _ _ B6 L0 rfl HF.out HWL.out HMK.out HB6.out

theorem chk_entry (x y z : Value) : ∃ f : Nat → Value, (#[x, y, z] ++ Array.replicate 96 undef : Array Value) = #[x, y, z, f 3, f 4, f 5, f 6, f 7, f 8, f 9, f 10, f 11, f 12, f 13, f 14, f 15, f 16, f 17, f 18, f 19, f 20, f 21, f 22, f 23, f 24, f 25, f 26, f 27, f 28, f 29, f 30, f 31, f 32, f 33, f 34, f 35, f 36, f 37, f 38, f 39, f 40, f 41, f 42, f 43, f 44, f 45, f 46, f 47, f 48, f 49, f 50, f 51, f 52, f 53, f 54, f 55, f 56, f 57, f 58, f 59, f 60, f 61, f 62, f 63, f 64, f 65, f 66, f 67, f 68, f 69, f 70, f 71, f 72, f 73, f 74, f 75, f 76, f 77, f 78, f 79, f 80, f 81, f 82, f 83, f 84, f 85, f 86, f 87, f 88, f 89, f 90, f 91, f 92, f 93, f 94, f 95, f 96, f 97, f 98] := by
  have h0 : (#[x, y, z] ++ Array.replicate 96 undef : Array Value)[0]? = some x := by rw [Array.getElem?_append_left (by simp)]; rfl
  have h1 : (#[x, y, z] ++ Array.replicate 96 undef : Array Value)[1]? = some y := by rw [Array.getElem?_append_left (by simp)]; rfl
  have h2 : (#[x, y, z] ++ Array.replicate 96 undef : Array Value)[2]? = some z := by rw [Array.getElem?_append_left (by simp)]; rfl
  have hs : (#[x, y, z] ++ Array.replicate 96 undef : Array Value).size = 99 := by simp
  generalize (#[x, y, z] ++ Array.replicate 96 undef : Array Value) = t at *
  refine ⟨fun i => t.getD i undef, (cframe_of t hs).trans ((cframe_list fun i => t.getD i undef).symm.trans ?_)⟩
  rw [getD_of h0, getD_of h1, getD_of h2]

set_option maxRecDepth 100000 in
set_option maxHeartbeats 2000000 in
theorem chk_in (n : Nat) (hn : 12 ≤ n) (ab ag al : Option Addr) (lb cb lg cg ll cl : Nat) (zs gs lv : List Int) (fail size : Int) (eager : Bool) (w : World)
    (hlb : zs.length = lb) (hlg : gs.length = lg) (hll : lv.length = ll) (hm : lb ≤ 140737488351232) (hmg : lg * 8 ≤ 140737488351232) (hml : ll ≤ 140737488351232)
    (nb : ab = none → lb = 0 ∧ cb = 0) (ng : ag = none → lg = 0 ∧ cg = 0) (rb : Row w .u8 ab zs) (rg : Row w .i64 ag gs) (rl : Row w .u8 al lv) (b8 : B8 zs) (l8 : B8 lv) :
    CallsIn Fence.wide n Try.prog 6 #[.agg #[.slice ab lb cb, .slice ag lg cg, .int .i64 fail, .bool eager], .int .i64 size, .slice al ll cl] w fun e w' => e = .returned (.bool true) ∧ Below w.heap.size w w' := by
  have h1 : 1 ≤ n := by omega
  refine callsIn_of_wp_marks Try.func6 rfl trivial ?_ rfl
  simp only [Try.ntmps6, List.size_toArray, List.length_cons, List.length_nil, Nat.reduceAdd, Nat.reduceSub]
  obtain ⟨f, hf⟩ := chk_entry (.agg #[.slice ab lb cb, .slice ag lg cg, .int .i64 fail, .bool eager]) (.int .i64 size) (.slice al ll cl)
  rw [hf]
  clear hf
  gi_wp2
  obtain ⟨B3, hB3⟩ : ∃ B3, B3 = w.heap.size := ⟨_, rfl⟩
  obtain ⟨wA, hwA⟩ : ∃ wA, (w.alloc (.cells #[.slice ab lb cb, .slice ag lg cg, .int .i64 fail, .bool eager] 26)).alloc (.cells #[.bool false] 4) = wA := ⟨_, rfl⟩
  have belA : Below B3 w wA := by rw [← hwA, hB3]; exact ((Below.refl _ _).alloc (Nat.le_refl _) _).alloc (by simp) _
  have sA : wA.heap.size = B3 + 2 := by rw [← hwA, hB3]; simp
  have d3 : wA.heap[B3]? = some (.cells #[.slice ab lb cb, .slice ag lg cg, .int .i64 fail, .bool eager] 26 (0, 0)) := by rw [← hwA, hB3]; exact (Below.heap_alloc _ _ _ (by simp)).trans (heap_alloc_new w _)
  have d6 : Boxed wA (B3 + 1) 4 (.bool false) := by
    rw [← hwA, hB3]
    have := Boxed.new (w.alloc (.cells #[.slice ab lb cb, .slice ag lg cg, .int .i64 fail, .bool eager] 26)) 4 (.bool false)
    rwa [World.size_alloc] at this
  rw [hwA]
  rw [← hB3]
  have HB3 := hide hB3
  have HSA := hide sA
  have HBEL := hide belA
  clear hwA hB3 sA belA
  refine ⟨trivial, ((callsIn_wide (n := n - 1)).2 (lives_any wA)).mono ?_⟩
  rintro e w1 ⟨rfl, hb1⟩
  have q3 := (hb1.block B3 (lt_of_block d3)).trans d3
  have q6 := boxed_below d6 hb1
  have bel1 : Hid (Below B3 w w1) := HBEL.out.trans (hb1.mono (by have := HSA.out; omega))
  have bw1 : Hid (Below w.heap.size w w1) := HB3.out ▸ bel1.out
  have hs1 := hb1.size
  obtain ⟨c0, c1, c2, c3, _⟩ := feed_cells q3
  have HSO := hide ((callsIn_wide (n := n - 1)).2 (source_any ab ag lb cb lg cg zs gs fail eager w1 hlb hlg (by omega) (by omega) nb ng (rb.below2 bw1.out) (rg.below2 bw1.out)))
  have HS1 : Hid (B3 + 2 ≤ w1.heap.size) := by show _ ≤ _; have := HSA.out; omega
  clear d3 d6 hb1 HBEL q3 hs1
  gi_wp2
  refine ⟨trivial, HSO.out.mono ?_⟩
  rintro e w2 ⟨g, M, r, rfl, hS, hM, hR, hr, hb2⟩
  have hsz2 := hb2.size
  have hF : ChF w w1 w1.heap.size w2.heap.size zs al ll lv (B3 + 1) r M := ⟨fun j hj => (hM j hj).1, fun e => (hM r e).2 rfl, rfl, bw1.out, rl.below2 bw1.out, q6, by have := HB3.out; omega, hll, l8, hml, by omega, b8, hS.lt.1, lt_of_block hR, by have := bw1.out.size; omega⟩
  have hW : ChW w1 w2 w1.heap.size zs gs fail eager ab lb cb ag lg cg g r M 0 0 0 := ⟨hS, ⟨fun i => i = r, fun _ => Iff.rfl, hR, rb.below2 (bw1.out.trans (hb2.mono bw1.out.size)), rg.below2 (bw1.out.trans (hb2.mono bw1.out.size)), Nat.zero_le _, hr, fun x hx h0 => by have := row_ltC rb hx (by omega); have := bw1.out.size; omega, fun x hx h0 => by have := row_ltC rg hx (by omega); have := bw1.out.size; omega⟩, Upd.of_below hb2 _, by omega⟩
  have HF := hide hF
  have HW := hide hW
  clear hS hM hR hr hb2 HSO c0 c1 c2 c3 hF hW q6 hsz2
  gi_wp2
  rename_i K hK
  refine wpIn_loop_rounds (ll + 2) ?_
  exact chk_rounds n hn w w1 w1.heap.size w2.heap.size zs gs fail eager size ab lb cb ag lg cg al ll cl g r (B3 + 1) lv M hlb hlg HF.out _ (fun act X' h => inBlock_exit (hK _ _ (chk_last n w w1 w1.heap.size w2.heap.size zs size al ll cl g r (B3 + 1) lv M HF.out act X' h))) (ll + 2) 0 _ _ (CAt.mk rfl rfl rfl rfl rfl rfl rfl HW.out (Nat.le_refl _) trivial) (by omega) (by omega)

theorem pipeChunks_any (ab ag al : Option Addr) (lb cb lg cg ll cl : Nat) (zs gs lv : List Int) (fail size : Int) (eager : Bool) (w : World)
    (hlb : zs.length = lb) (hlg : gs.length = lg) (hll : lv.length = ll) (hm : lb ≤ 140737488351232) (hmg : lg * 8 ≤ 140737488351232) (hml : ll ≤ 140737488351232)
    (nb : ab = none → lb = 0 ∧ cb = 0) (ng : ag = none → lg = 0 ∧ cg = 0) (rb : Row w .u8 ab zs) (rg : Row w .i64 ag gs) (rl : Row w .u8 al lv) (b8 : B8 zs) (l8 : B8 lv) :
    Calls Try.prog 6 #[.agg #[.slice ab lb cb, .slice ag lg cg, .int .i64 fail, .bool eager], .int .i64 size, .slice al ll cl] w fun e w' => e = .returned (.bool true) ∧ Below w.heap.size w w' :=
  callsIn_wide.1 (chk_in 12 (Nat.le_refl _) ab ag al lb cb lg cg ll cl zs gs lv fail size eager w hlb hlg hll hm hmg hml nb ng rb rg rl b8 l8)

end Go.Proofs.Ytcffekhlnidjnaa
