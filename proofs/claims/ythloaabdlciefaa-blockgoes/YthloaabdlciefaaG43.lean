/- BlockGoes, whole. -/
import Derived.Test.YthloaabdlciefaaG42
import Derived.Test.YthloaabdlciefaaG37
namespace Go.Proofs.Ythloaabdlciefaa
open Go.RowKit Go.Shelf
attribute [local go_sem] Oper.semAt_some

def GoesEnd (n : Nat) (w : World) : Exit → Act → World → Prop := bodyPostM Fence.wide n Try.prog Try.f7 (fun e w' => e = .returned (.bool true) ∧ Below w.heap.size w w')
theorem goes_leave (n : Nat) (w W : World) (tmps : Array Value) (ds : List Deferred) (B4 : Nat) (h4 : tmps[4]? = some (.pointer (some ⟨B4, 0, none⟩))) (hb : Below w.heap.size w W) (hm : Marks w.heap.size ds W)
    (b : Boxed W B4 4 (.bool true)) : GoesEnd n w .ret { tmps := tmps, defers := ds } W := by
  refine hm.leave (fun W' hb' hbx => ?_)
  have c := (hbx _ _ _ b).cell
  exact ⟨.bool true, by simp [results, Try.results7, go_sem, c, h4], rfl, hb.trans hb'⟩

theorem goes_rounds (n : Nat) (hn : 12 ≤ n) (a : Option Addr) (len cap : Nat) (zs : List Int) (most : Int) (w X0 : World) (g gb B3 B4 B7 B12 : Nat) (Es : List Ent) (aw : Option Addr) (bw cw : Nat) (hl : zs.length = len) (hm : len ≤ 140737488351232) (z8 : B8 zs)
    (hG : GW w X0 len zs most g gb B3 B4 B7 B12 Es aw bw cw) (Q : Exit → Act → World → Prop) (hQ : ∀ act X', GTE w X0 a len cap g B3 B4 B7 B12 act X' → Q (.exit 0) act X') : ∀ (m turn : Nat) (act : Act) (X : World), GTA w X0 a len cap g B3 B4 B7 B12 turn act X → turn + m = 3 → turn ≤ 2 →
    Code.roundsIn Fence.wide n Try.prog (loopOf (firstOf (partOf 6 (Try.f7.body.getD .skip)))) Q m act X
  | 0, turn, act, X, h, hc, h2 => by omega
  | m + 1, turn, act, X, h, hc, h2 => by
    rw [roundsIn_succ]
    refine wpIn_mono (goes_round n hn a len cap zs most w X0 g gb B3 B4 B7 B12 Es aw bw cw hl hm z8 hG turn h2 act X Q h hQ) (fun e act' X' he => ?_)
    cases e with
    | normal => exact goes_rounds n hn a len cap zs most w X0 g gb B3 B4 B7 B12 Es aw bw cw hl hm z8 hG Q hQ m (turn + 1) act' X' he.2 (by omega) (by have h3 : turn < 2 := he.1; omega)
    | exit id => exact he
    | goto t => exact he
    | ret => exact he
    | panic ch => exact he
    | outgrown => exact he

set_option maxRecDepth 100000 in
set_option maxHeartbeats 1000000 in
theorem goes_last (n : Nat) (h1 : 12 ≤ n) (a : Option Addr) (len cap : Nat) (zs : List Int) (most : Int) (w X0 : World) (g gb B3 B4 B7 B12 : Nat) (Es : List Ent) (aw : Option Addr) (bw cw : Nat) (hl : zs.length = len) (hm : len ≤ 140737488351232) (hr : Row w .u8 a zs)
    (hG : GW w X0 len zs most g gb B3 B4 B7 B12 Es aw bw cw) (hB4 : w.heap.size ≤ B4) (act : Act) (X : World) (h : GTE w X0 a len cap g B3 B4 B7 B12 act X) :
    (partOf 7 (Try.f7.body.getD .skip)).wpIn Fence.wide n Try.prog (GoesEnd n w) act X := by
  obtain ⟨f, ds, rfl, hu, hmk⟩ := h
  have h1' : 1 ≤ n := by omega
  have gx := hG.still hu
  have hRow := hr.below2 gx.bel
  have HKP := hide ((callsIn_wide (n := n - 1)).2 (kept_any g a len cap zs X hl (by omega) gx.lent hRow))
  have b4 := gx.b4
  have c4 := b4.cell
  have f4 := b4.frozen
  have HB := hide gx.bel
  have HM := hide hmk
  have HL4 := hide hB4
  clear hu hmk gx hG hRow
  conv => arg 4; whnf
  gi_wp2
  refine ⟨trivial, HKP.out.mono ?_⟩
  rintro e w2 ⟨rfl, hst⟩
  have hb2 : Below X.heap.size X w2 := hst.below _
  have b42 := boxed_below b4 hb2
  have c42 := b42.cell
  have f42 := b42.frozen
  have hb3 : Below w.heap.size w2 (w2.setCell ⟨B4, 0, none⟩ (.bool true)) := Upd.below ((Upd.refl (fun k => k = B4) w2).setCell ⟨B4, 0, none⟩ _ (fun _ => rfl)) (Nat.le_trans HB.out.size hb2.size) (fun k hk e => by have := HL4.out; omega)
  have HF := hide (show Below w.heap.size w (w2.setCell ⟨B4, 0, none⟩ (.bool true)) from (HB.out.trans (hb2.mono HB.out.size)).trans hb3)
  have HMK : Hid (Marks w.heap.size ds (w2.setCell ⟨B4, 0, none⟩ (.bool true))) := (HM.out.below hb2).kept fun D _ hD => (Below.heap_setCell _ _ _ _ (fun e => by
    have e' : D = B4 := e
    subst e'
    rw [show w2.heap[D]? = _ from b42] at hD
    cases hD)).trans hD
  have HB4 := hide (b42.set (.bool true))
  clear hb3 hb2 b42 hst b4 c4 f4
  gi_wp2
  exact goes_leave n w _ _ _ B4 rfl HF.out HMK.out HB4.out

theorem goes_entry (x y : Value) : ∃ f : Nat → Value, (#[x, y] ++ Array.replicate 106 undef : Array Value) = #[x, y, f 2, f 3, f 4, f 5, f 6, f 7, f 8, f 9, f 10, f 11, f 12, f 13, f 14, f 15, f 16, f 17, f 18, f 19, f 20, f 21, f 22, f 23, f 24, f 25, f 26, f 27, f 28, f 29, f 30, f 31, f 32, f 33, f 34, f 35, f 36, f 37, f 38, f 39, f 40, f 41, f 42, f 43, f 44, f 45, f 46, f 47, f 48, f 49, f 50, f 51, f 52, f 53, f 54, f 55, f 56, f 57, f 58, f 59, f 60, f 61, f 62, f 63, f 64, f 65, f 66, f 67, f 68, f 69, f 70, f 71, f 72, f 73, f 74, f 75, f 76, f 77, f 78, f 79, f 80, f 81, f 82, f 83, f 84, f 85, f 86, f 87, f 88, f 89, f 90, f 91, f 92, f 93, f 94, f 95, f 96, f 97, f 98, f 99, f 100, f 101, f 102, f 103, f 104, f 105, f 106, f 107] := by
  have h0 : (#[x, y] ++ Array.replicate 106 undef : Array Value)[0]? = some x := by rw [Array.getElem?_append_left (by simp)]; rfl
  have h1 : (#[x, y] ++ Array.replicate 106 undef : Array Value)[1]? = some y := by rw [Array.getElem?_append_left (by simp)]; rfl
  have hs : (#[x, y] ++ Array.replicate 106 undef : Array Value).size = 108 := by simp
  generalize (#[x, y] ++ Array.replicate 106 undef : Array Value) = t at *
  refine ⟨fun i => t.getD i undef, (gframe_of t hs).trans ((gframe_list fun i => t.getD i undef).symm.trans ?_)⟩
  rw [getD_of h0, getD_of h1]

set_option maxRecDepth 100000 in
set_option maxHeartbeats 2000000 in
theorem goes_in (n : Nat) (hn : 12 ≤ n) (a : Option Addr) (len cap : Nat) (zs : List Int) (most : Int) (w : World)
    (hl : zs.length = len) (hm : len ≤ 140737488351232) (hcl : len ≤ cap) (hnone : a = none → len = 0 ∧ cap = 0) (hr : Row w .u8 a zs) (z8 : B8 zs) :
    CallsIn Fence.wide n Try.prog 7 #[.slice a len cap, .int .i64 most] w fun e w' => e = .returned (.bool true) ∧ Below w.heap.size w w' := by
  have h1 : 1 ≤ n := by omega
  refine callsIn_of_wp_marks Try.func7 rfl trivial ?_ rfl
  simp only [Try.ntmps7, List.size_toArray, List.length_cons, List.length_nil, Nat.reduceAdd, Nat.reduceSub]
  obtain ⟨f, hf⟩ := goes_entry (.slice a len cap) (.int .i64 most)
  rw [hf]
  clear hf
  gi_wp2
  obtain ⟨B3, hB3⟩ : ∃ B3, B3 = w.heap.size := ⟨_, rfl⟩
  obtain ⟨w1, hw1⟩ : ∃ w1, (w.alloc (.cells #[.int .i64 most] 3)).alloc (.cells #[.bool false] 4) = w1 := ⟨_, rfl⟩
  have bel1 : Below B3 w w1 := by rw [← hw1, hB3]; exact ((Below.refl _ _).alloc (Nat.le_refl _) _).alloc (by simp) _
  have s1 : w1.heap.size = B3 + 2 := by rw [← hw1, hB3]; simp
  have d3 : Boxed w1 B3 3 (.int .i64 most) := by rw [← hw1, hB3]; exact (Boxed.new w _ _).alloc _
  have d4 : Boxed w1 (B3 + 1) 4 (.bool false) := by
    rw [← hw1, hB3]
    have := Boxed.new (w.alloc (.cells #[.int .i64 most] 3)) 4 (.bool false)
    rwa [World.size_alloc] at this
  rw [hw1]
  rw [← hB3]
  have HB3 := hide hB3
  have HS1 := hide s1
  have HBEL := hide bel1
  clear hw1 hB3 s1 bel1
  refine ⟨trivial, ((callsIn_wide (n := n - 1)).2 (lives_any w1)).mono ?_⟩
  rintro e w3 ⟨rfl, hb3⟩
  have q3 := boxed_below d3 hb3
  have q4 := boxed_below d4 hb3
  have bel3 : Hid (Below B3 w w3) := HBEL.out.trans (hb3.mono (by have := HS1.out; omega))
  have hr3 := hr.below2 (HB3.out ▸ bel3.out)
  have HLN := hide ((callsIn_wide (n := n - 1)).2 (lent_any a len cap zs w3 hl (by omega) hnone hr3))
  have hs3 := hb3.size
  clear d3 d4 hb3 HBEL
  gi_wp2
  refine ⟨trivial, HLN.out.mono ?_⟩
  rintro e w4 ⟨rfl, hL4, hb4⟩
  have bel4 : Hid (Below B3 w w4) := bel3.out.trans (hb4.mono (by have := HS1.out; omega))
  have y3 := boxed_below q3 hb4
  have y4 := boxed_below q4 hb4
  have hr4 := hr.below2 (HB3.out ▸ bel4.out)
  have HEN := hide ((callsIn_wide (n := n - 1)).2 (rentries_any a len cap zs w4 hl (by omega) hcl hnone hr4 z8))
  obtain ⟨g, hg⟩ : ∃ g, g = w3.heap.size := ⟨_, rfl⟩
  rw [← hg] at hL4 ⊢
  have hg4 : g < w4.heap.size := hL4.lt
  have HL4 := hide hL4
  have hs4 := hb4.size
  clear q3 q4 hb4 hr3 HLN bel3 hL4 hg
  gi_wp2
  refine ⟨trivial, HEN.out.mono ?_⟩
  rintro e w5 ⟨Es, v1, v2, rfl, hEI⟩
  obtain ⟨aw, bw, cw, rfl, haw, hens, _⟩ := hEI.ens
  have hb5 : Below w4.heap.size w4 w5 := hEI.bel
  have bel5 : Hid (Below B3 w w5) := bel4.out.trans (hb5.mono (by have := HS1.out; omega))
  have z3 := boxed_below y3 hb5
  have z4 := boxed_below y4 hb5
  have L5 : Hid (Lent w5 g zs) := fun i hi => (hb5.cell (p := ⟨g, i, none⟩) hg4).trans (HL4.out i hi)
  have HENS := hide hens
  have HKV := hide hEI.kv
  have HAW := hide haw
  have hs5 := hb5.size
  generalize (entS zs).p = ep at *
  generalize (entS zs).e = ee at *
  generalize (entS zs).q = eq' at *
  obtain ⟨nE, hnE⟩ : ∃ nE, nE = Es.length := ⟨_, rfl⟩
  rw [← hnE]
  replace hnE := hide hnE
  clear y3 y4 hb5 hEI hens haw HL4 HEN hr4 bel4
  have HAL := hide ((callsIn_wide (n := n - 1)).2 (ball_any (some ⟨g, 0, none⟩) len (len + 2) (w5.alloc (.cells #[.slice aw nE cw] 26))))
  have nb := Boxed.new ((w5.alloc (.cells #[.slice aw nE cw] 26)).alloc (.cells #[.slice (some ⟨g, 0, none⟩) len (len + 2)] 23)) 50 .nilFunc
  have cN := nb.cell
  have fN := nb.frozen
  gi_wp2
  refine ⟨trivial, HAL.out.mono ?_⟩
  rintro e w' ⟨rfl, rfl⟩
  gi_wp2
  rename_i K hK
  refine wpIn_loop_rounds 3 ?_
  obtain ⟨X0, hX0⟩ : ∃ X0, ((w5.alloc (.cells #[.slice aw nE cw] 26)).alloc (.cells #[.slice (some ⟨g, 0, none⟩) len (len + 2)] 23)).alloc (.cells #[.func (.func 50) #[] #[.pointer (some ⟨w5.heap.size + 1, 0, none⟩)]] 50) = X0 := ⟨_, rfl⟩
  have u0 : Upd Noth w5 X0 := by rw [← hX0]; exact (((Upd.refl _ _).alloc _).alloc _).alloc _
  have s0 : X0.heap.size = w5.heap.size + 3 := by rw [← hX0]; simp
  have b7 : Boxed X0 w5.heap.size 26 (.slice aw Es.length cw) := by rw [← hX0, ← hnE.out]; exact ((Boxed.new w5 _ _).alloc _).alloc _
  have one : Boxed X0 (w5.heap.size + 1) 23 (.slice (some ⟨g, 0, none⟩) len (len + 2)) := by
    rw [← hX0]
    have := (Boxed.new (w5.alloc (.cells #[.slice aw nE cw] 26)) 23 (.slice (some ⟨g, 0, none⟩) len (len + 2))).alloc (.cells #[.func (.func 50) #[] #[.pointer (some ⟨w5.heap.size + 1, 0, none⟩)]] 50)
    rwa [World.size_alloc] at this
  have b12 : Boxed X0 (w5.heap.size + 1 + 1) 50 (.func (.func 50) #[] #[.pointer (some ⟨w5.heap.size + 1, 0, none⟩)]) := by
    rw [← hX0]
    have := Boxed.new ((w5.alloc (.cells #[.slice aw nE cw] 26)).alloc (.cells #[.slice (some ⟨g, 0, none⟩) len (len + 2)] 23)) 50 (.func (.func 50) #[] #[.pointer (some ⟨w5.heap.size + 1, 0, none⟩)])
    rwa [World.size_alloc, World.size_alloc] at this
  have hbx : Below w5.heap.size w5 X0 := u0.toBelow
  have hGW : GW w X0 len zs most g (w5.heap.size + 1) B3 (B3 + 1) w5.heap.size (w5.heap.size + 1 + 1) Es aw bw cw :=
    ⟨by rw [← HB3.out]; exact bel5.out.trans (hbx.mono (by have := HS1.out; omega)), fun i hi => (hbx.cell (p := ⟨g, i, none⟩) (show g < w5.heap.size by omega)).trans (L5.out i hi), boxed_below z3 hbx, boxed_below z4 hbx, b7, b12, one, HENS.out.below hbx, HAW.out, HKV.out⟩
  rw [hX0]
  have hb13 := Boxed.new X0 3 (.int .i64 ((0 : Nat) : Int))
  rw [s0] at hb13
  refine goes_rounds n hn a len cap zs most w X0 g (w5.heap.size + 1) B3 (B3 + 1) w5.heap.size (w5.heap.size + 1 + 1) Es aw bw cw hl hm z8 hGW _ (fun act X' h => inBlock_exit (hK _ _ (goes_last n hn a len cap zs most w X0 g (w5.heap.size + 1) B3 (B3 + 1) w5.heap.size (w5.heap.size + 1 + 1) Es aw bw cw hl hm hr hGW (by have := HB3.out; omega) act X' h))) 3 0 _ _ (GTA.mk (Bt := w5.heap.size + 3) rfl rfl rfl rfl rfl rfl rfl rfl ((Upd.refl _ _).alloc _) hb13 (by omega) trivial) rfl (by omega)

theorem blockGoes_any (a : Option Addr) (len cap : Nat) (zs : List Int) (most : Int) (w : World)
    (hl : zs.length = len) (hm : len ≤ 140737488351232) (hcl : len ≤ cap) (hnone : a = none → len = 0 ∧ cap = 0) (hr : Row w .u8 a zs) (z8 : B8 zs) :
    Calls Try.prog 7 #[.slice a len cap, .int .i64 most] w fun e w' => e = .returned (.bool true) ∧ Below w.heap.size w w' :=
  callsIn_wide.1 (goes_in 12 (Nat.le_refl _) a len cap zs most w hl hm hcl hnone hr z8)

end Go.Proofs.Ythloaabdlciefaa
