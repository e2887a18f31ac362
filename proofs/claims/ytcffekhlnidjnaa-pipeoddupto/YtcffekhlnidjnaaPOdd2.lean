/- PipeOdd, whole. -/
import Derived.Test.YtcffekhlnidjnaaPOdd1
import Derived.Deep.DeepCutAuto
import Derived.Deep.RegionHeld3
namespace Go.Proofs.Ytcffekhlnidjnaa
open Go.RowKit Go.Shelf
attribute [local go_sem] Oper.semAt_some

theorem two2_memO {σ : Type} {Cs : List RC} {l : List (List Int × Int × σ)} (h : Cs.map RC.t = two2 l) {d : RC} (hd : d ∈ Cs) : ∃ c ∈ l, c.1 = d.b := by
  have : d.t ∈ two2 l := by rw [← h]; exact List.mem_map.2 ⟨d, hd, rfl⟩
  obtain ⟨c, hc, e⟩ := List.mem_map.1 this
  exact ⟨c, hc, by have := congrArg Prod.fst e; exact this⟩
theorem o_leave (n : Nat) (w W : World) (tmps : Array Value) (ds : List Deferred) (B2 L0 : Nat) (h2 : tmps[2]? = some (.pointer (some ⟨B2, 0, none⟩))) (hb : Below w.heap.size w W) (hl : w.heap.size ≤ L0) (hm : Marks L0 ds W)
    (b : Boxed W B2 4 (.bool true)) : bodyPostM Fence.wide n Try.prog Try.f8 (fun e w' => e = .returned (.bool true) ∧ Below w.heap.size w w') .ret { tmps := tmps, defers := ds } W := by
  refine hm.leave (fun W' hb' hbx => ?_)
  have c := (hbx _ _ _ b).cell
  exact ⟨.bool true, by simp [results, Try.results8, go_sem, c, h2], rfl, hb.trans (hb'.mono hl)⟩
theorem o_entry (x : Value) : ∃ f : Nat → Value, (#[x] ++ Array.replicate 156 undef : Array Value) = #[x, f 1, f 2, f 3, f 4, f 5, f 6, f 7, f 8, f 9, f 10, f 11, f 12, f 13, f 14, f 15, f 16, f 17, f 18, f 19, f 20, f 21, f 22, f 23, f 24, f 25, f 26, f 27, f 28, f 29, f 30, f 31, f 32, f 33, f 34, f 35, f 36, f 37, f 38, f 39, f 40, f 41, f 42, f 43, f 44, f 45, f 46, f 47, f 48, f 49, f 50, f 51, f 52, f 53, f 54, f 55, f 56, f 57, f 58, f 59, f 60, f 61, f 62, f 63, f 64, f 65, f 66, f 67, f 68, f 69, f 70, f 71, f 72, f 73, f 74, f 75, f 76, f 77, f 78, f 79, f 80, f 81, f 82, f 83, f 84, f 85, f 86, f 87, f 88, f 89, f 90, f 91, f 92, f 93, f 94, f 95, f 96, f 97, f 98, f 99, f 100, f 101, f 102, f 103, f 104, f 105, f 106, f 107, f 108, f 109, f 110, f 111, f 112, f 113, f 114, f 115, f 116, f 117, f 118, f 119, f 120, f 121, f 122, f 123, f 124, f 125, f 126, f 127, f 128, f 129, f 130, f 131, f 132, f 133, f 134, f 135, f 136, f 137, f 138, f 139, f 140, f 141, f 142, f 143, f 144, f 145, f 146, f 147, f 148, f 149, f 150, f 151, f 152, f 153, f 154, f 155, f 156] := by
  have h0 : (#[x] ++ Array.replicate 156 undef : Array Value)[0]? = some x := by rw [Array.getElem?_append_left (by simp)]; rfl
  have hs : (#[x] ++ Array.replicate 156 undef : Array Value).size = 157 := by simp
  generalize (#[x] ++ Array.replicate 156 undef : Array Value) = t at *
  refine ⟨fun i => t.getD i undef, (oframe_of t hs).trans ((oframe_list fun i => t.getD i undef).symm.trans ?_)⟩
  rw [getD_of h0]
theorem oarg_cells {W : World} {g : Nat} {a b c d e : Value} (h : W.heap[g]? = some (.cells #[a, b, c, d, e] 66 (0, 0))) : W.cell? ⟨g, 0, none⟩ = some a ∧ W.cell? ⟨g, 1, none⟩ = some b ∧ W.cell? ⟨g, 2, none⟩ = some c ∧ W.cell? ⟨g, 3, none⟩ = some d ∧ W.cell? ⟨g, 4, none⟩ = some e := by
  refine ⟨?_, ?_, ?_, ?_, ?_⟩ <;> (rw [cell_of_row _ _ _ _ _ _ h]; rfl)
theorem four_newP (W : World) (a b c d : Obj) : (((W.alloc a).alloc b |>.alloc c).alloc d).heap[W.heap.size]? = some a ∧ (((W.alloc a).alloc b |>.alloc c).alloc d).heap[W.heap.size + 1]? = some b ∧ (((W.alloc a).alloc b |>.alloc c).alloc d).heap[W.heap.size + 2]? = some c ∧ (((W.alloc a).alloc b |>.alloc c).alloc d).heap[W.heap.size + 3]? = some d := by
  have hs : ∀ (V : World) (x : Obj) (k : Nat), V.heap.size = k → (V.alloc x).heap[k]? = some x := fun V x k h => by rw [← h]; exact World.alloc_heap_new V x
  have ho : ∀ (V : World) (x : Obj) (k : Nat), k < V.heap.size → (V.alloc x).heap[k]? = V.heap[k]? := fun V x k h => Below.heap_alloc V x k h
  refine ⟨?_, ?_, ?_, hs _ _ _ (by simp)⟩
  · rw [ho _ _ _ (by simp only [World.size_alloc]; omega), ho _ _ _ (by simp only [World.size_alloc]; omega), ho _ _ _ (by simp)]; exact hs _ _ _ rfl
  · rw [ho _ _ _ (by simp only [World.size_alloc]; omega), ho _ _ _ (by simp)]; exact hs _ _ _ (by simp)
  · rw [ho _ _ _ (by simp)]; exact hs _ _ _ (by simp)

set_option maxRecDepth 100000 in
set_option maxHeartbeats 6400000 in
theorem podd_in (n : Nat) (hn : 12 ≤ n) (an ae at' af : Option Addr) (ln cn le ce lt ct lf cf : Nat) (ns es ts fs : List Int) (size : Int) (w : World)
    (hln : ns.length = ln) (hle : es.length = le) (hlt : ts.length = lt) (hlf : fs.length = lf) (hmn : ns.length ≤ 1048576) (rn : Row w .i64 an ns) (re : Row w .i64 ae es) (rt : Row w .i64 at' ts) (rf : Row w .i64 af fs) :
    CallsIn Fence.wide n Try.prog 8 #[.agg #[.slice an ln cn, .slice ae le ce, .slice at' lt ct, .slice af lf cf, .int .i64 size]] w fun e w' => e = .returned (.bool true) ∧ Below w.heap.size w w' := by
  have h1 : 1 ≤ n := by omega
  refine callsIn_of_wp_marks Try.func8 rfl trivial ?_ rfl
  simp only [Try.ntmps8, List.size_toArray, List.length_cons, List.length_nil, Nat.reduceAdd, Nat.reduceSub]
  obtain ⟨f, hf⟩ := o_entry (.agg #[.slice an ln cn, .slice ae le ce, .slice at' lt ct, .slice af lf cf, .int .i64 size])
  rw [hf]
  clear hf
  obtain ⟨Q, hQ⟩ : ∃ Q, Q = bodyPostM Fence.wide n Try.prog Try.f8 (fun e w' => e = .returned (.bool true) ∧ Below w.heap.size w w') := ⟨_, rfl⟩
  rw [← hQ]
  replace hQ := hide hQ
  refine wpIn_wide.2 ?_
  conv => arg 2; whnf
  have HRN := hide rn
  have HRE := hide re
  have HRT := hide rt
  have HRF := hide rf
  have hf1 : ((w.alloc (.cells #[.slice an ln cn, .slice ae le ce, .slice at' lt ct, .slice af lf cf, .int .i64 size] 66)).alloc (.cells #[.bool false] 4)).heap[w.heap.size]? = some (.cells #[.slice an ln cn, .slice ae le ce, .slice at' lt ct, .slice af lf cf, .int .i64 size] 66 (0, 0)) := (Below.heap_alloc _ _ _ (by simp)).trans (heap_alloc_new w _)
  have hb2 : Boxed ((w.alloc (.cells #[.slice an ln cn, .slice ae le ce, .slice at' lt ct, .slice af lf cf, .int .i64 size] 66)).alloc (.cells #[.bool false] 4)) (w.heap.size + 1) 4 (.bool false) := by
    have := Boxed.new (w.alloc (.cells #[.slice an ln cn, .slice ae le ce, .slice at' lt ct, .slice af lf cf, .int .i64 size] 66)) 4 (.bool false)
    rwa [World.size_alloc] at this
  have hbA : Below w.heap.size w ((w.alloc (.cells #[.slice an ln cn, .slice ae le ce, .slice at' lt ct, .slice af lf cf, .int .i64 size] 66)).alloc (.cells #[.bool false] 4)) := ((Below.refl _ _).alloc (Nat.le_refl _) _).alloc (by simp) _
  have hzA : ((w.alloc (.cells #[.slice an ln cn, .slice ae le ce, .slice at' lt ct, .slice af lf cf, .int .i64 size] 66)).alloc (.cells #[.bool false] 4)).heap.size = w.heap.size + 2 := by simp
  clear rn re rt rf
  go_wp2_with fail
  generalize ((w.alloc (.cells #[.slice an ln cn, .slice ae le ce, .slice at' lt ct, .slice af lf cf, .int .i64 size] 66)).alloc (.cells #[.bool false] 4)) = wA at *
  obtain ⟨gA, hgA⟩ : ∃ gA, gA = w.heap.size := ⟨_, rfl⟩
  rw [← hgA] at hf1 hb2 hbA hzA ⊢
  replace hgA := hide hgA
  refine (lives_any wA).mono ?_
  rintro e w1 ⟨rfl, hb1⟩
  have hF := (hb1.block gA (by omega)).trans hf1
  have hB2 := boxed_below hb2 hb1
  have hb01 : Below gA w w1 := hbA.trans (hb1.mono (by omega))
  have hz1 : gA + 2 ≤ w1.heap.size := by have := hb1.size; omega
  clear hf1 hbA hb1 hzA hb2
  have hx1 := (Below.heap_alloc w1 (.cells #[.slice an ln cn, .slice ae le ce, .int .i64 0, .int .u8 0, .slice none 0 0] 69) gA (by omega)).trans hF
  have hx2 := (Below.heap_alloc (w1.alloc (.cells #[.slice an ln cn, .slice ae le ce, .int .i64 0, .int .u8 0, .slice none 0 0] 69)) (.cells #[.slice none 0 0, .slice none 0 0, .int .i64 0, .bool false, .int .i64 0, .int .i64 0, .bool true, .slice an ln cn, .slice ae le ce, .int .u8 1, .int .u8 0, .slice none 0 0] 46) gA (by simp only [World.size_alloc]; omega)).trans hx1
  have hx3 := (Below.heap_alloc ((w1.alloc (.cells #[.slice an ln cn, .slice ae le ce, .int .i64 0, .int .u8 0, .slice none 0 0] 69)).alloc (.cells #[.slice none 0 0, .slice none 0 0, .int .i64 0, .bool false, .int .i64 0, .int .i64 0, .bool true, .slice an ln cn, .slice ae le ce, .int .u8 1, .int .u8 0, .slice none 0 0] 46)) (.cells #[.slice at' lt ct, .slice af lf cf, .int .i64 0, .int .u8 0, .slice none 0 0] 69) gA (by simp only [World.size_alloc]; omega)).trans hx2
  have hx4 := (Below.heap_alloc (((w1.alloc (.cells #[.slice an ln cn, .slice ae le ce, .int .i64 0, .int .u8 0, .slice none 0 0] 69)).alloc (.cells #[.slice none 0 0, .slice none 0 0, .int .i64 0, .bool false, .int .i64 0, .int .i64 0, .bool true, .slice an ln cn, .slice ae le ce, .int .u8 1, .int .u8 0, .slice none 0 0] 46)).alloc (.cells #[.slice at' lt ct, .slice af lf cf, .int .i64 0, .int .u8 0, .slice none 0 0] 69)) (.cells #[.slice none 0 0, .int .i64 0, .int .i64 0, .slice none 0 0, .bool true, .slice at' lt ct, .slice af lf cf, .slice none 0 0] 51) gA (by simp only [World.size_alloc]; omega)).trans hx3
  have c00 := (oarg_cells hF).1
  have c01 := (oarg_cells hF).2.1
  have c10 := (oarg_cells hx1).1
  have c11 := (oarg_cells hx1).2.1
  have c22 := (oarg_cells hx2).2.2.1
  have c23 := (oarg_cells hx2).2.2.2.1
  have c32 := (oarg_cells hx3).2.2.1
  have c33 := (oarg_cells hx3).2.2.2.1
  have c44 := (oarg_cells hx4).2.2.2.2
  have HF := hide hF
  have HX4 := hide hx4
  have HB2 := hide hB2
  have HB01 := hide hb01
  clear hF hB2 hb01 hx1 hx2 hx3 hx4
  have hne := four_newP w1 (.cells #[.slice an ln cn, .slice ae le ce, .int .i64 0, .int .u8 0, .slice none 0 0] 69) (.cells #[.slice none 0 0, .slice none 0 0, .int .i64 0, .bool false, .int .i64 0, .int .i64 0, .bool true, .slice an ln cn, .slice ae le ce, .int .u8 1, .int .u8 0, .slice none 0 0] 46) (.cells #[.slice at' lt ct, .slice af lf cf, .int .i64 0, .int .u8 0, .slice none 0 0] 69) (.cells #[.slice none 0 0, .int .i64 0, .int .i64 0, .slice none 0 0, .bool true, .slice at' lt ct, .slice af lf cf, .slice none 0 0] 51)
  have hU : Upd Noth w1 ((((w1.alloc (.cells #[.slice an ln cn, .slice ae le ce, .int .i64 0, .int .u8 0, .slice none 0 0] 69)).alloc (.cells #[.slice none 0 0, .slice none 0 0, .int .i64 0, .bool false, .int .i64 0, .int .i64 0, .bool true, .slice an ln cn, .slice ae le ce, .int .u8 1, .int .u8 0, .slice none 0 0] 46)).alloc (.cells #[.slice at' lt ct, .slice af lf cf, .int .i64 0, .int .u8 0, .slice none 0 0] 69)).alloc (.cells #[.slice none 0 0, .int .i64 0, .int .i64 0, .slice none 0 0, .bool true, .slice at' lt ct, .slice af lf cf, .slice none 0 0] 51)) := ((((Upd.refl _ _).alloc _).alloc _).alloc _).alloc _
  have hs4 : ((((w1.alloc (.cells #[.slice an ln cn, .slice ae le ce, .int .i64 0, .int .u8 0, .slice none 0 0] 69)).alloc (.cells #[.slice none 0 0, .slice none 0 0, .int .i64 0, .bool false, .int .i64 0, .int .i64 0, .bool true, .slice an ln cn, .slice ae le ce, .int .u8 1, .int .u8 0, .slice none 0 0] 46)).alloc (.cells #[.slice at' lt ct, .slice af lf cf, .int .i64 0, .int .u8 0, .slice none 0 0] 69)).alloc (.cells #[.slice none 0 0, .int .i64 0, .int .i64 0, .slice none 0 0, .bool true, .slice at' lt ct, .slice af lf cf, .slice none 0 0] 51)).heap.size = w1.heap.size + 4 := by simp
  have HNE := hide hne
  have HU := hide hU
  have HS4 := hide hs4
  clear hne hU hs4
  go_upto_region 6 with fail
  generalize ((((w1.alloc (.cells #[.slice an ln cn, .slice ae le ce, .int .i64 0, .int .u8 0, .slice none 0 0] 69)).alloc (.cells #[.slice none 0 0, .slice none 0 0, .int .i64 0, .bool false, .int .i64 0, .int .i64 0, .bool true, .slice an ln cn, .slice ae le ce, .int .u8 1, .int .u8 0, .slice none 0 0] 46)).alloc (.cells #[.slice at' lt ct, .slice af lf cf, .int .i64 0, .int .u8 0, .slice none 0 0] 69)).alloc (.cells #[.slice none 0 0, .int .i64 0, .int .i64 0, .slice none 0 0, .bool true, .slice at' lt ct, .slice af lf cf, .slice none 0 0] 51)) = w2 at *
  obtain ⟨B, hB⟩ : ∃ B, B = w1.heap.size := ⟨_, rfl⟩
  rw [← hB] at HNE HS4 hz1 ⊢
  clear c00 c01 c10 c11 c22 c23 c32 c33
  obtain ⟨r, hr⟩ : ∃ r, r = B + 1 := ⟨_, rfl⟩
  obtain ⟨k, hk⟩ : ∃ k, k = B + 1 + 1 := ⟨_, rfl⟩
  obtain ⟨d, hd⟩ : ∃ d, d = B + 1 + 1 + 1 := ⟨_, rfl⟩
  rw [← hd, ← hk, ← hr]
  rw [← hr, show B + 2 = k by omega, show B + 3 = d by omega] at HNE
  have hgA' := hgA.out
  have hb02 : Below gA w w2 := HB01.out.trans (HU.out.toBelow.mono (by omega))
  have hlo : ∀ (a : Option Addr) (zs : List Int), Row w .i64 a zs → (∀ x : Addr, a = some x → 0 < zs.length → x.block < B) ∧ Row w2 .i64 a zs := fun a zs hr => ⟨fun x hx h0 => by have := row_ltC hr hx h0; omega, hr.below2 (hgA.out ▸ hb02)⟩
  have hN := hlo an ns HRN.out
  have hE := hlo ae es HRE.out
  have hT := hlo at' ts HRT.out
  have hFf := hlo af fs HRF.out
  have HPR : Hid (PRd ns es an ln cn ae le ce B B (fun j => j = B) w2 s00 (fun j => j = B)) := hide ⟨rfl, fun _ => Iff.rfl, ⟨HNE.out.1, hN.2, hE.2, hN.1, hE.1, Nat.le_refl _⟩, by decide⟩
  have HOR : Hid (ORd ns es an ln cn ae le ce 1 r B w2 s00 (fun j => j = r)) := hide ⟨none, 0, HNE.out.2.1, hN.2, hE.2, hN.1, hE.1, World.ownsRow_nil _ _ _ _, (fun i h => by cases h), rfl, fun i hi => by have e' : i = r := hi; have := HS4.out; omega, rfl, by decide⟩
  have HPW : Hid (PWd ts fs at' lt ct af lf cf k B w2 t00 (fun j => j = k)) := hide ⟨none, 0, ⟨HNE.out.2.2.1, hT.2, hFf.2, hT.1, hFf.1, by omega⟩, World.ownsRow_nil _ _ _ _, (fun h => by cases h), fun i => ⟨.inl, fun h => h.elim id (fun h => by cases h)⟩⟩
  have HTA : Hid (TAt (mkS (.slice at' lt ct) (.slice af lf cf)) 51 at' ts af fs d B w2 t00 (fun j => j = d)) := hide ⟨none, 0, none, 0, ⟨HNE.out.2.2.2, hT.2, hFf.2, hT.1, hFf.1, World.ownsRow_nil _ _ _ _, (fun h => by cases h), by omega, rfl⟩, World.ownsRow_nil _ _ _ _, (fun h => by cases h), (fun i h => by cases h), fun i => ⟨.inl, fun h => h.elim id (fun h => h.elim (fun h => by cases h) (fun h => by cases h))⟩⟩
  have HCP := hide (ocopy_any size B k B (fun j => j = B) (fun j => j = k) w2 hln hle hlt hlf hmn HPR.out HPW.out (fun i e e' => by omega) (by have := HS4.out; omega))
  have hB2 : B ≤ w2.heap.size := by have := HS4.out; omega
  have HB02 := hide hb02
  have HBX := hide (boxed_upd HB2.out HU.out (fun e => e))
  have hBr : B < r := by omega
  have hrk : r < k := by omega
  have hkd : k < d := by omega
  have hdw : d < w2.heap.size := by have := HS4.out; omega
  clear hlo hN hE hT hFf hb02 HNE HU HB01 HB2 HF HPR HPW hB hr hk hd hgA' HS4
  go_wp2_with fail
  refine HCP.out.mono ?_
  rintro e w3 ⟨rfl, hpr, ⟨M2, hpw, hM2⟩, hu3⟩
  have hor3 := (ro_reader ns es an ln cn ae le ce 1 r B 0 hln hle (by omega)).upd HOR.out hu3 (fun i e => ⟨by omega, by omega⟩)
  have hta3 := HTA.out.upd hu3 (fun i e => ⟨by omega, by omega⟩)
  have HRC := hide (orcopy_any size r d B (fun j => j = r) (fun j => j = d) w3 hln hle hlt hlf hmn hor3 hta3 (fun i e e' => by omega) (by have := hu3.size; omega))
  have hF3 := hu3.heap HX4.out (fun e => by omega)
  have c34 := (oarg_cells hF3).2.2.2.2
  have HPR := hide hpr
  have HPW := hide hpw
  have HM2 := hide hM2
  have HU3 := hide hu3
  have HF3 := hide hF3
  obtain ⟨res, hres⟩ : ∃ res, res = oRes ns es ts fs size := ⟨_, rfl⟩
  rw [← hres] at HRC HPR HPW
  rw [← hres]
  replace hres := hide hres
  obtain ⟨n1, e1, s1, t1⟩ := res
  simp only at HPR HPW
  clear hpr hpw hM2 hu3 hor3 hta3 HCP HOR HTA c44 HX4 hF3
  go_wp2_with fail
  refine HRC.out.mono ?_
  rintro e w4 ⟨rfl, ⟨M3, hor, hM3⟩, ⟨M4, hta, hM4⟩, hu4⟩
  simp only at hor hta
  have hpr4 := (po_reader ns es an ln cn ae le ce B B (fun j => j = B) 0 hln hle (by omega)).upd HPR.out hu4 (fun i e => ⟨by omega, by omega⟩)
  have hpw4 := HPW.out.upd hu4 (fun i e => ⟨by omega, fun h => (HM2.out i h).elim (fun h => by omega) (fun h => by omega)⟩)
  have hF4 := hu4.heap HF3.out (fun e => by omega)
  have hs3 := HU3.out.size
  have hs4 := hu4.size
  have HB2 : Hid (Boxed w4 (gA + 1) 4 (.bool false)) := hide (boxed_upd (boxed_upd HBX.out HU3.out (by omega)) hu4 (by omega))
  have HBW : Hid (Below gA w w4) := hide ((HB02.out.trans (HU3.out.below (n := gA) (by omega) (fun k hk e => by omega))).trans (hu4.below (n := gA) (by omega) (fun k hk e => by omega)))
  have hd3 : d < w3.heap.size := by omega
  have HPR4 := hide hpr4
  have HOR4 := hide hor
  have HF4 := hide hF4
  have HM3 := hide hM3
  have q2 : w4.cell? ⟨B, 2, none⟩ = some (.int .i64 (s1.c : Int)) := (po_cells hpr4.2.2.1.blk).2.2.1
  have q4 : w4.cell? ⟨r, 4, none⟩ = some (.int .i64 (s1.c : Int)) := by obtain ⟨_, _, h⟩ := hor; exact (ob_cells h.blk).1
  obtain ⟨ay, cy, hW⟩ := hpw4
  obtain ⟨_, _, bx, dx, hT⟩ := hta
  have k4 := (po_cells hW.q.blk).2.2.2.2.1
  have k2 := (po_cells hW.q.blk).2.2.1
  have d3 := (mkS_cells hT.z.blk).2.1
  have d2 := (mkS_cells hT.z.blk).1
  have hmx : t1.took.length ≤ maxLen := by
    rcases hT.own.2 with ⟨_, hn⟩ | ⟨g, cap, cur, _, h2⟩
    · rw [hn]; exact Nat.zero_le _
    · exact Nat.le_trans h2.2.2.1 h2.2.2.2.1
  have rw1 := row_of_owns2 hW.own
  have rw2 := row_of_owns2 hT.own
  obtain ⟨tl, htl⟩ : ∃ tl, tl = t1.took.length := ⟨_, rfl⟩
  rw [← htl] at k4 d3 hmx
  have HSM : Hid (∀ W', Upd Noth w4 W' → Calls Try.prog 15 #[.slice ay tl cy, .slice bx tl dx] W' fun e w'' => e = .returned (.bool true) ∧ ∃ m, w'' = W'.drewN m) := hide fun W' hu => sameq ay bx tl cy dx t1.took W' hmx htl.symm (rw1.upd hu (fun _ _ _ e => e)) (rw2.upd hu (fun _ _ _ e => e))
  have hkl : k < w4.heap.size := lt_of_block hW.q.blk
  have hdl : d < w4.heap.size := lt_of_block hT.z.blk
  have hrl : r < w4.heap.size := by omega
  obtain ⟨cs1, hcs1⟩ : ∃ cs1, cs1 = s1.c := ⟨_, rfl⟩
  obtain ⟨ct1, hct1⟩ : ∃ ct1, ct1 = t1.c := ⟨_, rfl⟩
  rw [← hcs1] at q2 q4
  rw [← hct1] at k2 d2
  replace hcs1 := hide hcs1
  clear htl hW hT rw1 rw2 hmx hpr4 hor hF4 hM3 hM4 hct1 HPR HPW HM2 HF3 HU3 HBX HB02 HRC c34 hs3 hs4 hu4
  go_upto_region 8 with fail
  go_cut [12] from 60 to 68 (fun s12 wx => ∃ B12, s12 = .pointer (some ⟨B12, 0, none⟩) ∧ Hid (Upd Noth w4 wx ∧ Boxed wx B12 4 (.bool true) ∧ w4.heap.size ≤ B12))
  case first =>
    have nk := World.new_ne w4 ⟨k, 4, none⟩ k4
    have nd := World.new_ne w4 ⟨d, 3, none⟩ d3
    go_region_held3 (fun W => W.cell? ⟨k, 4, none⟩ = some (.slice ay tl cy) ∧ W.cell? ⟨d, 3, none⟩ = some (.slice bx tl dx)) (go_keep) (first
      | (go_at_call 15; refine (HSM.out (w4.drew.alloc (.cells #[.bool false] 4)) ((((Still.refl w4).drew).upd Noth).alloc _)).mono ?_; rintro e wq ⟨rfl, mq, hwq⟩; have HWQ : Hid (Upd Noth w4 wq ∧ Boxed wq w4.heap.size 4 (.bool false)) := (by rw [hwq]; exact hide ⟨((((Still.refl w4).drew).upd Noth).alloc _).trans (((Still.refl _).drewN mq).upd Noth), Boxed.new w4.drew 4 (.bool false)⟩); have zc := HWQ.out.2.cell; have zf := HWQ.out.2.frozen; have z4 := HWQ.out.1.cell k4 (fun e => e); have z3 := HWQ.out.1.cell d3 (fun e => e); clear hwq)
      | (go_at_call 15; refine (HSM.out w4.drew (((Still.refl w4).drew).upd Noth)).mono ?_; rintro e wq ⟨rfl, mq, hwq⟩; have HWQ : Hid (Upd Noth w4 wq) := (by rw [hwq]; exact hide ((((Still.refl w4).drew).upd Noth).trans (((Still.refl _).drewN mq).upd Noth))); have z4 := HWQ.out.cell k4 (fun e => e); have z3 := HWQ.out.cell d3 (fun e => e); have n4 := World.new_ne wq ⟨k, 4, none⟩ z4; have n3 := World.new_ne wq ⟨d, 3, none⟩ z3; clear hwq)
      | fail)
    all_goals (go_wp2_with fail)
    all_goals go_meet
    all_goals first
      | exact ⟨_, rfl, hide ⟨HWQ.out.1.then ((Upd.refl (fun j => j = w4.heap.size) wq).set1 0 (.bool true)) (fun j hj e => by omega), HWQ.out.2.set (.bool true), Nat.le_refl _⟩⟩
      | exact ⟨_, rfl, hide ⟨HWQ.out.trans ((Upd.refl _ _).alloc _), Boxed.new wq 4 (.bool true), HWQ.out.size⟩⟩
  case rest =>
    obtain ⟨B12, rfl, HC⟩ := hcut
    have x12 := HC.out.2.1.cell
    have y2 := HC.out.1.cell q2 (fun e => e)
    have y4 := HC.out.1.cell q4 (fun e => e)
    have yk := HC.out.1.cell k2 (fun e => e)
    have yd := HC.out.1.cell d2 (fun e => e)
    clear q2 q4 k2 d2 k4 d3 HSM
    have b1 : ((n1 : Int) != (n1 : Int)) = false := by simp
    have b2 : (e1 != e1) = false := by simp
    have b3 : ((cs1 : Int) != (cs1 : Int)) = false := by simp
    have b4 : ((ct1 : Int) != (ct1 : Int)) = false := by simp
    go_wp2_with fail
    go_quiet (fail)
    have HU5 : Hid (Upd Noth w4 (wc.drewN nq)) := hide (HC.out.1.trans (((Still.refl wc).drewN nq).upd Noth))
    have HX12 : Hid (Boxed (wc.drewN nq) B12 4 (.bool true)) := hide HC.out.2.1
    have h12 : w4.heap.size ≤ B12 := HC.out.2.2
    generalize wc.drewN nq = w5 at *
    clear x12 y2 y4 yk yd HC
    have hor5 := (ro_reader ns es an ln cn ae le ce 1 r B 0 hln hle (by omega)).upd HOR4.out HU5.out (fun i e => e.elim)
    have hF5 := HU5.out.heap HF4.out (fun e => e)
    have c54 := (oarg_cells hF5).2.2.2.2
    have hs5 := HU5.out.size
    have hsc : s1.c + 17 * (ns.length - s1.c) ≤ 20000000 := by have := oRes_c ns es ts fs size; rw [← hres.out] at this; simp only at this; omega
    have HCH := hide (orchunks_any size r B M3 w5 s1 hln hle hor5 (by omega) hsc)
    have HF5 := hide hF5
    have HSC := hide hsc
    clear hor5 hF5 hsc
    go_wp2_with fail
    refine HCH.out.mono ?_
    rintro e w6 ⟨v9, Cs, M9, rfl, hcl, hcs, hrd9, hm9, hu9⟩
    rw [List.take_of_length_le (oAll_count ns es size s1 hmn)] at hcs hrd9
    obtain ⟨av, cv, rfl⟩ := owns2_open hcl.own
    obtain ⟨nC, hnC⟩ : ∃ nC, nC = Cs.length := ⟨_, rfl⟩
    rw [← hnC] at hcl ⊢
    have hnm : nC ≤ 2147483648 := by
      have q := congrArg List.length hcs
      simp only [two2, List.length_map] at q
      rw [hnC, q]
      exact oAll_count ns es size s1 hmn
    have hs6 := hu9.size
    have hF6 := hu9.heap HF5.out (fun e => (HM3.out gA e).elim (fun e => by omega) (fun e => by omega))
    have e4 := (oarg_cells ((Below.heap_alloc (w6.alloc (.cells #[.slice av nC cv] 53)) (.cells #[.int .i64 0] 3) gA (by simp only [World.size_alloc]; omega)).trans ((Below.heap_alloc w6 (.cells #[.slice av nC cv] 53) gA (by omega)).trans hF6))).2.2.2.2
    have HCHK := hide (chunks_any 67 (.pointer (some ⟨B, 0, none⟩)) size ((w6.alloc (.cells #[.slice av nC cv] 53)).alloc (.cells #[.int .i64 0] 3)))
    have HCL := hide hcl
    have HCS := hide hcs
    have HRD9 := hide hrd9
    have HM9 := hide hm9
    have HU9 := hide hu9
    have HNC := hide hnC
    have HF6 := hide hF6
    clear hcl hcs hrd9 hm9 hu9 hnC hF6 HCH c54
    go_wp2_with fail
    refine HCHK.out.mono ?_
    rintro e w' ⟨rfl, rfl⟩
    clear HCHK e4
    go_wp2_with fail
    rename_i K1 hK1
    obtain ⟨B13, hB13⟩ : ∃ B13, B13 = w6.heap.size := ⟨_, rfl⟩
    obtain ⟨Wr, hWr⟩ : ∃ Wr, (((w6.alloc (.cells #[.slice av nC cv] 53)).alloc (.cells #[.int .i64 0] 3)).alloc (.cells #[.iface 67 (.pointer (some ⟨B, 0, none⟩))] 76)).alloc (.cells #[.int .i64 size] 3) = Wr := ⟨_, rfl⟩
    have uW : Upd Noth w6 Wr := by rw [← hWr]; exact ((((Upd.refl _ _).alloc _).alloc _).alloc _).alloc _
    have sW : Wr.heap.size = B13 + 4 := by rw [← hWr, hB13]; simp
    have k13 : Boxed Wr B13 53 (.slice av nC cv) := by rw [← hWr, hB13]; exact (((Boxed.new w6 _ _).alloc _).alloc _).alloc _
    have k14 : Boxed Wr (B13 + 1) 3 (.int .i64 0) := by
      rw [← hWr, hB13]
      have := ((Boxed.new (w6.alloc (.cells #[.slice av nC cv] 53)) 3 (.int .i64 0)).alloc (.cells #[.iface 67 (.pointer (some ⟨B, 0, none⟩))] 76)).alloc (.cells #[.int .i64 size] 3)
      rwa [World.size_alloc] at this
    have k1 : Boxed Wr (B13 + 1 + 1) 76 (.iface 67 (.pointer (some ⟨B, 0, none⟩))) := by
      rw [← hWr, hB13]
      have := (Boxed.new ((w6.alloc (.cells #[.slice av nC cv] 53)).alloc (.cells #[.int .i64 0] 3)) 76 (.iface 67 (.pointer (some ⟨B, 0, none⟩)))).alloc (.cells #[.int .i64 size] 3)
      rwa [World.size_alloc, World.size_alloc] at this
    have k2 : Boxed Wr (B13 + 1 + 1 + 1) 3 (.int .i64 size) := by
      rw [← hWr, hB13]
      have := Boxed.new (((w6.alloc (.cells #[.slice av nC cv] 53)).alloc (.cells #[.int .i64 0] 3)).alloc (.cells #[.iface 67 (.pointer (some ⟨B, 0, none⟩))] 76)) 3 (.int .i64 size)
      rwa [World.size_alloc, World.size_alloc, World.size_alloc] at this
    rw [hWr, ← hB13]
    have hM3l : ∀ i, M3 i → i < w4.heap.size := fun i hi => ((ro_reader ns es an ln cn ae le ce 1 r B 0 hln hle (by omega)).lt HOR4.out i hi).2
    have hM9l : ∀ i, M9 i → i < B13 := fun i hi => by have := ((ro_reader ns es an ln cn ae le ce 1 r B 0 hln hle (by omega)).lt HRD9.out i hi).2; omega
    have hl12 : B12 < w5.heap.size := HX12.out.lt
    have hM3B : ¬ M3 B := fun e => (HM3.out B e).elim (fun e => by omega) (fun e => by omega)
    have hprW : PRd ns es an ln cn ae le ce B B (fun j => j = B) Wr s1 (fun j => j = B) := ((HPR4.out.upd HU5.out (fun i e => e.elim)).upd HU9.out (fun i e => ⟨by rcases HM3.out i e with e' | e' <;> omega, fun e' => hM3B (e' ▸ e)⟩)).upd uW (fun i e => e.elim)
    have b12 : Boxed Wr B12 4 (.bool true) := boxed_upd (boxed_upd HX12.out HU9.out (fun e => by have := hM3l _ e; omega)) uW (fun e => e)
    have hc4 : ∀ c ∈ Cs, c.b.length ≤ 4096 := fun c hc => by
      obtain ⟨c', hc', e⟩ := two2_memO HCS.out hc
      rw [← e]
      exact oAll_len ns es size s1 c' hc'
    refine (wpIn_wide (n := n)).1 ?_
    refine o_frame rfl rfl rfl rfl rfl rfl rfl rfl rfl ?_
    intro f2
    exact o_range n hn ns es an ae ln cn le ce size gA (gA + 1) B r (fun j => j = B) M9 Cs av nC cv B B12 B13 w5.heap.size s1 hln hle HSC.out Wr sW (by omega) hl12 (by omega) hprW (fun j hj => by omega) b12 k13 k14 k1.cell k2.cell HNC.out hnm (HCL.out.upd uW (fun j e => e.elim))
      (fun j hj => by have := (HCL.out.own.lt j hj).2; omega) (fun c hc x hx h0 => by have := row_ltC (HCL.out.row c hc) hx h0; omega) HCS.out hc4 K1 _ f2 _ (by
      intro D s' Wc hs' hkb huc hpc hDl hDD
      have k13c := boxed_upd k13 huc (fun e => by omega)
      have hrdc : ORd ns es an ln cn ae le ce 1 r B Wc s' M9 := by
        rw [hs']
        have hR := ro_reader ns es an ln cn ae le ce 1 r B 0 hln hle (by omega)
        refine hR.upd (hR.upd HRD9.out uW (fun j e => e.elim)) huc (fun j e => ⟨by omega, fun e9 => ?_⟩)
        have h9 := hM9l j e9
        rcases HM9.out j e9 with e3 | e3
        · have := hM3l j e3
          rcases e with e | e | e | e
          · exact hM3B (e ▸ e3)
          · omega
          · omega
          · omega
        · omega
      have hB2c : Boxed Wc (gA + 1) 4 (.bool false) := boxed_upd (boxed_upd (boxed_upd (boxed_upd HB2.out HU5.out (fun e => e)) HU9.out (fun e => by rcases HM3.out _ e with e' | e' <;> omega)) uW (fun e => e)) huc (fun e => by omega)
      have hbWc : Below gA w Wc := (((HBW.out.trans (HU5.out.toBelow.mono (by omega))).trans (HU9.out.below (n := gA) (by omega) (fun k hk e => by rcases HM3.out _ e with e' | e' <;> omega))).trans (uW.toBelow.mono (by omega))).trans (huc.below (n := gA) (by omega) (fun k hk e => by omega))
      have x14 := hkb.cell
      have x13 := k13c.cell
      have xB : Wc.cell? ⟨B, 2, none⟩ = some (.int .i64 (s'.c : Int)) := (po_cells hpc.2.2.1.blk).2.2.1
      have xr : Wc.cell? ⟨r, 4, none⟩ = some (.int .i64 (s'.c : Int)) := by obtain ⟨_, _, h⟩ := hrdc; exact (ob_cells h.blk).1
      have x2 := hB2c.cell
      have f2' := hB2c.frozen
      have HFIN : Hid (∀ (T : Array Value) (Wz : World), T[2]? = some (.pointer (some ⟨gA + 1, 0, none⟩)) → Still (Wc.setCell ⟨gA + 1, 0, none⟩ (.bool true)) Wz → Q .ret { tmps := T, defers := [{ target := .collected D, args := #[] }] } Wz) := hide fun T Wz hT hst => by
        rw [hQ.out]
        have us : Upd (fun j => j = gA + 1) Wc (Wc.setCell ⟨gA + 1, 0, none⟩ (.bool true)) := (Upd.refl _ _).set1 0 _
        have hgA' := hgA.out
        refine o_leave n w Wz T _ (gA + 1) w.heap.size hT ?_ (Nat.le_refl _) ⟨D, rfl, by omega, ?_, by simp, trivial⟩ ?_
        · rw [← hgA']
          exact (hbWc.trans (us.below (n := gA) (by have := hbWc.size; omega) (fun k hk e => by omega))).trans ((hst.upd Noth).toBelow.mono (by have := hbWc.size; have := us.size; omega))
        · exact ((hst.upd Noth).block D (by have := lt_of_block hDD; have := us.size; omega) (fun e => e)).trans ((us.block D (lt_of_block hDD) (by omega)).trans hDD)
        · exact boxed_upd (hB2c.set (.bool true)) (hst.upd Noth) (fun e => e)
      generalize s'.c = cc at *
      clear hrdc hbWc hB2c hkb k13c hpc huc hs' hDD hDl hB13 sW hWr
      refine hK1 _ _ ?_
      dsimp only
      go_wp2_with fail
      go_region
      go_wp2_with fail
      exact HFIN.out _ _ rfl (Still.refl _).drew)

theorem pipeOdd_any (an ae at' af : Option Addr) (ln cn le ce lt ct lf cf : Nat) (ns es ts fs : List Int) (size : Int) (w : World)
    (hln : ns.length = ln) (hle : es.length = le) (hlt : ts.length = lt) (hlf : fs.length = lf) (hmn : ln ≤ 1048576) (rn : Row w .i64 an ns) (re : Row w .i64 ae es) (rt : Row w .i64 at' ts) (rf : Row w .i64 af fs) :
    Calls Try.prog 8 #[.agg #[.slice an ln cn, .slice ae le ce, .slice at' lt ct, .slice af lf cf, .int .i64 size]] w fun e w' => e = .returned (.bool true) ∧ Below w.heap.size w w' :=
  callsIn_wide.1 (podd_in 12 (Nat.le_refl _) an ae at' af ln cn le ce lt ct lf cf ns es ts fs size w hln hle hlt hlf (by omega) rn re rt rf)

end Go.Proofs.Ytcffekhlnidjnaa
