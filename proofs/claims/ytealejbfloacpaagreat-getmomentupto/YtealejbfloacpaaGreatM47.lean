/- Texts of one's own. -/
import Derived.Test.YtealejbfloacpaaGreatM30
import Derived.Test.YtealejbfloacpaaGreatM29
import Derived.Test.YtealejbfloacpaaGreatM39
import Derived.Test.YtealejbfloacpaaGreatM46
import Derived.Test.YtealejbfloacpaaGreatM43
import Derived.Test.YtealejbfloacpaaGreatM17
import Derived.Deep.DeepCutAuto
import Derived.Test.YtealejbfloacpaaGreatM31
import Derived.Test.YtealejbfloacpaaGreatM33
import Derived.Test.YtealejbfloacpaaGreatM45
import Derived.Test.YtealejbfloacpaaGreatM21
namespace Go.Proofs.YtealejbfloacpaaGreat
open Go.RowKit
set_option maxRecDepth 100000
structure TOps (N : Nat) (W : World) (a : Option Addr) (L : List TOp) : Prop where
 c : ∀ i (h : i < L.length), ∃ b o, a = some ⟨b, o, none⟩ ∧ b < N ∧ ∀ j (v : Value), L[i].cs[j]? = some v → W.cell? ⟨b, o + i * 13 + j, none⟩ = some v
 ok : ∀ x ∈ L, x.Ok (fun k => k < N) W
theorem TOp.Ok.below {N : Nat} {W W' : World} {o : TOp} (h : o.Ok (fun k => k < N) W) (hb : Below W.heap.size W W') : o.Ok (fun k => k < N) W' := ⟨h.k1, h.a1, h.b1, h.key.below hb, h.value.below hb, h.n.below hb, h.i⟩
theorem TOps.below {W W' : World} {a : Option Addr} {L : List TOp} (h : TOps W.heap.size W a L) (hb : Below W.heap.size W W') : TOps W.heap.size W' a L := by
 refine ⟨fun i hi => ?_, fun x hx => (h.ok x hx).below hb⟩
 obtain ⟨b, o, ha, hk, hc⟩ := h.c i hi
 exact ⟨b, o, ha, hk, fun j v hv => (hb.cell (p := ⟨b, o + i * 13 + j, none⟩) hk).trans (hc j v hv)⟩
end Go.Proofs.YtealejbfloacpaaGreat
namespace Go.Proofs.YtealejbfloacpaaGreat
open Go.RowKit
set_option maxRecDepth 100000
theorem infoGP : (Tryz.prog.info? 67).map (fun i => (i.zero, i.size, i.bytes)) = some (some (.agg #[.pointer none, .pointer none, .slice none 0 0]), 3, 40) := by kernel_rfl
theorem three_newG (w : World) (a0 a1 a2 : Value) (T : TypeId) : ∀ j u, [a0, a1, a2][j]? = some u → (w.alloc (.cells #[a0, a1, a2] T)).cell? ((⟨w.heap.size, 0, none⟩ : Addr).add j) = some u := by
 intro j u hu
 rw [Addr.add_lit, Nat.zero_add, cell_of_row _ _ _ _ _ _ (heap_alloc_new w _), ← Array.getElem?_toList]
 exact hu
theorem flat3_get (L : List (Nat × Tx)) (i j : Nat) (hi : i < L.length) (hj : j < 3) : (L.flatMap pqT)[i * 3 + j]? = (pqT L[i])[j]? := by
 induction L generalizing i with
 | nil => simp at hi
 | cons a L ih =>
  rw [List.flatMap_cons]
  cases i with
  | zero => rw [List.getElem?_append_left (by simp [pqT]; omega)]; simp
  | succ i =>
   rw [List.getElem?_append_right (by simp [pqT]; omega), show (pqT a).length = 3 from rfl, show (i + 1) * 3 + j - 3 = i * 3 + j by omega, ih i (by simpa using hi)]
   rfl
theorem snd_true {s : AS} (h : sndB s 60 64 64 1 1 = true) : ∃ ls, Snd s.unw 60 64 64 1 1 ls := by
 unfold sndB at h
 cases hl : s.unw.look 60 64 64 1 1 with
 | inl x => rw [hl] at h; cases h
 | inr ls => exact ⟨ls, look_snd hl⟩
theorem gs_the {g : GS} (s : AS) (h : g.thr = false → g.the = false) : (g.step s).thr = false → (g.step s).the = false := by
 unfold GS.step
 repeat' split
 ·exact h
 ·intro e; cases e
 ·rename_i h1 _ _
  intro _
  exact h (by simpa using h1)
 ·intro e; cases e
 ·intro e; cases e
theorem map_set_self {L : List (Nat × GS)} {k : Nat} (hk : k < L.length) : (L.map Prod.fst).set k L[k].1 = L.map Prod.fst := by
 refine List.ext_getElem (by simp) fun j h1 h2 => ?_
 by_cases e : k = j
 ·subst e; simp
 ·rw [List.getElem_set_ne e]
def GD (w : World) (i n : Nat) (W : World) (P AX AY : Nat) (v : Value) : Prop :=
 ∃ K lab s L Q, GT w K lab i W P AX AY s L v Q ∧ L.length = n ∧ Q.map Prod.fst = L.map Prod.fst ∧ SI s (1048576 + i) ∧ n ≤ i ∧ (0 < n → ∃ ls, Snd s.unw 60 64 64 1 1 ls) ∧ ∀ j (h : j < L.length) (h1 : j < Q.length), Q[j].2.s = L[j].2.m.key ∧ Q[j].2.Ok w ∧ GI s L[j].2 (4 * i) ∧ (L[j].2.thr = false → L[j].2.the = false)
section
variable {w W W' : World} {K : Nat → Prop} {lab : Nat → Nat} {i n P AX AY : Nat} {s s' : AS} {L : List (Nat × GS)} {Q : List (Nat × Tx)} {v : Value}
theorem GD.below (h : GD w i n W P AX AY v) (hb : Below W.heap.size W W') : GD w i n W' P AX AY v := by
 obtain ⟨K, lab, s, L, Q, h1, h2⟩ := h
 exact ⟨K, lab, s, L, Q, h1.below hb, h2⟩
theorem GD.skip (h : GD w i n W P AX AY v) : GD w (i + 1) n W P AX AY v := by
 obtain ⟨K, lab, s, L, Q, h1, h2, h3, h4, h5, h6, h7⟩ := h
 refine ⟨K, lab, s, L, Q, h1.less (Nat.le_succ _), h2, h3, h4.mono (by omega), by omega, h6, fun j h h' => ?_⟩
 obtain ⟨q1, q2, q3, q4⟩ := h7 j h h'
 exact ⟨q1, q2, q3.mono (by omega), q4⟩
theorem gd_turn {kd : Int} (hg : GT w K lab i W P AX AY s' L v Q) (hl : L.length = n) (hq : Q.map Prod.fst = L.map Prod.fst) (hs : SI s' (1048576 + i + 1)) (hni : n ≤ i) (hx : TX kd true s s') (h6 : 0 < n → 1 ≤ kd ∧ kd ≤ 5 ∧ ∃ ls, Snd s'.unw 60 64 64 1 1 ls) (h7 : ∀ j (h : j < L.length) (h1 : j < Q.length), Q[j].2.s = L[j].2.m.key ∧ Q[j].2.Ok w ∧ GI s L[j].2 (4 * i) ∧ (L[j].2.thr = false → L[j].2.the = false)) : GD w (i + 1) n W P AX AY v := by
 refine ⟨K, lab, s', L, Q, hg.less (Nat.le_succ _), hl, hq, hs, by omega, fun h => (h6 h).2.2, fun j h h' => ?_⟩
 obtain ⟨q1, q2, q3, q4⟩ := h7 j h h'
 obtain ⟨k1, k5, ls, hsn⟩ := h6 (by omega)
 exact ⟨q1, q2, (q3.turn hx k1 k5 hsn).mono (by omega), q4⟩
theorem gd_new {P' : Nat} {key : Tx} {v' : Value} (hg : StpG w i P AX AY s (L ++ [(P', GS.new key.s)]) v' (Q ++ [(P', key)]) W) (hl : L.length = n) (hq : Q.map Prod.fst = L.map Prod.fst) (hs : SI s (1048576 + i)) (hni : n ≤ i) (hok : key.Ok w) {ls : List Chn} (hsn : Snd s.unw 60 64 64 1 1 ls) (h7 : ∀ j (h : j < L.length) (h1 : j < Q.length), Q[j].2.s = L[j].2.m.key ∧ Q[j].2.Ok w ∧ GI s L[j].2 (4 * i) ∧ (L[j].2.thr = false → L[j].2.the = false)) : GD w (i + 1) (n + 1) W P AX AY v' := by
 obtain ⟨K', lab', hg⟩ := hg
 have hlq : Q.length = L.length := by have := congrArg List.length hq; simpa using this
 refine ⟨K', lab', s, _, _, hg.less (Nat.le_succ _), by simp [hl], by rw [List.map_append, List.map_append, hq]; rfl, hs.mono (by omega), by omega, fun _ => ⟨ls, hsn⟩, fun j h h' => ?_⟩
 by_cases hj : j < L.length
 ·rw [List.getElem_append_left hj, List.getElem_append_left (by omega)]
  obtain ⟨q1, q2, q3, q4⟩ := h7 j hj (by omega)
  exact ⟨q1, q2, q3.mono (by omega), q4⟩
 ·rw [List.length_append, List.length_singleton] at h
  have e : j = L.length := by omega
  rw [List.getElem_append_right (by omega), List.getElem_append_right (by omega)]
  simp only [show j - L.length = 0 by omega, show j - Q.length = 0 by omega, List.getElem_cons_zero]
  exact ⟨rfl, hok, GI.new s key.s _, fun _ => rfl⟩
theorem gd_step {k : Nat} (hk : k < L.length) (hg : StpG w (i + 1) P AX AY s (L.set k (L[k].1, L[k].2.step s)) v Q W) (hl : L.length = n) (hq : Q.map Prod.fst = L.map Prod.fst) (hs : SI s (1048576 + i)) (hni : n ≤ i) (hw : ∀ k, s.inn k → s.w k < 18446744073709551616) (hi : i ≤ 1048576) {ls : List Chn} (hsn : Snd s.unw 60 64 64 1 1 ls) (h7 : ∀ j (h : j < L.length) (h1 : j < Q.length), Q[j].2.s = L[j].2.m.key ∧ Q[j].2.Ok w ∧ GI s L[j].2 (4 * i) ∧ (L[j].2.thr = false → L[j].2.the = false)) : GD w (i + 1) n W P AX AY v := by
 obtain ⟨K', lab', hg⟩ := hg
 refine ⟨K', lab', s, _, _, hg, by rw [List.length_set]; exact hl, by rw [hq, List.map_set]; exact (map_set_self hk).symm, hs.mono (by omega), by omega, fun _ => ⟨ls, hsn⟩, fun j h h' => ?_⟩
 rw [List.length_set] at h
 obtain ⟨q1, q2, q3, q4⟩ := h7 j h h'
 by_cases e : k = j
 ·subst e
  rw [List.getElem_set_self]
  obtain ⟨r1, _, r3⟩ := q3.step hw (by omega) hsn
  exact ⟨by rw [q1]; exact r3.symm, q2, r1.mono (by omega), gs_the s q4⟩
 ·rw [List.getElem_set_ne e]
  exact ⟨q1, q2, q3.mono (by omega), q4⟩
end
set_option maxRecDepth 100000 in
set_option maxHeartbeats 25600000 in
theorem getMoment_any (aS : Option Addr) (lS cS : Nat) (L0 : List TOp) (w : World)
  (hL : L0.length = lS) (hO : TOps w.heap.size w aS L0) (hS : ∀ x ∈ L0, SzP 1048576 x.n.p) (hlS : lS ≤ 1048576) :
  Calls Tryz.prog 4 #[.slice aS lS cS] w fun e w' => e = .returned (.bool true) ∧ Below w.heap.size w w' := by
 obtain ⟨i0, hi0, hz0, hz1, hz2⟩ := info_parts infoGP
 have HHD := hide (ghead_any w)
 have HBG : Hid (∀ W, Calls Tryz.prog 10 #[.int .i64 60] W (BegP W 60)) := fun W => begun_good 60 W (by decide) (by decide)
 have HO := hide hO
 have HLL := hide hL
 have HSZ := hide hS
 have HLS := hide hlS
 have hlS2 : (lS : Int) ≤ 9223372036854775807 := by omega
 clear hO hL hlS hS
 go_enter Tryz.func4, Tryz.ntmps4
 go_wp2_with fail
 refine HHD.out.mono ?_
 rintro e wA ⟨rfl, bA⟩
 have BA := hide bA
 clear bA HHD
 go_wp2_with fail
 refine (HBG.out wA).mono ?_
 rintro e w1 ⟨P, AX, AY, rfl, hA, hb⟩
 have HD1 : Hid (GD w 0 0 w1 P AX AY (.slice none 0 0)) := by
  refine ⟨_, fun _ => 0, _, [], [], ⟨hA, BA.out.trans (hb.mono BA.out.size), fun k hk => .inl (Nat.lt_of_lt_of_le hk BA.out.size), fun _ _ => rfl, fun k hk => absurd rfl hk, fun k hk => absurd rfl hk, rfl, World.ownsRow_nil _ _ _ _, (fun k hk => by cases hk), fun i hi => absurd hi (Nat.not_lt_zero i), (fun x hx => by cases hx)⟩, rfl, rfl, SI.new _ _, Nat.le_refl _, fun h => absurd h (Nat.lt_irrefl _), fun j hj => absurd hj (Nat.not_lt_zero j)⟩
 clear hA hb HBG BA
 go_wp2_with fail
 go_loopw [6, 7] (fun q6 q7 wr => ∃ (i n : Nat) (a6 : Option Addr) (c6 : Nat), i ≤ lS ∧ q6 = .slice a6 n c6 ∧ q7 = .int .i64 (i : Int) ∧ Hid (GD w i n wr P AX AY (.slice a6 n c6))) (fun _ q7 _ => lS - (intOf q7).toNat)
 case atStart => exact ⟨0, 0, none, 0, Nat.zero_le _, rfl, rfl, HD1⟩
 case round =>
  clear HD1
  obtain ⟨i, n, a6, c6, hi, rfl, rfl, HI⟩ := hrel
  rename World => wr
  by_cases hlt : i < lS
  ·have j1 : (i : Int) < (lS : Int) := by omega
   have hiL : i < L0.length := by rw [HLL.out]; exact hlt
   have hi6 : i ≤ 1048576 := by have := HLS.out; omega
   obtain ⟨K, lab, s, L, Q, hD, hLn, hQL, hSI, hni, hsn, hall⟩ := HI.out
   have hops := HO.out.below hD.bw
   have hok0 := HO.out.ok L0[i] (List.getElem_mem hiL)
   obtain ⟨ob, oo, hoa, hok, hoc⟩ := hops.c i hiL
   subst hoa
   have oko := hops.ok L0[i] (List.getElem_mem hiL)
   have hsz := HSZ.out L0[i] (List.getElem_mem hiL)
   generalize L0[i] = op at *
   obtain ⟨kd, oa, obb, ⟨k1a, k1c, k1⟩, ⟨k2a, k2c, k2⟩, ⟨k3a, k3c, k3⟩, ch', ⟨lv, ⟨ha, hc, hs⟩, ri, ⟨ka, kc, KL⟩, ⟨va, vc, V⟩, ⟨ca, cc, C⟩⟩⟩ := op
   have HTN : Hid (∀ W, Below wr.heap.size wr W → Calls Tryz.prog 11 #[.pointer (some ⟨P, 0, none⟩), (⟨kd, oa, obb, ⟨k1a, k1c, k1⟩, ⟨k2a, k2c, k2⟩, ⟨k3a, k3c, k3⟩, true, ⟨lv, ⟨ha, hc, hs⟩, ri, ⟨ka, kc, KL⟩, ⟨va, vc, V⟩, ⟨ca, cc, C⟩⟩⟩ : TOp).v] W fun e w' => e = .returned (.bool true) ∧ ∃ s', GT w K lab i w' P AX AY s' L (.slice a6 n c6) Q ∧ SI s' (1048576 + i + 1) ∧ TX kd true s s') := fun W hb => by
    refine (turn_x (hD.below hb).aw hSI ⟨kd, oa, obb, ⟨k1a, k1c, k1⟩, ⟨k2a, k2c, k2⟩, ⟨k3a, k3c, k3⟩, true, ⟨lv, ⟨ha, hc, hs⟩, ri, ⟨ka, kc, KL⟩, ⟨va, vc, V⟩, ⟨ca, cc, C⟩⟩⟩ ⟨oko.k1, oko.a1, oko.b1, oko.key.below hb, oko.value.below hb, oko.n.below hb, oko.i.mono (fun k hk => hD.kb k hk)⟩ (hsz.mono (by omega)) (by omega)).mono ?_
    rintro e w' ⟨s', ⟨rfl, hA3, hU3⟩, hS3, hX3⟩
    exact ⟨rfl, s', (hD.below hb).raw hA3 hU3, hS3, hX3⟩
   have HKY : Hid ((⟨k1a, k1c, k1⟩ : Tx).Ok w) := hok0.key
   have HKB := hide oko.k1
   have HOA := hide oko.a1
   simp only [TOp.v, TOp.cs, Tx.v, TL.v, IL.v] at HTN hoc
   obtain ⟨l1, hl1⟩ : ∃ x, k1.length = x := ⟨_, rfl⟩
   rw [hl1] at HTN hoc
   have HL1 := hide hl1
   generalize k2.length = l2 at *
   generalize k3.length = l3 at *
   generalize hs.length = lh at *
   generalize KL.length = lk at *
   generalize V.length = lw at *
   generalize C.length = lc at *
   have e0 : wr.cell? ⟨ob, oo + i * 13, none⟩ = some (.int .i64 kd) := hoc 0 _ rfl
   have e1 : wr.cell? ⟨ob, oo + i * 13 + 1, none⟩ = some (.int .i64 oa) := hoc 1 _ rfl
   have e2 : wr.cell? ⟨ob, oo + i * 13 + 2, none⟩ = some (.int .i64 obb) := hoc 2 _ rfl
   have e3 : wr.cell? ⟨ob, oo + i * 13 + 3, none⟩ = some (.slice k1a l1 k1c) := hoc 3 _ rfl
   have e4 : wr.cell? ⟨ob, oo + i * 13 + 4, none⟩ = some (.slice k2a l2 k2c) := hoc 4 _ rfl
   have e5 : wr.cell? ⟨ob, oo + i * 13 + 5, none⟩ = some (.slice k3a l3 k3c) := hoc 5 _ rfl
   have e6 : wr.cell? ⟨ob, oo + i * 13 + 6, none⟩ = some (.bool ch') := hoc 6 _ rfl
   have e7 : wr.cell? ⟨ob, oo + i * 13 + 7, none⟩ = some (.int .i64 lv) := hoc 7 _ rfl
   have e8 : wr.cell? ⟨ob, oo + i * 13 + 8, none⟩ = some (.slice ha lh hc) := hoc 8 _ rfl
   have e9 : wr.cell? ⟨ob, oo + i * 13 + 9, none⟩ = some (.int .i64 ri) := hoc 9 _ rfl
   have e10 : wr.cell? ⟨ob, oo + i * 13 + 10, none⟩ = some (.slice ka lk kc) := hoc 10 _ rfl
   have e11 : wr.cell? ⟨ob, oo + i * 13 + 11, none⟩ = some (.slice va lw vc) := hoc 11 _ rfl
   have e12 : wr.cell? ⟨ob, oo + i * 13 + 12, none⟩ = some (.slice ca lc cc) := hoc 12 _ rfl
   have HD := hide hD
   have HALL := hide hall
   have HLN := hide (And.intro hLn (And.intro hQL (And.intro hSI hni)))
   have HSN := hide hsn
   have hn63 : n + 1 ≤ maxLen := by unfold maxLen; omega
   have hn40 : (n + 1) * 40 ≤ 140737488355328 := by omega
   obtain ⟨wb, hwb⟩ : ∃ wb, wb = wr.alloc (.cells #[.int .i64 kd, .int .i64 oa, .int .i64 obb, .slice k1a l1 k1c, .slice k2a l2 k2c, .slice k3a l3 k3c, .bool ch', .int .i64 lv, .slice ha lh hc, .int .i64 ri, .slice ka lk kc, .slice va lw vc, .slice ca lc cc] 37) := ⟨_, rfl⟩
   have bb : Below wr.heap.size wr wb := by rw [hwb]; exact (Below.refl _ _).alloc (Nat.le_refl _) _
   have GB : Hid (wb.heap[wr.heap.size]? = some (.cells #[.int .i64 kd, .int .i64 oa, .int .i64 obb, .slice k1a l1 k1c, .slice k2a l2 k2c, .slice k3a l3 k3c, .bool ch', .int .i64 lv, .slice ha lh hc, .int .i64 ri, .slice ka lk kc, .slice va lw vc, .slice ca lc cc] 37 (0, 0))) := by show _ = _; rw [hwb]; exact heap_alloc_new wr _
   have BB := hide bb
   have HWB := hide hwb
   have HSK : Hid (∀ W, Below wb.heap.size wb W → GD w (i + 1) n W P AX AY (.slice a6 n c6)) := fun W hb => (HI.out.below (bb.trans (hb.mono bb.size))).skip
   have hSz : wr.heap.size < wb.heap.size := lt_of_block GB.out
   have HPl := hide hD.plt
   clear hops hok0 hoc hok oko hsz hl1 hD hLn hQL hSI hall hsn HI bb hwb
   go_upto_region 10 with fail
   rw [← HWB.out]
   clear HWB e0 e1 e2 e3 e4 e5 e6 e7 e8 e9 e10 e11 e12
   have bx0 : wb.cell? ⟨wr.heap.size, 0, none⟩ = some (.int .i64 kd) := by rw [cell_of_row _ _ _ _ _ _ GB.out]; rfl
   have bx1 : wb.cell? ⟨wr.heap.size, 1, none⟩ = some (.int .i64 oa) := by rw [cell_of_row _ _ _ _ _ _ GB.out]; rfl
   have bx2 : wb.cell? ⟨wr.heap.size, 2, none⟩ = some (.int .i64 obb) := by rw [cell_of_row _ _ _ _ _ _ GB.out]; rfl
   have bx3 : wb.cell? ⟨wr.heap.size, 3, none⟩ = some (.slice k1a l1 k1c) := by rw [cell_of_row _ _ _ _ _ _ GB.out]; rfl
   have bx4 : wb.cell? ⟨wr.heap.size, 4, none⟩ = some (.slice k2a l2 k2c) := by rw [cell_of_row _ _ _ _ _ _ GB.out]; rfl
   have bx5 : wb.cell? ⟨wr.heap.size, 5, none⟩ = some (.slice k3a l3 k3c) := by rw [cell_of_row _ _ _ _ _ _ GB.out]; rfl
   have bx6 : wb.cell? ⟨wr.heap.size, 6, none⟩ = some (.bool ch') := by rw [cell_of_row _ _ _ _ _ _ GB.out]; rfl
   have bx7 : wb.cell? ⟨wr.heap.size, 7, none⟩ = some (.int .i64 lv) := by rw [cell_of_row _ _ _ _ _ _ GB.out]; rfl
   have bx8 : wb.cell? ⟨wr.heap.size, 8, none⟩ = some (.slice ha lh hc) := by rw [cell_of_row _ _ _ _ _ _ GB.out]; rfl
   have bx9 : wb.cell? ⟨wr.heap.size, 9, none⟩ = some (.int .i64 ri) := by rw [cell_of_row _ _ _ _ _ _ GB.out]; rfl
   have bx10 : wb.cell? ⟨wr.heap.size, 10, none⟩ = some (.slice ka lk kc) := by rw [cell_of_row _ _ _ _ _ _ GB.out]; rfl
   have bx11 : wb.cell? ⟨wr.heap.size, 11, none⟩ = some (.slice va lw vc) := by rw [cell_of_row _ _ _ _ _ _ GB.out]; rfl
   have bx12 : wb.cell? ⟨wr.heap.size, 12, none⟩ = some (.slice ca lc cc) := by rw [cell_of_row _ _ _ _ _ _ GB.out]; rfl
   by_cases hA : 0 ≤ kd ∧ kd ≤ 6
   ·obtain ⟨ja, jb⟩ := hA
    as_aux_lemma =>
     by_cases hcont : 0 < n ∧ (kd = 0 ∨ kd = 6)
     ·obtain ⟨hn0, hk06⟩ := hcont
      have jn : (0 : Int) < (n : Int) := by omega
      have HN := hide (HSK.out wb (Below.refl _ _))
      rcases hk06 with rfl | rfl
      ·clear HTN HSK
       go_wp2_with fail
       go_roundw
       case rel => exact ⟨i + 1, n, a6, c6, by omega, rfl, by go_num, HN⟩
       case measure => simp [intOf]; omega
      ·clear HTN HSK
       have q6 : ((6 : Int) == 0) = false := by decide
       go_wp2_with fail
       go_roundw
       case rel => exact ⟨i + 1, n, a6, c6, by omega, rfl, by go_num, HN⟩
       case measure => simp [intOf]; omega
     have hcn : 0 < n → 1 ≤ kd ∧ kd ≤ 5 := fun h => by
      have h1 : ¬ (kd = 0 ∨ kd = 6) := fun e => hcont ⟨h, e⟩
      omega
     have HCN := hide hcn
     obtain ⟨wt, hwt⟩ : ∃ wt, wt = wb.setCell ⟨wr.heap.size, 6, none⟩ (.bool true) := ⟨_, rfl⟩
     have GT6 : Hid (wt.heap[wr.heap.size]? = some (.cells #[.int .i64 kd, .int .i64 oa, .int .i64 obb, .slice k1a l1 k1c, .slice k2a l2 k2c, .slice k3a l3 k3c, .bool true, .int .i64 lv, .slice ha lh hc, .int .i64 ri, .slice ka lk kc, .slice va lw vc, .slice ca lc cc] 37 (0, 0))) := by show _ = _; rw [hwt]; exact block_setCell GB.out 6 _
     have ut : Upd (fun k => k = wr.heap.size) wb wt := by rw [hwt]; exact (Upd.refl _ _).setCell _ _ (fun _ => rfl)
     have Bt : Hid (Below wr.heap.size wr wt) := BB.out.trans (ut.below BB.out.size (fun k hk e => by omega))
     have fz := fun j => frozen_of GB.out j
     have HWT := hide hwt
     have HTT := hide (HTN.out wt Bt.out)
     have HSK2 : Hid (∀ W, Below wt.heap.size wt W → Below wr.heap.size wr W) := fun W hb => Bt.out.trans (hb.mono Bt.out.size)
     clear hwt ut HTN hcn HSK
     have hcontB : ¬ (0 < n ∧ (kd = 0 ∨ kd = 6)) := hcont
     by_cases hn1 : n = 0
     ·subst hn1
      go_upto_region 13 with fail
      rw [← HWT.out]
      clear HWT bx0 bx1 bx2 bx3 bx4 bx5 bx6 bx7 bx8 bx9 bx10 bx11 bx12 fz
      have bt0 : wt.cell? ⟨wr.heap.size, 0, none⟩ = some (.int .i64 kd) := by rw [cell_of_row _ _ _ _ _ _ GT6.out]; rfl
      have bt1 : wt.cell? ⟨wr.heap.size, 1, none⟩ = some (.int .i64 oa) := by rw [cell_of_row _ _ _ _ _ _ GT6.out]; rfl
      have bt2 : wt.cell? ⟨wr.heap.size, 2, none⟩ = some (.int .i64 obb) := by rw [cell_of_row _ _ _ _ _ _ GT6.out]; rfl
      have bt3 : wt.cell? ⟨wr.heap.size, 3, none⟩ = some (.slice k1a l1 k1c) := by rw [cell_of_row _ _ _ _ _ _ GT6.out]; rfl
      have bt4 : wt.cell? ⟨wr.heap.size, 4, none⟩ = some (.slice k2a l2 k2c) := by rw [cell_of_row _ _ _ _ _ _ GT6.out]; rfl
      have bt5 : wt.cell? ⟨wr.heap.size, 5, none⟩ = some (.slice k3a l3 k3c) := by rw [cell_of_row _ _ _ _ _ _ GT6.out]; rfl
      have bt6 : wt.cell? ⟨wr.heap.size, 6, none⟩ = some (.bool true) := by rw [cell_of_row _ _ _ _ _ _ GT6.out]; rfl
      have bt7 : wt.cell? ⟨wr.heap.size, 7, none⟩ = some (.int .i64 lv) := by rw [cell_of_row _ _ _ _ _ _ GT6.out]; rfl
      have bt8 : wt.cell? ⟨wr.heap.size, 8, none⟩ = some (.slice ha lh hc) := by rw [cell_of_row _ _ _ _ _ _ GT6.out]; rfl
      have bt9 : wt.cell? ⟨wr.heap.size, 9, none⟩ = some (.int .i64 ri) := by rw [cell_of_row _ _ _ _ _ _ GT6.out]; rfl
      have bt10 : wt.cell? ⟨wr.heap.size, 10, none⟩ = some (.slice ka lk kc) := by rw [cell_of_row _ _ _ _ _ _ GT6.out]; rfl
      have bt11 : wt.cell? ⟨wr.heap.size, 11, none⟩ = some (.slice va lw vc) := by rw [cell_of_row _ _ _ _ _ _ GT6.out]; rfl
      have bt12 : wt.cell? ⟨wr.heap.size, 12, none⟩ = some (.slice ca lc cc) := by rw [cell_of_row _ _ _ _ _ _ GT6.out]; rfl
      go_wp2_with fail
      refine HTT.out.mono ?_
      rintro e w3 ⟨rfl, s', hg3, hS3, hX3⟩
      have HG3 := hide hg3
      have HS3 := hide hS3
      have HX3 := hide hX3
      clear hg3 hS3 hX3 HTT bt0 bt1 bt2 bt3 bt4 bt5 bt6 bt7 bt8 bt9 bt10 bt11 bt12
      go_upto_region 14 with fail
      obtain ⟨sb, hsb⟩ : ∃ b, sndB s' 60 64 64 1 1 = b := ⟨_, rfl⟩
      have HSB := hide hsb
      have HC1 : Hid (∀ Y, Below w3.heap.size w3 Y → Y.cell? ⟨P, 1, none⟩ = some (.pointer (some ⟨AY, 0, none⟩))) := fun Y hb => (HG3.out.below hb).aw.cells.2
      have HWD : Hid (∀ Y, Below w3.heap.size w3 Y → Calls Tryz.prog 14 #[] Y fun e w' => e = .returned (.agg #[.int .i64 60, .int .i64 64, .int .i64 64, .int .i64 1, .int .i64 1]) ∧ Below w3.heap.size w3 w' ∧ w'.cell? ⟨P, 1, none⟩ = some (.pointer (some ⟨AY, 0, none⟩))) := fun Y hb => (gwide_any Y).mono fun e w' ⟨h1, h2⟩ => by
       have h3 := hb.trans (h2.mono hb.size)
       exact ⟨h1, h3, HC1.out _ h3⟩
      have HSO : Hid (∀ Y, Below w3.heap.size w3 Y → Calls Tryz.prog 21 #[.pointer (some ⟨AY, 0, none⟩), .agg #[.int .i64 60, .int .i64 64, .int .i64 64, .int .i64 1, .int .i64 1]] Y fun e w' => e = .returned (.bool sb) ∧ Below w3.heap.size w3 w' ∧ w'.cell? ⟨P, 1, none⟩ = some (.pointer (some ⟨AY, 0, none⟩))) := fun Y hb => by
       obtain ⟨F, hp⟩ := (HG3.out.below hb).aw.rx
       refine (gsound_any hp 60 64 64 1 1).mono ?_
       rintro e w' ⟨h1, h2⟩
       have h3 := hb.trans (h2.mono hb.size)
       exact ⟨by rw [h1, HSB.out], h3, HC1.out _ h3⟩
      have p1 := HC1.out w3 (Below.refl _ _)
      clear hsb
      go_cut [9] (fun q wx => q = .bool sb ∧ Hid (Below w3.heap.size w3 wx))
      case first =>
       go_region_held3 (fun Y => Y.cell? ⟨P, 1, none⟩ = some (.pointer (some ⟨AY, 0, none⟩))) (go_keep) (first
        | (go_at_call 14; refine (HWD.out _ (below_drew (Below.refl _ _))).mono ?_; rintro e w9 ⟨rfl, hb9, k9⟩; have B9 := hide hb9; clear hb9)
        | (go_at_call 21; refine (HSO.out _ (by first | exact B9.out | exact below_drew B9.out)).mono ?_; rintro e w8 ⟨rfl, hb8, k8⟩; have B8 := hide hb8; clear hb8)
        | fail)
       all_goals (try go_wp2_with fail)
       all_goals
        go_meet
        exact ⟨rfl, B8⟩
      case rest =>
      rename World => wx
      obtain ⟨rfl, BX⟩ := hcut
      clear p1 HWD HSO HC1
      have HGX := hide (HG3.out.below BX.out)
      have HN : Hid (GD w (i + 1) 0 wx P AX AY (.slice a6 0 c6)) := gd_turn HGX.out HLN.out.1 HLN.out.2.1 HS3.out HLN.out.2.2.2 HX3.out (fun h => absurd h (Nat.lt_irrefl _)) HALL.out
      go_wp2_with fail
      go_roundw
      case rel => exact ⟨i + 1, 0, a6, c6, by omega, rfl, by go_num, HN⟩
      case measure => simp [intOf]; omega
     ·have jn1 : (0 : Int) < (n : Int) := by omega
      have jk0 : (kd == 0) = false := by rw [beq_eq_false_iff_ne]; intro e; exact hcontB ⟨by omega, .inl e⟩
      have jk6 : (kd == 6) = false := by rw [beq_eq_false_iff_ne]; intro e; exact hcontB ⟨by omega, .inr e⟩
      go_upto_region 13 with fail
      rw [← HWT.out]
      clear HWT bx0 bx1 bx2 bx3 bx4 bx5 bx6 bx7 bx8 bx9 bx10 bx11 bx12 fz
      have bt0 : wt.cell? ⟨wr.heap.size, 0, none⟩ = some (.int .i64 kd) := by rw [cell_of_row _ _ _ _ _ _ GT6.out]; rfl
      have bt1 : wt.cell? ⟨wr.heap.size, 1, none⟩ = some (.int .i64 oa) := by rw [cell_of_row _ _ _ _ _ _ GT6.out]; rfl
      have bt2 : wt.cell? ⟨wr.heap.size, 2, none⟩ = some (.int .i64 obb) := by rw [cell_of_row _ _ _ _ _ _ GT6.out]; rfl
      have bt3 : wt.cell? ⟨wr.heap.size, 3, none⟩ = some (.slice k1a l1 k1c) := by rw [cell_of_row _ _ _ _ _ _ GT6.out]; rfl
      have bt4 : wt.cell? ⟨wr.heap.size, 4, none⟩ = some (.slice k2a l2 k2c) := by rw [cell_of_row _ _ _ _ _ _ GT6.out]; rfl
      have bt5 : wt.cell? ⟨wr.heap.size, 5, none⟩ = some (.slice k3a l3 k3c) := by rw [cell_of_row _ _ _ _ _ _ GT6.out]; rfl
      have bt6 : wt.cell? ⟨wr.heap.size, 6, none⟩ = some (.bool true) := by rw [cell_of_row _ _ _ _ _ _ GT6.out]; rfl
      have bt7 : wt.cell? ⟨wr.heap.size, 7, none⟩ = some (.int .i64 lv) := by rw [cell_of_row _ _ _ _ _ _ GT6.out]; rfl
      have bt8 : wt.cell? ⟨wr.heap.size, 8, none⟩ = some (.slice ha lh hc) := by rw [cell_of_row _ _ _ _ _ _ GT6.out]; rfl
      have bt9 : wt.cell? ⟨wr.heap.size, 9, none⟩ = some (.int .i64 ri) := by rw [cell_of_row _ _ _ _ _ _ GT6.out]; rfl
      have bt10 : wt.cell? ⟨wr.heap.size, 10, none⟩ = some (.slice ka lk kc) := by rw [cell_of_row _ _ _ _ _ _ GT6.out]; rfl
      have bt11 : wt.cell? ⟨wr.heap.size, 11, none⟩ = some (.slice va lw vc) := by rw [cell_of_row _ _ _ _ _ _ GT6.out]; rfl
      have bt12 : wt.cell? ⟨wr.heap.size, 12, none⟩ = some (.slice ca lc cc) := by rw [cell_of_row _ _ _ _ _ _ GT6.out]; rfl
      go_wp2_with fail
      refine HTT.out.mono ?_
      rintro e w3 ⟨rfl, s', hg3, hS3, hX3⟩
      have HG3 := hide hg3
      have HS3 := hide hS3
      have HX3 := hide hX3
      clear hg3 hS3 hX3 HTT bt0 bt1 bt2 bt3 bt4 bt5 bt6 bt7 bt8 bt9 bt10 bt11 bt12
      go_upto_region 14 with fail
      obtain ⟨sb, hsb⟩ : ∃ b, sndB s' 60 64 64 1 1 = b := ⟨_, rfl⟩
      have HSB := hide hsb
      have HC1 : Hid (∀ Y, Below w3.heap.size w3 Y → Y.cell? ⟨P, 1, none⟩ = some (.pointer (some ⟨AY, 0, none⟩))) := fun Y hb => (HG3.out.below hb).aw.cells.2
      have HWD : Hid (∀ Y, Below w3.heap.size w3 Y → Calls Tryz.prog 14 #[] Y fun e w' => e = .returned (.agg #[.int .i64 60, .int .i64 64, .int .i64 64, .int .i64 1, .int .i64 1]) ∧ Below w3.heap.size w3 w' ∧ w'.cell? ⟨P, 1, none⟩ = some (.pointer (some ⟨AY, 0, none⟩))) := fun Y hb => (gwide_any Y).mono fun e w' ⟨h1, h2⟩ => by
       have h3 := hb.trans (h2.mono hb.size)
       exact ⟨h1, h3, HC1.out _ h3⟩
      have HSO : Hid (∀ Y, Below w3.heap.size w3 Y → Calls Tryz.prog 21 #[.pointer (some ⟨AY, 0, none⟩), .agg #[.int .i64 60, .int .i64 64, .int .i64 64, .int .i64 1, .int .i64 1]] Y fun e w' => e = .returned (.bool sb) ∧ Below w3.heap.size w3 w' ∧ w'.cell? ⟨P, 1, none⟩ = some (.pointer (some ⟨AY, 0, none⟩))) := fun Y hb => by
       obtain ⟨F, hp⟩ := (HG3.out.below hb).aw.rx
       refine (gsound_any hp 60 64 64 1 1).mono ?_
       rintro e w' ⟨h1, h2⟩
       have h3 := hb.trans (h2.mono hb.size)
       exact ⟨by rw [h1, HSB.out], h3, HC1.out _ h3⟩
      have p1 := HC1.out w3 (Below.refl _ _)
      clear hsb
      go_cut [9] (fun q wx => q = .bool sb ∧ Hid (Below w3.heap.size w3 wx))
      case first =>
       go_region_held3 (fun Y => Y.cell? ⟨P, 1, none⟩ = some (.pointer (some ⟨AY, 0, none⟩))) (go_keep) (first
        | (go_at_call 14; refine (HWD.out _ (below_drew (Below.refl _ _))).mono ?_; rintro e w9 ⟨rfl, hb9, k9⟩; have B9 := hide hb9; clear hb9)
        | (go_at_call 21; refine (HSO.out _ (by first | exact B9.out | exact below_drew B9.out)).mono ?_; rintro e w8 ⟨rfl, hb8, k8⟩; have B8 := hide hb8; clear hb8)
        | fail)
       all_goals (try go_wp2_with fail)
       all_goals
        go_meet
        exact ⟨rfl, B8⟩
      case rest =>
      rename World => wx
      obtain ⟨rfl, BX⟩ := hcut
      clear p1 HWD HSO HC1
      have HGX := hide (HG3.out.below BX.out)
      cases sb with
      | false =>
       have HFIN := hide HGX.out.bw
       go_wp2_with fail
       go_ret
       exact ⟨rfl, HFIN.out⟩
      | true =>
       have HN : Hid (GD w (i + 1) n wx P AX AY (.slice a6 n c6)) := gd_turn HGX.out HLN.out.1 HLN.out.2.1 HS3.out HLN.out.2.2.2 HX3.out (fun h => ⟨(HCN.out h).1, (HCN.out h).2, snd_true HSB.out⟩) HALL.out
       go_wp2_with fail
       go_roundw
       case rel => exact ⟨i + 1, n, a6, c6, by omega, rfl, by go_num, HN⟩
       case measure => simp [intOf]; omega
   ·by_cases h7 : kd = 7
    ·subst h7
     as_aux_lemma =>
      have HGB := hide (HD.out.below BB.out)
      clear HTN HSK
      go_upto_region 18 with fail
      obtain ⟨sb, hsb⟩ : ∃ b, sndB s 60 64 64 1 1 = b := ⟨_, rfl⟩
      have HSB := hide hsb
      have HC1 : Hid (∀ Y, Below wb.heap.size wb Y → Y.cell? ⟨P, 1, none⟩ = some (.pointer (some ⟨AY, 0, none⟩))) := fun Y hb => (HGB.out.below hb).aw.cells.2
      have HWD : Hid (∀ Y, Below wb.heap.size wb Y → Calls Tryz.prog 14 #[] Y fun e w' => e = .returned (.agg #[.int .i64 60, .int .i64 64, .int .i64 64, .int .i64 1, .int .i64 1]) ∧ Below wb.heap.size wb w' ∧ w'.cell? ⟨P, 1, none⟩ = some (.pointer (some ⟨AY, 0, none⟩))) := fun Y hb => (gwide_any Y).mono fun e w' ⟨h1, h2⟩ => by
       have h3 := hb.trans (h2.mono hb.size)
       exact ⟨h1, h3, HC1.out _ h3⟩
      have HSO : Hid (∀ Y, Below wb.heap.size wb Y → Calls Tryz.prog 21 #[.pointer (some ⟨AY, 0, none⟩), .agg #[.int .i64 60, .int .i64 64, .int .i64 64, .int .i64 1, .int .i64 1]] Y fun e w' => e = .returned (.bool sb) ∧ Below wb.heap.size wb w' ∧ w'.cell? ⟨P, 1, none⟩ = some (.pointer (some ⟨AY, 0, none⟩))) := fun Y hb => by
       obtain ⟨F, hp⟩ := (HGB.out.below hb).aw.rx
       refine (gsound_any hp 60 64 64 1 1).mono ?_
       rintro e w' ⟨h1, h2⟩
       have h3 := hb.trans (h2.mono hb.size)
       exact ⟨by rw [h1, HSB.out], h3, HC1.out _ h3⟩
      have p1 := HC1.out wb (Below.refl _ _)
      clear hsb
      go_cut [10] (fun q wx => q = .bool sb ∧ Hid (Below wb.heap.size wb wx))
      case first =>
       go_region_held3 (fun Y => Y.cell? ⟨P, 1, none⟩ = some (.pointer (some ⟨AY, 0, none⟩))) (go_keep) (first
        | (go_at_call 14; refine (HWD.out _ (below_drew (Below.refl _ _))).mono ?_; rintro e w9 ⟨rfl, hb9, k9⟩; have B9 := hide hb9; clear hb9)
        | (go_at_call 21; refine (HSO.out _ (by first | exact B9.out | exact below_drew B9.out)).mono ?_; rintro e w8 ⟨rfl, hb8, k8⟩; have B8 := hide hb8; clear hb8)
        | fail)
       all_goals (try go_wp2_with fail)
       all_goals
        go_meet
        exact ⟨rfl, B8⟩
      case rest =>
      rename World => wx
      obtain ⟨rfl, BX⟩ := hcut
      clear p1 HWD HSO HC1
      have HGX := hide (HGB.out.below BX.out)
      cases sb with
      | false =>
       have HFIN := hide HGX.out.bw
       go_wp2_with fail
       go_ret
       exact ⟨rfl, HFIN.out⟩
      | true =>
       have gx := (BX.out.block _ (lt_of_block GB.out)).trans GB.out
       have d3 : wx.cell? ⟨wr.heap.size, 3, none⟩ = some (.slice k1a l1 k1c) := by rw [cell_of_row _ _ _ _ _ _ gx]; rfl
       have p0 := HGX.out.aw.cells.1
       have hSx : wr.heap.size < wx.heap.size := lt_of_block gx
       have hPx : P < wx.heap.size := HGX.out.plt
       have HNW : Hid (∀ Y, Below wx.heap.size wx Y → Calls Tryz.prog 15 #[.pointer (some ⟨AX, 0, none⟩), .slice k1a l1 k1c] Y fun e w' => ∃ pp, e = .returned (.pointer (some ⟨pp, 0, none⟩)) ∧ StpG w i P AX AY s (L ++ [(pp, GS.new k1)]) (.slice a6 n c6) Q w' ∧ Below wx.heap.size wx w') := fun Y hb => by
        have := gnew_any (W := Y) (A := AX) ⟨k1a, k1c, k1⟩ (HKY.out.below ((HGX.out.below hb).bw))
        simp only [Tx.v] at this
        rw [HL1.out] at this
        refine this.mono ?_
        rintro e w' ⟨pp, p, kt, vt, D, h1, h2, h3, h4, h5⟩
        exact ⟨pp, h1, (HGX.out.below hb).add h5 h2 h3 h4 ⟨Nat.zero_le _, Nat.zero_le _⟩, hb.trans (h5.mono hb.size)⟩
       obtain ⟨ls, hls⟩ := snd_true HSB.out
       have HLS2 := hide hls
       have HPU : Hid (∀ pp Y wt g' c' w5, StpG w i P AX AY s (L ++ [(pp, GS.new k1)]) (.slice a6 n c6) Q Y → Below Y.heap.size Y wt → w5.ownsRow w.heap.size 67 3 (.slice (some ⟨g', 0, none⟩) (n + 1) c') (n + 1) (Q.flatMap pqT ++ pqT (pp, ⟨k1a, k1c, k1⟩)) → wt.grownBy w5 (Value.slice a6 n c6).ownBlock → ((Value.slice a6 n c6).ownBlock = some g' ∨ wt.heap.size ≤ g') → GD w (i + 1) (n + 1) w5 P AX AY (.slice (some ⟨g', 0, none⟩) (n + 1) c')) := fun pp Y wt g' c' w5 h1 hb h2 h3 h4 => by
        obtain ⟨K', lab', h1⟩ := h1
        have hlq : Q.length = n := by have := congrArg List.length HLN.out.2.1; rw [← HLN.out.1]; simpa using this
        have h5 := (h1.below hb).push (pp, ⟨k1a, k1c, k1⟩) (g := g') (cap := c') (by rw [hlq]; exact h2) h3 h4
        rw [hlq] at h5
        exact gd_new h5 HLN.out.1 HLN.out.2.1 HLN.out.2.2.1 HLN.out.2.2.2 HKY.out HLS2.out HALL.out
       have HROW : Hid (∀ pp Y wt, StpG w i P AX AY s (L ++ [(pp, GS.new k1)]) (.slice a6 n c6) Q Y → Below Y.heap.size Y wt → wt.ownsRow w.heap.size 67 3 (.slice a6 n c6) n (Q.flatMap pqT) ∧ w.heap.size ≤ wt.heap.size) := fun pp Y wt h1 hb => by
        obtain ⟨K', lab', h1⟩ := h1
        have hlq : Q.length = n := by have := congrArg List.length HLN.out.2.1; rw [← HLN.out.1]; simpa using this
        have h2 := (h1.below hb).r6
        rw [hlq] at h2
        exact ⟨h2, (h1.below hb).bw.size⟩
       have HUP : Hid (∀ (wt w5 : World), wt.grownBy w5 (Value.slice a6 n c6).ownBlock → ∀ (p : Addr) (v : Value), wt.cell? p = some v → (p.block = P ∨ p.block = wr.heap.size) → w5.cell? p = some v) := fun wt w5 hg p v hc hp => by
        have hu : Upd (fun k => (Value.slice a6 n c6).ownBlock = some k) wt w5 := Upd.of_grown hg (fun k hk _ => hk)
        refine hu.cell hc (fun e => ?_)
        rcases hp with hp | hp
        ·have h1 := HD.out.l6 _ e
         rw [hp, HD.out.lp] at h1
         cases h1
        ·have h1 := (HD.out.r6.lt _ e).2
         omega
       clear gx hls
       generalize Q.flatMap pqT = xs at *
       go_wp2_with fail
       go_region_held3 (fun Y => Y.cell? ⟨P, 0, none⟩ = some (.pointer (some ⟨AX, 0, none⟩)) ∧ Y.cell? ⟨wr.heap.size, 3, none⟩ = some (.slice k1a l1 k1c)) (go_keep) (first
        | (go_at_call 15; refine (HNW.out _ (below_drew (Below.refl _ _))).mono ?_; rintro e wc ⟨pp, rfl, hst, hbc⟩; have HST := hide hst; have BC := hide hbc; have f0 := (hbc.cell (p := ⟨P, 0, none⟩) hPx).trans p0; have f3 := (hbc.cell (p := ⟨wr.heap.size, 3, none⟩) hSx).trans d3; have f0' := (((Below.refl wc.heap.size wc).alloc (Nat.le_refl _) (.cells #[.pointer (some ⟨pp, 0, none⟩), .pointer none, .slice k1a l1 k1c] 67)).cell (p := ⟨P, 0, none⟩) (Nat.lt_of_lt_of_le hPx hbc.size)).trans f0; have f3' := (((Below.refl wc.heap.size wc).alloc (Nat.le_refl _) (.cells #[.pointer (some ⟨pp, 0, none⟩), .pointer none, .slice k1a l1 k1c] 67)).cell (p := ⟨wr.heap.size, 3, none⟩) (Nat.lt_of_lt_of_le hSx hbc.size)).trans f3; clear hst hbc)
        | (refine step_append_lies _ rfl (.tmp 97) (.tmp 108) 63 rfl w.heap.size 67 i0 (.agg #[.pointer none, .pointer none, .slice none 0 0]) 3 40 Tryz.underlying63 hi0 hz0 hz1 hz2 rfl (by decide) (.slice a6 n c6) n xs (by simp [Act.eval]) (HROW.out pp wc (wc.alloc (.cells #[.pointer (some ⟨pp, 0, none⟩), .pointer none, .slice k1a l1 k1c] 67)) HST.out ((Below.refl _ _).alloc (Nat.le_refl _) _)).1 ⟨wc.heap.size, 0, none⟩ 1 1 [.pointer (some ⟨pp, 0, none⟩), .pointer none, .slice k1a l1 k1c] (by simp [Act.eval]) rfl (three_newG wc (.pointer (some ⟨pp, 0, none⟩)) (.pointer none) (.slice k1a l1 k1c) 67) (by intro u hu; simp at hu; rcases hu with rfl | rfl | rfl <;> rfl) (by decide) hn63 hn40 (HROW.out pp wc (wc.alloc (.cells #[.pointer (some ⟨pp, 0, none⟩), .pointer none, .slice k1a l1 k1c] 67)) HST.out ((Below.refl _ _).alloc (Nat.le_refl _) _)).2 _ rfl ?_; intro g' c' w5 hown5 hg5 hor5 hlt5; have HN5 := hide (HPU.out pp wc (wc.alloc (.cells #[.pointer (some ⟨pp, 0, none⟩), .pointer none, .slice k1a l1 k1c] 67)) g' c' w5 HST.out ((Below.refl _ _).alloc (Nat.le_refl _) _) (by simp only [pqT, gptV, Tx.v, HL1.out]; exact hown5) hg5 (hor5.imp id (fun e => Nat.le_of_eq e.symm))); have r0 := HUP.out _ w5 hg5 ⟨P, 0, none⟩ _ f0' (.inl rfl); have r3 := HUP.out _ w5 hg5 ⟨wr.heap.size, 3, none⟩ _ f3' (.inr rfl); clear hown5 hg5 hor5 hlt5)
        | fail)
       all_goals (try go_wp2_with fail)
       all_goals
        have HN := HN5
        go_roundw
        case rel => exact ⟨i + 1, n + 1, some ⟨g', 0, none⟩, c', by omega, rfl, by go_num, HN⟩
        case measure => simp [intOf]; omega
    ·as_aux_lemma =>
      have j7 : (kd == 7) = false := by rw [beq_eq_false_iff_ne]; exact h7
      by_cases hn0 : n = 0
      ·subst hn0
       have HN := hide (HSK.out wb (Below.refl _ _))
       clear HTN HSK
       by_cases hk0 : 0 ≤ kd
       ·have hk6 : ¬ kd ≤ 6 := fun e => hA ⟨hk0, e⟩
        go_wp2_with fail
        go_roundw
        case rel => exact ⟨i + 1, 0, a6, c6, by omega, rfl, by go_num, HN⟩
        case measure => simp [intOf]; omega
       ·have hk0' : ¬ kd ≥ 0 := hk0
        go_wp2_with fail
        go_roundw
        case rel => exact ⟨i + 1, 0, a6, c6, by omega, rfl, by go_num, HN⟩
        case measure => simp [intOf]; omega
      have jn : (0 : Int) < (n : Int) := by omega
      have hkk : ¬ (0 ≤ kd ∧ kd ≤ 6) := hA
      obtain ⟨kp, hkp⟩ : ∃ x, x = pickN oa n := ⟨_, rfl⟩
      have hkl : kp < n := by rw [hkp]; exact pickN_lt _ _ (by omega)
      have HPI : Hid (∀ Wc, Calls Tryz.prog 22 #[.int .i64 oa, .int .i64 (n : Nat)] Wc fun e w' => e = .returned (.int .i64 (kp : Nat)) ∧ w' = Wc) := fun Wc => by rw [hkp]; exact gpick_any oa n Wc (by omega) (by omega) HOA.out.1 HOA.out.2
      obtain ⟨ls, hls⟩ := HSN.out (by omega)
      have HLS2 := hide hls
      have hlq : Q.length = n := by have := congrArg List.length HLN.out.2.1; rw [← HLN.out.1]; simpa using this
      have hkQ : kp < Q.length := by omega
      have hkL : kp < L.length := by rw [HLN.out.1]; exact hkl
      have hpp : Q[kp].1 = L[kp].1 := by
       have := congrArg (fun l => l[kp]?) HLN.out.2.1
       simp only [List.getElem?_map, List.getElem?_eq_getElem hkQ, List.getElem?_eq_getElem hkL, Option.map_some, Option.some.injEq] at this
       exact this
      obtain ⟨qs, qok, qgi, qth⟩ := HALL.out kp hkL hkQ
      obtain ⟨g6, hg6, hrow⟩ : ∃ g6, a6 = some ⟨g6, 0, none⟩ ∧ ∀ j, j < 3 → wr.cell? ⟨g6, kp * 3 + j, none⟩ = (pqT Q[kp])[j]? := by
       have hr := HD.out.r6
       rw [hlq] at hr
       obtain ⟨g6, rfl⟩ : ∃ g6, a6 = some ⟨g6, 0, none⟩ := by
        rcases hr.2 with ⟨_, h1⟩ | ⟨g, c, cur, hv, _⟩
        ·omega
        ·cases hv; exact ⟨g, rfl⟩
       refine ⟨g6, rfl, fun j hj => ?_⟩
       have hlen : (pqT Q[kp]).length = 3 := rfl
       have hx := flat3_get Q kp j hkQ hj
       obtain ⟨u, hu⟩ : ∃ u, (pqT Q[kp])[j]? = some u := ⟨_, List.getElem?_eq_getElem (by rw [hlen]; exact hj)⟩
       rw [hu] at hx ⊢
       have q0 := hr.cells (g := g6) rfl (kp * 3 + j) _ hx
       rw [Addr.add_lit, Nat.zero_add] at q0
       exact q0
      subst hg6
      have hgl : g6 < wr.heap.size := (HD.out.r6.lt g6 rfl).2
      have y0 : wb.cell? ⟨g6, kp * 3, none⟩ = some (.pointer (some ⟨Q[kp].1, 0, none⟩)) := (BB.out.cell (p := ⟨g6, kp * 3, none⟩) hgl).trans (hrow 0 (by decide))
      have y1 : wb.cell? ⟨g6, kp * 3 + 1, none⟩ = some (.pointer none) := (BB.out.cell (p := ⟨g6, kp * 3 + 1, none⟩) hgl).trans (hrow 1 (by decide))
      have y2 : wb.cell? ⟨g6, kp * 3 + 2, none⟩ = some Q[kp].2.v := (BB.out.cell (p := ⟨g6, kp * 3 + 2, none⟩) hgl).trans (hrow 2 (by decide))
      rw [hpp] at y0
      obtain ⟨pp, hppp⟩ : ∃ x, L[kp].1 = x := ⟨_, rfl⟩
      rw [hppp] at y0
      obtain ⟨g0, hg0⟩ : ∃ x, L[kp].2 = x := ⟨_, rfl⟩
      rw [hg0] at qgi qth qs
      obtain ⟨kt, hkt⟩ : ∃ x, Q[kp].2 = x := ⟨_, rfl⟩
      rw [hkt] at y2 qs qok
      obtain ⟨ta, tc, tz⟩ := kt
      obtain ⟨tl, htl⟩ : ∃ x, tz.length = x := ⟨_, rfl⟩
      simp only [Tx.v] at y2 qs qok
      rw [htl] at y2
      have HTL := hide htl
      have HQK := hide qok
      have HQS := hide qs
      obtain ⟨wp, hwp⟩ : ∃ wp, wp = wb.alloc (.cells #[.pointer (some ⟨pp, 0, none⟩), .pointer none, .slice ta tl tc] 67) := ⟨_, rfl⟩
      have bp : Below wb.heap.size wb wp := by rw [hwp]; exact (Below.refl _ _).alloc (Nat.le_refl _) _
      have GP3 : Hid (wp.heap[wb.heap.size]? = some (.cells #[.pointer (some ⟨pp, 0, none⟩), .pointer none, .slice ta tl tc] 67 (0, 0))) := by show _ = _; rw [hwp]; exact heap_alloc_new wb _
      have hDp := HD.out.below (BB.out.trans (bp.mono BB.out.size))
      have hlabp : lab wb.heap.size = 0 := HD.out.lz _ BB.out.size
      have hwl : ∀ k, s.inn k → s.w k < 18446744073709551616 := by obtain ⟨F, hF⟩ := HD.out.aw.px; exact fun k hk => px_wlt hF k hk
      obtain ⟨gi1, gi2, gi3⟩ := qgi.step hwl (by omega) HLS2.out
      obtain ⟨g1, hg1⟩ : ∃ x, g0.step s = x := ⟨_, rfl⟩
      obtain ⟨tk, htk⟩ : ∃ x, g0.took s = x := ⟨_, rfl⟩
      rw [hg1, htk] at gi2
      have htf : tk = true → g0.the = false := fun e => qth (by
       cases h : g0.thr with
       | false => rfl
       | true => rw [← htk] at e; unfold GS.took at e; rw [if_pos h] at e; cases e)
      have HG2 : Hid (tk = true → (kOk tz → g1.err = 0 ∧ g1.the = (mapV s.map tz).isSome ∧ g1.val = (mapV s.map tz).getD []) ∧ (¬ kOk tz → g1.err = 3 ∧ g1.the = false)) := fun e => by
       have h1 := gi2 e
       rw [← qs] at h1
       refine ⟨h1.1, fun hk => ⟨(h1.2 hk).1, ?_⟩⟩
       rw [(h1.2 hk).2]; exact htf e
      have HST : Hid (Calls Tryz.prog 18 #[.pointer (some ⟨pp, 0, none⟩)] wp fun e w' => ∃ th, e = .returned (.tuple #[.bool th, .bool tk]) ∧ StpG w (i + 1) P AX AY s (L.set kp (pp, g1)) (.slice (some ⟨g6, 0, none⟩) n c6) Q w' ∧ Below w.heap.size w w' ∧ w'.heap[wb.heap.size]? = some (.cells #[.pointer (some ⟨pp, 0, none⟩), .pointer none, .slice ta tl tc] 67 (0, 0))) := by
       have := gt_step hDp kp hkL (by omega)
       simp only [hppp, hg0, hg1, htk] at this
       refine this.mono ?_
       rintro e w' ⟨h1, h2, h3⟩
       have hb' : Below w.heap.size w w' := by obtain ⟨_, _, h2⟩ := h2; exact h2.bw
       exact ⟨_, h1, h2, hb', h3.heap GP3.out (fun e => e hlabp)⟩
      have HFIN : Hid (∀ W, StpG w (i + 1) P AX AY s (L.set kp (pp, g1)) (.slice (some ⟨g6, 0, none⟩) n c6) Q W → GD w (i + 1) n W P AX AY (.slice (some ⟨g6, 0, none⟩) n c6)) := fun W h => by
       have h' : StpG w (i + 1) P AX AY s (L.set kp (L[kp].1, L[kp].2.step s)) (.slice (some ⟨g6, 0, none⟩) n c6) Q W := by rw [hppp, hg0, hg1]; exact h
       exact gd_step hkL h' HLN.out.1 HLN.out.2.1 HLN.out.2.2.1 HLN.out.2.2.2 hwl hi6 HLS2.out HALL.out
      have HKL := hide hkL
      have jk1 : (kp : Int) < (n : Int) := by omega
      have jk0 : (0 : Int) ≤ (kp : Int) := by omega
      have HWP := hide hwp
      have d0 : wp.cell? ⟨wb.heap.size, 0, none⟩ = some (.pointer (some ⟨pp, 0, none⟩)) := by rw [cell_of_row _ _ _ _ _ _ GP3.out]; rfl
      clear hwp bp hDp hlabp qok qs qth htl hkt hg0 hppp hpp hrow hkQ hlq hls gi1 gi2 gi3 qgi htf htk hg1 hkp HTN HSK HSN HALL HD HLN hwl
      go_cut [46] (fun q wq => q = .bool false ∧ wq = wb)
      case first =>
       by_cases hk0 : 0 ≤ kd
       ·have hk6 : ¬ kd ≤ 6 := fun e => hkk ⟨hk0, e⟩
        go_wp2_with fail
        go_meet
        exact ⟨rfl, rfl⟩
       ·have hk0' : ¬ kd ≥ 0 := hk0
        go_wp2_with fail
        go_meet
        exact ⟨rfl, rfl⟩
      case rest =>
      rename World => wq
      obtain ⟨rfl, hwq⟩ := hcut
      rw [hwq]
      clear hwq
      go_upto_region 23 with fail
      go_wp2_with fail
      refine keep (HPI.out _) ?_
      go_upto_region 24 with fail
      rw [← HWP.out]
      clear HWP
      go_wp2_with fail
      refine HST.out.mono ?_
      rintro e w3 ⟨th, rfl, hst3, hbw3, hgb3⟩
      obtain ⟨K3, lab3, hG3⟩ := hst3
      have HG3 := hide hG3
      have HB3 := hide hgb3
      clear hbw3 hgb3 hG3 HST d0 y0 y1 y2
      go_upto_region 25 with fail
      obtain ⟨sb, hsb⟩ : ∃ b, sndB s 60 64 64 1 1 = b := ⟨_, rfl⟩
      have HSB := hide hsb
      have HC1 : Hid (∀ Y, Below w3.heap.size w3 Y → Y.cell? ⟨P, 1, none⟩ = some (.pointer (some ⟨AY, 0, none⟩))) := fun Y hb => (HG3.out.below hb).aw.cells.2
      have HWD : Hid (∀ Y, Below w3.heap.size w3 Y → Calls Tryz.prog 14 #[] Y fun e w' => e = .returned (.agg #[.int .i64 60, .int .i64 64, .int .i64 64, .int .i64 1, .int .i64 1]) ∧ Below w3.heap.size w3 w' ∧ w'.cell? ⟨P, 1, none⟩ = some (.pointer (some ⟨AY, 0, none⟩))) := fun Y hb => (gwide_any Y).mono fun e w' ⟨h1, h2⟩ => by
       have h3 := hb.trans (h2.mono hb.size)
       exact ⟨h1, h3, HC1.out _ h3⟩
      have HSO : Hid (∀ Y, Below w3.heap.size w3 Y → Calls Tryz.prog 21 #[.pointer (some ⟨AY, 0, none⟩), .agg #[.int .i64 60, .int .i64 64, .int .i64 64, .int .i64 1, .int .i64 1]] Y fun e w' => e = .returned (.bool sb) ∧ Below w3.heap.size w3 w' ∧ w'.cell? ⟨P, 1, none⟩ = some (.pointer (some ⟨AY, 0, none⟩))) := fun Y hb => by
       obtain ⟨F, hp⟩ := (HG3.out.below hb).aw.rx
       refine (gsound_any hp 60 64 64 1 1).mono ?_
       rintro e w' ⟨h1, h2⟩
       have h3 := hb.trans (h2.mono hb.size)
       exact ⟨by rw [h1, HSB.out], h3, HC1.out _ h3⟩
      have p1 := HC1.out w3 (Below.refl _ _)
      clear hsb
      go_cut [14] (fun q wx => q = .bool sb ∧ Hid (Below w3.heap.size w3 wx))
      case first =>
       go_region_held3 (fun Y => Y.cell? ⟨P, 1, none⟩ = some (.pointer (some ⟨AY, 0, none⟩))) (go_keep) (first
        | (go_at_call 14; refine (HWD.out _ (below_drew (Below.refl _ _))).mono ?_; rintro e w9 ⟨rfl, hb9, k9⟩; have B9 := hide hb9; clear hb9)
        | (go_at_call 21; refine (HSO.out _ (by first | exact B9.out | exact below_drew B9.out)).mono ?_; rintro e w8 ⟨rfl, hb8, k8⟩; have B8 := hide hb8; clear hb8)
        | fail)
       all_goals (try go_wp2_with fail)
       all_goals
        go_meet
        exact ⟨rfl, B8⟩
      case rest =>
      rename World => wx
      obtain ⟨rfl, BX⟩ := hcut
      clear p1 HWD HSO HC1
      have HGX := hide (HG3.out.below BX.out)
      have gx := (BX.out.block _ (lt_of_block HB3.out)).trans HB3.out
      have GX := hide gx
      have d0 : wx.cell? ⟨wb.heap.size, 0, none⟩ = some (.pointer (some ⟨pp, 0, none⟩)) := by rw [cell_of_row _ _ _ _ _ _ gx]; rfl
      have HAN : Hid (Calls Tryz.prog 16 #[.pointer (some ⟨pp, 0, none⟩)] wx fun e w' => ∃ va vl vc vz, e = .returned (.tuple #[.slice va vl vc, .bool g1.the, .int .i64 g1.err]) ∧ vz.length = vl ∧ vz = g1.val ∧ (⟨va, vc, vz⟩ : Tx).Ok w' ∧ Below wx.heap.size wx w') := by
       obtain ⟨p, kt, vt, D, hgp, _, _⟩ := HGX.out.mx kp (by rw [List.length_set]; exact HKL.out)
       rw [List.getElem_set_self] at hgp
       exact (ganswer_any hgp).mono fun e w' ⟨v, h1, h2, _, h4, h5⟩ => ⟨v.a, _, v.c, v.s, h1, rfl, h2, h4, h5⟩
      have HKY2 : Hid (∀ W, Calls Tryz.prog 12 #[.slice ta tl tc] W fun e w' => e = .returned (.bool (decide (kOk tz))) ∧ w' = W) := fun W => by
       have := rkey_any ta tl tc W
       rw [← HTL.out] at this ⊢
       exact this
      obtain ⟨good, hgood⟩ : ∃ b, decide (kOk tz) = b := ⟨_, rfl⟩
      rw [hgood] at HKY2
      have HGD := hide hgood
      obtain ⟨gthe, hgt⟩ : ∃ b, g1.the = b := ⟨_, rfl⟩
      obtain ⟨gerr, hge⟩ : ∃ b, g1.err = b := ⟨_, rfl⟩
      obtain ⟨gval, hgv⟩ : ∃ b, g1.val = b := ⟨_, rfl⟩
      rw [hgt, hge, hgv] at HAN
      have HGG := hide (And.intro hgt (And.intro hge hgv))
      clear hgood gx hgt hge hgv
      go_wp2_with fail
      refine HAN.out.mono ?_
      rintro e w6 ⟨va, vl, vc, vz, rfl, hvl, hvz, hvok, hb6⟩
      have HV : Hid (vz.length = vl ∧ vz = gval ∧ (⟨va, vc, vz⟩ : Tx).Ok w6) := ⟨hvl, hvz, hvok⟩
      have B6 := hide hb6
      have g6x := (hb6.block _ (lt_of_block GX.out)).trans GX.out
      have G6 := hide g6x
      have d2 : w6.cell? ⟨wb.heap.size, 2, none⟩ = some (.slice ta tl tc) := by rw [cell_of_row _ _ _ _ _ _ g6x]; rfl
      have HN6 : Hid (GD w (i + 1) n w6 P AX AY (.slice (some ⟨g6, 0, none⟩) n c6)) := HFIN.out w6 ⟨K3, lab3, HGX.out.below hb6⟩
      have HG6 := hide (HGX.out.below hb6)
      clear hvl hvz hvok hb6 HAN g6x d0
      go_wp2_with fail
      refine keep (HKY2.out _) ?_
      clear HKY2
      cases tk with
      | false =>
       clear HG2
       go_wp2_with fail
       go_roundw
       case rel => exact ⟨i + 1, n, some ⟨g6, 0, none⟩, c6, by omega, rfl, by go_num, HN6⟩
       case measure => simp [intOf]; omega
      | true =>
       cases sb with
       | false =>
        clear HG2
        go_wp2_with fail
        go_roundw
        case rel => exact ⟨i + 1, n, some ⟨g6, 0, none⟩, c6, by omega, rfl, by go_num, HN6⟩
        case measure => simp [intOf]; omega
       | true =>
        have hG2 := HG2.out rfl
        rw [HGG.out.1, HGG.out.2.1, HGG.out.2.2] at hG2
        have HGR := hide hG2
        have p1 := HG6.out.aw.cells.2
        have hP6 := HG6.out.plt
        have hS6 : wb.heap.size < w6.heap.size := lt_of_block G6.out
        have HMP : Hid (∀ Y, Below w6.heap.size w6 Y → Calls Tryz.prog 20 #[.pointer (some ⟨AY, 0, none⟩)] Y fun e w' => ∃ oa' nE oc, e = .returned (.slice oa' nE oc) ∧ Below w6.heap.size w6 w' ∧ ∀ Z, Below w'.heap.size w' Z → Calls Tryz.prog 19 #[.slice oa' nE oc, .slice ta tl tc] Z (GvlP Z (mapV s.map tz))) := fun Y hb => by
         obtain ⟨F, hp⟩ := (HG6.out.below hb).aw.rx
         obtain ⟨q1, q2, q3, q4⟩ := snd_on HLS2.out
         refine (rmapC_any hp (onL ls) q1 (fun id h1 h2 h3 => ?_) (fun id h1 h2 h3 => ?_) (fun id h1 h2 => ?_)).mono ?_
         ·have := q2 id h1 ((unw_inn id).2 h2) (by rw [unw_n]; exact h3); rw [unw_n] at this; exact this
         ·have := q3 id h1 ((unw_inn id).2 h2) (by rw [unw_n]; exact h3); rw [unw_n] at this; exact this
         ·have := q4 id h1 ((unw_inn id).2 h2); rw [unw_n] at this; exact this
         rintro e w7 ⟨E, v, rfl, hrow, hown, hE, hb7⟩
         obtain ⟨nE, hnE⟩ : ∃ x, E.length = x := ⟨_, rfl⟩
         obtain ⟨oa', oc, hv⟩ : ∃ a c, v = .slice a nE c := by
          rcases hrow.2 with ⟨q1, q2⟩ | ⟨g, cap, cur, q1, _⟩
          ·exact ⟨none, 0, by rw [q1, ← hnE, q2]⟩
          ·exact ⟨_, _, by rw [q1, hnE]⟩
         subst hv
         have hnz : (nE : Int) ≤ 9223372036854775807 := by
          rcases hrow.2 with ⟨q1, q2⟩ | ⟨g, cap, cur, q1, q2, q3, q4, q5, q6⟩
          ·omega
          ·unfold maxLen at q5; omega
         have hbb := hb.trans (hb7.mono hb.size)
         refine ⟨oa', nE, oc, rfl, hbb, fun Z hz => ?_⟩
         have := gmapv_any oa' nE oc E ⟨ta, tc, tz⟩ Z hnE hnz ((EnRd.of hrow hown).below hz) (HQK.out.below ((HG6.out.below (hbb.trans (hz.mono hbb.size))).bw))
         rw [hE] at this
         simp only [Tx.v] at this
         rw [HTL.out] at this
         exact this
        clear hG2 HG2 HKL HLS2
        go_upto_region 29 with fail
        go_cut [19, 20] (fun q19 q20 wz => ∃ (ua : Option Addr) (ul uc : Nat) (uz : List Int) (ub : Bool), q19 = .slice ua ul uc ∧ q20 = .bool ub ∧ Hid (uz.length = ul ∧ (⟨ua, uc, uz⟩ : Tx).Ok wz ∧ ub = (mapV s.map tz).isSome ∧ uz = (mapV s.map tz).getD [] ∧ Below w6.heap.size w6 wz))
        case first =>
         go_region_held3 (fun Y => Y.cell? ⟨P, 1, none⟩ = some (.pointer (some ⟨AY, 0, none⟩)) ∧ Y.cell? ⟨wb.heap.size, 2, none⟩ = some (.slice ta tl tc)) (go_keep) (first
          | (go_at_call 20; refine (HMP.out _ (below_drew (Below.refl _ _))).mono ?_; rintro e w7 ⟨oa', nE, oc, rfl, hb7, hvl7⟩; have B7 := hide hb7; have HVL := hide hvl7; have f1 := (hb7.cell (p := ⟨P, 1, none⟩) hP6).trans p1; have f2 := (hb7.cell (p := ⟨wb.heap.size, 2, none⟩) hS6).trans d2; clear hb7 hvl7)
          | (go_at_call 19; refine (HVL.out _ (by first | exact Below.refl _ _ | exact below_drew (Below.refl _ _))).mono ?_; rintro e w8 ⟨⟨ua, uc, uz⟩, ub, rfl, huok, hub, hus, m8, hm8⟩; have b78 : Below w7.heap.size w7 w8 := (by rw [hm8]; exact below_drewN (Below.refl _ _) m8); have B8 := hide (B7.out.trans (b78.mono B7.out.size)); have HU := hide (And.intro huok (And.intro hub hus)); have k1 := (B8.out.cell (p := ⟨P, 1, none⟩) hP6).trans p1; have k2 := (B8.out.cell (p := ⟨wb.heap.size, 2, none⟩) hS6).trans d2; clear huok hub hus hm8 b78; simp only [Tx.v])
          | fail)
         all_goals (try go_wp2_with fail)
         all_goals
          go_meet
          exact ⟨ua, uz.length, uc, uz, ub, rfl, rfl, ⟨rfl, HU.out.1, HU.out.2.1, HU.out.2.2, B8.out⟩⟩
        case rest =>
        rename World => wz
        obtain ⟨ua, ul, uc, uz, ub, rfl, rfl, HU⟩ := hcut
        have HN : Hid (GD w (i + 1) n wz P AX AY (.slice (some ⟨g6, 0, none⟩) n c6)) := HN6.out.below HU.out.2.2.2.2
        have k1 : (convert 23 9 (.slice va vl vc)).run Tryz.prog wz = .ok (.string (strOfNums vz)) wz := nconv_row vc HV.out.1 (HV.out.2.2.below HU.out.2.2.2.2).r
        have k2 : (convert 23 9 (.slice ua ul uc)).run Tryz.prog wz = .ok (.string (strOfNums uz)) wz := nconv_row uc HU.out.1 HU.out.2.1.r
        have hgr := HGR.out
        clear p1 hP6 hS6 HMP HGR
        cases good with
        | false =>
         have hk : ¬ kOk tz := fun h => by have := HGD.out; rw [decide_eq_true h] at this; cases this
         obtain ⟨rfl, rfl⟩ := hgr.2 hk
         clear hgr hk k1 k2
         go_wp2_with fail
         go_roundw
         case rel => exact ⟨i + 1, n, some ⟨g6, 0, none⟩, c6, by omega, rfl, by go_num, HN⟩
         case measure => simp [intOf]; omega
        | true =>
         have hk : kOk tz := of_decide_eq_true HGD.out
         obtain ⟨rfl, h2, h3⟩ := hgr.1 hk
         have huz : uz = vz := by rw [HU.out.2.2.2.1, HV.out.2.1, h3]
         have hbb : gthe = ub := by rw [h2, HU.out.2.2.1]
         subst hbb
         rw [huz] at k2
         generalize strOfNums vz = st at *
         clear hgr hk h2 h3 huz
         cases gthe with
         | false =>
          go_wp2_with fail
          go_roundw
          case rel => exact ⟨i + 1, n, some ⟨g6, 0, none⟩, c6, by omega, rfl, by go_num, HN⟩
          case measure => simp [intOf]; omega
         | true =>
          go_wp2_with fail
          go_roundw
          case rel => exact ⟨i + 1, n, some ⟨g6, 0, none⟩, c6, by omega, rfl, by go_num, HN⟩
          case measure => simp [intOf]; omega
  ·have j1 : ¬ (i : Int) < (lS : Int) := by omega
   obtain ⟨K, lab, s, L, Q, hD, _⟩ := HI.out
   have HSM := hide (wsameB_any hD.aw)
   have HBW := hide hD.bw
   clear HI hD HO HLL HSZ HLS hlS2
   go_wp2_with fail
   refine HSM.out.mono ?_
   rintro e w9 ⟨rfl, hb9⟩
   have HFIN := hide (HBW.out.trans (hb9.mono HBW.out.size))
   clear hb9 HSM HBW
   go_wp2_with fail
   go_ret
   exact ⟨rfl, HFIN.out⟩
end Go.Proofs.YtealejbfloacpaaGreat
