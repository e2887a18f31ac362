/- PipeBegins: the walk. -/
import Derived.Test.YtpjldnjcomdhkabPWhole
import Derived.Deep.DeepCutAuto
import Derived.Deep.CutBlock
namespace Go.Proofs.Ytpjldnjcomdhkab
open Go.RowKit

/-- append of bytes onto a row of one's own: where it lies then. -/
theorem app_list {P : Program} {w : World} {ops : Array Oper} {rest : List Oper} {o : Oper} {a : Act} {Q : Exit → Act → World → Prop} (hgd : o.guard = none) (s x : Operand) (t : TypeId)
    (ho : o.op = .call { callee := .builtin .append, args := #[s, x], argTypes := #[t, t] })
    (base : Nat) (e : TypeId) (i : TypeInfo) (ht : P.underlying t = some (.slice e)) (hi : P.info? e = some i) (hz : i.zero = some (.int .u8 0)) (hsize : i.size = 1) (hby : i.bytes = 1)
    (v : Value) (zs : List Int) (hs : a.eval s = v) (hown : w.ownsRow base e 1 v zs.length (zs.map (Value.int .u8)))
    (ao : Option Addr) (m c : Nat) (ys : List Int) (hx : a.eval x = .slice ao m c) (hl : ys.length = m) (hnone : ao = none → m = 0 ∧ c = 0) (hrow : Row w .u8 ao ys)
    (hbytes : zs.length + m ≤ 140737488355328) (hbase : base ≤ w.heap.size)
    (h : ∀ v' w', w'.ownsRow base e 1 v' (zs ++ ys).length ((zs ++ ys).map (Value.int .u8)) → w.grownBy w' v.ownBlock → (∀ k, v'.ownBlock = some k → v.ownBlock = some k ∨ w.heap.size ≤ k) → wpList P ops Q rest (a.put o.dst v') w') : wpList P ops Q (o :: rest) a w := by
  have hk := step_app (ops := ops) (Q := Q) (E := True) hgd s x t ho base e i ht hi hz hsize hby v zs hs hown ao m c ys hx hl hnone hrow hbytes hbase h
  have hw : Region.wanted o (yielded ops a.tmps) = true := by simp [Region.wanted, hgd]
  unfold wpList
  rw [if_pos hw] at hk ⊢
  exact .inl hk

theorem src_ok {zs gs : List Int} {fail : Int} {eager : Bool} {c k size : Nat} (h : 0 < srcN zs gs fail c k size) : srcErr zs fail eager c k (srcN zs gs fail c k size) = 0 ∨ srcErr zs fail eager c k (srcN zs gs fail c k size) = 31 := by
  unfold srcErr
  split
  · rename_i hf
    unfold srcN at h
    rw [if_pos hf] at h
    omega
  · split
    · exact .inr rfl
    · split
      · exact .inr rfl
      · exact .inl rfl
theorem snk_ok (ts : List Int) (fail : Int) (c : Nat) (ys zs : List Int) : ∃ m : Nat, (snkWf ts fail (c, ys) zs).1 = (m : Int) ∧ m ≤ zs.length ∧ ((snkWf ts fail (c, ys) zs).2.1 = 0 ∨ (m = 0 ∧ (snkWf ts fail (c, ys) zs).2.1 = 32)) ∧ (snkWf ts fail (c, ys) zs).2.2 = (c + 1, ys ++ zs.take m) := by
  unfold snkWf
  split
  · exact ⟨0, rfl, Nat.zero_le _, .inr ⟨rfl, rfl⟩, by simp⟩
  · exact ⟨mostN ts (c + 1) zs.length, rfl, mostN_le _ _ _, .inl rfl, rfl⟩

theorem run_zeros16 (n : Nat) (hn : n ≤ 65535) (w : World) : (Instr.makeSlice 22 (.int .u16 (n : Int)) (.int .u16 (n : Int))).run Try.prog w = .ok (.slice (some ⟨w.heap.size, 0, none⟩) n n) (w.alloc (.cells (zeros n).toArray 5)) := by
  obtain ⟨i0, hi0, hz0, hz1, hz2⟩ := info_parts' infoByte'
  have h := run_make (P := Try.prog) w 22 5 i0 (.int .u8 0) Try.underlying22 hi0 hz0 .u16 .u16 n n (by omega) (by omega) (by rw [hz2]; omega) (by omega)
  rw [hz1] at h
  simp only [Int.toNat_natCast] at h
  rw [made_zeros] at h
  exact h

/-- Between two rounds. -/
structure BG (w W : World) (N : Nat) (M : Nat → Prop) (zs gs ts : List Int) (fail fail2 : Int) (eager : Bool) (g g2 i k : Nat) (T : List Int) (vg vt : Value) (M2 : Nat → Prop) : Prop where
  src : SrcAt W M zs gs fail eager g i k
  mN : ∀ j, M j → N ≤ j
  snk : SnkAt W N M2 ts fail2 g2 i T
  got : W.ownsRow N 5 1 vg k ((zs.take k).map (Value.int .u8))
  tk : W.ownsRow N 5 1 vt T.length (T.map (Value.int .u8))
  d1 : ∀ j, M j → ¬ M2 j
  d2 : ∀ j, vg.ownBlock = some j → ¬ M j ∧ ¬ M2 j ∧ vt.ownBlock ≠ some j
  d3 : ∀ j, vt.ownBlock = some j → ¬ M j ∧ ¬ M2 j
  up : Upd (fun j => N ≤ j) w W
  tl : T.length ≤ zs.length ∧ T.length ≤ k

set_option maxRecDepth 100000 in
set_option maxHeartbeats 3200000 in
theorem pipeBegins_any (ab ag as' ax axg at' : Option Addr) (lb cb lg cg ls cs lx cx lxg cxg lt ct : Nat) (zs gs ss ts : List Int) (fail failx fail2 sizex : Int) (eager eagerx : Bool) (w : World)
    (hlb : zs.length = lb) (hlg : gs.length = lg) (hls : ss.length = ls) (hlt : ts.length = lt) (hm : lb ≤ 140737488351232) (hmg : lg * 8 ≤ 140737488351232) (hms : ls ≤ 140737488351232) (hmt : lt * 8 ≤ 140737488351232) (hbc : lb ≤ cb)
    (nb : ab = none → lb = 0 ∧ cb = 0) (ng : ag = none → lg = 0 ∧ cg = 0) (nt : at' = none → lt = 0 ∧ ct = 0) (rb : Row w .u8 ab zs) (rg : Row w .i64 ag gs) (rs : Row w .u16 as' ss) (rt : Row w .i64 at' ts) (b8 : B8 zs) (b16 : ∀ x ∈ ss, 0 ≤ x ∧ x ≤ 65535) :
    Calls Try.prog 3 #[.agg #[.slice ab lb cb, .slice ag lg cg, .int .i64 fail, .bool eager], .slice as' ls cs, .agg #[.slice ax lx cx, .slice axg lxg cxg, .int .i64 failx, .bool eagerx, .slice at' lt ct, .int .i64 fail2, .int .i64 sizex]] w fun e w' => e = .returned (.bool true) ∧ Below w.heap.size w w' := by
  obtain ⟨i0, hi0, hz0, hz1, hz2⟩ := info_parts' infoByte'
  have HRB := hide rb
  have HRG := hide rg
  have HRS := hide rs
  have HRT := hide rt
  have HNB := hide nb
  have HNG := hide ng
  have HNT := hide nt
  have HB8 := hide b8
  have HB16 := hide b16
  have hf1 := heap_alloc2_old w (.cells #[.slice ab lb cb, .slice ag lg cg, .int .i64 fail, .bool eager] 25) (.cells #[.slice ax lx cx, .slice axg lxg cxg, .int .i64 failx, .bool eagerx, .slice at' lt ct, .int .i64 fail2, .int .i64 sizex] 28)
  have hf2 := heap_alloc2_new w (.cells #[.slice ab lb cb, .slice ag lg cg, .int .i64 fail, .bool eager] 25) (.cells #[.slice ax lx cx, .slice axg lxg cxg, .int .i64 failx, .bool eagerx, .slice at' lt ct, .int .i64 fail2, .int .i64 sizex] 28)
  have hbA : Below w.heap.size w ((w.alloc (.cells #[.slice ab lb cb, .slice ag lg cg, .int .i64 fail, .bool eager] 25)).alloc (.cells #[.slice ax lx cx, .slice axg lxg cxg, .int .i64 failx, .bool eagerx, .slice at' lt ct, .int .i64 fail2, .int .i64 sizex] 28)) := ((Below.refl _ _).alloc (Nat.le_refl _) _).alloc (by simp) _
  have hzA : ((w.alloc (.cells #[.slice ab lb cb, .slice ag lg cg, .int .i64 fail, .bool eager] 25)).alloc (.cells #[.slice ax lx cx, .slice axg lxg cxg, .int .i64 failx, .bool eagerx, .slice at' lt ct, .int .i64 fail2, .int .i64 sizex] 28)).heap.size = w.heap.size + 2 := by simp
  clear rb rg rs rt nb ng nt b8 b16
  go_enter Try.func3, Try.ntmps3
  go_wp2_with fail
  generalize (w.alloc (.cells #[.slice ab lb cb, .slice ag lg cg, .int .i64 fail, .bool eager] 25)).alloc (.cells #[.slice ax lx cx, .slice axg lxg cxg, .int .i64 failx, .bool eagerx, .slice at' lt ct, .int .i64 fail2, .int .i64 sizex] 28) = wA at *
  obtain ⟨gA, hgA⟩ : ∃ gA, gA = w.heap.size := ⟨_, rfl⟩
  rw [← hgA] at hf1 hf2 hbA hzA ⊢
  replace hgA := hide hgA
  refine (lives_any wA).mono ?_
  rintro e w1 ⟨rfl, hb1⟩
  have hF := (hb1.block gA (by omega)).trans hf1
  have hG := (hb1.block (gA + 1) (by omega)).trans hf2
  have hb01 : Below gA w w1 := hbA.trans (hb1.mono (by omega))
  have hz1' : gA + 2 ≤ w1.heap.size := by have := hb1.size; omega
  clear hf1 hf2 hbA hb1 hzA
  have c0 : w1.cell? ⟨gA, 0, none⟩ = some (.slice ab lb cb) := (cell_of_row _ _ _ _ _ _ hF).trans rfl
  have c1 : w1.cell? ⟨gA, 1, none⟩ = some (.slice ag lg cg) := (cell_of_row _ _ _ _ _ _ hF).trans rfl
  have c2 : w1.cell? ⟨gA, 2, none⟩ = some (.int .i64 fail) := (cell_of_row _ _ _ _ _ _ hF).trans rfl
  have c3 : w1.cell? ⟨gA, 3, none⟩ = some (.bool eager) := (cell_of_row _ _ _ _ _ _ hF).trans rfl
  have HF := hide hF
  have HG := hide hG
  clear hF hG
  go_wp2_with fail
  refine (newSource_any ab ag lb cb lg cg zs gs fail eager w1 hlb hlg (by omega) (by omega) HNB.out HNG.out (HRB.out.below2 (hgA.out ▸ hb01)) (HRG.out.below2 (hgA.out ▸ hb01))).mono ?_
  rintro e w2 ⟨g, M, rfl, hS, hM, hb2⟩
  have HF2 := hide ((hb2.block gA (by omega)).trans HF.out)
  have HG2 := hide ((hb2.block (gA + 1) (by omega)).trans HG.out)
  have hb02 : Below gA w w2 := hb01.trans (hb2.mono (by omega))
  have c4 : w2.cell? ⟨gA + 1, 4, none⟩ = some (.slice at' lt ct) := (cell_of_row _ _ _ _ _ _ HG2.out).trans rfl
  have c5 : w2.cell? ⟨gA + 1, 5, none⟩ = some (.int .i64 fail2) := (cell_of_row _ _ _ _ _ _ HG2.out).trans rfl
  have hzz2 := hb2.size
  have HM := hide hM
  have HS := hide hS
  clear hS hM HF HG c0 c1 c2 c3
  replace hb2 := hide hb2
  go_wp2_with fail
  refine (newSink_any at' lt ct ts fail2 w2 hlt (by omega) HNT.out (HRT.out.below2 (hgA.out ▸ hb02))).mono ?_
  rintro e w3 ⟨g2, M2, rfl, hK, hb3⟩
  have hMlt := HS.out.lt.1
  have hb03 : Below gA w w3 := hb02.trans (hb3.mono (by omega))
  have HF3 := hide ((hb3.block gA (by omega)).trans HF2.out)
  have H0 : Hid (BG w3 w3 (gA + 2) M zs gs ts fail fail2 eager g g2 0 0 [] (.slice none 0 0) (.slice none 0 0) M2) := hide ⟨HS.out.upd (Upd.of_below hb3 Noth) (fun i _ e => e), fun j hj => by have := HM.out j hj; omega, hK.mono (by omega), ⟨rfl, .inl ⟨rfl, rfl⟩⟩, ⟨rfl, .inl ⟨rfl, rfl⟩⟩, fun j hj e => by have := hMlt j hj; have := (hK.lt j e).1; omega, (fun j hj => by cases hj), (fun j hj => by cases hj), Upd.refl _ _, ⟨Nat.zero_le _, Nat.le_refl _⟩⟩
  have hz3 := hb3.size
  have HB03 := hide hb03
  clear hK hb3 HS HM hMlt hb01 hb02 hb03 HF2 HG2 c4 c5 hb2
  go_wp2_with fail
  go_loopw [10, 11, 12] (fun sg st q wr => ∃ (i k : Nat) (T : List Int) (M2' : Nat → Prop), i ≤ ls ∧ q = .int .i64 i ∧ Hid (BG w3 wr (gA + 2) M zs gs ts fail fail2 eager g g2 i k T sg st M2')) (fun _ _ q _ => ls - (intOf q).toNat)
  case atStart => exact ⟨0, 0, [], M2, by omega, rfl, H0⟩
  case round =>
    clear H0
    obtain ⟨i, k, T, M2', hi, rfl, HB⟩ := hrel
    have hkle := HB.out.src.lt.2.2
    have htk : (zs.take k).length = k := by rw [List.length_take]; omega
    obtain ⟨ga, gc, hsg, _⟩ := slice_of_owns2 HB.out.got
    obtain ⟨ta, tc, hst, _⟩ := owns_slice HB.out.tk
    subst hsg
    subst hst
    by_cases hlt : i < ls
    · obtain ⟨bs, os, rfl, hbs, hcs⟩ := HRS.out.cons (by omega)
      have hcell := hcs i (by omega)
      have hnx := HB16.out (ss.getD i 0) (by rw [List.getD_eq_getElem?_getD, List.getElem?_eq_getElem (by omega)]; exact List.getElem_mem _)
      obtain ⟨sz, hsz⟩ : ∃ sz : Nat, ss.getD i 0 = (sz : Int) := ⟨(ss.getD i 0).toNat, by omega⟩
      rw [hsz] at hcell hnx
      have hcW : wr.cell? ⟨bs, os + i, none⟩ = some (.int .u16 (sz : Int)) := by
        refine HB.out.up.cell ((HB03.out.cell (p := ⟨bs, os + i, none⟩) ?_).trans hcell) (fun e => ?_)
        · show bs < gA
          have := hgA.out
          omega
        · have := hgA.out; have e' : gA + 2 ≤ bs := e; omega
      have hsz2 : sz ≤ 65535 := by omega
      have hidx : (i : Int) < (ls : Int) := by omega
      have hidx0 : (0 : Int) ≤ (i : Int) := by omega
      have hmk := run_zeros16 sz (by omega)
      have hN : gA + 2 ≤ wr.heap.size := by have := HB.out.up.size; omega
      clear hcell hsz hnx hcs hbs
      obtain ⟨n, hn⟩ : ∃ n, n = srcN zs gs fail (i + 1) k sz := ⟨_, rfl⟩
      obtain ⟨er, her⟩ : ∃ er, er = srcErr zs fail eager (i + 1) k (srcN zs gs fail (i + 1) k sz) := ⟨_, rfl⟩
      have hnle := srcN_le zs gs fail (i + 1) k sz
      have hok := @src_ok zs gs fail eager (i + 1) k sz
      rw [← hn] at hnle hok her
      rw [← her] at hok
      have hnl : ((zs.drop k).take n).length = n := by rw [List.length_take, List.length_drop]; omega
      have hmlt := HB.out.src.lt.1
      have hk2 := HB.out.snk.lt
      have hgl := HB.out.got.lt
      have htl := HB.out.tk.lt
      have HRD : Hid (Calls Try.prog 8 #[.pointer (some ⟨g, 0, none⟩), .slice (some ⟨wr.heap.size, 0, none⟩) sz sz] (wr.alloc (.cells (zeros sz).toArray 5)) fun e W' => e = .returned (.tuple #[.int .i64 (n : Int), .int .i64 er]) ∧ SrcAt W' M zs gs fail eager g (i + 1) (k + n) ∧ Row W' .u8 (some ⟨wr.heap.size, 0, none⟩) ((zs.drop k).take n) ∧ Upd (fun j => M j ∨ j = wr.heap.size) wr W' ∧ wr.heap.size < W'.heap.size) := hide (by
        refine ((src_reader zs gs fail eager sz g (gA + 2) M HB8.out (by omega)).read (wr.alloc (.cells (zeros sz).toArray 5)) (i, k) M wr.heap.size (zeros sz) ⟨rfl, HB.out.src.upd ((Upd.refl Noth _).alloc _) (fun _ _ e => e), HB.out.mN⟩ (by simp only; omega) ⟨fun _ => rfl, heap_alloc_new wr _, by rw [zeros_len]; exact Nat.le_refl _⟩ (fun e => by have := hmlt _ e; omega) (by omega)).mono ?_
        rintro e W' ⟨M', h1, ⟨_, h2, _⟩, h3, h4, _⟩
        simp only [srcRd] at h1 h2 h3
        rw [← hn] at h1 h2 h3
        rw [← her] at h1
        exact ⟨h1, h2, room_row h3, ((Upd.refl _ wr).alloc _).then h4 (fun _ _ e => e), by have := h4.size; simp at this; omega⟩)
      replace hn := hide hn
      replace her := hide her
      go_wp2_with fail
      refine HRD.out.mono ?_
      rintro e w4 ⟨rfl, hS4, hR4, hu4, hz4'⟩
      have HS4 := hide hS4
      have HR4 := hide hR4
      have HK4 := hide (HB.out.snk.upd hu4 (fun j hj e => e.elim (fun e => HB.out.d1 j e hj) (fun e => by have := (hk2 j hj).2; omega)))
      have HG4 := hide (owns_upd HB.out.got hu4 (fun j hj e => e.elim (fun e => (HB.out.d2 j hj).1 e) (fun e => by have := (hgl j hj).2; omega)))
      have HT4 := hide (owns_upd HB.out.tk hu4 (fun j hj e => e.elim (fun e => (HB.out.d3 j hj).1 e) (fun e => by have := (htl j hj).2; omega)))
      have HU4 : Hid (Upd (fun j => gA + 2 ≤ j) w3 w4) := hide (HB.out.up.trans (hu4.mono (fun j _ e => e.elim (fun e => HB.out.mN j e) (fun e => by omega))))
      have hz4 := hu4.size
      have HMLT : Hid (∀ j, M j → j < wr.heap.size) := hide hmlt
      have HK2 := hide hk2
      have HGL := hide hgl
      have HTL := hide htl
      clear hS4 hR4 hu4 hmlt hk2 hgl htl HRD
      obtain ⟨m, hm1, hm2, hm3, hm4⟩ := snk_ok ts fail2 i T ((zs.drop k).take n)
      obtain ⟨f, hf⟩ : ∃ f, f = (snkWf ts fail2 (i, T) ((zs.drop k).take n)).2.1 := ⟨_, rfl⟩
      rw [← hf] at hm3
      rw [hnl] at hm2
      have htake : ((zs.drop k).take n).take m = (zs.drop k).take m := by rw [List.take_take, Nat.min_eq_left hm2]
      have hml : ((zs.drop k).take m).length = m := by rw [List.length_take, List.length_drop]; omega
      rw [htake] at hm4
      have htl2 := HB.out.tl
      have HADD : Hid (zs.take k ++ (zs.drop k).take n = zs.take (k + n)) := hide (by rw [List.take_add])
      have HW5 : Hid (∀ w5, SnkAt w5 (gA + 2) M2' ts fail2 g2 i T → Row w5 .u8 (some ⟨wr.heap.size, 0, none⟩) ((zs.drop k).take n) → wr.heap.size < w5.heap.size → Calls Try.prog 9 #[.pointer (some ⟨g2, 0, none⟩), .slice (some ⟨wr.heap.size, 0, none⟩) n sz] w5 fun e w' => e = .returned (.tuple #[.int .i64 (m : Int), .int .i64 f]) ∧ ∃ M', SnkAt w' (gA + 2) M' ts fail2 g2 (i + 1) (T ++ (zs.drop k).take m) ∧ Upd M2' w5 w' ∧ ∀ j, M' j → M2' j ∨ w5.heap.size ≤ j) := hide (fun w5 h1 h2 h3 => by
        have h := write_any (some ⟨wr.heap.size, 0, none⟩) n sz ((zs.drop k).take n) h1 (by omega) hnl (by omega) (fun e => by cases e) h2 (fun x hx _ e => by cases hx; simp only at e; have := (HK2.out _ (e ▸ HB.out.snk.mg)).2; omega) (by omega) (by omega)
        rw [hm1, ← hf, hm4] at h
        exact h)
      replace hm1 := hide hm1
      replace hm4 := hide hm4
      replace hf := hide hf
      have HNL := hide hnl
      have HML := hide hml
      have HTK := hide htk
      have t1 : ¬ (n : Int) < 0 := by omega
      have t2 : ¬ (sz : Int) < (n : Int) := by omega
      have t3 : (n : Int) ≤ (sz : Int) := by omega
      have t4 : (0 : Int) ≤ (n : Int) := by omega
      have t5 : ¬ (m : Int) < 0 := by omega
      have t6 : ¬ (n : Int) < (m : Int) := by omega
      have t7 : (m : Int) ≤ (sz : Int) := by omega
      have t8 : (0 : Int) ≤ (m : Int) := by omega
      have HTT := hide htake
      clear hnl hml htake htk
      have hcs3 : (¬ (0 : Int) < (n : Int)) ∨ ((0 : Int) < (n : Int) ∧ (er != 0) = false) ∨ ((0 : Int) < (n : Int) ∧ (er != 0) = true ∧ (er != 31) = false) := by
        rcases Nat.eq_zero_or_pos n with h | h
        · exact .inl (by omega)
        · rcases hok h with h' | h'
          · exact .inr (.inl ⟨by omega, by simp [h']⟩)
          · exact .inr (.inr ⟨by omega, by simp [h'], by simp [h']⟩)
      have hcs2 : (f != 0) = false ∨ ((f != 0) = true ∧ ((m : Int) != 0) = false) := by
        rcases hm3 with h | ⟨h, h'⟩
        · exact .inl (by simp [h])
        · exact .inr ⟨by simp [h'], by simp [h]⟩
      replace hok := hide hok
      replace hm3 := hide hm3
      have HFIN : Hid (∀ v5 w5 w6 v7 w7 M7, w5.ownsRow (gA + 2) 5 1 v5 (k + n) ((zs.take k ++ (zs.drop k).take n).map (Value.int .u8)) → w4.grownBy w5 (Value.slice ga k gc).ownBlock → (∀ j, v5.ownBlock = some j → (Value.slice ga k gc).ownBlock = some j ∨ w4.heap.size ≤ j) → SnkAt w6 (gA + 2) M7 ts fail2 g2 (i + 1) (T ++ (zs.drop k).take m) → Upd M2' w5 w6 → (∀ j, M7 j → M2' j ∨ w5.heap.size ≤ j) → w7.ownsRow (gA + 2) 5 1 v7 (T ++ (zs.drop k).take m).length ((T ++ (zs.drop k).take m).map (Value.int .u8)) → w6.grownBy w7 (Value.slice ta T.length tc).ownBlock → (∀ j, v7.ownBlock = some j → (Value.slice ta T.length tc).ownBlock = some j ∨ w6.heap.size ≤ j) → BG w3 w7 (gA + 2) M zs gs ts fail fail2 eager g g2 (i + 1) (k + n) (T ++ (zs.drop k).take m) v5 v7 M7) := hide (by
        intro v5 w5 w6 v7 w7 M7 ho5 hg5 hk5 hK6 hu6 hm6 ho7 hg7 hk7
        have hu5 : Upd (fun j => (Value.slice ga k gc).ownBlock = some j) w4 w5 := Upd.of_grown hg5 (fun j h _ => h)
        have hu7 : Upd (fun j => (Value.slice ta T.length tc).ownBlock = some j) w6 w7 := Upd.of_grown hg7 (fun j h _ => h)
        have z5 := hu5.size
        have z6 := hu6.size
        have z7 := hu7.size
        have old5 : ∀ j, v5.ownBlock = some j → ¬ M j ∧ ¬ M2' j ∧ (Value.slice ta T.length tc).ownBlock ≠ some j := fun j hj => by
          rcases hk5 j hj with h | h
          · exact HB.out.d2 j h
          · exact ⟨fun e => by have := HMLT.out j e; omega, fun e => by have := (HK2.out j e).2; omega, fun e => by have := (HTL.out j e).2; omega⟩
        have new7 : ∀ j, M7 j → M2' j ∨ w5.heap.size ≤ j := hm6
        refine ⟨((HS4.out.upd hu5 (fun j hj e => (HB.out.d2 j e).1 hj)).upd hu6 (fun j hj e => HB.out.d1 j hj e)).upd hu7 (fun j hj e => (HB.out.d3 j e).1 hj), HB.out.mN, hK6.upd hu7 (fun j hj e => ?_), ?_, ho7, fun j hj e => ?_, fun j hj => ?_, fun j hj => ?_, ?_, ?_⟩
        · rcases hm6 j hj with h | h
          · exact (HB.out.d3 j e).2 h
          · have := (HTL.out j e).2; omega
        · rw [← HADD.out]
          exact owns_upd (owns_upd ho5 hu6 (fun j hj e => (old5 j hj).2.1 e)) hu7 (fun j hj e => (old5 j hj).2.2 e)
        · rcases hm6 j e with h | h
          · exact HB.out.d1 j hj h
          · have := HMLT.out j hj; omega
        · have h5 := old5 j hj
          have l5 := (ho5.lt j hj).2
          refine ⟨h5.1, fun e => ?_, fun e => ?_⟩
          · rcases hm6 j e with h | h
            · exact h5.2.1 h
            · omega
          · rcases hk7 j e with h | h
            · exact h5.2.2 h
            · omega
        · rcases hk7 j hj with h | h
          · have h3 := HB.out.d3 j h
            refine ⟨h3.1, fun e => ?_⟩
            rcases hm6 j e with h' | h'
            · exact h3.2 h'
            · have := (HTL.out j h).2; omega
          · refine ⟨fun e => by have := HMLT.out j e; omega, fun e => ?_⟩
            have := (hK6.lt j e).2
            omega
        · refine ((HU4.out.then hu5 (fun j _ e => (HB.out.got.lt j e).1)).then hu6 (fun j _ e => (HK2.out j e).1)).then hu7 (fun j _ e => (HB.out.tk.lt j e).1)
        · have := HML.out
          have := HNL.out
          rw [List.length_append]
          omega)
      have HL5 : Hid ((zs.take k ++ (zs.drop k).take n).length = k + n) := hide (by rw [List.length_append, HTK.out, HNL.out])
      have HL7 : Hid ((T ++ (zs.drop k).take m).length = T.length + m) := hide (by rw [List.length_append, HML.out])
      have HG4' : Hid (w4.ownsRow (gA + 2) 5 1 (.slice ga k gc) (zs.take k).length ((zs.take k).map (Value.int .u8))) := hide (by rw [HTK.out]; exact HG4.out)
      rcases hcs3 with q1 | ⟨q1, q2⟩ | ⟨q1, q2, q3⟩
      all_goals (
        go_upto_region 15 with fail
        go_wp2_with (first
          | (at_builtin; refine app_list rfl (.tmp 76) (.tmp 79) 22 rfl (gA + 2) 5 i0 Try.underlying22 hi0 hz0 hz1 hz2 (.slice ga k gc) (zs.take k) rfl HG4'.out (some ⟨wr.heap.size, 0, none⟩) n sz ((zs.drop k).take n) rfl HNL.out (by intro h; cases h) HR4.out (by have := HTK.out; omega) (by omega) ?_; intro v5 w5 ho5 hg5 hk5; obtain ⟨a5, k5, hv5, _⟩ := owns_slice ho5; rw [HL5.out] at hv5 ho5; replace ho5 := hide ho5; replace hg5 := hide hg5; replace hk5 := hide hk5; subst hv5)
          | fail)
        have hu5 : Upd (fun j => (Value.slice ga k gc).ownBlock = some j) w4 w5 := Upd.of_grown hg5.out (fun j h _ => h)
        have z5 := hu5.size
        have HK5 := hide (HK4.out.upd hu5 (fun j hj e => (HB.out.d2 j e).2.1 hj))
        have HR5 := hide (HR4.out.upd hu5 (fun x hx _ e => by cases hx; have := (HGL.out _ e).2; simp only at this; omega))
        have HT5 := hide (owns_upd HT4.out hu5 (fun j hj e => (HB.out.d2 j e).2.2 hj))
        replace hu5 := hide hu5
        refine (HW5.out w5 HK5.out HR5.out (by omega)).mono ?_
        rintro e w6 ⟨rfl, M7, hK6, hu6, hm6⟩
        have z6 := hu6.size
        have HR6 := hide ((HR5.out.upd hu6 (fun x hx _ e => by cases hx; have := (HK2.out _ e).2; simp only at this; omega)).take m)
        have HR6' : Hid (Row w6 .u8 (some ⟨wr.heap.size, 0, none⟩) ((zs.drop k).take m)) := hide (by rw [← HTT.out]; exact HR6.out)
        have HT6 := hide (owns_upd HT5.out hu6 (fun j hj e => (HB.out.d3 j hj).2 e))
        replace hK6 := hide hK6
        replace hu6 := hide hu6
        replace hm6 := hide hm6
        have HN6 : gA + 2 ≤ w6.heap.size := by omega
        rcases hcs2 with p1 | ⟨p1, p2⟩
        all_goals (
          go_upto_region 19 with fail
          go_wp2_with (first
            | (at_builtin; refine app_list rfl (.tmp 104) (.tmp 107) 22 rfl (gA + 2) 5 i0 Try.underlying22 hi0 hz0 hz1 hz2 (.slice ta T.length tc) T rfl HT6.out (some ⟨wr.heap.size, 0, none⟩) m sz ((zs.drop k).take m) rfl HML.out (by intro h; cases h) HR6'.out (by omega) HN6 ?_; intro v7 w7 ho7 hg7 hk7; obtain ⟨a7, k7, hv7, _⟩ := owns_slice ho7; replace ho7 := hide ho7; replace hg7 := hide hg7; replace hk7 := hide hk7; rw [HL7.out] at hv7; subst hv7)
            | fail)
          go_roundw
          case rel => exact ⟨i + 1, k + n, T ++ (zs.drop k).take m, M7, by omega, by go_num, hide (HFIN.out _ w5 w6 _ w7 M7 ho5.out hg5.out hk5.out hK6.out hu6.out hm6.out ho7.out hg7.out hk7.out)⟩
          case measure => simp [intOf]; omega))
    · obtain rfl : i = ls := by omega
      have hgelt : ¬ (i : Int) < (i : Int) := by omega
      have HF3' := hide (HB.out.up.heap HF3.out (fun e => by omega))
      have c0 : wr.cell? ⟨gA, 0, none⟩ = some (.slice ab lb cb) := (cell_of_row _ _ _ _ _ _ HF3'.out).trans rfl
      have hN : gA + 2 ≤ wr.heap.size := by have := HB.out.up.size; omega
      have HLEFT := hide (left_any HB.out.src)
      have hTl := HB.out.tl
      have HBY := hide (sbytes_any HB.out.snk (by omega))
      have HBEL : Hid (Below gA w wr) := hide (HB03.out.trans (HB.out.up.below (by omega) (fun j hj e => by omega)))
      have HRG := hide (row_of_owns2 HB.out.got)
      have HRT' := hide (row_of_owns2 HB.out.tk)
      have hTk : T.length ≤ 140737488351232 := by omega
      go_wp2_with fail
      refine keep HLEFT.out ?_
      go_wp2_with fail
      refine HBY.out.mono ?_
      rintro e w5 ⟨v5, rfl, ho5, hb5⟩
      obtain ⟨a5, k5, rfl, hn5, hk5, hq5⟩ := ho5.sliceN (n := T.length) rfl
      have HR5 := hide ho5.row
      have d0 := (hb5.cell (p := ⟨gA, 0, none⟩) (by show gA < _; omega)).trans c0
      have HB5 := hide (HBEL.out.trans (hb5.mono (by omega)))
      have HRG5 := hide (HRG.out.below2 hb5)
      have HRT5 := hide (HRT'.out.below2 hb5)
      have HRB5 := hide ((HRB.out.below2 (hgA.out ▸ HB5.out)).take k)
      have SM1 : Hid (∀ m, Calls Try.prog 12 #[.slice ga k gc, .slice ab k cb] (w5.drewN m) fun e w' => e = .returned (.bool true) ∧ ∃ m', w' = (w5.drewN m).drewN m') := hide fun m => sameq ga ab k gc cb (zs.take k) (w5.drewN m) (by unfold maxLen; omega) htk HRG5.out HRB5.out
      have SM2 : Hid (∀ m, Calls Try.prog 12 #[.slice a5 T.length k5, .slice ta T.length tc] (w5.drewN m) fun e w' => e = .returned (.bool true) ∧ ∃ m', w' = (w5.drewN m).drewN m') := hide fun m => sameq a5 ta T.length k5 tc T (w5.drewN m) (by unfold maxLen; omega) rfl HR5.out HRT5.out
      have HEND : Hid (∀ m, Below w.heap.size w (w5.drewN m)) := hide fun m => by rw [← hgA.out]; exact HB5.out.trans (((Still.refl w5).drewN m).below _)
      clear ho5 hb5 HBY HLEFT hq5 hn5 htk
      have t1 : ¬ (lb : Int) < (k : Int) := by omega
      have t2 : (((zs.length - k : Nat) : Int) != (lb : Int) - (k : Int)) = false := by simp; omega
      have t2' : (((lb - k : Nat) : Int) != (lb : Int) - (k : Int)) = false := by simp; omega
      have t3 : (k : Int) ≤ (cb : Int) := by omega
      have t4 : (0 : Int) ≤ (k : Int) := by omega
      go_wp2_with fail
      refine (SM1.out 0).mono ?_
      rintro e w6 ⟨rfl, m6, hw6⟩
      have hw6' := hw6
      subst hw6'
      go_wp2_with fail
      refine (SM2.out _).mono ?_
      rintro e w7 ⟨rfl, m7, hw7⟩
      have hw7' := hw7
      subst hw7'
      go_wp2_with fail
      go_ret
      exact ⟨rfl, HEND.out _⟩

end Go.Proofs.Ytpjldnjcomdhkab
