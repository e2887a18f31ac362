/- PipeSources: the walk. -/
import Derived.Test.YtpjldnjcomdhkaaPRef
import Derived.Test.YtpjldnjcomdhkaaPCalls
import Derived.Test.YtpjldnjcomdhkaaPSame
namespace Go.Proofs.Ytpjldnjcomdhkaa
open Go.RowKit

/-- The row that both rooms begin with. -/
def sev (n : Nat) : List Value := (List.range n).map fun j => .int .u8 ((7 * j % 256 : Nat) : Int)
theorem sev_len (n : Nat) : (sev n).length = n := by simp [sev]
theorem sev_bytes (n : Nat) : ∀ u ∈ sev n, IsByte u := by
  intro u hu
  obtain ⟨j, _, rfl⟩ := List.mem_map.1 hu
  exact ⟨_, rfl⟩
theorem sev_zero (n : Nat) : (sev n).take 0 ++ (zeros n).drop 0 = zeros n := by simp
theorem sev_next (n i : Nat) (h : i < n) : ((sev n).take i ++ (zeros n).drop i).toArray.setIfInBounds i (.int .u8 ((7 * i % 256 : Nat) : Int)) = ((sev n).take (i + 1) ++ (zeros n).drop (i + 1)).toArray := by
  have hl : ((sev n).take i).length = i := by rw [List.length_take, sev_len]; omega
  have hz : i < (zeros n).length := by rw [zeros_len]; exact h
  have hs : i < (sev n).length := by rw [sev_len]; exact h
  rw [List.setIfInBounds_toArray, List.set_append_right _ _ (by omega), hl, Nat.sub_self, List.drop_eq_getElem_cons hz, List.set_cons_zero, List.take_add_one, List.getElem?_eq_getElem hs]
  simp [sev]
theorem sev_cell {W : World} {r n i : Nat} (h : W.heap[r]? = some (.cells ((sev n).take i ++ (zeros n).drop i).toArray 5 (0, 0))) (hi : i < n) : W.cell? ⟨r, i, none⟩ = some (.int .u8 0) := by
  have hl : ((sev n).take i).length = i := by rw [List.length_take, sev_len]; omega
  rw [cell_of_row _ _ _ _ _ _ h, List.getElem?_toArray, List.getElem?_append_right (by omega), hl, Nat.sub_self, List.getElem?_drop, Nat.add_zero, List.getElem?_eq_getElem (by rw [zeros_len]; exact hi)]
  simp [zeros]
theorem sev_wrap (i : Nat) : ((7 * (i : Int)) % 256) = ((7 * i % 256 : Nat) : Int) := by omega

/-- Bytes as values, as numbers. -/
theorem byte_list : ∀ (l : List Value), (∀ u ∈ l, IsByte u) → ∃ xs : List Int, l = xs.map (Value.int .u8)
  | [], _ => ⟨[], rfl⟩
  | u :: l, h => by
    obtain ⟨x, rfl⟩ := h u (List.mem_cons_self)
    obtain ⟨xs, rfl⟩ := byte_list l (fun v hv => h v (List.mem_cons_of_mem _ hv))
    exact ⟨x :: xs, rfl⟩
theorem row_list {W : World} {r : Nat} {xs : List Int} (h : W.heap[r]? = some (.cells (xs.map (Value.int .u8)).toArray 5 (0, 0))) : Row W .u8 (some ⟨r, 0, none⟩) xs := by
  intro i hi
  refine ⟨r, 0, rfl, ?_⟩
  rw [Nat.zero_add, cell_of_row _ _ _ _ _ _ h]
  simp [List.getD, hi]

theorem row_lt2 {w : World} {k : IntKind} {a : Option Addr} {zs : List Int} (h : Row w k a zs) {x : Addr} (hx : a = some x) (hp : 0 < zs.length) : x.block < w.heap.size := by
  obtain ⟨b, off, ha, hb, _⟩ := h.cons hp
  rw [hx] at ha
  cases ha
  exact hb
/-- A source is asked, whatever it is. -/
theorem readAll {W : World} {M : Nat → Prop} {zs gs : List Int} {fail : Int} {eager : Bool} {g c k : Nat} {p : Option Addr} {size pc r : Nat} {cur : List Value} {n : Nat} {er : Int} (hR : SrcAt W M zs gs fail eager g c k) (hc : c < 4611686018427387904) (hroom : Room W p size r cur) (hr : ¬ M r) (hs : size ≤ 140737488355328) (hn : n = srcN zs gs fail (c + 1) k size) (her : er = srcErr zs fail eager (c + 1) k n) :
    Calls Try.prog 14 #[.pointer (some ⟨g, 0, none⟩), .slice p size pc] W fun e W' => e = .returned (.tuple #[.int .i64 (n : Int), .int .i64 er]) ∧ SrcAt W' M zs gs fail eager g (c + 1) (k + n) ∧ Room W' p size r (((zs.drop k).take n).map (Value.int .u8) ++ cur.drop n) ∧ Upd (fun i => M i ∨ i = r) W W' := by
  have hg : r ≠ g := fun e => hr (e ▸ hR.lt.2.1)
  by_cases hf : failsAt fail (c + 1) = true
  · have h0 : n = 0 := by rw [hn]; unfold srcN; rw [if_pos hf]
    have he : er = 32 := by rw [her]; unfold srcErr; rw [if_pos hf]
    subst h0
    rw [he]
    exact (read_broken (.slice p size pc) hR hc hf).mono fun e W' ⟨h1, h2, h3⟩ => ⟨h1, h2, by simpa using hroom.upd h3 hg, h3.mono (fun i _ e => .inl (e ▸ hR.lt.2.1))⟩
  · have hf' : failsAt fail (c + 1) = false := by simpa using hf
    by_cases hk : k = zs.length
    · have h0 : n = 0 := by rw [hn]; unfold srcN; rw [if_neg hf, if_pos hk]
      have he : er = 31 := by rw [her]; unfold srcErr; rw [if_neg hf, if_pos hk]
      subst h0
      rw [he]
      exact (read_end (.slice p size pc) hR hc hf' hk).mono fun e W' ⟨h1, h2, h3⟩ => ⟨h1, h2, by simpa using hroom.upd h3 hg, h3.mono (fun i _ e => .inl (e ▸ hR.lt.2.1))⟩
    · have hn' : n = min size (mostN gs (c + 1) (zs.length - k)) := by rw [hn]; unfold srcN; rw [if_neg hf, if_neg hk]
      have he : er = if eager = true ∧ k + n = zs.length then 31 else 0 := by rw [her]; unfold srcErr; rw [if_neg hf, if_neg hk]
      rw [he]
      exact (read_go p size pc r cur hR hc hf' hk hroom hr hs n hn').mono fun e W' ⟨h1, h2, h3, h4⟩ => ⟨h1, h2, h3, h4.mono (fun i _ e => e.elim (fun (h : i = g) => .inl (h ▸ hR.lt.2.1)) .inr)⟩

/-- Between two rounds. -/
structure SB (w3 W : World) (N : Nat) (M : Nat → Prop) (zs gs : List Int) (fail : Int) (eager : Bool) (x y : Value) (g g2 i k : Nat) : Prop where
  src : SrcAt W M zs gs fail eager g i k
  mN : ∀ j, M j → N ≤ j ∧ j ≠ g2
  ref : RSrc0 W g2 x y fail eager i k
  gN : N ≤ g2
  up : Upd (fun j => N ≤ j) w3 W

set_option maxRecDepth 100000 in
set_option maxHeartbeats 3200000 in
theorem pipeSources_any (ab ag as' : Option Addr) (lb cb lg cg ls cs : Nat) (zs gs ss : List Int) (fail : Int) (eager : Bool) (w : World)
    (hlb : zs.length = lb) (hlg : gs.length = lg) (hls : ss.length = ls) (hm : lb ≤ 140737488351232) (hmg : lg * 8 ≤ 140737488351232) (hms : ls ≤ 140737488351232)
    (nb : ab = none → lb = 0 ∧ cb = 0) (ng : ag = none → lg = 0 ∧ cg = 0) (rb : Row w .u8 ab zs) (rg : Row w .i64 ag gs) (rs : Row w .u16 as' ss) (b8 : B8 zs) (b16 : ∀ x ∈ ss, 0 ≤ x ∧ x ≤ 65535) :
    Calls Try.prog 4 #[.agg #[.slice ab lb cb, .slice ag lg cg, .int .i64 fail, .bool eager], .slice as' ls cs] w fun e w' => e = .returned (.bool true) ∧ Below w.heap.size w w' := by
  have HRB := hide rb
  have HRG := hide rg
  have HRS := hide rs
  have HNB := hide nb
  have HNG := hide ng
  have HB8 := hide b8
  have HB16 := hide b16
  have hf1 := heap_alloc_new w (.cells #[.slice ab lb cb, .slice ag lg cg, .int .i64 fail, .bool eager] 26)
  have hbA : Below w.heap.size w (w.alloc (.cells #[.slice ab lb cb, .slice ag lg cg, .int .i64 fail, .bool eager] 26)) := (Below.refl _ _).alloc (Nat.le_refl _) _
  have hzA : (w.alloc (.cells #[.slice ab lb cb, .slice ag lg cg, .int .i64 fail, .bool eager] 26)).heap.size = w.heap.size + 1 := by simp
  clear rb rg rs nb ng b8 b16
  go_enter Try.func4, Try.ntmps4
  go_wp2_with fail
  generalize w.alloc (.cells #[.slice ab lb cb, .slice ag lg cg, .int .i64 fail, .bool eager] 26) = wA at *
  obtain ⟨gA, hgA⟩ : ∃ gA, gA = w.heap.size := ⟨_, rfl⟩
  rw [← hgA] at hf1 hbA hzA ⊢
  replace hgA := hide hgA
  refine (lives_any wA).mono ?_
  rintro e w1 ⟨rfl, hb1⟩
  have hF := (hb1.block gA (by omega)).trans hf1
  have hb01 : Below gA w w1 := hbA.trans (hb1.mono (by omega))
  have hz1' : gA + 1 ≤ w1.heap.size := by have := hb1.size; omega
  clear hf1 hbA hb1 hzA
  have c0 := (feed_cells hF).1
  have c1 := (feed_cells hF).2.1
  have c2 := (feed_cells hF).2.2.1
  have c3 := (feed_cells hF).2.2.2.1
  have HF := hide hF
  clear hF
  go_wp2_with fail
  refine (source_any ab ag lb cb lg cg zs gs fail eager w1 hlb hlg (by omega) (by omega) HNB.out HNG.out (HRB.out.below2 (hgA.out ▸ hb01)) (HRG.out.below2 (hgA.out ▸ hb01))).mono ?_
  rintro e w3 ⟨g, M, g2, rfl, hS, hM, hR, hg2, hb3⟩
  have hb03 : Below gA w w3 := hb01.trans (hb3.mono (by omega))
  have HF3 := hide ((hb3.block gA (by omega)).trans HF.out)
  have H0 : Hid (SB w3 w3 (gA + 1) M zs gs fail eager (.slice ab lb cb) (.slice ag lg cg) g g2 0 0) := hide ⟨hS, fun j hj => ⟨by have := (hM j hj).1; omega, (hM j hj).2⟩, hR, by omega, Upd.refl _ _⟩
  have hz3 : gA + 1 ≤ w3.heap.size := by have := hb3.size; omega
  have HB03 := hide hb03
  clear hS hM hR hb3 hb01 hb03 HF c0 c1 c2 c3 hg2
  go_wp2_with fail
  go_loopw [8] (fun q wr => ∃ (i k : Nat), i ≤ ls ∧ q = .int .i64 i ∧ Hid (SB w3 wr (gA + 1) M zs gs fail eager (.slice ab lb cb) (.slice ag lg cg) g g2 i k)) (fun q _ => ls - (intOf q).toNat)
  case atStart => exact ⟨0, 0, by omega, rfl, H0⟩
  case round =>
    clear H0
    obtain ⟨i, k, hi, rfl, HB⟩ := hrel
    obtain ⟨wo, hwo⟩ : ∃ wo, wo = wr := ⟨_, rfl⟩
    subst hwo
    have hkle := HB.out.src.lt.2.2
    have HF3' := hide (HB.out.up.heap HF3.out (fun e => by omega))
    have c0 := (feed_cells HF3'.out).1
    have hNr : gA + 1 ≤ wo.heap.size := by have := HB.out.up.size; omega
    by_cases hlt : i < ls
    · obtain ⟨bs, os, rfl, hbs, hcs⟩ := HRS.out.cons (by omega)
      have hcell := hcs i (by omega)
      have hnx := HB16.out (ss.getD i 0) (by rw [List.getD_eq_getElem?_getD, List.getElem?_eq_getElem (by omega)]; exact List.getElem_mem _)
      obtain ⟨sz, hsz⟩ : ∃ sz : Nat, ss.getD i 0 = (sz : Int) := ⟨(ss.getD i 0).toNat, by omega⟩
      rw [hsz] at hcell hnx
      have hbs2 : bs < gA := by have := hgA.out; omega
      have hcW : wo.cell? ⟨bs, os + i, none⟩ = some (.int .u16 (sz : Int)) := HB.out.up.cell ((HB03.out.cell (p := ⟨bs, os + i, none⟩) hbs2).trans hcell) (fun e => by have e' : gA + 1 ≤ bs := e; omega)
      have hsz2 : sz ≤ 65535 := by omega
      have hidx : (i : Int) < (ls : Int) := by omega
      have hidx0 : (0 : Int) ≤ (i : Int) := by omega
      have hmk := run_zeros (sz + 2) (by omega)
      have hszc : ((sz + 2 : Nat) : Int) = (sz : Int) + 2 := by omega
      rw [hszc] at hmk
      have hbs3 : bs < wo.heap.size := by omega
      clear hcell hsz hnx hcs hbs
      replace hszc := hide hszc
      obtain ⟨L, hL⟩ : ∃ L, L = sz + 2 := ⟨_, rfl⟩
      rw [← hL] at hmk
      have q1 := heap_alloc2_old wo (.cells (zeros L).toArray 5) (.cells (zeros L).toArray 5)
      have q2 := heap_alloc2_new wo (.cells (zeros L).toArray 5) (.cells (zeros L).toArray 5)
      have HQ1 := hide q1
      have HQ2 := hide q2
      have HQU : Hid (Upd Noth wo ((wo.alloc (.cells (zeros L).toArray 5)).alloc (.cells (zeros L).toArray 5))) := hide (((Upd.refl _ _).alloc _).alloc _)
      clear q1 q2
      have hLle : L ≤ 65537 := by omega
      replace hL := hide hL
      go_wp2_with fail
      go_loopw [11] (fun q wr => ∃ j : Nat, j ≤ L ∧ q = .int .i64 (j : Int) ∧ Hid (Upd Noth wo wr) ∧ Hid (wr.heap[wo.heap.size]? = some (.cells ((sev L).take j ++ (zeros L).drop j).toArray 5 (0, 0))) ∧ Hid (wr.heap[wo.heap.size + 1]? = some (.cells ((sev L).take j ++ (zeros L).drop j).toArray 5 (0, 0)))) (fun q _ => L - (intOf q).toNat)
      case atStart => exact ⟨0, by omega, rfl, HQU, by show _ = _; simpa using HQ1.out, by show _ = _; simpa using HQ2.out⟩
      case round =>
        obtain ⟨j, hj, rfl, HU, HA, HC⟩ := hrel
        by_cases hjl : j < L
        · have a1 := sev_cell HA.out hjl
          have a2 := sev_cell HC.out hjl
          have a3 := frozen_blk HA.out j
          have a4 := frozen_blk HC.out j
          have j1 : (j : Int) < (L : Int) := by omega
          have j2 : (0 : Int) ≤ (j : Int) := by omega
          have hrr : ¬ wo.heap.size + 1 = wo.heap.size := by omega
          have hw7 := hide (sev_wrap j)
          have HN7 := hide (sev_next L j hjl)
          have HU' : Hid (∀ y, Upd Noth wo ((wr.setCell ⟨wo.heap.size, j, none⟩ y).setCell ⟨wo.heap.size + 1, j, none⟩ y)) := hide fun y => (HU.out.setCell ⟨wo.heap.size, j, none⟩ y (fun h => by simp only at h; omega)).setCell ⟨wo.heap.size + 1, j, none⟩ y (fun h => by simp only at h; omega)
          have HA' : Hid (((wr.setCell ⟨wo.heap.size, j, none⟩ (.int .u8 ((7 * j % 256 : Nat) : Int))).setCell ⟨wo.heap.size + 1, j, none⟩ (.int .u8 ((7 * j % 256 : Nat) : Int))).heap[wo.heap.size]? = some (.cells ((sev L).take (j + 1) ++ (zeros L).drop (j + 1)).toArray 5 (0, 0))) := hide (by
            rw [Below.heap_setCell _ _ _ _ (by simp), ← HN7.out]
            exact block_setCell HA.out j _)
          have HC' : Hid (((wr.setCell ⟨wo.heap.size, j, none⟩ (.int .u8 ((7 * j % 256 : Nat) : Int))).setCell ⟨wo.heap.size + 1, j, none⟩ (.int .u8 ((7 * j % 256 : Nat) : Int))).heap[wo.heap.size + 1]? = some (.cells ((sev L).take (j + 1) ++ (zeros L).drop (j + 1)).toArray 5 (0, 0))) := hide (by
            rw [← HN7.out]
            exact block_setCell ((Below.heap_setCell _ _ _ _ (by simp)).trans HC.out) j _)
          go_wp2_with fail
          rw [hw7.out]
          exact ⟨⟨j + 1, by omega, by go_num, HU'.out _, HA', HC'⟩, by simp [intOf]; omega⟩
        · obtain rfl : j = L := by omega
          have hge : ¬ (j : Int) < (j : Int) := by omega
          have HA2 : Hid (wr.heap[wo.heap.size]? = some (.cells (sev j).toArray 5 (0, 0))) := hide (by have := HA.out; rwa [List.take_of_length_le (by rw [sev_len]; exact Nat.le_refl _), List.drop_eq_nil_of_le (by rw [zeros_len]; exact Nat.le_refl _), List.append_nil] at this)
          have HC2 : Hid (wr.heap[wo.heap.size + 1]? = some (.cells (sev j).toArray 5 (0, 0))) := hide (by have := HC.out; rwa [List.take_of_length_le (by rw [sev_len]; exact Nat.le_refl _), List.drop_eq_nil_of_le (by rw [zeros_len]; exact Nat.le_refl _), List.append_nil] at this)
          clear HA HC
          have hcX := HU.out.cell hcW (fun e => e)
          have hszi : (sz : Int) ≤ (j : Int) := by have := hL.out; omega
          have hszi0 : (0 : Int) ≤ (sz : Int) := by omega
          obtain ⟨n, hn⟩ : ∃ n, n = srcN zs gs fail (i + 1) k sz := ⟨_, rfl⟩
          obtain ⟨er, her⟩ : ∃ er, er = srcErr zs fail eager (i + 1) k n := ⟨_, rfl⟩
          have hnle := srcN_le zs gs fail (i + 1) k sz
          rw [← hn] at hnle
          have hmlt := HB.out.src.lt.1
          have hg2lt : g2 < wo.heap.size := lt_of_block HB.out.ref
          have hgM : M g := HB.out.src.lt.2.1
          have HS1 := HB.out.src.upd HU.out (fun _ _ e => e)
          have hrm1 : Room wr (some ⟨wo.heap.size, 0, none⟩) sz wo.heap.size (sev j) := ⟨fun _ => rfl, HA2.out, by rw [sev_len]; have := hL.out; omega⟩
          have hrm2 : Room wr (some ⟨wo.heap.size + 1, 0, none⟩) sz (wo.heap.size + 1) (sev j) := ⟨fun _ => rfl, HC2.out, by rw [sev_len]; have := hL.out; omega⟩
          have HRD : Hid (Calls Try.prog 14 #[.pointer (some ⟨g, 0, none⟩), .slice (some ⟨wo.heap.size, 0, none⟩) sz j] wr fun e W' => e = .returned (.tuple #[.int .i64 (n : Int), .int .i64 er]) ∧ SrcAt W' M zs gs fail eager g (i + 1) (k + n) ∧ Room W' (some ⟨wo.heap.size, 0, none⟩) sz wo.heap.size (((zs.drop k).take n).map (Value.int .u8) ++ (sev j).drop n) ∧ Upd (fun b => M b ∨ b = wo.heap.size) wr W') := hide (readAll HS1 (by omega) hrm1 (fun e => by have := hmlt _ e; omega) (by omega) hn her)
          have HRR : Hid (∀ W2, Upd (fun b => M b ∨ b = wo.heap.size) wr W2 → Calls Try.prog 16 #[.pointer (some ⟨g2, 0, none⟩), .slice (some ⟨wo.heap.size + 1, 0, none⟩) sz j] W2 fun e W' => RReadPost zs fail eager (.slice ab lb cb) (.slice ag lg cg) g2 i k n er (some ⟨wo.heap.size + 1, 0, none⟩) sz (wo.heap.size + 1) (sev j) W2 e W') := hide (fun W2 hu2 => by
            have hnb : ∀ b, b < gA + 1 → ¬ (M b ∨ b = wo.heap.size) := fun b hb e => e.elim (fun e => by have := (HB.out.mN b e).1; omega) (fun e => by omega)
            have hBel : Below gA w W2 := (HB03.out.trans (HB.out.up.below (by omega) (fun b hb e => by omega))).trans (((HU.out.noth (S := fun b => M b ∨ b = wo.heap.size)).trans hu2).below (by omega) (fun b hb => hnb b (by omega)))
            refine rread_any ab ag lb cb lg cg zs gs fail eager g2 i k (some ⟨wo.heap.size + 1, 0, none⟩) sz j (wo.heap.size + 1) (sev j) W2 n er hn her hlb hlg (by omega) (by omega) (by omega) (by omega) ((HB.out.ref.upd HU.out (fun e => e)).upd hu2 (fun e => e.elim (fun e => (HB.out.mN _ e).2 rfl) (fun e => by omega))) (HRB.out.below2 (hgA.out ▸ hBel)) (HRG.out.below2 (hgA.out ▸ hBel)) (hrm2.upd hu2 (fun e => e.elim (fun e => by have := hmlt _ e; omega) (fun e => by omega))) (by omega) (fun x hx h0 => ?_) (fun x hx h0 => ?_) (sev_bytes j)
            · have h1 := row_lt2 HRB.out hx (by omega)
              have := hgA.out
              have := HB.out.gN
              exact ⟨by omega, by omega⟩
            · have h1 := row_lt2 HRG.out hx (by omega)
              have := hgA.out
              have := HB.out.gN
              omega)
          clear hrm1 hrm2 HS1 HA2 HC2
          replace hn := hide hn
          replace her := hide her
          go_wp2_with fail
          refine HRD.out.mono ?_
          rintro e w4 ⟨rfl, hS4, hR4, hu4⟩
          have hcX4 := hu4.cell hcX (fun e => e.elim (fun e => by have e' : M bs := e; have := (HB.out.mN bs e').1; omega) (fun e => by have e' : bs = wo.heap.size := e; omega))
          have HU4 := hide hu4
          have HS4 := hide hS4
          have HR4 := hide hR4
          clear hS4 hR4 hu4 HRD
          go_wp2_with fail
          refine (HRR.out w4 HU4.out).mono ?_
          rintro e w5 ⟨rfl, hR5, hM5, hu5⟩
          have HS5 := hide (HS4.out.upd hu5 (fun b hb e => e.elim (fun e => (HB.out.mN b hb).2 e) (fun e => by have := hmlt b hb; omega)))
          have hR45 := HR4.out.upd hu5 (fun e => e.elim (fun e => by omega) (fun e => by omega))
          have hnj : n ≤ j := by have := hL.out; omega
          obtain ⟨xs, hxs⟩ := byte_list (((zs.drop k).take n).map (Value.int .u8) ++ (sev j).drop n) (fun u hu => (List.mem_append.1 hu).elim (fun h => bytes_map _ u h) (fun h => sev_bytes j u (List.mem_of_mem_drop h)))
          have hxl : xs.length = j := by
            have := congrArg List.length hxs
            simp only [List.length_append, List.length_map, List.length_take, List.length_drop, sev_len] at this
            omega
          have HSM := hide (sameq (some ⟨wo.heap.size, 0, none⟩) (some ⟨wo.heap.size + 1, 0, none⟩) j j j xs w5 (by unfold maxLen; omega) hxl (row_list (by rw [← hxs]; exact hR45.2.1)) (row_list (by rw [← hxs]; exact hM5.2.1)))
          have HU5 : Hid (Upd (fun b => gA + 1 ≤ b) w3 w5) := hide (((HB.out.up.then HU.out (fun _ _ e => e.elim)).then HU4.out (fun b _ e => e.elim (fun e => (HB.out.mN b e).1) (fun e => by omega))).then hu5 (fun b _ e => e.elim (fun e => by have := HB.out.gN; omega) (fun e => by omega)))
          have HR5 := hide hR5
          clear hR5 hM5 hu5 hR45 hxs hxl HRR hcX4 hcX
          go_wp2_with fail
          refine HSM.out.mono ?_
          rintro e w6 ⟨rfl, m6, hw6⟩
          have hw6' := hw6
          subst hw6'
          have hst6 : Still w5 (w5.drewN m6) := (Still.refl _).drewN _
          have HS6 := hide (HS5.out.upd (hst6.upd Noth) (fun _ _ e => e))
          have HR6 := hide (HR5.out.upd (hst6.upd Noth) (fun e => e))
          have HU6 := hide (HU5.out.trans (hst6.upd _))
          generalize w5.drewN m6 = w6 at *
          clear hst6 HSM
          go_wp2_with fail
          refine keep (calls_any HS6.out) ?_
          go_wp2_with fail
          refine keep (left_any HS6.out) ?_
          have d4 := (rsrc_cells HR6.out).2.2.2.2.1
          have d5 := (rsrc_cells HR6.out).2.2.2.2.2.1
          have hF6 := HU6.out.heap HF3.out (fun e => by omega)
          have d0 := (feed_cells hF6).1
          have t1 : (((zs.length - (k + n) : Nat) : Int) != (lb : Int) - ((k + n : Nat) : Int)) = false := by simp; omega
          have t2 : (((i + 1 : Nat) : Int) != ((i + 1 : Nat) : Int)) = false := by simp
          have HNEW : Hid (∀ m, SB w3 (w6.drewN m) (gA + 1) M zs gs fail eager (.slice ab lb cb) (.slice ag lg cg) g g2 (i + 1) (k + n)) := hide fun m => by
            have hst : Still w6 (w6.drewN m) := (Still.refl _).drewN _
            exact ⟨HS6.out.upd (hst.upd Noth) (fun _ _ e => e), HB.out.mN, HR6.out.upd (hst.upd Noth) (fun e => e), HB.out.gN, HU6.out.trans (hst.upd _)⟩
          have hle2 : k + n ≤ lb := by omega
          generalize hKN : k + n = kn at *
          generalize hI1 : i + 1 = i1 at *
          generalize hLN : zs.length - kn = lN at *
          have hI1c : (i : Int) + 1 = (i1 : Int) := by omega
          replace hKN := hide hKN
          replace hI1 := hide hI1
          replace hLN := hide hLN
          clear hF6 HR6 HS6 HU6 HS5 HR5 HU5
          go_wp2_with fail
          go_quiet (fail)
          go_wp2_with fail
          go_roundw
          case rel => exact ⟨i1, kn, by have := hI1.out; omega, by first | go_num | (rw [← hI1.out]; go_num), HNEW.out _⟩
          case measure => have := hI1.out; simp [intOf]; omega
    · obtain rfl : i = ls := by omega
      have hgelt : ¬ (i : Int) < (i : Int) := by omega
      have d4 := (rsrc_cells HB.out.ref).2.2.2.2.1
      have d5 := (rsrc_cells HB.out.ref).2.2.2.2.2.1
      have HCA := hide (calls_any HB.out.src)
      have HLE := hide (left_any HB.out.src)
      have HEND : Hid (∀ m, Below w.heap.size w (wo.drewN m)) := hide fun m => by
        rw [← hgA.out]
        exact (HB03.out.trans (HB.out.up.below (by omega) (fun b hb e => by omega))).trans (((Still.refl wo).drewN m).below _)
      have t1 : ((zs.length - k : Nat) : Int) = (lb : Int) - (k : Int) := by omega
      rw [t1] at HLE
      clear t1
      go_wp2_with fail
      refine keep HCA.out ?_
      go_wp2_with fail
      refine keep HLE.out ?_
      go_wp2_with fail
      go_quiet (fail)
      go_wp2_with fail
      go_ret
      exact ⟨rfl, HEND.out _⟩

end Go.Proofs.Ytpjldnjcomdhkaa
