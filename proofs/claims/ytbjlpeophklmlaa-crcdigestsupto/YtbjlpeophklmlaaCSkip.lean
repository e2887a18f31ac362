/- What becomes of a register in many steps: of, twice, byteMoves, skip, Join. -/
import Derived.Test.YtbjlpeophklmlaaCSteps
import Derived.Test.YtbjlpeophklmlaaCRow
import Derived.Deep.RegionHeld3
import Derived.Deep.MidRow
namespace Go.Proofs.Ytbjlpeophklmlaa
open Go.RowKit

/-- An array that says what becomes of each bit in K steps. -/
def Mv (arr : Array Value) (K : Nat) : Prop := arr.size = 32 ∧ ∀ i, i < 32 → arr[i]? = some (.int .u32 ((stn K (2 ^ i) : Nat) : Int))

theorem mod_succ (r k : Nat) : r % 2 ^ (k + 1) = (r % 2 ^ k) ^^^ (r / 2 ^ k % 2 * 2 ^ k) := by
  refine Nat.eq_of_testBit_eq fun i => ?_
  rw [Nat.testBit_xor, Nat.testBit_mod_two_pow, Nat.testBit_mod_two_pow, Nat.mul_comm, Nat.testBit_two_pow_mul]
  by_cases h1 : i < k
  · simp [h1, show i < k + 1 by omega, show ¬ k ≤ i by omega]
  · by_cases h2 : i = k
    · subst h2
      simp [Nat.testBit_eq_decide_div_mod_eq]
    · have : ((r / 2 ^ k % 2).testBit (i - k)) = false := Nat.testBit_lt_two_pow (Nat.lt_of_lt_of_le (Nat.mod_lt _ (by decide)) (by
        have := Nat.pow_le_pow_right (n := 2) (by decide) (show 1 ≤ i - k by omega)
        omega))
      simp [h1, this, show ¬ i < k + 1 by omega]
theorem bit_on {r k : Nat} (h : r / 2 ^ k % 2 = 1) : r % 2 ^ (k + 1) = (r % 2 ^ k) ^^^ 2 ^ k := by rw [mod_succ, h, Nat.one_mul]
theorem bit_off {r k : Nat} (h : ¬ r / 2 ^ k % 2 = 1) : r % 2 ^ (k + 1) = r % 2 ^ k := by
  rw [mod_succ, show r / 2 ^ k % 2 = 0 by omega, Nat.zero_mul, Nat.xor_zero]

theorem pow_lt32 {k : Nat} (h : k < 32) : 2 ^ k < 4294967296 := Nat.pow_lt_pow_right (n := 32) (by decide) h

set_option maxHeartbeats 800000 in
theorem of_any (arr : Array Value) (K r : Nat) (w : World) (hA : Mv arr K) (hr : r < 4294967296) :
    Calls Try.prog 45 #[.agg arr, .int .u32 r] w fun e w' => e = .returned (.int .u32 (stn K r : Nat)) ∧ Below w.heap.size w w' := by
  have HA := hide hA
  clear hA
  go_enter Try.func45, Try.ntmps45
  go_wp2
  go_loop [5, 7] (fun q i => ∃ k : Nat, k ≤ 32 ∧ i = .int .i64 k ∧ q = .int .u32 (stn K (r % 2 ^ k) : Nat)) (fun _ i => 32 - (intOf i).toNat)
  case atStart => exact ⟨0, by omega, rfl, by rw [Nat.pow_zero, Nat.mod_one, stn_zero]; rfl⟩
  case round =>
    obtain ⟨k, hk, rfl, rfl⟩ := hrel
    by_cases hlt : k < 32
    · have hcell := HA.out.2 k hlt
      have hd : r / 2 ^ k < 4294967296 := Nat.lt_of_le_of_lt (Nat.div_le_self _ _) hr
      have hm : r % 2 ^ k < 4294967296 := Nat.lt_of_le_of_lt (Nat.mod_le _ _) hr
      have hp : 2 ^ k < 4294967296 := Nat.pow_lt_pow_right (n := 32) (by decide) hlt
      have ec : (r : Int) / 2 ^ k = ((r / 2 ^ k : Nat) : Int) := by rw [Int.natCast_ediv, Int.natCast_pow]; rfl
      by_cases hb : r / 2 ^ k % 2 = 1
      · have h1 := and_bit hd hb
        rw [← ec] at h1
        have h2 := u32_xor_nat _ _ (stn_lt K hm) (stn_lt K hp)
        rw [← stn_xor, ← bit_on hb] at h2
        clear ec hd hm hp hb
        have HT : Hid (∃ t : Nat, t = stn K (r % 2 ^ (k + 1))) := ⟨_, rfl⟩
        obtain ⟨t, HT⟩ := HT.out
        rw [← HT] at h2
        have HT := hide HT
        generalize stn K (2 ^ k) = u at *
        go_wp2
        go_round
        case rel => exact ⟨k + 1, by omega, by go_num, by rw [← HT.out]⟩
        case measure => simp [intOf]; omega
      · have h1 := and_nobit hd hb
        rw [← ec] at h1
        have HB : Hid (r % 2 ^ (k + 1) = r % 2 ^ k) := bit_off hb
        clear ec hd hm hp hb hcell
        go_wp2
        go_round
        case rel => exact ⟨k + 1, by omega, by go_num, by rw [HB.out]⟩
        case measure => simp [intOf]; omega
    · obtain rfl : k = 32 := by omega
      have he : r % 2 ^ 32 = r := Nat.mod_eq_of_lt hr
      rw [he]
      clear he
      go_wp2
      go_ret
      exact ⟨rfl, (Below.refl _ _).alloc (Nat.le_refl _) _⟩

theorem infoArr : (Try.prog.info? 59).map (·.size) = some 32 := by kernel_rfl
theorem frozen_row {w : World} {g : Nat} {cs : Array Value} {T : TypeId} (h : w.heap[g]? = some (.cells cs T (0, 0))) (j : Nat) : w.frozen? ⟨g, j, none⟩ = false := by simp [World.frozen?, h]
theorem range_row {w : World} {g : Nat} {cs : Array Value} {T : TypeId} (h : w.heap[g]? = some (.cells cs T (0, 0))) : w.rangeAt g 0 cs.toList := fun j v hv => by
  rw [Nat.zero_add, cell_of_row w g j cs T _ h]; simpa using hv
theorem there_row {w : World} {g n : Nat} {cs : Array Value} {T : TypeId} (h : w.heap[g]? = some (.cells cs T (0, 0))) (hn : n ≤ cs.size) : w.there g 0 n := fun j hj => by
  rw [Nat.zero_add, cell_of_row w g j cs T _ h]
  exact ⟨by simp; omega, frozen_row h j⟩
/-- The first k of 32 cells say what becomes of their bits. -/
def MvTo (cs : Array Value) (K k : Nat) : Prop := cs.size = 32 ∧ (∀ i, i < 32 → ∃ x : Int, cs[i]? = some (.int .u32 x)) ∧ ∀ i, i < k → cs[i]? = some (.int .u32 ((stn K (2 ^ i) : Nat) : Int))
theorem MvTo.mv {cs : Array Value} {K : Nat} (h : MvTo cs K 32) : Mv cs K := ⟨h.1, h.2.2⟩
theorem MvTo.set {cs : Array Value} {K k : Nat} (h : MvTo cs K k) (hk : k < 32) : MvTo (cs.setIfInBounds k (.int .u32 ((stn K (2 ^ k) : Nat) : Int))) K (k + 1) := by
  refine ⟨by simp [h.1], fun i hi => ?_, fun i hi => ?_⟩
  · by_cases e : k = i
    · subst e
      exact ⟨_, by rw [Array.getElem?_setIfInBounds_self_of_lt (by rw [h.1]; exact hk)]⟩
    · obtain ⟨x, hx⟩ := h.2.1 i hi
      exact ⟨x, by rw [Array.getElem?_setIfInBounds_ne e]; exact hx⟩
  · by_cases e : k = i
    · subst e
      rw [Array.getElem?_setIfInBounds_self_of_lt (by rw [h.1]; exact hk)]
    · rw [Array.getElem?_setIfInBounds_ne e]
      exact h.2.2 i (by omega)
theorem MvTo.one {cs : Array Value} {K k : Nat} (h : MvTo cs K k) : cs.all (·.oneCell') = true := by
  refine Array.all_eq_true_iff_forall_mem.2 fun v hv => ?_
  obtain ⟨i, hi, rfl⟩ := Array.mem_iff_getElem.1 hv
  obtain ⟨x, hx⟩ := h.2.1 i (by rw [← h.1]; exact hi)
  rw [Array.getElem?_eq_getElem hi] at hx
  rw [Option.some.inj hx]
  rfl

theorem results_cell {P : Program} {fn : Func} {tmps : Array Value} {a : Nat} {t : TypeId} {p : Addr} {v : Value} {w : World} (h : fn.results = #[.cell a t]) (hp : tmps[a]?.getD undef = .pointer (some p)) (hl : (loadVar t p).run P w = .ok v w) :
    (results fn tmps).run P w = .ok v w := by
  unfold results
  rw [h]
  simp [hp, asAddr, hl]

theorem below_cells {B b : Nat} {a : World} (hb : B ≤ b) : ∀ (vs : List Value) (o : Nat) (w : World), Below B a w → Below B a (w.setCells b o vs)
  | [], _, _, h => h
  | v :: r, o, _, h => below_cells hb r (o + 1) _ (h.setCell (p := ⟨b, o, none⟩) hb v)

theorem range_below {B g o : Nat} {w w' : World} {cs : List Value} (hb : Below B w w') (hg : g < B) (h : w.rangeAt g o cs) : w'.rangeAt g o cs :=
  fun j v hv => (hb.cell (p := ⟨g, o + j, none⟩) hg).trans (h j v hv)

theorem block_cells {g : Nat} {T : TypeId} : ∀ (vs : List Value) (o : Nat) (w : World) (z : Array Value), w.heap[g]? = some (.cells z T (0, 0)) → o + vs.length ≤ z.size →
    ∃ z' : Array Value, (w.setCells g o vs).heap[g]? = some (.cells z' T (0, 0)) ∧ z'.size = z.size ∧ (∀ j, j < vs.length → z'[o + j]? = vs[j]?) ∧ ∀ i, i < o → z'[i]? = z[i]?
  | [], o, w, z, h, _ => ⟨z, h, rfl, fun j hj => absurd hj (Nat.not_lt_zero j), fun _ _ => rfl⟩
  | v :: r, o, w, z, h, hl => by
    rw [List.length_cons] at hl
    obtain ⟨z', h1, h2, h3, h4⟩ := block_cells r (o + 1) (w.setCell ⟨g, o, none⟩ v) (z.setIfInBounds o v) (block_setCell h o v) (by rw [Array.size_setIfInBounds]; omega)
    refine ⟨z', h1, by rw [h2, Array.size_setIfInBounds], fun j hj => ?_, fun i hi => ?_⟩
    · cases j with
      | zero => rw [Nat.add_zero, h4 o (by omega), Array.getElem?_setIfInBounds_self_of_lt (by omega)]; rfl
      | succ j => rw [show o + (j + 1) = o + 1 + j by omega, h3 j (by simpa using hj)]; rfl
    · rw [h4 i (by omega), Array.getElem?_setIfInBounds_ne (by omega)]
theorem block_whole {g : Nat} {T : TypeId} {w : World} {z cs : Array Value} (h : w.heap[g]? = some (.cells z T (0, 0))) (hs : z.size = cs.size) : (w.setCells g 0 cs.toList).heap[g]? = some (.cells cs T (0, 0)) := by
  obtain ⟨z', h1, h2, h3, _⟩ := block_cells cs.toList 0 w z h (by rw [Array.length_toList]; omega)
  have : z' = cs := by
    refine Array.ext_getElem? fun i => ?_
    by_cases hi : i < cs.size
    · have := h3 i (by rw [Array.length_toList]; exact hi)
      rw [Nat.zero_add] at this
      rw [this, Array.getElem?_toList]
    · rw [Array.getElem?_eq_none (by omega), Array.getElem?_eq_none (by omega)]
  rw [h1, this]

def zero32 : Array Value := #[.int .u32 0, .int .u32 0, .int .u32 0, .int .u32 0, .int .u32 0, .int .u32 0, .int .u32 0, .int .u32 0, .int .u32 0, .int .u32 0, .int .u32 0, .int .u32 0, .int .u32 0, .int .u32 0, .int .u32 0, .int .u32 0,
  .int .u32 0, .int .u32 0, .int .u32 0, .int .u32 0, .int .u32 0, .int .u32 0, .int .u32 0, .int .u32 0, .int .u32 0, .int .u32 0, .int .u32 0, .int .u32 0, .int .u32 0, .int .u32 0, .int .u32 0, .int .u32 0]
theorem zero32_eq : zero32 = Array.replicate 32 (.int .u32 0) := by rfl
theorem mvTo_zero (K : Nat) : MvTo zero32 K 0 := by
  rw [zero32_eq]
  refine ⟨by simp, fun i hi => ⟨0, by rw [Array.getElem?_replicate, if_pos hi]⟩, fun i hi => absurd hi (Nat.not_lt_zero i)⟩

set_option maxRecDepth 100000 in
set_option maxHeartbeats 800000 in
theorem byteMoves_any (w : World) :
    Calls Try.prog 43 #[] w fun e w' => ∃ cs, e = .returned (.agg cs) ∧ MvTo cs 8 32 ∧ Below w.heap.size w w' := by
  go_enter Try.func43, Try.ntmps43
  go_wp2
  go_loopw [3] (fun i wr => ∃ (k : Nat) (cs z : Array Value), k ≤ 32 ∧ i = .int .i64 k ∧ wr.heap[w.heap.size + 1]? = some (.cells cs 59 (0, 0)) ∧ MvTo cs 8 k ∧ wr.heap[w.heap.size]? = some (.cells z 59 (0, 0)) ∧ z.size = 32 ∧ Below w.heap.size w wr) (fun i _ => 32 - (intOf i).toNat)
  case atStart =>
    refine ⟨0, zero32, zero32, by omega, rfl, ?_, mvTo_zero 8, ?_, rfl, ((Below.refl _ _).alloc (Nat.le_refl _) _).alloc (by simp) _⟩
    · exact heap_alloc2_new _ _ _
    · exact heap_alloc2_old _ _ _
  case round =>
    obtain ⟨k, cs, z, hk, rfl, hcs, hM, hz, hz32, hbel⟩ := hrel
    by_cases hlt : k < 32
    · obtain ⟨x, hx⟩ := hM.2.1 k hlt
      have hcell : wr.cell? ⟨w.heap.size + 1, k, none⟩ = some (.int .u32 x) := by rw [cell_of_row _ _ _ _ _ _ hcs]; exact hx
      have hfr := frozen_row hcs k
      have HCS := hide hcs
      have HZ := hide hz
      clear hcs hz hx
      have hp : (2 : Int) ^ k % 4294967296 = ((2 ^ k : Nat) : Int) := by
        have h := pow_lt32 hlt
        have e : (2 : Int) ^ k = ((2 ^ k : Nat) : Int) := by rw [Int.natCast_pow]; rfl
        rw [e]
        generalize 2 ^ k = p at h
        omega
      have HST := hide (steps_any (2 ^ k) 8 wr (pow_lt32 hlt) (by omega))
      have HM := hide (hM.set hlt)
      clear hM
      generalize stn 8 (2 ^ k) = t at *
      go_wp2_with fail
      refine keep HST.out ?_
      go_wp2_with fail
      go_roundw
      case rel => exact ⟨k + 1, _, z, by omega, by go_num, block_setCell HCS.out k _, HM.out, (Below.heap_setCell _ _ _ _ (by simp)).trans HZ.out, hz32, hbel.setCell (by simp) _⟩
      case measure => simp [intOf]; omega
    · obtain rfl : k = 32 := by omega
      have hr := range_row hcs
      have hth := there_row hz (n := cs.size) (by rw [hM.1, hz32]; exact Nat.le_refl _)
      go_wp2_with (first
        | (refine wpList_load_mid rfl 59 (.tmp 1) rfl (w.heap.size + 1) 0 rfl cs.toList _ hr Try.underlying59 rfl (by rw [infoArr, Array.length_toList, hM.1]) ?_)
        | (refine wpList_store_mid rfl 59 (.tmp 0) (.tmp 12) rfl w.heap.size 0 cs rfl (by simp [Act.eval, Act.put]) hth (by rw [infoArr, hM.1]) hM.one ?_))
      have hl := run_loadVar_mid (P := Try.prog) (wr.setCells w.heap.size 0 cs.toList) w.heap.size 0 59 cs.toList _ (World.rangeAt_setCells_same _ _ _ _ (by rw [Array.length_toList]; exact hth)) Try.underlying59 rfl (by rw [infoArr, Array.length_toList, hM.1])
      refine bodyPost_ret (v := .agg cs) ?_ rfl ⟨cs, rfl, hM, ?_⟩
      · exact results_cell Try.results43 rfl hl
      · exact below_cells (Nat.le_refl _) _ _ _ hbel

set_option maxRecDepth 100000 in
set_option maxHeartbeats 1600000 in
theorem twice_any (arr : Array Value) (K : Nat) (w : World) (hA : MvTo arr K 32) :
    Calls Try.prog 44 #[.agg arr] w fun e w' => ∃ cs, e = .returned (.agg cs) ∧ MvTo cs (K + K) 32 ∧ Below w.heap.size w w' := by
  have h3 (A B C : Obj) : (((w.alloc A).alloc B).alloc C).heap[w.heap.size + 1 + 1]? = some C ∧ (((w.alloc A).alloc B).alloc C).heap[w.heap.size + 1]? = some B ∧ (((w.alloc A).alloc B).alloc C).heap[w.heap.size]? = some A := by
    refine ⟨?_, ?_, ?_⟩
    · have := heap_alloc_new ((w.alloc A).alloc B) C
      simpa using this
    · rw [Below.heap_alloc _ _ _ (by simp)]; exact heap_alloc2_new _ _ _
    · rw [Below.heap_alloc _ _ _ (by simp; omega)]; exact heap_alloc2_old _ _ _
  have H3 := hide h3
  clear h3
  go_enter Try.func44, Try.ntmps44
  go_wp2
  go_loopw [5] (fun i wr => ∃ (k : Nat) (cs z : Array Value), k ≤ 32 ∧ i = .int .i64 k ∧ wr.heap[w.heap.size + 1 + 1]? = some (.cells cs 59 (0, 0)) ∧ MvTo cs (K + K) k ∧ wr.heap[w.heap.size + 1]? = some (.cells z 59 (0, 0)) ∧ z.size = 32 ∧ wr.heap[w.heap.size]? = some (.cells arr 59 (0, 0)) ∧ Below w.heap.size w wr) (fun i _ => 32 - (intOf i).toNat)
  case atStart =>
    refine ⟨0, zero32, zero32, by omega, rfl, (H3.out _ _ _).1, mvTo_zero _, (H3.out _ _ _).2.1, rfl, (H3.out _ _ _).2.2, (((Below.refl _ _).alloc (Nat.le_refl _) _).alloc (by simp) _).alloc (by simp; omega) _⟩
  case round =>
    obtain ⟨k, cs, z, hk, rfl, hcs, hM, hz, hz32, harr, hbel⟩ := hrel
    by_cases hlt : k < 32
    · obtain ⟨x, hx⟩ := hM.2.1 k hlt
      have hx2 : wr.cell? ⟨w.heap.size + 1 + 1, k, none⟩ = some (.int .u32 x) := by rw [cell_of_row _ _ _ _ _ _ hcs]; exact hx
      have hfr := frozen_row hcs k
      have hy : wr.cell? ⟨w.heap.size, k, none⟩ = some (.int .u32 ((stn K (2 ^ k) : Nat) : Int)) := by rw [cell_of_row _ _ _ _ _ _ harr]; exact hA.2.2 k hlt
      have hrg := range_row harr
      have hsz : w.heap.size + 1 + 1 < wr.heap.size := lt_of_block hcs
      have HM := hide (hM.set hlt)
      have HMv := hide hA.mv
      have HCS := hide hcs
      have HZ := hide hz
      have HARR := hide harr
      have hlen : arr.toList.length = 32 := by rw [Array.length_toList]; exact hA.1
      have hu := Try.underlying59
      have hinf : (Try.prog.info? 59).map (·.size) = some arr.toList.length := by rw [hlen]; exact infoArr
      have hone : ∀ v ∈ arr.toList, v.oneCell' = true := fun v hv => (Array.all_eq_true_iff_forall_mem.1 hA.one) v (by simpa using hv)
      have hs2 := stn_lt K (pow_lt32 hlt)
      have e2 : stn (K + K) (2 ^ k) = stn K (stn K (2 ^ k)) := stn_add K K _
      rw [e2] at HM
      clear hcs hM hz harr hx hA e2
      generalize stn K (2 ^ k) = y at *
      have hi0 : (0 : Int) ≤ (k : Int) := Int.natCast_nonneg _
      have hi1 : (k : Int) < 32 := by omega
      go_wp2_with fail
      go_region_held3 (fun w' => w'.rangeAt w.heap.size 0 arr.toList ∧ w'.cell? ⟨w.heap.size, k, none⟩ = some (.int .u32 (y : Int)))
        (first
          | exact ⟨range_below hb2 (by simp; omega) hrg, (hb2.cell (p := ⟨w.heap.size, k, none⟩) (by simp; omega)).trans hy⟩
          | exact ⟨range_below ((Below.refl (w.heap.size + 1) w2).setCell (p := ⟨w.heap.size + 1 + 1, k, none⟩) (by simp) _) (by simp) (range_below hb2 (by simp; omega) hrg), (((Below.refl (w.heap.size + 1) w2).setCell (p := ⟨w.heap.size + 1 + 1, k, none⟩) (by simp) _).cell (p := ⟨w.heap.size, k, none⟩) (by simp)).trans ((hb2.cell (p := ⟨w.heap.size, k, none⟩) (by simp; omega)).trans hy)⟩
          | go_keep_ranges)
        ((go_at_call 45; refine (of_any arr K y _ HMv.out hs2).mono ?_; rintro e w2 ⟨rfl, hb2⟩; have hx3 := (hb2.cell (p := ⟨w.heap.size + 1 + 1, k, none⟩) (by simp; omega)).trans hx2; have hf3 := (hb2.frozen (p := ⟨w.heap.size + 1 + 1, k, none⟩) (by simp; omega)).trans hfr))
      have k1 : w2.heap[w.heap.size + 1 + 1]? = _ := (hb2.block _ hsz).trans HCS.out
      have k2 : w2.heap[w.heap.size + 1]? = _ := (hb2.block (w.heap.size + 1) (by simp; omega)).trans HZ.out
      have k3 : w2.heap[w.heap.size]? = _ := (hb2.block (w.heap.size) (by simp; omega)).trans HARR.out
      have K1 := hide k1
      have K2 := hide k2
      have K3 := hide k3
      clear k1 k2 k3
      have hb3 : Below w.heap.size w w2 := hbel.drew.trans (hb2.mono hbel.size)
      go_wp2_with fail
      go_roundw
      case rel => exact ⟨k + 1, _, z, by omega, by go_num, block_setCell K1.out k _, HM.out, (Below.heap_setCell _ _ _ _ (by simp)).trans K2.out, hz32, (Below.heap_setCell _ _ _ _ (by simp; omega)).trans K3.out, hb3.setCell (by simp; omega) _⟩
      case measure => simp [intOf]; omega
    · obtain rfl : k = 32 := by omega
      have hr := range_row hcs
      have hth := there_row hz (n := cs.size) (by rw [hM.1, hz32]; exact Nat.le_refl _)
      go_wp2_with (first
        | (refine wpList_load_mid rfl 59 (.tmp 3) rfl (w.heap.size + 1 + 1) 0 rfl cs.toList _ hr Try.underlying59 rfl (by rw [infoArr, Array.length_toList, hM.1]) ?_)
        | (refine wpList_store_mid rfl 59 (.tmp 2) (.tmp 16) rfl (w.heap.size + 1) 0 cs rfl (by simp [Act.eval, Act.put]) hth (by rw [infoArr, hM.1]) hM.one ?_))
      have hl := run_loadVar_mid (P := Try.prog) (wr.setCells (w.heap.size + 1) 0 cs.toList) (w.heap.size + 1) 0 59 cs.toList _ (World.rangeAt_setCells_same _ _ _ _ (by rw [Array.length_toList]; exact hth)) Try.underlying59 rfl (by rw [infoArr, Array.length_toList, hM.1])
      refine bodyPost_ret (v := .agg cs) ?_ rfl ⟨cs, rfl, hM, ?_⟩
      · exact results_cell Try.results44 rfl hl
      · exact below_cells (by omega) _ _ _ hbel


theorem skip_odd {K m s : Nat} (h : m % 2 = 1) : stn (K * m) s = stn ((K + K) * (m / 2)) (stn K s) := by
  rw [← stn_add]
  congr 1
  have e : m = 2 * (m / 2) + 1 := by omega
  have e2 : K * (2 * (m / 2) + 1) = K + (K + K) * (m / 2) := by rw [Nat.mul_add, Nat.mul_one, ← Nat.mul_assoc, Nat.mul_comm K 2, Nat.two_mul, Nat.add_comm]
  rw [← e2, ← e]
theorem skip_even {K m s : Nat} (h : ¬ m % 2 = 1) : stn (K * m) s = stn ((K + K) * (m / 2)) s := by
  congr 1
  have e : m = 2 * (m / 2) := by omega
  have e2 : K * (2 * (m / 2)) = (K + K) * (m / 2) := by rw [← Nat.mul_assoc, Nat.mul_comm K 2, Nat.two_mul]
  rw [← e2, ← e]
theorem store_mid {P : Program} {ops : Array Oper} {rest : List Oper} {op : Oper} {a : Act} {w : World} {Q : Exit → Act → World → Prop} (hgd : op.guard = none) (hd : op.dst = none) (ty : TypeId) (x y : Operand) (ho : op.op = .store ty x y)
    (b o : Nat) (cells : Array Value) (hx : a.eval x = .pointer (some ⟨b, o, none⟩)) (hy : a.eval y = .agg cells)
    (ht : w.there b o cells.size) (hi : (P.info? ty).map (·.size) = some cells.size) (h1 : cells.all (·.oneCell') = true)
    (h : wpList P ops Q rest a (w.setCells b o cells.toList)) : wpList P ops Q (op :: rest) a w :=
  wpList_store_mid hgd ty x y ho b o cells hx hy ht hi h1 (by rw [hd]; exact h)

set_option maxRecDepth 100000 in
set_option maxHeartbeats 1600000 in
theorem skip_any (r n : Nat) (w : World) (hr : r < 4294967296) (hn : n ≤ 9223372036854775807) :
    Calls Try.prog 32 #[.int .u32 r, .int .i64 n] w fun e w' => e = .returned (.int .u32 (stn (8 * n) r : Nat)) ∧ Below w.heap.size w w' := by
  go_enter Try.func32, Try.ntmps32
  go_wp2_with (first
    | (go_at_call 43; refine (byteMoves_any _).mono ?_; rintro e w1 ⟨cs, rfl, hM, hb1⟩)
    | (refine store_mid rfl rfl 59 (.tmp 5) (.tmp 6) rfl w1.heap.size 0 cs rfl rfl (there_row (cs := zero32) (heap_alloc_new w1 _) (by rw [hM.1]; exact Nat.le_refl _)) (by rw [infoArr, hM.1]) hM.one ?_)
    | fail)
  have hcs0 := block_whole (cs := cs) (z := zero32) (heap_alloc_new w1 (.cells zero32 59)) (by rw [hM.1]; rfl)
  have hb2 : Below w.heap.size w _ := below_cells hb1.size cs.toList 0 _ (hb1.alloc hb1.size (.cells zero32 59))
  go_loopw [0, 1, 5] (fun q0 q1 q5 wr => ∃ (s m g K : Nat) (cs : Array Value), q0 = .int .u32 s ∧ q1 = .int .i64 m ∧ q5 = .pointer (some ⟨g, 0, none⟩) ∧ s < 4294967296 ∧ m ≤ n ∧ wr.heap[g]? = some (.cells cs 59 (0, 0)) ∧ MvTo cs K 32 ∧ w.heap.size ≤ g ∧ Below w.heap.size w wr ∧ Hid (stn (8 * n) r = stn (K * m) s)) (fun _ q1 _ _ => (intOf q1).toNat)
  case atStart => exact ⟨r, n, _, 8, cs, rfl, rfl, rfl, hr, Nat.le_refl _, hcs0, hM, hb1.size, hb2, rfl⟩
  case round =>
    clear hcs0 hb2 hM hb1
    obtain ⟨s, m, g, K, cs, rfl, rfl, rfl, hs, hm, hcs, hM, hg, hbel, HS⟩ := hrel
    by_cases hlt : 0 < m
    · have hgt := lt_of_block hcs
      have HCS := hide hcs
      clear hcs
      have HOF := hide (of_any cs K s wr hM.mv hs)
      by_cases hodd : m % 2 = 1
      · have hd := mod2_one hodd
        have HN := hide (skip_odd (K := K) (s := s) hodd)
        clear hodd
        go_wp2_with (first
          | (refine wpList_load_mid rfl 59 (.tmp 5) rfl g 0 rfl cs.toList _ (range_row HCS.out) Try.underlying59 rfl (by rw [infoArr, Array.length_toList, hM.1]) ?_)
          | fail)
        refine HOF.out.mono ?_
        rintro e w2 ⟨rfl, hb2⟩
        have HW := hide ((hb2.block g hgt).trans HCS.out)
        have hbW : Below w.heap.size w w2 := hbel.trans (hb2.mono hbel.size)
        clear hb2 hbel HOF
        have hz0 := heap_alloc_new w2 (.cells zero32 59)
        have hW1 := hide (block_whole (cs := cs) hz0 (by rw [hM.1]; rfl))
        have HT := hide (twice_any cs K ((w2.alloc (.cells zero32 59)).setCells w2.heap.size 0 cs.toList) hM)
        have hbw : Below w.heap.size w ((w2.alloc (.cells zero32 59)).setCells w2.heap.size 0 cs.toList) := below_cells hbW.size cs.toList 0 _ (hbW.alloc hbW.size _)
        have HZ0 := hide hz0
        clear hz0
        go_wp2_with (first
          | (refine wpList_load_mid rfl 59 (.tmp 5) rfl g 0 rfl cs.toList _ (range_row HW.out) Try.underlying59 rfl (by rw [infoArr, Array.length_toList, hM.1]) ?_)
          | (refine store_mid rfl rfl 59 (.tmp 5) (.tmp 19) rfl w2.heap.size 0 cs rfl (by simp [Act.eval]) (there_row HZ0.out (by rw [hM.1]; exact Nat.le_refl _)) (by rw [infoArr, hM.1]) hM.one ?_)
          | (refine wpList_load_mid rfl 59 (.tmp 5) rfl w2.heap.size 0 rfl cs.toList _ (range_row hW1.out) Try.underlying59 rfl (by rw [infoArr, Array.length_toList, hM.1]) ?_)
          | (go_at_call 44; refine HT.out.mono ?_; rintro e w3 ⟨cs2, rfl, hM2, hb3⟩; have hW3 := hide ((hb3.block _ (lt_of_block hW1.out)).trans hW1.out))
          | (refine store_mid rfl rfl 59 (.tmp 5) (.tmp 10) rfl w2.heap.size 0 cs2 rfl (by simp [Act.eval]) (there_row hW3.out (by rw [hM.1, hM2.1]; exact Nat.le_refl _)) (by rw [infoArr, hM2.1]) hM2.one ?_)
          | fail)
        go_roundw
        case rel => exact ⟨stn K s, m / 2, w2.heap.size, K + K, cs2, rfl, by go_num, rfl, stn_lt K hs, by omega, block_whole hW3.out (by rw [hM.1, hM2.1]), hM2, hbW.size, below_cells hbW.size _ _ _ (hbw.trans (hb3.mono hbw.size)), by show _ = _; rw [HS.out, HN.out]⟩
        case measure => simp [intOf]; omega
      · have hd := mod2_not hodd
        have HN := hide (skip_even (K := K) (s := s) hodd)
        have HW := HCS
        have hbW := hbel
        clear hodd HOF hbel HCS
        have hz0 := heap_alloc_new wr (.cells zero32 59)
        have hW1 := hide (block_whole (cs := cs) hz0 (by rw [hM.1]; rfl))
        have HT := hide (twice_any cs K ((wr.alloc (.cells zero32 59)).setCells wr.heap.size 0 cs.toList) hM)
        have hbw : Below w.heap.size w ((wr.alloc (.cells zero32 59)).setCells wr.heap.size 0 cs.toList) := below_cells hbW.size cs.toList 0 _ (hbW.alloc hbW.size _)
        have HZ0 := hide hz0
        clear hz0
        go_wp2_with (first
          | (refine wpList_load_mid rfl 59 (.tmp 5) rfl g 0 rfl cs.toList _ (range_row HW.out) Try.underlying59 rfl (by rw [infoArr, Array.length_toList, hM.1]) ?_)
          | (refine store_mid rfl rfl 59 (.tmp 5) (.tmp 19) rfl wr.heap.size 0 cs rfl (by simp [Act.eval]) (there_row HZ0.out (by rw [hM.1]; exact Nat.le_refl _)) (by rw [infoArr, hM.1]) hM.one ?_)
          | (refine wpList_load_mid rfl 59 (.tmp 5) rfl wr.heap.size 0 rfl cs.toList _ (range_row hW1.out) Try.underlying59 rfl (by rw [infoArr, Array.length_toList, hM.1]) ?_)
          | (go_at_call 44; refine HT.out.mono ?_; rintro e w3 ⟨cs2, rfl, hM2, hb3⟩; have hW3 := hide ((hb3.block _ (lt_of_block hW1.out)).trans hW1.out))
          | (refine store_mid rfl rfl 59 (.tmp 5) (.tmp 10) rfl wr.heap.size 0 cs2 rfl (by simp [Act.eval]) (there_row hW3.out (by rw [hM.1, hM2.1]; exact Nat.le_refl _)) (by rw [infoArr, hM2.1]) hM2.one ?_)
          | fail)
        go_roundw
        case rel => exact ⟨s, m / 2, wr.heap.size, K + K, cs2, rfl, by go_num, rfl, hs, by omega, block_whole hW3.out (by rw [hM.1, hM2.1]), hM2, hbW.size, below_cells hbW.size _ _ _ (hbw.trans (hb3.mono hbw.size)), by show _ = _; rw [HS.out, HN.out]⟩
        case measure => simp [intOf]; omega
    · obtain rfl : m = 0 := by omega
      have HE : Hid (stn (8 * n) r = s) := by
        show _ = _
        rw [HS.out, Nat.mul_zero]; rfl
      go_wp2_with fail
      go_ret
      exact ⟨ret_int (by rw [HE.out]), hbel⟩

set_option maxHeartbeats 400000 in
theorem join_any (a b n : Nat) (w : World) (ha : a < 4294967296) (hb : b < 4294967296) (hn : n ≤ 9223372036854775807) :
    Calls Try.prog 11 #[.int .u32 a, .int .u32 b, .int .i64 n] w fun e w' => e = .returned (.tuple #[.int .u32 (joinOf a b n : Nat), .int .i64 0]) ∧ Below w.heap.size w w' := by
  have HK := hide (skip_any a n w ha hn)
  have hx := u32_xor_nat _ _ (stn_lt (8 * n) ha) hb
  have e : joinOf a b n = stn (8 * n) a ^^^ b := rfl
  rw [← e] at hx
  clear e
  generalize joinOf a b n = j at *
  generalize stn (8 * n) a = t at *
  go_enter Try.func11, Try.ntmps11
  go_wp2_with (go_at_call 32; refine HK.out.mono ?_; rintro e w1 ⟨rfl, hb1⟩)
  go_ret2
  exact ⟨rfl, hb1⟩

set_option maxHeartbeats 400000 in
theorem join_neg (a b n : Int) (w : World) (hn : n < 0) :
    Calls Try.prog 11 #[.int .u32 a, .int .u32 b, .int .i64 n] w fun e w' => e = .returned (.tuple #[.int .u32 0, .int .i64 1]) ∧ w' = w := by
  go_enter Try.func11, Try.ntmps11
  go_wp2
  go_ret2
  exact ⟨rfl, rfl⟩

end Go.Proofs.Ytbjlpeophklmlaa
