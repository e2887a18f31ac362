/- What the document's List answers, and vint's, in one form. -/
import Derived.Test.YtlphpcacngimhaaPlaces
namespace Go.Proofs.Ytlphpcacngimhaa
open Go.RowKit Go.Shelf

/-- The numbers of a row of bytes. -/
def nums (zs : List Int) : List Int := (seq zs).map fun x => (x.2 : Int)
theorem nums_len (zs : List Int) : (nums zs).length = (seq zs).length := by simp [nums]
theorem nums_vals (zs : List Int) : (nums zs).map (Value.int .u64) = (seq zs).map fun x => Value.int .u64 (x.2 : Int) := by simp [nums]
theorem nums_take (zs : List Int) (k p m : Nat) (h : (seq zs)[k]? = some (p, m)) : (nums zs).take (k + 1) = (nums zs).take k ++ [(m : Int)] := by
  have h' : (nums zs)[k]? = some (m : Int) := by simp [nums, h]
  rw [List.take_add_one, h']
  rfl

/-- What List tells: the numbers; the error; its place. -/
def outNums (zs : List Int) : List Int := if pos zs (seq zs).length = zs.length then nums zs else []
def outErr (zs : List Int) : Int := if pos zs (seq zs).length = zs.length then 0 else rdErr zs (pos zs (seq zs).length : Int)
def outEnd (zs : List Int) : Int := if pos zs (seq zs).length = zs.length then 0 else rdEnd zs (pos zs (seq zs).length : Int)

set_option maxHeartbeats 1000000 in
theorem rlist_any (a : Option Addr) (len cap : Nat) (zs : List Int) (w : World) (hl : zs.length = len) (hm : len ≤ 1048576) (h8 : ∀ c ∈ zs, 0 ≤ c ∧ c ≤ 255) (hr : Row w .u8 a zs) :
    Calls Try.prog 22 #[.slice a len cap] w fun e w' => ∃ v, e = .returned (.tuple #[v, .int .i64 (outErr zs), .int .i64 (outEnd zs)]) ∧
      w'.ownsRow w.heap.size 25 1 v (outNums zs).length ((outNums zs).map (Value.int .u64)) ∧ Below w.heap.size w w' := by
  obtain ⟨i0, hi, hz0, hz1, hz2⟩ := info_parts infoW
  have hN := seq_len_le zs h8
  have HR := hide hr
  clear hr
  go_enter Try.func22, Try.ntmps22
  go_wp2
  go_loopw [5, 6] (fun s q wr => ∃ (k : Nat) (v : Value), k ≤ (seq zs).length ∧ s = v ∧ q = .int .i64 (pos zs k : Int) ∧ wr.ownsRow w.heap.size 25 1 v k (((nums zs).take k).map (Value.int .u64)) ∧ Below w.heap.size w wr) (fun _ q _ => len - (intOf q).toNat)
  case atStart => exact ⟨0, _, Nat.zero_le _, rfl, rfl, World.ownsRow_nil _ _ _ _, Below.refl _ _⟩
  case round =>
    obtain ⟨k, v, hk, rfl, rfl, hownr, hbel⟩ := hrel
    have hsz := hbel.size
    have hRD := rread_any a len cap (pos zs k : Int) zs wr hl (by unfold maxLen; omega) (HR.out.below2 hbel) (fits8_of_mem h8)
    have hple := pos_le zs h8 k hk
    by_cases hkN : k < (seq zs).length
    · obtain ⟨m, hm64, hget, e1, e2, e3, hlt, hle⟩ := pos_at zs h8 k hkN
      rw [e1, e2, e3] at hRD
      have HRD := hide hRD
      have HG := hide (nums_take zs k _ m hget)
      clear hRD e1 e2 e3 hget
      generalize hp1 : pos zs (k + 1) = p1 at *
      have HP1 := hide hp1
      clear hp1
      generalize pos zs k = p0 at *
      have hltI : (p0 : Int) < (len : Int) := by omega
      go_wp2_with (first
        | (go_at_call 20; refine HRD.out.mono ?_; rintro e w1 ⟨rfl, hw1⟩; have hw1' := hw1.symm; subst hw1')
        | (at_builtin; refine append_mine rfl (.tmp 25) (.tmp 27) 29 rfl w.heap.size 25 i0 (.int .u64 0) 8 Try.underlying29 hi hz0 hz1 hz2 rfl _ k _ rfl (hownr.alloc _) ⟨wr.heap.size, 0, none⟩ 1 1 [.int .u64 (m : Int)] rfl rfl (cell_one_new _ _ _) (by intro u hu; simp at hu; subst hu; rfl) (by omega) (by unfold maxLen; omega) (by omega) (by simp; omega) ?_; intro g' cap' w2 hown1 hg1 hor))
      go_roundw
      case rel =>
        refine ⟨k + 1, _, by omega, rfl, by rw [HP1.out], ?_, (hbel.alloc hsz _).grown hg1 (by simp; omega) (fun j h => (hownr.lt j h).1)⟩
        rw [HG.out, List.map_append]
        exact hown1
      case measure => simp [intOf]; omega
    · have hkE : k = (seq zs).length := by omega
      subst hkE
      have hend := pos_end zs h8
      have ht : (nums zs).take (seq zs).length = nums zs := by rw [← nums_len, List.take_length]
      rw [ht] at hownr
      by_cases hlt : pos zs (seq zs).length = zs.length
      · have HO : Hid (outErr zs = 0 ∧ outEnd zs = 0 ∧ outNums zs = nums zs) := by
          show _ ∧ _
          unfold outErr outEnd outNums
          rw [if_pos hlt, if_pos hlt, if_pos hlt]
          exact ⟨rfl, rfl, rfl⟩
        clear hRD hend
        generalize pos zs (seq zs).length = p0 at *
        have hge : ¬ (p0 : Int) < (len : Int) := by omega
        go_wp2
        go_ret3
        rw [HO.out.1, HO.out.2.1, HO.out.2.2, nums_len]
        exact ⟨_, rfl, hownr, hbel⟩
      · have HO : Hid (outErr zs = rdErr zs (pos zs (seq zs).length : Int) ∧ outEnd zs = rdEnd zs (pos zs (seq zs).length : Int) ∧ outNums zs = []) := by
          show _ ∧ _
          unfold outErr outEnd outNums
          rw [if_neg hlt, if_neg hlt, if_neg hlt]
          exact ⟨rfl, rfl, rfl⟩
        have HRD := hide hRD
        clear hRD
        generalize rdErr zs _ = er at *
        generalize rdEnd zs _ = en at *
        generalize rdNum zs _ = nu at *
        generalize pos zs (seq zs).length = p0 at *
        have hltI : (p0 : Int) < (len : Int) := by omega
        have hne : (er != 0) = true := by simpa using hend
        clear hend hownr
        go_wp2_with (first
          | (go_at_call 20; refine HRD.out.mono ?_; rintro e w1 ⟨rfl, hw1⟩; have hw1' := hw1.symm; subst hw1'))
        go_ret3
        rw [HO.out.1, HO.out.2.1, HO.out.2.2]
        exact ⟨_, rfl, World.ownsRow_nil _ _ _ _, hbel⟩

/-- vint's List in that form. -/
theorem vlist_in (n : Nat) (hn : 5 ≤ n) (a : Option Addr) (len cap : Nat) (zs : List Int) (w : World) (hl : zs.length = len) (hm : len ≤ 1048576) (h8 : ∀ c ∈ zs, 0 ≤ c ∧ c ≤ 255) (hr : Row w .u8 a zs) :
    CallsIn Fence.wide n Try.prog 12 #[.slice a len cap] w fun e w' => ∃ v, e = .returned (.tuple #[v, .int .i64 (outErr zs), .int .i64 (outEnd zs)]) ∧
      w'.ownsRow w.heap.size 25 1 v (outNums zs).length ((outNums zs).map (Value.int .u64)) ∧ Below w.heap.size w w' := by
  have hN := seq_len_le zs h8
  unfold outErr outEnd outNums
  by_cases hlt : pos zs (seq zs).length = zs.length
  · rw [if_pos hlt, if_pos hlt, if_pos hlt, nums_len, nums_vals]
    exact list_ok_in n hn a len cap zs w hl (by omega) h8 hr (by omega) (by rw [behindS_pos, hlt, hl])
  · rw [if_neg hlt, if_neg hlt, if_neg hlt]
    refine (list_bad_in n hn a len cap zs w hl (by omega) h8 hr (by omega) (pos zs (seq zs).length) (behindS_pos zs) (by omega) _ _ (hide rfl) (hide rfl)).mono ?_
    rintro e w' ⟨rfl, hb⟩
    exact ⟨_, rfl, World.ownsRow_nil _ _ _ _, hb⟩

end Go.Proofs.Ytlphpcacngimhaa
