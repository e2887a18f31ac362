/- arena: Held. -/
import Derived.Test.YtfpogjgbmibmcaaAOps2
namespace Go.Proofs.Ytfpogjgbmibmcaa
open Go.RowKit

/-- The numbers of the held ones among the first i. -/
def heldN (ws : List Nat) (i : Nat) : List Int := ((List.range i).filter fun j => decide (ws.getD j 0 % 2 = 1)).map fun (j : Nat) => (j : Int) + 1
def heldL (ws : List Nat) : List Int := heldN ws ws.length
theorem heldN_succ (ws : List Nat) (i : Nat) : heldN ws (i + 1) = heldN ws i ++ if ws.getD i 0 % 2 = 1 then [(i : Int) + 1] else [] := by
  unfold heldN
  rw [List.range_succ, List.filter_append, List.map_append]
  congr 1
  by_cases h : ws.getD i 0 % 2 = 1
  · rw [if_pos h, List.filter_cons, if_pos (by exact decide_eq_true h)]; rfl
  · rw [if_neg h, List.filter_cons, if_neg (by simpa using h)]; rfl
theorem heldN_len (ws : List Nat) (i : Nat) : (heldN ws i).length ≤ i := by
  unfold heldN
  rw [List.length_map]
  exact Nat.le_trans (List.length_filter_le _ _) (by simp)
/-- A list of numbers of one's own. -/
def HeldPost (w : World) (xs : List Int) (e : Ending) (w' : World) : Prop :=
  ∃ v, e = .returned v ∧ w'.ownsRow w.heap.size 3 1 v xs.length (xs.map (Value.int .i64)) ∧ Below w.heap.size w w'

set_option maxRecDepth 100000 in
set_option maxHeartbeats 1600000 in
theorem held_any {w : World} {A : Nat} {M D : Nat → Prop} {nodes root : Int} {L : List Sl} (h : PA w A M D nodes root L) :
    Calls Try.prog 18 #[.pointer (some ⟨A, 0, none⟩)] w (HeldPost w (heldL (L.map (·.w)))) := by
  obtain ⟨i0, hi, hz0, hz1, hz2⟩ := info_parts infoI
  obtain ⟨g, c, c0, _, _, h4⟩ := h.cells
  have hn := h.n_le
  have HP : Hid (∀ W, Below w.heap.size w W → PA W A M D nodes root L) := fun W hb => h.below hb
  have H4 : Hid (∀ W, Below w.heap.size w W → ∀ i (hi : i < L.length), W.cell? ⟨g, i, none⟩ = some (.pointer (some ⟨L[i].b, 0, none⟩))) := fun W hb i hi => (hb.cell (p := ⟨g, i, none⟩) (World.block_lt_of_cell? w ⟨g, i, none⟩ (h4 i hi))).trans (h4 i hi)
  obtain ⟨ws, hws⟩ : ∃ ws, ws = L.map (·.w) := ⟨_, rfl⟩
  have HWS : Hid (∀ i (hi : i < L.length), ws.getD i 0 = L[i].w) := fun i hi => by rw [hws]; simp [hi]
  have HLW : Hid (ws.length = L.length) := by show _ = _; rw [hws]; simp
  rw [← hws]
  obtain ⟨n, hln⟩ : ∃ n, L.length = n := ⟨_, rfl⟩
  rw [hln] at c0 hn
  have HLN := hide hln
  have HF : Hid (heldL ws = heldN ws n) := by show _ = _; unfold heldL; rw [HLW.out, hln]
  rw [HF.out]
  clear h h4 hws hln
  go_enter Try.func18, Try.ntmps18
  go_wp2_with fail
  go_loopw [3, 11] (fun q3 q11 wr => ∃ i : Nat, i ≤ n ∧ q11 = .int .i64 (i : Int) ∧ ∃ k, Hid (wr.ownsRow w.heap.size 3 1 q3 k ((heldN ws i).map (Value.int .i64)) ∧ k = (heldN ws i).length ∧ Below w.heap.size w wr)) (fun _ q11 _ => n - (intOf q11).toNat)
  case atStart => exact ⟨0, Nat.zero_le _, rfl, 0, World.ownsRow_nil _ _ _ _, rfl, Below.refl _ _⟩
  case round =>
    obtain ⟨i, hin, rfl, k, HB⟩ := hrel
    rename World => wr
    by_cases hlt : i < n
    · have j1 : (i : Int) < (n : Int) := by omega
      have hiL : i < L.length := by rw [HLN.out]; exact hlt
      have P := HP.out wr HB.out.2.2
      have cp := H4.out wr HB.out.2.2 i hiL
      obtain ⟨w1, w2, w3⟩ := P.wcell i hiL
      have hE := heldN_succ ws i
      rw [HWS.out i hiL] at hE
      generalize L[i].b = b at *
      generalize L[i].w = x at *
      have HL := hide (lheld_any b x wr w1 w3)
      have HE := hide hE
      have hkl := heldN_len ws i
      rw [← HB.out.2.1] at hkl
      have hk6 : k ≤ 65536 := by omega
      clear P w1 w2 w3 hE hkl
      obtain ⟨hown, hkk, hB⟩ := HB.out
      have HOW := hide hown
      have HKK := hide hkk
      have HBB := hide hB
      clear HB hown hkk hB
      rcases Nat.mod_two_eq_zero_or_one x with ex | ex
      · rw [show decide (x % 2 = 1) = false by rw [ex]; rfl] at HL
        rw [if_neg (by omega)] at HE
        clear ex
        go_wp2_with fail
        refine keep HL.out ?_
        go_wp2_with fail
        go_roundw
        case rel => exact ⟨i + 1, by omega, by go_num, k, by rw [HE.out]; simpa using HOW.out, by rw [HE.out]; simpa using HKK.out, HBB.out⟩
        case measure => simp [intOf]; omega
      · rw [show decide (x % 2 = 1) = true by rw [ex]; rfl] at HL
        rw [if_pos ex] at HE
        clear ex
        have j3 : (1 : Int) + (i : Int) ≤ 65536 := by omega
        go_wp2_with fail
        refine keep HL.out ?_
        go_wp2_with (first
          | (at_builtin; refine append_own_any rfl (.tmp 20) (.tmp 23) 33 rfl w.heap.size 3 i0 (.int .i64 0) 1 8 Try.underlying33 hi hz0 hz1 hz2 rfl (by decide) _ k ((heldN ws i).map (Value.int .i64)) rfl (HOW.out.alloc _) (some ⟨wr.heap.size, 0, none⟩) 1 1 [.int .i64 (1 + (i : Int))] rfl rfl (by intro h; cases h) (fun ad had => by cases had; exact cell_one_new _ _ _) (by intro u hu; simp at hu; subst hu; rfl) (by unfold maxLen; omega) (by omega) (by have := HBB.out.size; simp; omega) ?_; intro v5 w5 hown5 hg5; have HO5 := hide hown5; have HG5 := hide hg5; clear hown5 hg5)
          | fail)
        go_roundw
        case rel =>
          refine ⟨i + 1, by omega, by go_num, k + 1, ?_, ?_, ?_⟩
          · rw [HE.out, List.map_append, show [((i : Int) + 1)].map (Value.int .i64) = [.int .i64 (1 + (i : Int))] by rw [Int.add_comm]; rfl]; exact HO5.out
          · rw [HE.out, List.length_append, ← HKK.out]; rfl
          · exact (HBB.out.alloc HBB.out.size _).grown HG5.out (by have := HBB.out.size; simp; omega) (fun b hb => (HOW.out.lt b hb).1)
        case measure => simp [intOf]; omega
    · have j1 : ¬ (i : Int) < (n : Int) := by omega
      obtain rfl : i = n := by omega
      go_wp2_with fail
      go_ret
      exact ⟨_, rfl, by rw [← HB.out.2.1]; exact HB.out.1, HB.out.2.2⟩

end Go.Proofs.Ytfpogjgbmibmcaa
