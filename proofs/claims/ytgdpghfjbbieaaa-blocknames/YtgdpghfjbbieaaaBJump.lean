/- block: jump. -/
import Derived.Test.YtgdpghfjbbieaaaBFindP
import Derived.Test.YtgdpghfjbbieaaaBRead4
namespace Go.Proofs.Ytgdpghfjbbieaaa
open Go.RowKit

theorem b8_at {zs : List Int} (h : B8 zs) (i : Nat) : 0 ≤ zs.getD i 0 ∧ zs.getD i 0 < 256 := by
  by_cases hi : i < zs.length
  · have := h (zs[i]) (List.getElem_mem hi)
    rw [show zs.getD i 0 = zs[i] by simp [List.getD, List.getElem?_eq_getElem hi]]
    omega
  · rw [show zs.getD i 0 = 0 by simp [List.getD, List.getElem?_eq_none (show zs.length ≤ i by omega)]]
    omega

set_option maxRecDepth 100000 in
set_option maxHeartbeats 1600000 in
theorem jump_any {W : World} {B g : Nat} {a : Option Addr} {l c p n num : Nat} {ls zs : List Int} {va : Value} (h : WkR W B g a l c p n num ls va) (i T : Nat) (hl : zs.length = l) (hm : l ≤ 140737488351232) (hT : T + i * 2 + 1 < l) (hi : i ≤ 1000) (hr : Row W .u8 a zs) (z8 : B8 zs) :
    Calls Try.prog 71 #[.pointer (some ⟨g, 0, none⟩), .int .i64 (i : Int), .int .i64 (T : Int)] W fun e w' => e = .returned (.tuple #[]) ∧ WkR w' B g a l c (plc zs T i) n (i * 8) [] (.slice none 0 0) ∧ Upd (fun k => k = g) W w' := by
  obtain ⟨b, o, rfl, hb, hc⟩ := hr.cons (by omega)
  have c0 := h.cells.1
  have c1 := h.cells.2.1
  have c3 := h.cells.2.2.2.1
  have c4 := h.cells.2.2.2.2.1
  have hf := h.cells.2.2.2.2.2
  have d0 := hc (T + i * 2) (by omega)
  have d1 := hc (T + i * 2 + 1) (by omega)
  have q0 := b8_at z8 (T + i * 2)
  have q1 := b8_at z8 (T + i * 2 + 1)
  have HPL : Hid (plc zs T i = (zs.getD (T + i * 2) 0).toNat + (zs.getD (T + i * 2 + 1) 0).toNat * 256) := rfl
  generalize zs.getD (T + i * 2) 0 = x at *
  generalize zs.getD (T + i * 2 + 1) 0 = y at *
  generalize plc zs T i = pl at *
  obtain ⟨x, rfl⟩ : ∃ k : Nat, x = (k : Int) := ⟨x.toNat, by omega⟩
  obtain ⟨y, rfl⟩ : ∃ k : Nat, y = (k : Int) := ⟨y.toNat, by omega⟩
  have hpl : pl = x + y * 256 := by rw [HPL.out]; simp
  obtain ⟨t, ht⟩ : ∃ t, t = T + i * 2 := ⟨_, rfl⟩
  rw [← ht] at d0 d1 hT
  have e2 : Hid ((T : Int) + (i : Int) * 2 = (t : Int)) := by show _ = _; omega
  have i1 : (0 : Int) ≤ ((t : Nat) : Int) := by omega
  have i2 : ((t : Nat) : Int) < (l : Int) := by omega
  have i3 : (0 : Int) ≤ (t : Int) + 1 := by omega
  have i4 : (t : Int) + 1 < (l : Int) := by omega
  have H := hide h
  clear h hr hc hb ht z8 HPL
  go_enter Try.func71, Try.ntmps71
  go_upto_region 1 with fail
  rw [e2.out, show wrap64 (t : Int) = (t : Int) from by unfold wrap64; omega]
  clear e2
  go_region
  go_wp2_with fail
  have hcast : ((x : Int) + (y : Int) * 256) = ((pl : Nat) : Int) := by omega
  have hcast2 : ((i : Int) * 8) = ((i * 8 : Nat) : Int) := by omega
  rw [hcast, hcast2]
  go_end0
  exact ⟨rfl, ⟨block_setCell (block_setCell (block_setCell H.out.blk 1 _) 3 _) 4 _, World.ownsRow_nil _ _ _ _, (fun k hk => by cases hk), H.out.gB⟩, ((((set_upd _ g 1 _).trans (set_upd _ g 3 _)).trans (set_upd _ g 4 _))).drew⟩

end Go.Proofs.Ytgdpghfjbbieaaa
