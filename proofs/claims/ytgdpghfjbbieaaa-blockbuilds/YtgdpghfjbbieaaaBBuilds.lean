/- BlockBuilds: the walk. -/
import Derived.Test.YtgdpghfjbbieaaaBLaw
import Derived.Test.YtgdpghfjbbieaaaBRBuild
import Derived.Test.YtgdpghfjbbieaaaCSpoil
import Derived.Test.YtgdpghfjbbieaaaPSame
namespace Go.Proofs.Ytgdpghfjbbieaaa
open Go.RowKit

set_option maxRecDepth 100000 in
set_option maxHeartbeats 3200000 in
theorem blockBuilds_any (a : Option Addr) (b o l c : Nat) (L : List Ent) (w : World) (hl : L.length = l) (hm : l * 48 ≤ 140737488351232) (ha : 0 < l → a = some ⟨b, o, none⟩) (hE : Ens w b o L) :
    Calls Try.prog 4 #[.slice a l c] w fun e w' => e = .returned (.bool true) ∧ Below w.heap.size w w' := by
  have HE := hide (fun (W : World) (h : Below w.heap.size w W) => hE.below h)
  have hbw : Hid (∀ W, Below w.heap.size w W → 0 < l → b < W.heap.size) := fun W h h0 => by have := hE.lt (by omega); have := h.size; omega
  have HOK := hide hE.ok
  have HA := hide ha
  clear hE ha
  go_enter Try.func4, Try.ntmps4
  go_wp2_with fail
  refine (lives_any _).mono ?_
  rintro e w1 ⟨rfl, t1⟩
  have T1 := hide t1
  clear t1
  go_wp2_with fail
  refine (copy_any a b o l c L w1 hl hm HA.out (HE.out w1 T1.out) (hbw.out w1 T1.out)).mono ?_
  rintro e w2 ⟨g, cap, C, rfl, C2, hcap, b2⟩
  have T2 := hide (T1.out.trans (b2.mono T1.out.size))
  have HC2 := hide C2
  have hCl : C.length = l := by rw [C2.len, hl]
  have hfC := hide C2.fL
  have hkC := hide C2.kvs
  clear C2 b2
  go_wp2_with fail
  refine (build_any (some ⟨g, 0, none⟩) g 0 l cap C w2 hCl (by omega) (fun _ => rfl) (HC2.out.ens HOK.out)).mono ?_
  rintro e w3 ⟨u3, n3, r3, rfl, hE3, hO3, b3⟩
  have E3 := hide (bldE_same (by rw [hCl, hl]) hfC.out hE3)
  rw [bldL_same hkC.out] at hO3
  obtain ⟨nz, hnz⟩ : ∃ nz, (bldL L r3).length = nz := ⟨_, rfl⟩
  obtain ⟨a3, c3, rfl, hn3, _⟩ := hO3.sliceN hnz
  have B3 := hide b3
  have O3 := hide hO3
  clear hE3 hO3 b3
  go_wp2_with fail
  refine (build_any (some ⟨g, 0, none⟩) g 0 l cap C w3 hCl (by omega) (fun _ => rfl) ((HC2.out.below B3.out).ens HOK.out)).mono ?_
  rintro e w4 ⟨u4, n4, r4, rfl, hE4, hO4, b4⟩
  obtain ⟨hnn, hrr⟩ := bldE.one E3.out (bldE_same (by rw [hCl, hl]) hfC.out hE4)
  subst hnn
  subst hrr
  rw [bldL_same hkC.out] at hO4
  obtain ⟨a4, c4, rfl, hn4, _⟩ := hO4.sliceN hnz
  have B4 := hide (B3.out.trans (b4.mono B3.out.size))
  have O34 := hide (O3.out.below b4)
  have O4 := hide hO4
  have z34 := b4.size
  have T4 := hide (T2.out.trans (B4.out.mono T2.out.size))
  clear hE4 hO4 b4
  go_wp2_with fail
  refine (rbuild_any a b o l c L w4 hl (by omega) HA.out (HE.out w4 T4.out)).mono ?_
  rintro e w5 ⟨a5, c5, n5, r5, rfl, hE5, hR5, hn5, hw5, b5⟩
  obtain ⟨hnn, hrr⟩ := bldE.one E3.out hE5
  subst hnn
  subst hrr
  rw [hnz] at hn5 ⊢
  have B5 := hide (B4.out.trans (b5.mono B4.out.size))
  have O35 := hide (O34.out.below b5)
  have O45 := hide (O4.out.below b5)
  have R5 := hide hR5
  have SM := hide (sameq a3 a5 nz c3 c5 (bldL L r3) w5 (by
    rcases O35.out with ⟨h1, h2⟩ | ⟨g, cap, cur, h1, h2, h3, h4, h5, _⟩
    · rw [h2] at hnz; simp at hnz; unfold maxLen; omega
    · omega) hnz O35.out.row R5.out)
  have k1 : Hid (∀ k, (Value.slice a3 nz c3).ownBlock = some k → w2.heap.size ≤ k ∧ k < w3.heap.size) := fun k hk => O3.out.owns.lt k hk
  have k2 : Hid (∀ k, (Value.slice a4 nz c4).ownBlock = some k → w3.heap.size ≤ k) := fun k hk => (O4.out.owns.lt k hk).1
  have HW5 : Hid (∀ x, a5 = some x → w3.heap.size ≤ x.block) := fun x hx => by have := hw5 x hx; omega
  clear hE5 hR5 b5 hw5 O34 O3 O4
  go_wp2_with fail
  refine SM.out.mono ?_
  rintro e w5' ⟨rfl, m, hw⟩
  have O35' : OwnB w5' w2.heap.size 5 (.slice a3 nz c3) (bldL L r3) := by rw [hw]; exact O35.out
  have O45' : OwnB w5' w3.heap.size 5 (.slice a4 nz c4) (bldL L r3) := by rw [hw]; exact O45.out
  have R5' : Row w5' .u8 a5 (bldL L r3) := by rw [hw]; exact R5.out
  have B5' : Below w2.heap.size w2 w5' := by rw [hw]; exact below_of_drewN B5.out m
  have O35x := hide O35'
  have O45x := hide O45'
  have R5x := hide R5'
  have B5x := hide B5'
  clear O35' O45' R5' B5' hw O35 O45 R5 B5 SM
  go_wp2_with fail
  refine (spoil_any O35x.out).mono ?_
  rintro e w6 ⟨rfl, g6⟩
  have u6 : Upd (fun i => (Value.slice a3 nz c3).ownBlock = some i) w5' w6 := Upd.of_grown g6 (fun k hk _ => hk)
  have B6 : Hid (Below w2.heap.size w2 w6) := B5x.out.trans (u6.below B5x.out.size (fun k hk e => by have := (k1.out k e).1; omega))
  have O46 := hide (O45x.out.upd u6 (fun k hk e => by have := k2.out k hk; have := (k1.out k e).2; omega))
  have R6 := hide (R5x.out.upd u6 (fun x hx _ e => by have := HW5.out x hx; have := (k1.out _ e).2; omega))
  have T6 := hide (T2.out.trans (B6.out.mono T2.out.size))
  clear g6 u6 O35x O45x R5x B5x
  go_wp2_with fail
  refine (rkept_yes a _ g cap b o l c C L w6 hl (by omega) hcap (HC2.out.below B6.out) HA.out (HE.out w6 T6.out) (hbw.out w6 T6.out)).mono ?_
  rintro e w7 ⟨rfl, b7⟩
  have O47 := hide (O46.out.below b7)
  have R7 := hide (R6.out.below2 b7)
  have T7 := hide (T6.out.trans (b7.mono T6.out.size))
  have SM := hide (sameq a4 a5 nz c4 c5 (bldL L r3) w7 (by
    rcases O47.out with ⟨h1, h2⟩ | ⟨g, cap, cur, h1, h2, h3, h4, h5, _⟩
    · rw [h2] at hnz; simp at hnz; unfold maxLen; omega
    · omega) hnz O47.out.row R7.out)
  clear b7 O46 R6
  go_wp2_with fail
  refine SM.out.mono ?_
  rintro e w8 ⟨rfl, m, hw⟩
  have T8 : Hid (Below w.heap.size w w8) := by rw [hw]; exact below_of_drewN T7.out m
  clear hw
  go_wp2_with fail
  go_ret
  exact ⟨rfl, T8.out⟩

end Go.Proofs.Ytgdpghfjbbieaaa
