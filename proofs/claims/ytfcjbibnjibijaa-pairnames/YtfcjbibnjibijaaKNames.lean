/- PairNames: the walk. -/
import Derived.Test.YtfcjbibnjibijaaKRead
import Derived.Test.YtfcjbibnjibijaaKCut
import Derived.Test.YtfcjbibnjibijaaKSame
import Derived.Test.YtfcjbibnjibijaaKLives
import Derived.Test.YtfcjbibnjibijaaPSame
namespace Go.Proofs.Ytfcjbibnjibijaa
open Go.RowKit

theorem rd_told (a b : Option Addr) (la ca lb cb : Nat) (xs zs : List Int) (w w0 : World) (K V : List Int) (pl : Nat) (er : Int) (h1 : xs.length = la) (h2 : zs.length = lb) (m1 : la ≤ 100) (m2 : lb ≤ 100) (hca : la ≤ ca) (hcb : lb ≤ cb) (r1 : Row w .u8 a xs) (r2 : Row w .u8 b zs) (x8 : B8 xs) (z8 : B8 zs) (nb : b = none → lb = 0 ∧ cb = 0)
    (hE : rEr xs zs 0 = er) (hP : rPl xs zs 0 = pl) (hK : rKy xs zs 0 = K) (hV : rVl xs zs 0 = V) (hw : Below w0.heap.size w0 w) :
    Calls Try.prog 11 #[.slice a la ca, .slice b lb cb, .int .i64 0] w fun e w' => ∃ ka kc va vc, e = .returned (.tuple #[.agg #[.slice ka K.length kc, .slice va V.length vc], .int .i64 (pl : Int), .int .i64 er]) ∧ Row w' .u8 ka K ∧ Row w' .u8 va V ∧ Below w0.heap.size w0 w' := by
  have h := read_in a b la ca lb cb 0 xs zs w h1 h2 (by omega) (by omega) hca hcb (Nat.zero_le _) r1 r2 x8 z8 nb
  rw [hE, hP, hK, hV] at h
  refine h.mono ?_
  rintro e w' ⟨ka, kc, va, vc, M, rfl, ok, ov, _, _, _, hb⟩
  exact ⟨ka, kc, va, vc, rfl, ok.row, ov.row, hw.trans (hb.mono hw.size)⟩
theorem row_second {w : World} {zs : List Int} {o : Obj} {cs : Array Value} {T : TypeId} {fr : Nat × Nat} (h : cs = (zs.map (Value.int .u8)).toArray) : Row ((w.alloc o).alloc (.cells cs T fr)) .u8 (some ⟨w.heap.size + 1, 0, none⟩) zs := by
  have := row_lit (w.alloc o) zs cs T fr h
  rwa [World.size_alloc] at this

theorem row_third {w : World} {zs : List Int} {o o2 : Obj} {cs : Array Value} {T : TypeId} {fr : Nat × Nat} (h : cs = (zs.map (Value.int .u8)).toArray) : Row (((w.alloc o).alloc o2).alloc (.cells cs T fr)) .u8 (some ⟨w.heap.size + 1 + 1, 0, none⟩) zs := by
  have := row_lit ((w.alloc o).alloc o2) zs cs T fr h
  rwa [World.size_alloc, World.size_alloc] at this
theorem bel1 (w : World) (o : Obj) : Below w.heap.size w (w.alloc o) := (Below.refl _ _).alloc (Nat.le_refl _) _
theorem bel2 (w : World) (o o2 : Obj) : Below w.heap.size w ((w.alloc o).alloc o2) := (bel1 w o).alloc (by simp) _
theorem bel3 (w : World) (o o2 o3 : Obj) : Below w.heap.size w (((w.alloc o).alloc o2).alloc o3) := (bel2 w o o2).alloc (by simp; omega) _

/-- What stands while the names are told. -/
structure NB (w W : World) (ab : Option Addr) (n1 : Nat) : Prop where
  t : Below w.heap.size w W
  rb : Row W .u8 ab [2, 1, 2, 120, 49, 50]
  ek : Row W .u8 (some ⟨n1, 0, none⟩) [97, 98, 120]
  ev : Row W .u8 (some ⟨n1 + 1, 0, none⟩) [49, 50]
  e2 : E2 W (n1 + 1 + 1) (.slice (some ⟨n1, 0, none⟩) 3 3) (.slice (some ⟨n1 + 1, 0, none⟩) 2 2)
theorem NB.below {w W W' : World} {ab : Option Addr} {n1 : Nat} (h : NB w W ab n1) (hb : Below W.heap.size W W') : NB w W' ab n1 :=
  ⟨h.t.trans (hb.mono h.t.size), h.rb.below2 hb, h.ek.below2 hb, h.ev.below2 hb, h.e2.below hb⟩
theorem NB.alloc {w W : World} {ab : Option Addr} {n1 : Nat} (h : NB w W ab n1) (o : Obj) : NB w (W.alloc o) ab n1 := h.below ((Below.refl _ _).alloc (Nat.le_refl _) _)
structure NX (W : World) (gx : Nat) (kx vx : Option Addr) (kc vc : Nat) : Prop where
  k : Row W .u8 kx [97, 98, 120]
  v : Row W .u8 vx [49, 50]
  e2 : E2 W gx (.slice kx 3 kc) (.slice vx 2 vc)
theorem NX.below {W W' : World} {gx : Nat} {kx vx : Option Addr} {kc vc : Nat} (h : NX W gx kx vx kc vc) (hb : Below W.heap.size W W') : NX W' gx kx vx kc vc := ⟨h.k.below2 hb, h.v.below2 hb, h.e2.below hb⟩
theorem NX.alloc {W : World} {gx : Nat} {kx vx : Option Addr} {kc vc : Nat} (h : NX W gx kx vx kc vc) (o : Obj) : NX (W.alloc o) gx kx vx kc vc := h.below ((Below.refl _ _).alloc (Nat.le_refl _) _)

theorem nm_enc1 : encE [97, 98, 99] [97, 98, 120] [49, 50] = [2, 1, 2, 120, 49, 50] := by decide +kernel

set_option maxRecDepth 100000 in
set_option maxHeartbeats 6400000 in
theorem pairNames_any (w : World) : Calls Try.prog 3 #[] w fun e w' => e = .returned (.bool true) ∧ Below w.heap.size w w' := by
  have kc := fun (w : World) (C : Array Value) (n c : Nat) => Lib.run_convert_bytes_const (P := Try.prog) w 23 5 C n c Try.underlying23 Try.underlying5
  have kc1 := conv1
  have kc2 := conv2
  have kc3 := conv3
  have BY : Hid (∀ w1 : World, Below w.heap.size w w1 → Calls Try.prog 10 #[.slice (some ⟨w1.heap.size + 1 + 1 + 1, 0, none⟩) 3 3, .agg #[.slice (some ⟨w1.heap.size, 0, none⟩) 3 3, .slice (some ⟨w1.heap.size + 1, 0, none⟩) 2 2]] ((((w1.alloc (.cells #[.int .u8 97, .int .u8 98, .int .u8 120] 5 (3, 4))).alloc (.cells #[.int .u8 49, .int .u8 50] 5 (2, 3))).alloc (.cells #[.slice (some ⟨w1.heap.size, 0, none⟩) 3 3, .slice (some ⟨w1.heap.size + 1, 0, none⟩) 2 2] 25)).alloc (.cells #[.int .u8 97, .int .u8 98, .int .u8 99] 5 (3, 4)))
      fun e w' => ∃ ab cb, e = .returned (.slice ab 6 cb) ∧ NB w w' ab w1.heap.size ∧ (ab = none → 6 = 0 ∧ cb = 0) ∧ 6 ≤ cb) := fun w1 t1 => by
    have q1 : Row ((((w1.alloc (.cells #[.int .u8 97, .int .u8 98, .int .u8 120] 5 (3, 4))).alloc (.cells #[.int .u8 49, .int .u8 50] 5 (2, 3))).alloc (.cells #[.slice (some ⟨w1.heap.size, 0, none⟩) 3 3, .slice (some ⟨w1.heap.size + 1, 0, none⟩) 2 2] 25)).alloc (.cells #[.int .u8 97, .int .u8 98, .int .u8 99] 5 (3, 4))) .u8 (some ⟨w1.heap.size, 0, none⟩) [97, 98, 120] := (((row_lit w1 [97, 98, 120] _ _ _ rfl).alloc _).alloc _).alloc _
    have q2 : Row ((((w1.alloc (.cells #[.int .u8 97, .int .u8 98, .int .u8 120] 5 (3, 4))).alloc (.cells #[.int .u8 49, .int .u8 50] 5 (2, 3))).alloc (.cells #[.slice (some ⟨w1.heap.size, 0, none⟩) 3 3, .slice (some ⟨w1.heap.size + 1, 0, none⟩) 2 2] 25)).alloc (.cells #[.int .u8 97, .int .u8 98, .int .u8 99] 5 (3, 4))) .u8 (some ⟨w1.heap.size + 1, 0, none⟩) [49, 50] := ((row_second rfl).alloc _).alloc _
    have q3 : Row ((((w1.alloc (.cells #[.int .u8 97, .int .u8 98, .int .u8 120] 5 (3, 4))).alloc (.cells #[.int .u8 49, .int .u8 50] 5 (2, 3))).alloc (.cells #[.slice (some ⟨w1.heap.size, 0, none⟩) 3 3, .slice (some ⟨w1.heap.size + 1, 0, none⟩) 2 2] 25)).alloc (.cells #[.int .u8 97, .int .u8 98, .int .u8 99] 5 (3, 4))) .u8 (some ⟨w1.heap.size + 1 + 1 + 1, 0, none⟩) [97, 98, 99] := by
      have := row_lit (((w1.alloc (.cells #[.int .u8 97, .int .u8 98, .int .u8 120] 5 (3, 4))).alloc (.cells #[.int .u8 49, .int .u8 50] 5 (2, 3))).alloc (.cells #[.slice (some ⟨w1.heap.size, 0, none⟩) 3 3, .slice (some ⟨w1.heap.size + 1, 0, none⟩) 2 2] 25)) [97, 98, 99] #[.int .u8 97, .int .u8 98, .int .u8 99] 5 (3, 4) rfl
      rwa [World.size_alloc, World.size_alloc, World.size_alloc] at this
    have q4 : E2 ((((w1.alloc (.cells #[.int .u8 97, .int .u8 98, .int .u8 120] 5 (3, 4))).alloc (.cells #[.int .u8 49, .int .u8 50] 5 (2, 3))).alloc (.cells #[.slice (some ⟨w1.heap.size, 0, none⟩) 3 3, .slice (some ⟨w1.heap.size + 1, 0, none⟩) 2 2] 25)).alloc (.cells #[.int .u8 97, .int .u8 98, .int .u8 99] 5 (3, 4))) (w1.heap.size + 1 + 1) (.slice (some ⟨w1.heap.size, 0, none⟩) 3 3) (.slice (some ⟨w1.heap.size + 1, 0, none⟩) 2 2) := by
      have := heap_alloc_new ((w1.alloc (.cells #[.int .u8 97, .int .u8 98, .int .u8 120] 5 (3, 4))).alloc (.cells #[.int .u8 49, .int .u8 50] 5 (2, 3))) (.cells #[.slice (some ⟨w1.heap.size, 0, none⟩) 3 3, .slice (some ⟨w1.heap.size + 1, 0, none⟩) 2 2] 25)
      rw [World.size_alloc, World.size_alloc] at this
      exact (Below.heap_alloc _ _ _ (by simp)).trans this
    have t4 : Below w.heap.size w ((((w1.alloc (.cells #[.int .u8 97, .int .u8 98, .int .u8 120] 5 (3, 4))).alloc (.cells #[.int .u8 49, .int .u8 50] 5 (2, 3))).alloc (.cells #[.slice (some ⟨w1.heap.size, 0, none⟩) 3 3, .slice (some ⟨w1.heap.size + 1, 0, none⟩) 2 2] 25)).alloc (.cells #[.int .u8 97, .int .u8 98, .int .u8 99] 5 (3, 4))) := by
      have := t1.size
      exact (((t1.alloc this _).alloc (by simp; omega) _).alloc (by simp; omega) _).alloc (by simp; omega) _
    refine (bytes_any _ _ _ 3 3 3 3 2 2 [97, 98, 99] [97, 98, 120] [49, 50] _ rfl rfl rfl (by omega) (by omega) (by omega) (by omega) (fun h => by cases h) (fun h => by cases h) q3 q1 q2).mono ?_
    rintro e w2 ⟨u, rfl, ho, hb⟩
    rw [nm_enc1] at ho
    obtain ⟨ab, cb, rfl, hn, hc, _⟩ := ho.sliceN (n := 6) rfl
    exact ⟨ab, cb, rfl, ⟨t4.trans (hb.mono t4.size), ho.row, q1.below2 hb, q2.below2 hb, q4.below hb⟩, hn, hc⟩
  go_enter Try.func3, Try.ntmps3
  go_wp2_with fail
  refine (lives_any _).mono ?_
  rintro e w1 ⟨rfl, t1⟩
  go_wp2_with fail
  refine (BY.out w1 t1).mono ?_
  rintro e w2 ⟨ab, cb, rfl, nb2, hn, hc⟩
  generalize w1.heap.size = n1 at *
  have N2 := hide nb2
  clear t1 nb2 BY
  have R1 := hide (rd_told (some ⟨w2.heap.size, 0, none⟩) ab 2 2 6 cb [97, 98] [2, 1, 2, 120, 49, 50] (w2.alloc (.cells #[.int .u8 97, .int .u8 98] 5 (2, 3))) w2 [97, 98, 120] [49, 50] 6 0 rfl rfl (by omega) (by omega) (by omega) hc (row_lit w2 [97, 98] _ _ _ rfl) (N2.out.rb.alloc _) (b8_lit rfl) (b8_lit rfl) hn (by decide +kernel) (by decide +kernel) (by decide +kernel) (by decide +kernel) ((Below.refl _ _).alloc (Nat.le_refl _) _))
  go_wp2_with fail
  refine R1.out.mono ?_
  rintro e w3 ⟨kx, kcx, vx, vcx, rfl, hkx, hvx, b3⟩
  have N3 := hide ((N2.out.below b3).alloc (.cells #[.slice kx 3 kcx, .slice vx 2 vcx] 25))
  have X3 : Hid (NX (w3.alloc (.cells #[.slice kx 3 kcx, .slice vx 2 vcx] 25)) w3.heap.size kx vx kcx vcx) := ⟨hkx.alloc _, hvx.alloc _, heap_alloc_new w3 _⟩
  clear hkx hvx b3 R1 N2
  have R2 := hide (rd_told (some ⟨w3.heap.size + 1, 0, none⟩) ab 3 3 6 cb [97, 98, 120] [2, 1, 2, 120, 49, 50] ((w3.alloc (.cells #[.slice kx 3 kcx, .slice vx 2 vcx] 25)).alloc (.cells #[.int .u8 97, .int .u8 98, .int .u8 120] 5 (3, 4))) (w3.alloc (.cells #[.slice kx 3 kcx, .slice vx 2 vcx] 25)) [] [] 0 52 rfl rfl (by omega) (by omega) (by omega) hc (row_second rfl) (N3.out.rb.alloc _) (b8_lit rfl) (b8_lit rfl) hn (by decide +kernel) (by decide +kernel) (by decide +kernel) (by decide +kernel) ((Below.refl _ _).alloc (Nat.le_refl _) _))
  go_wp2_with fail
  refine R2.out.mono ?_
  rintro e w4 ⟨k4, kc4, v4, vc4, rfl, _, _, b4⟩
  have N4 := hide (N3.out.below b4)
  have X4 := hide (X3.out.below b4)
  generalize w3.heap.size = gx at *
  clear b4 R2 N3 X3
  have R3 := hide (rd_told (some ⟨w4.heap.size + 1, 0, none⟩) (some ⟨w4.heap.size + 1 + 1, 0, none⟩) 1 1 4 4 [98] [0, 1, 0, 97] (((w4.alloc (.cells #[.slice k4 0 kc4, .slice v4 0 vc4] 25)).alloc (.cells #[.int .u8 98] 5 (1, 2))).alloc (.cells #[.int .u8 0, .int .u8 1, .int .u8 0, .int .u8 97] 5)) w4 [] [] 0 51 rfl rfl (by omega) (by omega) (by omega) (by omega) ((row_second rfl).alloc _) (row_third rfl) (b8_lit rfl) (b8_lit rfl) (fun h => by cases h) (by decide +kernel) (by decide +kernel) (by decide +kernel) (by decide +kernel) (bel3 _ _ _ _))
  go_wp2_with fail
  refine R3.out.mono ?_
  rintro e w5 ⟨k5, kc5, v5, vc5, rfl, _, _, b5⟩
  have N5 := hide (N4.out.below b5)
  have X5 := hide (X4.out.below b5)
  clear b5 R3 N4 X4
  have R4 := hide (rd_told none (some ⟨w5.heap.size + 1, 0, none⟩) 0 0 4 4 [] [0, 1, 5, 97] ((w5.alloc (.cells #[.slice k5 0 kc5, .slice v5 0 vc5] 25)).alloc (.cells #[.int .u8 0, .int .u8 1, .int .u8 5, .int .u8 97] 5)) w5 [] [] 4 53 rfl rfl (by omega) (by omega) (by omega) (by omega) (row_nil _ _ _) (row_second rfl) (b8_lit rfl) (b8_lit rfl) (fun h => by cases h) (by decide +kernel) (by decide +kernel) (by decide +kernel) (by decide +kernel) (bel2 _ _ _))
  go_wp2_with fail
  refine R4.out.mono ?_
  rintro e w6 ⟨k6, kc6, v6, vc6, rfl, _, _, b6⟩
  have N6 := hide (N5.out.below b6)
  have X6 := hide (X5.out.below b6)
  clear b6 R4 N5 X5
  have R5 := hide (rd_told none (some ⟨w6.heap.size + 1, 0, none⟩) 0 0 3 3 [] [0, 0, 0] ((w6.alloc (.cells #[.slice k6 0 kc6, .slice v6 0 vc6] 25)).alloc (.cells #[.int .u8 0, .int .u8 0, .int .u8 0] 5)) w6 [] [] 0 3 rfl rfl (by omega) (by omega) (by omega) (by omega) (row_nil _ _ _) (row_second rfl) (b8_lit rfl) (b8_lit rfl) (fun h => by cases h) (by decide +kernel) (by decide +kernel) (by decide +kernel) (by decide +kernel) (bel2 _ _ _))
  go_wp2_with fail
  refine R5.out.mono ?_
  rintro e w7 ⟨k7, kc7, v7, vc7, rfl, _, _, b7⟩
  have N7 := hide (N6.out.below b7)
  have X7 := hide (X6.out.below b7)
  clear b7 R5 N6 X6
  go_wp2_with fail
  have KN := hide (key_any none 0 0 (w7.alloc (.cells #[.slice k7 0 kc7, .slice v7 0 vc7] 25)))
  rw [show keyE 0 = 3 from by decide] at KN
  refine keep KN.out ?_
  have B1 := hide (between_any (some ⟨w7.heap.size + 1, 0, none⟩) (some ⟨w7.heap.size + 1 + 1, 0, none⟩) 3 3 3 3 [97, 98, 99] [97, 98, 120] (((w7.alloc (.cells #[.slice k7 0 kc7, .slice v7 0 vc7] 25)).alloc (.cells #[.int .u8 97, .int .u8 98, .int .u8 99] 5 (3, 4))).alloc (.cells #[.int .u8 97, .int .u8 98, .int .u8 120] 5 (3, 4))) (by omega) (by omega) (by omega) rfl rfl ((row_second rfl).alloc _) (row_third rfl) (b8_lit rfl) (b8_lit rfl))
  rw [show btE [97, 98, 99] [97, 98, 120] = 0 from by decide, show btL [97, 98, 99] [97, 98, 120] = [97, 98, 120] from by decide] at B1
  go_wp2_with fail
  refine B1.out.mono ?_
  rintro e w8 ⟨v8, rfl, o8, b8⟩
  obtain ⟨a8, c8, rfl, _, _, _⟩ := o8.sliceN (n := 3) rfl
  have bb8 : Below w7.heap.size w7 w8 := (bel3 _ _ _ _).trans (b8.mono (by simp; omega))
  have N8 := hide (N7.out.below bb8)
  have X8 := hide (X7.out.below bb8)
  have M8 : Hid (Row w8 .u8 a8 [97, 98, 120]) := o8.row
  clear b8 bb8 o8 B1 N7 X7 KN
  have B2 := hide (between_any (some ⟨w8.heap.size, 0, none⟩) (some ⟨w8.heap.size + 1, 0, none⟩) 1 1 1 1 [98] [97] ((w8.alloc (.cells #[.int .u8 98] 5 (1, 2))).alloc (.cells #[.int .u8 97] 5 (1, 2))) (by omega) (by omega) (by omega) rfl rfl ((row_lit w8 [98] _ _ _ rfl).alloc _) (row_second rfl) (b8_lit rfl) (b8_lit rfl))
  rw [show btE [98] [97] = 51 from by decide, show btL [98] [97] = [] from by decide] at B2
  go_wp2_with fail
  refine B2.out.mono ?_
  rintro e w9 ⟨v9, rfl, o9, b9⟩
  obtain ⟨a9, c9, rfl, _, _, _⟩ := o9.sliceN (n := 0) rfl
  have bb9 : Below w8.heap.size w8 w9 := (bel2 _ _ _).trans (b9.mono (by simp; omega))
  have N9 := hide (N8.out.below bb9)
  have X9 := hide (X8.out.below bb9)
  have M9 := hide (M8.out.below2 bb9)
  clear b9 bb9 o9 B2 N8 X8 M8
  have S1 := hide (sameq ab (some ⟨w9.heap.size, 0, none⟩) 6 cb 6 [2, 1, 2, 120, 49, 50] (w9.alloc (.cells #[.int .u8 2, .int .u8 1, .int .u8 2, .int .u8 120, .int .u8 49, .int .u8 50] 5)) (by decide) rfl (N9.out.rb.alloc _) (row_lit w9 _ _ _ _ rfl))
  go_wp2_with fail
  refine S1.out.mono ?_
  rintro e wA ⟨rfl, mA, hwA⟩
  have bA : Below w9.heap.size w9 wA := by rw [hwA]; exact drewK (bel1 _ _) mA
  have NA := hide (N9.out.below bA)
  have XA := hide (X9.out.below bA)
  have MA := hide (M9.out.below2 bA)
  clear hwA bA S1 N9 X9 M9
  have S2 := hide (sameq a8 (some ⟨wA.heap.size, 0, none⟩) 3 c8 3 [97, 98, 120] (wA.alloc (.cells #[.int .u8 97, .int .u8 98, .int .u8 120] 5 (3, 4))) (by decide) rfl (MA.out.alloc _) (row_lit wA _ _ _ _ rfl))
  go_wp2_with fail
  refine S2.out.mono ?_
  rintro e wB ⟨rfl, mB, hwB⟩
  have bB : Below wA.heap.size wA wB := by rw [hwB]; exact drewK (bel1 _ _) mB
  have NB' := NA.out.below bB
  have XB := XA.out.below bB
  obtain ⟨x0, x1⟩ := XB.e2.cells
  obtain ⟨y0, y1⟩ := NB'.e2.cells
  have SMQ := hide (rsame_eq kx (some ⟨n1, 0, none⟩) vx (some ⟨n1 + 1, 0, none⟩) 3 kcx 3 2 vcx 2 [97, 98, 120] [49, 50] wB rfl rfl XB.k NB'.ek XB.v NB'.ev)
  have tB := NB'.t
  clear hwB bB S2 NA XA MA NB' XB
  go_wp2_with fail
  refine SMQ.out.mono ?_
  rintro e wC ⟨rfl, bC⟩
  go_wp2_with fail
  go_ret
  exact ⟨rfl, tB.trans (bC.mono tB.size)⟩

end Go.Proofs.Ytfcjbibnjibijaa
