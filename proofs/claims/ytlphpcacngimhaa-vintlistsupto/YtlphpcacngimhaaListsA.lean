/- VintLists: its last part, behind the last range. -/
import Derived.Test.YtlphpcacngimhaaRList
namespace Go.Proofs.Ytlphpcacngimhaa
open Go.RowKit Go.Shelf
attribute [local go_sem] Oper.semAt_some

/-- The parts of a body that follow one another. -/
def laterOf : Code → Code
  | .seq _ y => y
  | c => c
def partOf : Nat → Code → Code
  | 0, c => c
  | k + 1, c => partOf k (laterOf c)

/-- What the whole is to achieve. -/
def ListsEnd (n : Nat) (w : World) : Exit → Act → World → Prop := bodyPostM Fence.wide n Try.prog Try.f6 (fun e w' => e = .returned (.bool true) ∧ Below w.heap.size w w')

theorem lists_leave (n : Nat) (w W : World) (tmps : Array Value) (ds : List Deferred) (h4 : tmps[4]? = some (.pointer (some ⟨w.heap.size + 1 + 1, 0, none⟩))) (hb : Below w.heap.size w W) (hm : Marks w.heap.size ds W)
    (b : Boxed W (w.heap.size + 1 + 1) 4 (.bool true)) : ListsEnd n w .ret { tmps := tmps, defers := ds } W := by
  refine hm.leave (fun W' hb' hbx => ?_)
  have c := (hbx _ _ _ b).cell
  exact ⟨.bool true, by simp [results, Try.results6, go_sem, c, h4], rfl, hb.trans hb'⟩

set_option maxRecDepth 100000 in
set_option maxHeartbeats 1000000 in
theorem lists_last (n : Nat) (h1 : 1 ≤ n) (a : Option Addr) (len cap : Nat) (zs : List Int) (most : Int) (w W : World) (g : Nat) (f : Nat → Value) (ds : List Deferred) (B27 B28 B29 B30 F In N q : Nat)
    (hl : zs.length = len) (hm : len ≤ 1048576) (h8 : ∀ c ∈ zs, 0 ≤ c ∧ c ≤ 255) (hr : Row w .u8 a zs) (hbel : Below w.heap.size w W) (hL : Lent W g zs) (hmk : Marks w.heap.size ds W)
    (b0 : Boxed W w.heap.size 23 (.slice a len cap)) (b1 : Boxed W (w.heap.size + 1) 3 (.int .i64 most)) (b2 : Boxed W (w.heap.size + 1 + 1) 4 (.bool false))
    (b27 : Boxed W B27 3 (.int .i64 (F : Int))) (b28 : Boxed W B28 3 (.int .i64 (In : Int))) (b29 : Boxed W B29 3 (.int .i64 (N : Int))) (b30 : Boxed W B30 3 (.int .i64 (q : Int)))
    (hq : rdErr zs (q : Int) ≠ 0) (hF : (0 ≤ most ∧ most < (N : Int) ∧ (F : Int) = most) ∨ (¬ (0 ≤ most ∧ most < (N : Int)) ∧ F = N)) (hI : F = 0 ∨ In = N) :
    (partOf 20 (Try.f6.body.getD .skip)).wpIn Fence.wide n Try.prog (ListsEnd n w) { tmps := #[f 0, f 1, .pointer (some ⟨w.heap.size, 0, none⟩), .pointer (some ⟨w.heap.size + 1, 0, none⟩), .pointer (some ⟨w.heap.size + 1 + 1, 0, none⟩), f 5, .slice (some ⟨g, 0, none⟩) len (len + 2), f 7, f 8, f 9, f 10, f 11, f 12, f 13, f 14, f 15, f 16, f 17, f 18, f 19, f 20, f 21, f 22, f 23, f 24, f 25, f 26, .pointer (some ⟨B27, 0, none⟩), .pointer (some ⟨B28, 0, none⟩), .pointer (some ⟨B29, 0, none⟩), .pointer (some ⟨B30, 0, none⟩), f 31, f 32, f 33, f 34, f 35, f 36, f 37, f 38, f 39, f 40, f 41, f 42, f 43, f 44, f 45, f 46, f 47, f 48, f 49, f 50, f 51, f 52, f 53, f 54, f 55, f 56, f 57, f 58, f 59, f 60, f 61, f 62, f 63, f 64, f 65, f 66, f 67, f 68, f 69, f 70, f 71, f 72, f 73, f 74, f 75, f 76, f 77, f 78, f 79, f 80, f 81, f 82, f 83, f 84, f 85, f 86, f 87, f 88, f 89, f 90, f 91, f 92, f 93, f 94, f 95, f 96, f 97, f 98, f 99, f 100, f 101, f 102, f 103, f 104, f 105, f 106, f 107, f 108, f 109, f 110, f 111, f 112, f 113, f 114, f 115, f 116, f 117, f 118, f 119, f 120, f 121, f 122, f 123, f 124, f 125, f 126, f 127, f 128, f 129, f 130, f 131, f 132, f 133, f 134, f 135, f 136, f 137, f 138, f 139, f 140, f 141, f 142, f 143, f 144, f 145, f 146, f 147, f 148, f 149, f 150, f 151, f 152, f 153, f 154, f 155, f 156, f 157, f 158, f 159, f 160, f 161, f 162, f 163, f 164, f 165, f 166, f 167, f 168, f 169, f 170, f 171, f 172, f 173, f 174, f 175, f 176, f 177, f 178, f 179, f 180, f 181, f 182, f 183, f 184, f 185, f 186, f 187, f 188, f 189, f 190, f 191, f 192, f 193, f 194, f 195, f 196, f 197, f 198, f 199, f 200, f 201, f 202, f 203, f 204, f 205, f 206, f 207, f 208, f 209, f 210, f 211, f 212, f 213, f 214, f 215, f 216, f 217, f 218, f 219, f 220, f 221, f 222, f 223, f 224, f 225, f 226, f 227, f 228, f 229, f 230, f 231, f 232, f 233, f 234, f 235, f 236], defers := ds } W := by
  have c0 := b0.cell
  have c1 := b1.cell
  have c2 := b2.cell
  have f2 := b2.frozen
  have c27 := b27.cell
  have c28 := b28.cell
  have c29 := b29.cell
  have c30 := b30.cell
  have hRow := hr.below2 hbel
  have HRD := hide ((callsIn_wide (n := n - 1)).2 (rread_any a len cap (q : Int) zs W hl (by unfold maxLen; omega) hRow (fits8_of_mem h8)))
  have HKP := hide ((callsIn_wide (n := n - 1)).2 (kept_any g a len cap zs W hl (by omega) hL hRow))
  have hq' : (rdErr zs (q : Int) != 0) = true := by simpa using hq
  have HMK := hide hmk
  have HBL := hide hbel
  have fin : ∀ (tm : Array Value) (W' : World), Still W W' → (Try.f6.results = #[.cell 4 4]) → True := fun _ _ _ _ => trivial
  generalize rdErr zs (q : Int) = er at *
  generalize rdEnd zs (q : Int) = en at *
  generalize rdNum zs (q : Int) = nu at *
  clear hq hRow hr hL hmk hbel fin b0 b1 b27 b28 b29 b30
  conv => arg 4; whnf
  gi_wp2
  refine ⟨trivial, HRD.out.mono ?_⟩
  rintro e w1 ⟨rfl, hw1⟩
  have hw1' := hw1.symm
  subst hw1'
  gi_wp2
  refine ⟨trivial, HKP.out.mono ?_⟩
  rintro e w2 ⟨rfl, hst⟩
  have d1 := (hst.cell _).trans c1
  have d2 := (hst.cell _).trans c2
  have d27 := (hst.cell _).trans c27
  have d28 := (hst.cell _).trans c28
  have d29 := (hst.cell _).trans c29
  have b2' := boxed_still b2 hst
  have g2 := b2'.frozen
  have HB2 : Hid (Below w.heap.size w (w2.setCell ⟨w.heap.size + 1 + 1, 0, none⟩ (.bool true))) := (HBL.out.trans (hst.below _)).setCell (p := ⟨w.heap.size + 1 + 1, 0, none⟩) (by simp; omega) _
  have HM2 : Hid (Marks w.heap.size ds (w2.setCell ⟨w.heap.size + 1 + 1, 0, none⟩ (.bool true))) := by
    have h2 : Marks w.heap.size ds w2 := HMK.out.kept (fun D _ h => by rw [hst.heap]; exact h)
    exact h2.kx ((Kx.refl [w.heap.size + 1 + 1] w2).setCell (by simp) _) (fun s hs => by simp at hs; subst hs; exact ⟨_, _, b2'⟩)
  have HBX := hide (b2'.set (.bool true))
  clear HRD HKP HMK HBL b2 c0 c1 c2 f2 c27 c28 c29 c30 hst hw1 b2'
  rcases hF with ⟨h0, hN, rfl⟩ | ⟨hno, rfl⟩
  · by_cases hz : F = 0
    · subst hz
      gi_wp2
      exact lists_leave n w _ _ _ rfl HB2.out HM2.out HBX.out
    · have hIn : In = N := hI.resolve_left hz
      subst hIn
      have hz' : ((F : Int) == 0) = false := by simpa using hz
      gi_wp2
      exact lists_leave n w _ _ _ rfl HB2.out HM2.out HBX.out
  · by_cases hz : F = 0
    · subst hz
      by_cases h0 : 0 ≤ most
      · have h0' : ¬ most < ((0 : Nat) : Int) := by omega
        gi_wp2
        exact lists_leave n w _ _ _ rfl HB2.out HM2.out HBX.out
      · gi_wp2
        exact lists_leave n w _ _ _ rfl HB2.out HM2.out HBX.out
    · have hIn : In = F := hI.resolve_left hz
      subst hIn
      have hz' : ((In : Int) == 0) = false := by simpa using hz
      by_cases h0 : 0 ≤ most
      · have h0' : ¬ most < (In : Int) := by omega
        gi_wp2
        exact lists_leave n w _ _ _ rfl HB2.out HM2.out HBX.out
      · gi_wp2
        exact lists_leave n w _ _ _ rfl HB2.out HM2.out HBX.out

end Go.Proofs.Ytlphpcacngimhaa
