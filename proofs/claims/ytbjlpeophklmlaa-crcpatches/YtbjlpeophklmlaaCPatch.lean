/- Patch. -/
import Derived.Test.YtbjlpeophklmlaaCBack
import Derived.Test.YtbjlpeophklmlaaCSeal
import Derived.Deep.RegionHeld3
namespace Go.Proofs.Ytbjlpeophklmlaa
open Go.RowKit

/-- The four bytes that make the sum. -/
def ptVal (zs : List Int) (m want : Nat) : Nat := goR 4294967295 (zs.take m) ^^^ bkn 32 (outR (4294967295 - want) (zs.drop (m + 4)))
def ptText (zs : List Int) (m want : Nat) : List Int := zs.take m ++ (spell (ptVal zs m want) ++ zs.drop (m + 4))
theorem ptVal_lt {zs : List Int} (m want : Nat) (h8 : B8 zs) : ptVal zs m want < 4294967296 :=
  xor_lt (goR_lt _ (by decide) (h8.take m)) (bkn_lt 32 (outR_lt _ (by omega) (h8.drop _)))
theorem ptText_b8 {zs : List Int} (m want : Nat) (h8 : B8 zs) : B8 (ptText zs m want) := (h8.take m).append ((spell_b8 _).append (h8.drop _))
theorem ptText_len {zs : List Int} {m : Nat} (want : Nat) (h : m + 4 ≤ zs.length) : (ptText zs m want).length = zs.length := by
  unfold ptText
  rw [List.length_append, List.length_append, spell_len, List.length_take, List.length_drop]
  omega
theorem pt_sum {zs : List Int} (m want : Nat) (h8 : B8 zs) (hw : want < 4294967296) : sumOf (ptText zs m want) = want := by
  have hg := goR_lt (zs.take m) (show 4294967295 < 4294967296 by decide) (h8.take m)
  unfold sumOf ptText
  rw [goR_append, goR_append, goR_spell _ _ (ptVal_lt m want h8)]
  unfold ptVal
  rw [xor_can, stn_bkn, goR_outR]
  omega
/-- No other four bytes do. -/
theorem pt_only {zs : List Int} {m want y : Nat} (h8 : B8 zs) (hw : want < 4294967296) (hy : y < 4294967296) (h : sumOf (zs.take m ++ (spell y ++ zs.drop (m + 4))) = want) : y = ptVal zs m want := by
  have h2 := pt_sum m want h8 hw
  rw [← h2] at h
  have hp := ptVal_lt m want h8
  have hg := goR_lt (zs.take m) (show 4294967295 < 4294967296 by decide) (h8.take m)
  have b1 := goR_lt (zs.take m ++ (spell y ++ zs.drop (m + 4))) (show 4294967295 < 4294967296 by decide) ((h8.take m).append ((spell_b8 _).append (h8.drop _)))
  have b2 := goR_lt (ptText zs m want) (show 4294967295 < 4294967296 by decide) (ptText_b8 m want h8)
  unfold sumOf at h
  have h3 : goR 4294967295 (zs.take m ++ (spell y ++ zs.drop (m + 4))) = goR 4294967295 (ptText zs m want) := by omega
  unfold ptText at h3
  rw [goR_append, goR_append, goR_append, goR_append, goR_spell _ _ hy, goR_spell _ _ hp] at h3
  have h4 := goR_inj _ (stn_lt 32 (xor_lt hg hy)) (stn_lt 32 (xor_lt hg hp)) h3
  exact xor_inj (stn_inj 32 (xor_lt hg hy) (xor_lt hg hp) h4)

theorem parts3 {w : World} {b : Nat} {a1 a2 a3 : Option Addr} {l1 c1 l2 c2 l3 c3 : Nat} {x y z : List Int} (h1 : x.length = l1) (h2 : y.length = l2) (h3 : z.length = l3) (n1 : a1 = none → l1 = 0 ∧ c1 = 0) (n2 : a2 = none → l2 = 0 ∧ c2 = 0) (n3 : a3 = none → l3 = 0 ∧ c3 = 0)
    (k1 : w.cell? ⟨b, 0, none⟩ = some (.slice a1 l1 c1)) (k2 : w.cell? ⟨b, 1, none⟩ = some (.slice a2 l2 c2)) (k3 : w.cell? ⟨b, 2, none⟩ = some (.slice a3 l3 c3)) (r1 : Row w .u8 a1 x) (r2 : Row w .u8 a2 y) (r3 : Row w .u8 a3 z) : Parts w b 0 [.slice a1 l1 c1, .slice a2 l2 c2, .slice a3 l3 c3] [x, y, z] :=
  ⟨rfl, fun i hi => by
    match i, hi with
    | 0, _ => exact k1
    | 1, _ => exact k2
    | 2, _ => exact k3, fun i hi => by
    match i, hi with
    | 0, _ => exact ⟨a1, l1, c1, rfl, h1, n1, r1⟩
    | 1, _ => exact ⟨a2, l2, c2, rfl, h2, n2, r2⟩
    | 2, _ => exact ⟨a3, l3, c3, rfl, h3, n3, r3⟩⟩

set_option maxHeartbeats 400000 in
theorem patch_neg (a : Option Addr) (len cap : Nat) (at' want : Int) (w : World) (h : at' < 0) :
    Calls Try.prog 13 #[.slice a len cap, .int .i64 at', .int .u32 want] w fun e w' => e = .returned (.tuple #[.slice none 0 0, .int .i64 1]) ∧ w' = w := by
  go_enter Try.func13, Try.ntmps13
  go_wp2
  go_ret2
  exact ⟨rfl, rfl⟩
set_option maxHeartbeats 400000 in
theorem patch_far (a : Option Addr) (len cap : Nat) (at' want : Int) (w : World) (hl : len ≤ maxLen) (h0 : 0 ≤ at') (h : (len : Int) - at' < 4) (h1 : at' ≤ 9223372036854775807) :
    Calls Try.prog 13 #[.slice a len cap, .int .i64 at', .int .u32 want] w fun e w' => e = .returned (.tuple #[.slice none 0 0, .int .i64 1]) ∧ w' = w := by
  unfold maxLen at hl
  have h2 : ¬ at' < 0 := by omega
  go_enter Try.func13, Try.ntmps13
  go_wp2
  go_ret2
  exact ⟨rfl, rfl⟩

set_option maxRecDepth 100000 in
set_option maxHeartbeats 1600000 in
theorem patch_some (b o m q k n cap want : Nat) (zs : List Int) (w : World) (hl : zs.length = n) (hq : q = m + 4) (hn : n = q + k) (hc : n ≤ cap) (hm : n ≤ 140737488351232) (hw : want < 4294967296) (hr : Row w .u8 (some ⟨b, o, none⟩) zs) (h8 : B8 zs) :
    Calls Try.prog 13 #[.slice (some ⟨b, o, none⟩) n cap, .int .i64 m, .int .u32 want] w fun e w' => ∃ v, e = .returned (.tuple #[v, .int .i64 0]) ∧ OwnB w' w.heap.size 5 v (ptText zs m want) ∧ Below w.heap.size w w' := by
  have lt1 : (zs.take m).length = m := by rw [List.length_take]; omega
  have lt2 : (zs.drop q).length = n - q := by rw [List.length_drop]; omega
  have hV : ptVal zs m want = goR 4294967295 (zs.take m) ^^^ bkn 32 (outR (4294967295 - want) (zs.drop q)) := by rw [hq]; rfl
  have hTX : ptText zs m want = zs.take m ++ (spell (ptVal zs m want) ++ zs.drop q) := by rw [hq]; rfl
  have hyl := ptVal_lt m want h8
  have hol := outR_lt (zs.drop q) (show 4294967295 - want < 4294967296 by omega) (h8.drop q)
  have hgl := goR_lt (zs.take m) (show 4294967295 < 4294967296 by decide) (h8.take m)
  have HG := hide (goIn_any 4294967295 (some ⟨b, o, none⟩) m cap (zs.take m) w.drew (by decide) lt1 (by unfold maxLen; omega) (hr.take m) (h8.take m))
  have hxv : bits .xor .u32 (goR 4294967295 (zs.take m) : Int) (bkn 32 (outR (4294967295 - want) (zs.drop q)) : Int) = (ptVal zs m want : Int) := by
    rw [u32_xor_nat _ _ hgl (bkn_lt 32 hol), ← hV]
  have HB : Hid (∀ W, Calls Try.prog 36 #[.int .u32 (outR (4294967295 - want) (zs.drop q) : Nat), .int .i64 32] W fun e w' => e = .returned (.int .u32 (bkn 32 (outR (4294967295 - want) (zs.drop q)) : Nat)) ∧ w' = W) := fun W => stepsBack_any _ 32 W hol (by omega)
  have HO0 : Hid (∀ A, Row w .u8 (some A) (zs.drop q) → Calls Try.prog 37 #[.int .u32 ((4294967295 - want : Nat) : Int), .slice (some A) (n - q) (cap - q)] w.drew fun e w' => e = .returned (.int .u32 (outR (4294967295 - want) (zs.drop q) : Nat)) ∧ Below w.heap.size w.drew w') := fun A h =>
    comeOut_any (4294967295 - want) (some A) (n - q) (cap - q) (zs.drop q) w.drew (by omega) lt2 (by unfold maxLen; omega) (h8.drop q) h
  have HC0 : Hid (∀ A (w2 w1 : World), Row w .u8 (some A) (zs.drop q) → Below w.heap.size w w1 → w2 = w1.drew.alloc (.cells ((spell (ptVal zs m want)).map (Value.int .u8)).toArray 5) → Calls Try.prog 38 #[.slice (some ⟨w2.heap.size, 0, none⟩) 3 3] (w2.alloc (.cells #[.slice (some ⟨b, o, none⟩) m cap, .slice (some ⟨w1.heap.size, 0, none⟩) 4 4, .slice (some A) (n - q) (cap - q)] 23)) fun e w' => ∃ v, e = .returned v ∧ OwnB w' (w2.heap.size + 1) 5 v (ptText zs m want) ∧ Below (w2.heap.size + 1) (w2.alloc (.cells #[.slice (some ⟨b, o, none⟩) m cap, .slice (some ⟨w1.heap.size, 0, none⟩) 4 4, .slice (some A) (n - q) (cap - q)] 23)) w') := by
    intro A w2 w1 hA hb1 hw2
    have hb2 : Below w.heap.size w w2 := by rw [hw2]; exact hb1.drew.alloc hb1.size _
    have hs2 : Row w2 .u8 (some ⟨w1.heap.size, 0, none⟩) (spell (ptVal zs m want)) := by rw [hw2]; exact spell_row _ w1.drew
    have hf : [zs.take m, spell (ptVal zs m want), zs.drop q].flatten = ptText zs m want := by rw [hTX]; simp
    have h := concat_any w2.heap.size 0 3 3 [.slice (some ⟨b, o, none⟩) m cap, .slice (some ⟨w1.heap.size, 0, none⟩) 4 4, .slice (some A) (n - q) (cap - q)] [zs.take m, spell (ptVal zs m want), zs.drop q] (w2.alloc (.cells #[.slice (some ⟨b, o, none⟩) m cap, .slice (some ⟨w1.heap.size, 0, none⟩) 4 4, .slice (some A) (n - q) (cap - q)] 23)) rfl (by omega)
      (parts3 lt1 (spell_len _) lt2 (fun h => by cases h) (fun h => by cases h) (fun h => by cases h) (by rw [cell_of_row _ _ _ _ _ _ (heap_alloc_new w2 _)]; rfl) (by rw [cell_of_row _ _ _ _ _ _ (heap_alloc_new w2 _)]; rfl) (by rw [cell_of_row _ _ _ _ _ _ (heap_alloc_new w2 _)]; rfl) (((hr.take m).below2 hb2).alloc _) (hs2.alloc _) ((hA.below2 hb2).alloc _))
      (by rw [hf, ptText_len want (by omega)]; omega)
    rw [hf] at h
    simpa using h
  have i1 : (0 : Int) ≤ (m : Int) := by omega
  have i2 : (m : Int) ≤ (cap : Int) := by omega
  have i3 : (q : Int) ≤ (cap : Int) := by omega
  have i4 : (q : Int) ≤ (n : Int) := by omega
  have i5 : (m : Int) ≤ (n : Int) := by omega
  have i6 : (0 : Int) ≤ (q : Int) := by omega
  have i7 : (m : Int) + 4 = (q : Int) := by omega
  have i8 : ¬ (n : Int) - (m : Int) < 4 := by omega
  have i9 : (n : Int) ≤ (cap : Int) := by omega
  have hn32 := not32 hw
  have HR := hide hr
  have hdr : q = cap ∨ ¬ q = cap := by omega
  clear hV hTX hl hq hr hgl hol hn
  generalize outR (4294967295 - want) (zs.drop q) = t1 at *
  generalize bkn 32 t1 = t2 at *
  generalize goR 4294967295 (zs.take m) = t3 at *
  generalize 4294967295 - want = nw at *
  obtain ⟨y, hy⟩ : ∃ y, y = ptVal zs m want := ⟨_, rfl⟩
  rw [← hy] at hyl hxv HC0
  clear hy
  rcases hdr with hcap | hcap
  · obtain rfl : cap = q := hcap.symm
    obtain rfl : n = cap := by omega
    have hr0 : Row w .u8 (some ⟨b, o, none⟩) (zs.drop n) := by
      rw [Nat.sub_self] at lt2
      rw [List.eq_nil_of_length_eq_zero lt2]
      exact row_nil _ _ _
    have HO := hide (HO0.out ⟨b, o, none⟩ hr0)
    have HC := hide (fun w2 w1 => HC0.out ⟨b, o, none⟩ w2 w1 hr0)
    rw [Nat.sub_self] at HO HC
    clear HO0 HC0 hr0 lt2
    go_enter Try.func13, Try.ntmps13
    go_wp2_with fail
    go_region_held3 (fun _ => True) (trivial) (first
      | (go_at_call 31; refine keep HG.out ?_)
      | (go_at_call 37; refine HO.out.mono ?_; rintro e w1 ⟨rfl, hb1⟩)
      | (go_at_call 36; refine keep (HB.out _) ?_)
      | fail)
    have hbw1 : Below w.heap.size w w1 := (Below.refl _ _).drew.trans hb1
    have HSP := hide (spell_any y w1.drew hyl)
    have HSR := hide (spell_row y w1.drew)
    clear hb1
    go_wp2_with fail
    go_region_held3 (fun _ => True) (trivial) (first
      | (go_at_call 34; refine HSP.out.mono ?_; rintro e w2 ⟨rfl, hw2⟩; have HW := hide hw2; clear hw2)
      | (go_at_call 38; refine (HC.out w2 w1 hbw1 HW.out).mono ?_; rintro e w3 ⟨v, rfl, hown, hb3⟩)
      | fail)
    have hz2 : w2.heap.size = w1.heap.size + 1 := by rw [HW.out]; simp
    have hbw2 : Below w.heap.size w w2 := by rw [HW.out]; exact hbw1.drew.alloc hbw1.size _
    have hz1 := hbw1.size
    clear HW
    go_wp2_with fail
    go_ret2
    exact ⟨v, rfl, hown.mono (by omega), (hbw2.alloc hbw2.size _).trans (hb3.mono (by omega))⟩
  · have HO := hide (HO0.out ⟨b, o + q, none⟩ (HR.out.drop q))
    have HC := hide (fun w2 w1 => HC0.out ⟨b, o + q, none⟩ w2 w1 (HR.out.drop q))
    clear HO0 HC0
    have hne : ¬ cap = q := by omega
    go_enter Try.func13, Try.ntmps13
    go_wp2_with fail
    go_region_held3 (fun _ => True) (trivial) (first
      | (go_at_call 31; refine keep HG.out ?_)
      | (go_at_call 37; refine HO.out.mono ?_; rintro e w1 ⟨rfl, hb1⟩)
      | (go_at_call 36; refine keep (HB.out _) ?_)
      | fail)
    have hbw1 : Below w.heap.size w w1 := (Below.refl _ _).drew.trans hb1
    have HSP := hide (spell_any y w1.drew hyl)
    have HSR := hide (spell_row y w1.drew)
    clear hb1
    go_wp2_with fail
    go_region_held3 (fun _ => True) (trivial) (first
      | (go_at_call 34; refine HSP.out.mono ?_; rintro e w2 ⟨rfl, hw2⟩; have HW := hide hw2; clear hw2)
      | (go_at_call 38; refine (HC.out w2 w1 hbw1 HW.out).mono ?_; rintro e w3 ⟨v, rfl, hown, hb3⟩)
      | fail)
    have hz2 : w2.heap.size = w1.heap.size + 1 := by rw [HW.out]; simp
    have hbw2 : Below w.heap.size w w2 := by rw [HW.out]; exact hbw1.drew.alloc hbw1.size _
    have hz1 := hbw1.size
    clear HW
    go_wp2_with fail
    go_ret2
    exact ⟨v, rfl, hown.mono (by omega), (hbw2.alloc hbw2.size _).trans (hb3.mono (by omega))⟩

/-- Whether four bytes stand from the place on. -/
theorem patch_bad (a : Option Addr) (len cap : Nat) (at' want : Int) (w : World) (hl : len ≤ maxLen) (h1 : at' ≤ 9223372036854775807) (h : at' < 0 ∨ (len : Int) - at' < 4) :
    Calls Try.prog 13 #[.slice a len cap, .int .i64 at', .int .u32 want] w fun e w' => e = .returned (.tuple #[.slice none 0 0, .int .i64 1]) ∧ w' = w := by
  by_cases h0 : at' < 0
  · exact patch_neg a len cap at' want w h0
  · exact patch_far a len cap at' want w hl (by omega) (by omega) h1
theorem patch_good (a : Option Addr) (len cap m want : Nat) (zs : List Int) (w : World) (hl : zs.length = len) (hc : len ≤ cap) (hm : len ≤ 140737488351232) (hw : want < 4294967296) (hr : Row w .u8 a zs) (h8 : B8 zs) (h4 : m + 4 ≤ len) :
    Calls Try.prog 13 #[.slice a len cap, .int .i64 m, .int .u32 want] w fun e w' => ∃ v, e = .returned (.tuple #[v, .int .i64 0]) ∧ OwnB w' w.heap.size 5 v (ptText zs m want) ∧ Below w.heap.size w w' := by
  obtain ⟨b, o, rfl, _, _⟩ := hr.cons (by omega)
  exact patch_some b o m (m + 4) (len - (m + 4)) len cap want zs w hl rfl (by omega) hc hm hw hr h8

end Go.Proofs.Ytbjlpeophklmlaa
