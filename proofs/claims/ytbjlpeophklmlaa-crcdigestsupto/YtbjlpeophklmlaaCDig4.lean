/- CrcDigests: the walk. -/
import Derived.Test.YtbjlpeophklmlaaCDig3
import Derived.Test.YtbjlpeophklmlaaCSkip
import Derived.Deep.DeepCutAuto
import Derived.Deep.CutBlock
import Derived.BigRegion
import Derived.Deep.RegionLaw
namespace Go.Proofs.Ytbjlpeophklmlaa
open Go.RowKit

/-- A script that came in. -/
structure IsOps (w : World) (a : Option Addr) (len : Nat) (Bf : Nat → Bool) (Kf : Nat → Int) (Af : Nat → Option Addr) (Lf Cf : Nat → Nat) (Zf : Nat → List Int) : Prop where
  cells : ∀ i, i < len → ∃ b o, a = some ⟨b, o, none⟩ ∧ w.rangeAt b (o + i * 3) [.bool (Bf i), .int .i64 (Kf i), .slice (Af i) (Lf i) (Cf i)]
  none : ∀ i, i < len → Af i = none → Lf i = 0 ∧ Cf i = 0
  zlen : ∀ i, i < len → (Zf i).length = Lf i
  row : ∀ i, i < len → Row w .u8 (Af i) (Zf i)
  b8 : ∀ i, i < len → B8 (Zf i)
def tot (Lf : Nat → Nat) : Nat → Nat
  | 0 => 0
  | i + 1 => tot Lf i + Lf i

theorem tot_le (Lf : Nat → Nat) {i n : Nat} (h : i ≤ n) : tot Lf i ≤ tot Lf n := by
  induction n with
  | zero => rw [Nat.le_zero.1 h]; exact Nat.le_refl _
  | succ n ih =>
    by_cases e : i = n + 1
    · rw [e]; exact Nat.le_refl _
    · have := ih (by omega)
      simp only [tot]
      omega
theorem owns_slice {W : World} {B : Nat} {e : TypeId} {v : Value} {zs : List Int} (h : W.ownsRow B e 1 v zs.length (zs.map (Value.int .u8))) : ∃ a c, v = .slice a zs.length c ∧ Row W .u8 a zs := by
  rcases h.2 with ⟨hv, hn⟩ | ⟨g, cap, cur, hv, _⟩
  · obtain rfl : zs = [] := List.eq_nil_of_length_eq_zero hn
    exact ⟨none, 0, hv, row_nil _ _ _⟩
  · subst hv
    exact ⟨_, cap, rfl, row_of_owns h⟩
theorem infoOp : (Try.prog.info? 47).map (·.size) = some 3 := by kernel_rfl
theorem DG.drew {w W : World} {B gX gY : Nat} {D : Nat → Nat} {V : Nat → Value} {S Y : Nat → List Int} (h : DG w W B gX gY D V S Y) : DG w W.drew B gX gY D V S Y := h.below (Below.refl _ _).drew
theorem DG.told0 {w W W' : World} {B gX gY : Nat} {D : Nat → Nat} {V : Nat → Value} {S Y : Nat → List Int} (h : DG w W B gX gY D V S Y) {j : Nat} (hj : j < 2) (hg : W.grownBy W' (V j).ownBlock) : Two W' gY V :=
  h.y.blk (hg.block gY (Nat.lt_of_lt_of_le h.hi.2.1 h.hi.2.2.2.2) (fun e => by have := ((h.own j hj).lt gY e.symm).1; have := h.hi.2.1; omega))
theorem DG.congr {w W : World} {B gX gY : Nat} {D : Nat → Nat} {V : Nat → Value} {S S' Y : Nat → List Int} (h : DG w W B gX gY D V S Y) (he : S = S') : DG w W B gX gY D V S' Y := he ▸ h
theorem DG.start {w w1 : World} (hb : Below w.heap.size w w1) : DG w ((((w1.alloc (.cells #[.int .u32 0, .int .i64 0] 58)).alloc (.cells #[.int .u32 0, .int .i64 0] 58)).alloc (.cells #[.pointer (some ⟨w1.heap.size, 0, none⟩), .pointer (some ⟨w1.heap.size + 1, 0, none⟩)] 42)).alloc (.cells #[.slice none 0 0, .slice none 0 0] 45))
    (w1.heap.size + 4) (w1.heap.size + 1 + 1) (w1.heap.size + 1 + 1 + 1) (fun i => w1.heap.size + i) (fun _ => .slice none 0 0) (fun _ => []) (fun _ => []) := by
  have hs := hb.size
  have H : ∀ A B C E : Obj, ((((w1.alloc A).alloc B).alloc C).alloc E).heap[w1.heap.size + 1 + 1 + 1]? = some E ∧ ((((w1.alloc A).alloc B).alloc C).alloc E).heap[w1.heap.size + 1 + 1]? = some C ∧ ((((w1.alloc A).alloc B).alloc C).alloc E).heap[w1.heap.size + 1]? = some B ∧ ((((w1.alloc A).alloc B).alloc C).alloc E).heap[w1.heap.size]? = some A := by
    intro A B C E
    refine ⟨?_, ?_, ?_, ?_⟩
    · have := heap_alloc_new (((w1.alloc A).alloc B).alloc C) E
      simpa using this
    · rw [Below.heap_alloc _ _ _ (by simp)]
      have := heap_alloc_new ((w1.alloc A).alloc B) C
      simpa using this
    · rw [Below.heap_alloc _ _ _ (by simp; try omega), Below.heap_alloc _ _ _ (by simp)]; exact heap_alloc2_new _ _ _
    · rw [Below.heap_alloc _ _ _ (by simp; try omega), Below.heap_alloc _ _ _ (by simp; try omega)]; exact heap_alloc2_old _ _ _
  obtain ⟨h3, h2, h1, h0⟩ := H (.cells #[.int .u32 0, .int .i64 0] 58) (.cells #[.int .u32 0, .int .i64 0] 58) (.cells #[.pointer (some ⟨w1.heap.size, 0, none⟩), .pointer (some ⟨w1.heap.size + 1, 0, none⟩)] 42) (.cells #[.slice none 0 0, .slice none 0 0] 45)
  refine ⟨two_cases ?_ ?_, ⟨_, h3, rfl, two_cases rfl rfl⟩, two_cases h0 h1, fun i _ => ⟨rfl, .inl ⟨rfl, rfl⟩⟩, (((hb.alloc hs _).alloc (by simp; omega) _).alloc (by simp; omega) _).alloc (by simp; omega) _, ⟨by omega, by omega, by omega, by omega⟩, ⟨by omega, by omega, by omega, by omega, by simp⟩, ⟨by omega, by omega, by omega, by omega, by omega, by omega⟩, fun _ _ _ _ _ k hk => by cases hk⟩
  · rw [cell_of_row _ _ _ _ _ _ h2]; rfl
  · rw [cell_of_row _ _ _ _ _ _ h2]; rfl

set_option maxRecDepth 100000 in
set_option maxHeartbeats 6400000 in
theorem crcDigests_any (a : Option Addr) (len cap : Nat) (Bf : Nat → Bool) (Kf : Nat → Int) (Af : Nat → Option Addr) (Lf Cf : Nat → Nat) (Zf : Nat → List Int) (w : World) (hlen : len ≤ 1048576) (hO : IsOps w a len Bf Kf Af Lf Cf Zf) (ht : tot Lf len ≤ 1048576) :
    Calls Try.prog 8 #[.slice a len cap] w fun e w' => e = .returned (.bool true) ∧ Below w.heap.size w w' := by
  obtain ⟨i0, hi0, hz0, hz1, hz2⟩ := info_parts infoU8
  have HO := hide hO
  have HT := hide ht
  clear hO ht
  go_enter Try.func8, Try.ntmps8
  go_wp2_with fail
  refine (lives_any _).mono ?_
  rintro e w1 ⟨rfl, hb1⟩
  go_wp2_with fail
  refine (new_any _).mono ?_
  rintro e w2 ⟨rfl, rfl⟩
  go_wp2_with fail
  refine (new_any _).mono ?_
  rintro e w3 ⟨rfl, rfl⟩
  go_wp2_with fail
  have HG := hide (DG.start hb1)
  change Code.wp _ _ _ _ ((((w1.alloc (.cells #[.int .u32 0, .int .i64 0] 58)).alloc (.cells #[.int .u32 0, .int .i64 0] 58)).alloc (.cells #[.pointer (some ⟨w1.heap.size, 0, none⟩), .pointer (some ⟨w1.heap.size + 1, 0, none⟩)] 42)).alloc (.cells #[.slice none 0 0, .slice none 0 0] 45))
  generalize (((w1.alloc (.cells #[.int .u32 0, .int .i64 0] 58)).alloc (.cells #[.int .u32 0, .int .i64 0] 58)).alloc (.cells #[.pointer (some ⟨w1.heap.size, 0, none⟩), .pointer (some ⟨w1.heap.size + 1, 0, none⟩)] 42)).alloc (.cells #[.slice none 0 0, .slice none 0 0] 45) = w4 at HG ⊢
  generalize w1.heap.size + 4 = B at HG
  generalize (fun i => w1.heap.size + i) = D at HG
  generalize w1.heap.size + 1 + 1 + 1 = gY at HG ⊢
  generalize w1.heap.size + 1 + 1 = gX at HG ⊢
  clear hb1
  go_loopw [6] (fun q wr => ∃ (i : Nat) (V : Nat → Value) (Y : Nat → List Int), i ≤ len ∧ q = .int .i64 i ∧ Hid (DG w wr B gX gY D V Y Y) ∧ Hid (∀ j, j < 2 → B8 (Y j) ∧ (Y j).length ≤ tot Lf i)) (fun i _ => len - (intOf i).toNat)
  case atStart => exact ⟨0, _, _, by omega, rfl, HG, hide fun j _ => ⟨(fun x hx => by cases hx), Nat.zero_le _⟩⟩
  case round =>
    clear HG
    obtain ⟨i, V, Y, hi, rfl, HG, HY⟩ := hrel
    by_cases hlt : i < len
    · obtain ⟨b, o, ha, hrg⟩ := HO.out.cells i hlt
      subst ha
      have hbw : b < w.heap.size := World.block_lt_of_cell? w ⟨b, o + i * 3 + 0, none⟩ (hrg 0 _ rfl)
      have hrW := range_below HG.out.bel hbw hrg
      have hidx : (i : Int) < (len : Int) := by omega
      go_upto_region 10 with (first
        | (refine wpList_load_mid rfl 47 (.tmp 41) rfl b (o + i * 3) rfl _ _ hrW Try.underlying47 rfl infoOp ?_)
        | (refine wpList_store_mid rfl 47 (.tmp 7) (.tmp 42) rfl wr.heap.size 0 #[.bool (Bf i), .int .i64 (Kf i), .slice (Af i) (Lf i) (Cf i)] rfl rfl (there_row (heap_alloc_new wr _) (Nat.le_refl _)) infoOp rfl ?_)
        | fail)
      have hcs := heap_alloc_new wr (.cells #[.bool (Bf i), .int .i64 (Kf i), .slice (Af i) (Lf i) (Cf i)] 47)
      have HG5 := hide (HG.out.below ((Below.refl _ _).alloc (Nat.le_refl _) (.cells #[.bool (Bf i), .int .i64 (Kf i), .slice (Af i) (Lf i) (Cf i)] 47)))
      have hBP : B ≤ wr.heap.size := HG.out.hi.2.2.2.2
      have HVP : Hid (∀ j, j < 2 → ∀ k, (V j).ownBlock = some k → k < wr.heap.size) := hide fun j hj k hk => ((HG.out.own j hj).lt k hk).2
      clear hrW HG hrg hbw
      generalize wr.alloc (.cells #[.bool (Bf i), .int .i64 (Kf i), .slice (Af i) (Lf i) (Cf i)] 47) = w5 at hcs HG5 ⊢
      generalize wr.heap.size = gP at hcs hBP HVP ⊢
      have c0 : w5.cell? ⟨gP, 0, none⟩ = some (.bool (Bf i)) := by rw [cell_of_row _ _ _ _ _ _ hcs]; rfl
      have c1 : w5.cell? ⟨gP, 1, none⟩ = some (.int .i64 (Kf i)) := by rw [cell_of_row _ _ _ _ _ _ hcs]; rfl
      have c2 : w5.cell? ⟨gP, 2, none⟩ = some (.slice (Af i) (Lf i) (Cf i)) := by rw [cell_of_row _ _ _ _ _ _ hcs]; rfl
      have hgP : gP < w5.heap.size := lt_of_block hcs
      clear hcs
      have hti : tot Lf (i + 1) ≤ 1048576 := Nat.le_trans (tot_le Lf (by omega)) HT.out
      have hte : tot Lf (i + 1) = tot Lf i + Lf i := rfl
      have hLi : Lf i ≤ 1048576 := by omega
      have HTI := hide hti
      have HTE := hide hte
      clear hti hte
      have HKp : Hid (∃ κ : Nat, κ = if Bf i then 1 else 0) := ⟨_, rfl⟩
      obtain ⟨κ, hκ⟩ := HKp.out
      replace hκ := hide hκ
      clear HKp
      go_upto_if 44 with fail
      go_cut [8] (fun s8 wx => s8 = .int .i64 (κ : Int) ∧ wx = w5)
      case first =>
        generalize Bf i = bb at *
        cases bb
        · have hk : κ = 0 := hκ.out
          go_wp2_with fail
          go_meet
          exact ⟨by rw [hk]; rfl, rfl⟩
        · have hk : κ = 1 := hκ.out
          go_wp2_with fail
          go_meet
          exact ⟨by rw [hk]; rfl, rfl⟩
      case rest =>
        obtain ⟨h8, hwc⟩ := hcut
        subst h8
        replace hwc := hwc.symm
        subst hwc
        have hκ2 : κ < 2 := by rw [hκ.out]; split <;> omega
        have hκi : (κ : Int) < 2 := by omega
        clear hκ c0
        go_upto_block 2 with fail
        go_cut [9, 10] (fun _ _ wx => ∃ (V' : Nat → Value) (Y' : Nat → List Int), Hid (DG w wx B gX gY D V' Y' Y') ∧ Hid (∀ j, j < 2 → B8 (Y' j) ∧ (Y' j).length ≤ tot Lf (i + 1)))
        case first =>
          by_cases hk0 : Kf i = 0
          · have hq : (Kf i == 0) = true := by simp [hk0]
            clear hk0
            have hzl := HO.out.zlen i hlt
            go_wp2_with fail
            refine (lentB_any (Af i) (Lf i) (Cf i) (Zf i) w5 hzl (by omega) (HO.out.none i hlt) ((HO.out.row i hlt).below2 HG5.out.bel)).mono ?_
            rintro e w6 ⟨rfl, hL6, hO6, hb6⟩
            have HG6 := hide (HG5.out.below hb6)
            have c26 := (hb6.cell (p := ⟨gP, 2, none⟩) hgP).trans c2
            have HL6 := hide hL6
            have HO6 := hide hO6
            have hd6 := (HG6.out.dHi κ hκ2).1
            clear hL6 hO6 hb6 c1 c2 HG5
            generalize w5.heap.size = g6 at *
            have hx6 := HG6.out.x κ hκ2
            have HWR := hide (write_any (D κ) (sumOf (Y κ)) (Y κ).length (some ⟨g6, 0, none⟩) (Lf i) (Lf i + 2) (Zf i) w6 (HG6.out.d κ hκ2) (sumOf_lt _) (by have := (HY.out κ hκ2).2; have := HTI.out; have := HTE.out; omega) hzl (by omega) HL6.out.row (HO.out.b8 i hlt))
            rw [moreOf_sum _ _ (HY.out κ hκ2).1] at HWR
            go_wp2_with fail
            refine HWR.out.mono ?_
            rintro e w7 ⟨rfl, hD7, hg7⟩
            have HG7 := hide (HG6.out.wrote hκ2 (Y κ ++ Zf i) hg7 (by rw [List.length_append, hzl]; exact hD7))
            have HL7 := hide (HL6.out.kept hg7 (fun h => by have := Option.some.inj h; omega))
            have HO7 := hide (HO6.out.kept hg7 (fun k hk h => by have h2 := Option.some.inj h; have e1 : g6 = k := (by simpa [Value.ownBlock] using hk); omega))
            have c27 := hg7.cell c26 (fun h => by have h2 : gP = D κ := Option.some.inj h; omega)
            clear HWR hD7 hg7 HG6 HL6 HO6 c26 hx6
            go_wp2_with fail
            refine (kept_any g6 (Af i) (Lf i) (Cf i) (Zf i) w7 hzl (by omega) HL7.out ((HO.out.row i hlt).below2 HG7.out.bel)).mono ?_
            rintro e w8 ⟨rfl, hst8⟩
            have HG8 := hide (HG7.out.below (hst8.below _))
            have HO8 := hide (hst8.own HO7.out)
            have c28 := (hst8.cell _).trans c27
            clear hst8 HG7 HO7 HL7 c27
            go_wp2_with fail
            refine (spoil_any HO8.out).mono ?_
            rintro e w9 ⟨rfl, hg9⟩
            have HG9 := hide (HG8.out.kept hg9 (fun k hk => by
              have e1 : g6 = k := by simpa [Value.ownBlock] using hk
              exact ⟨by omega, fun j hj h => by have := HVP.out j hj k h; omega⟩))
            have c29 := hg9.cell c28 (fun h => by have e1 : gP = g6 := by simpa [Value.ownBlock] using h
                                                  omega)
            clear hg9 HG8 HO8 c28
            have hy9 := HG9.out.y.cell hκ2
            have hf9 := HG9.out.y.fr κ
            go_wp2_with fail
            have HGd := hide HG9.out.drew
            have HRd := hide ((HO.out.row i hlt).below2 HGd.out.bel)
            have HS9 : Hid (∀ j, j < 2 → B8 (updL Y κ (Y κ ++ Zf i) j) ∧ (updL Y κ (Y κ ++ Zf i) j).length ≤ tot Lf (i + 1)) := hide fun j hj => by
              have hYj := HY.out j hj
              by_cases e : j = κ
              · subst e
                rw [updL_same]
                exact ⟨hYj.1.append (HO.out.b8 i hlt), by rw [List.length_append, hzl, HTE.out]; omega⟩
              · rw [updL_ne _ _ e, HTE.out]
                exact ⟨hYj.1, by omega⟩
            have hYb : (Y κ).length + Lf i ≤ 140737488355328 := by have := (HY.out κ hκ2).2; have := HTI.out; have := HTE.out; omega
            have HZL : Hid ((Y κ).length + Lf i = (Y κ ++ Zf i).length) := hide (by rw [List.length_append, hzl])
            go_region_law (refine step_app rfl (.tmp 69) (.tmp 71) 23 rfl B 5 i0 Try.underlying23 hi0 hz0 hz1 hz2 (V κ) (Y κ) (by simp [Act.eval]) (HGd.out.own κ hκ2) (Af i) (Lf i) (Cf i) (Zf i) (by simp [Act.eval]) hzl (HO.out.none i hlt) HRd.out hYb HGd.out.hi.2.2.2.2 ?_; intro v' w10 hv10 hg10 hn10; obtain ⟨av, cv, rfl, _⟩ := owns_slice hv10; have hT10 := HGd.out.told0 hκ2 hg10; have hy10 := hT10.cell hκ2; have hf10 := hT10.fr κ)
            all_goals (try go_wp2_with fail)
            all_goals go_meet
            all_goals exact ⟨updL V κ (.slice av (Y κ ++ Zf i).length cv), updL Y κ (Y κ ++ Zf i), hide (by rw [HZL.out]; exact HGd.out.told hκ2 _ (Y κ ++ Zf i) hg10 hv10 hn10), HS9⟩
          · have hq : (Kf i == 0) = false := by simp [hk0]
            by_cases hk1 : Kf i = 1
            · have hq1 : (Kf i == 1) = true := by simp [hk1]
              clear hk0 hk1
              have hx5 := HG5.out.x κ hκ2
              go_wp2_with fail
              refine (reset_any (D κ) _ _ w5 (HG5.out.d κ hκ2)).mono ?_
              rintro e w6 ⟨rfl, hD6, hg6⟩
              have HG6 := hide (HG5.out.wrote hκ2 [] hg6 hD6)
              have hy6 := HG6.out.y.cell hκ2
              have hf6 := HG6.out.y.fr κ
              have HS9 : Hid (∀ j, j < 2 → B8 (updL Y κ [] j) ∧ (updL Y κ [] j).length ≤ tot Lf (i + 1)) := hide fun j hj => by
                have hYj := HY.out j hj
                by_cases e : j = κ
                · subst e
                  rw [updL_same]
                  exact ⟨(fun x hx => by cases hx), Nat.zero_le _⟩
                · rw [updL_ne _ _ e, HTE.out]
                  exact ⟨hYj.1, by omega⟩
              clear hD6 hg6 HG5 hx5 c1 c2
              go_wp2_with fail
              go_meet
              exact ⟨_, _, hide (HG6.out.told hκ2 (.slice none 0 0) [] (grownBy_refl _ _) ⟨rfl, .inl ⟨rfl, rfl⟩⟩ (fun k hk => by cases hk)), HS9⟩
            · have hq1 : (Kf i == 1) = false := by simp [hk1]
              go_wp2_with fail
              go_meet
              exact ⟨V, Y, HG5, hide fun j hj => ⟨(HY.out j hj).1, by have := (HY.out j hj).2; rw [HTE.out]; omega⟩⟩
        case rest =>
          obtain ⟨V', Y', HG6, HY6⟩ := hcut
          clear HG5 HY HVP c1 c2 hgP
          have hx6 := HG6.out.x κ hκ2
          obtain ⟨aκ, cκ, hVκ, hrκ⟩ := owns_slice (HG6.out.own κ hκ2)
          have hy6 := HG6.out.y.cell hκ2
          rw [hVκ] at hy6
          have HDS := hide (dsum_any (D κ) _ _ wc (HG6.out.d κ hκ2))
          have HDL := hide (dlen_any (D κ) _ _ wc (HG6.out.d κ hκ2))
          have hYl := (HY6.out κ hκ2).2
          have HRS := hide (rsum_any aκ (Y' κ).length cκ (Y' κ) wc rfl (by have := HTI.out; unfold maxLen; omega) hrκ (HY6.out κ hκ2).1)
          clear hrκ hVκ
          go_wp2_with fail
          refine keep HDS.out ?_
          go_wp2_with fail
          refine keep HDL.out ?_
          go_wp2_with fail
          refine keep HRS.out ?_
          go_wp2_with fail
          go_roundw
          case rel => exact ⟨i + 1, V', Y', by omega, by go_num, HG6, HY6⟩
          case measure => simp [intOf]; omega
    · obtain rfl : i = len := by omega
      have hx0 := HG.out.x 0 (by omega)
      have hx1 := HG.out.x 1 (by omega)
      obtain ⟨a0, c0, hV0, hr0⟩ := owns_slice (HG.out.own 0 (by omega))
      obtain ⟨a1, c1, hV1, hr1⟩ := owns_slice (HG.out.own 1 (by omega))
      have hy0 := HG.out.y.cell (i := 0) (by omega)
      have hy1 := HG.out.y.cell (i := 1) (by omega)
      rw [hV0] at hy0
      rw [hV1] at hy1
      have hl0 := (HY.out 0 (by omega)).2
      have hl1 := (HY.out 1 (by omega)).2
      have HS0 := hide (dsum_any (D 0) _ _ wr (HG.out.d 0 (by omega)))
      have HS1 := hide (dsum_any (D 1) _ _ wr (HG.out.d 1 (by omega)))
      have HR0 := hide (rsum_any a0 (Y 0).length c0 (Y 0) wr rfl (by have := HT.out; unfold maxLen; omega) hr0 (HY.out 0 (by omega)).1)
      have HR1 := hide (rsum_any a1 (Y 1).length c1 (Y 1) wr rfl (by have := HT.out; unfold maxLen; omega) hr1 (HY.out 1 (by omega)).1)
      clear hr0 hr1 hV0 hV1
      go_wp2_with fail
      refine keep HS0.out ?_
      go_wp2_with fail
      refine keep HS1.out ?_
      go_wp2_with fail
      refine keep HR0.out ?_
      go_wp2_with fail
      refine keep HR1.out ?_
      go_wp2_with fail
      go_ret
      exact ⟨rfl, HG.out.bel⟩

end Go.Proofs.Ytbjlpeophklmlaa
