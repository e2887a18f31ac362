/- The document's Read. -/
import Derived.Test.YthloaabdlciefaaG27
import Derived.Test.YthloaabdlciefaaG19
import Derived.Test.YthloaabdlciefaaG4
import Derived.Test.YthloaabdlciefaaG18
import Derived.Test.YthloaabdlciefaaG22
namespace Go.Proofs.Ythloaabdlciefaa
open Go.RowKit

/-- Where a slice lies that is new: no nil but of nothing, its length within, its block from N on. -/
def Lcd (N : Nat) (a : Option Addr) (n c : Nat) : Prop := (a = none → n = 0 ∧ c = 0) ∧ n ≤ c ∧ ∀ x, a = some x → N ≤ x.block
theorem lcd_of_owns {W : World} {N n c : Nat} {e : TypeId} {a : Option Addr} {xs : List Value} (h : W.ownsRow N e 1 (.slice a n c) n xs) : Lcd N a n c := by
  rcases h.2 with ⟨hv, hn⟩ | ⟨g, cap, cur, hv, h1, h2, h3, _⟩
  · cases hv
    exact ⟨fun _ => ⟨rfl, rfl⟩, Nat.le_refl _, (fun x hx => by cases hx)⟩
  · cases hv
    exact ⟨(fun h => by cases h), h3, (fun x hx => by cases hx; exact h1)⟩
theorem Lcd.mono {N N' : Nat} {a : Option Addr} {n c : Nat} (h : Lcd N' a n c) (hn : N ≤ N') : Lcd N a n c := ⟨h.1, h.2.1, fun x hx => Nat.le_trans hn (h.2.2 x hx)⟩
theorem Lcd.nil (N : Nat) : Lcd N none 0 0 := ⟨fun _ => ⟨rfl, rfl⟩, Nat.le_refl _, (fun x hx => by cases hx)⟩
/-- What the document's Read told. -/
def RRPost (w : World) (K V : List Int) (pl : Nat) (er : Int) (e : Ending) (w' : World) : Prop :=
  ∃ ka kc va vc, e = .returned (.tuple #[.agg #[.slice ka K.length kc, .slice va V.length vc], .int .i64 (pl : Int), .int .i64 er]) ∧ Row w' .u8 ka K ∧ Row w' .u8 va V ∧ Below w.heap.size w w' ∧ Lcd w.heap.size ka K.length kc ∧ Lcd w.heap.size va V.length vc
theorem rr_end {w W : World} {act : Act} {K V : List Int} {pl : Nat} {er : Int} {ka va : Option Addr} {kc vc : Nat} (hE : E2 W w.heap.size (.slice ka K.length kc) (.slice va V.length vc)) (hk : Row W .u8 ka K) (hv : Row W .u8 va V) (hb : Below w.heap.size w W) (lk : Lcd w.heap.size ka K.length kc) (lv : Lcd w.heap.size va V.length vc)
    (h6 : act.tmps[6]?.getD undef = .pointer (some ⟨w.heap.size, 0, none⟩)) (h7 : act.tmps[7]?.getD undef = .int .i64 (pl : Int)) (h8 : act.tmps[8]?.getD undef = .int .i64 er) (hd : act.defers = []) :
    bodyPost Try.prog Try.f48 (RRPost w K V pl er) Exit.ret act W := by
  obtain ⟨q0, q1⟩ := hE.cells
  obtain ⟨tm, df⟩ := act
  simp only at h6 h7 h8 hd
  subst hd
  exact bodyPost_ret (v := .tuple #[.agg #[.slice ka K.length kc, .slice va V.length vc], .int .i64 (pl : Int), .int .i64 er]) (by simp [results, Try.results48, go_sem, h6, h7, h8, q0, q1]) rfl ⟨ka, kc, va, vc, rfl, hk, hv, hb, lk, lv⟩
theorem rr_none {w W : World} {act : Act} {pl : Nat} {er : Int} (hE : E2 W w.heap.size (.slice none 0 0) (.slice none 0 0)) (hb : Below w.heap.size w W)
    (h6 : act.tmps[6]?.getD undef = .pointer (some ⟨w.heap.size, 0, none⟩)) (h7 : act.tmps[7]?.getD undef = .int .i64 (pl : Int)) (h8 : act.tmps[8]?.getD undef = .int .i64 er) (hd : act.defers = []) :
    bodyPost Try.prog Try.f48 (RRPost w [] [] pl er) Exit.ret act W :=
  rr_end (ka := none) (kc := 0) (va := none) (vc := 0) hE (row_nil _ _ _) (row_nil _ _ _) hb (Lcd.nil _) (Lcd.nil _) h6 h7 h8 hd
theorem rr_bad {w W : World} {act : Act} {pl : Nat} {er : Int} (hE : E2 W w.heap.size (.slice none 0 0) (.slice none 0 0)) (hb : Below w.heap.size w W)
    (h6 : act.tmps[6]?.getD undef = .pointer (some ⟨w.heap.size, 0, none⟩)) (h7 : act.tmps[7]?.getD undef = .int .i64 (pl : Int)) (h8 : act.tmps[8]?.getD undef = .int .i64 er) (hd : act.defers = []) :
    bodyPost Try.prog Try.f48 (RRPost w [] [] pl er) Exit.ret act ((W.setCell ⟨w.heap.size, 0, none⟩ (.slice none 0 0)).setCell ⟨w.heap.size, 1, none⟩ (.slice none 0 0)) :=
  rr_none (hE.set _ _) ((hb.setCell (p := ⟨w.heap.size, 0, none⟩) (Nat.le_refl _) _).setCell (p := ⟨w.heap.size, 1, none⟩) (Nat.le_refl _) _) h6 h7 h8 hd

theorem rEr3 (prev zs : List Int) (p : Nat) : rEr prev zs p = if er zs p ≠ 0 then er zs p else if er zs (nx zs p) ≠ 0 then er zs (nx zs p) else if er zs (nx zs (nx zs p)) ≠ 0 then er zs (nx zs (nx zs p))
    else if fltE (nm zs p) (nm zs (nx zs p)) (nm zs (nx zs (nx zs p))) prev.length ≠ 0 then fltE (nm zs p) (nm zs (nx zs p)) (nm zs (nx zs (nx zs p))) prev.length
    else if zs.length < nx zs (nx zs (nx zs p)) + nm zs (nx zs p) + nm zs (nx zs (nx zs p)) then 53 else kfE prev (prev.take (nm zs p) ++ (zs.drop (nx zs (nx zs (nx zs p)))).take (nm zs (nx zs p))) (nm zs p) := by
  unfold rEr keyOf hE hP
  by_cases h1 : er zs p = 0
  · by_cases h2 : er zs (nx zs p) = 0
    · by_cases h3 : er zs (nx zs (nx zs p)) = 0
      · simp [h1, h2, h3]
      · simp [h1, h2, h3]
    · simp [h1, h2]
  · simp [h1]
theorem rPl3 (prev zs : List Int) (p : Nat) : rPl prev zs p = if er zs p ≠ 0 then nx zs p else if er zs (nx zs p) ≠ 0 then nx zs (nx zs p) else if er zs (nx zs (nx zs p)) ≠ 0 then nx zs (nx zs (nx zs p))
    else if fltE (nm zs p) (nm zs (nx zs p)) (nm zs (nx zs (nx zs p))) prev.length ≠ 0 then p
    else if zs.length < nx zs (nx zs (nx zs p)) + nm zs (nx zs p) + nm zs (nx zs (nx zs p)) then zs.length else if kfE prev (prev.take (nm zs p) ++ (zs.drop (nx zs (nx zs (nx zs p)))).take (nm zs (nx zs p))) (nm zs p) ≠ 0 then p else nx zs (nx zs (nx zs p)) + nm zs (nx zs p) + nm zs (nx zs (nx zs p)) := by
  unfold rPl keyOf hE hP
  by_cases h1 : er zs p = 0
  · by_cases h2 : er zs (nx zs p) = 0
    · by_cases h3 : er zs (nx zs (nx zs p)) = 0
      · simp [h1, h2, h3]
      · simp [h1, h2, h3]
    · simp [h1, h2]
  · simp [h1]
theorem rKV3 (prev zs : List Int) (p : Nat) (h : rEr prev zs p = 0) : rKy prev zs p = prev.take (nm zs p) ++ (zs.drop (nx zs (nx zs (nx zs p)))).take (nm zs (nx zs p)) ∧ rVl prev zs p = (zs.drop (nx zs (nx zs (nx zs p)) + nm zs (nx zs p))).take (nm zs (nx zs (nx zs p))) := by
  have e0 : hE zs p = 0 := by
    unfold rEr at h
    by_cases e : hE zs p = 0
    · exact e
    · rw [if_pos e] at h; exact absurd h e
  have hp := (hE_ok e0).2.2.2
  unfold rKy rVl keyOf
  rw [if_pos h, if_pos h, hp]
  exact ⟨rfl, rfl⟩

set_option maxRecDepth 100000 in
set_option maxHeartbeats 800000 in
theorem rrd_out (a b : Option Addr) (la ca lb cb : Nat) (p : Int) (w : World) (h : p < 0 ∨ (lb : Int) < p) :
    Calls Try.prog 48 #[.slice a la ca, .slice b lb cb, .int .i64 p] w (RRPost w [] [] 0 1) := by
  have hx : Hid (E2 (w.alloc (.cells #[.slice none 0 0, .slice none 0 0] 25)) w.heap.size (.slice none 0 0) (.slice none 0 0)) := heap_alloc_new w _
  have hb : Hid (Below w.heap.size w (w.alloc (.cells #[.slice none 0 0, .slice none 0 0] 25))) := (Below.refl _ _).alloc (Nat.le_refl _) _
  by_cases h1 : p < 0
  · go_enter Try.func48, Try.ntmps48
    go_wp2_with fail
    exact rr_none hx.out hb.out rfl rfl rfl rfl
  · have h2 : (lb : Int) < p := by omega
    have h3 : 0 ≤ p := by omega
    clear h h1
    go_enter Try.func48, Try.ntmps48
    go_wp2_with fail
    exact rr_none hx.out hb.out rfl rfl rfl rfl

set_option maxRecDepth 100000 in
set_option maxHeartbeats 6400000 in
theorem rrd_in (a b : Option Addr) (la ca lb cb p : Nat) (xs zs : List Int) (w : World) (h1 : xs.length = la) (h2 : zs.length = lb) (m1 : la ≤ 140737488351232) (m2 : lb ≤ 140737488351232) (hca : la ≤ ca) (hcb : lb ≤ cb) (hp : p ≤ lb) (r1 : Row w .u8 a xs) (r2 : Row w .u8 b zs) (z8 : B8 zs) (na : a = none → la = 0 ∧ ca = 0) (nb : b = none → lb = 0 ∧ cb = 0) :
    Calls Try.prog 48 #[.slice a la ca, .slice b lb cb, .int .i64 (p : Int)] w (RRPost w (rKy xs zs p) (rVl xs zs p) (rPl xs zs p) (rEr xs zs p)) := by
  obtain ⟨i0, hi, hz0, hz1, hz2⟩ := info_parts infoByte'
  have HV : Hid (∀ (W : World) (q : Nat), Below w.heap.size w W → q ≤ lb → Calls Try.prog 47 #[.slice b lb cb, .int .i64 (q : Int)] W fun e w' => e = .returned (.tuple #[.int .u64 (nm zs q : Nat), .int .i64 (nx zs q : Nat), .int .i64 (er zs q)]) ∧ w' = W) := fun W q hb hq => by
    have h := rread_any b lb cb (q : Int) zs W h2 (by unfold maxLen; omega) (r2.below2 hb) (fits8_b8 z8)
    have hrd := rd_at zs q z8 (by omega)
    rw [hrd.1, hrd.2.1, hrd.2.2.1] at h
    exact h
  have R1 := hide (fun (W : World) (hb : Below w.heap.size w W) => r1.below2 hb)
  have R2 := hide (fun (W : World) (hb : Below w.heap.size w W) => r2.below2 hb)
  have NA := hide na
  have NB := hide nb
  have g1 := (rd_at zs p z8 (by omega)).2.2.2
  have g2 := (rd_at zs (nx zs p) z8 g1.1).2.2.2
  have g3 := (rd_at zs (nx zs (nx zs p)) z8 g2.1).2.2.2
  rw [h2] at g1 g2 g3
  obtain ⟨b11, b12, b13⟩ := g1
  obtain ⟨b21, b22, b23⟩ := g2
  obtain ⟨b31, b32, b33⟩ := g3
  have HER := hide (rEr3 xs zs p)
  have HPL := hide (rPl3 xs zs p)
  rw [h1, h2] at HER HPL
  have HKV := hide (rKV3 xs zs p)
  have HK0 : Hid (rEr xs zs p ≠ 0 → rKy xs zs p = [] ∧ rVl xs zs p = []) := fun h => by unfold rKy rVl; rw [if_neg h, if_neg h]; exact ⟨rfl, rfl⟩
  have V1 := hide (fun W hb => HV.out W p hb hp)
  have V2 := hide (fun W hb => HV.out W (nx zs p) hb b11)
  have V3 := hide (fun W hb => HV.out W (nx zs (nx zs p)) hb b21)
  clear HV r1 r2 z8 na nb
  generalize rEr xs zs p = ER at *
  generalize rPl xs zs p = PL at *
  generalize rKy xs zs p = KY at *
  generalize rVl xs zs p = VL at *
  generalize er zs (nx zs (nx zs p)) = e3 at *
  generalize nm zs (nx zs (nx zs p)) = z at *
  generalize nx zs (nx zs (nx zs p)) = p3 at *
  generalize er zs (nx zs p) = e2 at *
  generalize nm zs (nx zs p) = y at *
  generalize nx zs (nx zs p) = p2 at *
  generalize er zs p = e1 at *
  generalize nm zs p = x at *
  generalize nx zs p = p1 at *
  have hpp : ¬ (p : Int) < 0 := by omega
  have hpb : ¬ (lb : Int) < (p : Int) := by omega
  have t0 : Below w.heap.size w (w.alloc (.cells #[.slice none 0 0, .slice none 0 0] 25)) := (Below.refl _ _).alloc (Nat.le_refl _) _
  have X0 : Hid (E2 (w.alloc (.cells #[.slice none 0 0, .slice none 0 0] 25)) w.heap.size (.slice none 0 0) (.slice none 0 0)) := heap_alloc_new w _
  have s0 : (w.alloc (.cells #[.slice none 0 0, .slice none 0 0] 25)).heap.size = w.heap.size + 1 := by simp
  go_enter Try.func48, Try.ntmps48
  go_wp2_with fail
  generalize w.alloc (.cells #[.slice none 0 0, .slice none 0 0] 25) = w0 at *
  obtain ⟨u0, u1⟩ := X0.out.cells
  have uf := X0.out.fr
  refine keep (V1.out w0 t0) ?_
  by_cases q1 : e1 = 0
  · subst q1
    simp only [ne_eq, not_true_eq_false, if_false] at HER HPL
    go_wp2_with fail
    refine keep (V2.out w0 t0) ?_
    by_cases q2 : e2 = 0
    · subst q2
      simp only [not_true_eq_false, if_false] at HER HPL
      go_wp2_with fail
      refine keep (V3.out w0 t0) ?_
      by_cases q3 : e3 = 0
      · subst q3
        simp only [not_true_eq_false, if_false] at HER HPL
        clear V1 V2 V3
        by_cases qF : fltE x y z la = 0
        · obtain ⟨o1, o2, o3, o4, o5⟩ := fltE_ok qF
          rw [qF] at HER HPL
          simp only [not_true_eq_false, if_false] at HER HPL
          clear qF
          have v1 : ¬ (la : Int) < (x : Int) := by omega
          have v2 : ¬ (64 : Int) < (y : Int) := by omega
          have v3 : ¬ (256 : Int) < (z : Int) := by omega
          have v4 : ¬ (x : Int) + (y : Int) < 1 := by omega
          have v5 : ¬ (64 : Int) < (x : Int) + (y : Int) := by omega
          by_cases qS : lb < p3 + y + z
          · have qi : (lb : Int) - (p3 : Int) < (y : Int) + (z : Int) := by omega
            rw [if_pos qS] at HER HPL
            obtain ⟨hk, hv⟩ := HK0.out (by rw [HER.out]; decide)
            go_wp2_with fail
            rw [HER.out, HPL.out, hk, hv]
            exact rr_bad X0.out t0 rfl rfl rfl rfl
          · have qi : ¬ (lb : Int) - (p3 : Int) < (y : Int) + (z : Int) := by omega
            rw [if_neg qS] at HER HPL
            have hup := run_upto a la ca x (by omega) .u64
            have hpart := run_part b lb cb p3 (p3 + y) (by omega) (by omega) .i64 .i64
            have hpart2 := run_part b lb cb (p3 + y) (p3 + y + z) (by omega) (by omega) .i64 .i64
            rw [show p3 + y - p3 = y by omega, show ((p3 + y : Nat) : Int) = (p3 : Int) + (y : Int) by omega] at hpart
            rw [show p3 + y + z - (p3 + y) = z by omega, show ((p3 + y + z : Nat) : Int) = (p3 : Int) + (y : Int) + (z : Int) by omega, show ((p3 + y : Nat) : Int) = (p3 : Int) + (y : Int) by omega] at hpart2
            have hk1 : (xs.take x).length = x := by rw [List.length_take]; omega
            have hk2 : ((zs.drop p3).take y).length = y := by rw [List.length_take, List.length_drop]; omega
            have hv2 : ((zs.drop (p3 + y)).take z).length = z := by rw [List.length_take, List.length_drop]; omega
            have hge := comN_pre xs ((zs.drop p3).take y) x (by omega)
            have RP : Hid (∀ W, Below w.heap.size w W → Row W .u8 (cutAt b p3 cb) ((zs.drop p3).take y)) := fun W hW => cut_part (by omega) (R2.out W hW)
            have RQ : Hid (∀ W, Below w.heap.size w W → Row W .u8 (cutAt b (p3 + y) cb) ((zs.drop (p3 + y)).take z)) := fun W hW => cut_part (by omega) (R2.out W hW)
            have NP : Hid (cutAt b p3 cb = none → y = 0 ∧ cb - p3 = 0) := fun h => by have := cut_none p3 NB.out h; omega
            have NQ : Hid (cutAt b (p3 + y) cb = none → z = 0 ∧ cb - (p3 + y) = 0) := fun h => by have := cut_none (p3 + y) NB.out h; omega
            have NX' : Hid (a = none → x = 0 ∧ ca = 0) := fun h => by have := NA.out h; omega
            have RX : Hid (∀ W, Below w.heap.size w W → Row W .u8 a (xs.take x)) := fun W hW => (R1.out W hW).take x
            have HKL : Hid ((xs.take x ++ (zs.drop p3).take y).length = x + y) := by show _ = _; rw [List.length_append, hk1, hk2]
            have RCO : Hid (∀ W ka kc, Below w.heap.size w W → Row W .u8 ka (xs.take x ++ (zs.drop p3).take y) → Calls Try.prog 72 #[.slice a la ca, .slice ka (x + y) kc] W fun e w' => e = .returned (.int .i64 (comN xs (xs.take x ++ (zs.drop p3).take y) : Nat)) ∧ ∃ m, w' = W.drewN m) := fun W ka kc hW hr => rcommon_any a ka la ca (x + y) kc xs _ W (by unfold maxLen; omega) (by unfold maxLen; omega) h1 HKL.out (R1.out W hW) hr
            have RCM : Hid (∀ W ka kc, Below w.heap.size w W → Row W .u8 ka (xs.take x ++ (zs.drop p3).take y) → Calls Try.prog 49 #[.slice a la ca, .slice ka (x + y) kc] W fun e w' => e = .returned (.int .i64 (cmpI xs (xs.take x ++ (zs.drop p3).take y))) ∧ ∃ m, w' = W.drewN m) := fun W ka kc hW hr => rcompare_any a ka la ca (x + y) kc xs _ W (by unfold maxLen; omega) (by unfold maxLen; omega) h1 HKL.out (R1.out W hW) hr
            have HKF : Hid (kfE xs (xs.take x ++ (zs.drop p3).take y) x = if x < comN xs (xs.take x ++ (zs.drop p3).take y) then 52 else if 0 < la ∧ ¬ cmpI xs (xs.take x ++ (zs.drop p3).take y) < 0 then 51 else 0) := by show _ = _; unfold kfE; rw [h1]
            have hcl := (comN_le xs (xs.take x ++ (zs.drop p3).take y)).1
            rw [h1] at hcl
            have H1 := hide hk1
            have H2 := hide hk2
            have H3' := hide hv2
            clear hk1 hk2 hv2 R1 R2 NA NB
            generalize kfE xs (xs.take x ++ (zs.drop p3).take y) x = kf at *
            generalize comN xs (xs.take x ++ (zs.drop p3).take y) = cn at *
            generalize cmpI xs (xs.take x ++ (zs.drop p3).take y) = cm at *
            generalize hkl : xs.take x ++ (zs.drop p3).take y = kl at *
            have HKE := hide hkl
            clear hkl
            generalize xs.take x = kx at *
            generalize (zs.drop p3).take y = ky at *
            generalize (zs.drop (p3 + y)).take z = vl at *
            generalize cutAt b p3 cb = bk at *
            generalize cutAt b (p3 + y) cb = bv at *
            have hw1 : IntKind.i64.wrap ((p3 : Int) + (y : Int)) = (p3 : Int) + (y : Int) := by rw [IntKind.wrap_i64]; omega
            have w1 : (0 : Int) ≤ (p3 : Int) := by omega
            have w2 : (p3 : Int) ≤ (p3 : Int) + (y : Int) := by omega
            have w3 : (p3 : Int) + (y : Int) ≤ (cb : Int) := by omega
            have T0 := hide t0
            have S0 := hide s0
            clear t0 s0
            go_wp2_with fail
            go_region_held3 (fun _ => True) (trivial) (first
              | (refine step_app rfl (.tmp 104) (.tmp 107) 23 rfl w0.heap.size 5 i0 Try.underlying23 hi hz0 hz1 hz2 (.slice (some ⟨w0.heap.size, 0, none⟩) 0 0) [] (by simp [Act.eval]) (World.ownsRow_made w0 #[] 0 (Nat.le_refl _) (by unfold maxLen; omega) rfl).drew a x ca kx (by simp [Act.eval]) H1.out NX'.out (RX.out _ (T0.out.alloc (by have := S0.out; omega) _).drew) (by simp; omega) (by show w0.heap.size ≤ (w0.alloc _).heap.size; rw [World.size_alloc]; exact Nat.le_succ _) ?_; intro v3 w3 hv3 hg3 hn3; simp only [List.nil_append] at hv3; obtain ⟨a3, c3, rfl, _, _⟩ := slice_of_owns2 hv3; have HO3 := hide hv3; have B3 : Hid (Below w0.heap.size w0 w3) := ((Below.refl _ _).alloc (Nat.le_refl _) _).drew.grown hg3 (by show w0.heap.size ≤ (w0.alloc _).heap.size; rw [World.size_alloc]; exact Nat.le_succ _) (fun k h => by cases h; exact Nat.le_refl _); clear hv3 hg3 hn3)
              | (refine step_app rfl (.tmp 108) (.tmp 114) 23 rfl w0.heap.size 5 i0 Try.underlying23 hi hz0 hz1 hz2 (.slice a3 kx.length c3) kx (by simp [Act.eval]) HO3.out bk y (cb - p3) ky (by simp [Act.eval]) H2.out NP.out (RP.out _ (T0.out.trans (B3.out.mono T0.out.size))) (by have := H1.out; omega) B3.out.size ?_; intro v4 w4 hv4 hg4 hn4; rw [HKE.out, HKL.out] at hv4; obtain ⟨a4, c4, rfl, _, hq4⟩ := slice_of_owns2 hv4; have QA4 := hide hq4; have LC4 := hide (lcd_of_owns hv4); have HR4 : Hid (Row w4 .u8 a4 kl) := row_of_owns2 hv4; have B4 : Hid (Below w0.heap.size w0 w4) := B3.out.grown hg4 B3.out.size (fun k h => (HO3.out.lt k h).1); clear hv4 hg4 hn4 hq4)
              | fail)
            have t4 := T0.out.trans (B4.out.mono T0.out.size)
            have X4 := hide (X0.out.below B4.out)
            have hs4 := B4.out.size
            have hs0 := S0.out
            clear B3 B4 HO3 T0 X0 u0 u1 uf RX RP NX' NP
            go_wp2_with fail
            refine (RCO.out w4 a4 c4 t4 HR4.out).mono ?_
            rintro e w5 ⟨rfl, m5, hw5⟩
            have b5 : Below w4.heap.size w4 w5 := by rw [hw5]; exact drewB (Below.refl _ _) m5
            have t5 := t4.trans (b5.mono t4.size)
            have X5 := X4.out.below b5
            have HR5 := hide (HR4.out.below2 b5)
            have hs5 := b5.size
            obtain ⟨u0, u1⟩ := X5.cells
            have uf := X5.fr
            have XX5 := hide X5
            clear hw5 b5 t4 X4 HR4 X5 RCO
            by_cases qC : cn = x
            · have qcb : ((cn : Int) != (x : Int)) = false := by rw [bne_eq_false_iff_eq]; omega
              have HT : Hid ((la = 0 ∧ kf = 0) ∨ (0 < la ∧ cm < 0 ∧ kf = 0) ∨ (0 < la ∧ ¬ cm < 0 ∧ kf = 51)) := by
                have := HKF.out
                rw [if_neg (by omega)] at this
                by_cases q0 : la = 0
                · exact .inl ⟨q0, by rw [this, if_neg (by omega)]⟩
                · by_cases q9 : cm < 0
                  · exact .inr (.inl ⟨by omega, q9, by rw [this, if_neg (by omega)]⟩)
                  · exact .inr (.inr ⟨by omega, q9, by rw [this, if_pos ⟨by omega, by omega⟩]⟩)
              clear qC HKF
              have RCM5 := hide (RCM.out w5 a4 c4 t5 HR5.out)
              have HOKE : Hid (kf = 0 → ER = 0 ∧ PL = p3 + y + z ∧ KY = kl ∧ VL = vl) := fun h => by
                have e := HER.out
                rw [h] at e
                obtain ⟨g1, g2⟩ := HKV.out e
                refine ⟨e, ?_, g1, g2⟩
                have := HPL.out
                rw [h] at this
                simpa using this
              have HTAIL : Hid (∀ W, Below w.heap.size w W → Row W .u8 bv vl) := RQ
              rcases HT.out with ⟨q0, qk⟩ | ⟨q0, q9, qk⟩ | ⟨q0, q9, qk⟩
              · obtain ⟨z1, z2, z3, z4⟩ := HOKE.out qk
                have hlaz : ¬ (0 : Int) < (la : Int) := by omega
                clear HT RCM5 RCM HOKE qk
                have H4 := hide z1
                have H5 := hide z2
                have H6 := hide z3
                have H7 := hide z4
                clear z1 z2 z3 z4 q0
                have HFAC : Hid (∀ v8 w8, OwnB w8 w5.heap.size 5 v8 vl → ∃ a8 c8, v8 = .slice a8 z c8) := fun v8 w8 ho => by
                  obtain ⟨a8, c8, h8, _⟩ := ho.sliceN H3'.out
                  exact ⟨a8, c8, h8⟩
                have RB7 := hide (RQ.out _ t5)
                clear u0 u1 uf
                go_wp2_with (first
                  | (at_builtin; refine append_b rfl (.tmp 136) (.tmp 146) 23 rfl w5.heap.size 5 i0 Try.underlying23 hi hz0 hz1 hz2 (.slice (some ⟨w5.heap.size, 0, none⟩) 0 0) [] rfl (OwnB.made #[] 0 (Nat.le_refl _) (by unfold maxLen; omega) rfl (by intro u hu; cases hu)) bv z (cb - (p3 + y)) vl rfl H3'.out NQ.out (RB7.out.alloc _) (by simp; omega) (by simp) ?_; intro v8 w8 hown8 hg8; simp only [List.nil_append] at hown8; obtain ⟨a8, c8, rfl⟩ := HFAC.out v8 w8 hown8; have O8 := hide hown8; have b8 : Below w5.heap.size w5 w8 := ((Below.refl _ _).alloc (Nat.le_refl _) _).grown hg8 (by simp) (fun k h => by cases h; exact Nat.le_refl _); have X8 := XX5.out.below b8; have Y8 := hide X8; obtain ⟨y0, y1⟩ := X8.cells; have yf := X8.fr; have t8 := t5.trans (b8.mono t5.size); have K8 := hide (HR5.out.below2 b8); have s8 := b8.size; clear hown8 hg8 X8 b8)
                  | fail)
                have hu : Upd (fun i => i = w.heap.size) w8 ((w8.setCell ⟨w.heap.size, 0, none⟩ (.slice a4 (x + y) c4)).setCell ⟨w.heap.size, 1, none⟩ (.slice a8 z c8)) := ((Upd.refl (fun i => i = w.heap.size) w8).setCell ⟨w.heap.size, 0, none⟩ (.slice a4 (x + y) c4) (fun _ => rfl)).setCell ⟨w.heap.size, 1, none⟩ (.slice a8 z c8) (fun _ => rfl)
                have rk := K8.out.upd hu (fun q hq _ e => by have := QA4.out q hq; omega)
                have rv := (O8.out.upd hu (fun q hq e => by have := (O8.out.owns.lt q hq).1; omega)).row
                have eE := Y8.out.set (.slice a4 (x + y) c4) (.slice a8 z c8)
                have tt := (t8.setCell (p := ⟨w.heap.size, 0, none⟩) (Nat.le_refl _) (.slice a4 (x + y) c4)).setCell (p := ⟨w.heap.size, 1, none⟩) (Nat.le_refl _) (.slice a8 z c8)
                rw [H4.out, H5.out, H6.out, H7.out]
                refine rr_end (ka := a4) (kc := c4) (va := a8) (vc := c8) (by rw [HKL.out, H3'.out]; exact eE) rk rv tt (by rw [HKL.out]; exact LC4.out.mono (by omega)) (by rw [H3'.out]; exact (lcd_of_owns (by have := O8.out.owns; rw [H3'.out] at this; exact this)).mono (by omega)) rfl ?_ rfl rfl
                show Value.int .i64 ((p3 : Int) + (y : Int) + (z : Int)) = Value.int .i64 ((p3 + y + z : Nat) : Int)
                congr 1
              · obtain ⟨z1, z2, z3, z4⟩ := HOKE.out qk
                have hlaz : (0 : Int) < (la : Int) := by omega
                clear HT RCM HOKE qk
                have H4 := hide z1
                have H5 := hide z2
                have H6 := hide z3
                have H7 := hide z4
                clear z1 z2 z3 z4 q0
                go_wp2_with fail
                refine RCM5.out.mono ?_
                rintro e w6 ⟨rfl, m6, hw6⟩
                have b6 : Below w5.heap.size w5 w6 := by rw [hw6]; exact drewB (Below.refl _ _) m6
                have t6 := t5.trans (b6.mono t5.size)
                have XX6 := hide (XX5.out.below b6)
                have HR6 := hide (HR5.out.below2 b6)
                have hs6 := b6.size
                clear hw6 b6 t5
                have HFAC : Hid (∀ v8 w8, OwnB w8 w6.heap.size 5 v8 vl → ∃ a8 c8, v8 = .slice a8 z c8) := fun v8 w8 ho => by
                  obtain ⟨a8, c8, h8, _⟩ := ho.sliceN H3'.out
                  exact ⟨a8, c8, h8⟩
                have RB7 := hide (RQ.out _ t6)
                clear u0 u1 uf
                go_wp2_with (first
                  | (at_builtin; refine append_b rfl (.tmp 136) (.tmp 146) 23 rfl w6.heap.size 5 i0 Try.underlying23 hi hz0 hz1 hz2 (.slice (some ⟨w6.heap.size, 0, none⟩) 0 0) [] rfl (OwnB.made #[] 0 (Nat.le_refl _) (by unfold maxLen; omega) rfl (by intro u hu; cases hu)) bv z (cb - (p3 + y)) vl rfl H3'.out NQ.out (RB7.out.alloc _) (by simp; omega) (by simp) ?_; intro v8 w8 hown8 hg8; simp only [List.nil_append] at hown8; obtain ⟨a8, c8, rfl⟩ := HFAC.out v8 w8 hown8; have O8 := hide hown8; have b8 : Below w6.heap.size w6 w8 := ((Below.refl _ _).alloc (Nat.le_refl _) _).grown hg8 (by simp) (fun k h => by cases h; exact Nat.le_refl _); have X8 := XX6.out.below b8; have Y8 := hide X8; obtain ⟨y0, y1⟩ := X8.cells; have yf := X8.fr; have t8 := t6.trans (b8.mono t6.size); have K8 := hide (HR6.out.below2 b8); have s8 := b8.size; clear hown8 hg8 X8 b8)
                  | fail)
                have hu : Upd (fun i => i = w.heap.size) w8 ((w8.setCell ⟨w.heap.size, 0, none⟩ (.slice a4 (x + y) c4)).setCell ⟨w.heap.size, 1, none⟩ (.slice a8 z c8)) := ((Upd.refl (fun i => i = w.heap.size) w8).setCell ⟨w.heap.size, 0, none⟩ (.slice a4 (x + y) c4) (fun _ => rfl)).setCell ⟨w.heap.size, 1, none⟩ (.slice a8 z c8) (fun _ => rfl)
                have rk := K8.out.upd hu (fun q hq _ e => by have := QA4.out q hq; omega)
                have rv := (O8.out.upd hu (fun q hq e => by have := (O8.out.owns.lt q hq).1; omega)).row
                have eE := Y8.out.set (.slice a4 (x + y) c4) (.slice a8 z c8)
                have tt := (t8.setCell (p := ⟨w.heap.size, 0, none⟩) (Nat.le_refl _) (.slice a4 (x + y) c4)).setCell (p := ⟨w.heap.size, 1, none⟩) (Nat.le_refl _) (.slice a8 z c8)
                rw [H4.out, H5.out, H6.out, H7.out]
                refine rr_end (ka := a4) (kc := c4) (va := a8) (vc := c8) (by rw [HKL.out, H3'.out]; exact eE) rk rv tt (by rw [HKL.out]; exact LC4.out.mono (by omega)) (by rw [H3'.out]; exact (lcd_of_owns (by have := O8.out.owns; rw [H3'.out] at this; exact this)).mono (by omega)) rfl ?_ rfl rfl
                show Value.int .i64 ((p3 : Int) + (y : Int) + (z : Int)) = Value.int .i64 ((p3 + y + z : Nat) : Int)
                congr 1
              · obtain ⟨hk, hv⟩ := HK0.out (by rw [HER.out, qk]; decide)
                have hlaz : (0 : Int) < (la : Int) := by omega
                clear HT RCM HOKE
                go_wp2_with fail
                refine RCM5.out.mono ?_
                rintro e w6 ⟨rfl, m6, hw6⟩
                have b6 : Below w5.heap.size w5 w6 := by rw [hw6]; exact drewB (Below.refl _ _) m6
                have t6 := t5.trans (b6.mono t5.size)
                have X6 := XX5.out.below b6
                obtain ⟨y0, y1⟩ := X6.cells
                have yf := X6.fr
                have XX6 := hide X6
                clear hw6 b6 t5 X6 u0 u1 uf
                have hER := HER.out
                have hPL := HPL.out
                rw [qk] at hER hPL
                rw [if_pos (by decide)] at hPL
                replace hER := hide hER
                replace hPL := hide hPL
                clear qk
                go_wp2_with fail
                rw [hER.out, hPL.out, hk, hv]
                exact rr_bad XX6.out t6 rfl rfl rfl rfl
            · have qcb : ((cn : Int) != (x : Int)) = true := by rw [bne_iff_ne]; omega
              have hkf : kf = 52 := by rw [HKF.out, if_pos (by omega)]
              obtain ⟨hk, hv⟩ := HK0.out (by rw [HER.out, hkf]; decide)
              have hER := HER.out
              have hPL := HPL.out
              rw [hkf] at hER hPL
              rw [if_pos (by decide)] at hPL
              replace hER := hide hER
              replace hPL := hide hPL
              clear hkf HER HPL HKF RCM HKV
              go_wp2_with fail
              rw [hER.out, hPL.out, hk, hv]
              exact rr_bad XX5.out t5 rfl rfl rfl rfl
        · obtain ⟨hk, hv⟩ := HK0.out (by rw [HER.out, if_pos qF]; exact qF)
          rw [if_pos qF] at HER HPL
          clear HKV HK0
          have HF : Hid ((la < x ∧ fltE x y z la = 52) ∨ (¬ la < x ∧ 64 < y ∧ fltE x y z la = 3) ∨ (¬ la < x ∧ ¬ 64 < y ∧ 256 < z ∧ fltE x y z la = 3) ∨ (¬ la < x ∧ ¬ 64 < y ∧ ¬ 256 < z ∧ x + y < 1 ∧ fltE x y z la = 3) ∨ (¬ la < x ∧ ¬ 64 < y ∧ ¬ 256 < z ∧ ¬ x + y < 1 ∧ 64 < x + y ∧ fltE x y z la = 3)) := by
            unfold fltE at qF ⊢
            by_cases c1 : la < x
            · exact .inl ⟨c1, by rw [if_pos c1]⟩
            · rw [if_neg c1] at qF ⊢
              by_cases c2 : 64 < y
              · exact .inr (.inl ⟨c1, c2, by rw [if_pos (.inl c2)]⟩)
              · by_cases c3 : 256 < z
                · exact .inr (.inr (.inl ⟨c1, c2, c3, by rw [if_pos (.inr c3)]⟩))
                · rw [if_neg (by omega)] at qF ⊢
                  by_cases c4 : x + y < 1
                  · exact .inr (.inr (.inr (.inl ⟨c1, c2, c3, c4, by rw [if_pos (.inl c4)]⟩)))
                  · by_cases c5 : 64 < x + y
                    · exact .inr (.inr (.inr (.inr ⟨c1, c2, c3, c4, c5, by rw [if_pos (.inr c5)]⟩)))
                    · rw [if_neg (by omega)] at qF; exact absurd rfl qF
          clear qF
          generalize fltE x y z la = fl at *
          rcases HF.out with ⟨c1, rfl⟩ | ⟨c1, c2, rfl⟩ | ⟨c1, c2, c3, rfl⟩ | ⟨c1, c2, c3, c4, rfl⟩ | ⟨c1, c2, c3, c4, c5, rfl⟩
          · have i1 : (la : Int) < (x : Int) := by omega
            go_wp2_with fail
            rw [HER.out, HPL.out, hk, hv]
            exact rr_bad X0.out t0 rfl rfl rfl rfl
          · have i1 : ¬ (la : Int) < (x : Int) := by omega
            have i2 : (64 : Int) < (y : Int) := by omega
            go_wp2_with fail
            rw [HER.out, HPL.out, hk, hv]
            exact rr_bad X0.out t0 rfl rfl rfl rfl
          · have i1 : ¬ (la : Int) < (x : Int) := by omega
            have i2 : ¬ (64 : Int) < (y : Int) := by omega
            have i3 : (256 : Int) < (z : Int) := by omega
            go_wp2_with fail
            rw [HER.out, HPL.out, hk, hv]
            exact rr_bad X0.out t0 rfl rfl rfl rfl
          · have i1 : ¬ (la : Int) < (x : Int) := by omega
            have i2 : ¬ (64 : Int) < (y : Int) := by omega
            have i3 : ¬ (256 : Int) < (z : Int) := by omega
            have i4 : (x : Int) + (y : Int) < 1 := by omega
            go_wp2_with fail
            rw [HER.out, HPL.out, hk, hv]
            exact rr_bad X0.out t0 rfl rfl rfl rfl
          · have i1 : ¬ (la : Int) < (x : Int) := by omega
            have i2 : ¬ (64 : Int) < (y : Int) := by omega
            have i3 : ¬ (256 : Int) < (z : Int) := by omega
            have i4 : ¬ (x : Int) + (y : Int) < 1 := by omega
            have i5 : (64 : Int) < (x : Int) + (y : Int) := by omega
            go_wp2_with fail
            rw [HER.out, HPL.out, hk, hv]
            exact rr_bad X0.out t0 rfl rfl rfl rfl
      · have qb : (e3 != 0) = true := by rw [bne_iff_ne]; exact q3
        rw [if_pos q3] at HER HPL
        obtain ⟨hk, hv⟩ := HK0.out (by rw [HER.out]; exact q3)
        go_wp2_with fail
        rw [HER.out, HPL.out, hk, hv]
        exact rr_bad X0.out t0 rfl rfl rfl rfl
    · have qb : (e2 != 0) = true := by rw [bne_iff_ne]; exact q2
      rw [if_pos q2] at HER HPL
      obtain ⟨hk, hv⟩ := HK0.out (by rw [HER.out]; exact q2)
      go_wp2_with fail
      rw [HER.out, HPL.out, hk, hv]
      exact rr_bad X0.out t0 rfl rfl rfl rfl
  · have qb : (e1 != 0) = true := by rw [bne_iff_ne]; exact q1
    rw [if_pos q1] at HER HPL
    obtain ⟨hk, hv⟩ := HK0.out (by rw [HER.out]; exact q1)
    go_wp2_with fail
    rw [HER.out, HPL.out, hk, hv]
    exact rr_bad X0.out t0 rfl rfl rfl rfl

end Go.Proofs.Ythloaabdlciefaa
