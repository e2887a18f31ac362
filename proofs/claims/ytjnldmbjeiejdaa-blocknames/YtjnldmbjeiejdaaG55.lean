/- BlockNames: the walk. -/
import Derived.Test.YtjnldmbjeiejdaaG52
import Derived.Test.YtjnldmbjeiejdaaG49
import Derived.ArgAppend
namespace Go.Proofs.Ytjnldmbjeiejdaa
open Go.RowKit

theorem Row.pre {w : World} {k : IntKind} {a : Option Addr} {xs ys : List Int} (h : Row w k a (xs ++ ys)) : Row w k a xs := fun i hi => by
  obtain ⟨b, o, h1, h2⟩ := h i (by rw [List.length_append]; omega)
  rw [getD_left _ _ _ hi] at h2
  exact ⟨b, o, h1, h2⟩
/-- One byte behind a row of one's own: it lies there, or elsewhere; the row reads as it did. -/
theorem app_one {ops : Array Oper} {o : Oper} {rest : List Oper} {a : Act} {w : World} {Q : Exit → Act → World → Prop} (hgd : o.guard = none) (s x : Operand)
    (ho : o.op = .call { callee := .builtin .append, args := #[s, x], argTypes := #[23, 23] }) (i : TypeInfo) (hi : Try.prog.info? 5 = some i) (hz0 : i.zero = some (.int .u8 0)) (hz1 : i.size = 1) (hz2 : i.bytes = 1)
    (base g c : Nat) (zs : List Int) (hz : zs.length = 13) (hs : a.eval s = .slice (some ⟨g, 0, none⟩) 13 c) (hO : OwnB w base 5 (.slice (some ⟨g, 0, none⟩) 13 c) zs) (ad : Addr) (y : Int) (c2 : Nat) (hx : a.eval x = .slice (some ad) 1 c2) (hc : w.cell? ad = some (.int .u8 y)) (hb : base ≤ w.heap.size)
    (h : ∀ a' cap w', 14 ≤ cap → Row w' .u8 (some a') (zs ++ [y]) → Row w' .u8 (some ⟨g, 0, none⟩) zs → Below base w w' → wpList Try.prog ops Q rest (a.put o.dst (.slice (some a') 14 cap)) w') : wpList Try.prog ops Q (o :: rest) a w := by
  have hnews : ∀ j u, [Value.int .u8 y][j]? = some u → w.cell? (ad.add j) = some u := fun j u hu => by
    cases j with
    | zero => simp at hu; rw [← hu]; simpa [Addr.add] using hc
    | succ j => simp at hu
  have hown := hO.owns
  rw [hz] at hown
  have hgb : base ≤ g := (hown.lt g rfl).1
  have hap : zs.map (Value.int .u8) ++ [Value.int .u8 y] = (zs ++ [y]).map (Value.int .u8) := by simp
  by_cases hcap : 14 ≤ c
  · refine wpList_append_fits w hgd s x 23 ho base 5 i 1 Try.underlying23 hi hz1 g 13 c (zs.map (Value.int .u8)) hs hown ad 1 c2 [.int .u8 y] hx rfl hnews (by intro u hu; simp at hu; rw [hu]; rfl) (by omega) ?_
    intro w' o' g'
    rw [hap] at o'
    have hr := row_of_owns2 (n := 14) o'
    exact h ⟨g, 0, none⟩ c w' hcap hr hr.pre ((Below.refl _ _).grown g' hb (fun k hk => by cases hk; exact hgb))
  · refine wpList_append_grows w hgd s x 23 ho 5 i (.int .u8 0) 1 1 Try.underlying23 hi hz0 hz1 hz2 rfl (by decide) (some ⟨g, 0, none⟩) 13 c (zs.map (Value.int .u8)) hs (fun h => by cases h) (by simp [hz]) (fun b hb j u hu => by cases hb; exact hown.cells (g := g) rfl j u hu) ad 1 c2 [.int .u8 y] hx rfl hnews (by intro u hu; simp at hu; rw [hu]; rfl) (by omega) (by unfold maxLen; omega) (by omega) ?_
    intro v' w' o' g'
    rw [hap] at o'
    obtain ⟨g2, cap2, e2, _⟩ := slice_of_owns o' (by omega)
    have hcc : 14 ≤ cap2 := by
      have hl14 : (zs ++ [y]).length = 13 + 1 := by rw [List.length_append, hz]; rfl
      rw [← hl14] at o'
      obtain ⟨_, _, e, _, h3⟩ := owns_openN o' hl14
      rw [e2] at e
      cases e
      exact h3
    subst e2
    have hbel : Below w.heap.size w w' := (Below.refl _ _).grown g' (Nat.le_refl _) (fun k hk => by cases hk)
    exact h ⟨g2, 0, none⟩ cap2 w' hcc (row_of_owns2 (n := 14) o') (hO.row.below2 hbel) (hbel.mono hb)

theorem cv2 (w : World) (o : Obj) (C : Array Value) (n c : Nat) : (convert 23 23 (.slice (some ⟨w.heap.size + 1, 0, none⟩) n c)).run Try.prog ((w.alloc o).alloc (.cells C 5)) = .ok (.slice (some ⟨w.heap.size + 1, 0, none⟩) n c) ((w.alloc o).alloc (.cells C 5 (C.size, C.size + 1))) := by
  have := conv1 (w.alloc o) C n c
  rwa [World.size_alloc] at this
theorem cv3 (w : World) (o o2 : Obj) (C : Array Value) (n c : Nat) : (convert 23 23 (.slice (some ⟨w.heap.size + 1 + 1, 0, none⟩) n c)).run Try.prog (((w.alloc o).alloc o2).alloc (.cells C 5)) = .ok (.slice (some ⟨w.heap.size + 1 + 1, 0, none⟩) n c) (((w.alloc o).alloc o2).alloc (.cells C 5 (C.size, C.size + 1))) := by
  have := cv2 (w.alloc o) o2 C n c
  rwa [World.size_alloc] at this
theorem lit_row (w : World) (zs : List Int) (t : TypeId) (fr : Nat × Nat) : Row (w.alloc (.cells (zs.map (Value.int .u8)).toArray t fr)) .u8 (some ⟨w.heap.size, 0, none⟩) zs := fun i hi => by
  refine ⟨w.heap.size, 0, rfl, ?_⟩
  rw [Nat.zero_add, cell_of_row _ _ _ _ _ _ (heap_alloc_new w _)]
  simp [List.getD, List.getElem?_eq_getElem hi]

def exL (N : Nat) : List Ent := [⟨some ⟨N, 0, none⟩, 2, [97, 98], some ⟨N + 1, 0, none⟩, 1, [49]⟩, ⟨some ⟨N + 2, 0, none⟩, 3, [97, 98, 99], none, 0, []⟩]
theorem ex_bld (N : Nat) {n : Nat} {r : Int} (h : bldE (exL N) n r) : r = 0 ∧ bldL (exL N) r = exB := by
  have h0 : bldE (exL N) 0 0 := by
    unfold bldE
    rw [if_neg (by simp [exL])]
    refine .inl ⟨fun i hi => ?_, rfl, rfl⟩
    have : i = 0 ∨ i = 1 := by simp [exL] at hi; omega
    rcases this with rfl | rfl <;> simp [fL, exL, chkE, keyE, valE, cmpI]
  obtain ⟨_, rfl⟩ := bldE.one h h0
  refine ⟨rfl, ?_⟩
  unfold bldL
  rw [if_pos rfl, show kvs (exL N) = exK from rfl]
  exact ex_blk
def exW (w : World) : World := (((w.alloc (.cells #[.int .u8 97, .int .u8 98] 5 (2, 3))).alloc (.cells #[.int .u8 49] 5 (1, 2))).alloc (.cells #[.int .u8 97, .int .u8 98, .int .u8 99] 5 (3, 4))).alloc (.cells #[.slice (some ⟨w.heap.size, 0, none⟩) 2 2, .slice (some ⟨w.heap.size + 1, 0, none⟩) 1 1, .slice (some ⟨w.heap.size + 1 + 1, 0, none⟩) 3 3, .slice none 0 0] 25)
theorem exW_below (w : World) : Below w.heap.size w (exW w) := ((((Below.refl _ _).alloc (Nat.le_refl _) _).alloc (by simp) _).alloc (by simp; omega) _).alloc (by simp; omega) _
theorem b8_lit {zs : List Int} (h : zs.all (fun c => decide (0 ≤ c ∧ c ≤ 255)) = true) : B8 zs := fun c hc => of_decide_eq_true (List.all_eq_true.1 h c hc)
theorem ex_ens (w : World) : Ens (exW w) (w.heap.size + 3) 0 (exL w.heap.size) := by
  have hnew := heap_alloc_new (((w.alloc (.cells #[.int .u8 97, .int .u8 98] 5 (2, 3))).alloc (.cells #[.int .u8 49] 5 (1, 2))).alloc (.cells #[.int .u8 97, .int .u8 98, .int .u8 99] 5 (3, 4))) (.cells #[.slice (some ⟨w.heap.size, 0, none⟩) 2 2, .slice (some ⟨w.heap.size + 1, 0, none⟩) 1 1, .slice (some ⟨w.heap.size + 1 + 1, 0, none⟩) 3 3, .slice none 0 0] 25)
  rw [World.size_alloc, World.size_alloc, World.size_alloc] at hnew
  have r0 : Row (exW w) .u8 (some ⟨w.heap.size, 0, none⟩) [97, 98] := (((lit_row w [97, 98] 5 (2, 3)).alloc _).alloc _).alloc _
  have r1 : Row (exW w) .u8 (some ⟨w.heap.size + 1, 0, none⟩) [49] := by
    have := ((lit_row (w.alloc (.cells #[.int .u8 97, .int .u8 98] 5 (2, 3))) [49] 5 (1, 2)).alloc (.cells #[.int .u8 97, .int .u8 98, .int .u8 99] 5 (3, 4))).alloc (.cells #[.slice (some ⟨w.heap.size, 0, none⟩) 2 2, .slice (some ⟨w.heap.size + 1, 0, none⟩) 1 1, .slice (some ⟨w.heap.size + 1 + 1, 0, none⟩) 3 3, .slice none 0 0] 25)
    rw [World.size_alloc] at this
    exact this
  have r2 : Row (exW w) .u8 (some ⟨w.heap.size + 2, 0, none⟩) [97, 98, 99] := by
    have := (lit_row ((w.alloc (.cells #[.int .u8 97, .int .u8 98] 5 (2, 3))).alloc (.cells #[.int .u8 49] 5 (1, 2))) [97, 98, 99] 5 (3, 4)).alloc (.cells #[.slice (some ⟨w.heap.size, 0, none⟩) 2 2, .slice (some ⟨w.heap.size + 1, 0, none⟩) 1 1, .slice (some ⟨w.heap.size + 1 + 1, 0, none⟩) 3 3, .slice none 0 0] 25)
    rw [World.size_alloc, World.size_alloc] at this
    exact this
  refine ⟨fun i hi => ?_, fun i hi => ?_, fun i hi => ?_⟩
  all_goals
    have h01 : i = 0 ∨ i = 1 := by simp [exL] at hi; omega
  · rcases h01 with rfl | rfl <;> (unfold exW; rw [cell_of_row _ _ _ _ _ _ hnew]; rfl)
  · rcases h01 with rfl | rfl <;> (unfold exW; rw [cell_of_row _ _ _ _ _ _ hnew]; rfl)
  · rcases h01 with rfl | rfl
    · exact ⟨r0, r1, (fun h => by cases h), (fun h => by cases h), by simp [exL], by simp [exL], b8_lit (by simp [exL]), b8_lit (by simp [exL]), by simp [exL], by simp [exL]⟩
    · exact ⟨r2, row_nil _ _ _, (fun h => by cases h), (fun _ => ⟨rfl, rfl⟩), by simp [exL], by simp [exL], b8_lit (by simp [exL]), B8.nil, by simp [exL], by simp [exL]⟩

set_option maxRecDepth 100000 in
set_option maxHeartbeats 1600000 in
theorem blockNames_any (w : World) : Calls Try.prog 3 #[] w fun e w' => e = .returned (.bool true) ∧ Below w.heap.size w w' := by
  obtain ⟨i0, hi0, hz0, hz1, hz2⟩ := info_parts infoByte'
  go_enter Try.func3, Try.ntmps3
  go_wp2_with fail
  refine (lives_any _).mono ?_
  rintro e w1 ⟨rfl, t1⟩
  have T1 := hide t1
  clear t1
  have k1 := conv1
  have k2 := cv2
  have k3 := cv3
  have HB := hide (build_any (some ⟨w1.heap.size + 3, 0, none⟩) (w1.heap.size + 3) 0 2 2 (exL w1.heap.size) (exW w1) rfl (by omega) (fun _ => rfl) (ex_ens w1))
  have hw4 : exW w1 = (((w1.alloc (.cells #[.int .u8 97, .int .u8 98] 5 (2, 3))).alloc (.cells #[.int .u8 49] 5 (1, 2))).alloc (.cells #[.int .u8 97, .int .u8 98, .int .u8 99] 5 (3, 4))).alloc (.cells #[.slice (some ⟨w1.heap.size, 0, none⟩) 2 2, .slice (some ⟨w1.heap.size + 1, 0, none⟩) 1 1, .slice (some ⟨w1.heap.size + 1 + 1, 0, none⟩) 3 3, .slice none 0 0] 25) := rfl
  have T4 := hide (T1.out.trans ((exW_below w1).mono T1.out.size))
  go_wp2_with fail
  rw [← hw4]
  clear hw4
  refine HB.out.mono ?_
  rintro e w5 ⟨u, n, r, rfl, hE, hO, hb5⟩
  obtain ⟨rfl, hbl⟩ := ex_bld _ hE
  rw [hbl] at hO
  obtain ⟨g, c, rfl, _⟩ := slice_of_owns hO.owns (by decide)
  rw [exB_len] at hO ⊢
  have hn0 : n = 0 := (bldE.good (ex_ens w1) hE).2.2
  subst hn0
  have hc13 : 13 ≤ c := by obtain ⟨_, _, e, _, h3, _⟩ := hO.sliceN exB_len; cases e; exact h3
  have b8e : B8 exB := b8_lit (by decide)
  have T5 := hide (T4.out.trans (hb5.mono T4.out.size))
  have N1 : Hid (w.heap.size ≤ (exW w1).heap.size) := T4.out.size
  have O5 := hide hO
  clear HB hE hbl hb5 hO T4
  have hb6 : Below w5.heap.size w5 (w5.alloc (.cells #[.int .u8 2, .int .u8 0, .int .u8 2, .int .u8 1, .int .u8 97, .int .u8 98, .int .u8 49, .int .u8 2, .int .u8 1, .int .u8 0, .int .u8 99, .int .u8 1, .int .u8 0] 5)) := (Below.refl _ _).alloc (Nat.le_refl _) _
  have O6 := hide (O5.out.below hb6)
  have HSM := hide (same_any (some ⟨g, 0, none⟩) (some ⟨w5.heap.size, 0, none⟩) 13 c 13 13 exB exB (w5.alloc (.cells #[.int .u8 2, .int .u8 0, .int .u8 2, .int .u8 1, .int .u8 97, .int .u8 98, .int .u8 49, .int .u8 2, .int .u8 1, .int .u8 0, .int .u8 99, .int .u8 1, .int .u8 0] 5)) (by unfold maxLen; omega) rfl rfl O6.out.row (lit_row w5 exB 5 (0, 0)))
  rw [decide_eq_true rfl] at HSM
  have T6 := hide (T5.out.trans (hb6.mono T5.out.size))
  clear hb6
  generalize (exW w1).heap.size = NB at *
  go_wp2_with fail
  refine HSM.out.mono ?_
  rintro e w7 ⟨rfl, s7⟩
  have b7 := s7.below (w5.alloc (.cells #[.int .u8 2, .int .u8 0, .int .u8 2, .int .u8 1, .int .u8 97, .int .u8 98, .int .u8 49, .int .u8 2, .int .u8 1, .int .u8 0, .int .u8 99, .int .u8 1, .int .u8 0] 5)).heap.size
  have T7 := hide (T6.out.trans (b7.mono T6.out.size))
  have O7 := hide (O6.out.below b7)
  clear HSM s7 b7 T6 O6 O5 T5
  -- without its end
  have i12 : (12 : Int) ≤ (c : Int) := by omega
  have HR1 := hide (bread_any (some ⟨g, 0, none⟩) 12 c (exB.take 12) w7 rfl (by omega) (by omega) (fun h => by cases h) (O7.out.row.take 12) (b8_lit (by decide)))
  unfold RdB at HR1
  rw [ex_cut] at HR1
  go_wp2_with fail
  refine HR1.out.mono ?_
  rintro e w8 ⟨b8, ⟨h0, _⟩ | ⟨_, rfl⟩⟩
  · exact absurd h0 (by decide)
  have T8 := hide (T7.out.trans (b8.mono T7.out.size))
  have hb9 : Below w8.heap.size w8 (w8.alloc (.cells #[.int .u8 0] 5)) := (Below.refl _ _).alloc (Nat.le_refl _) _
  have O9 := hide ((O7.out.below b8).below hb9)
  have HC9 : Hid ((w8.alloc (.cells #[.int .u8 0] 5)).cell? ⟨w8.heap.size, 0, none⟩ = some (.int .u8 0)) := by show _ = _; rw [cell_of_row _ _ _ _ _ _ (heap_alloc_new w8 _)]; rfl
  have T9 := hide (T8.out.trans (hb9.mono T8.out.size))
  have NB9 : Hid (NB ≤ (w8.alloc (.cells #[.int .u8 0] 5)).heap.size) := by
    have h1 := (O9.out.owns.lt g rfl)
    show NB ≤ _
    omega
  clear HR1 b8 hb9 T7 O7 T8 i12
  go_wp2_with (first
    | (at_builtin; refine app_one rfl (.tmp 59) (.tmp 60) rfl i0 hi0 hz0 hz1 hz2 NB g c exB rfl rfl O9.out ⟨w8.heap.size, 0, none⟩ 0 1 rfl HC9.out NB9.out ?_; intro a' cap' w10 hcap' ra rb bel10; have RA := hide ra; have RB := hide rb; have T10 := hide (T9.out.trans (bel10.mono N1.out)); clear ra rb bel10)
    | fail)
  have HR2 := hide (bread_any (some a') 14 cap' (exB ++ [0]) w10 rfl (by omega) hcap' (fun h => by cases h) RA.out (b8_lit (by decide)))
  unfold RdB at HR2
  rw [ex_more] at HR2
  refine HR2.out.mono ?_
  rintro e w11 ⟨b11, ⟨h0, _⟩ | ⟨_, rfl⟩⟩
  · exact absurd h0 (by decide)
  have T11 := hide (T10.out.trans (b11.mono T10.out.size))
  have RB11 := hide (RB.out.below2 b11)
  have hb12 : Below w11.heap.size w11 (w11.alloc (.cells #[.int .u8 0] 5)) := (Below.refl _ _).alloc (Nat.le_refl _) _
  have RB12 := hide (RB11.out.below2 hb12)
  have T12 := hide (T11.out.trans (hb12.mono T11.out.size))
  have HR3 := hide (bread_any (some ⟨w11.heap.size, 0, none⟩) 1 1 [0] (w11.alloc (.cells #[.int .u8 0] 5)) rfl (by omega) (by omega) (fun h => by cases h) (lit_row w11 [0] 5 (0, 0)) (b8_lit (by decide)))
  unfold RdB at HR3
  rw [ex_zero] at HR3
  clear HR2 RA RB b11 hb12 RB11 T11 T10 T9 NB9 O9 HC9
  go_wp2_with fail
  refine HR3.out.mono ?_
  rintro e w13 ⟨b13, ⟨h0, _⟩ | ⟨_, rfl⟩⟩
  · exact absurd h0 (by decide)
  have T13 := hide (T12.out.trans (b13.mono T12.out.size))
  have RB13 := hide (RB12.out.below2 b13)
  have HB2 := hide (build_any none 0 0 0 0 [] w13 rfl (by omega) (fun h => absurd h (Nat.lt_irrefl _)) ⟨fun i h => absurd h (Nat.not_lt_zero i), fun i h => absurd h (Nat.not_lt_zero i), fun i h => absurd h (Nat.not_lt_zero i)⟩)
  clear HR3 b13 RB12 T12
  go_wp2_with fail
  refine HB2.out.mono ?_
  rintro e w14 ⟨u, n, r, rfl, hE, _, b14⟩
  obtain ⟨rfl, rfl⟩ : r = 61 ∧ n = 0 := by
    unfold bldE at hE
    rw [if_pos (by simp)] at hE
    exact hE
  have T14 := hide (T13.out.trans (b14.mono T13.out.size))
  have RB14 := hide (RB13.out.below2 b14)
  have hb15 : Below w14.heap.size w14 (w14.alloc (.cells #[.int .u8 97, .int .u8 98, .int .u8 99] 5 (3, 4))) := (Below.refl _ _).alloc (Nat.le_refl _) _
  have RB15 := hide (RB14.out.below2 hb15)
  have T15 := hide (T14.out.trans (hb15.mono T14.out.size))
  have HFD := hide (find_any (some ⟨g, 0, none⟩) 13 c exB (some ⟨w14.heap.size, 0, none⟩) 3 3 [97, 98, 99] (w14.alloc (.cells #[.int .u8 97, .int .u8 98, .int .u8 99] 5 (3, 4))) rfl (by omega) hc13 (fun h => by cases h) RB15.out b8e rfl (b8_lit (by decide)) (lit_row w14 [97, 98, 99] 5 (3, 4)))
  unfold FdPost at HFD
  rw [ex_whole] at HFD
  have HG : Hid (Good exK) := by have := (bRes_back b8e (by rw [ex_whole])).1; rw [ex_whole] at this; exact this
  clear HB2 hE b14 hb15 RB13 RB14 T13 T14
  go_wp2_with fail
  refine HFD.out.mono ?_
  rintro e w16 ⟨b16, va, vs, vc, b, er, rfl, _, hf⟩
  obtain ⟨hf1, rfl⟩ := hf (by trivial)
  obtain ⟨rfl, rfl⟩ := IsF.same HG.out hf1 (.inl ⟨rfl, 1, by decide, rfl, rfl⟩)
  rw [show (vlOf exK 1).length = 0 from rfl]
  have T16 := hide (T15.out.trans (b16.mono T15.out.size))
  clear hf hf1 b16 HFD
  go_wp2_with fail
  go_ret
  exact ⟨rfl, T16.out⟩

end Go.Proofs.Ytjnldmbjeiejdaa
