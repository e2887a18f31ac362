/- pair: After. -/
import Derived.Test.YtfcjbibnjibijaaKBack
namespace Go.Proofs.Ytfcjbibnjibijaa
open Go.RowKit Go.Shelf
attribute [local go_sem] Oper.semAt_some

theorem one_new (w : World) (x : Value) (T : TypeId) : ∀ ad, some (⟨w.heap.size, 0, none⟩ : Addr) = some ad → ∀ j u, [x][j]? = some u → (w.alloc (.cells #[x] T)).cell? (ad.add j) = some u := by
  intro ad had j u hu
  cases had
  rw [Addr.add_lit, Nat.zero_add, cell_of_row _ _ _ _ _ _ (heap_alloc_new w _)]
  match j, hu with
  | 0, hu => simpa using hu
theorem row_one (w : World) (c : Int) (T : TypeId) : Row (w.alloc (.cells #[.int .u8 c] T)) .u8 (some ⟨w.heap.size, 0, none⟩) [c] := by
  intro i hi
  obtain rfl : i = 0 := by simp at hi; omega
  exact ⟨_, 0, rfl, by rw [cell_of_row _ _ _ _ _ _ (heap_alloc_new w _)]; rfl⟩

def afS (xs : List Int) : Bool := (aft 64 xs).isSome
def afL (xs : List Int) : List Int := (aft 64 xs).getD []
theorem af_short (xs : List Int) (h : xs.length < 64) : afS xs = true ∧ afL xs = xs ++ [0] := by
  unfold afS afL; rw [aft_short 64 xs h]; exact ⟨rfl, rfl⟩
theorem af_none (xs : List Int) (h : 64 ≤ xs.length) (hc : ∀ i, i < 64 → ¬ xs.getD i 0 < 255) : afS xs = false ∧ afL xs = [] := by
  unfold afS afL; rw [aft_none 64 xs h hc]; exact ⟨rfl, rfl⟩
theorem af_at (xs : List Int) (j : Nat) (h : 64 ≤ xs.length) (hj : j < 64) (hc : xs.getD j 0 < 255) (hx : ∀ i, j < i → i < 64 → ¬ xs.getD i 0 < 255) : afS xs = true ∧ afL xs = xs.take j ++ [xs.getD j 0 + 1] := by
  unfold afS afL; rw [aft_at 64 xs j h hj hc hx]; exact ⟨rfl, rfl⟩

set_option maxHeartbeats 1600000 in
theorem after_short (a : Option Addr) (l c : Nat) (xs : List Int) (w : World) (hl : l < 64) (hn : a = none → l = 0 ∧ c = 0) (h1 : xs.length = l) (r1 : Row w .u8 a xs) :
    Calls Try.prog 29 #[.slice a l c] w fun e w' => ∃ v, e = .returned (.tuple #[v, .bool true]) ∧ OwnB w' w.heap.size 5 v (xs ++ [0]) ∧ Below w.heap.size w w' := by
  obtain ⟨i0, hi, hz0, hz1, hz2⟩ := info_parts infoByte'
  have R1 := hide r1
  have HN := hide hn
  clear r1 hn
  have i1 : (l : Int) < 64 := by omega
  go_enter Try.func29, Try.ntmps29
  go_wp2_with fail
  have R3 := hide (((R1.out.alloc (.cells #[.slice a l c] 23)).alloc (.cells #[.slice none 0 0] 23)).alloc (.cells #[.bool false] 4))
  have hb3 : Below w.heap.size w (((w.alloc (.cells #[.slice a l c] 23)).alloc (.cells #[.slice none 0 0] 23)).alloc (.cells #[.bool false] 4)) := (((Below.refl _ w).alloc (Nat.le_refl _) _).alloc (by simp) _).alloc (by simp; omega) _
  have x1 : Bx (((w.alloc (.cells #[.slice a l c] 23)).alloc (.cells #[.slice none 0 0] 23)).alloc (.cells #[.bool false] 4)) (w.heap.size + 1) 23 (.slice none 0 0) := by
    have := (Bx.new (w.alloc (.cells #[.slice a l c] 23)) 23 (.slice none 0 0)).alloc (.cells #[.bool false] 4)
    rwa [World.size_alloc] at this
  have x2 : Bx (((w.alloc (.cells #[.slice a l c] 23)).alloc (.cells #[.slice none 0 0] 23)).alloc (.cells #[.bool false] 4)) (w.heap.size + 2) 4 (.bool false) := by
    have := Bx.new ((w.alloc (.cells #[.slice a l c] 23)).alloc (.cells #[.slice none 0 0] 23)) 4 (.bool false)
    rwa [World.size_alloc, World.size_alloc] at this
  have hs3 : (((w.alloc (.cells #[.slice a l c] 23)).alloc (.cells #[.slice none 0 0] 23)).alloc (.cells #[.bool false] 4)).heap.size = w.heap.size + 3 := by simp
  refine (bclone_any a l c xs _ h1 (by omega) HN.out R3.out).mono ?_
  generalize ((w.alloc (.cells #[.slice a l c] 23)).alloc (.cells #[.slice none 0 0] 23)).alloc (.cells #[.bool false] 4) = w3 at *
  rintro e w4 ⟨v, rfl, hown, hb4⟩
  have u4 := Upd.of_below hb4 Noth
  have y1 := x1.upd u4 (fun e => e)
  have y2 := x2.upd u4 (fun e => e)
  have hs4 := hb4.size
  rw [hs3] at hown hs4
  have HO := hide hown
  have HY1 := hide y1
  have HY2 := hide y2
  have HS4 := hide hs4
  have HS3 := hide hs3
  have HFAC : Hid (∀ v5 w5, OwnB w5 (w.heap.size + 3) 5 v5 (xs ++ [0]) → (w4.alloc (.cells #[.int .u8 0] 5)).grownBy w5 v.ownBlock →
      ∃ a5 c5, v5 = .slice a5 (l + 1) c5 ∧ Bx w5 (w.heap.size + 1) 23 (.slice none 0 0) ∧ Bx w5 (w.heap.size + 1 + 1) 4 (.bool false) ∧ Upd (fun k => w.heap.size + 3 ≤ k) w4 w5) := fun v5 w5 ho hg => by
    have hu : Upd (fun k => w.heap.size + 3 ≤ k) w4 w5 := ((Upd.refl _ w4).alloc _).then (Upd.of_grown hg (fun k hk _ => (HO.out.owns.lt k hk).1)) (fun i hi e => e)
    obtain ⟨a5, c5, h5, _⟩ := ho.sliceN (n := l + 1) (by simp [h1])
    exact ⟨a5, c5, h5, HY1.out.upd hu (by omega), HY2.out.upd hu (by omega), hu⟩
  clear hown y1 y2 hs4 x1 x2 hs3
  go_wp2_with (first
    | (at_builtin; refine append_b rfl (.tmp 11) (.tmp 12) 23 rfl (w.heap.size + 3) 5 i0 Try.underlying23 hi hz0 hz1 hz2 v xs rfl (HO.out.below ((Below.refl _ _).alloc (Nat.le_refl _) _)) (some ⟨w4.heap.size, 0, none⟩) 1 1 [0] rfl rfl (by intro h; cases h) (row_one _ _ _) (by omega) (by have := HS4.out; simp; omega) ?_; intro v5 w5 hown5 hg5; obtain ⟨a5, c5, rfl, z1, z2, hu5⟩ := HFAC.out v5 w5 hown5 hg5; have k1 := z1.cell; have f1 := z1.fr; have k2 := z2.cell; have f2 := z2.fr; have k3 := fun u => (z2.set' (g' := w.heap.size + 1) (by omega) u).cell; have f3 := fun u => (z2.set' (g' := w.heap.size + 1) (by omega) u).fr)
    | fail)
  have q1 := ((z1.set (.slice a5 (l + 1) c5)).set' (g' := w.heap.size + 1 + 1) (by omega) (.bool true)).cell
  have q2 := ((z2.set' (g' := w.heap.size + 1) (by omega) (.slice a5 (l + 1) c5)).set (.bool true)).cell
  have hu6 : Upd (fun k => k = w.heap.size + 1 ∨ k = w.heap.size + 1 + 1) w5 ((w5.setCell ⟨w.heap.size + 1, 0, none⟩ (.slice a5 (l + 1) c5)).setCell ⟨w.heap.size + 1 + 1, 0, none⟩ (.bool true)) := ((Upd.refl _ _).setCell ⟨w.heap.size + 1, 0, none⟩ _ (fun _ => .inl rfl)).setCell ⟨w.heap.size + 1 + 1, 0, none⟩ _ (fun _ => .inr rfl)
  refine bodyPost_ret (v := .tuple #[.slice a5 (l + 1) c5, .bool true]) (by simp [results, Try.results29, go_sem, q1, q2]) rfl ⟨_, rfl, ?_, ?_⟩
  · exact (hown5.upd hu6 (fun k hk e => by have := (hown5.owns.lt k hk).1; omega)).mono (by omega)
  · have := HS4.out
    exact ((((Upd.of_below hb3 (fun k => w.heap.size ≤ k)).then (Upd.of_below hb4 Noth) (fun _ _ e => e.elim)).then hu5 (fun i hi e => by omega)).then hu6 (fun i hi e => by omega)).below (Nat.le_refl _) (fun k hk e => by omega)

theorem isByte_put {cur : Array Value} (h : ∀ u ∈ cur.toList, IsByte u) (k : Nat) (x : Int) : ∀ u ∈ (cur.setIfInBounds k (.int .u8 x)).toList, IsByte u := by
  intro u hu
  rw [Array.toList_setIfInBounds] at hu
  rcases List.mem_or_eq_of_mem_set hu with h1 | h1
  · exact h u h1
  · exact ⟨x, h1⟩
theorem OwnB.put {w : World} {base g n cap : Nat} {e : TypeId} {zs : List Int} (h : OwnB w base e (.slice (some ⟨g, 0, none⟩) n cap) zs) (j : Nat) (x : Int) : OwnB (w.setCell ⟨g, j, none⟩ (.int .u8 x)) base e (.slice (some ⟨g, 0, none⟩) n cap) (zs.set j x) := by
  rcases h with ⟨h, _⟩ | ⟨g', cap', cur, h1, h2, h3, h4, h5, h6, h7, h8⟩
  · cases h
  · cases h1
    refine .inr ⟨g, cap, cur.setIfInBounds j (.int .u8 x), by rw [List.length_set], h2, block_setCell h3 j _, by rw [List.length_set]; exact h4, h5, by rw [Array.size_setIfInBounds]; exact h6, ?_, isByte_put h8 j x⟩
    rw [List.length_set, List.map_set, ← h7, Array.toList_setIfInBounds, List.take_set]
theorem OwnB.at {w : World} {base g n cap : Nat} {e : TypeId} {zs : List Int} (h : OwnB w base e (.slice (some ⟨g, 0, none⟩) n cap) zs) (j : Nat) (hj : j < zs.length) : w.cell? ⟨g, j, none⟩ = some (.int .u8 (zs.getD j 0)) ∧ w.frozen? ⟨g, j, none⟩ = false := by
  refine ⟨?_, ?_⟩
  · obtain ⟨b', o', ha, hc⟩ := h.row j hj
    cases ha
    rwa [Nat.zero_add] at hc
  · rcases h with ⟨h, _⟩ | ⟨g', cap', cur, h1, h2, h3, _⟩
    · cases h
    · cases h1
      simp [World.frozen?, h3]

theorem Bx.setq {W : World} {g g' : Nat} {t : TypeId} {v : Value} (h : Bx W g t v) (hne : g ≠ g') (k : Nat) (v' : Value) : Bx (W.setCell ⟨g', k, none⟩ v') g t v := (Below.heap_setCell _ _ _ _ hne).trans h

/-- Between two rounds. -/
structure AfI (w : World) (b o l c : Nat) (pre : List (Nat × Int)) (W : World) : Prop where
  full : ∀ x ∈ pre, ¬ x.2 < 255
  x0 : Bx W w.heap.size 23 (.slice (some ⟨b, o, none⟩) l c)
  x1 : Bx W (w.heap.size + 1) 23 (.slice none 0 0)
  x2 : Bx W (w.heap.size + 1 + 1) 4 (.bool false)
  up : Upd (fun k => w.heap.size ≤ k) w W
/-- How it is left. -/
structure AfX (w : World) (xs : List Int) (cd : Code) (W : World) : Prop where
  ret : cd = .ret
  told : afS xs = true
  x1 : ∃ a' n' c', Bx W (w.heap.size + 1) 23 (.slice a' n' c') ∧ OwnB W (w.heap.size + 6) 5 (.slice a' n' c') (afL xs)
  x2 : Bx W (w.heap.size + 1 + 1) 4 (.bool true)
  up : Upd (fun k => w.heap.size ≤ k) w W

set_option maxRecDepth 100000 in
set_option maxHeartbeats 3200000 in
theorem after_long_in (n : Nat) (hn : 5 ≤ n) (b o l c : Nat) (xs : List Int) (w : World) (hl : 64 ≤ l) (hm : l ≤ 140737488351232) (hc : l ≤ c) (h1 : xs.length = l) (r1 : Row w .u8 (some ⟨b, o, none⟩) xs) (b8 : B8 xs) :
    CallsIn Fence.wide n Try.prog 29 #[.slice (some ⟨b, o, none⟩) l c] w fun e w' => ∃ v, e = .returned (.tuple #[v, .bool (afS xs)]) ∧ OwnB w' w.heap.size 5 v (afL xs) ∧ Below w.heap.size w w' := by
  have hn1 : 1 ≤ n := by omega
  have R1 := hide r1
  have H8 := hide b8
  obtain ⟨b', o', hbe, hblt, _⟩ := r1.cons (by omega)
  cases hbe
  clear r1 b8
  have i1 : ¬ (l : Int) < 64 := by omega
  have i2 : (64 : Int) ≤ (c : Int) := by omega
  refine callsIn_of_wp_marks Try.func29 rfl trivial ?_ rfl
  simp only [Try.ntmps29, List.size_toArray, List.length_cons, List.length_nil, Nat.reduceAdd, Nat.reduceSub, Array.replicate_succ, Array.replicate_zero, List.push_toArray, List.append_toArray, List.nil_append, List.cons_append]
  gi_wp2
  refine ⟨trivial, ((callsIn_wide (n := n - 1)).2 (backward_any _ _ _ _)).mono ?_⟩
  rintro e w' ⟨rfl, rfl⟩
  gi_wp2
  have x0 : Bx ((((w.alloc (.cells #[.slice (some ⟨b, o, none⟩) l c] 23)).alloc (.cells #[.slice none 0 0] 23)).alloc (.cells #[.bool false] 4)).alloc (.cells #[.slice (some ⟨b, o, none⟩) 64 c] 23)) w.heap.size 23 (.slice (some ⟨b, o, none⟩) l c) := (((Bx.new w 23 _).alloc _).alloc _).alloc _
  have x1 : Bx ((((w.alloc (.cells #[.slice (some ⟨b, o, none⟩) l c] 23)).alloc (.cells #[.slice none 0 0] 23)).alloc (.cells #[.bool false] 4)).alloc (.cells #[.slice (some ⟨b, o, none⟩) 64 c] 23)) (w.heap.size + 1) 23 (.slice none 0 0) := by
    have := ((Bx.new (w.alloc (.cells #[.slice (some ⟨b, o, none⟩) l c] 23)) 23 (.slice none 0 0)).alloc (.cells #[.bool false] 4)).alloc (.cells #[.slice (some ⟨b, o, none⟩) 64 c] 23)
    rwa [World.size_alloc] at this
  have x2 : Bx ((((w.alloc (.cells #[.slice (some ⟨b, o, none⟩) l c] 23)).alloc (.cells #[.slice none 0 0] 23)).alloc (.cells #[.bool false] 4)).alloc (.cells #[.slice (some ⟨b, o, none⟩) 64 c] 23)) (w.heap.size + 1 + 1) 4 (.bool false) := by
    have := (Bx.new ((w.alloc (.cells #[.slice (some ⟨b, o, none⟩) l c] 23)).alloc (.cells #[.slice none 0 0] 23)) 4 (.bool false)).alloc (.cells #[.slice (some ⟨b, o, none⟩) 64 c] 23)
    rwa [World.size_alloc, World.size_alloc] at this
  have x3 : Bx ((((w.alloc (.cells #[.slice (some ⟨b, o, none⟩) l c] 23)).alloc (.cells #[.slice none 0 0] 23)).alloc (.cells #[.bool false] 4)).alloc (.cells #[.slice (some ⟨b, o, none⟩) 64 c] 23)) (w.heap.size + 1 + 1 + 1) 23 (.slice (some ⟨b, o, none⟩) 64 c) := by
    have := Bx.new (((w.alloc (.cells #[.slice (some ⟨b, o, none⟩) l c] 23)).alloc (.cells #[.slice none 0 0] 23)).alloc (.cells #[.bool false] 4)) 23 (.slice (some ⟨b, o, none⟩) 64 c)
    rwa [World.size_alloc, World.size_alloc, World.size_alloc] at this
  have hu4 : Upd (fun k => w.heap.size ≤ k) w ((((w.alloc (.cells #[.slice (some ⟨b, o, none⟩) l c] 23)).alloc (.cells #[.slice none 0 0] 23)).alloc (.cells #[.bool false] 4)).alloc (.cells #[.slice (some ⟨b, o, none⟩) 64 c] 23)) := ((((Upd.refl _ _).alloc _).alloc _).alloc _).alloc _
  have hs4 : ((((w.alloc (.cells #[.slice (some ⟨b, o, none⟩) l c] 23)).alloc (.cells #[.slice none 0 0] 23)).alloc (.cells #[.bool false] 4)).alloc (.cells #[.slice (some ⟨b, o, none⟩) 64 c] 23)).heap.size = w.heap.size + 4 := by simp
  generalize (((w.alloc (.cells #[.slice (some ⟨b, o, none⟩) l c] 23)).alloc (.cells #[.slice none 0 0] 23)).alloc (.cells #[.bool false] 4)).alloc (.cells #[.slice (some ⟨b, o, none⟩) 64 c] 23) = w4 at x0 x1 x2 x3 hu4 hs4 ⊢
  have HRES : Hid (∀ D W act a' n' c' bb, D = w.heap.size + 4 → Bx W (w.heap.size + 1) 23 (.slice a' n' c') → Bx W (w.heap.size + 1 + 1) 4 (.bool bb) → bb = afS xs → OwnB W (w.heap.size + 6) 5 (.slice a' n' c') (afL xs) → Upd (fun k => w.heap.size ≤ k) w W → W.heap[D]? = some (.deferred (some [])) → (Act.tmps act)[2]?.getD undef = .pointer (some ⟨w.heap.size + 1, 0, none⟩) → act.tmps[3]?.getD undef = .pointer (some ⟨w.heap.size + 1 + 1, 0, none⟩) → act.defers = [{ target := .collected D, args := #[] }] →
      bodyPostM Fence.wide n Try.prog Try.f29 (fun e w' => ∃ v, e = .returned (.tuple #[v, .bool (afS xs)]) ∧ OwnB w' w.heap.size 5 v (afL xs) ∧ Below w.heap.size w w') Exit.ret act W) := hide fun D W act a' n' c' bb hD h1 h2 hbb hO hu hK ht2 ht3 hd => by
    have h1' : Bx (W.putObj D (.deferred none)) (w.heap.size + 1) 23 (.slice a' n' c') := (World.putObj_heap_other (by omega)).trans h1
    have h2' : Bx (W.putObj D (.deferred none)) (w.heap.size + 1 + 1) 4 (.bool bb) := (World.putObj_heap_other (by omega)).trans h2
    have c1 := h1'.cell
    have c2 := h2'.cell
    have hu2 : Upd (fun i => i = D) W (W.putObj D (.deferred none)) := (Upd.refl _ _).putObj _ _ (fun _ => rfl)
    obtain ⟨tm, df⟩ := act
    simp only at ht2 ht3 hd
    subst hd
    subst hbb
    refine ⟨by simp, .inl ⟨_, _, rfl, run_takeDeferred hK, ?_⟩⟩
    refine ⟨.tuple #[.slice a' n' c', .bool (afS xs)], by simp [results, Try.results29, go_sem, ht2, ht3, c1, c2], ?_⟩
    exact ⟨_, rfl, (hO.upd hu2 (fun k hk e => by have := (hO.owns.lt k hk).1; omega)).mono (by omega), (hu.then hu2 (fun i hi e => by omega)).below (Nat.le_refl _) (fun k hk e => by omega)⟩
  have R4 : Row w4 .u8 (some ⟨b, o, none⟩) xs := R1.out.upd hu4 (fun x hx _ => by cases hx; simp; omega)
  have hl64 : (xs.take 64).length = 64 := by rw [List.length_take]; omega
  have hg64 : ∀ j, j < 64 → (xs.take 64).getD j 0 = xs.getD j 0 := fun j hj => by
    simp only [List.getD_eq_getElem?_getD]
    rw [List.getElem?_take, if_pos hj]
  have hcs : ∀ j, j < 64 → w4.cell? ⟨b, o + j, none⟩ = some (.int .u8 ((xs.take 64).getD j 0)) := fun j hj => by
    obtain ⟨b', o', ha, hcc⟩ := R4 j (by omega)
    cases ha
    rw [hcc, hg64 j hj]
  have hseq := back_seq (n - 1) (by omega) (w.heap.size + 1 + 1 + 1) b o 64 c (xs.take 64) hl64 (by unfold maxLen; omega) w4 x3.cell hcs
  refine wpIn_range_w rfl hn1 (gf := 56) (lb := #[.pointer (some ⟨w.heap.size + 1 + 1 + 1, 0, none⟩)]) rfl trivial (enters_of Try.func56 (by kernel_rfl) rfl) hseq (fun k e => e.elim) (fun k e => by omega) (fun _ => rfl) (fun _ _ _ _ _ h _ _ => h)
    (AfI w b o l c) (fun cd _ W => AfX w xs cd W)
    ?hI ?hIx ⟨fun x hx => (by cases hx), x0, x1, x2, hu4⟩
    (fun x => { tmps := #[.slice (some ⟨b, o, none⟩) l c, .pointer (some ⟨w.heap.size, 0, none⟩), .pointer (some ⟨w.heap.size + 1, 0, none⟩), .pointer (some ⟨w.heap.size + 1 + 1, 0, none⟩), .int .i64 (x.1 : Int), .int .u8 x.2, undef, .slice (some ⟨b, o, none⟩) l c, .int .i64 (l : Int), .bool false, undef, undef, undef, undef, .slice (some ⟨b, o, none⟩) l c, .slice (some ⟨b, o, none⟩) 64 c,
      .func (.func 56) #[] #[.pointer (some ⟨w.heap.size + 1 + 1 + 1, 0, none⟩)], .int .i64 (x.1 : Int), .int .u8 x.2, undef, undef, undef, undef, undef, undef, undef, undef, undef, undef, undef, undef, undef, undef], defers := [] }) ?assign ?body ?done ?stop
  case hI =>
    rintro pre A A' h hu
    exact ⟨h.full, h.x0.upd hu (by omega), h.x1.upd hu (by omega), h.x2.upd hu (by omega), h.up.then hu (fun i hi e => by omega)⟩
  case hIx =>
    rintro cd pre A A' h hu
    obtain ⟨a', n', c', y1, y2⟩ := h.x1
    exact ⟨h.ret, h.told, ⟨a', n', c', y1.upd hu (by omega), y2.upd hu (fun k hk e => by have := (y2.owns.lt k hk).1; omega)⟩, h.x2.upd hu (by omega), h.up.then hu (fun i hi e => by omega)⟩
  case assign =>
    intro l x Wa K hK
    simp only [vbw]
    gi_wp2
    exact hK
  case body =>
    rintro lp pre x W0 Wc h hu ⟨hd1, hd2, hd3⟩ hlt0
    rw [hl64] at hd1 hd3
    have hq : x.1 < 64 := by rw [hd3]; simp; omega
    have hx2 : x.2 = xs.getD x.1 0 := by rw [hd3]; exact hg64 _ (by omega)
    have hbyte := H8.out (xs.getD x.1 0) (by rw [List.getD_eq_getElem?_getD, List.getElem?_eq_getElem (by omega)]; exact List.getElem_mem _)
    obtain ⟨q, cb⟩ := x
    simp only at hq hx2 hbyte ⊢
    have y0 := h.x0.upd hu (by rintro (e | e); exact e; omega)
    have y1 := h.x1.upd hu (by rintro (e | e); exact e; omega)
    have y2 := h.x2.upd hu (by rintro (e | e); exact e; omega)
    have hup : Upd (fun k => w.heap.size ≤ k) w Wc := h.up.then hu (fun i hi e => by rcases e with e | e; exact e.elim; omega)
    have hcell0 := y0.cell
    rw [← hx2] at hbyte
    by_cases hc255 : cb < 255
    · have HT : Hid (afS xs = true ∧ afL xs = xs.take q ++ [xs.getD q 0 + 1]) := by
        refine af_at xs q (by omega) hq (by omega) (fun i hi hi64 => ?_)
        have hm2 := bq_mem (xs.take 64) pre.length (63 - i) (by
          have : q = 64 - 1 - pre.length := by have := congrArg Prod.fst hd3; simpa using this
          omega)
        rw [← hd2, hl64, show 64 - 1 - (63 - i) = i by omega, hg64 i hi64] at hm2
        exact h.full _ hm2
      have R5 : Row Wc .u8 (some ⟨b, o, none⟩) xs := R1.out.upd hup (fun x hx _ => by cases hx; simp; omega)
      have R6 : Hid (Row Wc .u8 (some ⟨b, o, none⟩) (xs.take (q + 1))) := R5.take (q + 1)
      have hlq : (xs.take (q + 1)).length = q + 1 := by rw [List.length_take]; omega
      have HY1 := hide y1
      have HY2 := hide y2
      have HUP := hide hup
      have HX2 := hide hx2
      have HLT : Hid (w.heap.size + 6 ≤ Wc.heap.size) := by have := hu.size; show _ ≤ _; omega
      have HLQ := hide hlq
      have HS4 := hide hs4
      have hqc : (q : Int) + 1 ≤ (c : Int) := by omega
      clear h hu hd1 hd2 hd3 y1 y2 hup R5 hx2 hlq hseq hcs hg64 y0 x0 x1 x2 x3 R4 hu4 hs4
      gi_wp2
      refine ⟨trivial, fun _ => by omega, (CallsIn.inRound lp ((callsIn_wide (n := n - 1 - 1 - 1)).2 (bclone_some _ _ _ (xs.take (q + 1)) _ HLQ.out (by omega) R6.out))).mono ?_⟩
      rintro e w7 ⟨v, rfl, hown, hb7⟩
      obtain ⟨g, cap, rfl, hge⟩ := slice_of_owns (n := q + 1) (by have := hown.owns; rwa [HLQ.out] at this) (by omega)
      have hat := hown.at q (by have := HLQ.out; omega)
      have e7 : (xs.take (q + 1)).getD q 0 = cb := by
        rw [HX2.out]
        simp only [List.getD_eq_getElem?_getD]
        rw [List.getElem?_take, if_pos (by omega)]
      rw [e7] at hat
      have hcq := hat.1
      have hfq := hat.2
      have hu7 : Upd Noth Wc w7 := Upd.of_below hb7 Noth
      have z1 := HY1.out.upd hu7 (fun e => e)
      have z2 := HY2.out.upd hu7 (fun e => e)
      have hgl := HLT.out
      have hlen2 : (xs.take (q + 1)).set q (cb + 1) = xs.take q ++ [xs.getD q 0 + 1] := by
        rw [← HX2.out, List.take_succ_eq_append_getElem (by omega), List.set_append_right _ _ (by rw [List.length_take]; omega)]
        simp [show min q xs.length = q by omega]
      have HO8 : Hid (OwnB (w7.setCell ⟨g, q, none⟩ (.int .u8 (cb + 1))) (w.heap.size + 6) 5 (.slice (some ⟨g, 0, none⟩) (q + 1) cap) (afL xs)) := by
        have := hown.put q (cb + 1)
        rw [hlen2, ← HT.out.2] at this
        exact this.mono (by omega)
      have u1 := z1.setq (g' := g) (by omega) q (.int .u8 (cb + 1))
      have u2 := z2.setq (g' := g) (by omega) q (.int .u8 (cb + 1))
      have k1 := z1.cell
      have f1 := z1.fr
      have k2 := z2.cell
      have f2 := z2.fr
      have n1 : ¬ w.heap.size + 1 = g := by omega
      have n2 : ¬ w.heap.size + 1 + 1 = g := by omega
      have n3 : ¬ w.heap.size + 1 + 1 = w.heap.size + 1 := by omega
      have HP1 : Hid (Bx (((w7.setCell ⟨g, q, none⟩ (.int .u8 (cb + 1))).setCell ⟨w.heap.size + 1, 0, none⟩ (.slice (some ⟨g, 0, none⟩) (q + 1) cap)).setCell ⟨w.heap.size + 1 + 1, 0, none⟩ (.bool true)) (w.heap.size + 1) 23 (.slice (some ⟨g, 0, none⟩) (q + 1) cap)) := by
        have := (u1.set (.slice (some ⟨g, 0, none⟩) (q + 1) cap)).set' (g' := w.heap.size + 1 + 1) (by omega) (.bool true)
        exact this
      have HP2 : Hid (Bx (((w7.setCell ⟨g, q, none⟩ (.int .u8 (cb + 1))).setCell ⟨w.heap.size + 1, 0, none⟩ (.slice (some ⟨g, 0, none⟩) (q + 1) cap)).setCell ⟨w.heap.size + 1 + 1, 0, none⟩ (.bool true)) (w.heap.size + 1 + 1) 4 (.bool true)) := by
        have := (u2.set' (g' := w.heap.size + 1) (by omega) (.slice (some ⟨g, 0, none⟩) (q + 1) cap)).set (.bool true)
        exact this
      have HFIN : Hid (∀ w9, Hid (w9 = ((w7.setCell ⟨g, q, none⟩ (.int .u8 (cb + 1))).setCell ⟨w.heap.size + 1, 0, none⟩ (.slice (some ⟨g, 0, none⟩) (q + 1) cap)).setCell ⟨w.heap.size + 1 + 1, 0, none⟩ (.bool true)) →
          Upd (fun k => k ≠ w4.heap.size ∧ k ≠ w4.heap.size + 1) Wc w9 ∧ AfX w xs .ret w9) := fun w9 hw9 => by
        obtain rfl := hw9.out
        have hs4 := HS4.out
        have ua : Upd (fun k => k = g ∨ k = w.heap.size + 1 ∨ k = w.heap.size + 1 + 1) w7 (((w7.setCell ⟨g, q, none⟩ (.int .u8 (cb + 1))).setCell ⟨w.heap.size + 1, 0, none⟩ (.slice (some ⟨g, 0, none⟩) (q + 1) cap)).setCell ⟨w.heap.size + 1 + 1, 0, none⟩ (.bool true)) :=
          (((Upd.refl _ _).setCell ⟨g, q, none⟩ _ (fun _ => .inl rfl)).setCell ⟨w.heap.size + 1, 0, none⟩ _ (fun _ => .inr (.inl rfl))).setCell ⟨w.heap.size + 1 + 1, 0, none⟩ _ (fun _ => .inr (.inr rfl))
        have ub : Upd (fun k => k = w.heap.size + 1 ∨ k = w.heap.size + 1 + 1) (w7.setCell ⟨g, q, none⟩ (.int .u8 (cb + 1))) (((w7.setCell ⟨g, q, none⟩ (.int .u8 (cb + 1))).setCell ⟨w.heap.size + 1, 0, none⟩ (.slice (some ⟨g, 0, none⟩) (q + 1) cap)).setCell ⟨w.heap.size + 1 + 1, 0, none⟩ (.bool true)) :=
          ((Upd.refl _ _).setCell ⟨w.heap.size + 1, 0, none⟩ _ (fun _ => .inl rfl)).setCell ⟨w.heap.size + 1 + 1, 0, none⟩ _ (fun _ => .inr rfl)
        have p3 := HO8.out.upd ub (fun k hk e => by have := (HO8.out.owns.lt k hk).1; omega)
        have p4 : Upd (fun k => k ≠ w4.heap.size ∧ k ≠ w4.heap.size + 1) Wc _ := hu7.noth.then ua (fun i hi e => by omega)
        have p5 : Upd (fun k => w.heap.size ≤ k) w _ := (HUP.out.then hu7 (fun _ _ e => e.elim)).then ua (fun i hi e => by omega)
        exact ⟨p4, rfl, HT.out.1, ⟨_, _, _, HP1.out, p3⟩, HP2.out, p5⟩
      clear hat hown e7 hu7 z1 z2 hlen2 u1 u2 hb7
      gi_wp2
      exact HFIN.out _ rfl
    · have HF : Hid (AfI w b o l c (pre ++ [(q, cb)]) Wc) := ⟨fun z hz => by
        rcases List.mem_append.1 hz with hz | hz
        · exact h.full z hz
        · simp at hz; subst hz; exact hc255, y0, y1, y2, hup⟩
      clear h hu hd1 hd2 hd3 y1 y2 hup hx2 hseq hcs hg64 y0 x0 x1 x2 x3 R4 hu4 hs4 hl64
      gi_wp2
      exact ⟨Upd.refl _ _, HF.out⟩
  case done =>
    rintro D ys W0 W1 W hD hI hu1 hS hu2 hlt hK
    have HT : Hid (afS xs = false ∧ afL xs = []) := af_none xs (by omega) (fun i hi64 => by
      have hm2 := bq_mem (xs.take 64) 64 (63 - i) (by omega)
      rw [← hS, hl64, show 64 - 1 - (63 - i) = i by omega, hg64 i hi64] at hm2
      exact hI.full _ hm2)
    have y1 := (hI.x1.upd hu1 (fun e => e)).upd hu2 (by omega)
    have y2 := (hI.x2.upd hu1 (fun e => e)).upd hu2 (by omega)
    have hup : Upd (fun k => w.heap.size ≤ k) w W := (hI.up.then hu1 (fun _ _ e => e.elim)).then hu2 (fun i hi e => by omega)
    have k1 := y1.cell
    have f1 := y1.fr
    have k2 := y2.cell
    have f2 := y2.fr
    have n3 : ¬ w.heap.size + 1 + 1 = w.heap.size + 1 := by omega
    have HY : Hid (Bx W (w.heap.size + 1) 23 (.slice none 0 0) ∧ Bx W (w.heap.size + 1 + 1) 4 (.bool false)) := ⟨y1, y2⟩
    have HUP := hide hup
    have HK := hide hK
    have HD : Hid (D = w.heap.size + 4) := by show _ = _; omega
    clear hI hu1 hS hu2 hlt hK hseq hcs hg64 x0 x1 x2 x3 R4 hu4 hs4 hl64 y1 y2 hup hD
    have HFIN : Hid (∀ w9 act, Hid (w9 = (W.setCell ⟨w.heap.size + 1, 0, none⟩ (.slice none 0 0)).setCell ⟨w.heap.size + 1 + 1, 0, none⟩ (.bool false)) → (Act.tmps act)[2]?.getD undef = .pointer (some ⟨w.heap.size + 1, 0, none⟩) → act.tmps[3]?.getD undef = .pointer (some ⟨w.heap.size + 1 + 1, 0, none⟩) → act.defers = [{ target := .collected D, args := #[] }] →
        bodyPostM Fence.wide n Try.prog Try.f29 (fun e w' => ∃ v, e = .returned (.tuple #[v, .bool (afS xs)]) ∧ OwnB w' w.heap.size 5 v (afL xs) ∧ Below w.heap.size w w') Exit.ret act w9) := fun w9 act hw9 => by
      obtain rfl := hw9.out
      have hD := HD.out
      have ub : Upd (fun k => k = w.heap.size + 1 ∨ k = w.heap.size + 1 + 1) W ((W.setCell ⟨w.heap.size + 1, 0, none⟩ (.slice none 0 0)).setCell ⟨w.heap.size + 1 + 1, 0, none⟩ (.bool false)) :=
        ((Upd.refl _ _).setCell ⟨w.heap.size + 1, 0, none⟩ _ (fun _ => .inl rfl)).setCell ⟨w.heap.size + 1 + 1, 0, none⟩ _ (fun _ => .inr rfl)
      have p1 := (HY.out.1.set (.slice none 0 0)).set' (g' := w.heap.size + 1 + 1) (by omega) (.bool false)
      have p2 := (HY.out.2.set' (g' := w.heap.size + 1) (by omega) (.slice none 0 0)).set (.bool false)
      exact HRES.out D _ act none 0 0 false hD p1 p2 HT.out.1.symm (by rw [HT.out.2]; exact OwnB.nil _ _ _) (HUP.out.then ub (fun i hi e => by omega)) (ub.heap HK.out (by omega))
    dsimp only
    gi_wp2
    exact HFIN.out _ _ rfl rfl rfl rfl
  case stop =>
    rintro D cd pre W hD hX hK
    obtain rfl := hX.ret
    obtain ⟨a', n', c', y1, y2⟩ := hX.x1
    have HF := hide (fun act => HRES.out D W act a' n' c' true (by omega) y1 hX.x2 hX.told.symm y2 hX.up hK)
    clear hX hseq hcs hg64 x0 x1 x2 x3 R4 hu4 hs4 hl64 y1 y2 hK
    dsimp only
    gi_wp2
    exact HF.out _ rfl rfl rfl

theorem after_any (a : Option Addr) (l c : Nat) (xs : List Int) (w : World) (hm : l ≤ 140737488351232) (hc : l ≤ c) (hn : a = none → l = 0 ∧ c = 0) (h1 : xs.length = l) (r1 : Row w .u8 a xs) (b8 : B8 xs) :
    Calls Try.prog 29 #[.slice a l c] w fun e w' => ∃ v, e = .returned (.tuple #[v, .bool (afS xs)]) ∧ OwnB w' w.heap.size 5 v (afL xs) ∧ Below w.heap.size w w' := by
  by_cases hl : l < 64
  · have h := af_short xs (by omega)
    rw [h.1, h.2]
    exact after_short a l c xs w hl hn h1 r1
  · obtain ⟨b, o, rfl, _, _⟩ := r1.cons (by omega)
    exact callsIn_wide.1 (after_long_in 5 (Nat.le_refl _) b o l c xs w (by omega) hm hc h1 r1 b8)

end Go.Proofs.Ytfcjbibnjibijaa
