/- arena: New, Alloc. -/
import Derived.Test.YtfpogjgbmibmcaaAOps1
import Derived.Test.YtfpogjgbmibmcaaAApp
namespace Go.Proofs.Ytfpogjgbmibmcaa
open Go.RowKit

set_option maxHeartbeats 800000 in
theorem new_bad (nodes : Int) (w : World) (h : ¬ (1 ≤ nodes ∧ nodes ≤ 65536)) : Calls Try.prog 12 #[.int .i64 nodes] w fun e w' => e = .returned (.tuple #[.pointer none, .int .i64 1]) ∧ w' = w := by
  by_cases h1 : nodes < 1
  · clear h
    go_enter Try.func12, Try.ntmps12
    go_wp2_with fail
    go_ret2
    exact ⟨rfl, rfl⟩
  · have h2 : 65536 < nodes := by omega
    clear h
    go_enter Try.func12, Try.ntmps12
    go_wp2_with fail
    go_ret2
    exact ⟨rfl, rfl⟩
/-- What New gives. -/
def NewPost (w : World) (nodes : Int) (e : Ending) (w' : World) : Prop :=
  ∃ A b M, e = .returned (.tuple #[.pointer (some ⟨A, 0, none⟩), .int .i64 0]) ∧ PA w' A M Noth nodes 1 [⟨b, 0, Nd.zero⟩] ∧ (∀ k, M k → w.heap.size ≤ k) ∧ Below w.heap.size w w'
set_option maxHeartbeats 800000 in
theorem new_good (nodes : Int) (w : World) (h1 : 1 ≤ nodes) (h2 : nodes ≤ 65536) : Calls Try.prog 12 #[.int .i64 nodes] w (NewPost w nodes) := by
  have j1 : ¬ nodes < 1 := by omega
  have j2 : ¬ 65536 < nodes := by omega
  obtain ⟨w1, hw1⟩ : ∃ w1, w1 = w.alloc (.cells #[.int .u64 0, .int .i64 0, .slice none 0 0, .int .i64 0, .slice none 0 0, .slice none 0 0, .slice none 0 0] 94) := ⟨_, rfl⟩
  obtain ⟨w2, hw2⟩ : ∃ w2, w2 = w1.alloc (.cells #[.pointer (some ⟨w.heap.size, 0, none⟩)] 85) := ⟨_, rfl⟩
  obtain ⟨w3, hw3⟩ : ∃ w3, w3 = w2.alloc (.cells #[.slice (some ⟨w.heap.size + 1, 0, none⟩) 1 1, .int .i64 nodes, .int .i64 1] 97) := ⟨_, rfl⟩
  have s1 : w1.heap.size = w.heap.size + 1 := by rw [hw1]; simp
  have s2 : w2.heap.size = w.heap.size + 1 + 1 := by rw [hw2]; simp [s1]
  have s3 : w3.heap.size = w.heap.size + 3 := by rw [hw3]; simp [s2]
  have a1 : w3.heap[w.heap.size]? = some (.cells #[.int .u64 0, .int .i64 0, .slice none 0 0, .int .i64 0, .slice none 0 0, .slice none 0 0, .slice none 0 0] 94 (0, 0)) := by
    rw [hw3, Below.heap_alloc _ _ _ (by omega), hw2, Below.heap_alloc _ _ _ (by omega), hw1]; exact heap_alloc_new w _
  have a2 : w3.heap[w.heap.size + 1]? = some (.cells #[.pointer (some ⟨w.heap.size, 0, none⟩)] 85 (0, 0)) := by
    rw [hw3, Below.heap_alloc _ _ _ (by omega), hw2, ← s1]; exact heap_alloc_new w1 _
  have a3 : w3.heap[w.heap.size + 1 + 1]? = some (.cells #[.slice (some ⟨w.heap.size + 1, 0, none⟩) 1 1, .int .i64 nodes, .int .i64 1] 97 (0, 0)) := by
    rw [hw3, ← s2]; exact heap_alloc_new w2 _
  have B : Below w.heap.size w w3 := by
    rw [hw3, hw2, hw1]
    exact (((Below.refl _ _).alloc (Nat.le_refl _) _).alloc (by simp) _).alloc (by simp; omega) _
  have HP : Hid (NewPost w nodes (.returned (.tuple #[.pointer (some ⟨w.heap.size + 1 + 1, 0, none⟩), .int .i64 0])) w3) := by
    refine ⟨w.heap.size + 1 + 1, w.heap.size, fun k => w.heap.size ≤ k ∧ k < w.heap.size + 3, rfl, ⟨⟨w.heap.size + 1, 1, a3, ⟨rfl, .inr ⟨w.heap.size + 1, 1, _, rfl, Nat.zero_le _, a2, Nat.le_refl _, by unfold maxLen; omega, rfl, rfl⟩⟩, by omega, by omega⟩, ⟨by omega, by omega⟩, ?_, fun k _ e => e, ?_, by simp, Nat.le_refl _, h1, h2⟩, fun k hk => hk.1, B⟩
    · intro k hk
      rcases hk with hk | hk
      · omega
      · exact hk.elim
    · intro s hs
      obtain rfl := List.mem_singleton.1 hs
      exact ⟨a1, ⟨Nat.le_refl _, by simp only; omega⟩, Nd.zero_ok _, Nd.zero_in _, by simp only; decide⟩
  have HW : Hid (w3 = ((w.alloc (.cells #[.int .u64 0, .int .i64 0, .slice none 0 0, .int .i64 0, .slice none 0 0, .slice none 0 0, .slice none 0 0] 94)).alloc (.cells #[.pointer (some ⟨w.heap.size, 0, none⟩)] 85)).alloc (.cells #[.slice (some ⟨w.heap.size + 1, 0, none⟩) 1 1, .int .i64 nodes, .int .i64 1] 97)) := by
    show _ = _
    rw [hw3, hw2, hw1]
  clear s1 s2 s3 a1 a2 a3 B hw1 hw2 hw3 h1 h2
  go_enter Try.func12, Try.ntmps12
  go_wp2_with fail
  go_ret2
  rw [← HW.out]
  exact HP.out

/-- One slot more. -/
theorem PA.push {W W5 : World} {A : Nat} {M D : Nat → Prop} {nodes root : Int} {L : List Sl} (h : PA W A M D nodes root L) (hn : (L.length : Int) < nodes) (hu : Upd M W W5) {g c b : Nat}
    (hA : W5.heap[A]? = some (.cells #[.slice (some ⟨g, 0, none⟩) (L.length + 1) c, .int .i64 nodes, .int .i64 root] 97 (0, 0)))
    (ho : W5.ownsRow 0 85 1 (.slice (some ⟨g, 0, none⟩) (L.length + 1) c) (L.length + 1) (L.map Sl.ptr ++ [.pointer (some ⟨b, 0, none⟩)])) (hg : M g ∨ W.heap.size ≤ g)
    (hs : ∀ s ∈ L, W5.heap[s.b]? = W.heap[s.b]?) (hb : W.heap.size ≤ b) (hbk : W5.heap[b]? = some (.cells (Sl.cells ⟨b, 1, Nd.zero⟩) 94 (0, 0))) :
    PA W5 A (fun k => M k ∨ (W.heap.size ≤ k ∧ k < W5.heap.size)) D nodes root (L ++ [⟨b, 1, Nd.zero⟩]) := by
  have hgl : g < W5.heap.size := (ho.lt g rfl).2
  have hl : (L ++ [(⟨b, 1, Nd.zero⟩ : Sl)]).length = L.length + 1 := by simp
  have hbl := lt_of_block hbk
  refine ⟨⟨g, c, by rw [hl]; exact hA, ?_, ?_⟩, .inl h.mA, ?_, ?_, ?_, ?_, by rw [hl]; omega, by rw [hl]; omega, h.nz⟩
  · rw [hl, List.map_append]; exact ho
  · rcases hg with hg | hg
    · exact .inl hg
    · exact .inr ⟨hg, hgl⟩
  · intro k hk
    rcases hk with (hk | hk) | hk
    · exact Nat.lt_of_lt_of_le (h.lt k (.inl hk)) hu.size
    · exact hk.2
    · exact Nat.lt_of_lt_of_le (h.lt k (.inr hk)) hu.size
  · intro k hk hd
    rcases hk with hk | hk
    · exact h.dj k hk hd
    · have := h.lt k (.inr hd); omega
  · intro s hs'
    rcases List.mem_append.1 hs' with hs' | hs'
    · have ho := h.sl s hs'
      exact ⟨(hs s hs').trans ho.c, .inl ho.m, ho.n.upd ho.d hu (fun k hk e => h.dj k e hk), ho.d, ho.w⟩
    · obtain rfl := List.mem_singleton.1 hs'
      exact ⟨hbk, .inr ⟨hb, hbl⟩, Nd.zero_ok _, Nd.zero_in _, by simp only; decide⟩
  · rw [List.map_append, List.nodup_append]
    refine ⟨h.nd, by simp, ?_⟩
    intro x hx y hy e
    obtain ⟨s, hs', rfl⟩ := List.mem_map.1 hx
    simp only [List.map_cons, List.map_nil, List.mem_singleton] at hy
    have := h.lt s.b (.inl (h.sl s hs').m)
    omega

/-- What Alloc gives where there is room. -/
def AlPost (w : World) (A : Nat) (M D : Nat → Prop) (nodes root : Int) (L : List Sl) (e : Ending) (w' : World) : Prop :=
  ∃ M' b, e = .returned (.tuple #[.int .i64 ((L.length : Int) + 1), .int .i64 0]) ∧ PA w' A M' D nodes root (L ++ [⟨b, 1, Nd.zero⟩]) ∧ (∀ k, M' k → M k ∨ w.heap.size ≤ k) ∧ Upd M w w'
theorem infoP' : (Try.prog.info? 85).map (fun i => (i.zero, i.size, i.bytes)) = some (some (.pointer none), 1, 8) := by kernel_rfl
set_option maxHeartbeats 800000 in
theorem alloc_full {w : World} {A : Nat} {M D : Nat → Prop} {nodes root : Int} {L : List Sl} (h : PA w A M D nodes root L) (hn : (L.length : Int) = nodes) :
    Calls Try.prog 15 #[.pointer (some ⟨A, 0, none⟩)] w fun e w' => e = .returned (.tuple #[.int .i64 0, .int .i64 2]) ∧ ∃ k, w' = w.drewN k := by
  have HL := hide (left_any h)
  rw [show nodes - ((L.length : Nat) : Int) = 0 by omega] at HL
  clear h hn
  go_enter Try.func15, Try.ntmps15
  go_wp2_with fail
  refine HL.out.mono ?_
  rintro e w1 ⟨rfl, k, rfl⟩
  go_wp2_with fail
  go_ret2
  exact ⟨rfl, _, rfl⟩
set_option maxRecDepth 100000 in
set_option maxHeartbeats 1600000 in
theorem alloc_any {w : World} {A : Nat} {M D : Nat → Prop} {nodes root : Int} {L : List Sl} (h : PA w A M D nodes root L) (hn : (L.length : Int) < nodes) :
    Calls Try.prog 15 #[.pointer (some ⟨A, 0, none⟩)] w (AlPost w A M D nodes root L) := by
  obtain ⟨i0, hi, hz0, hz1, hz2⟩ := info_parts infoP'
  have HL := hide (left_any h)
  have HN := hide hn
  obtain ⟨r, hr⟩ : ∃ r, r = nodes - ((L.length : Nat) : Int) := ⟨_, rfl⟩
  rw [← hr] at HL
  have jr : ¬ r = 0 := by omega
  have HP := hide h
  have hl6 := h.n_le
  clear h hn hr
  obtain ⟨n, hln⟩ : ∃ n, L.length = n := ⟨_, rfl⟩
  rw [hln] at hl6
  have HLN := hide hln
  clear hln
  go_enter Try.func15, Try.ntmps15
  go_wp2_with fail
  refine HL.out.mono ?_
  rintro e w1 ⟨rfl, k, hk⟩
  have P1 : Hid (PA w1 A M D nodes root L) := by show PA _ _ _ _ _ _ _; rw [hk]; exact HP.out.drewN k
  have U1 : Hid (Upd M w w1) := by show Upd _ _ _; rw [hk]; exact upd_drewN _ _ _
  have Z1 : Hid (w1.heap.size = w.heap.size) := by show _ = _; rw [hk]; rfl
  clear hk HP HL
  obtain ⟨w2, hw2⟩ : ∃ w2, w2 = w1.alloc (.cells #[.int .u64 0, .int .i64 0, .slice none 0 0, .int .i64 0, .slice none 0 0, .slice none 0 0, .slice none 0 0] 94) := ⟨_, rfl⟩
  have z2 : w2.heap.size = w1.heap.size + 1 := by rw [hw2]; simp
  have b2 : w2.heap[w1.heap.size]? = some (.cells #[.int .u64 0, .int .i64 0, .slice none 0 0, .int .i64 0, .slice none 0 0, .slice none 0 0, .slice none 0 0] 94 (0, 0)) := by rw [hw2]; exact heap_alloc_new w1 _
  have B2 : Below w1.heap.size w1 w2 := by rw [hw2]; exact (Below.refl _ _).alloc (Nat.le_refl _) _
  have HT := hide (take_hit w1.heap.size 0 w2 (by rw [cell_of_row _ _ _ _ _ _ b2]; rfl) (frozen_of b2 0) (by decide) rfl)
  obtain ⟨w3, hw3⟩ : ∃ w3, w3 = w2.setCell ⟨w1.heap.size, 0, none⟩ (.int .u64 ((0 + 1 : Nat) : Int)) := ⟨_, rfl⟩
  rw [← hw3] at HT
  have b3 : w3.heap[w1.heap.size]? = some (.cells (Sl.cells ⟨w1.heap.size, 1, Nd.zero⟩) 94 (0, 0)) := by rw [hw3]; exact block_setCell b2 0 _
  have B3 : Below w1.heap.size w1 w3 := by rw [hw3]; exact B2.setCell (Nat.le_refl _) _
  have z3 : w3.heap.size = w1.heap.size + 1 := by rw [hw3]; simp [World.setCell, z2]
  have P3 := hide (P1.out.below B3)
  obtain ⟨g, c, hA3, ho3, hg3⟩ := P3.out.row
  have c0 : w3.cell? ⟨A, 0, none⟩ = some (.slice (some ⟨g, 0, none⟩) n c) := by rw [cell_of_row _ _ _ _ _ _ hA3, ← HLN.out]; rfl
  have HW2 := hide hw2
  have HA3 := hide hA3
  have HO3 := hide ho3
  have HG3 := hide hg3
  have Bb3 := hide b3
  have BB3 := hide B3
  have Z3 := hide z3
  clear hw2 hA3 ho3 hg3 b3 B3 B2 b2 z2 z3 hw3
  go_wp2_with fail
  rw [← HW2.out]
  refine HT.out.mono ?_
  rintro e w3' ⟨rfl, h3⟩
  rw [h3]
  clear h3 w3'
  have HPB : Hid (∀ j u, [Value.pointer (some ⟨w1.heap.size, 0, none⟩)][j]? = some u → (w3.alloc (.cells #[.pointer (some ⟨w1.heap.size, 0, none⟩)] 85)).cell? ((⟨w3.heap.size, 0, none⟩ : Addr).add j) = some u) := cell_one_new _ _ _
  have HO4 := hide (HO3.out.alloc (.cells #[.pointer (some ⟨w1.heap.size, 0, none⟩)] 85))
  rw [HLN.out] at HO4
  have HRN := hide (P3.out.row_ne HO3.out)
  have HA4 : Hid ((w3.alloc (.cells #[.pointer (some ⟨w1.heap.size, 0, none⟩)] 85)).heap[A]? = _) := (Below.heap_alloc _ _ _ (lt_of_block HA3.out)).trans HA3.out
  go_wp2_with (first
    | (at_builtin; refine append_mineN rfl (.tmp 18) (.tmp 20) 95 rfl 0 85 i0 (.pointer none) 1 8 Try.underlying95 hi hz0 hz1 hz2 rfl (by decide) (.slice (some ⟨g, 0, none⟩) n c) n (L.map Sl.ptr) rfl HO4.out ⟨w3.heap.size, 0, none⟩ 1 1 [.pointer (some ⟨w1.heap.size, 0, none⟩)] rfl rfl HPB.out (by intro u hu; simp at hu; subst hu; rfl) (by omega) (by unfold maxLen; omega) (by omega) (Nat.zero_le _) ?_; intro g' c' w5 hown5 hg5 hor5; have HA5 := hide ((hg5.block A (lt_of_block HA4.out) (fun e => HRN.out.1 (Option.some.inj e).symm)).trans HA4.out); have HOW5 := hide hown5; have HG5 := hide hg5; have HOR5 := hide hor5; clear hown5 hg5 hor5; have f5 := frozen_of HA5.out 0; have c5 : w5.cell? ⟨A, 0, none⟩ = some (.slice (some ⟨g, 0, none⟩) n c) := (by rw [cell_of_row _ _ _ _ _ _ HA5.out, ← HLN.out]; rfl))
    | fail)
  obtain ⟨w6, hw6⟩ : ∃ w6, w6 = w5.setCell ⟨A, 0, none⟩ (.slice (some ⟨g', 0, none⟩) (n + 1) c') := ⟨_, rfl⟩
  have hA6 : w6.heap[A]? = some (.cells #[.slice (some ⟨g', 0, none⟩) (n + 1) c', .int .i64 nodes, .int .i64 root] 97 (0, 0)) := by rw [hw6]; exact block_setCell HA5.out 0 _
  have HU := hide (used_raw A _ (n + 1) c' w6 (by rw [cell_of_row _ _ _ _ _ _ hA6]; rfl))
  have hm : ∀ k, k = A → M k := fun k e => by rw [e]; exact P1.out.mA
  have U13 : Upd (fun k => M k) w1 w3 := Upd.of_below BB3.out _
  have U35 : Upd M w3 w5 := ((Upd.refl M w3).alloc _).trans (Upd.of_grown HG5.out (fun k hk _ => by cases hk; exact HG3.out))
  have U15 := U13.trans U35
  have U16 : Upd M w1 w6 := by rw [hw6]; exact U15.setCell _ _ (fun _ => P1.out.mA)
  have hsl : ∀ s ∈ L, w6.heap[s.b]? = w1.heap[s.b]? := by
    intro s hs
    have h1 := (P3.out.sl s hs).c
    have h2 : w5.heap[s.b]? = w3.heap[s.b]? := (HG5.out.block _ (by have := lt_of_block h1; simp; omega) (fun e => HRN.out.2 s hs (Option.some.inj e))).trans (Below.heap_alloc _ _ _ (lt_of_block h1))
    rw [hw6, Below.heap_setCell _ _ _ _ (P3.out.slot_A hs), h2]
    exact BB3.out.block _ (lt_of_block (P1.out.sl s hs).c)
  have hbk : w6.heap[w1.heap.size]? = some (.cells (Sl.cells ⟨w1.heap.size, 1, Nd.zero⟩) 94 (0, 0)) := by
    have hgl := P1.out.lt g (.inl HG3.out)
    have hAl := P1.out.lt A (.inl P1.out.mA)
    have h2 : w5.heap[w1.heap.size]? = w3.heap[w1.heap.size]? := (HG5.out.block _ (by have := lt_of_block Bb3.out; simp; omega) (fun e => by have : w1.heap.size = g := Option.some.inj e; omega)).trans (Below.heap_alloc _ _ _ (lt_of_block Bb3.out))
    rw [hw6, Below.heap_setCell _ _ _ _ (by simp only; omega), h2]
    exact Bb3.out
  have ho6 : w6.ownsRow 0 85 1 (.slice (some ⟨g', 0, none⟩) (n + 1) c') (n + 1) (L.map Sl.ptr ++ [.pointer (some ⟨w1.heap.size, 0, none⟩)]) := by
    rw [hw6]
    refine owns_upd (S := fun k => k = A) HOW5.out ((Upd.refl _ _).setCell _ _ (fun _ => rfl)) (fun k hk e => ?_)
    cases hk
    rcases HOW5.out.2 with ⟨hv, _⟩ | ⟨g2, c2, cur, hv, _, hh, _⟩
    · cases hv
    · cases hv
      have e' : g' = A := e
      rw [e', HA5.out] at hh
      simp at hh
  have hor : M g' ∨ w1.heap.size ≤ g' := by
    rcases HOR5.out with h | h
    · cases h; exact .inl HG3.out
    · have := Z3.out; right; simp at h; omega
  have HF : Hid (AlPost w A M D nodes root L (.returned (.tuple #[.int .i64 ((n : Int) + 1), .int .i64 0])) w6) := by
    refine ⟨_, w1.heap.size, by rw [HLN.out], P1.out.push HN.out U16 (by rw [HLN.out]; exact hA6) (by rw [HLN.out]; exact ho6) hor hsl (Nat.le_refl _) hbk, ?_, U1.out.trans U16⟩
    intro k hk
    rcases hk with hk | hk
    · exact .inl hk
    · right; have := Z1.out; omega
  have HW6 := hide hw6
  clear hw6 hA6 hm U13 U35 U15 U16 hsl hbk ho6 hor
  rw [← HW6.out]
  refine keep HU.out ?_
  go_wp2_with fail
  go_ret2
  exact HF.out

end Go.Proofs.Ytfpogjgbmibmcaa
