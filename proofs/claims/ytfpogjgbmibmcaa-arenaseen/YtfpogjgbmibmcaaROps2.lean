/- The document's arena: Unlock, Grow, New, Alloc, Held. -/
import Derived.Test.YtfpogjgbmibmcaaROps1
import Derived.Test.YtfpogjgbmibmcaaAHeld
namespace Go.Proofs.Ytfpogjgbmibmcaa
open Go.RowKit
section
variable {W : World} {A g c : Nat} {M D : Nat → Prop} {nodes root : Int} {L : List RS}

set_option maxHeartbeats 800000 in
theorem runlock_not (h : RA W A g c M D nodes root L) (id : Int) (ch : Bool) (hne : heE L id ≠ 0) :
    Calls Try.prog 34 #[.pointer (some ⟨A, 0, none⟩), .int .i64 id, .bool ch] W fun e w' => e = .returned (.int .i64 (heE L id)) ∧ w' = W := by
  have HT := hide (rheld_any h id)
  clear h
  generalize heE L id = er at *
  go_enter Try.func34, Try.ntmps34
  go_wp2_with fail
  refine keep HT.out ?_
  go_wp2_with fail
  go_ret
  exact ⟨rfl, rfl⟩
set_option maxHeartbeats 1600000 in
theorem runlock_held (h : RA W A g c M D nodes root L) (i : Nat) (hi : i < L.length) (ch : Bool) (he : L[i].w % 2 = 1) :
    Calls Try.prog 34 #[.pointer (some ⟨A, 0, none⟩), .int .i64 ((i : Int) + 1), .bool ch] W fun e w' => e = .returned (.int .i64 0) ∧ w' = W.setCell ⟨g, i * 7, none⟩ (.int .u64 ((freeW L[i].w ch : Nat) : Int)) := by
  have HT := hide (rheld_any h ((i : Int) + 1))
  rw [heE_at L i hi, if_neg (by omega)] at HT
  obtain ⟨c0, c1, c2⟩ := h.cells
  have cw := h.wat i hi
  have fz := h.frozen (i * 7)
  have hx := (h.sl L[i] (List.getElem_mem hi)).w
  have hn := h.n_le
  generalize L[i].w = x at *
  clear h
  generalize L.length = n at *
  have j4 : (i : Int) < (n : Int) := by omega
  obtain ⟨id, hid⟩ : ∃ id, id = (i : Int) + 1 := ⟨_, rfl⟩
  rw [← hid] at HT ⊢
  have j3 : id - 1 = (i : Int) := by omega
  have j5 : id ≤ 65536 := by omega
  have j6 : 1 ≤ id := by omega
  obtain ⟨y, hy⟩ : ∃ y : Int, y = (x : Int) := ⟨_, rfl⟩
  rw [← hy] at cw
  cases ch with
  | true =>
    have HV : Hid (((freeW x true : Nat) : Int) = IntKind.u64.wrap (y + 1)) := by
      show _ = _
      rw [IntKind.wrap_u64]
      unfold freeW
      simp only [if_true]
      omega
    rw [HV.out]
    clear hid hy he hx HV
    go_enter Try.func34, Try.ntmps34
    go_wp2_with fail
    refine keep HT.out ?_
    go_wp2_with fail
    go_ret
    exact ⟨rfl, by first | rfl | (simp only [IntKind.wrap_u64])⟩
  | false =>
    have HV : Hid (((freeW x false : Nat) : Int) = y - 1) := by
      show _ = _
      unfold freeW
      rw [if_neg (by decide)]
      omega
    rw [HV.out]
    have k0 : 1 ≤ y := by omega
    have k1 : y < 18446744073709551616 := by omega
    clear hid hy he hx HV
    go_enter Try.func34, Try.ntmps34
    go_wp2_with fail
    refine keep HT.out ?_
    go_wp2_with fail
    go_ret
    exact ⟨rfl, by go_num⟩
set_option maxHeartbeats 800000 in
theorem rgrow_none (h : RA W A g c M D nodes root L) (old id : Int) (hi : ¬ (1 ≤ id ∧ id ≤ (L.length : Nat))) :
    Calls Try.prog 38 #[.pointer (some ⟨A, 0, none⟩), .int .i64 old, .int .i64 id] W fun e w' => e = .returned (.tuple #[.bool false, .int .i64 101]) ∧ w' = W := by
  have HT := hide (there_no h id hi)
  clear h hi
  go_enter Try.func38, Try.ntmps38
  go_wp2_with fail
  refine keep HT.out ?_
  go_wp2_with fail
  go_ret2
  exact ⟨rfl, rfl⟩
set_option maxHeartbeats 800000 in
theorem rgrow_no (h : RA W A g c M D nodes root L) (old id : Int) (hi : 1 ≤ id ∧ id ≤ (L.length : Nat)) (hr : ¬ root = old) :
    Calls Try.prog 38 #[.pointer (some ⟨A, 0, none⟩), .int .i64 old, .int .i64 id] W fun e w' => e = .returned (.tuple #[.bool false, .int .i64 0]) ∧ w' = W := by
  have HT := hide (there_any h id)
  rw [decide_eq_true hi] at HT
  obtain ⟨c0, c1, c2⟩ := h.cells
  clear h hi
  go_enter Try.func38, Try.ntmps38
  go_wp2_with fail
  refine keep HT.out ?_
  go_wp2_with fail
  go_ret2
  exact ⟨rfl, rfl⟩
set_option maxHeartbeats 800000 in
theorem rgrow_yes (h : RA W A g c M D nodes root L) (id : Int) (hi : 1 ≤ id ∧ id ≤ (L.length : Nat)) :
    Calls Try.prog 38 #[.pointer (some ⟨A, 0, none⟩), .int .i64 root, .int .i64 id] W fun e w' => e = .returned (.tuple #[.bool true, .int .i64 0]) ∧ w' = W.setCell ⟨A, 2, none⟩ (.int .i64 id) := by
  have HT := hide (there_any h id)
  rw [decide_eq_true hi] at HT
  obtain ⟨c0, c1, c2⟩ := h.cells
  have f2 := frozen_of h.a 2
  clear h hi
  go_enter Try.func38, Try.ntmps38
  go_wp2_with fail
  refine keep HT.out ?_
  go_wp2_with fail
  go_ret2
  exact ⟨rfl, rfl⟩
end

set_option maxHeartbeats 800000 in
theorem rnew_bad (nodes : Int) (w : World) (h : ¬ (1 ≤ nodes ∧ nodes ≤ 65536)) : Calls Try.prog 29 #[.int .i64 nodes] w fun e w' => e = .returned (.tuple #[.pointer none, .int .i64 1]) ∧ w' = w := by
  by_cases h1 : nodes < 1
  · clear h
    go_enter Try.func29, Try.ntmps29
    go_wp2_with fail
    go_ret2
    exact ⟨rfl, rfl⟩
  · have h2 : 65536 < nodes := by omega
    clear h
    go_enter Try.func29, Try.ntmps29
    go_wp2_with fail
    go_ret2
    exact ⟨rfl, rfl⟩
def RNewPost (w : World) (nodes : Int) (e : Ending) (w' : World) : Prop :=
  ∃ A g c M, e = .returned (.tuple #[.pointer (some ⟨A, 0, none⟩), .int .i64 0]) ∧ RA w' A g c M Noth nodes 1 [⟨0, Nd.zero⟩] ∧ (∀ k, M k → w.heap.size ≤ k) ∧ Below w.heap.size w w'
set_option maxHeartbeats 800000 in
theorem rnew_good (nodes : Int) (w : World) (h1 : 1 ≤ nodes) (h2 : nodes ≤ 65536) : Calls Try.prog 29 #[.int .i64 nodes] w (RNewPost w nodes) := by
  have j1 : ¬ nodes < 1 := by omega
  have j2 : ¬ 65536 < nodes := by omega
  obtain ⟨w1, hw1⟩ : ∃ w1, w1 = w.alloc (.cells #[.int .u64 0, .int .i64 0, .slice none 0 0, .int .i64 0, .slice none 0 0, .slice none 0 0, .slice none 0 0] 70) := ⟨_, rfl⟩
  obtain ⟨w3, hw3⟩ : ∃ w3, w3 = w1.alloc (.cells #[.int .i64 nodes, .slice (some ⟨w.heap.size, 0, none⟩) 1 1, .int .i64 1] 73) := ⟨_, rfl⟩
  have s1 : w1.heap.size = w.heap.size + 1 := by rw [hw1]; simp
  have s3 : w3.heap.size = w.heap.size + 2 := by rw [hw3]; simp [s1]
  have a1 : w3.heap[w.heap.size]? = some (.cells #[.int .u64 0, .int .i64 0, .slice none 0 0, .int .i64 0, .slice none 0 0, .slice none 0 0, .slice none 0 0] 70 (0, 0)) := by
    rw [hw3, Below.heap_alloc _ _ _ (by omega), hw1]; exact heap_alloc_new w _
  have a3 : w3.heap[w.heap.size + 1]? = some (.cells #[.int .i64 nodes, .slice (some ⟨w.heap.size, 0, none⟩) 1 1, .int .i64 1] 73 (0, 0)) := by
    rw [hw3, ← s1]; exact heap_alloc_new w1 _
  have B : Below w.heap.size w w3 := by
    rw [hw3, hw1]
    exact ((Below.refl _ _).alloc (Nat.le_refl _) _).alloc (by simp) _
  have HP : Hid (RNewPost w nodes (.returned (.tuple #[.pointer (some ⟨w.heap.size + 1, 0, none⟩), .int .i64 0])) w3) := by
    refine ⟨w.heap.size + 1, w.heap.size, 1, fun k => w.heap.size ≤ k ∧ k < w.heap.size + 2, rfl, ⟨a3, ⟨rfl, .inr ⟨w.heap.size, 1, _, rfl, Nat.zero_le _, a1, Nat.le_refl _, by unfold maxLen; omega, rfl, rfl⟩⟩, ⟨by omega, by omega⟩, ⟨by omega, by omega⟩, ?_, fun k _ e => e, ?_, Nat.le_refl _, h1, h2⟩, fun k hk => hk.1, B⟩
    · intro k hk
      rcases hk with hk | hk
      · omega
      · exact hk.elim
    · intro s hs
      obtain rfl := List.mem_singleton.1 hs
      exact ⟨Nd.zero_ok _, Nd.zero_in _, by simp only; decide⟩
  have HW : Hid (w3 = (w.alloc (.cells #[.int .u64 0, .int .i64 0, .slice none 0 0, .int .i64 0, .slice none 0 0, .slice none 0 0, .slice none 0 0] 70)).alloc (.cells #[.int .i64 nodes, .slice (some ⟨w.heap.size, 0, none⟩) 1 1, .int .i64 1] 73)) := by
    show _ = _
    rw [hw3, hw1]
  clear s1 s3 a1 a3 B hw1 hw3 h1 h2
  go_enter Try.func29, Try.ntmps29
  go_wp2_with fail
  go_ret2
  rw [← HW.out]
  exact HP.out

section
variable {W : World} {A g c : Nat} {M D : Nat → Prop} {nodes root : Int} {L : List RS}
def RAlPost (w : World) (A : Nat) (M D : Nat → Prop) (nodes root : Int) (L : List RS) (e : Ending) (w' : World) : Prop :=
  ∃ g' c' M', e = .returned (.tuple #[.int .i64 ((L.length : Int) + 1), .int .i64 0]) ∧ RA w' A g' c' M' D nodes root (L ++ [⟨1, Nd.zero⟩]) ∧ (∀ k, M' k → M k ∨ w.heap.size ≤ k) ∧ Upd M w w'
theorem infoR' : (Try.prog.info? 70).map (fun i => (i.zero, i.size, i.bytes)) = some (some (.agg #[.int .u64 0, .int .i64 0, .slice none 0 0, .int .i64 0, .slice none 0 0, .slice none 0 0, .slice none 0 0]), 7, 120) := by kernel_rfl
theorem seven_new (w : World) (a0 a1 a2 a3 a4 a5 a6 : Value) (T : TypeId) : ∀ j u, [a0, a1, a2, a3, a4, a5, a6][j]? = some u → (w.alloc (.cells #[a0, a1, a2, a3, a4, a5, a6] T)).cell? ((⟨w.heap.size, 0, none⟩ : Addr).add j) = some u := by
  intro j u hu
  rw [Addr.add_lit, Nat.zero_add, cell_of_row _ _ _ _ _ _ (heap_alloc_new w _), ← Array.getElem?_toList]
  exact hu
set_option maxHeartbeats 800000 in
theorem ralloc_full (h : RA W A g c M D nodes root L) (hn : (L.length : Int) = nodes) :
    Calls Try.prog 31 #[.pointer (some ⟨A, 0, none⟩)] W fun e w' => e = .returned (.tuple #[.int .i64 0, .int .i64 2]) ∧ ∃ k, w' = W.drewN k := by
  obtain ⟨c0, c1, c2⟩ := h.cells
  clear h
  generalize L.length = n at *
  subst hn
  go_enter Try.func31, Try.ntmps31
  go_wp2_with fail
  go_quiet (fail)
  go_wp2_with fail
  go_ret2
  exact ⟨rfl, _, rfl⟩
set_option maxRecDepth 100000 in
set_option maxHeartbeats 1600000 in
theorem ralloc_any (h : RA W A g c M D nodes root L) (hn : (L.length : Int) < nodes) :
    Calls Try.prog 31 #[.pointer (some ⟨A, 0, none⟩)] W (RAlPost W A M D nodes root L) := by
  obtain ⟨i0, hi, hz0, hz1, hz2⟩ := info_parts infoR'
  obtain ⟨c0, c1, c2⟩ := h.cells
  have hl6 := h.n_le
  have HP := hide h
  have HN := hide hn
  obtain ⟨n, hln⟩ : ∃ n, L.length = n := ⟨_, rfl⟩
  rw [hln] at hn c1 hl6
  have j1 : ¬ nodes ≤ (n : Int) := by omega
  have HLN := hide hln
  clear h hln hn
  go_enter Try.func31, Try.ntmps31
  go_wp2_with fail
  go_quiet (fail)
  obtain ⟨w1, hk⟩ : ∃ w1, w1 = W.drewN nq := ⟨_, rfl⟩
  have P1 : Hid (RA w1 A g c M D nodes root L) := by show RA _ _ _ _ _ _ _ _ _; rw [hk]; exact HP.out.drewN nq
  have U1 : Hid (Upd M W w1) := by show Upd _ _ _; rw [hk]; exact upd_drewN _ _ _
  have Z1 : Hid (w1.heap.size = W.heap.size) := by show _ = _; rw [hk]; rfl
  rw [← hk]
  clear hk c0 c1 c2 HP
  obtain ⟨c0, c1, c2⟩ := P1.out.cells
  rw [HLN.out] at c1
  have HO4 : Hid ((w1.alloc (.cells #[.int .u64 1, .int .i64 0, .slice none 0 0, .int .i64 0, .slice none 0 0, .slice none 0 0, .slice none 0 0] 70)).ownsRow 0 70 7 (.slice (some ⟨g, 0, none⟩) n c) n (L.flatMap RS.cells)) := by
    show World.ownsRow _ _ _ _ _ _ _
    rw [← HLN.out]
    exact owns_blkN P1.out.row (fun k hk => by cases hk; exact Below.heap_alloc _ _ _ (P1.out.lt g (.inl P1.out.mg)))
  have HA4 : Hid ((w1.alloc (.cells #[.int .u64 1, .int .i64 0, .slice none 0 0, .int .i64 0, .slice none 0 0, .slice none 0 0, .slice none 0 0] 70)).heap[A]? = _) := (Below.heap_alloc _ _ _ (lt_of_block P1.out.a)).trans P1.out.a
  have HPB := hide (seven_new w1 (.int .u64 1) (.int .i64 0) (.slice none 0 0) (.int .i64 0) (.slice none 0 0) (.slice none 0 0) (.slice none 0 0) 70)
  go_wp2_with (first
    | (at_builtin; refine append_mineN rfl (.tmp 18) (.tmp 20) 71 rfl 0 70 i0 (.agg #[.int .u64 0, .int .i64 0, .slice none 0 0, .int .i64 0, .slice none 0 0, .slice none 0 0, .slice none 0 0]) 7 120 Try.underlying71 hi hz0 hz1 hz2 rfl (by decide) (.slice (some ⟨g, 0, none⟩) n c) n (L.flatMap RS.cells) rfl HO4.out ⟨w1.heap.size, 0, none⟩ 1 1 [.int .u64 1, .int .i64 0, .slice none 0 0, .int .i64 0, .slice none 0 0, .slice none 0 0, .slice none 0 0] rfl rfl HPB.out (by intro u hu; simp at hu; rcases hu with rfl | rfl | rfl | rfl | rfl | rfl | rfl <;> rfl) (by omega) (by unfold maxLen; omega) (by omega) (Nat.zero_le _) ?_; intro g' c' w5 hown5 hg5 hor5; have HA5 := hide ((hg5.block A (lt_of_block HA4.out) (fun e => P1.out.ne (Option.some.inj e).symm)).trans HA4.out); have HOW5 := hide hown5; have HG5 := hide hg5; have HOR5 := hide hor5; clear hown5 hg5 hor5; have f5 := frozen_of HA5.out 1; have c5 : w5.cell? ⟨A, 1, none⟩ = some (.slice (some ⟨g, 0, none⟩) n c) := (by rw [cell_of_row _ _ _ _ _ _ HA5.out, ← HLN.out]; rfl))
    | fail)
  obtain ⟨w6, hw6⟩ : ∃ w6, w6 = w5.setCell ⟨A, 1, none⟩ (.slice (some ⟨g', 0, none⟩) (n + 1) c') := ⟨_, rfl⟩
  have hA6 : w6.heap[A]? = some (.cells #[.int .i64 nodes, .slice (some ⟨g', 0, none⟩) (n + 1) c', .int .i64 root] 73 (0, 0)) := by rw [hw6]; exact block_setCell HA5.out 1 _
  have U15 : Upd M w1 w5 := ((Upd.refl M w1).alloc _).trans (Upd.of_grown HG5.out (fun k hk _ => by cases hk; exact P1.out.mg))
  have U16 : Upd M w1 w6 := by rw [hw6]; exact U15.setCell _ _ (fun _ => P1.out.mA)
  have ho6 : w6.ownsRow 0 70 7 (.slice (some ⟨g', 0, none⟩) (n + 1) c') (n + 1) (L.flatMap RS.cells ++ RS.cells ⟨1, Nd.zero⟩) := by
    rw [hw6]
    refine owns_blkN HOW5.out (fun k hk => Below.heap_setCell _ _ _ _ (fun e => ?_))
    cases hk
    rcases HOW5.out.2 with ⟨hv, _⟩ | ⟨g2, c2, cur, hv, _, hh, _⟩
    · cases hv
    · cases hv
      have e' : g' = A := e
      rw [e', HA5.out] at hh
      simp at hh
  have hor : M g' ∨ w1.heap.size ≤ g' := by
    rcases HOR5.out with h | h
    · cases h; exact .inl P1.out.mg
    · right; simp at h; omega
  have HF : Hid (RAlPost W A M D nodes root L (.returned (.tuple #[.int .i64 ((n : Int) + 1), .int .i64 0])) w6) := by
    refine ⟨g', c', _, by rw [HLN.out], P1.out.push HN.out U16 (by rw [HLN.out]; exact hA6) (by rw [HLN.out]; exact ho6) hor ⟨Nd.zero_ok _, Nd.zero_in _, by simp only; decide⟩, ?_, U1.out.trans U16⟩
    intro k hk
    rcases hk with hk | hk
    · exact .inl hk
    · right; have := Z1.out; omega
  rw [← hw6]
  clear hw6 hA6 U15 U16 ho6 hor
  go_ret2
  exact HF.out

set_option maxRecDepth 100000 in
set_option maxHeartbeats 1600000 in
theorem rheldL_any (h : RA W A g c M D nodes root L) :
    Calls Try.prog 40 #[.pointer (some ⟨A, 0, none⟩)] W (HeldPost W (heldL (L.map (·.w)))) := by
  obtain ⟨i0, hi, hz0, hz1, hz2⟩ := info_parts infoI
  have hn := h.n_le
  have HP : Hid (∀ W', Below W.heap.size W W' → RA W' A g c M D nodes root L) := fun W' hb => h.below hb
  obtain ⟨ws, hws⟩ : ∃ ws, ws = L.map (·.w) := ⟨_, rfl⟩
  have HWS : Hid (∀ i (hi : i < L.length), ws.getD i 0 = L[i].w) := fun i hi => by rw [hws]; simp [hi]
  have HLW : Hid (ws.length = L.length) := by show _ = _; rw [hws]; simp
  rw [← hws]
  obtain ⟨n, hln⟩ : ∃ n, L.length = n := ⟨_, rfl⟩
  rw [hln] at hn
  have HLN := hide hln
  have HF : Hid (heldL ws = heldN ws n) := by show _ = _; unfold heldL; rw [HLW.out, hln]
  rw [HF.out]
  clear h hws hln
  go_enter Try.func40, Try.ntmps40
  go_wp2_with fail
  go_loopw [3, 4] (fun q3 q4 wr => ∃ i : Nat, i ≤ n ∧ q4 = .int .i64 (i : Int) ∧ ∃ k, Hid (wr.ownsRow W.heap.size 3 1 q3 k ((heldN ws i).map (Value.int .i64)) ∧ k = (heldN ws i).length ∧ Below W.heap.size W wr)) (fun _ q4 _ => n - (intOf q4).toNat)
  case atStart => exact ⟨0, Nat.zero_le _, rfl, 0, World.ownsRow_nil _ _ _ _, rfl, Below.refl _ _⟩
  case round =>
    obtain ⟨i, hin, rfl, k, HB⟩ := hrel
    rename World => wr
    have P := HP.out wr HB.out.2.2
    obtain ⟨c0, c1, c2⟩ := P.cells
    rw [HLN.out] at c1
    by_cases hlt : i < n
    · have j1 : (i : Int) < (n : Int) := by omega
      have hiL : i < L.length := by rw [HLN.out]; exact hlt
      have cw := P.wat i hiL
      have hE := heldN_succ ws i
      rw [HWS.out i hiL] at hE
      generalize L[i].w = x at *
      have HE := hide hE
      have hkl := heldN_len ws i
      rw [← HB.out.2.1] at hkl
      have hk6 : k ≤ 65536 := by omega
      clear P hE hkl
      obtain ⟨hown, hkk, hB⟩ := HB.out
      have HOW := hide hown
      have HKK := hide hkk
      have HBB := hide hB
      clear HB hown hkk hB
      obtain ⟨y, hy⟩ : ∃ y : Int, y = (x : Int) := ⟨_, rfl⟩
      rw [← hy] at cw
      have y0 : 0 ≤ y := by omega
      rcases Nat.mod_two_eq_zero_or_one x with ex | ex
      · have y1 : y % 2 = 0 := by omega
        rw [if_neg (by omega)] at HE
        clear ex hy
        go_wp2_with fail
        go_roundw
        case rel => exact ⟨i + 1, by omega, by go_num, k, by rw [HE.out]; simpa using HOW.out, by rw [HE.out]; simpa using HKK.out, HBB.out⟩
        case measure => simp [intOf]; omega
      · have y1 : y % 2 = 1 := by omega
        rw [if_pos ex] at HE
        clear ex hy
        have j3 : (i : Int) + 1 ≤ 65536 := by omega
        go_wp2_with (first
          | (at_builtin; refine append_own_any rfl (.tmp 24) (.tmp 27) 33 rfl W.heap.size 3 i0 (.int .i64 0) 1 8 Try.underlying33 hi hz0 hz1 hz2 rfl (by decide) _ k ((heldN ws i).map (Value.int .i64)) rfl (HOW.out.alloc _) (some ⟨wr.heap.size, 0, none⟩) 1 1 [.int .i64 ((i : Int) + 1)] rfl rfl (by intro h; cases h) (fun ad had => by cases had; exact cell_one_new _ _ _) (by intro u hu; simp at hu; subst hu; rfl) (by unfold maxLen; omega) (by omega) (by have := HBB.out.size; simp; omega) ?_; intro v5 w5 hown5 hg5; have HO5 := hide hown5; have HG5 := hide hg5; clear hown5 hg5)
          | fail)
        go_roundw
        case rel =>
          refine ⟨i + 1, by omega, by go_num, k + 1, ?_, ?_, ?_⟩
          · rw [HE.out, List.map_append]; exact HO5.out
          · rw [HE.out, List.length_append, ← HKK.out]; rfl
          · exact (HBB.out.alloc HBB.out.size _).grown HG5.out (by have := HBB.out.size; simp; omega) (fun b hb => (HOW.out.lt b hb).1)
        case measure => simp [intOf]; omega
    · have j1 : ¬ (i : Int) < (n : Int) := by omega
      obtain rfl : i = n := by omega
      go_wp2_with fail
      go_ret
      exact ⟨_, rfl, by rw [← HB.out.2.1]; exact HB.out.1, HB.out.2.2⟩
end

end Go.Proofs.Ytfpogjgbmibmcaa
