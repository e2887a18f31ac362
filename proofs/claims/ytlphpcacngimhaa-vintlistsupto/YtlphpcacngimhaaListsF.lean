/- VintLists: the numbers of one list are overwritten; another stays as it was. -/
import Derived.Test.YtlphpcacngimhaaListsE
namespace Go.Proofs.Ytlphpcacngimhaa
open Go.RowKit Go.Shelf
attribute [local go_sem] Oper.semAt_some

/-- The block that an address lies in. -/
def blocksOf (al : Option Addr) : List Nat := match al with | some x => [x.block] | none => []
theorem mem_blocksOf {al : Option Addr} {s : Nat} (h : s ∈ blocksOf al) : ∃ x, al = some x ∧ x.block = s := by
  cases al with
  | none => simp [blocksOf] at h
  | some x => exact ⟨x, rfl, by simpa [blocksOf, eq_comm] using h⟩

/-- Cells that may be written. -/
def Wet (al : Option Addr) (cl : Nat) (W : World) : Prop := ∀ i, i < cl → ∃ gl u, al = some ⟨gl, 0, none⟩ ∧ W.cell? ⟨gl, i, none⟩ = some u ∧ W.frozen? ⟨gl, i, none⟩ = false

theorem owns_at {w : World} {base : Nat} {e : TypeId} {v : Value} {n : Nat} {xs : List Value} (h : w.ownsRow base e 1 v n xs) :
    ∃ al c, v = .slice al n c ∧ (∀ x, al = some x → base ≤ x.block ∧ x.block < w.heap.size) ∧ Wet al c w ∧ c ≤ maxLen ∧ n ≤ c := by
  rcases h.2 with ⟨hv, hn⟩ | ⟨g, cap, cur, hv, hb, hh, h1, h2, h3, _⟩
  · subst hn
    exact ⟨none, 0, hv, fun x e => (by cases e), fun i hi => absurd hi (Nat.not_lt_zero i), Nat.zero_le _, Nat.le_refl _⟩
  · refine ⟨some ⟨g, 0, none⟩, cap, hv, fun x e => (by cases e; exact ⟨hb, (Array.getElem?_eq_some_iff.1 hh).1⟩), fun i hi => ⟨g, cur[i]'(by omega), rfl, ?_, ?_⟩, h2, h1⟩
    · simp [World.cell?, hh]
    · simp [World.frozen?, hh]

theorem owns_row {w : World} {base : Nat} {e : TypeId} {k : IntKind} {a : Option Addr} {n cap : Nat} {zs : List Int} (h : w.ownsRow base e 1 (.slice a n cap) n (zs.map (Value.int k))) : Row w k a zs := by
  rcases h.2 with ⟨hv, hn⟩ | ⟨g, cap', cur, hv, _⟩
  · subst hn
    have hz : zs = [] := List.eq_nil_of_length_eq_zero (by simpa using h.1)
    subst hz
    exact row_nil _ _ _
  · cases hv
    exact row_of_owns h

theorem Row.kx {S : List Nat} {A B : World} {k : IntKind} {a : Option Addr} {zs : List Int} (h : Row A k a zs) (hk : Kx S A B) (hS : ∀ x, a = some x → x.block ∉ S) : Row B k a zs := by
  intro i hi
  obtain ⟨b, off, ha, hc⟩ := h i hi
  exact ⟨b, off, ha, (World.cell?_of_block (w := A) (w' := B) (a := ⟨b, off + i, none⟩) (hk.block b (World.block_lt_of_cell? A ⟨b, off + i, none⟩ hc) (hS _ ha))).trans hc⟩

theorem Kx.setAt {S : List Nat} {A B : World} (h : Kx S A B) {b i : Nat} (hb : b ∈ S) (v : Value) : Kx S A (B.setCell ⟨b, i, none⟩ v) :=
  h.trans ⟨rfl, rfl, rfl, by simp [World.setCell], fun k _ hk => Below.heap_setCell _ _ _ _ (fun e => hk (by rw [e]; exact hb))⟩

theorem Wet.set {al : Option Addr} {cl : Nat} {W : World} (h : Wet al cl W) (gl k : Nat) (v : Value) (hal : al = some ⟨gl, 0, none⟩) (hk : k < cl) : Wet al cl (W.setCell ⟨gl, k, none⟩ v) := by
  intro i hi
  obtain ⟨gl', u, ha, hc, hf⟩ := h i hi
  rw [hal] at ha
  cases ha
  obtain ⟨_, u', ha', hc', _⟩ := h k hk
  rw [hal] at ha'
  cases ha'
  by_cases e : i = k
  · subst e
    exact ⟨gl, v, hal, World.cell?_setCell_same _ _ _ hc, by rw [World.frozen?_setCell]; exact hf⟩
  · exact ⟨gl, u, hal, (World.cell?_setCell_other _ _ _ _ (by intro h; apply e; cases h; rfl)).trans hc, by rw [World.frozen?_setCell]; exact hf⟩

theorem spoil_frame (t : Array Value) (hs : t.size = 237) (w : World) (g len l cl c2 c3 : Nat) (al a2 a3 : Option Addr)
    (h2 : t[2]? = some (.pointer (some ⟨w.heap.size, 0, none⟩))) (h3 : t[3]? = some (.pointer (some ⟨w.heap.size + 1, 0, none⟩))) (h4 : t[4]? = some (.pointer (some ⟨w.heap.size + 1 + 1, 0, none⟩))) (h6 : t[6]? = some (.slice (some ⟨g, 0, none⟩) len (len + 2)))
    (h7 : t[7]? = some (.slice al l cl)) (h10 : t[10]? = some (.slice a2 l c2)) (h13 : t[13]? = some (.slice a3 l c3)) (h17 : t[17]? = some (.int .i64 0)) :
    ∃ f : Nat → Value, t = #[f 0, f 1, .pointer (some ⟨w.heap.size, 0, none⟩), .pointer (some ⟨w.heap.size + 1, 0, none⟩), .pointer (some ⟨w.heap.size + 1 + 1, 0, none⟩), f 5, .slice (some ⟨g, 0, none⟩) len (len + 2), .slice al l cl, f 8, f 9, .slice a2 l c2, f 11, f 12, .slice a3 l c3, f 14, f 15, f 16, .int .i64 0, f 18, f 19, f 20, f 21, f 22, f 23, f 24, f 25, f 26, f 27, f 28, f 29, f 30, f 31, f 32, f 33, f 34, f 35, f 36, f 37, f 38, f 39, f 40, f 41, f 42, f 43, f 44, f 45, f 46, f 47, f 48, f 49, f 50, f 51, f 52, f 53, f 54, f 55, f 56, f 57, f 58, f 59, f 60, f 61, f 62, f 63, f 64, f 65, f 66, f 67, f 68, f 69, f 70, f 71, f 72, f 73, f 74, f 75, f 76, f 77, f 78, f 79, f 80, f 81, f 82, f 83, f 84, f 85, f 86, f 87, f 88, f 89, f 90, f 91, f 92, f 93, f 94, f 95, f 96, f 97, f 98, f 99, f 100, f 101, f 102, f 103, f 104, f 105, f 106, f 107, f 108, f 109, f 110, f 111, f 112, f 113, f 114, f 115, f 116, f 117, f 118, f 119, f 120, f 121, f 122, f 123, f 124, f 125, f 126, f 127, f 128, f 129, f 130, f 131, f 132, f 133, f 134, f 135, f 136, f 137, f 138, f 139, f 140, f 141, f 142, f 143, f 144, f 145, f 146, f 147, f 148, f 149, f 150, f 151, f 152, f 153, f 154, f 155, f 156, f 157, f 158, f 159, f 160, f 161, f 162, f 163, f 164, f 165, f 166, f 167, f 168, f 169, f 170, f 171, f 172, f 173, f 174, f 175, f 176, f 177, f 178, f 179, f 180, f 181, f 182, f 183, f 184, f 185, f 186, f 187, f 188, f 189, f 190, f 191, f 192, f 193, f 194, f 195, f 196, f 197, f 198, f 199, f 200, f 201, f 202, f 203, f 204, f 205, f 206, f 207, f 208, f 209, f 210, f 211, f 212, f 213, f 214, f 215, f 216, f 217, f 218, f 219, f 220, f 221, f 222, f 223, f 224, f 225, f 226, f 227, f 228, f 229, f 230, f 231, f 232, f 233, f 234, f 235, f 236] := by
  refine ⟨fun i => t.getD i undef, (frame_of t hs).trans ((frame_list fun i => t.getD i undef).symm.trans ?_)⟩
  rw [getD_of h2, getD_of h3, getD_of h4, getD_of h6, getD_of h7, getD_of h10, getD_of h13, getD_of h17]

set_option maxRecDepth 100000 in
set_option maxHeartbeats 2000000 in
theorem lists_spoil (n : Nat) (hn : 10 ≤ n) (a : Option Addr) (len cap : Nat) (zs : List Int) (most : Int) (w W : World) (g : Nat) (t : Array Value) (al a2 a3 : Option Addr) (l cl c2 c3 : Nat) (xs : List Int) (K : Act → World → Prop)
    (hs : t.size = 237) (u2 : t[2]? = some (.pointer (some ⟨w.heap.size, 0, none⟩))) (u3 : t[3]? = some (.pointer (some ⟨w.heap.size + 1, 0, none⟩))) (u4 : t[4]? = some (.pointer (some ⟨w.heap.size + 1 + 1, 0, none⟩))) (u6 : t[6]? = some (.slice (some ⟨g, 0, none⟩) len (len + 2)))
    (u7 : t[7]? = some (.slice al l cl)) (u10 : t[10]? = some (.slice a2 l c2)) (u13 : t[13]? = some (.slice a3 l c3)) (u17 : t[17]? = some (.int .i64 0))
    (hl : zs.length = len) (hm : len ≤ 1048576) (h8 : ∀ c ∈ zs, 0 ≤ c ∧ c ≤ 255) (hr : Row w .u8 a zs) (hw : LW a len cap zs most w g W) (hb3 : w.heap.size + 1 + 1 < W.heap.size)
    (hlc : l ≤ cl) (hcl : cl ≤ maxLen) (hwet : Wet al cl W) (hal : ∀ x, al = some x → w.heap.size + 1 + 1 < x.block ∧ x.block ≠ g) (h2 : ∀ x y, al = some x → a2 = some y → y.block ≠ x.block) (h3 : ∀ x y, al = some x → a3 = some y → y.block ≠ x.block)
    (hx : xs.length = l) (r2 : Row W .u64 a2 xs) (r3 : Row W .u64 a3 xs)
    (hK : ∀ act X', (partOf 9 (Try.f6.body.getD .skip)).wpIn Fence.wide n Try.prog (ListsEnd n w) act X' → K act X') :
    (Code.loop (loopOf (firstOf (partOf 8 (Try.f6.body.getD .skip))))).wpIn Fence.wide n Try.prog (Exit.inBlock 0 (Exit.then K (ListsEnd n w))) { tmps := t, defers := [] } W := by
  have h1 : 1 ≤ n := by omega
  obtain ⟨f, rfl⟩ := spoil_frame t hs w g len l cl c2 c3 al a2 a3 u2 u3 u4 u6 u7 u10 u13 u17
  have HKK := hide hK
  clear hs u2 u3 u4 u6 u7 u10 u13 u17 hK
  have HW := hide hw
  have HWET := hide hwet
  have HAL := hide hal
  have R2 := hide r2
  have R3 := hide r3
  have H2 := hide h2
  have H3 := hide h3
  have hlm : l ≤ maxLen := Nat.le_trans hlc hcl
  have HLM := hide hlm
  unfold maxLen at hcl
  clear hw hwet hal r2 r3 h2 h3 hlm
  dsimp only
  conv => arg 4; arg 1; whnf
  gi_loopw [17] (fun q wr => ∃ k : Nat, k ≤ cl ∧ q = .int .i64 (k : Int) ∧ Hid (Wet al cl wr) ∧ Hid (Kx (blocksOf al) W wr)) (fun q _ => cl - (intOf q).toNat)
  case atStart => exact ⟨0, Nat.zero_le _, rfl, HWET, Kx.refl _ _⟩
  case round =>
    obtain ⟨k, hk, rfl, HT, HK⟩ := hrel
    by_cases hlt : k < cl
    · obtain ⟨gl, u, hal, hc, hf⟩ := HT.out k hlt
      subst hal
      have hi : (k : Int) < (cl : Int) := by omega
      gi_wp2
      go_roundw
      case rel => exact ⟨k + 1, by omega, by go_num, HT.out.set gl k _ rfl hlt, HK.out.setAt (by simp [blocksOf]) _⟩
      case measure => simp [intOf]; omega
    · have hge : ¬ (k : Int) < (cl : Int) := by omega
      have hS : ∀ s ∈ blocksOf al, w.heap.size + 1 + 1 < s ∧ s ≠ g := fun s hs => by
        obtain ⟨x, hx, rfl⟩ := mem_blocksOf hs
        exact HAL.out x hx
      have q2 := R2.out.kx HK.out (fun y hy hs => by obtain ⟨x, hx, e⟩ := mem_blocksOf hs; exact H2.out x y hx hy e.symm)
      have q3 := R3.out.kx HK.out (fun y hy hs => by obtain ⟨x, hx, e⟩ := mem_blocksOf hs; exact H3.out x y hx hy e.symm)
      have HSM := hide ((callsIn_wide (n := n - 1)).2 (nsame_any a2 a3 l c2 c3 xs wr HLM.out hx q2 q3))
      have HW2 := hide (HW.out.kx HK.out hS)
      have sz := HK.out.size
      clear q2 q3 hS
      gi_wp2
      refine HKK.out _ _ ?_
      conv => arg 4; whnf
      gi_wp2
      refine ⟨trivial, HSM.out.mono ?_⟩
      rintro e w9 ⟨rfl, hst⟩
      have k9 : Kx [] wr w9 := Kx.of_below (hst.below _)
      have HW9 := hide (HW2.out.kx k9 (by simp))
      have sz9 := k9.size
      clear HSM HW2 HWET HT R2 R3 k9 hst
      gi_wp2
      rename_i K hK
      refine wpIn_loop_rounds 21 ?_
      have k1 : Kx [] w9 ((w9.alloc (.cells #[.int .i64 0] 3)).alloc (.cells #[.int .i64 0] 3)) := ((Kx.refl _ w9).alloc _).alloc _
      have d1 : Boxed ((w9.alloc (.cells #[.int .i64 0] 3)).alloc (.cells #[.int .i64 0] 3)) w9.heap.size 3 (.int .i64 0) := (Boxed.new w9 _ _).alloc _
      have d2 := Boxed.new (w9.alloc (.cells #[.int .i64 0] 3)) 3 (.int .i64 0)
      rw [World.size_alloc] at d2
      refine lists_rounds n hn a len cap zs most w g _ hl hm h8 hr ?_ 21 0 _ _ (LAt.mk (Bc := w9.heap.size) (Bi := w9.heap.size + 1) rfl rfl rfl rfl rfl rfl rfl trivial (HW9.out.kx k1 (by simp)) d1 d2 (by omega) HW9.out.lent.lt (by omega) (Nat.zero_le _) (by omega)) rfl
      rintro act X' ⟨f', ds', rfl, hm', hw'⟩
      exact inBlock_exit (hK _ _ (lists_nested n hn a len cap zs most w X' g f' ds' hl hm h8 hr hw'.bel hw'.lent hm' hw'.b0 hw'.b1 hw'.b2))

end Go.Proofs.Ytlphpcacngimhaa
