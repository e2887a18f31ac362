/- An arena as such: what each call answers, and what stands behind it; the program's and the document's alike. -/
import Derived.Test.YtfpogjgbmibmcaaROps4
namespace Go.Proofs.Ytfpogjgbmibmcaa
open Go.RowKit

/-- An arena, wherever it lies. -/
structure AS where
  nodes : Int
  root : Int
  sl : List (Nat × NP)
def AS.inn (s : AS) (id : Int) : Prop := 1 ≤ id ∧ id ≤ (s.sl.length : Nat)
instance (s : AS) (id : Int) : Decidable (s.inn id) := by unfold AS.inn; exact inferInstance
def AS.w (s : AS) (id : Int) : Nat := (s.sl.getD (id - 1).toNat (0, NP.zero)).1
def AS.n (s : AS) (id : Int) : NP := (s.sl.getD (id - 1).toNat (0, NP.zero)).2
def AS.setw (s : AS) (id : Int) (x : Nat) : AS := ⟨s.nodes, s.root, s.sl.set (id - 1).toNat (x, s.n id)⟩
def AS.setn (s : AS) (id : Int) (p : NP) : AS := ⟨s.nodes, s.root, s.sl.set (id - 1).toNat (s.w id, p)⟩
def AS.wordE (s : AS) (id : Int) : Int := if s.inn id then 0 else 101
def AS.wordW (s : AS) (id : Int) : Nat := if s.inn id then s.w id else 0
def AS.lockB (s : AS) (id : Int) (x : Nat) : Bool := decide (s.inn id ∧ s.w id = x ∧ x % 2 = 0)
def AS.lockS (s : AS) (id : Int) (x : Nat) : AS := if s.inn id ∧ s.w id = x ∧ x % 2 = 0 then s.setw id (x + 1) else s
def AS.unlE (s : AS) (id : Int) : Int := if s.inn id then (if s.w id % 2 = 0 then 102 else 0) else 101
def AS.unlS (s : AS) (id : Int) (ch : Bool) : AS := if s.unlE id = 0 then s.setw id (freeW (s.w id) ch) else s
def AS.hedS (s : AS) (id : Int) (lv : Int) (hi : List Int) (ri : Int) : AS := if s.unlE id = 0 then s.setn id ((s.n id).setH lv hi ri) else s
def AS.bodS (s : AS) (id : Int) (ks vs : List (List Int)) (cs : List Int) : AS := if s.unlE id = 0 then s.setn id ((s.n id).setB ks vs cs) else s
def AS.groB (s : AS) (old id : Int) : Bool := decide (s.inn id ∧ s.root = old)
def AS.groS (s : AS) (old id : Int) : AS := if s.inn id ∧ s.root = old then ⟨s.nodes, id, s.sl⟩ else s
def AS.allI (s : AS) : Int := if (s.sl.length : Int) < s.nodes then (s.sl.length : Int) + 1 else 0
def AS.allE (s : AS) : Int := if (s.sl.length : Int) < s.nodes then 0 else 2
def AS.allS (s : AS) : AS := if (s.sl.length : Int) < s.nodes then ⟨s.nodes, s.root, s.sl ++ [(1, NP.zero)]⟩ else s
theorem AS.idx {s : AS} {id : Int} (h : s.inn id) : ∃ i : Nat, i < s.sl.length ∧ id = (i : Int) + 1 ∧ (id - 1).toNat = i :=
  ⟨(id - 1).toNat, by unfold AS.inn at h; omega, by unfold AS.inn at h; omega, rfl⟩

/-- The program's arena at A, within F. -/
def PX (W : World) (A : Nat) (F : Nat → Prop) (s : AS) : Prop := ∃ M D L, PA W A M D s.nodes s.root L ∧ ndsOf L = s.sl ∧ (∀ k, M k ∨ D k → F k) ∧ (∀ k, F k → k < W.heap.size)
/-- The document's arena at A, within F. -/
def RX (W : World) (A : Nat) (F : Nat → Prop) (s : AS) : Prop := ∃ g c M D L, RA W A g c M D s.nodes s.root L ∧ ndsR L = s.sl ∧ (∀ k, M k ∨ D k → F k) ∧ (∀ k, F k → k < W.heap.size)
/-- A step of an arena. -/
structure Stp (F F' : Nat → Prop) (W W' : World) : Prop where
  f : ∀ k, F' k → F k ∨ W.heap.size ≤ k
  u : Upd F W W'
theorem Stp.refl (F : Nat → Prop) (W : World) : Stp F F W W := ⟨fun _ h => .inl h, Upd.refl _ _⟩
theorem PX.upd {W W' : World} {A : Nat} {F S : Nat → Prop} {s : AS} (h : PX W A F s) (hb : Upd S W W') (hs : ∀ k, F k → ¬ S k) : PX W' A F s := by
  obtain ⟨M, D, L, h1, h2, h3, h4⟩ := h
  exact ⟨M, D, L, h1.upd hb (fun k hk => hs k (h3 k hk)), h2, h3, fun k hk => Nat.lt_of_lt_of_le (h4 k hk) hb.size⟩
theorem RX.upd {W W' : World} {A : Nat} {F S : Nat → Prop} {s : AS} (h : RX W A F s) (hb : Upd S W W') (hs : ∀ k, F k → ¬ S k) : RX W' A F s := by
  obtain ⟨g, c, M, D, L, h1, h2, h3, h4⟩ := h
  exact ⟨g, c, M, D, L, h1.upd hb (fun k hk => hs k (h3 k hk)), h2, h3, fun k hk => Nat.lt_of_lt_of_le (h4 k hk) hb.size⟩
theorem PX.lt {W : World} {A : Nat} {F : Nat → Prop} {s : AS} (h : PX W A F s) : ∀ k, F k → k < W.heap.size := by obtain ⟨M, D, L, _, _, _, h4⟩ := h; exact h4
theorem RX.lt {W : World} {A : Nat} {F : Nat → Prop} {s : AS} (h : RX W A F s) : ∀ k, F k → k < W.heap.size := by obtain ⟨g, c, M, D, L, _, _, _, h4⟩ := h; exact h4

/-- What a call of an arena leaves. -/
def PNext (W : World) (A : Nat) (F : Nat → Prop) (s' : AS) (W' : World) : Prop := ∃ F', PX W' A F' s' ∧ Stp F F' W W'
def RNext (W : World) (A : Nat) (F : Nat → Prop) (s' : AS) (W' : World) : Prop := ∃ F', RX W' A F' s' ∧ Stp F F' W W'
theorem PX.still {W W' : World} {A : Nat} {F : Nat → Prop} {s : AS} (h : PX W A F s) (hb : Below W.heap.size W W') : PNext W A F s W' :=
  ⟨F, h.upd (S := Noth) (Upd.of_below hb _) (fun _ _ e => e), fun _ h => .inl h, Upd.of_below hb _⟩
theorem RX.still {W W' : World} {A : Nat} {F : Nat → Prop} {s : AS} (h : RX W A F s) (hb : Below W.heap.size W W') : RNext W A F s W' :=
  ⟨F, h.upd (S := Noth) (Upd.of_below hb _) (fun _ _ e => e), fun _ h => .inl h, Upd.of_below hb _⟩
/-- A step told by PA. -/
theorem pnext_of {W W' : World} {A : Nat} {F M D M' D' : Nat → Prop} {s' : AS} {L' : List Sl} (hF : ∀ k, M k ∨ D k → F k) (hlt : ∀ k, F k → k < W.heap.size) (h : PA W' A M' D' s'.nodes s'.root L') (he : ndsOf L' = s'.sl) (hm : ∀ k, M' k → M k ∨ W.heap.size ≤ k) (hd : ∀ k, D' k → D k ∨ W.heap.size ≤ k) (hu : Upd M W W') : PNext W A F s' W' := by
  refine ⟨fun k => F k ∨ (W.heap.size ≤ k ∧ k < W'.heap.size), ⟨M', D', L', h, he, ?_, ?_⟩, ⟨?_, hu.mono (fun k _ hk => hF k (.inl hk))⟩⟩
  · intro k hk
    have hl := h.lt k hk
    rcases hk with hk | hk
    · rcases hm k hk with h1 | h1
      · exact .inl (hF k (.inl h1))
      · exact .inr ⟨h1, hl⟩
    · rcases hd k hk with h1 | h1
      · exact .inl (hF k (.inr h1))
      · exact .inr ⟨h1, hl⟩
  · intro k hk
    rcases hk with hk | hk
    · exact Nat.lt_of_lt_of_le (hlt k hk) hu.size
    · exact hk.2
  · intro k hk
    rcases hk with hk | hk
    · exact .inl hk
    · exact .inr hk.1
theorem rnext_of {W W' : World} {A g c : Nat} {F M D M' D' : Nat → Prop} {s' : AS} {L' : List RS} (hF : ∀ k, M k ∨ D k → F k) (hlt : ∀ k, F k → k < W.heap.size) (h : RA W' A g c M' D' s'.nodes s'.root L') (he : ndsR L' = s'.sl) (hm : ∀ k, M' k → M k ∨ W.heap.size ≤ k) (hd : ∀ k, D' k → D k ∨ W.heap.size ≤ k) (hu : Upd M W W') : RNext W A F s' W' := by
  refine ⟨fun k => F k ∨ (W.heap.size ≤ k ∧ k < W'.heap.size), ⟨g, c, M', D', L', h, he, ?_, ?_⟩, ⟨?_, hu.mono (fun k _ hk => hF k (.inl hk))⟩⟩
  · intro k hk
    have hl := h.lt k hk
    rcases hk with hk | hk
    · rcases hm k hk with h1 | h1
      · exact .inl (hF k (.inl h1))
      · exact .inr ⟨h1, hl⟩
    · rcases hd k hk with h1 | h1
      · exact .inl (hF k (.inr h1))
      · exact .inr ⟨h1, hl⟩
  · intro k hk
    rcases hk with hk | hk
    · exact Nat.lt_of_lt_of_le (hlt k hk) hu.size
    · exact hk.2
  · intro k hk
    rcases hk with hk | hk
    · exact .inl hk
    · exact .inr hk.1

theorem ndsOf_at {L : List Sl} {s : AS} (h : ndsOf L = s.sl) {i : Nat} (hi : i < L.length) {id : Int} (hid : id = (i : Int) + 1) : s.w id = L[i].w ∧ s.n id = L[i].n.p := by
  have : s.sl.getD (id - 1).toNat (0, NP.zero) = (L[i].w, L[i].n.p) := by
    rw [← h, show (id - 1).toNat = i by omega]
    simp [ndsOf, hi]
  unfold AS.w AS.n
  rw [this]
  exact ⟨rfl, rfl⟩
theorem ndsR_at {L : List RS} {s : AS} (h : ndsR L = s.sl) {i : Nat} (hi : i < L.length) {id : Int} (hid : id = (i : Int) + 1) : s.w id = L[i].w ∧ s.n id = L[i].n.p := by
  have : s.sl.getD (id - 1).toNat (0, NP.zero) = (L[i].w, L[i].n.p) := by
    rw [← h, show (id - 1).toNat = i by omega]
    simp [ndsR, hi]
  unfold AS.w AS.n
  rw [this]
  exact ⟨rfl, rfl⟩
theorem ndsOf_set {L : List Sl} {s : AS} (h : ndsOf L = s.sl) {i : Nat} {id : Int} (hid : id = (i : Int) + 1) (t : Sl) : ndsOf (L.set i t) = s.sl.set (id - 1).toNat (t.w, t.n.p) := by
  rw [← h, show (id - 1).toNat = i by omega]
  simp [ndsOf, List.map_set]
theorem ndsR_set {L : List RS} {s : AS} (h : ndsR L = s.sl) {i : Nat} {id : Int} (hid : id = (i : Int) + 1) (t : RS) : ndsR (L.set i t) = s.sl.set (id - 1).toNat (t.w, t.n.p) := by
  rw [← h, show (id - 1).toNat = i by omega]
  simp [ndsR, List.map_set]
theorem ndsOf_lenS {L : List Sl} {s : AS} (h : ndsOf L = s.sl) : L.length = s.sl.length := by rw [← h, ndsOf_len]
theorem ndsR_lenS {L : List RS} {s : AS} (h : ndsR L = s.sl) : L.length = s.sl.length := by rw [← h, ndsR_len]

section
variable {W : World} {A : Nat} {F : Nat → Prop} {s : AS}
/-! ### Used, Root, Left -/
theorem px_used (h : PX W A F s) : Calls Try.prog 14 #[.pointer (some ⟨A, 0, none⟩)] W fun e w' => e = .returned (.int .i64 (s.sl.length : Nat)) ∧ w' = W := by
  obtain ⟨M, D, L, h1, h2, _⟩ := h
  rw [← ndsOf_lenS h2]
  exact used_any h1
theorem rx_used (h : RX W A F s) : Calls Try.prog 20 #[.pointer (some ⟨A, 0, none⟩)] W fun e w' => e = .returned (.int .i64 (s.sl.length : Nat)) ∧ w' = W := by
  obtain ⟨g, c, M, D, L, h1, h2, _⟩ := h
  rw [← ndsR_lenS h2]
  exact rused_any h1
theorem px_root (h : PX W A F s) : Calls Try.prog 19 #[.pointer (some ⟨A, 0, none⟩)] W fun e w' => e = .returned (.int .i64 s.root) ∧ w' = W := by
  obtain ⟨M, D, L, h1, _⟩ := h
  exact root_any h1
theorem rx_root (h : RX W A F s) : Calls Try.prog 28 #[.pointer (some ⟨A, 0, none⟩)] W fun e w' => e = .returned (.int .i64 s.root) ∧ w' = W := by
  obtain ⟨g, c, M, D, L, h1, _⟩ := h
  exact rroot_any h1
theorem px_left (h : PX W A F s) : Calls Try.prog 16 #[.pointer (some ⟨A, 0, none⟩)] W fun e w' => e = .returned (.int .i64 (s.nodes - (s.sl.length : Nat))) ∧ ∃ k, w' = W.drewN k := by
  obtain ⟨M, D, L, h1, h2, _⟩ := h
  rw [← ndsOf_lenS h2]
  exact left_any h1
theorem rx_left (h : RX W A F s) : Calls Try.prog 41 #[.pointer (some ⟨A, 0, none⟩)] W fun e w' => e = .returned (.int .i64 (s.nodes - (s.sl.length : Nat))) ∧ ∃ k, w' = W.drewN k := by
  obtain ⟨g, c, M, D, L, h1, h2, _⟩ := h
  rw [← ndsR_lenS h2]
  exact rleft_any h1
theorem px_len (h : PX W A F s) : s.sl.length ≤ 65536 ∧ (s.sl.length : Int) ≤ s.nodes ∧ s.nodes ≤ 65536 ∧ 1 ≤ s.sl.length := by
  obtain ⟨M, D, L, h1, h2, _⟩ := h
  rw [← ndsOf_lenS h2]
  exact ⟨h1.n_le, h1.le, h1.nz, h1.one⟩
theorem px_wlt (h : PX W A F s) (id : Int) (hin : s.inn id) : s.w id < 18446744073709551616 := by
  obtain ⟨M, D, L, h1, h2, _⟩ := h
  obtain ⟨i, hi, hid, _⟩ := AS.idx hin
  have hi' : i < L.length := by rw [ndsOf_lenS h2]; exact hi
  rw [(ndsOf_at h2 hi' hid).1]
  exact (h1.sl L[i] (List.getElem_mem hi')).w
/-! ### Word, Lock, Unlock, Grow, Alloc, Held -/
theorem px_word (h : PX W A F s) (id : Int) : Calls Try.prog 17 #[.pointer (some ⟨A, 0, none⟩), .int .i64 id] W fun e w' => e = .returned (.tuple #[.int .u64 (s.wordW id : Nat), .int .i64 (s.wordE id)]) ∧ w' = W := by
  obtain ⟨M, D, L, h1, h2, _⟩ := h
  by_cases hin : s.inn id
  · obtain ⟨i, hi, hid, _⟩ := AS.idx hin
    have hi' : i < L.length := by rw [ndsOf_lenS h2]; exact hi
    have := word_any h1 i hi'
    rw [← hid, ← (ndsOf_at h2 hi' hid).1] at this
    unfold AS.wordW AS.wordE
    rw [if_pos hin, if_pos hin]; exact this
  · unfold AS.wordW AS.wordE
    rw [if_neg hin, if_neg hin]
    exact word_none h1 id (by rw [ndsOf_lenS h2]; exact hin)
theorem rx_word (h : RX W A F s) (id : Int) : Calls Try.prog 32 #[.pointer (some ⟨A, 0, none⟩), .int .i64 id] W fun e w' => e = .returned (.tuple #[.int .u64 (s.wordW id : Nat), .int .i64 (s.wordE id)]) ∧ w' = W := by
  obtain ⟨g, c, M, D, L, h1, h2, _⟩ := h
  by_cases hin : s.inn id
  · obtain ⟨i, hi, hid, _⟩ := AS.idx hin
    have hi' : i < L.length := by rw [ndsR_lenS h2]; exact hi
    have := rword_any h1 i hi'
    rw [← hid, ← (ndsR_at h2 hi' hid).1] at this
    unfold AS.wordW AS.wordE
    rw [if_pos hin, if_pos hin]; exact this
  · unfold AS.wordW AS.wordE
    rw [if_neg hin, if_neg hin]
    exact rword_none h1 id (by rw [ndsR_lenS h2]; exact hin)
theorem px_lock (h : PX W A F s) (id : Int) (x : Nat) (hx : x < 18446744073709551616) : Calls Try.prog 21 #[.pointer (some ⟨A, 0, none⟩), .int .i64 id, .int .u64 (x : Nat)] W fun e w' => e = .returned (.tuple #[.bool (s.lockB id x), .int .i64 (s.wordE id)]) ∧ PNext W A F (s.lockS id x) w' := by
  have h0 := h
  obtain ⟨M, D, L, h1, h2, h3, h4⟩ := h
  by_cases hin : s.inn id
  · obtain ⟨i, hi, hid, _⟩ := AS.idx hin
    have hi' : i < L.length := by rw [ndsOf_lenS h2]; exact hi
    obtain ⟨hw, hn⟩ := ndsOf_at h2 hi' hid
    rw [show s.wordE id = 0 from if_pos hin]
    by_cases hl : s.w id = x ∧ x % 2 = 0
    · rw [show s.lockB id x = true from decide_eq_true ⟨hin, hl⟩, show s.lockS id x = s.setw id (x + 1) from if_pos ⟨hin, hl⟩]
      have hx' : L[i].w = x := by rw [← hw]; exact hl.1
      have := lock_hit h1 i hi' (by rw [hx']; exact hl.2)
      rw [hx', ← hid] at this
      refine this.mono fun e w' ⟨e1, e2⟩ => ⟨e1, ?_⟩
      rw [e2]
      refine pnext_of (s' := s.setw id (x + 1)) h3 h4 (h1.setW hi' (x + 1) (by omega)) ?_ (fun k hk => .inl hk) (fun k hk => .inl hk) ((Upd.refl _ _).setCell _ _ (fun _ => (h1.sl L[i] (List.getElem_mem hi')).m))
      rw [ndsOf_set h2 hid]
      simp only [AS.setw, hn]
    · rw [show s.lockB id x = false from decide_eq_false (fun e => hl e.2), show s.lockS id x = s from if_neg (fun e => hl e.2)]
      have := lock_miss h1 i hi' x hx (by rw [← hw]; exact hl)
      rw [← hid] at this
      exact this.mono fun e w' ⟨e1, e2⟩ => ⟨e1, by rw [e2]; exact h0.still (Below.refl _ _)⟩
  · rw [show s.wordE id = 101 from if_neg hin, show s.lockB id x = false from decide_eq_false (fun e => hin e.1), show s.lockS id x = s from if_neg (fun e => hin e.1)]
    exact (lock_none h1 id _ (by rw [ndsOf_lenS h2]; exact hin)).mono fun e w' ⟨e1, e2⟩ => ⟨e1, by rw [e2]; exact h0.still (Below.refl _ _)⟩
theorem rx_lock (h : RX W A F s) (id : Int) (x : Nat) (hx : x < 18446744073709551616) : Calls Try.prog 54 #[.pointer (some ⟨A, 0, none⟩), .int .i64 id, .int .u64 (x : Nat)] W fun e w' => e = .returned (.tuple #[.bool (s.lockB id x), .int .i64 (s.wordE id)]) ∧ RNext W A F (s.lockS id x) w' := by
  have h0 := h
  obtain ⟨g, c, M, D, L, h1, h2, h3, h4⟩ := h
  by_cases hin : s.inn id
  · obtain ⟨i, hi, hid, _⟩ := AS.idx hin
    have hi' : i < L.length := by rw [ndsR_lenS h2]; exact hi
    obtain ⟨hw, hn⟩ := ndsR_at h2 hi' hid
    rw [show s.wordE id = 0 from if_pos hin]
    by_cases hl : s.w id = x ∧ x % 2 = 0
    · rw [show s.lockB id x = true from decide_eq_true ⟨hin, hl⟩, show s.lockS id x = s.setw id (x + 1) from if_pos ⟨hin, hl⟩]
      have hx' : L[i].w = x := by rw [← hw]; exact hl.1
      have := rlock_hit h1 i hi' (by rw [hx']; exact hl.2)
      rw [hx', ← hid] at this
      refine this.mono fun e w' ⟨e1, e2⟩ => ⟨e1, ?_⟩
      rw [e2]
      refine rnext_of (s' := s.setw id (x + 1)) h3 h4 (h1.setW i hi' (x + 1) (by omega)) ?_ (fun k hk => .inl hk) (fun k hk => .inl hk) ((Upd.refl _ _).setCell _ _ (fun _ => h1.mg))
      rw [ndsR_set h2 hid]
      simp only [AS.setw, hn]
    · rw [show s.lockB id x = false from decide_eq_false (fun e => hl e.2), show s.lockS id x = s from if_neg (fun e => hl e.2)]
      have := rlock_miss h1 i hi' x hx (by rw [← hw]; exact hl)
      rw [← hid] at this
      exact this.mono fun e w' ⟨e1, e2⟩ => ⟨e1, by rw [e2]; exact h0.still (Below.refl _ _)⟩
  · rw [show s.wordE id = 101 from if_neg hin, show s.lockB id x = false from decide_eq_false (fun e => hin e.1), show s.lockS id x = s from if_neg (fun e => hin e.1)]
    exact (rlock_none h1 id _ (by rw [ndsR_lenS h2]; exact hin)).mono fun e w' ⟨e1, e2⟩ => ⟨e1, by rw [e2]; exact h0.still (Below.refl _ _)⟩
theorem freeW_lt (x : Nat) (ch : Bool) (hx : x < 18446744073709551616) : freeW x ch < 18446744073709551616 := by
  unfold freeW
  cases ch
  · simp; omega
  · simp only [if_true]; omega
theorem px_unlock (h : PX W A F s) (id : Int) (ch : Bool) : Calls Try.prog 22 #[.pointer (some ⟨A, 0, none⟩), .int .i64 id, .bool ch] W fun e w' => e = .returned (.int .i64 (s.unlE id)) ∧ PNext W A F (s.unlS id ch) w' := by
  have h0 := h
  obtain ⟨M, D, L, h1, h2, h3, h4⟩ := h
  by_cases hin : s.inn id
  · obtain ⟨i, hi, hid, _⟩ := AS.idx hin
    have hi' : i < L.length := by rw [ndsOf_lenS h2]; exact hi
    obtain ⟨hw, hn⟩ := ndsOf_at h2 hi' hid
    by_cases hl : s.w id % 2 = 0
    · have hE : s.unlE id = 102 := by unfold AS.unlE; rw [if_pos hin, if_pos hl]
      rw [show s.unlS id ch = s from if_neg (by rw [hE]; decide), hE]
      have := unlock_free h1 i hi' ch (by rw [← hw]; exact hl)
      rw [← hid] at this
      exact this.mono fun e w' ⟨e1, e2⟩ => ⟨e1, by rw [e2]; exact h0.still (Below.refl _ _)⟩
    · have hE : s.unlE id = 0 := by unfold AS.unlE; rw [if_pos hin, if_neg hl]
      rw [show s.unlS id ch = s.setw id (freeW (s.w id) ch) from if_pos hE, hE]
      have := unlock_held h1 i hi' ch (by rw [← hw]; omega)
      rw [← hid] at this
      refine this.mono fun e w' ⟨e1, e2⟩ => ⟨e1, ?_⟩
      rw [e2, hw]
      refine pnext_of (s' := s.setw id (freeW L[i].w ch)) h3 h4 (h1.setW hi' (freeW L[i].w ch) (freeW_lt _ _ (h1.sl L[i] (List.getElem_mem hi')).w)) ?_ (fun k hk => .inl hk) (fun k hk => .inl hk) ((Upd.refl _ _).setCell _ _ (fun _ => (h1.sl L[i] (List.getElem_mem hi')).m))
      rw [ndsOf_set h2 hid]
      simp only [AS.setw, hn]
  · have hE : s.unlE id = 101 := by unfold AS.unlE; rw [if_neg hin]
    rw [show s.unlS id ch = s from if_neg (by rw [hE]; decide), hE]
    exact (unlock_none h1 id ch (by rw [ndsOf_lenS h2]; exact hin)).mono fun e w' ⟨e1, e2⟩ => ⟨e1, by rw [e2]; exact h0.still (Below.refl _ _)⟩
theorem heE_eq {L : List RS} (h : ndsR L = s.sl) (id : Int) : heE L id = s.unlE id := by
  unfold heE AS.unlE
  by_cases hin : s.inn id
  · obtain ⟨i, hi, hid, e⟩ := AS.idx hin
    have hi' : i < L.length := by rw [ndsR_lenS h]; exact hi
    rw [if_pos hin, if_pos (by rw [ndsR_lenS h]; exact hin), (ndsR_at h hi' hid).1, e, List.getElem?_eq_getElem hi']
    rfl
  · rw [if_neg hin, if_neg (by rw [ndsR_lenS h]; exact hin)]
theorem rx_unlock (h : RX W A F s) (id : Int) (ch : Bool) : Calls Try.prog 34 #[.pointer (some ⟨A, 0, none⟩), .int .i64 id, .bool ch] W fun e w' => e = .returned (.int .i64 (s.unlE id)) ∧ RNext W A F (s.unlS id ch) w' := by
  have h0 := h
  obtain ⟨g, c, M, D, L, h1, h2, h3, h4⟩ := h
  by_cases hE : s.unlE id = 0
  · have hin : s.inn id := Decidable.byContradiction fun hc => by unfold AS.unlE at hE; rw [if_neg hc] at hE; cases hE
    obtain ⟨i, hi, hid, _⟩ := AS.idx hin
    have hi' : i < L.length := by rw [ndsR_lenS h2]; exact hi
    obtain ⟨hw, hn⟩ := ndsR_at h2 hi' hid
    have hl : ¬ s.w id % 2 = 0 := fun hc => by unfold AS.unlE at hE; rw [if_pos hin, if_pos hc] at hE; cases hE
    rw [show s.unlS id ch = s.setw id (freeW (s.w id) ch) from if_pos hE, hE]
    have := runlock_held h1 i hi' ch (by rw [← hw]; omega)
    rw [← hid] at this
    refine this.mono fun e w' ⟨e1, e2⟩ => ⟨e1, ?_⟩
    rw [e2, hw]
    refine rnext_of (s' := s.setw id (freeW L[i].w ch)) h3 h4 (h1.setW i hi' (freeW L[i].w ch) (freeW_lt _ _ (h1.sl L[i] (List.getElem_mem hi')).w)) ?_ (fun k hk => .inl hk) (fun k hk => .inl hk) ((Upd.refl _ _).setCell _ _ (fun _ => h1.mg))
    rw [ndsR_set h2 hid]
    simp only [AS.setw, hn]
  · rw [show s.unlS id ch = s from if_neg hE, ← heE_eq h2]
    exact (runlock_not h1 id ch (by rw [heE_eq h2]; exact hE)).mono fun e w' ⟨e1, e2⟩ => ⟨e1, by rw [e2]; exact h0.still (Below.refl _ _)⟩
theorem px_grow (h : PX W A F s) (old id : Int) : Calls Try.prog 37 #[.pointer (some ⟨A, 0, none⟩), .int .i64 old, .int .i64 id] W fun e w' => e = .returned (.tuple #[.bool (s.groB old id), .int .i64 (s.wordE id)]) ∧ PNext W A F (s.groS old id) w' := by
  have h0 := h
  obtain ⟨M, D, L, h1, h2, h3, h4⟩ := h
  by_cases hin : s.inn id
  · rw [show s.wordE id = 0 from if_pos hin]
    have hin' : 1 ≤ id ∧ id ≤ (L.length : Nat) := by rw [ndsOf_lenS h2]; exact hin
    by_cases hr : s.root = old
    · rw [show s.groB old id = true from decide_eq_true ⟨hin, hr⟩, show s.groS old id = ⟨s.nodes, id, s.sl⟩ from if_pos ⟨hin, hr⟩, ← hr]
      refine (grow_yes h1 id hin').mono fun e w' ⟨e1, e2⟩ => ⟨e1, ?_⟩
      rw [e2]
      exact pnext_of (s' := ⟨s.nodes, id, s.sl⟩) h3 h4 (h1.setR id) h2 (fun k hk => .inl hk) (fun k hk => .inl hk) ((Upd.refl _ _).setCell _ _ (fun _ => h1.mA))
    · rw [show s.groB old id = false from decide_eq_false (fun e => hr e.2), show s.groS old id = s from if_neg (fun e => hr e.2)]
      exact (grow_no h1 old id hin' hr).mono fun e w' ⟨e1, e2⟩ => ⟨e1, by rw [e2]; exact h0.still (Below.refl _ _)⟩
  · rw [show s.wordE id = 101 from if_neg hin, show s.groB old id = false from decide_eq_false (fun e => hin e.1), show s.groS old id = s from if_neg (fun e => hin e.1)]
    exact (grow_none h1 old id (by rw [ndsOf_lenS h2]; exact hin)).mono fun e w' ⟨e1, e2⟩ => ⟨e1, by rw [e2]; exact h0.still (Below.refl _ _)⟩
theorem rx_grow (h : RX W A F s) (old id : Int) : Calls Try.prog 38 #[.pointer (some ⟨A, 0, none⟩), .int .i64 old, .int .i64 id] W fun e w' => e = .returned (.tuple #[.bool (s.groB old id), .int .i64 (s.wordE id)]) ∧ RNext W A F (s.groS old id) w' := by
  have h0 := h
  obtain ⟨g, c, M, D, L, h1, h2, h3, h4⟩ := h
  by_cases hin : s.inn id
  · rw [show s.wordE id = 0 from if_pos hin]
    have hin' : 1 ≤ id ∧ id ≤ (L.length : Nat) := by rw [ndsR_lenS h2]; exact hin
    by_cases hr : s.root = old
    · rw [show s.groB old id = true from decide_eq_true ⟨hin, hr⟩, show s.groS old id = ⟨s.nodes, id, s.sl⟩ from if_pos ⟨hin, hr⟩, ← hr]
      refine (rgrow_yes h1 id hin').mono fun e w' ⟨e1, e2⟩ => ⟨e1, ?_⟩
      rw [e2]
      exact rnext_of (s' := ⟨s.nodes, id, s.sl⟩) h3 h4 (h1.setR id) h2 (fun k hk => .inl hk) (fun k hk => .inl hk) ((Upd.refl _ _).setCell _ _ (fun _ => h1.mA))
    · rw [show s.groB old id = false from decide_eq_false (fun e => hr e.2), show s.groS old id = s from if_neg (fun e => hr e.2)]
      exact (rgrow_no h1 old id hin' hr).mono fun e w' ⟨e1, e2⟩ => ⟨e1, by rw [e2]; exact h0.still (Below.refl _ _)⟩
  · rw [show s.wordE id = 101 from if_neg hin, show s.groB old id = false from decide_eq_false (fun e => hin e.1), show s.groS old id = s from if_neg (fun e => hin e.1)]
    exact (rgrow_none h1 old id (by rw [ndsR_lenS h2]; exact hin)).mono fun e w' ⟨e1, e2⟩ => ⟨e1, by rw [e2]; exact h0.still (Below.refl _ _)⟩
theorem px_alloc (h : PX W A F s) : Calls Try.prog 15 #[.pointer (some ⟨A, 0, none⟩)] W fun e w' => e = .returned (.tuple #[.int .i64 s.allI, .int .i64 s.allE]) ∧ PNext W A F s.allS w' := by
  have h0 := h
  obtain ⟨M, D, L, h1, h2, h3, h4⟩ := h
  have hl := ndsOf_lenS h2
  by_cases hn : (s.sl.length : Int) < s.nodes
  · rw [show s.allI = (s.sl.length : Int) + 1 from if_pos hn, show s.allE = 0 from if_pos hn, show s.allS = ⟨s.nodes, s.root, s.sl ++ [(1, NP.zero)]⟩ from if_pos hn]
    refine (alloc_any h1 (by rw [hl]; exact hn)).mono ?_
    rintro e w' ⟨M', b, rfl, hP, hM, hU⟩
    rw [hl]
    refine ⟨rfl, pnext_of (s' := ⟨s.nodes, s.root, s.sl ++ [(1, NP.zero)]⟩) h3 h4 hP ?_ hM (fun k hk => .inl hk) hU⟩
    simp only [ndsOf, List.map_append] at h2 ⊢
    rw [h2]
    rfl
  · rw [show s.allI = 0 from if_neg hn, show s.allE = 2 from if_neg hn, show s.allS = s from if_neg hn]
    have := h1.le
    refine (alloc_full h1 (by rw [hl] at *; omega)).mono ?_
    rintro e w' ⟨rfl, k, rfl⟩
    exact ⟨rfl, h0.still (below_drewN (Below.refl _ _) k)⟩
theorem rx_alloc (h : RX W A F s) : Calls Try.prog 31 #[.pointer (some ⟨A, 0, none⟩)] W fun e w' => e = .returned (.tuple #[.int .i64 s.allI, .int .i64 s.allE]) ∧ RNext W A F s.allS w' := by
  have h0 := h
  obtain ⟨g, c, M, D, L, h1, h2, h3, h4⟩ := h
  have hl := ndsR_lenS h2
  by_cases hn : (s.sl.length : Int) < s.nodes
  · rw [show s.allI = (s.sl.length : Int) + 1 from if_pos hn, show s.allE = 0 from if_pos hn, show s.allS = ⟨s.nodes, s.root, s.sl ++ [(1, NP.zero)]⟩ from if_pos hn]
    refine (ralloc_any h1 (by rw [hl]; exact hn)).mono ?_
    rintro e w' ⟨g', c', M', rfl, hP, hM, hU⟩
    rw [hl]
    refine ⟨rfl, rnext_of (s' := ⟨s.nodes, s.root, s.sl ++ [(1, NP.zero)]⟩) h3 h4 hP ?_ hM (fun k hk => .inl hk) hU⟩
    simp only [ndsR, List.map_append] at h2 ⊢
    rw [h2]
    rfl
  · rw [show s.allI = 0 from if_neg hn, show s.allE = 2 from if_neg hn, show s.allS = s from if_neg hn]
    have := h1.le
    refine (ralloc_full h1 (by rw [hl] at *; omega)).mono ?_
    rintro e w' ⟨rfl, k, rfl⟩
    exact ⟨rfl, h0.still (below_drewN (Below.refl _ _) k)⟩
def AS.held (s : AS) : List Int := heldL (s.sl.map (·.1))
theorem px_held (h : PX W A F s) : Calls Try.prog 18 #[.pointer (some ⟨A, 0, none⟩)] W (HeldPost W s.held) := by
  obtain ⟨M, D, L, h1, h2, _⟩ := h
  have := held_any h1
  rwa [show heldL (L.map (·.w)) = s.held by unfold AS.held; rw [← h2]; simp [ndsOf, Function.comp_def]] at this
theorem rx_held (h : RX W A F s) : Calls Try.prog 40 #[.pointer (some ⟨A, 0, none⟩)] W (HeldPost W s.held) := by
  obtain ⟨g, c, M, D, L, h1, h2, _⟩ := h
  have := rheldL_any h1
  rwa [show heldL (L.map (·.w)) = s.held by unfold AS.held; rw [← h2]; simp [ndsR, Function.comp_def]] at this
end

end Go.Proofs.Ytfpogjgbmibmcaa
