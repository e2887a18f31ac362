/- The statements' World: an arena of the program's beside the document's. -/
import Derived.Test.YtfpogjgbmibmcaaAAbs2
import Derived.Test.YtfpogjgbmibmcaaAPick
namespace Go.Proofs.Ytfpogjgbmibmcaa
open Go.RowKit

/-- Both arenas; K: blocks that neither touches. -/
def AW (K : Nat → Prop) (W : World) (P AX AY : Nat) (s t : AS) : Prop :=
  ∃ FX FY, W.heap[P]? = some (.cells #[.pointer (some ⟨AX, 0, none⟩), .pointer (some ⟨AY, 0, none⟩)] 58 (0, 0)) ∧ PX W AX FX s ∧ RX W AY FY t ∧ (∀ k, FX k → ¬ FY k) ∧ (∀ k, FX k ∨ FY k → ¬ K k) ∧ K P ∧ (∀ k, K k → k < W.heap.size)
section
variable {K : Nat → Prop} {W W' : World} {P AX AY : Nat} {s t : AS}
theorem AW.cells (h : AW K W P AX AY s t) : W.cell? ⟨P, 0, none⟩ = some (.pointer (some ⟨AX, 0, none⟩)) ∧ W.cell? ⟨P, 1, none⟩ = some (.pointer (some ⟨AY, 0, none⟩)) := by
  obtain ⟨FX, FY, h1, _⟩ := h
  exact ⟨by rw [cell_of_row _ _ _ _ _ _ h1]; rfl, by rw [cell_of_row _ _ _ _ _ _ h1]; rfl⟩
theorem AW.kp (h : AW K W P AX AY s t) : K P := by obtain ⟨_, _, _, _, _, _, _, h6, _⟩ := h; exact h6
theorem AW.klt (h : AW K W P AX AY s t) : ∀ k, K k → k < W.heap.size := by obtain ⟨_, _, _, _, _, _, _, _, h7⟩ := h; exact h7
/-- More that is not touched: what is new. -/
theorem AW.more (h : AW K W P AX AY s t) (hb : Below W.heap.size W W') {K' : Nat → Prop} (h1 : ∀ k, K' k → K k ∨ (W.heap.size ≤ k ∧ k < W'.heap.size)) (h2 : K' P) : AW K' W' P AX AY s t := by
  obtain ⟨FX, FY, a1, a2, a3, a4, a5, a6, a7⟩ := h
  have hu : Upd Noth W W' := Upd.of_below hb _
  refine ⟨FX, FY, hu.heap a1 (fun e => e), a2.upd hu (fun _ _ e => e), a3.upd hu (fun _ _ e => e), a4, fun k hk hk' => ?_, h2, fun k hk => ?_⟩
  · rcases h1 k hk' with h | h
    · exact a5 k hk h
    · rcases hk with hk | hk
      · have := a2.lt k hk; omega
      · have := a3.lt k hk; omega
  · rcases h1 k hk with h | h
    · exact Nat.lt_of_lt_of_le (a7 k h) hb.size
    · exact h.2
theorem AW.below (h : AW K W P AX AY s t) (hb : Below W.heap.size W W') : AW K W' P AX AY s t := h.more hb (fun _ hk => .inl hk) h.kp
theorem AW.less (h : AW K W P AX AY s t) {K' : Nat → Prop} (h1 : ∀ k, K' k → K k) (h2 : K' P) : AW K' W P AX AY s t := h.more (Below.refl _ _) (fun k hk => .inl (h1 k hk)) h2
theorem kept_cell {p : Addr} {v : Value} (h : Upd (fun k => ¬ K k) W W') (hc : W.cell? p = some v) (hk : K p.block) : W'.cell? p = some v := h.cell hc (fun e => e hk)
theorem kept_heap {g : Nat} {o : Obj} (h : Upd (fun k => ¬ K k) W W') (hc : W.heap[g]? = some o) (hk : K g) : W'.heap[g]? = some o := h.heap hc (fun e => e hk)
theorem kept_less {K' : Nat → Prop} (h : Upd (fun k => ¬ K' k) W W') (hk : ∀ k, K k → K' k) : Upd (fun k => ¬ K k) W W' := h.mono (fun k _ hn e => hn (hk k e))
theorem kept_below (hb : Below W.heap.size W W') : Upd (fun k => ¬ K k) W W' := Upd.of_below hb _
/-- A call of the program's arena. -/
theorem AW.X (h : AW K W P AX AY s t) {f : FuncId} {args : Array Value} {r : Value} {s' : AS} (H : ∀ F, PX W AX F s → Calls Try.prog f args W fun e w' => e = .returned r ∧ PNext W AX F s' w') :
    Calls Try.prog f args W fun e w' => e = .returned r ∧ AW K w' P AX AY s' t ∧ Upd (fun k => ¬ K k) W w' := by
  obtain ⟨FX, FY, a1, a2, a3, a4, a5, a6, a7⟩ := h
  refine (H FX a2).mono fun e w' ⟨e1, F', p1, st⟩ => ⟨e1, ⟨F', FY, ?_, p1, ?_, ?_, ?_, a6, ?_⟩, ?_⟩
  · exact st.u.heap a1 (fun e => a5 P (.inl e) a6)
  · exact a3.upd st.u (fun k hk e => a4 k e hk)
  · intro k hk hy
    rcases st.f k hk with h | h
    · exact a4 k h hy
    · have := a3.lt k hy; omega
  · intro k hk hK
    rcases hk with hk | hk
    · rcases st.f k hk with h | h
      · exact a5 k (.inl h) hK
      · have := a7 k hK; omega
    · exact a5 k (.inr hk) hK
  · exact fun k hk => Nat.lt_of_lt_of_le (a7 k hk) st.u.size
  · exact st.u.mono (fun k _ hk => a5 k (.inl hk))
/-- A call of the document's arena. -/
theorem AW.Y (h : AW K W P AX AY s t) {f : FuncId} {args : Array Value} {r : Value} {t' : AS} (H : ∀ F, RX W AY F t → Calls Try.prog f args W fun e w' => e = .returned r ∧ RNext W AY F t' w') :
    Calls Try.prog f args W fun e w' => e = .returned r ∧ AW K w' P AX AY s t' ∧ Upd (fun k => ¬ K k) W w' := by
  obtain ⟨FX, FY, a1, a2, a3, a4, a5, a6, a7⟩ := h
  refine (H FY a3).mono fun e w' ⟨e1, F', p1, st⟩ => ⟨e1, ⟨FX, F', ?_, ?_, p1, ?_, ?_, a6, ?_⟩, ?_⟩
  · exact st.u.heap a1 (fun e => a5 P (.inr e) a6)
  · exact a2.upd st.u (fun k hk e => a4 k hk e)
  · intro k hk hy
    rcases st.f k hy with h | h
    · exact a4 k hk h
    · have := a2.lt k hk; omega
  · intro k hk hK
    rcases hk with hk | hk
    · exact a5 k (.inl hk) hK
    · rcases st.f k hk with h | h
      · exact a5 k (.inr h) hK
      · have := a7 k hK; omega
  · exact fun k hk => Nat.lt_of_lt_of_le (a7 k hk) st.u.size
  · exact st.u.mono (fun k _ hk => a5 k (.inr hk))
/-- A call that only looks. -/
theorem AW.px (h : AW K W P AX AY s t) : ∃ F, PX W AX F s := by obtain ⟨FX, FY, _, a2, _⟩ := h; exact ⟨FX, a2⟩
theorem AW.rx (h : AW K W P AX AY s t) : ∃ F, RX W AY F t := by obtain ⟨FX, FY, _, _, a3, _⟩ := h; exact ⟨FY, a3⟩
theorem AW.len (h : AW K W P AX AY s t) : s.sl.length ≤ 65536 ∧ (s.sl.length : Int) ≤ s.nodes ∧ s.nodes ≤ 65536 ∧ 1 ≤ s.sl.length := by obtain ⟨F, h⟩ := h.px; exact px_len h
theorem AW.wlt (h : AW K W P AX AY s t) (id : Int) : s.wordW id < 18446744073709551616 := by
  obtain ⟨F, h⟩ := h.px
  unfold AS.wordW
  split
  · rename_i hin; exact px_wlt h id hin
  · decide
theorem aw_wordX (h : AW K W P AX AY s t) (id : Int) : Calls Try.prog 17 #[.pointer (some ⟨AX, 0, none⟩), .int .i64 id] W fun e w' => e = .returned (.tuple #[.int .u64 (s.wordW id : Nat), .int .i64 (s.wordE id)]) ∧ w' = W := by obtain ⟨F, h⟩ := h.px; exact px_word h id
theorem aw_wordY (h : AW K W P AX AY s t) (id : Int) : Calls Try.prog 32 #[.pointer (some ⟨AY, 0, none⟩), .int .i64 id] W fun e w' => e = .returned (.tuple #[.int .u64 (t.wordW id : Nat), .int .i64 (t.wordE id)]) ∧ w' = W := by obtain ⟨F, h⟩ := h.rx; exact rx_word h id
theorem aw_usedY (h : AW K W P AX AY s t) : Calls Try.prog 20 #[.pointer (some ⟨AY, 0, none⟩)] W fun e w' => e = .returned (.int .i64 (t.sl.length : Nat)) ∧ w' = W := by obtain ⟨F, h⟩ := h.rx; exact rx_used h
/-- What a call of the statements' World leaves. -/
def AwPost (K : Nat → Prop) (W : World) (P AX AY : Nat) (s : AS) (e : Ending) (w' : World) : Prop := e = .returned (.bool true) ∧ AW K w' P AX AY s s ∧ Upd (fun k => ¬ K k) W w'

set_option maxHeartbeats 800000 in
theorem wid_any (h : AW K W P AX AY s s) (c : Int) (h1 : -9223372036854775808 ≤ c) (h2 : c ≤ 9223372036854775807) :
    Calls Try.prog 30 #[.pointer (some ⟨P, 0, none⟩), .int .i64 c] W fun e w' => e = .returned (.int .i64 (pickN c (s.sl.length + 2) : Nat)) ∧ w' = W := by
  obtain ⟨c0, c1⟩ := h.cells
  have HU := hide (aw_usedY h)
  have hl := h.len.1
  clear h
  generalize s.sl.length = n at *
  have HK := hide (pick_any c (n + 2) W (by omega) (by omega) h1 h2)
  rw [show ((n + 2 : Nat) : Int) = (n : Int) + 2 by omega] at HK
  have j1 : (n : Int) + 2 ≤ 70000 := by omega
  generalize pickN c (n + 2) = r at *
  go_enter Try.func30, Try.ntmps30
  go_wp2_with fail
  refine keep HU.out ?_
  go_wp2_with fail
  refine keep HK.out ?_
  go_wp2_with fail
  go_ret
  exact ⟨rfl, rfl⟩
set_option maxHeartbeats 800000 in
theorem wlock_any (h : AW K W P AX AY s s) (id : Int) (x : Nat) (hx : x < 18446744073709551616) :
    Calls Try.prog 33 #[.pointer (some ⟨P, 0, none⟩), .int .i64 id, .int .u64 (x : Nat)] W (AwPost K W P AX AY (s.lockS id x)) := by
  obtain ⟨c0, c1⟩ := h.cells
  have HX := hide (h.X (fun F hp => px_lock hp id x hx))
  have HY : Hid (∀ w', AW K w' P AX AY (s.lockS id x) s → Calls Try.prog 54 #[.pointer (some ⟨AY, 0, none⟩), .int .i64 id, .int .u64 (x : Nat)] w' fun e w'' => e = .returned (.tuple #[.bool (s.lockB id x), .int .i64 (s.wordE id)]) ∧ AW K w'' P AX AY (s.lockS id x) (s.lockS id x) ∧ Upd (fun k => ¬ K k) w' w'') := fun w' hw => hw.Y (fun F hp => rx_lock hp id x hx)
  clear h
  generalize s.lockB id x = bb at *
  generalize s.wordE id = er at *
  generalize s.lockS id x = s2 at *
  go_enter Try.func33, Try.ntmps33
  go_wp2_with fail
  refine HX.out.mono ?_
  rintro e w2 ⟨rfl, hA2, u2⟩
  obtain ⟨d0, d1⟩ := hA2.cells
  have HY2 := hide (HY.out w2 hA2)
  have U2 := hide u2
  clear hA2 u2 HY HX c0 c1
  go_wp2_with fail
  refine HY2.out.mono ?_
  rintro e w3 ⟨rfl, hA3, u3⟩
  have HF : Hid (AwPost K W P AX AY s2 (.returned (.bool true)) w3) := ⟨rfl, hA3, U2.out.trans u3⟩
  clear hA3 u3 HY2
  go_wp2_with fail
  go_ret
  have := HF.out
  simpa using this
end

end Go.Proofs.Ytfpogjgbmibmcaa
