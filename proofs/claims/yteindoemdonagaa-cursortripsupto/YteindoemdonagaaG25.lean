/- The document's Out: Push. -/
import Derived.Test.YteindoemdonagaaG24
import Derived.Deep.AppendLies
namespace Go.Proofs.Yteindoemdonagaa
open Go.RowKit

theorem owns_some {w : World} {base n : Nat} {v : Value} {zs : List Int} (h : w.ownsRow base 5 1 v n (zs.map (Value.int .u8))) (hn : 0 < n) : ∃ fb fc, v = .slice (some ⟨fb, 0, none⟩) n fc ∧ base ≤ fb ∧ fb < w.heap.size ∧ n ≤ fc ∧ Row w .u8 (some ⟨fb, 0, none⟩) zs := by
  have h' := h
  rcases h.2 with ⟨_, h0⟩ | ⟨g, cap, cur, hv, hb, hh, h1, _⟩
  · omega
  · subst hv
    refine ⟨g, cap, rfl, hb, lt_of_block hh, h1, fun i hi => ⟨g, 0, rfl, ?_⟩⟩
    have hc := h'.cells (g := g) rfl i (.int .u8 (zs.getD i 0)) (by rw [List.getElem?_map, List.getD, List.getElem?_eq_getElem hi]; rfl)
    rwa [Addr.add_lit] at hc
theorem qelem : Try.prog.elem 32 = 5 := by kernel_rfl
theorem qsize (W : World) : (sizeOf 5).run Try.prog W = .ok 1 W := by
  obtain ⟨i0, hi, hz0, hz1, hz2⟩ := info_parts' infoByte'
  simp [sizeOf, typeInfo, hi, hz1]
theorem qund : Try.prog.underlying 32 = some (.slice (Try.prog.elem 32)) := by rw [qelem]; exact Try.underlying32
theorem run_fromQ (b o lk ck n : Nat) (hn : n ≤ lk) : ∃ (av : Addr), av.block = b ∧ ((ck = n ∧ av = ⟨b, o, none⟩) ∨ (ck ≠ n ∧ av = ⟨b, o + n, none⟩)) ∧ ∀ W : World, (Instr.slice 32 (.slice (some ⟨b, o, none⟩) lk ck) (some (.int .i64 (n : Int))) none none).run Try.prog W = .ok (.slice (some av) (lk - n) (ck - n)) W := by
  by_cases h : ck = n
  · refine ⟨⟨b, o, none⟩, rfl, .inl ⟨h, rfl⟩, fun W => ?_⟩
    rw [run_slice_l (P := Try.prog) W 32 (some ⟨b, o, none⟩) lk ck qund .i64 (n : Int) (by omega) (by omega), qelem, qsize]
    simp [Result.andThen, sliced, h]
  · refine ⟨⟨b, o + n, none⟩, rfl, .inr ⟨h, rfl⟩, fun W => ?_⟩
    rw [run_slice_l (P := Try.prog) W 32 (some ⟨b, o, none⟩) lk ck qund .i64 (n : Int) (by omega) (by omega), qelem, qsize]
    simp [Result.andThen, sliced, h, Addr.add_lit]
theorem told_err {i n : Nat} {er : Int} (h : er ≠ 0) : toldOf (idleOf i n er) er = er := by
  have h0 : idleOf i n er = 0 := by unfold idleOf; exact if_pos (Or.inr h)
  rw [h0]; unfold toldOf; simp

end Go.Proofs.Yteindoemdonagaa
