/- VintLists: where the numbers stand (plain lists); what keeps all but some boxes; marks that ranges leave behind. -/
import Derived.Test.YtlphpcacngimhaaBack
import Derived.Test.YtlphpcacngimhaaRRead
import Derived.Test.YtlphpcacngimhaaLent
namespace Go.Proofs.Ytlphpcacngimhaa
open Go.RowKit Go.Shelf

/-- The place behind numbers, the first of which stands at p. -/
def posF (p : Nat) (l : List (Nat × Nat)) : Nat := match l.getLast? with | none => p | some x => x.1 + (enc x.2).length
theorem posF_cons (p : Nat) (x : Nat × Nat) (l : List (Nat × Nat)) : posF p (x :: l) = posF (x.1 + (enc x.2).length) l := by
  cases l with
  | nil => rfl
  | cons y l => simp only [posF, List.getLast?_cons, Option.getD_some]

theorem enc_len_scan (zs : List Int) (p : Nat) (h8 : ∀ c ∈ zs, 0 ≤ c ∧ c ≤ 255) (h : (scan 0 0 (zs.drop p)).2.2 = 0) : (enc (scan 0 0 (zs.drop p)).1.toNat).length = (scan 0 0 (zs.drop p)).2.1 := by
  have hb := scan_bound0 (zs.drop p) (fun c hc => h8 c (List.mem_of_mem_drop hc))
  rw [scan_back0 (zs.drop p) (fun c hc => h8 c (List.mem_of_mem_drop hc)) h, List.length_take]
  omega

theorem seqF_pos (zs : List Int) (h8 : ∀ c ∈ zs, 0 ≤ c ∧ c ≤ 255) : ∀ (f p : Nat), p ≤ zs.length → zs.length < f + p → ∀ k, k ≤ (seqF zs f p).length →
    posF p ((seqF zs f p).take k) ≤ zs.length ∧
    (k < (seqF zs f p).length → (seqF zs f p)[k]? = some (posF p ((seqF zs f p).take k), (scan 0 0 (zs.drop (posF p ((seqF zs f p).take k)))).1.toNat) ∧
      (scan 0 0 (zs.drop (posF p ((seqF zs f p).take k)))).2.2 = 0 ∧
      posF p ((seqF zs f p).take (k + 1)) = posF p ((seqF zs f p).take k) + (scan 0 0 (zs.drop (posF p ((seqF zs f p).take k)))).2.1) ∧
    (k = (seqF zs f p).length → (scan 0 0 (zs.drop (posF p ((seqF zs f p).take k)))).2.2 ≠ 0)
  | 0, p, hp, hf, k, hk => by omega
  | f + 1, p, hp, hf, k, hk => by
    rw [seqF] at hk ⊢
    by_cases he : (scan 0 0 (zs.drop p)).2.2 = 0
    · rw [if_pos he] at hk ⊢
      have hL := enc_len_scan zs p h8 he
      have hb := scan_bound0 (zs.drop p) (fun c hc => h8 c (List.mem_of_mem_drop hc))
      rw [List.length_drop] at hb
      have h1 := hb.2.2.2 he
      cases k with
      | zero =>
        refine ⟨hp, fun _ => ⟨rfl, he, ?_⟩, fun h => by simp at h⟩
        show posF p ((_ :: _ : List (Nat × Nat)).take 1) = _
        rw [List.take_succ_cons, posF_cons, hL]
        rfl
      | succ k =>
        have ih := seqF_pos zs h8 f (p + (scan 0 0 (zs.drop p)).2.1) (by omega) (by omega) k (by simpa using hk)
        rw [List.take_succ_cons, List.take_succ_cons, posF_cons, posF_cons, hL, List.getElem?_cons_succ, List.length_cons]
        exact ⟨ih.1, fun h => ih.2.1 (by omega), fun h => ih.2.2 (by omega)⟩
    · rw [if_neg he] at hk ⊢
      have hk0 : k = 0 := by simpa using hk
      subst hk0
      exact ⟨hp, fun h => by simp at h, fun _ => he⟩

/-- The place of the number that has so many ahead of it. -/
def pos (zs : List Int) (k : Nat) : Nat := posF 0 ((seq zs).take k)
theorem pos_zero (zs : List Int) : pos zs 0 = 0 := rfl
theorem behindS_pos (zs : List Int) : behindS (seq zs) = pos zs (seq zs).length := by
  unfold pos; rw [List.take_length]; rfl

theorem rd_nat (zs : List Int) (p : Nat) (h : p ≤ zs.length) : rdNum zs (p : Int) = (scan 0 0 (zs.drop p)).1 ∧ rdEnd zs (p : Int) = (p : Int) + ((scan 0 0 (zs.drop p)).2.1 : Int) ∧ rdErr zs (p : Int) = (scan 0 0 (zs.drop p)).2.2 := by
  have hn : ¬ ((p : Int) < 0 ∨ (zs.length : Int) < (p : Int)) := by omega
  unfold rdNum rdEnd rdErr
  rw [if_neg hn, if_neg hn, if_neg hn, Int.toNat_natCast]
  exact ⟨rfl, rfl, rfl⟩

/-- The number that has k ahead of it: it, its place, what Read tells of it. -/
theorem pos_at (zs : List Int) (h8 : ∀ c ∈ zs, 0 ≤ c ∧ c ≤ 255) (k : Nat) (hk : k < (seq zs).length) : ∃ m : Nat, m ≤ 18446744073709551615 ∧
    (seq zs)[k]? = some (pos zs k, m) ∧ rdNum zs (pos zs k : Int) = (m : Int) ∧ rdEnd zs (pos zs k : Int) = (pos zs (k + 1) : Int) ∧ rdErr zs (pos zs k : Int) = 0 ∧ pos zs k < pos zs (k + 1) ∧ pos zs (k + 1) ≤ zs.length := by
  have h := seqF_pos zs h8 (zs.length + 1) 0 (Nat.zero_le _) (by omega) k (Nat.le_of_lt hk)
  have h' := seqF_pos zs h8 (zs.length + 1) 0 (Nat.zero_le _) (by omega) (k + 1) hk
  have hg := h.2.1 hk
  have hb := scan_bound0 (zs.drop (pos zs k)) (fun c hc => h8 c (List.mem_of_mem_drop hc))
  obtain ⟨e1, e2, e3⟩ := rd_nat zs (pos zs k) h.1
  have hm := hb.2.2.2 hg.2.1
  have hs : pos zs (k + 1) = pos zs k + (scan 0 0 (zs.drop (pos zs k))).2.1 := hg.2.2
  refine ⟨(scan 0 0 (zs.drop (pos zs k))).1.toNat, by omega, hg.1, ?_, ?_, e3.trans hg.2.1, by omega, h'.1⟩
  · rw [e1, Int.toNat_of_nonneg hb.1]
  · rw [e2, hs, Int.natCast_add]

theorem pos_le (zs : List Int) (h8 : ∀ c ∈ zs, 0 ≤ c ∧ c ≤ 255) (k : Nat) (hk : k ≤ (seq zs).length) : pos zs k ≤ zs.length :=
  (seqF_pos zs h8 (zs.length + 1) 0 (Nat.zero_le _) (by omega) k hk).1
theorem pos_end (zs : List Int) (h8 : ∀ c ∈ zs, 0 ≤ c ∧ c ≤ 255) : rdErr zs (pos zs (seq zs).length : Int) ≠ 0 := by
  have h := seqF_pos zs h8 (zs.length + 1) 0 (Nat.zero_le _) (by omega) (seq zs).length (Nat.le_refl _)
  rw [(rd_nat zs (pos zs (seq zs).length) h.1).2.2]
  exact h.2.2 rfl
theorem le_pos (zs : List Int) (h8 : ∀ c ∈ zs, 0 ≤ c ∧ c ≤ 255) : ∀ k, k ≤ (seq zs).length → k ≤ pos zs k
  | 0, _ => Nat.zero_le _
  | k + 1, hk => by
    have ih := le_pos zs h8 k (by omega)
    obtain ⟨m, _, _, _, _, _, h, _⟩ := pos_at zs h8 k hk
    omega
theorem seq_len_le (zs : List Int) (h8 : ∀ c ∈ zs, 0 ≤ c ∧ c ≤ 255) : (seq zs).length ≤ zs.length :=
  Nat.le_trans (le_pos zs h8 _ (Nat.le_refl _)) (pos_le zs h8 _ (Nat.le_refl _))

/-! ### All but some boxes -/
structure Kx (S : List Nat) (A B : World) : Prop where
  os : B.os = A.os
  tape : B.tape = A.tape
  output : B.output = A.output
  size : A.heap.size ≤ B.heap.size
  block : ∀ k, k < A.heap.size → k ∉ S → B.heap[k]? = A.heap[k]?

theorem Kx.refl (S : List Nat) (A : World) : Kx S A A := ⟨rfl, rfl, rfl, Nat.le_refl _, fun _ _ _ => rfl⟩
theorem Kx.trans {S : List Nat} {A B C : World} (h : Kx S A B) (k : Kx S B C) : Kx S A C :=
  ⟨k.os.trans h.os, k.tape.trans h.tape, k.output.trans h.output, Nat.le_trans h.size k.size, fun i hi hS => (k.block i (Nat.lt_of_lt_of_le hi h.size) hS).trans (h.block i hi hS)⟩
theorem Kx.mono {S S' : List Nat} {A B : World} (h : Kx S A B) (hS : ∀ s ∈ S, s ∈ S') : Kx S' A B := ⟨h.os, h.tape, h.output, h.size, fun k hk hn => h.block k hk (fun e => hn (hS k e))⟩
theorem Kx.of_below {S : List Nat} {A B : World} (h : Below A.heap.size A B) : Kx S A B := ⟨h.os, h.tape, h.output, h.size, fun k hk _ => h.block k hk⟩
theorem Kx.alloc {S : List Nat} {A B : World} (h : Kx S A B) (o : Obj) : Kx S A (B.alloc o) := h.trans (Kx.of_below ((Below.refl _ B).alloc (Nat.le_refl _) o))
theorem Kx.setCell {S : List Nat} {A B : World} (h : Kx S A B) {b : Nat} (hb : b ∈ S) (v : Value) : Kx S A (B.setCell ⟨b, 0, none⟩ v) :=
  h.trans ⟨rfl, rfl, rfl, by simp [World.setCell], fun k _ hk => Below.heap_setCell _ _ _ _ (fun e => hk (by rw [e]; exact hb))⟩
theorem Kx.below {S : List Nat} {A B : World} (h : Kx S A B) {n : Nat} (hS : ∀ s ∈ S, n ≤ s) (hn : n ≤ A.heap.size) : Below n A B :=
  ⟨h.os, h.tape, h.output, h.size, fun k hk => h.block k (by omega) (fun e => by have := hS k e; omega)⟩
theorem Kx.own {β : Type} (S : List Nat) (A : World) (B : Nat) (hB : A.heap.size ≤ B) : OwnFrom B (fun (_ : β) W => Kx S A W) :=
  fun _ X Y row hs hg hr => ⟨hg.os.trans hs.os, hg.tape.trans hs.tape, hg.output.trans hs.output, Nat.le_trans hs.size hg.size, fun k hk hS =>
    (hg.block k (Nat.lt_of_lt_of_le hk hs.size) (fun e => by have := (hr k e.symm).1; omega)).trans (hs.block k hk hS)⟩
theorem Kx.box {S : List Nat} {A B : World} (h : Kx S A B) {b : Nat} {t : TypeId} {v : Value} (hb : Boxed A b t v) (hS : b ∉ S) : Boxed B b t v := boxed_block hb (h.block b hb.lt hS)
theorem Kx.lent {S : List Nat} {A B : World} (h : Kx S A B) {g : Nat} {zs : List Int} (hl : Lent A g zs) (hS : g ∉ S) : Lent B g zs :=
  fun i hi => (World.cell?_of_block (w := A) (w' := B) (a := ⟨g, i, none⟩) (h.block g hl.lt hS)).trans (hl i hi)

/-! ### Marks -/
/-- The marks that ranges have left behind them: each a block that holds no call, no two the same. -/
def Marks (lo : Nat) : List Deferred → World → Prop
  | [], _ => True
  | d :: ds, W => ∃ D, d = { target := .collected D, args := #[] } ∧ lo ≤ D ∧ W.heap[D]? = some (.deferred (some [])) ∧ d ∉ ds ∧ Marks lo ds W

theorem Marks.mem {lo : Nat} : ∀ {ds : List Deferred} {W : World}, Marks lo ds W → ∀ d ∈ ds, ∃ D, d = { target := .collected D, args := #[] } ∧ lo ≤ D ∧ W.heap[D]? = some (.deferred (some []))
  | [], _, _, d, hd => by simp at hd
  | d :: ds, W, ⟨D, e, hlo, hD, _, h⟩, d', hd => by
    rcases List.mem_cons.1 hd with rfl | hd
    · exact ⟨D, e, hlo, hD⟩
    · exact Marks.mem h d' hd

/-- Marks stay where their blocks stay. -/
theorem Marks.kept {lo : Nat} : ∀ {ds : List Deferred} {W W' : World}, Marks lo ds W → (∀ D, ({ target := .collected D, args := #[] } : Deferred) ∈ ds → W.heap[D]? = some (.deferred (some [])) → W'.heap[D]? = some (.deferred (some []))) → Marks lo ds W'
  | [], _, _, _, _ => trivial
  | d :: ds, W, W', ⟨D, e, hlo, hD, hn, h⟩, hk => ⟨D, e, hlo, hk D (by rw [e]; exact List.mem_cons_self) hD, hn, Marks.kept h (fun D' hD' => hk D' (List.mem_cons_of_mem _ hD'))⟩

theorem Marks.kx {lo : Nat} {ds : List Deferred} {S : List Nat} {A B : World} (h : Marks lo ds A) (hk : Kx S A B) (hS : ∀ s ∈ S, ∃ t v, Boxed A s t v) : Marks lo ds B :=
  h.kept fun D _ hD => by
    refine (hk.block D (Array.getElem?_eq_some_iff.1 hD).1 (fun hs => ?_)).trans hD
    obtain ⟨t, v, hb⟩ := hS D hs
    rw [show A.heap[D]? = _ from hb] at hD
    cases hD
theorem Marks.below {lo : Nat} {ds : List Deferred} {A B : World} (h : Marks lo ds A) (hk : Below A.heap.size A B) : Marks lo ds B :=
  h.kept fun D _ hD => (hk.block D (Array.getElem?_eq_some_iff.1 hD).1).trans hD
theorem Marks.push {lo : Nat} {ds : List Deferred} {A W : World} {D : Nat} (h0 : Marks lo ds A) (h : Marks lo ds W) (hA : A.heap.size ≤ D) (hlo : lo ≤ A.heap.size) (hD : W.heap[D]? = some (.deferred (some []))) :
    Marks lo ({ target := .collected D, args := #[] } :: ds) W := by
  refine ⟨D, rfl, by omega, hD, fun hm => ?_, h⟩
  obtain ⟨D', e, _, hD'⟩ := h0.mem _ hm
  have e' : D = D' := by simpa using e
  subst e'
  have := (Array.getElem?_eq_some_iff.1 hD').1
  omega

/-- A function leaves with marks: its result is read behind them. -/
theorem Marks.leave {F : Fence} {n : Nat} {P : Program} {fn : Func} {tmps : Array Value} {R : Ending → World → Prop} {lo : Nat} : ∀ {ds : List Deferred} {W : World}, Marks lo ds W →
    (∀ W', Below lo W W' → (∀ b t v, Boxed W b t v → Boxed W' b t v) → LeavesIn F n P fn tmps R [] .returning W') → LeavesInM F n P fn tmps R ds .returning W
  | [], W, _, hf => hf W (Below.refl _ _) (fun _ _ _ h => h)
  | d :: ds, W, ⟨D, e, hlo, hD, hn, h⟩, hf => by
    subst e
    refine ⟨by simp, .inl ⟨_, _, rfl, run_takeDeferred hD, ?_⟩⟩
    have hp : ∀ j, j ≠ D → (W.putObj D (.deferred none)).heap[j]? = W.heap[j]? := fun j hj => World.putObj_heap_other (by omega)
    refine Marks.leave (h.kept fun D' hm hD' => (hp D' (fun e => hn (by rw [← e]; exact hm))).trans hD') (fun W' hb hbx => hf W' ?_ (fun b t v hv => hbx b t v ((hp b (fun e => ?_)).trans hv)))
    · have hb0 : Below lo W (W.putObj D (.deferred none)) := ⟨rfl, rfl, rfl, by simp, fun k hk => hp k (by omega)⟩
      exact hb0.trans hb
    · subst e
      rw [show W.heap[b]? = _ from hv] at hD
      cases hD

end Go.Proofs.Ytlphpcacngimhaa
