/- Readers and writers of whatever make; the program's source and sink are such. -/
import Derived.Test.YteindoemdonagaaG17
import Derived.Shelf.Abstract
namespace Go.Proofs.Yteindoemdonagaa
open Go.RowKit Go.Shelf

def zeros (n : Nat) : List Value := List.replicate n (.int .u8 0)
theorem zeros_len (n : Nat) : (zeros n).length = n := by simp [zeros]
theorem zeros_bytes (n : Nat) : ∀ u ∈ zeros n, IsByte u := fun _ hu => ⟨0, List.eq_of_mem_replicate hu⟩
theorem made_zeros (n : Nat) : madeCells (Value.int .u8 0).cells (n * 1) = (zeros n).toArray := by
  apply Array.ext
  · simp [madeCells, zeros]
  · intro i h1 h2
    simp [madeCells, zeros, Value.cells, Nat.mod_one]
theorem run_zeros (n : Nat) (hn : n ≤ 140737488355328) (w : World) : (Instr.makeSlice 32 (.int .i64 (n : Int)) (.int .i64 (n : Int))).run Try.prog w = .ok (.slice (some ⟨w.heap.size, 0, none⟩) n n) (w.alloc (.cells (zeros n).toArray 5)) := by
  obtain ⟨i0, hi0, hz0, hz1, hz2⟩ := info_parts' infoByte'
  have h := run_make (P := Try.prog) w 32 5 i0 (.int .u8 0) Try.underlying32 hi0 hz0 .i64 .i64 n n (by omega) (by omega) (by rw [hz2]; omega) (by omega)
  rw [hz1] at h
  simp only [Int.toNat_natCast] at h
  rw [made_zeros] at h
  exact h

/-- A reader that is asked for size bytes: rd: what a call tells (a number, an error, the bytes that it lays), and its state then; cnt: how often it was called; m: what goes down wherever bytes come. -/
structure Reader {σ : Type} (size : Nat) (rd : σ → Int × Int × List Int × σ) (cnt m : σ → Nat) (f : FuncId) (recv : Value) (B : Nat) (Rd : World → σ → (Nat → Prop) → Prop) : Prop where
  upd : ∀ {W W' : World} {s : σ} {M S : Nat → Prop}, Rd W s M → Upd S W W' → (∀ i, S i → B ≤ i ∧ ¬ M i) → Rd W' s M
  lt : ∀ {W : World} {s : σ} {M : Nat → Prop}, Rd W s M → ∀ i, M i → B ≤ i ∧ i < W.heap.size
  fit : ∀ s, 0 ≤ (rd s).1 → (rd s).1 ≤ size → (rd s).2.2.1.length = (rd s).1.toNat
  len : ∀ s, (rd s).2.2.1.length ≤ size
  b8 : ∀ s, B8 (rd s).2.2.1
  cnt1 : ∀ s, cnt (rd s).2.2.2 = cnt s + 1
  dec : ∀ s, (rd s).2.1 = 0 → 0 < (rd s).1 → (rd s).1 ≤ size → m (rd s).2.2.2 < m s
  mle : ∀ s, m (rd s).2.2.2 ≤ m s
  read : ∀ (W : World) (s : σ) (M : Nat → Prop) (r : Nat) (cur : List Value), Rd W s M → cnt s < 4611686018427387904 → Room W (some ⟨r, 0, none⟩) size r cur → (∀ u ∈ cur, IsByte u) → ¬ M r → B ≤ r →
    Calls Try.prog f #[recv, .slice (some ⟨r, 0, none⟩) size size] W fun e W' => ∃ M', e = .returned (.tuple #[.int .i64 (rd s).1, .int .i64 (rd s).2.1]) ∧ Rd W' (rd s).2.2.2 M' ∧ Room W' (some ⟨r, 0, none⟩) size r ((rd s).2.2.1.map (Value.int .u8) ++ cur.drop (rd s).2.2.1.length) ∧ Upd (fun i => M i ∨ i = r) W W' ∧ (∀ i, M' i → M i ∨ W.heap.size ≤ i) ∧ ¬ M' r

/-- What comes of a call: bytes, an error; its state then. -/
def stp {σ : Type} (size : Nat) (rd : σ → Int × Int × List Int × σ) (s : σ) : List Int × Int × σ := if (rd s).1 < 0 ∨ (size : Int) < (rd s).1 then ([], 34, (rd s).2.2.2) else ((rd s).2.2.1, (rd s).2.1, (rd s).2.2.2)

/-- An interface value leads to a method. -/
structure Leads (name : String) (ty : TypeId) (pv : Value) (f : FuncId) (recv : Value) : Prop where
  method : ∀ w : World, (method 212 ty pv name).run Try.prog w = .ok (f, recv) w
  enter : ∀ (args : Array Value) (w : World), (callFunc f args).run Try.prog w = .ok (.enter f args) w

theorem room_row {W : World} {p : Option Addr} {size r : Nat} {ys : List Int} {cur : List Value} (h : Room W p size r (ys.map (Value.int .u8) ++ cur)) : Row W .u8 (some ⟨r, 0, none⟩) ys := by
  intro i hi
  refine ⟨r, 0, rfl, ?_⟩
  rw [Nat.zero_add, cell_of_row _ _ _ _ _ _ h.2.1]
  simp [List.getElem?_append_left, hi, List.getD]

/-- A writer: wf: what a call tells (a number, an error), and its state then; cnt: how often it was called; sz: how many bytes it has. -/
structure Writer {τ : Type} (wf : τ → List Int → Int × Int × τ) (cnt sz : τ → Nat) (f : FuncId) (recv : Value) (B : Nat) (Wd : World → τ → (Nat → Prop) → Prop) : Prop where
  upd : ∀ {W W' : World} {t : τ} {M S : Nat → Prop}, Wd W t M → Upd S W W' → (∀ i, S i → B ≤ i ∧ ¬ M i) → Wd W' t M
  lt : ∀ {W : World} {t : τ} {M : Nat → Prop}, Wd W t M → ∀ i, M i → B ≤ i ∧ i < W.heap.size
  cnt1 : ∀ t b, cnt (wf t b).2.2 = cnt t + 1
  szle : ∀ t b, sz (wf t b).2.2 ≤ sz t + b.length
  szin : ∀ t b, 0 ≤ (wf t b).1 → (wf t b).1 ≤ b.length → sz (wf t b).2.2 ≤ sz t + (wf t b).1.toNat
  write : ∀ (W : World) (t : τ) (M : Nat → Prop) (b o len pc : Nat) (ys : List Int), Wd W t M → cnt t < 4611686018427387904 → ys.length = len → 0 < len → len ≤ pc → Row W .u8 (some ⟨b, o, none⟩) ys → ¬ M b → sz t + len ≤ 140737488355328 → B ≤ W.heap.size →
    Calls Try.prog f #[recv, .slice (some ⟨b, o, none⟩) len pc] W fun e W' => ∃ M', e = .returned (.tuple #[.int .i64 (wf t ys).1, .int .i64 (wf t ys).2.1]) ∧ Wd W' (wf t ys).2.2 M' ∧ Upd M W W' ∧ ∀ i, M' i → M i ∨ W.heap.size ≤ i

/-- What a source tells: called c times so far, k bytes given. -/
def srcRd (zs gs : List Int) (fail : Int) (eager : Bool) (size : Nat) (s : Nat × Nat) : Int × Int × List Int × (Nat × Nat) :=
  ((srcN zs gs fail (s.1 + 1) s.2 size : Nat), srcErr zs fail eager (s.1 + 1) s.2 (srcN zs gs fail (s.1 + 1) s.2 size), (zs.drop s.2).take (srcN zs gs fail (s.1 + 1) s.2 size), (s.1 + 1, s.2 + srcN zs gs fail (s.1 + 1) s.2 size))
theorem srcN_le (zs gs : List Int) (fail : Int) (c k size : Nat) : srcN zs gs fail c k size ≤ zs.length - k ∧ srcN zs gs fail c k size ≤ size := by
  have := mostN_le gs c (zs.length - k)
  unfold srcN
  split
  · omega
  · split <;> omega
def SrcRd (zs gs : List Int) (fail : Int) (eager : Bool) (g B : Nat) (M0 : Nat → Prop) (W : World) (s : Nat × Nat) (M : Nat → Prop) : Prop := M = M0 ∧ SrcAt W M0 zs gs fail eager g s.1 s.2 ∧ ∀ i, M0 i → B ≤ i
theorem SrcAt.upd {W W' : World} {M S : Nat → Prop} {zs gs : List Int} {fail : Int} {eager : Bool} {g c k : Nat} (h : SrcAt W M zs gs fail eager g c k) (hu : Upd S W W') (hs : ∀ i, M i → ¬ S i) : SrcAt W' M zs gs fail eager g c k := by
  obtain ⟨am, cm, al, cl, h⟩ := h
  exact ⟨am, cm, al, cl, h.upd hu hs⟩
theorem SrcAt.lt {W : World} {M : Nat → Prop} {zs gs : List Int} {fail : Int} {eager : Bool} {g c k : Nat} (h : SrcAt W M zs gs fail eager g c k) : (∀ i, M i → i < W.heap.size) ∧ M g ∧ k ≤ zs.length := by
  obtain ⟨am, cm, al, cl, h⟩ := h
  exact ⟨h.lt, h.mg, h.kle⟩

theorem src_reader (zs gs : List Int) (fail : Int) (eager : Bool) (size g B : Nat) (M0 : Nat → Prop) (hz8 : B8 zs) (hsz : size ≤ 140737488355328) :
    Reader size (srcRd zs gs fail eager size) Prod.fst (fun s => zs.length - s.2) 58 (.pointer (some ⟨g, 0, none⟩)) B (SrcRd zs gs fail eager g B M0) where
  upd := fun ⟨h1, h2, h3⟩ hu hs => ⟨h1, h2.upd hu (fun i hi e => (hs i e).2 (h1 ▸ hi)), h3⟩
  lt := fun ⟨h1, h2, h3⟩ i hi => by subst h1; exact ⟨h3 i hi, h2.lt.1 i hi⟩
  fit := fun s h0 h1 => by
    have := srcN_le zs gs fail (s.1 + 1) s.2 size
    simp only [srcRd, List.length_take, List.length_drop, Int.toNat_natCast]
    omega
  len := fun s => by
    have := srcN_le zs gs fail (s.1 + 1) s.2 size
    simp only [srcRd, List.length_take, List.length_drop]
    omega
  b8 := fun s => (hz8.drop _).take _
  cnt1 := fun s => rfl
  dec := fun s _ h1 _ => by
    have := srcN_le zs gs fail (s.1 + 1) s.2 size
    simp only [srcRd] at h1 ⊢
    omega
  mle := fun s => by simp only [srcRd]; omega
  read := fun W s M r cur ⟨hM, hR, hB⟩ hc hroom _ hr hBr => by
    subst hM
    obtain ⟨c, k⟩ := s
    simp only at hR hc
    have hg : r ≠ g := fun e => hr (e ▸ hR.lt.2.1)
    by_cases hf : failsAt fail (c + 1) = true
    · have hn : srcN zs gs fail (c + 1) k size = 0 := by unfold srcN; rw [if_pos hf]
      have he : srcErr zs fail eager (c + 1) k 0 = 32 := by unfold srcErr; rw [if_pos hf]
      refine (read_broken (.slice (some ⟨r, 0, none⟩) size size) hR hc hf).mono fun e W' ⟨h1, h2, h3⟩ => ⟨M, ?_, ?_, ?_, h3.mono (fun i _ e => .inl (e ▸ hR.lt.2.1)), fun i hi => .inl hi, hr⟩
      · simp only [srcRd, hn, he]; exact h1
      · simp only [srcRd, hn]; exact ⟨rfl, h2, hB⟩
      · simp only [srcRd, hn, List.take_zero, List.map_nil, List.nil_append, List.length_nil, List.drop_zero]; exact hroom.upd h3 hg
    · have hf' : failsAt fail (c + 1) = false := by simpa using hf
      by_cases hk : k = zs.length
      · have hn : srcN zs gs fail (c + 1) k size = 0 := by unfold srcN; rw [if_neg hf, if_pos hk]
        have he : srcErr zs fail eager (c + 1) k 0 = 31 := by unfold srcErr; rw [if_neg hf, if_pos hk]
        refine (read_end (.slice (some ⟨r, 0, none⟩) size size) hR hc hf' hk).mono fun e W' ⟨h1, h2, h3⟩ => ⟨M, ?_, ?_, ?_, h3.mono (fun i _ e => .inl (e ▸ hR.lt.2.1)), fun i hi => .inl hi, hr⟩
        · simp only [srcRd, hn, he]; exact h1
        · simp only [srcRd, hn]; exact ⟨rfl, h2, hB⟩
        · simp only [srcRd, hn, List.take_zero, List.map_nil, List.nil_append, List.length_nil, List.drop_zero]; exact hroom.upd h3 hg
      · have hn : srcN zs gs fail (c + 1) k size = min size (mostN gs (c + 1) (zs.length - k)) := by unfold srcN; rw [if_neg hf, if_neg hk]
        have hle := srcN_le zs gs fail (c + 1) k size
        have he : srcErr zs fail eager (c + 1) k (srcN zs gs fail (c + 1) k size) = if eager = true ∧ k + srcN zs gs fail (c + 1) k size = zs.length then 31 else 0 := by
          unfold srcErr; rw [if_neg hf, if_neg hk]
        have hl : ((zs.drop k).take (srcN zs gs fail (c + 1) k size)).length = srcN zs gs fail (c + 1) k size := by rw [List.length_take, List.length_drop]; omega
        refine (read_go (some ⟨r, 0, none⟩) size size r cur hR hc hf' hk hroom hr (by omega) _ hn).mono fun e W' ⟨h1, h2, h3, h4⟩ => ⟨M, ?_, ⟨rfl, h2, hB⟩, ?_, h4.mono (fun i _ e => e.elim (fun (h : i = g) => .inl (h ▸ hR.lt.2.1)) .inr), fun i hi => .inl hi, hr⟩
        · simp only [srcRd]; rw [he]; exact h1
        · simp only [srcRd]; rw [hl]; exact h3

/-- What a sink tells: handed c times so far, it has zs. -/
def snkWf (ts : List Int) (fail : Int) (t : Nat × List Int) (ys : List Int) : Int × Int × (Nat × List Int) :=
  if failsAt fail (t.1 + 1) then (0, 32, (t.1 + 1, t.2)) else ((mostN ts (t.1 + 1) ys.length : Nat), 0, (t.1 + 1, t.2 ++ ys.take (mostN ts (t.1 + 1) ys.length)))
def SnkWd (ts : List Int) (fail : Int) (g B : Nat) (W : World) (t : Nat × List Int) (M : Nat → Prop) : Prop := SnkAt W B M ts fail g t.1 t.2
theorem SnkAt.mg {W : World} {B : Nat} {M : Nat → Prop} {ts : List Int} {fail : Int} {g c : Nat} {zs : List Int} (h : SnkAt W B M ts fail g c zs) : M g := by
  obtain ⟨am, cm, at', ct, h⟩ := h
  exact h.mg
theorem snk_writer (ts : List Int) (fail : Int) (g B : Nat) :
    Writer (snkWf ts fail) Prod.fst (fun t => t.2.length) 53 (.pointer (some ⟨g, 0, none⟩)) B (SnkWd ts fail g B) where
  upd := fun h hu hs => SnkAt.upd h hu (fun i hi e => (hs i e).2 hi)
  lt := fun h => SnkAt.lt h
  cnt1 := fun t b => by unfold snkWf; split <;> rfl
  szle := fun t b => by
    unfold snkWf
    split
    · exact Nat.le_add_right _ _
    · simp only [List.length_append, List.length_take]; omega
  szin := fun t b => by
    unfold snkWf
    split
    · intro _ _; simp
    · intro _ _; simp only [List.length_append, List.length_take, Int.toNat_natCast]; omega
  write := fun W t M b o len pc ys h hc hl h0 hpc hr hM hz hB => by
    obtain ⟨c, zs⟩ := t
    simp only at hc hz
    have h' : SnkAt W B M ts fail g c zs := h
    by_cases hf : failsAt fail (c + 1) = true
    · refine (write_broken (.slice (some ⟨b, o, none⟩) len pc) h' hc hf).mono fun e W' ⟨h1, h2, h3⟩ => ⟨M, ?_, ?_, h3.mono (fun i _ e => e ▸ h'.mg), fun i hi => .inl hi⟩
      · simp only [snkWf, hf, if_true]; exact h1
      · simp only [snkWf, hf, if_true]; exact h2
    · have hf' : failsAt fail (c + 1) = false := by simpa using hf
      refine (write_go (some ⟨b, o, none⟩) len pc ys (mostN ts (c + 1) len) h' hc hf' hl hpc (fun e => by cases e) hr (fun x hx _ e => by cases hx; simp only at e; subst e; exact hM h'.mg) hz hB rfl).mono fun e W' ⟨h1, M', h2, h3, h4⟩ => ⟨M', ?_, ?_, h3, h4⟩
      · simp only [snkWf, hf', hl]; exact h1
      · simp only [snkWf, hf', hl]; exact h2

theorem src_leads (g : Nat) : Leads "Read" 49 (.pointer (some ⟨g, 0, none⟩)) 58 (.pointer (some ⟨g, 0, none⟩)) :=
  ⟨fun w => by kernel_rfl, enters_of Try.func58 (by kernel_rfl) rfl⟩
theorem snk_leads (g : Nat) : Leads "Write" 27 (.pointer (some ⟨g, 0, none⟩)) 53 (.pointer (some ⟨g, 0, none⟩)) :=
  ⟨fun w => by kernel_rfl, enters_of Try.func53 (by kernel_rfl) rfl⟩

theorem SnkAt.mono {W : World} {B B' : Nat} {M : Nat → Prop} {ts : List Int} {fail : Int} {g c : Nat} {zs : List Int} (h : SnkAt W B M ts fail g c zs) (hB : B' ≤ B) : SnkAt W B' M ts fail g c zs := by
  obtain ⟨am, cm, at', ct, h⟩ := h
  exact ⟨am, cm, at', ct, h.blk, h.rm, owns_mono h.own hB, h.mm, h.mv, h.mg, fun i hi => ⟨Nat.le_trans hB (h.lt i hi).1, (h.lt i hi).2⟩⟩

theorem feed_cells {W : World} {g : Nat} {a b c d : Value} (h : W.heap[g]? = some (.cells #[a, b, c, d] 52 (0, 0))) : W.cell? ⟨g, 0, none⟩ = some a ∧ W.cell? ⟨g, 1, none⟩ = some b ∧ W.cell? ⟨g, 2, none⟩ = some c ∧ W.cell? ⟨g, 3, none⟩ = some d ∧ ∀ j, W.frozen? ⟨g, j, none⟩ = false := by
  refine ⟨?_, ?_, ?_, ?_, fun j => frozen_blk h j⟩ <;> (rw [cell_of_row _ _ _ _ _ _ h]; rfl)

theorem HNN {W : World} {B : Nat} {a : Option Addr} {n cap : Nat} {zs : List Int} (h : OwnB W B 5 (.slice a n cap) zs) (hl : zs.length = n) : a = none → n = 0 ∧ cap = 0 := by
  obtain ⟨a', c', hv, h1, _⟩ := h.sliceN hl
  simp only [Value.slice.injEq] at hv
  obtain ⟨rfl, _, rfl⟩ := hv
  exact h1
theorem HNI {W : World} {B : Nat} {e : TypeId} {a : Option Addr} {n cap : Nat} {xs : List Value} (h : W.ownsRow B e 1 (.slice a n cap) n xs) : a = none → n = 0 ∧ cap = 0 := by
  obtain ⟨a', c', hv, h1, _⟩ := slice_of_owns2 h
  simp only [Value.slice.injEq] at hv
  obtain ⟨rfl, _, rfl⟩ := hv
  exact h1

end Go.Proofs.Yteindoemdonagaa

namespace Go.Proofs.Yteindoemdonagaa
open Go.RowKit

end Go.Proofs.Yteindoemdonagaa
