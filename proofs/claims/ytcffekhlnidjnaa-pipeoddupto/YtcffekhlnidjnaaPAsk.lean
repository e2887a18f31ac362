/- Readers of whatever make, and ask: a reader is called once. -/
import Derived.Test.YtcffekhlnidjnaaPSnk
namespace Go.Proofs.Ytcffekhlnidjnaa
open Go.RowKit

def zeros (n : Nat) : List Value := List.replicate n (.int .u8 0)
theorem zeros_len (n : Nat) : (zeros n).length = n := by simp [zeros]
theorem zeros_bytes (n : Nat) : ∀ u ∈ zeros n, IsByte u := fun _ hu => ⟨0, List.eq_of_mem_replicate hu⟩
theorem made_zeros (n : Nat) : madeCells (Value.int .u8 0).cells (n * 1) = (zeros n).toArray := by
  apply Array.ext
  · simp [madeCells, zeros]
  · intro i h1 h2
    simp [madeCells, zeros, Value.cells, Nat.mod_one]
theorem run_zeros (n : Nat) (hn : n ≤ 140737488355328) (w : World) : (Instr.makeSlice 23 (.int .i64 (n : Int)) (.int .i64 (n : Int))).run Try.prog w = .ok (.slice (some ⟨w.heap.size, 0, none⟩) n n) (w.alloc (.cells (zeros n).toArray 5)) := by
  obtain ⟨i0, hi0, hz0, hz1, hz2⟩ := info_parts' infoByte'
  have h := run_make (P := Try.prog) w 23 5 i0 (.int .u8 0) Try.underlying23 hi0 hz0 .i64 .i64 n n (by omega) (by omega) (by rw [hz2]; omega) (by omega)
  rw [hz1] at h
  simp only [Int.toNat_natCast] at h
  rw [made_zeros] at h
  exact h

/-- A reader that is asked for size bytes: rd: what a call tells (a number, an error, the bytes that it lays), and its state then; cnt: how often it was called; m: what goes down wherever bytes come. -/
structure Reader {σ : Type} (size : Nat) (rd : σ → Int × Int × List Int × σ) (cnt m : σ → Nat) (f : FuncId) (recv : Value) (B : Nat) (Rd : World → σ → (Nat → Prop) → Prop) : Prop where
  upd : ∀ {W W' : World} {s : σ} {M S : Nat → Prop}, Rd W s M → Upd S W W' → (∀ i, S i → B ≤ i ∧ ¬ M i) → Rd W' s M
  lt : ∀ {W : World} {s : σ} {M : Nat → Prop}, Rd W s M → ∀ i, M i → B ≤ i ∧ i < W.heap.size
  fit : ∀ s, 0 ≤ (rd s).1 → (rd s).1 ≤ size → (rd s).2.2.1.length = (rd s).1.toNat
  len : ∀ s, (rd s).2.2.1.length ≤ size
  b8 : ∀ s, B8 (rd s).2.2.1
  cnt1 : ∀ s, cnt (rd s).2.2.2 = cnt s + 1
  dec : ∀ s, (rd s).2.1 = 0 → 0 < (rd s).1 → (rd s).1 ≤ size → m (rd s).2.2.2 < m s
  mle : ∀ s, m (rd s).2.2.2 ≤ m s
  read : ∀ (W : World) (s : σ) (M : Nat → Prop) (r : Nat) (cur : List Value), Rd W s M → cnt s < 4611686018427387904 → Room W (some ⟨r, 0, none⟩) size r cur → (∀ u ∈ cur, IsByte u) → ¬ M r → B ≤ r →
    Calls Try.prog f #[recv, .slice (some ⟨r, 0, none⟩) size size] W fun e W' => ∃ M', e = .returned (.tuple #[.int .i64 (rd s).1, .int .i64 (rd s).2.1]) ∧ Rd W' (rd s).2.2.2 M' ∧ Room W' (some ⟨r, 0, none⟩) size r ((rd s).2.2.1.map (Value.int .u8) ++ cur.drop (rd s).2.2.1.length) ∧ Upd (fun i => M i ∨ i = r) W W' ∧ (∀ i, M' i → M i ∨ W.heap.size ≤ i) ∧ ¬ M' r

/-- What comes of a call: bytes, an error; its state then. -/
def stp {σ : Type} (size : Nat) (rd : σ → Int × Int × List Int × σ) (s : σ) : List Int × Int × σ := if (rd s).1 < 0 ∨ (size : Int) < (rd s).1 then ([], 34, (rd s).2.2.2) else ((rd s).2.2.1, (rd s).2.1, (rd s).2.2.2)

/-- An interface value leads to a method. -/
structure Leads (name : String) (ty : TypeId) (pv : Value) (f : FuncId) (recv : Value) : Prop where
  method : ∀ w : World, (method 211 ty pv name).run Try.prog w = .ok (f, recv) w
  enter : ∀ (args : Array Value) (w : World), (callFunc f args).run Try.prog w = .ok (.enter f args) w

def AskPost {σ : Type} (size : Nat) (rd : σ → Int × Int × List Int × σ) (Rd : World → σ → (Nat → Prop) → Prop) (W : World) (s : σ) (M : Nat → Prop) (e : Ending) (W' : World) : Prop :=
  ∃ v M', e = .returned (.tuple #[v, .int .i64 (stp size rd s).2.1]) ∧ OwnB W' W.heap.size 5 v (stp size rd s).1 ∧ Rd W' (stp size rd s).2.2 M' ∧ Upd M W W' ∧ (∀ i, M' i → M i ∨ W.heap.size ≤ i) ∧ ∀ i, v.ownBlock = some i → ¬ M' i

theorem room_row {W : World} {p : Option Addr} {size r : Nat} {ys : List Int} {cur : List Value} (h : Room W p size r (ys.map (Value.int .u8) ++ cur)) : Row W .u8 (some ⟨r, 0, none⟩) ys := by
  intro i hi
  refine ⟨r, 0, rfl, ?_⟩
  rw [Nat.zero_add, cell_of_row _ _ _ _ _ _ h.2.1]
  simp [List.getElem?_append_left, hi, List.getD]

set_option maxRecDepth 100000 in
set_option maxHeartbeats 1600000 in
theorem ask_any {σ : Type} {size : Nat} {rd : σ → Int × Int × List Int × σ} {cnt m : σ → Nat} {f : FuncId} {recv : Value} {B : Nat} {Rd : World → σ → (Nat → Prop) → Prop} {ty : TypeId} {pv : Value} (R : Reader size rd cnt m f recv B Rd) (L : Leads "Read" ty pv f recv)
    (W : World) (s : σ) (M : Nat → Prop) (h0 : 1 ≤ size) (h1 : size ≤ 4096) (hB : B ≤ W.heap.size) (hR : Rd W s M) (hc : cnt s < 4611686018427387904) :
    Calls Try.prog 36 #[.iface ty pv, .int .i64 size] W fun e W' => AskPost size rd Rd W s M e W' := by
  have hmk := run_zeros size (by omega)
  have hme := L.method
  have hen := L.enter
  have hlt := R.lt hR
  have hu0 : Upd Noth W (W.alloc (.cells (zeros size).toArray 5)) := (Upd.refl _ _).alloc _
  have HRC := hide (R.read (W.alloc (.cells (zeros size).toArray 5)) s M W.heap.size (zeros size) (R.upd hR hu0 (fun i e => e.elim)) hc ⟨fun _ => rfl, heap_alloc_new W _, by rw [zeros_len]; exact Nat.le_refl _⟩ (zeros_bytes size) (fun e => by have := hlt _ e; omega) hB)
  have HLT := hide hlt
  have HFIT := hide (R.fit s)
  clear hlt hR L hu0
  have HRR := hide R
  clear R
  go_enter Try.func36, Try.ntmps36
  go_wp2_with fail
  refine HRC.out.mono ?_
  rintro e w1 ⟨M1, rfl, hr1, hroom1, hu1, hm1, hn1⟩
  replace hr1 := hide hr1
  have HROW := hide (room_row hroom1)
  have hub : Upd M W w1 := ⟨hu1.os, hu1.tape, hu1.output, Nat.le_trans (by simp) hu1.size, fun k hk hs => (hu1.block k (by simp; omega) (fun e => e.elim hs (fun e => by omega))).trans (Below.heap_alloc _ _ _ hk)⟩
  have hsz1 : W.heap.size < w1.heap.size := by have := hu1.size; simp at this; omega
  replace hub := hide hub
  clear hu1
  replace hm1 := hide hm1
  replace hn1 := hide hn1
  clear hroom1 HRC
  have HSTP : Hid (stp size rd s = if (rd s).1 < 0 ∨ (size : Int) < (rd s).1 then ([], 34, (rd s).2.2.2) else ((rd s).2.2.1, (rd s).2.1, (rd s).2.2.2)) := rfl
  generalize rd s = q at *
  obtain ⟨n, er, bs, s'⟩ := q
  simp only at HSTP HFIT HROW hr1
  by_cases hbad : n < 0 ∨ (size : Int) < n
  · have hst : stp size rd s = ([], 34, s') := by rw [HSTP.out, if_pos hbad]
    replace hst := hide hst
    have HF : Hid (AskPost size rd Rd W s M (.returned (.tuple #[.slice none 0 0, .int .i64 34])) w1) := hide ⟨.slice none 0 0, M1, by rw [hst.out], by rw [hst.out]; exact OwnB.nil _ _ _, by rw [hst.out]; exact hr1.out, hub.out, fun i hi => (hm1.out i hi).imp id (fun h => by simp at h; omega), fun i hi => by cases hi⟩
    rcases hbad with hneg | hbig
    · go_wp2_with fail
      go_ret2
      exact HF.out
    · have hneg : ¬ n < 0 := by omega
      go_wp2_with fail
      go_ret2
      exact HF.out
  · obtain ⟨k, rfl⟩ : ∃ k : Nat, n = k := ⟨n.toNat, by omega⟩
    have hbl : bs.length = k := by have := HFIT.out (by omega) (by omega); simpa using this
    have hst : stp size rd s = (bs, er, s') := by rw [HSTP.out, if_neg hbad]
    replace hst := hide hst
    have HC := hide (bclone_some ⟨W.heap.size, 0, none⟩ k size bs w1 hbl (by omega) HROW.out)
    have hk1 : ¬ (k : Int) < 0 := by omega
    have hk2 : ¬ (size : Int) < (k : Int) := by omega
    have hk3 : (0 : Int) ≤ (k : Int) := by omega
    have hk4 : (k : Int) ≤ (size : Int) := by omega
    clear hbad
    go_wp2_with fail
    refine HC.out.mono ?_
    rintro e w2 ⟨v2, rfl, ho2, hb2⟩
    obtain ⟨a2, c2, rfl, _, _, hz2⟩ := ho2.sliceN hbl
    replace ho2 := hide ho2
    replace hb2 := hide hb2
    replace hz2 := hide hz2
    have HF : Hid (AskPost size rd Rd W s M (.returned (.tuple #[.slice a2 k c2, .int .i64 er])) w2) := hide ⟨.slice a2 k c2, M1, by rw [hst.out], by rw [hst.out]; exact ho2.out.mono (by omega), by rw [hst.out]; exact HRR.out.upd hr1.out (Upd.of_below hb2.out Noth) (fun i e => e.elim), hub.out.trans (Upd.of_below hb2.out _), fun i hi => (hm1.out i hi).imp id (fun h => by simp at h; omega), fun i hi e => by
      have h1 := hz2.out i hi
      have h2 := HRR.out.lt hr1.out i e
      omega⟩
    go_wp2_with fail
    go_ret2
    exact HF.out

end Go.Proofs.Ytcffekhlnidjnaa
