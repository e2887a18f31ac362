/- stream: a Writer in memory; begun, fault. -/
import Derived.Test.YtepjblmjjegpgaaGreatW42
import Derived.Test.YtepjblmjjegpgaaGreatW39
import Derived.Deep.RegionHeld3
import Derived.Test.YtepjblmjjegpgaaGreatW31
import Derived.Test.YtepjblmjjegpgaaGreatW30
import Derived.Test.YtepjblmjjegpgaaGreatW24
namespace Go.Proofs.YtepjblmjjegpgaaGreat
open Go.RowKit
set_option maxRecDepth 100000

def WtM (g : Nat) (Mb : Nat → Prop) (vr vs : Value) (i : Nat) : Prop := i = g ∨ Mb i ∨ vr.ownBlock = some i ∨ vs.ownBlock = some i
/-- A Writer's cells: its number, its Builder, its rows, the bytes that are sure. -/
structure WtR (W : World) (B g gb : Nat) (Mb : Nat → Prop) (N : Nat) (s : St) (sh : Bool) (zs : List Int) (vr vs : Value) (C : List Spn) : Prop where
  blk : W.heap[g]? = some (.cells #[.int .i64 (N : Int), .pointer (some ⟨gb, 0, none⟩), vr, vs, .bool sh] 87 (0, 0))
  bd : BdAt W B Mb gb s.now
  rw : RwO W B vr C s.L
  su : SuR W B vs zs
  dg : ¬ Mb g ∧ vr.ownBlock ≠ some g ∧ vs.ownBlock ≠ some g
  dm : ∀ i, Mb i → vr.ownBlock ≠ some i ∧ vs.ownBlock ≠ some i
  dr : ∀ i, vr.ownBlock = some i → vs.ownBlock ≠ some i
  kr : ∀ i (h : i < C.length) x, C[i].ka = some x → 0 < C[i].ks.length → B ≤ x.block ∧ ¬ WtM g Mb vr vs x.block
  gB : B ≤ g
  sg : SG s
  n1 : 1 ≤ N ∧ N ≤ 64
  lt : s.now.length ≤ N
  zl : sh = false → zs.length ≤ behP s.L
theorem WtR.cells {W : World} {B g gb : Nat} {Mb : Nat → Prop} {N : Nat} {s : St} {sh : Bool} {zs : List Int} {vr vs : Value} {C : List Spn} (h : WtR W B g gb Mb N s sh zs vr vs C) :
    W.cell? ⟨g, 0, none⟩ = some (.int .i64 (N : Int)) ∧ W.cell? ⟨g, 1, none⟩ = some (.pointer (some ⟨gb, 0, none⟩)) ∧ W.cell? ⟨g, 2, none⟩ = some vr ∧ W.cell? ⟨g, 3, none⟩ = some vs ∧ W.cell? ⟨g, 4, none⟩ = some (.bool sh) ∧ g < W.heap.size ∧ ∀ j, W.frozen? ⟨g, j, none⟩ = false := by
  have hb := h.blk
  refine ⟨?_, ?_, ?_, ?_, ?_, lt_of_block hb, fun j => by simp [World.frozen?, hb]⟩ <;> (rw [cell_of_row _ _ _ _ _ _ hb]; rfl)
theorem WtR.mlt {W : World} {B g gb : Nat} {Mb : Nat → Prop} {N : Nat} {s : St} {sh : Bool} {zs : List Int} {vr vs : Value} {C : List Spn} (h : WtR W B g gb Mb N s sh zs vr vs C) : ∀ i, WtM g Mb vr vs i → B ≤ i ∧ i < W.heap.size := by
  rintro i (rfl | hi | hi | hi)
  · exact ⟨h.gB, lt_of_block h.blk⟩
  · exact h.bd.lt i hi
  · exact h.rw.o.lt i hi
  · exact h.su.lt i hi
/-- The blocks that a Writer stands on: its own, and its rows' keys. -/
def WtK (C : List Spn) (i : Nat) : Prop := ∃ j, ∃ h : j < C.length, ∃ x, C[j].ka = some x ∧ 0 < C[j].ks.length ∧ x.block = i
theorem WtR.upd {W W' : World} {B g gb : Nat} {Mb S : Nat → Prop} {N : Nat} {s : St} {sh : Bool} {zs : List Int} {vr vs : Value} {C : List Spn} (h : WtR W B g gb Mb N s sh zs vr vs C) (hu : Upd S W W') (h1 : ∀ i, WtM g Mb vr vs i → ¬ S i) (h2 : ∀ i, WtK C i → ¬ S i) : WtR W' B g gb Mb N s sh zs vr vs C :=
  ⟨hu.heap h.blk (h1 _ (.inl rfl)), h.bd.upd hu (fun i hi => h1 i (.inr (.inl hi))), ⟨h.rw.o.upd hu (fun k hk => h1 k (.inr (.inr (.inl hk)))), h.rw.e, fun i hi => (h.rw.ok i hi).upd hu (fun x hx h0 => h2 _ ⟨i, hi, x, hx, h0, rfl⟩)⟩,
    h.su.upd hu (fun k hk => h1 k (.inr (.inr (.inr hk)))), h.dg, h.dm, h.dr, h.kr, h.gB, h.sg, h.n1, h.lt, h.zl⟩
theorem WtR.below {W W' : World} {B g gb : Nat} {Mb : Nat → Prop} {N : Nat} {s : St} {sh : Bool} {zs : List Int} {vr vs : Value} {C : List Spn} (h : WtR W B g gb Mb N s sh zs vr vs C) (hb : Below W.heap.size W W') : WtR W' B g gb Mb N s sh zs vr vs C :=
  h.upd (Upd.of_below hb Noth) (fun _ _ e => e) (fun _ _ e => e)
theorem WtR.klt {W : World} {B g gb : Nat} {Mb : Nat → Prop} {N : Nat} {s : St} {sh : Bool} {zs : List Int} {vr vs : Value} {C : List Spn} (h : WtR W B g gb Mb N s sh zs vr vs C) : ∀ i, WtK C i → B ≤ i ∧ i < W.heap.size ∧ ¬ WtM g Mb vr vs i := by
  rintro i ⟨j, hj, x, hx, h0, rfl⟩
  have h1 := h.kr j hj x hx h0
  obtain ⟨b', o', e1, e2, _⟩ := (h.rw.ok j hj).k.cons h0
  rw [hx] at e1
  cases e1
  exact ⟨h1.1, e2, h1.2⟩
/-- A Writer; M: the blocks that it stands on. -/
def WtAt (W : World) (B : Nat) (M : Nat → Prop) (g N : Nat) (s : St) (sh : Bool) (zs : List Int) : Prop :=
  ∃ gb Mb vr vs C, WtR W B g gb Mb N s sh zs vr vs C ∧ ∀ i, M i ↔ (WtM g Mb vr vs i ∨ WtK C i)
theorem WtAt.lt {W : World} {B g N : Nat} {M : Nat → Prop} {s : St} {sh : Bool} {zs : List Int} (h : WtAt W B M g N s sh zs) : ∀ i, M i → B ≤ i ∧ i < W.heap.size := by
  obtain ⟨gb, Mb, vr, vs, C, h, hM⟩ := h
  intro i hi
  rcases (hM i).1 hi with q | q
  · exact h.mlt i q
  · exact ⟨(h.klt i q).1, (h.klt i q).2.1⟩
theorem WtAt.upd {W W' : World} {B g N : Nat} {M S : Nat → Prop} {s : St} {sh : Bool} {zs : List Int} (h : WtAt W B M g N s sh zs) (hu : Upd S W W') (hs : ∀ i, M i → ¬ S i) : WtAt W' B M g N s sh zs := by
  obtain ⟨gb, Mb, vr, vs, C, h, hM⟩ := h
  exact ⟨gb, Mb, vr, vs, C, h.upd hu (fun i q => hs i ((hM i).2 (.inl q))) (fun i q => hs i ((hM i).2 (.inr q))), hM⟩

theorem wt_new {w w1 : World} {N : Nat} (z1 : w1.heap.size = w.heap.size + 1) (hb : BdAt w1 w.heap.size (fun i => i = w.heap.size) w.heap.size []) (hN : 1 ≤ N ∧ N ≤ 64) :
    WtR ((w1.alloc (.cells hdC 5 (8, 9))).alloc (.cells #[.int .i64 (N : Int), .pointer (some ⟨w.heap.size, 0, none⟩), .slice none 0 0, .slice (some ⟨w1.heap.size, 0, none⟩) 8 8, .bool false] 87)) w.heap.size (w1.heap.size + 1) w.heap.size (fun i => i = w.heap.size) N ⟨[], []⟩ false hd8 (.slice none 0 0) (.slice (some ⟨w1.heap.size, 0, none⟩) 8 8) [] := by
  have ub : Below w1.heap.size w1 ((w1.alloc (.cells hdC 5 (8, 9))).alloc (.cells #[.int .i64 (N : Int), .pointer (some ⟨w.heap.size, 0, none⟩), .slice none 0 0, .slice (some ⟨w1.heap.size, 0, none⟩) 8 8, .bool false] 87)) := ((Below.refl _ _).alloc (Nat.le_refl _) _).alloc (by simp) _
  have e1 := heap_alloc_new w1 (.cells hdC 5 (8, 9))
  have e2 := heap_alloc_new (w1.alloc (.cells hdC 5 (8, 9))) (.cells #[.int .i64 (N : Int), .pointer (some ⟨w.heap.size, 0, none⟩), .slice none 0 0, .slice (some ⟨w1.heap.size, 0, none⟩) 8 8, .bool false] 87)
  rw [World.size_alloc] at e2
  have own : ∀ k, (Value.slice (some ⟨w1.heap.size, 0, none⟩) 8 8).ownBlock = some k → k = w1.heap.size := fun k h => by
    have : w1.heap.size = k := by simpa [Value.ownBlock] using h
    exact this.symm
  refine ⟨e2, hb.upd (Upd.of_below ub Noth) (fun _ _ e => e), ⟨.inl ⟨rfl, rfl⟩, rfl, fun i hi => absurd hi (Nat.not_lt_zero _)⟩, .inr ⟨_, rfl, by omega, ?_, rfl⟩, ⟨by omega, (fun h => by cases h), fun h => by have := own _ h; omega⟩, fun i hi => ⟨(fun h => by cases h), fun h => by have := own _ h; omega⟩, (fun i h => by cases h), fun i hi => absurd hi (Nat.not_lt_zero _), by omega, SG.nil, hN, Nat.zero_le _, fun _ => by show 8 ≤ 8 + 0; omega⟩
  exact (heap_alloc_old _ _ (by simp)).trans e1
/-- A new Writer. -/
def BegPost (w : World) (N : Nat) (e : Ending) (w' : World) : Prop := ∃ g M, e = .returned (.pointer (some ⟨g, 0, none⟩)) ∧ WtAt w' w.heap.size M g N ⟨[], []⟩ false hd8 ∧ Below w.heap.size w w'
set_option maxRecDepth 100000 in
set_option maxHeartbeats 800000 in
theorem wbegun_any (N : Nat) (w : World) (hN : 1 ≤ N ∧ N ≤ 64) :
    Calls Tryz.prog 43 #[.int .i64 (N : Int)] w (BegPost w N) := by
  have kc := fun (w : World) (C : Array Value) (n c : Nat) => Lib.run_convert_bytes_const (P := Tryz.prog) w 23 5 C n c Tryz.underlying23 Tryz.underlying5
  go_enter Tryz.func43, Tryz.ntmps43
  go_wp2_with fail
  refine (bnew_any w).mono ?_
  rintro e w1 ⟨rfl, hbd, hw1⟩
  have B1 : Below w.heap.size w w1 := by rw [hw1]; exact (Below.refl _ _).alloc (Nat.le_refl _) _
  have z1 : w1.heap.size = w.heap.size + 1 := by rw [hw1]; simp
  have Z1 := hide z1
  have HB := hide hbd
  replace B1 := hide B1
  clear hw1 hbd z1
  go_wp2_with fail
  go_ret
  have hz := Z1.out
  exact ⟨_, _, rfl, ⟨_, _, _, _, _, wt_new hz HB.out hN, fun _ => Iff.rfl⟩, (B1.out.alloc (by omega) _).alloc (by simp; omega) _⟩

end Go.Proofs.YtepjblmjjegpgaaGreat

namespace Go.Proofs.YtepjblmjjegpgaaGreat
open Go.RowKit
set_option maxRecDepth 100000

/-- Refused or let: nothing is turned. -/
def FltPost (W : World) (x : Int) (e : Ending) (w' : World) : Prop := e = .returned (.int .i64 x) ∧ Below W.heap.size W w'
set_option maxRecDepth 100000 in
set_option maxHeartbeats 1600000 in
theorem fault_shut {W : World} {B g gb : Nat} {Mb : Nat → Prop} {N : Nat} {s : St} {zs : List Int} {vr vs : Value} {C : List Spn} (h : WtR W B g gb Mb N s true zs vr vs C) (e : Ent) (ok : e.Ok W) :
    Calls Tryz.prog 50 #[.pointer (some ⟨g, 0, none⟩), .agg #[e.kv, e.vv]] W (FltPost W 87) := by
  have HC := hide (check_any e.ka e.va e.ks.length e.kc e.vs.length e.vc (W.alloc (.cells #[.slice e.ka e.ks.length e.kc, .slice e.va e.vs.length e.vc] 38)))
  have hbox : Below W.heap.size W (W.alloc (.cells #[.slice e.ka e.ks.length e.kc, .slice e.va e.vs.length e.vc] 38)) := (Below.refl _ _).alloc (Nat.le_refl _) _
  have X0 := hide (two_new2 W (.slice e.ka e.ks.length e.kc) (.slice e.va e.vs.length e.vc) 38)
  have ZA : Hid ((W.alloc (.cells #[.slice e.ka e.ks.length e.kc, .slice e.va e.vs.length e.vc] 38)).heap.size = W.heap.size + 1) := by show _ = _; simp
  have HR := hide (h.below hbox)
  have OK := hide (ok.below hbox)
  have HBOX := hide hbox
  unfold Ent.kv Ent.vv
  obtain ⟨lk, hlk⟩ : ∃ k, e.ks.length = k := ⟨_, rfl⟩
  obtain ⟨lv, hlv⟩ : ∃ k, e.vs.length = k := ⟨_, rfl⟩
  rw [hlk, hlv] at HC HR OK HBOX X0 ZA ⊢
  clear hbox
  generalize hwA : W.alloc (.cells #[.slice e.ka lk e.kc, .slice e.va lv e.vc] 38) = wA at *
  replace hwA := hide hwA
  have c4 := h.cells.2.2.2.2.1
  have hgW := h.cells.2.2.2.2.2.1
  have hgA := HR.out.cells.2.2.2.2.2.1
  clear h ok
  go_enter Tryz.func50, Tryz.ntmps50
  go_wp2_with fail
  rw [hwA.out]
  go_ret
  exact ⟨rfl, HBOX.out⟩

set_option maxRecDepth 100000 in
set_option maxHeartbeats 1600000 in
theorem fault_chk {W : World} {B g gb : Nat} {Mb : Nat → Prop} {N : Nat} {s : St} {zs : List Int} {vr vs : Value} {C : List Spn} (h : WtR W B g gb Mb N s false zs vr vs C) (e : Ent) (ok : e.Ok W) (hc : chkE e.ks.length e.vs.length ≠ 0) :
    Calls Tryz.prog 50 #[.pointer (some ⟨g, 0, none⟩), .agg #[e.kv, e.vv]] W (FltPost W (chkE e.ks.length e.vs.length)) := by
  have HC := hide (check_any e.ka e.va e.ks.length e.kc e.vs.length e.vc (W.alloc (.cells #[.slice e.ka e.ks.length e.kc, .slice e.va e.vs.length e.vc] 38)))
  have hbox : Below W.heap.size W (W.alloc (.cells #[.slice e.ka e.ks.length e.kc, .slice e.va e.vs.length e.vc] 38)) := (Below.refl _ _).alloc (Nat.le_refl _) _
  have X0 := hide (two_new2 W (.slice e.ka e.ks.length e.kc) (.slice e.va e.vs.length e.vc) 38)
  have ZA : Hid ((W.alloc (.cells #[.slice e.ka e.ks.length e.kc, .slice e.va e.vs.length e.vc] 38)).heap.size = W.heap.size + 1) := by show _ = _; simp
  have HR := hide (h.below hbox)
  have OK := hide (ok.below hbox)
  have HBOX := hide hbox
  unfold Ent.kv Ent.vv
  obtain ⟨lk, hlk⟩ : ∃ k, e.ks.length = k := ⟨_, rfl⟩
  obtain ⟨lv, hlv⟩ : ∃ k, e.vs.length = k := ⟨_, rfl⟩
  rw [hlk, hlv] at HC HR OK HBOX X0 ZA ⊢
  clear hbox
  generalize hwA : W.alloc (.cells #[.slice e.ka lk e.kc, .slice e.va lv e.vc] 38) = wA at *
  replace hwA := hide hwA
  have c4 := h.cells.2.2.2.2.1
  have hgW := h.cells.2.2.2.2.2.1
  have hgA := HR.out.cells.2.2.2.2.2.1
  clear h ok
  rw [hlk, hlv] at hc
  generalize chkE lk lv = x at *
  have hne : (x != 0) = true := by simp [hc]
  go_enter Tryz.func50, Tryz.ntmps50
  go_wp2_with fail
  rw [hwA.out]
  refine HC.out.mono ?_
  rintro r w1 ⟨rfl, hb1⟩
  have B1 : Hid (Below W.heap.size W w1) := HBOX.out.trans (hb1.mono HBOX.out.size)
  have R1 := hide (HR.out.below hb1)
  have O1 := hide (OK.out.below hb1)
  have x0 : w1.cell? ⟨W.heap.size, 0, none⟩ = some (.slice e.ka lk e.kc) := (hb1.cell (p := ⟨W.heap.size, 0, none⟩) (by have := ZA.out; show W.heap.size < _; omega)).trans X0.out.1
  have x1 : w1.cell? ⟨W.heap.size, 1, none⟩ = some (.slice e.va lv e.vc) := (hb1.cell (p := ⟨W.heap.size, 1, none⟩) (by have := ZA.out; show W.heap.size < _; omega)).trans X0.out.2
  have HG1 : Hid (g < w1.heap.size) := Nat.lt_of_lt_of_le hgA hb1.size
  clear hb1 HC X0 HR OK c4 hgA hgW
  have HF : Hid (FltPost W x (.returned (.int .i64 x)) w1) := ⟨rfl, B1.out⟩
  clear R1 O1
  go_wp2_with fail
  go_ret
  exact HF.out

set_option maxRecDepth 100000 in
set_option maxHeartbeats 1600000 in
theorem fault_first {W : World} {B g gb : Nat} {Mb : Nat → Prop} {N : Nat} {s : St} {zs : List Int} {vr vs : Value} {C : List Spn} (h : WtR W B g gb Mb N s false zs vr vs C) (e : Ent) (ok : e.Ok W) (hc : chkE e.ks.length e.vs.length = 0) (h0 : s.now.length = 0) :
    Calls Tryz.prog 50 #[.pointer (some ⟨g, 0, none⟩), .agg #[e.kv, e.vv]] W (FltPost W (if 0 ≤ cmpI (lastK s.L) e.ks then 51 else if s.L.length = 8388608 then 71 else 0)) := by
  obtain ⟨x, hx⟩ : ∃ x : Int, x = (if 0 ≤ cmpI (lastK s.L) e.ks then 51 else if s.L.length = 8388608 then 71 else 0) := ⟨_, rfl⟩
  rw [← hx]
  replace hx := hide hx
  have HC := hide (check_any e.ka e.va e.ks.length e.kc e.vs.length e.vc (W.alloc (.cells #[.slice e.ka e.ks.length e.kc, .slice e.va e.vs.length e.vc] 38)))
  have hbox : Below W.heap.size W (W.alloc (.cells #[.slice e.ka e.ks.length e.kc, .slice e.va e.vs.length e.vc] 38)) := (Below.refl _ _).alloc (Nat.le_refl _) _
  have X0 := hide (two_new2 W (.slice e.ka e.ks.length e.kc) (.slice e.va e.vs.length e.vc) 38)
  have ZA : Hid ((W.alloc (.cells #[.slice e.ka e.ks.length e.kc, .slice e.va e.vs.length e.vc] 38)).heap.size = W.heap.size + 1) := by show _ = _; simp
  have HR := hide (h.below hbox)
  have OK := hide (ok.below hbox)
  have HBOX := hide hbox
  unfold Ent.kv Ent.vv
  obtain ⟨lk, hlk⟩ : ∃ k, e.ks.length = k := ⟨_, rfl⟩
  obtain ⟨lv, hlv⟩ : ∃ k, e.vs.length = k := ⟨_, rfl⟩
  rw [hlk, hlv] at HC HR OK HBOX X0 ZA ⊢
  clear hbox
  generalize hwA : W.alloc (.cells #[.slice e.ka lk e.kc, .slice e.va lv e.vc] 38) = wA at *
  replace hwA := hide hwA
  have c4 := h.cells.2.2.2.2.1
  have hgW := h.cells.2.2.2.2.2.1
  have hgA := HR.out.cells.2.2.2.2.2.1
  clear h ok
  rw [hlk, hlv] at hc
  rw [hc] at HC
  have hm := HR.out.sg.many
  have hk8 := HR.out.sg.last8
  go_enter Tryz.func50, Tryz.ntmps50
  go_wp2_with fail
  rw [hwA.out]
  refine HC.out.mono ?_
  rintro r w1 ⟨rfl, hb1⟩
  have B1 : Hid (Below W.heap.size W w1) := HBOX.out.trans (hb1.mono HBOX.out.size)
  have R1 := hide (HR.out.below hb1)
  have O1 := hide (OK.out.below hb1)
  have x0 : w1.cell? ⟨W.heap.size, 0, none⟩ = some (.slice e.ka lk e.kc) := (hb1.cell (p := ⟨W.heap.size, 0, none⟩) (by have := ZA.out; show W.heap.size < _; omega)).trans X0.out.1
  have x1 : w1.cell? ⟨W.heap.size, 1, none⟩ = some (.slice e.va lv e.vc) := (hb1.cell (p := ⟨W.heap.size, 1, none⟩) (by have := ZA.out; show W.heap.size < _; omega)).trans X0.out.2
  have HG1 : Hid (g < w1.heap.size) := Nat.lt_of_lt_of_le hgA hb1.size
  clear hb1 HC X0 HR OK c4 hgA hgW
  have c1 := R1.out.cells.2.1
  have c2 := R1.out.cells.2.2.1
  have HBL := hide (blen_any R1.out.bd)
  rw [h0] at HBL
  have HLA := hide (rlast_any R1.out.rw hm)
  go_wp2_with fail
  refine keep HBL.out ?_
  go_wp2_with fail
  refine HLA.out.mono ?_
  rintro r w2 ⟨al, nl, cl, rfl, hnl, hrl, rfl⟩
  have HCM := hide (compare_any al e.ka nl cl lk e.kc (lastK s.L) e.ks w2 hnl hlk hrl O1.out.k hk8.1 O1.out.k8)
  obtain ⟨cv, hcv⟩ : ∃ cv, cv = cmpI (lastK s.L) e.ks := ⟨_, rfl⟩
  rw [← hcv] at HCM
  have HX : Hid (x = if 0 ≤ cv then 51 else if s.L.length = 8388608 then 71 else 0) := by show _ = _; rw [hcv]; exact hx.out
  clear hrl hcv
  go_wp2_with fail
  refine keep HCM.out ?_
  by_cases hcm : cv < 0
  · have i1 : ¬ 0 ≤ cv := by omega
    have HX1 := HX.out
    rw [if_neg (by omega)] at HX1
    obtain ⟨ar, cr, hvr⟩ := R1.out.rw.shape
    have HF : Hid (∀ x, FltPost W x (.returned (.int .i64 x)) w2) := fun x => ⟨rfl, B1.out⟩
    clear R1 O1 HBL HLA HCM
    subst hvr
    obtain ⟨nL, hnL⟩ : ∃ n, s.L.length = n := ⟨_, rfl⟩
    rw [hnL] at c2 hm HX1
    by_cases h71 : nL = 8388608
    · rw [if_pos h71] at HX1
      subst HX1
      have i2 : (nL : Int) = 8388608 := by omega
      go_wp2_with fail
      go_ret
      exact HF.out _
    · rw [if_neg h71] at HX1
      subst HX1
      have i2 : ¬ (nL : Int) = 8388608 := by omega
      go_wp2_with fail
      go_ret
      exact HF.out _
  · have i1 : 0 ≤ cv := by omega
    have HX1 := HX.out
    rw [if_pos i1] at HX1
    subst HX1
    have HF : Hid (FltPost W 51 (.returned (.int .i64 51)) w2) := ⟨rfl, B1.out⟩
    clear R1 O1 HBL HLA HCM
    go_wp2_with fail
    go_ret
    exact HF.out

set_option maxRecDepth 100000 in
set_option maxHeartbeats 1600000 in
theorem fault_next {W : World} {B g gb : Nat} {Mb : Nat → Prop} {N : Nat} {s : St} {zs : List Int} {vr vs : Value} {C : List Spn} (h : WtR W B g gb Mb N s false zs vr vs C) (e : Ent) (ok : e.Ok W) (hc : chkE e.ks.length e.vs.length = 0) (h0 : s.now.length ≠ 0) :
    Calls Tryz.prog 50 #[.pointer (some ⟨g, 0, none⟩), .agg #[e.kv, e.vv]] W (FltPost W (if 0 ≤ cmpI (ahd s.now) e.ks then 51 else 0)) := by
  obtain ⟨x, hx⟩ : ∃ x : Int, x = (if 0 ≤ cmpI (ahd s.now) e.ks then 51 else 0) := ⟨_, rfl⟩
  rw [← hx]
  replace hx := hide hx
  have HC := hide (check_any e.ka e.va e.ks.length e.kc e.vs.length e.vc (W.alloc (.cells #[.slice e.ka e.ks.length e.kc, .slice e.va e.vs.length e.vc] 38)))
  have hbox : Below W.heap.size W (W.alloc (.cells #[.slice e.ka e.ks.length e.kc, .slice e.va e.vs.length e.vc] 38)) := (Below.refl _ _).alloc (Nat.le_refl _) _
  have X0 := hide (two_new2 W (.slice e.ka e.ks.length e.kc) (.slice e.va e.vs.length e.vc) 38)
  have ZA : Hid ((W.alloc (.cells #[.slice e.ka e.ks.length e.kc, .slice e.va e.vs.length e.vc] 38)).heap.size = W.heap.size + 1) := by show _ = _; simp
  have HR := hide (h.below hbox)
  have OK := hide (ok.below hbox)
  have HBOX := hide hbox
  unfold Ent.kv Ent.vv
  obtain ⟨lk, hlk⟩ : ∃ k, e.ks.length = k := ⟨_, rfl⟩
  obtain ⟨lv, hlv⟩ : ∃ k, e.vs.length = k := ⟨_, rfl⟩
  rw [hlk, hlv] at HC HR OK HBOX X0 ZA ⊢
  clear hbox
  generalize hwA : W.alloc (.cells #[.slice e.ka lk e.kc, .slice e.va lv e.vc] 38) = wA at *
  replace hwA := hide hwA
  have c4 := h.cells.2.2.2.2.1
  have hgW := h.cells.2.2.2.2.2.1
  have hgA := HR.out.cells.2.2.2.2.2.1
  clear h ok
  rw [hlk, hlv] at hc
  rw [hc] at HC
  have hm := HR.out.sg.many
  have hk8 := HR.out.sg.now.ahd8
  go_enter Tryz.func50, Tryz.ntmps50
  go_wp2_with fail
  rw [hwA.out]
  refine HC.out.mono ?_
  rintro r w1 ⟨rfl, hb1⟩
  have B1 : Hid (Below W.heap.size W w1) := HBOX.out.trans (hb1.mono HBOX.out.size)
  have R1 := hide (HR.out.below hb1)
  have O1 := hide (OK.out.below hb1)
  have x0 : w1.cell? ⟨W.heap.size, 0, none⟩ = some (.slice e.ka lk e.kc) := (hb1.cell (p := ⟨W.heap.size, 0, none⟩) (by have := ZA.out; show W.heap.size < _; omega)).trans X0.out.1
  have x1 : w1.cell? ⟨W.heap.size, 1, none⟩ = some (.slice e.va lv e.vc) := (hb1.cell (p := ⟨W.heap.size, 1, none⟩) (by have := ZA.out; show W.heap.size < _; omega)).trans X0.out.2
  have HG1 : Hid (g < w1.heap.size) := Nat.lt_of_lt_of_le hgA hb1.size
  clear hb1 HC X0 HR OK c4 hgA hgW
  have c1 := R1.out.cells.2.1
  have c2 := R1.out.cells.2.2.1
  have HBL := hide (blen_any R1.out.bd)
  have i0 : ((s.now.length : Int) == 0) = false := beq_eq_false_iff_ne.2 (by omega)
  have HLA := hide (rlast_any R1.out.rw hm)
  go_wp2_with fail
  refine keep HBL.out ?_
  go_wp2_with fail
  refine HLA.out.mono ?_
  rintro r w2 ⟨al, nl, cl, rfl, hnl, hrl, rfl⟩
  have HBA := hide (blast_any R1.out.bd)
  clear hrl
  go_wp2_with fail
  refine HBA.out.mono ?_
  rintro r w3 ⟨v3, rfl, o3, b3⟩
  obtain ⟨n3, hn3⟩ : ∃ n, (ahd s.now).length = n := ⟨_, rfl⟩
  obtain ⟨a3, c3, rfl, _⟩ := o3.sliceN hn3
  have HCM := hide (compare_any a3 e.ka n3 c3 lk e.kc (ahd s.now) e.ks w3 hn3 hlk o3.row (O1.out.below b3).k hk8 O1.out.k8)
  have y0 := (b3.cell (p := ⟨W.heap.size, 0, none⟩) (World.block_lt_of_cell? _ _ x0)).trans x0
  have B3 : Hid (Below W.heap.size W w3) := B1.out.trans (b3.mono B1.out.size)
  obtain ⟨cv, hcv⟩ : ∃ cv, cv = cmpI (ahd s.now) e.ks := ⟨_, rfl⟩
  rw [← hcv] at HCM
  have HX : Hid (x = if 0 ≤ cv then 51 else 0) := by show _ = _; rw [hcv]; exact hx.out
  clear hcv o3 b3 HBA HBL HLA R1 O1 c1 c2
  go_wp2_with fail
  refine keep HCM.out ?_
  by_cases hcm : cv < 0
  · have i1 : ¬ 0 ≤ cv := by omega
    have HX1 := HX.out
    rw [if_neg (by omega)] at HX1
    subst HX1
    have HF : Hid (FltPost W 0 (.returned (.int .i64 0)) w3) := ⟨rfl, B3.out⟩
    clear HCM
    go_wp2_with fail
    go_ret
    exact HF.out
  · have i1 : 0 ≤ cv := by omega
    have HX1 := HX.out
    rw [if_pos i1] at HX1
    subst HX1
    have HF : Hid (FltPost W 51 (.returned (.int .i64 51)) w3) := ⟨rfl, B3.out⟩
    clear HCM
    go_wp2_with fail
    go_ret
    exact HF.out

theorem wfault_any {W : World} {B g gb : Nat} {Mb : Nat → Prop} {N : Nat} {s : St} {sh : Bool} {zs : List Int} {vr vs : Value} {C : List Spn} (h : WtR W B g gb Mb N s sh zs vr vs C) (e : Ent) (ok : e.Ok W) :
    Calls Tryz.prog 50 #[.pointer (some ⟨g, 0, none⟩), .agg #[e.kv, e.vv]] W (FltPost W (if sh then 87 else sErr s e.ks e.vs)) := by
  cases sh with
  | true => exact fault_shut h e ok
  | false =>
    rw [if_neg (by decide)]
    unfold sErr aheadK
    simp only [Int.not_lt]
    by_cases hc : chkE e.ks.length e.vs.length = 0
    · rw [if_neg (by rw [hc]; simp)]
      by_cases h0 : s.now.length = 0
      · have := fault_first h e ok hc h0
        rw [if_pos h0]
        simpa only [h0, true_and] using this
      · have := fault_next h e ok hc h0
        rw [if_neg h0]
        simpa only [h0, false_and, if_false] using this
    · rw [if_pos hc]
      exact fault_chk h e ok hc

end Go.Proofs.YtepjblmjjegpgaaGreat

namespace Go.Proofs.YtepjblmjjegpgaaGreat
open Go.RowKit
set_option maxRecDepth 100000

theorem BdAt.self {W : World} {B g : Nat} {M : Nat → Prop} {l : List KV} (h : BdAt W B M g l) : M g := by
  obtain ⟨_, vb, vt, vl, _, hM⟩ := h
  exact (hM g).2 (.inl rfl)
theorem rws_snoc (C : List Spn) (c : Spn) : rws (C ++ [c]) = rws C ++ [c.row] := by simp [rws]
theorem wt_end {W w1 w2 w3 w4 w6 : World} {B g gb : Nat} {Mb Mb' : Nat → Prop} {N : Nat} {s : St} {sh : Bool} {zs : List Int} {vr vs v4 v6 : Value} {C : List Spn} {c : Spn} (h : WtR W B g gb Mb N s sh zs vr vs C) (h0 : 0 < s.now.length)
    (B1 : Below W.heap.size W w1) (hb2 : BdAt w2 B Mb' gb []) (hm2 : ∀ i, Mb' i → Mb i) (U2 : Upd (fun i => i = gb) w1 w2) (B3 : Below w2.heap.size w2 w3)
    (o4 : OwnS w4 B v4 (C ++ [c])) (hc : c.row = ⟨ahd s.now, (behP s.L : Int), ((blkF s.now).length : Int), (s.now.length : Int)⟩) (ok4 : c.Ok w4) (U4 : Upd (fun i => vr.ownBlock = some i) w3 w4) (k4 : ∀ k, v4.ownBlock = some k → vr.ownBlock = some k ∨ w3.heap.size ≤ k) (kk : ∀ x, c.ka = some x → w3.heap.size ≤ x.block ∧ v4.ownBlock ≠ some x.block)
    (o6 : OwnB w6 B 5 v6 (zs ++ blkF s.now)) (g6 : (w4.setCell ⟨g, 2, none⟩ v4).grownBy w6 vs.ownBlock) (k6 : ∀ k, v6.ownBlock = some k → vs.ownBlock = some k ∨ (w4.setCell ⟨g, 2, none⟩ v4).heap.size ≤ k) :
    WtR (w6.setCell ⟨g, 3, none⟩ v6) B g gb Mb' N ⟨s.L ++ [s.now], []⟩ sh (zs ++ blkF s.now) v4 v6 (C ++ [c]) ∧ Upd (WtM g Mb vr vs) W (w6.setCell ⟨g, 3, none⟩ v6) ∧ ∀ i, (WtM g Mb' v4 v6 i ∨ WtK (C ++ [c]) i) → (WtM g Mb vr vs i ∨ WtK C i) ∨ W.heap.size ≤ i := by
  have hsz : (w4.setCell ⟨g, 2, none⟩ v4).heap.size = w4.heap.size := World.size_setCell ..
  rw [hsz] at k6
  have z1 := B1.size
  have z2 := U2.size
  have z3 := B3.size
  have z4 := U4.size
  have hg := lt_of_block h.blk
  have hgb := h.bd.self
  have hmlt := h.mlt
  have ngb : g ≠ gb := fun q => h.dg.1 (by rw [q]; exact hgb)
  have U03 : Upd (fun i => i = gb) W w3 := ((Upd.of_below B1 _).trans U2).trans (Upd.of_below B3 _)
  have U04 : Upd (fun i => i = gb ∨ vr.ownBlock = some i) W w4 := (U03.mono (fun _ _ q => .inl q)).trans (U4.mono (fun _ _ q => .inr q))
  have U45 : Upd (fun i => i = g) w4 (w4.setCell ⟨g, 2, none⟩ v4) := set_upd w4 g 2 v4
  have U56 : Upd (fun i => vs.ownBlock = some i) (w4.setCell ⟨g, 2, none⟩ v4) w6 := Upd.of_grown g6 (fun k hk _ => hk)
  have U67 : Upd (fun i => i = g) w6 (w6.setCell ⟨g, 3, none⟩ v6) := set_upd w6 g 3 v6
  have U47 : Upd (fun i => i = g ∨ vs.ownBlock = some i) w4 (w6.setCell ⟨g, 3, none⟩ v6) := ((U45.mono (fun _ _ q => .inl q)).trans (U56.mono (fun _ _ q => .inr q))).trans (U67.mono (fun _ _ q => .inl q))
  have U07 : Upd (WtM g Mb vr vs) W (w6.setCell ⟨g, 3, none⟩ v6) := (U04.mono (fun i _ q => q.elim (fun q => .inr (.inl (by rw [q]; exact hgb))) (fun q => .inr (.inr (.inl q))))).trans (U47.mono (fun i _ q => q.elim .inl (fun q => .inr (.inr (.inr q)))))
  have z6 : w4.heap.size ≤ w6.heap.size := by have := U56.size; rw [hsz] at this; exact this
  have hrl : ∀ k, vr.ownBlock = some k → k < W.heap.size := fun k hk => (hmlt k (.inr (.inr (.inl hk)))).2
  have hsl : ∀ k, vs.ownBlock = some k → k < W.heap.size := fun k hk => (hmlt k (.inr (.inr (.inr hk)))).2
  have hbl : ∀ k, Mb k → k < W.heap.size := fun k hk => (hmlt k (.inr (.inl hk))).2
  have hnew : ∀ i, WtM g Mb' v4 v6 i → WtM g Mb vr vs i ∨ w3.heap.size ≤ i := by
    rintro i (q | q | q | q)
    · exact .inl (.inl q)
    · exact .inl (.inr (.inl (hm2 i q)))
    · exact (k4 i q).imp (fun q => .inr (.inr (.inl q))) id
    · exact (k6 i q).imp (fun q => .inr (.inr (.inr q))) (fun q => by omega)
  have hkc : ∀ x, c.ka = some x → 0 < c.ks.length → x.block < w4.heap.size := fun x hx hl => by
    obtain ⟨b', o', e1, e2, _⟩ := ok4.k.cons hl
    rw [hx] at e1
    cases e1
    exact e2
  have h4g : v4.ownBlock ≠ some g := fun q => (k4 g q).elim h.dg.2.1 (fun q => by omega)
  have h6g : v6.ownBlock ≠ some g := fun q => (k6 g q).elim h.dg.2.2 (fun q => by omega)
  have h4s : ∀ k, v4.ownBlock = some k → vs.ownBlock ≠ some k := fun k hk q => (k4 k hk).elim (fun e => h.dr k e q) (fun e => by have := hsl k q; omega)
  have blk4 := U04.heap h.blk (fun q => q.elim ngb h.dg.2.1)
  have blk5 := block_setCell blk4 2 v4
  have blk6 := U56.heap blk5 h.dg.2.2
  have blk7 := block_setCell blk6 3 v6
  refine ⟨⟨blk7, ?_, ⟨o4.upd U47 (fun k hk q => q.elim (fun e => h4g (by rw [← e]; exact hk)) (h4s k hk)), ?_, fun i hi => ?_⟩, .inl (o6.blk fun k hk => U67.block k (o6.owns.lt k hk).2 (fun e => h6g (by rw [← e]; exact hk))), ⟨fun q => h.dg.1 (hm2 g q), h4g, h6g⟩, fun i hi => ⟨fun q => ?_, fun q => ?_⟩, fun i hi q => ?_, fun i hi x hx hl => ?_, h.gB, SG.ended (L := s.L) (l := s.now) h.sg h0, h.n1, Nat.zero_le _, fun q => ?_⟩, U07, fun i hi => ?_⟩
  · refine hb2.upd (S := fun i => vr.ownBlock = some i ∨ i = g ∨ vs.ownBlock = some i) ((((Upd.of_below B3 _).trans (U4.mono (fun _ _ q => .inl q))).trans (U47.mono (fun _ _ q => .inr q)))) (fun i hi q => ?_)
    have hi' := hm2 i hi
    rcases q with q | q | q
    · exact (h.dm i hi').1 q
    · exact h.dg.1 (by rw [← q]; exact hi')
    · exact (h.dm i hi').2 q
  · rw [rws_snoc, h.rw.e, rowsOf_snoc, hc]
  · by_cases q : i < C.length
    · rw [List.getElem_append_left q]
      exact (h.rw.ok i q).upd U07 (fun x hx hl => (h.kr i q x hx hl).2)
    · have e : i = C.length := by rw [List.length_append, List.length_singleton] at hi; omega
      subst e
      rw [List.getElem_append_right (Nat.le_refl _)]
      simp only [Nat.sub_self, List.getElem_cons_zero]
      exact ok4.upd U47 (fun x hx hl q => q.elim (fun e => by have := (kk x hx).1; omega) (fun e => by have := hsl _ e; have := (kk x hx).1; omega))
  · have hi' := hm2 i hi
    exact (k4 i q).elim (h.dm i hi').1 (fun e => by have := hbl i hi'; omega)
  · have hi' := hm2 i hi
    exact (k6 i q).elim (h.dm i hi').2 (fun e => by have := hbl i hi'; omega)
  · rcases k4 i hi with e | e
    · exact (k6 i q).elim (h.dr i e) (fun f => by have := hrl i e; omega)
    · exact (k6 i q).elim (fun f => by have := hsl i f; omega) (fun f => by have := (o4.lt i hi).2; omega)
  · by_cases q : i < C.length
    · rw [List.getElem_append_left q] at hx hl
      have r := h.kr i q x hx hl
      have r2 := (h.klt x.block ⟨i, q, x, hx, hl, rfl⟩).2.1
      exact ⟨r.1, fun e => (hnew _ e).elim r.2 (fun e => by omega)⟩
    · have e : i = C.length := by rw [List.length_append, List.length_singleton] at hi; omega
      subst e
      rw [List.getElem_append_right (Nat.le_refl _)] at hx hl
      simp only [Nat.sub_self, List.getElem_cons_zero] at hx hl
      have r := kk x hx
      have r2 := hkc x hx hl
      have hgB := h.gB
      refine ⟨by omega, ?_⟩
      rintro (q | q | q | q)
      · omega
      · have := hbl _ (hm2 _ q); omega
      · exact r.2 q
      · rcases k6 _ q with f | f
        · have := hsl _ f; omega
        · omega
  · have := h.zl q
    show (zs ++ blkF s.now).length ≤ behP (s.L ++ [s.now])
    rw [behP_snoc, List.length_append]
    omega
  · rcases hi with q | ⟨j, hj, x, hx, hl, rfl⟩
    · exact (hnew i q).imp .inl (fun q => by omega)
    · by_cases q : j < C.length
      · have e : (C ++ [c])[j] = C[j] := List.getElem_append_left q
        exact .inl (.inr ⟨j, q, x, by rw [← e]; exact hx, by rw [← e]; exact hl, rfl⟩)
      · have e : j = C.length := by rw [List.length_append, List.length_singleton] at hj; omega
        subst e
        rw [List.getElem_append_right (Nat.le_refl _)] at hx
        simp only [Nat.sub_self, List.getElem_cons_zero] at hx
        exact .inr (by have := (kk x hx).1; omega)

end Go.Proofs.YtepjblmjjegpgaaGreat

namespace Go.Proofs.YtepjblmjjegpgaaGreat
open Go.RowKit
set_option maxRecDepth 100000

theorem RwO.upd {S : Nat → Prop} {W W' : World} {B : Nat} {v : Value} {C : List Spn} {L : List (List KV)} (h : RwO W B v C L) (hu : Upd S W W') (h1 : ∀ k, v.ownBlock = some k → ¬ S k) (h2 : ∀ i, WtK C i → ¬ S i) : RwO W' B v C L :=
  ⟨h.o.upd hu h1, h.e, fun i hi => (h.ok i hi).upd hu (fun x hx h0 => h2 _ ⟨i, hi, x, hx, h0, rfl⟩)⟩
/-- Its blocks, and what is behind a step. -/
def WtUp (W : World) (B g : Nat) (M : Nat → Prop) (N : Nat) (s : St) (sh : Bool) (zs : List Int) (w' : World) : Prop := ∃ M', WtAt w' B M' g N s sh zs ∧ Upd M W w' ∧ ∀ i, M' i → M i ∨ W.heap.size ≤ i
def EndPost (W : World) (B g : Nat) (M : Nat → Prop) (N : Nat) (s : St) (sh : Bool) (zs : List Int) (e : Ending) (w' : World) : Prop := e = .returned (.tuple #[]) ∧ WtUp W B g M N s sh zs w'
theorem WtAt.same {W w' : World} {B g N : Nat} {M : Nat → Prop} {s : St} {sh : Bool} {zs : List Int} (h : WtAt W B M g N s sh zs) (hb : Below W.heap.size W w') : WtUp W B g M N s sh zs w' :=
  ⟨M, h.upd (Upd.of_below hb Noth) (fun _ _ e => e), Upd.of_below hb M, fun _ q => .inl q⟩
def sFr (s : St) : List Int := if s.now.length = 0 then [] else blkF s.now

set_option maxRecDepth 100000 in
set_option maxHeartbeats 1600000 in
theorem wend_none {W : World} {B g gb : Nat} {Mb : Nat → Prop} {N : Nat} {s : St} {sh : Bool} {zs : List Int} {vr vs : Value} {C : List Spn} (h : WtR W B g gb Mb N s sh zs vr vs C) (h0 : s.now.length = 0) :
    Calls Tryz.prog 44 #[.pointer (some ⟨g, 0, none⟩)] W fun e w' => e = .returned (.tuple #[]) ∧ Below W.heap.size W w' := by
  have HLEN : Hid (∀ Y, Below W.heap.size W Y → Calls Tryz.prog 52 #[.pointer (some ⟨gb, 0, none⟩)] Y fun e w' => e = .returned (.int .i64 0) ∧ w' = Y) := fun Y hb => by
    have := blen_any (h.below hb).bd
    rw [h0] at this
    exact this
  have HLAST : Hid (∀ Y, Below W.heap.size W Y → Calls Tryz.prog 80 #[.pointer (some ⟨gb, 0, none⟩)] Y fun e w' => ∃ v, e = .returned v ∧ Below W.heap.size W w') := fun Y hb => (blast_any (h.below hb).bd).mono fun e w' ⟨v, he, _, hb2⟩ => ⟨v, he, hb.trans (hb2.mono hb.size)⟩
  have c1 := h.cells.2.1
  have hg := h.cells.2.2.2.2.2.1
  clear h h0
  go_enter Tryz.func44, Tryz.ntmps44
  go_wp2_with fail
  go_region_held3 (fun Y => Y.cell? ⟨g, 1, none⟩ = some (.pointer (some ⟨gb, 0, none⟩))) (go_keep) (first
    | (go_at_call 52; refine (HLEN.out _ (by first | exact (Below.refl _ _).drew | exact BB.out.drew | exact BB.out)).mono ?_; rintro e w2 ⟨rfl, rfl⟩)
    | (go_at_call 80; refine (HLAST.out _ (by first | exact (Below.refl _ _).drew | exact (Below.refl _ _))).mono ?_; rintro e w3 ⟨v3, rfl, b3⟩; have BB := hide b3; have d1 := (b3.cell (p := ⟨g, 1, none⟩) hg).trans c1; clear b3)
    | fail)
  all_goals (try go_wp2_with fail)
  all_goals
    refine bodyPost_ret (results_none rfl _ _ _) rfl ?_
    exact ⟨rfl, BB.out⟩

set_option maxRecDepth 100000 in
set_option maxHeartbeats 3200000 in
theorem wend_some {W : World} {B g gb : Nat} {Mb : Nat → Prop} {N : Nat} {s : St} {sh : Bool} {zs : List Int} {vr vs : Value} {C : List Spn} (h : WtR W B g gb Mb N s sh zs vr vs C) (h0 : 0 < s.now.length) (hzl : zs.length ≤ 1099511627784) {M : Nat → Prop} (hM : ∀ i, M i ↔ (WtM g Mb vr vs i ∨ WtK C i)) :
    Calls Tryz.prog 44 #[.pointer (some ⟨g, 0, none⟩)] W (EndPost W B g M N ⟨s.L ++ [s.now], []⟩ sh (zs ++ blkF s.now)) := by
  have hgood := h.sg.now
  have hm := h.sg.many
  have hbe := h.sg.beh
  have hkl := hgood.ahdl
  have hk8 := hgood.ahd8
  have hbl := blk_le hgood
  have hb8 := blk_b8 hgood
  have hfl := frm_len 66 (blk s.now) (by omega)
  have h64 := hgood.n64
  have hgb := h.bd.self
  have ngb : g ≠ gb := fun q => h.dg.1 (by rw [q]; exact hgb)
  have hgbW := (h.bd.lt gb hgb).2
  obtain ⟨nk, hnk⟩ : ∃ n, (ahd s.now).length = n := ⟨_, rfl⟩
  have HNK := hide hnk
  obtain ⟨nb, hnb⟩ : ∃ n, (blk s.now).length = n := ⟨_, rfl⟩
  have HNB := hide hnb
  obtain ⟨nf, hnf⟩ : ∃ n, (blkF s.now).length = n := ⟨_, rfl⟩
  have HNF := hide hnf
  have hnf1 : 1 ≤ nf ∧ nf ≤ 1000000 := by unfold blkF at hnf; omega
  have HLEN : Hid (∀ Y, Below W.heap.size W Y → Calls Tryz.prog 52 #[.pointer (some ⟨gb, 0, none⟩)] Y fun e w' => e = .returned (.int .i64 (s.now.length : Int)) ∧ w' = Y) := fun Y hb => blen_any (h.below hb).bd
  have HLAST : Hid (∀ Y, Below W.heap.size W Y → Calls Tryz.prog 80 #[.pointer (some ⟨gb, 0, none⟩)] Y fun e w' => ∃ a c, e = .returned (.slice a nk c) ∧ OwnB w' W.heap.size 5 (.slice a nk c) (ahd s.now) ∧ Below W.heap.size W w' ∧ (a = none → nk = 0 ∧ c = 0)) := fun Y hb => (blast_any (h.below hb).bd).mono fun e w' ⟨v, he, ho, hb2⟩ => by
    obtain ⟨a, c, rfl, hn, _⟩ := ho.sliceN HNK.out
    exact ⟨a, c, he, ho.mono hb.size, hb.trans (hb2.mono hb.size), hn⟩
  have HBYT : Hid (∀ Y v ks, Below W.heap.size W Y → OwnB Y W.heap.size 5 v ks → Calls Tryz.prog 81 #[.pointer (some ⟨gb, 0, none⟩)] Y fun e w' => ∃ a c Mb', e = .returned (.slice a nb c) ∧ OwnB w' Y.heap.size 5 (.slice a nb c) (blk s.now) ∧ BdAt w' B Mb' gb [] ∧ (∀ i, Mb' i → Mb i) ∧ Upd (fun i => i = gb) Y w' ∧ OwnB w' W.heap.size 5 v ks ∧ (a = none → nb = 0 ∧ c = 0) ∧ Below W.heap.size W Y) := fun Y v ks hb ho => (bbytes_any (h.below hb).bd).mono fun e w' ⟨u, Mb', he, ho2, hb2, hm2, hu2⟩ => by
    obtain ⟨a, c, rfl, hn, _⟩ := ho2.sliceN HNB.out
    exact ⟨a, c, Mb', he, ho2, hb2, hm2, hu2, ho.blk fun k hk => hu2.block k (ho.owns.lt k hk).2 (fun q => by have q' : k = gb := q; have := (ho.owns.lt k hk).1; omega), hn, hb⟩
  have c1 := h.cells.2.1
  have hg := h.cells.2.2.2.2.2.1
  have H := hide h
  have HH := hide hM
  have ne0 : ((s.now.length : Int) == 0) = false := beq_eq_false_iff_ne.2 (by omega)
  clear h hM
  go_enter Tryz.func44, Tryz.ntmps44
  go_wp2_with fail
  go_region_held3 (fun Y => Y.cell? ⟨g, 1, none⟩ = some (.pointer (some ⟨gb, 0, none⟩))) (go_keep) (first
    | (go_at_call 52; refine (HLEN.out _ (by first | exact (Below.refl _ _).drew | exact BB.out.drew | exact BB.out)).mono ?_; rintro e w2 ⟨rfl, rfl⟩)
    | (go_at_call 80; refine (HLAST.out _ (by first | exact (Below.refl _ _).drew | exact (Below.refl _ _))).mono ?_; rintro e w3 ⟨a3, c3, rfl, o3, b3, n3⟩; have N3 := hide n3; have BB := hide b3; have O3 := hide o3; have d1 := (b3.cell (p := ⟨g, 1, none⟩) hg).trans c1; clear b3 o3 n3)
    | fail)
  all_goals (try go_wp2_with fail)
  all_goals
    refine (HBYT.out _ _ _ (by first | exact BB.out | exact BB.out.drew) (by first | exact O3.out | exact O3.out.below ((Below.refl _ _).drew))).mono ?_
    rintro e w5 ⟨a5, c5, Mb', rfl, o5, hb5, hm5, u5, o35, n5, bY⟩
    have O5 := hide o5.row
    have HB5 := hide hb5
    have HM5 := hide hm5
    have U5 := hide u5
    have O35 := hide o35
    have BY := hide bY
    have N5 := hide n5
    have z5 : W.heap.size ≤ w5.heap.size := Nat.le_trans bY.size u5.size
    clear o5 hb5 hm5 u5 o35 bY n5 O3 BB
    go_wp2_with fail
    refine (frame_any 66 a5 nb c5 (blk s.now) w5 HNB.out (by omega) N5.out O5.out hb8).mono ?_
    rintro e w6 ⟨v6, rfl, o6, b6⟩
    obtain ⟨a6, c6, rfl, n6, _⟩ := o6.sliceN (show (frm 66 (blk s.now)).length = nf from HNF.out)
    have U06 : Hid (Upd (fun i => i = gb) W w6) := ((Upd.of_below BY.out _).trans U5.out).trans (Upd.of_below b6 _)
    have z6 := b6.size
    have blk6 := U06.out.heap H.out.blk ngb
    have d2 : w6.cell? ⟨g, 2, none⟩ = some vr := by rw [cell_of_row _ _ _ _ _ _ blk6]; rfl
    have RW6 := hide (H.out.rw.upd U06.out (fun k hk q => (H.out.dm k (by rw [q]; exact hgb)).1 hk) (fun i hi q => (H.out.klt i hi).2.2 (.inr (.inl (by rw [q]; exact hgb)))))
    have O36 := hide (O35.out.below b6).row
    have O6 := hide o6
    have B6 := hide b6
    have N6 := hide n6
    clear blk6 o6 b6 n6 O5
    go_wp2_with fail
    refine (rwith_any RW6.out hm hbe (by have := H.out.gB; omega) a3 nk c3 (ahd s.now) HNK.out (by omega) N3.out O36.out hk8 nf s.now.length (by omega) (by omega)).mono ?_
    rintro e w7 ⟨v7, cc, rfl, o7, hcr, ok7, u7, k7, kk7⟩
    obtain ⟨a7, b7, c7, hv7, h71, h72⟩ := o7.slice
    clear h71 h72
    obtain ⟨n7, hn7⟩ : ∃ n, n = (C ++ [cc]).length := ⟨_, rfl⟩
    rw [← hn7] at hv7
    subst hv7
    clear hn7
    have U07 : Hid (Upd (fun i => i = gb ∨ vr.ownBlock = some i) W w7) := (U06.out.mono (fun _ _ q => .inl q)).trans (u7.mono (fun _ _ q => .inr q))
    have blk7 := U07.out.heap H.out.blk (fun q => q.elim ngb H.out.dg.2.1)
    have fz7 := frozen_blk blk7 2
    have e2 : w7.cell? ⟨g, 2, none⟩ = some vr := by rw [cell_of_row _ _ _ _ _ _ blk7]; rfl
    have e3 : w7.cell? ⟨g, 3, none⟩ = some vs := by rw [cell_of_row _ _ _ _ _ _ blk7]; rfl
    have U78 : Hid (Upd (fun i => i = g) w7 (w7.setCell ⟨g, 2, none⟩ (.slice a7 n7 c7))) := set_upd w7 g 2 (.slice a7 n7 c7)
    have SU8 : Hid (SuR (w7.setCell ⟨g, 2, none⟩ (.slice a7 n7 c7)) B vs zs) := (H.out.su.upd U07.out (fun k hk q => q.elim (fun q => (H.out.dm k (by rw [q]; exact hgb)).2 hk) (fun q => H.out.dr k q hk))).upd U78.out (fun k hk q => H.out.dg.2.2 (by rw [← q]; exact hk))
    have R8 : Hid (Row (w7.setCell ⟨g, 2, none⟩ (.slice a7 n7 c7)) .u8 a6 (blkF s.now)) := ((O6.out.blk (fun k hk => u7.block k (O6.out.owns.lt k hk).2 (fun q => by have := (H.out.mlt k (.inr (.inr (.inl q)))).2; have := (O6.out.owns.lt k hk).1; omega))).blk (fun k hk => U78.out.block k (by have := (O6.out.owns.lt k hk).2; have := u7.size; omega) (fun q => by have q' : k = g := q; have := (O6.out.owns.lt k hk).1; omega))).row
    have z8 : B ≤ (w7.setCell ⟨g, 2, none⟩ (.slice a7 n7 c7)).heap.size := by have := U78.out.size; have := u7.size; have := H.out.gB; omega
    have BLK8 := hide (block_setCell blk7 2 (.slice a7 n7 c7))
    have O7 := hide o7
    have HCR : Hid (cc.row = ⟨ahd s.now, (behP s.L : Int), ((blkF s.now).length : Int), (s.now.length : Int)⟩) := by show _ = _; rw [HNF.out]; exact hcr
    have OK7 := hide ok7
    have U7 := hide u7
    have K7 := hide k7
    have KK7 := hide kk7
    clear o7 hcr ok7 u7 k7 kk7 blk7 O36 RW6 d2
    go_wp2_with (first
      | (at_builtin; refine append_su rfl (.tmp 39) (.tmp 40) rfl B vs zs rfl SU8.out a6 nf c6 (blkF s.now) rfl HNF.out (by omega) N6.out R8.out (by omega) z8 ?_; intro v9 w9 o9 g9 k9; obtain ⟨a9, c9, hv9, h91⟩ := o9.slice; clear h91; obtain ⟨n9, hn9⟩ : ∃ n, n = (zs ++ blkF s.now).length := ⟨_, rfl⟩; rw [← hn9] at hv9; subst hv9; clear hn9; have blk9 := (Upd.of_grown (S := fun i => vs.ownBlock = some i) g9 (fun k hk _ => hk)).heap BLK8.out H.out.dg.2.2; have fz9 := frozen_blk blk9 3; have e9 : w9.cell? ⟨g, 3, none⟩ = some vs := (by rw [cell_of_row _ _ _ _ _ _ blk9]; rfl); have O9 := hide o9; have G9 := hide g9; have K9 := hide k9; clear o9 g9 k9)
      | fail)
    have R := wt_end H.out h0 BY.out HB5.out HM5.out U5.out B6.out O7.out HCR.out OK7.out U7.out K7.out KK7.out O9.out G9.out K9.out
    go_end0
    exact ⟨rfl, _, ⟨gb, Mb', _, _, C ++ [cc], R.1, fun _ => Iff.rfl⟩, R.2.1.mono (fun i _ q => (HH.out i).2 (.inl q)), fun i hi => (R.2.2 i hi).imp (HH.out i).2 id⟩

end Go.Proofs.YtepjblmjjegpgaaGreat

namespace Go.Proofs.YtepjblmjjegpgaaGreat
open Go.RowKit
set_option maxRecDepth 100000

theorem wend_any {W : World} {B g N : Nat} {M : Nat → Prop} {s : St} {zs : List Int} (h : WtAt W B M g N s false zs) :
    Calls Tryz.prog 44 #[.pointer (some ⟨g, 0, none⟩)] W (EndPost W B g M N (sCut s) false (zs ++ sFr s)) := by
  obtain ⟨gb, Mb, vr, vs, C, h, hM⟩ := id h
  have hz := h.zl rfl
  have hb := h.sg.beh
  unfold sCut sFr
  by_cases h0 : s.now.length = 0
  · rw [if_pos h0, if_pos h0, List.append_nil]
    refine (wend_none h h0).mono ?_
    rintro e w' ⟨rfl, hb⟩
    exact ⟨rfl, WtAt.same ⟨gb, Mb, vr, vs, C, h, hM⟩ hb⟩
  · rw [if_neg h0, if_neg h0]
    exact wend_some h (by omega) (by omega) hM
/-- Its Builder has one entry more. -/
theorem wt_put {W w' : World} {B g gb : Nat} {Mb Mb' : Nat → Prop} {N : Nat} {s : St} {sh : Bool} {zs : List Int} {vr vs : Value} {C : List Spn} {k v : List Int} (h : WtR W B g gb Mb N s sh zs vr vs C) (sg : SG ⟨s.L, s.now ++ [(k, v)]⟩) (hl : s.now.length + 1 ≤ N)
    (hb : BdAt w' B Mb' gb (s.now ++ [(k, v)])) (hu : Upd Mb W w') (hm : ∀ i, Mb' i → Mb i ∨ W.heap.size ≤ i) :
    WtR w' B g gb Mb' N ⟨s.L, s.now ++ [(k, v)]⟩ sh zs vr vs C ∧ ∀ i, WtM g Mb' vr vs i → WtM g Mb vr vs i ∨ W.heap.size ≤ i := by
  have hr : ∀ i, vr.ownBlock = some i → i < W.heap.size ∧ ¬ Mb i := fun i hi => ⟨(h.mlt i (.inr (.inr (.inl hi)))).2, fun q => (h.dm i q).1 hi⟩
  have hs : ∀ i, vs.ownBlock = some i → i < W.heap.size ∧ ¬ Mb i := fun i hi => ⟨(h.mlt i (.inr (.inr (.inr hi)))).2, fun q => (h.dm i q).2 hi⟩
  have hg := lt_of_block h.blk
  have hnew : ∀ i, WtM g Mb' vr vs i → WtM g Mb vr vs i ∨ W.heap.size ≤ i := by
    rintro i (q | q | q | q)
    · exact .inl (.inl q)
    · exact (hm i q).imp (fun q => .inr (.inl q)) id
    · exact .inl (.inr (.inr (.inl q)))
    · exact .inl (.inr (.inr (.inr q)))
  refine ⟨⟨hu.heap h.blk h.dg.1, hb, h.rw.upd hu (fun k hk => (hr k hk).2) (fun i hi q => (h.klt i hi).2.2 (.inr (.inl q))), h.su.upd hu (fun k hk => (hs k hk).2), ⟨fun q => (hm g q).elim h.dg.1 (fun q => by omega), h.dg.2⟩, fun i hi => ⟨fun q => (hm i hi).elim (hr i q).2 (fun e => by have := (hr i q).1; omega), fun q => (hm i hi).elim (hs i q).2 (fun e => by have := (hs i q).1; omega)⟩, h.dr, fun i hi x hx hl => ?_, h.gB, sg, h.n1, (by show (s.now ++ [(k, v)]).length ≤ N; simp; omega), h.zl⟩, hnew⟩
  have r := h.kr i hi x hx hl
  have r2 := (h.klt x.block ⟨i, hi, x, hx, hl, rfl⟩).2.1
  exact ⟨r.1, fun q => (hnew _ q).elim r.2 (fun e => by omega)⟩
theorem addE_of {s : St} {k v : List Int} (h : sErr s k v = 0) (hl : s.now.length < 64) : addE s.now k v = 0 := by
  obtain ⟨h1, h2, _⟩ := sErr_ok h
  obtain ⟨f1, _⟩ := wfits_key h1
  unfold addE
  rw [if_neg (by rw [h1]; simp), if_neg (by omega), if_pos]
  unfold aheadK at h2
  by_cases h0 : s.now.length = 0
  · rw [List.eq_nil_of_length_eq_zero h0, ahd_nil]
    cases k with
    | nil => simp at f1
    | cons x k => rw [cmpI_nil_cons]; decide
  · rw [if_neg h0] at h2; exact h2
/-- The bytes that Add makes sure. -/
def sOut (N : Nat) (s : St) (k v : List Int) : List Int := if sErr s k v = 0 ∧ s.now.length + 1 = N then blkF (s.now ++ [(k, v)]) else []
def AdPost (W : World) (B g : Nat) (M : Nat → Prop) (N : Nat) (s : St) (zs k v : List Int) (e : Ending) (w' : World) : Prop := e = .returned (.int .i64 (sErr s k v)) ∧ WtUp W B g M N (sAdd N s k v) false (zs ++ sOut N s k v) w'

set_option maxRecDepth 100000 in
set_option maxHeartbeats 1600000 in
theorem add_no {W : World} {B g N : Nat} {M : Nat → Prop} {s : St} {zs : List Int} (h : WtAt W B M g N s false zs) (e : Ent) (ok : e.Ok W) (hx : sErr s e.ks e.vs ≠ 0) :
    Calls Tryz.prog 15 #[.pointer (some ⟨g, 0, none⟩), .agg #[e.kv, e.vv]] W (FltPost W (sErr s e.ks e.vs)) := by
  obtain ⟨gb, Mb, vr, vs, C, h, hM⟩ := h
  have hbox : Below W.heap.size W (W.alloc (.cells #[e.kv, e.vv] 38)) := (Below.refl _ _).alloc (Nat.le_refl _) _
  have X0 := hide (two_new2 W e.kv e.vv 38)
  have HFL := hide (wfault_any (h.below hbox) e (ok.below hbox))
  rw [if_neg (by decide)] at HFL
  have HBOX := hide hbox
  clear h ok hbox hM
  generalize sErr s e.ks e.vs = x at *
  have hne : (x != 0) = true := by simp [hx]
  unfold Ent.kv Ent.vv at *
  generalize e.ks.length = lk at *
  generalize e.vs.length = lv at *
  go_enter Tryz.func15, Tryz.ntmps15
  go_wp2_with fail
  refine HFL.out.mono ?_
  rintro r w1 ⟨rfl, hb1⟩
  have HF : Hid (FltPost W x (.returned (.int .i64 x)) w1) := ⟨rfl, HBOX.out.trans (hb1.mono HBOX.out.size)⟩
  clear hb1
  go_wp2_with fail
  go_ret
  exact HF.out

end Go.Proofs.YtepjblmjjegpgaaGreat

namespace Go.Proofs.YtepjblmjjegpgaaGreat
open Go.RowKit
set_option maxRecDepth 100000

theorem WtUp.drew {W w : World} {B g N : Nat} {M : Nat → Prop} {s : St} {sh : Bool} {zs : List Int} (h : WtUp W B g M N s sh zs w) : WtUp W B g M N s sh zs w.drew := by
  obtain ⟨M', h1, h2, h3⟩ := h
  exact ⟨M', h1.upd (Upd.of_below (Below.refl _ _).drew Noth) (fun _ _ e => e), h2.drew, h3⟩
set_option maxRecDepth 100000 in
set_option maxHeartbeats 3200000 in
theorem wadd_yes {W : World} {B g N : Nat} {M : Nat → Prop} {s : St} {zs : List Int} (h : WtAt W B M g N s false zs) (hlt : s.now.length < N) (e : Ent) (ok : e.Ok W) (hk : ∀ x, e.ka = some x → 0 < e.ks.length → ¬ M x.block) (hv : ∀ x, e.va = some x → 0 < e.vs.length → ¬ M x.block) (hx : sErr s e.ks e.vs = 0) :
    Calls Tryz.prog 15 #[.pointer (some ⟨g, 0, none⟩), .agg #[e.kv, e.vv]] W (AdPost W B g M N s zs e.ks e.vs) := by
  obtain ⟨gb, Mb, vr, vs, C, h, hM⟩ := h
  have hn64 : s.now.length < 64 := by have := h.n1; omega
  have hbox : Below W.heap.size W (W.alloc (.cells #[e.kv, e.vv] 38)) := (Below.refl _ _).alloc (Nat.le_refl _) _
  have X0 := hide (two_new2 W e.kv e.vv 38)
  have HFL := hide (wfault_any (h.below hbox) e (ok.below hbox))
  rw [if_neg (by decide), hx] at HFL
  have hadd : addE s.now e.ks e.vs = 0 := addE_of hx hn64
  have haddL : addL s.now e.ks e.vs = s.now ++ [(e.ks, e.vs)] := by unfold addL; rw [if_pos hadd]
  have sg1 := h.sg.more hx hn64 ok.k8 ok.v8
  have HP : Hid (∀ e1 w', (e1 = .returned (.int .i64 0) ∧ WtUp W B g M N (sPut N s e.ks e.vs) false (zs ++ (if s.now.length + 1 = N then blkF (s.now ++ [(e.ks, e.vs)]) else [])) w') → AdPost W B g M N s zs e.ks e.vs e1 w') := fun e1 w' q => by
    unfold AdPost sAdd sOut
    rw [hx, if_pos rfl]
    simpa using q
  have HADD : Hid (∀ Y, Below W.heap.size W Y → Calls Tryz.prog 51 #[.pointer (some ⟨gb, 0, none⟩), .agg #[e.kv, e.vv]] Y fun r w' => r = .returned (.int .i64 0) ∧ ∃ Mb', WtR w' B g gb Mb' N ⟨s.L, s.now ++ [(e.ks, e.vs)]⟩ false zs vr vs C ∧ Upd M W w' ∧ (∀ i, (WtM g Mb' vr vs i ∨ WtK C i) → M i ∨ W.heap.size ≤ i) ∧ ∀ j v, Y.cell? ⟨W.heap.size, j, none⟩ = some v → w'.cell? ⟨W.heap.size, j, none⟩ = some v) := fun Y hb => by
    have hY := h.below hb
    have hne : ∀ (x : Addr) (zs : List Int) (ad : Option Addr), (∀ x, ad = some x → 0 < zs.length → ¬ M x.block) → ∀ x, ad = some x → 0 < zs.length → ¬ Mb x.block := fun x zs ad q x hx hl r => q x hx hl ((hM _).2 (.inl (.inr (.inl r))))
    refine (badd_any hY.bd e (ok.below hb) (fun x hx hl r => hk x hx hl ((hM _).2 (.inl (.inr (.inl r))))) (fun x hx hl r => hv x hx hl ((hM _).2 (.inl (.inr (.inl r)))))).mono ?_
    rintro r w' ⟨rfl, Mb', hb2, hu2, hm2⟩
    rw [haddL] at hb2
    rw [hadd]
    obtain ⟨R1, R2⟩ := wt_put hY sg1 (by omega) hb2 hu2 hm2
    refine ⟨rfl, Mb', R1, (Upd.of_below hb _).trans (hu2.mono fun i _ q => (hM i).2 (.inl (.inr (.inl q)))), fun i hi => ?_, fun j v q => hu2.cell (p := ⟨W.heap.size, j, none⟩) q (fun q => by have := (h.bd.lt _ q).2; exact absurd this (Nat.lt_irrefl _))⟩
    exact hi.elim (fun q => (R2 i q).imp (fun q => (hM i).2 (.inl q)) (fun q => by have := hb.size; omega)) (fun q => .inl ((hM i).2 (.inr q)))
  have c1 := h.cells.2.1
  have hg := h.cells.2.2.2.2.2.1
  have HBOX := hide hbox
  have HN1 := hide h.n1
  have ZA : Hid ((W.alloc (.cells #[e.kv, e.vv] 38)).heap.size = W.heap.size + 1) := by show _ = _; simp
  clear h ok hbox hM hk hv hx hadd haddL sg1
  generalize hk1 : e.kv = k1 at *
  generalize hv1 : e.vv = v1 at *
  generalize hks : e.ks = ks at *
  generalize hvs : e.vs = vz at *
  unfold Ent.kv at hk1
  unfold Ent.vv at hv1
  rw [hks] at hk1
  rw [hvs] at hv1
  generalize ks.length = lk at hk1
  generalize vz.length = lv at hv1
  subst hk1 hv1
  clear hks hvs
  go_enter Tryz.func15, Tryz.ntmps15
  go_wp2_with fail
  refine HFL.out.mono ?_
  rintro r w1 ⟨rfl, hb1⟩
  have B1 : Hid (Below W.heap.size W w1) := HBOX.out.trans (hb1.mono HBOX.out.size)
  have x0 := (hb1.cell (p := ⟨W.heap.size, 0, none⟩) (by have := ZA.out; show W.heap.size < _; omega)).trans X0.out.1
  have x1 := (hb1.cell (p := ⟨W.heap.size, 1, none⟩) (by have := ZA.out; show W.heap.size < _; omega)).trans X0.out.2
  have d1 := (B1.out.cell (p := ⟨g, 1, none⟩) hg).trans c1
  clear hb1 HFL X0
  go_wp2_with fail
  go_region_held3 (fun Y => Y.cell? ⟨g, 1, none⟩ = some (.pointer (some ⟨gb, 0, none⟩)) ∧ Y.cell? ⟨W.heap.size, 0, none⟩ = some (.slice e.ka lk e.kc) ∧ Y.cell? ⟨W.heap.size, 1, none⟩ = some (.slice e.va lv e.vc)) (go_keep) (first
    | (go_at_call 51; refine (HADD.out _ (by first | exact B1.out.drew | exact B1.out)).mono ?_; rintro r w2 ⟨rfl, Mb', r2, u2, m2, kp⟩; have y0 := kp 0 _ x0; have y1 := kp 1 _ x1; have R2 := hide r2; have U2 := hide u2; have M2 := hide m2; have f1 := r2.cells.2.1; have f0 := r2.cells.1; clear r2 u2 m2 kp)
    | fail)
  all_goals (try go_wp2_with fail)
  all_goals
    have HLEN : Hid (∀ Y, Below w2.heap.size w2 Y → Calls Tryz.prog 52 #[.pointer (some ⟨gb, 0, none⟩)] Y fun e w' => e = .returned (.int .i64 ((s.now.length : Int) + 1)) ∧ w' = Y) := fun Y hb => (blen_any (R2.out.below hb).bd).mono fun e w' ⟨q, r⟩ => ⟨by rw [q]; simp, r⟩
    have HEND : Hid (∀ Y, Below w2.heap.size w2 Y → Calls Tryz.prog 44 #[.pointer (some ⟨g, 0, none⟩)] Y fun e w' => e = .returned (.tuple #[]) ∧ WtUp W B g M N ⟨s.L ++ [s.now ++ [(ks, vz)]], []⟩ false (zs ++ blkF (s.now ++ [(ks, vz)])) w') := fun Y hb => by
      have hY := R2.out.below hb
      have hz := hY.zl rfl
      have hbb := hY.sg.beh
      refine (wend_some (M := fun i => WtM g Mb' vr vs i ∨ WtK C i) hY (by simp) (by omega) (fun _ => Iff.rfl)).mono ?_
      rintro e1 w' ⟨rfl, M', q1, q2, q3⟩
      refine ⟨rfl, M', q1, (U2.out.trans (Upd.of_below hb _)).then q2 (fun i hi q => (M2.out i q).elim id (fun q => by omega)), fun i hi => ?_⟩
      rcases q3 i hi with q | q
      · exact M2.out i q
      · exact .inr (by have := hb.size; have := U2.out.size; omega)
    have HSTAY : Hid (WtUp W B g M N ⟨s.L, s.now ++ [(ks, vz)]⟩ false zs w2) := ⟨_, ⟨gb, Mb', vr, vs, C, R2.out, fun _ => Iff.rfl⟩, U2.out, M2.out⟩
    have hl2 := R2.out.lt
    have hNN := HN1.out
    go_region_held3 (fun Y => Y.cell? ⟨g, 1, none⟩ = some (.pointer (some ⟨gb, 0, none⟩)) ∧ Y.cell? ⟨g, 0, none⟩ = some (.int .i64 (N : Int))) (go_keep) (first
      | (go_at_call 52; refine (HLEN.out _ (by first | exact (Below.refl _ _).drew | exact (Below.refl _ _))).mono ?_; rintro r w3 ⟨rfl, rfl⟩)
      | fail)
    all_goals
      by_cases hN : s.now.length + 1 = N
      · have i1 : (s.now.length : Int) + 1 = (N : Int) := by omega
        have HF : Hid (∀ w', WtUp W B g M N ⟨s.L ++ [s.now ++ [(ks, vz)]], []⟩ false (zs ++ blkF (s.now ++ [(ks, vz)])) w' → AdPost W B g M N s zs ks vz (.returned (.int .i64 0)) w') := fun w' q => HP.out _ _ ⟨rfl, by unfold sPut; rw [if_pos hN, if_pos hN]; exact q⟩
        go_wp2_with fail
        refine (HEND.out _ (by first | exact (Below.refl _ _).drew | exact (Below.refl _ _))).mono ?_
        rintro r w4 ⟨rfl, q4⟩
        have Q4 := hide q4
        clear q4
        go_wp2_with fail
        go_ret
        exact HF.out _ Q4.out
      · have i1 : ¬ (s.now.length : Int) + 1 = (N : Int) := by omega
        have HF : Hid (∀ w', WtUp W B g M N ⟨s.L, s.now ++ [(ks, vz)]⟩ false zs w' → AdPost W B g M N s zs ks vz (.returned (.int .i64 0)) w') := fun w' q => HP.out _ _ ⟨rfl, by unfold sPut; rw [if_neg hN, if_neg hN, List.append_nil]; exact q⟩
        go_wp2_with fail
        go_ret
        exact HF.out _ (by first | exact HSTAY.out | exact WtUp.drew HSTAY.out)

theorem wadd_any {W : World} {B g N : Nat} {M : Nat → Prop} {s : St} {zs : List Int} (h : WtAt W B M g N s false zs) (hlt : s.now.length < N) (e : Ent) (ok : e.Ok W) (hk : ∀ x, e.ka = some x → 0 < e.ks.length → ¬ M x.block) (hv : ∀ x, e.va = some x → 0 < e.vs.length → ¬ M x.block) :
    Calls Tryz.prog 15 #[.pointer (some ⟨g, 0, none⟩), .agg #[e.kv, e.vv]] W (AdPost W B g M N s zs e.ks e.vs) := by
  by_cases hx : sErr s e.ks e.vs = 0
  · exact wadd_yes h hlt e ok hk hv hx
  · refine (add_no h e ok hx).mono ?_
    rintro r w' ⟨rfl, hb⟩
    have h1 : sAdd N s e.ks e.vs = s := by unfold sAdd; rw [if_neg hx]
    have h2 : sOut N s e.ks e.vs = [] := by unfold sOut; rw [if_neg (fun q => hx q.1)]
    refine ⟨rfl, ?_⟩
    rw [h1, h2, List.append_nil]
    exact h.same hb
theorem sAdd_lt {N : Nat} {s : St} {k v : List Int} (hN : 1 ≤ N) (h : s.now.length < N) : (sAdd N s k v).now.length < N := by
  unfold sAdd
  split
  · unfold sPut
    split
    · exact hN
    · rename_i q
      show (s.now ++ [(k, v)]).length < N
      simp only [List.length_append, List.length_singleton]
      omega
  · exact h

end Go.Proofs.YtepjblmjjegpgaaGreat

namespace Go.Proofs.YtepjblmjjegpgaaGreat
open Go.RowKit
set_option maxRecDepth 100000

theorem wt_shut {W : World} {B g gb : Nat} {Mb : Nat → Prop} {N : Nat} {s : St} {sh : Bool} {zs : List Int} {vr vs : Value} {C : List Spn} (h : WtR W B g gb Mb N s sh zs vr vs C) : WtR (W.setCell ⟨g, 4, none⟩ (.bool true)) B g gb Mb N s true zs vr vs C := by
  have hu := set_upd W g 4 (.bool true)
  have h1 : ∀ k, k = g → ¬ WtK C k := fun k q r => (h.klt k r).2.2 (.inl q)
  exact ⟨block_setCell h.blk 4 _, h.bd.upd hu (fun i hi q => h.dg.1 (by rw [← q]; exact hi)), h.rw.upd hu (fun k hk q => h.dg.2.1 (by rw [← q]; exact hk)) (fun i hi q => h1 i q hi), h.su.upd hu (fun k hk q => h.dg.2.2 (by rw [← q]; exact hk)), h.dg, h.dm, h.dr, h.kr, h.gB, h.sg, h.n1, h.lt, fun q => by cases q⟩
/-- New bytes are sure. -/
theorem wt_sure {W W' : World} {B g gb : Nat} {Mb : Nat → Prop} {N : Nat} {s : St} {zs zs' : List Int} {vr vs v : Value} {C : List Spn} (h : WtR W B g gb Mb N s true zs vr vs C) (hb : Below W.heap.size W W') (ho : OwnB W' W.heap.size 5 v zs') :
    WtR (W'.setCell ⟨g, 3, none⟩ v) B g gb Mb N s true zs' vr v C ∧ Upd (fun i => i = g) W (W'.setCell ⟨g, 3, none⟩ v) ∧ ∀ i, WtM g Mb vr v i → WtM g Mb vr vs i ∨ W.heap.size ≤ i := by
  have hu := (Upd.of_below hb (fun i => i = g)).trans (set_upd W' g 3 v)
  have hg := lt_of_block h.blk
  have hge : ∀ k, v.ownBlock = some k → W.heap.size ≤ k := fun k hk => (ho.owns.lt k hk).1
  have h1 : ∀ k, k = g → ¬ WtK C k := fun k q r => (h.klt k r).2.2 (.inl q)
  have hgB := h.gB
  have hnew : ∀ i, WtM g Mb vr v i → WtM g Mb vr vs i ∨ W.heap.size ≤ i := by
    rintro i (q | q | q | q)
    · exact .inl (.inl q)
    · exact .inl (.inr (.inl q))
    · exact .inl (.inr (.inr (.inl q)))
    · exact .inr (hge i q)
  have hml := h.mlt
  refine ⟨⟨block_setCell ((hb.block g hg).trans h.blk) 3 v, h.bd.upd hu (fun i hi q => h.dg.1 (by rw [← q]; exact hi)), h.rw.upd hu (fun k hk q => h.dg.2.1 (by rw [← q]; exact hk)) (fun i hi q => h1 i q hi), .inl ((ho.blk fun k hk => (set_upd W' g 3 v).block k (ho.owns.lt k hk).2 (fun q => by have := hge k hk; have q' : k = g := q; omega)).mono (by omega)), ⟨h.dg.1, h.dg.2.1, fun q => by have := hge g q; omega⟩, fun i hi => ⟨(h.dm i hi).1, fun q => by have := hge i q; have := (hml i (.inr (.inl hi))).2; omega⟩, fun i hi q => by have := hge i q; have := (hml i (.inr (.inr (.inl hi)))).2; omega, fun i hi x hx hl => ?_, h.gB, h.sg, h.n1, h.lt, fun q => by cases q⟩, hu, hnew⟩
  have r := h.kr i hi x hx hl
  have r2 := (h.klt x.block ⟨i, hi, x, hx, hl, rfl⟩).2.1
  exact ⟨r.1, fun q => (hnew _ q).elim r.2 (fun e => by omega)⟩

/-- The load of what is sure, by a name of its own: so it comes up with the calls. -/
@[go_sem] def ldSure : Op := .load 23 (.tmp 15)
theorem ldSure_eq : Op.load 23 (.tmp 15) = ldSure := rfl
def ClPost (W : World) (B g : Nat) (M : Nat → Prop) (N : Nat) (s' : St) (zs' : List Int) (e : Ending) (w' : World) : Prop := e = .returned (.int .i64 0) ∧ WtUp W B g M N s' true (zs' ++ endB s'.L) w'
theorem end_len {s : St} (h : SG s) : (frm 70 (footB (rowsOf s.L))).length ≤ 2000000000 := by
  have := h.footl
  have := frm_len 70 (footB (rowsOf s.L)) h.footl
  omega

set_option maxRecDepth 100000 in
set_option maxHeartbeats 6400000 in
theorem wclose_any {W : World} {B g N : Nat} {M : Nat → Prop} {s : St} {zs : List Int} (h : WtAt W B M g N s false zs) :
    Calls Tryz.prog 14 #[.pointer (some ⟨g, 0, none⟩)] W (ClPost W B g M N (sCut s) (zs ++ sFr s)) := by
  have HE := hide (wend_any h)
  obtain ⟨gb, Mb, vr, vs, C, h, hM⟩ := h
  have c4 := h.cells.2.2.2.2.1
  clear h hM
  generalize sCut s = s' at *
  generalize zs ++ sFr s = zs' at *
  go_enter Tryz.func14, Tryz.ntmps14
  go_wp2_with fail
  refine HE.out.mono ?_
  rintro e w1 ⟨rfl, M1, ⟨gb1, Mb1, vr1, vs1, C1, h1, hM1⟩, u1, m1⟩
  have H1 := hide h1
  have HM1 := hide hM1
  have U1 := hide u1
  have MM1 := hide m1
  have f4 := h1.cells.2.2.2.2.2.2
  have e4 := h1.cells.2.2.2.2.1
  clear h1 hM1 u1 m1 HE c4
  go_wp2_with fail
  have H2 := hide (wt_shut H1.out)
  have U12 : Hid (Upd (fun i => i = g) w1 (w1.setCell ⟨g, 4, none⟩ (.bool true))) := set_upd w1 g 4 (.bool true)
  have hzl : zs'.length ≤ 1099511627784 := by have := H1.out.zl rfl; have := H1.out.sg.beh; omega
  obtain ⟨w2, hw2⟩ : ∃ w, w = w1.setCell ⟨g, 4, none⟩ (.bool true) := ⟨_, rfl⟩
  rw [← hw2] at H2 U12 ⊢
  clear hw2 e4 f4
  have hsg := H2.out.sg
  have h8 := hsg.foot8
  have hfl := hsg.footl
  have hbe := hsg.beh
  have hma := hsg.many
  have hel := end_len hsg
  obtain ⟨nz, hnz⟩ : ∃ n, zs'.length = n := ⟨_, rfl⟩
  obtain ⟨a0, c0, hvs, hns, _, hrs⟩ := H2.out.su.sliceN hnz
  subst hvs
  obtain ⟨ar, cr, hvr⟩ := H2.out.rw.shape
  obtain ⟨nL, hnL⟩ : ∃ n, n = s'.L.length := ⟨_, rfl⟩
  rw [← hnL] at hvr
  subst hvr
  obtain ⟨nF, hnF⟩ : ∃ n, (footB (rowsOf s'.L)).length = n := ⟨_, rfl⟩
  obtain ⟨nE, hnE⟩ : ∃ n, (frm 70 (footB (rowsOf s'.L))).length = n := ⟨_, rfl⟩
  have HNF := hide hnF
  have HNE := hide hnE
  have HNZ := hide hnz
  have HNS := hide hns
  have HFOOT : Hid (∀ Y, Below w2.heap.size w2 Y → Calls Tryz.prog 47 #[.slice ar nL cr] Y fun e w' => ∃ a c, e = .returned (.slice a nF c) ∧ Row w' .u8 a (footB (rowsOf s'.L)) ∧ (a = none → nF = 0 ∧ c = 0) ∧ Below w2.heap.size w2 w' ∧ Below Y.heap.size Y w') := fun Y hb => (rfoot_any (H2.out.below hb).rw hsg).mono fun e w' ⟨u, he, ho, hb2⟩ => by
    obtain ⟨a, c, rfl, hn, _⟩ := ho.sliceN HNF.out
    exact ⟨a, c, he, ho.row, hn, hb.trans (hb2.mono hb.size), hb2⟩
  have HFRAME : Hid (∀ Y a c, Below w2.heap.size w2 Y → Row Y .u8 a (footB (rowsOf s'.L)) → (a = none → nF = 0 ∧ c = 0) → Calls Tryz.prog 46 #[.int .u8 70, .slice a nF c] Y fun e w' => ∃ a' c', e = .returned (.slice a' nE c') ∧ Row w' .u8 a' (frm 70 (footB (rowsOf s'.L))) ∧ (a' = none → nE = 0 ∧ c' = 0) ∧ Below w2.heap.size w2 w' ∧ Below Y.heap.size Y w') := fun Y a c hb hr hn => (frame_any 70 a nF c _ Y HNF.out (by have := HNF.out; omega) hn hr h8).mono fun e w' ⟨u, he, ho, hb2⟩ => by
    obtain ⟨a', c', rfl, hn', _⟩ := ho.sliceN HNE.out
    exact ⟨a', c', he, ho.row, hn', hb.trans (hb2.mono hb.size), hb2⟩
  have HBEH : Hid (∀ Y, Below w2.heap.size w2 Y → Calls Tryz.prog 49 #[.slice ar nL cr] Y fun e w' => e = .returned (.int .i64 (behP s'.L : Int)) ∧ Below w2.heap.size w2 w' ∧ Below Y.heap.size Y w') := fun Y hb => (rbehind_any (H2.out.below hb).rw hma hbe).mono fun e w' ⟨he, hb2⟩ => ⟨he, hb.trans (hb2.mono hb.size), hb2⟩
  have HTAIL : Hid (∀ Y, Below w2.heap.size w2 Y → Calls Tryz.prog 48 #[.int .i64 (behP s'.L : Int)] Y fun e w' => ∃ a c, e = .returned (.slice a 12 c) ∧ Row w' .u8 a (plc (behP s'.L) ++ [101, 110, 100, 46]) ∧ (a = none → 12 = 0 ∧ c = 0) ∧ Below w2.heap.size w2 w' ∧ Below Y.heap.size Y w') := fun Y hb => (tail_any (behP s'.L) Y (by omega)).mono fun e w' ⟨a, c, he, hn, hr, hb2⟩ => ⟨a, c, he, hr, fun q => absurd q hn, hb.trans (hb2.mono hb.size), hb2⟩
  have HCONC : Hid (∀ Y a1 c1 a2 c2, Below w2.heap.size w2 Y → Row Y .u8 a1 (frm 70 (footB (rowsOf s'.L))) → (a1 = none → nE = 0 ∧ c1 = 0) → Row Y .u8 a2 (plc (behP s'.L) ++ [101, 110, 100, 46]) → (a2 = none → 12 = 0 ∧ c2 = 0) → Calls Tryz.prog 45 #[.slice (some ⟨Y.heap.size, 0, none⟩) 3 3] (Y.alloc (.cells #[.slice a0 nz c0, .slice a1 nE c1, .slice a2 12 c2] 23)) fun e w' => ∃ a n c, e = .returned (.slice a n c) ∧ OwnB w' w2.heap.size 5 (.slice a n c) (zs' ++ endB s'.L) ∧ Below w2.heap.size w2 w') := fun Y a1 c1 a2 c2 hb r1 n1 r2 n2 => by
    obtain ⟨q0, q1, q2⟩ := wcells3 Y (.slice a0 nz c0) (.slice a1 nE c1) (.slice a2 12 c2) 23
    refine (concat_any Y.heap.size 0 3 3 _ [zs', frm 70 (footB (rowsOf s'.L)), plc (behP s'.L) ++ [101, 110, 100, 46]] _ rfl (by omega) (wparts3 HNZ.out HNE.out rfl HNS.out n1 n2 q0 q1 q2 ((hrs.below2 hb).alloc _) (r1.alloc _) (r2.alloc _)) ?_).mono ?_
    · have := HNZ.out; have := HNE.out
      simp only [List.flatten_cons, List.flatten_nil, List.length_append, List.length_cons, List.length_nil]
      have : (plc (behP s'.L)).length = 8 := rfl
      omega
    · rintro e w' ⟨v, rfl, ho, hb2⟩
      rw [show [zs', frm 70 (footB (rowsOf s'.L)), plc (behP s'.L) ++ [101, 110, 100, 46]].flatten = zs' ++ endB s'.L by simp [endB]] at ho
      obtain ⟨a, c, rfl, _⟩ := ho.slice
      have hs := hb.size
      exact ⟨a, _, c, rfl, ho.mono (by simp; omega), (hb.alloc hs _).trans (hb2.mono (by simp; omega))⟩
  have c2 := H2.out.cells.2.2.1
  have c3 := H2.out.cells.2.2.2.1
  have hgW : g < w2.heap.size := H2.out.cells.2.2.2.2.2.1
  have BW : Hid (Below w2.heap.size w2 w2) := Below.refl _ _
  clear hrs hns hnz hnF hnE hnL
  rw [ldSure_eq]
  have s3 := c3
  go_region_held3 (fun Y => Y.cell? ⟨g, 2, none⟩ = some (.slice ar nL cr)) (first | exact s2 | exact t2 | go_keep) (first
    | (go_at_call 47; refine (HFOOT.out _ (by first | exact BW.out | exact BW.out.drew)).mono ?_; rintro e wf ⟨af, cf, rfl, rf, nf, b1, b2⟩; replace BW := hide b1; have RF := hide rf; have NF := hide nf; (try (have RT := hide (RT.out.below2 b2))); have s2 := (b1.cell (p := ⟨g, 2, none⟩) hgW).trans c2; have s3 := (b1.cell (p := ⟨g, 3, none⟩) hgW).trans c3; clear rf nf b1 b2)
    | (go_at_call 46; refine (HFRAME.out _ _ _ (by first | exact BW.out | exact BW.out.drew) (by first | exact RF.out) NF.out).mono ?_; rintro e wf ⟨ae, ce, rfl, rf, nf, b1, b2⟩; replace BW := hide b1; have RE := hide rf; have NE := hide nf; (try (have RT := hide (RT.out.below2 b2))); have s2 := (b1.cell (p := ⟨g, 2, none⟩) hgW).trans c2; have s3 := (b1.cell (p := ⟨g, 3, none⟩) hgW).trans c3; clear rf nf b1 b2)
    | (go_at_call 49; refine (HBEH.out _ (by first | exact BW.out | exact BW.out.drew)).mono ?_; rintro e wf ⟨rfl, b1, b2⟩; replace BW := hide b1; (try (have RF := hide (RF.out.below2 b2))); (try (have RE := hide (RE.out.below2 b2))); have s2 := (b1.cell (p := ⟨g, 2, none⟩) hgW).trans c2; have s3 := (b1.cell (p := ⟨g, 3, none⟩) hgW).trans c3; clear b1 b2)
    | (go_at_call 48; refine (HTAIL.out _ (by first | exact BW.out | exact BW.out.drew)).mono ?_; rintro e wf ⟨at', ct, rfl, rf, nf, b1, b2⟩; replace BW := hide b1; have RT := hide rf; have NT := hide nf; (try (have RF := hide (RF.out.below2 b2))); (try (have RE := hide (RE.out.below2 b2))); have s2 := (b1.cell (p := ⟨g, 2, none⟩) hgW).trans c2; have s3 := (b1.cell (p := ⟨g, 3, none⟩) hgW).trans c3; clear rf nf b1 b2)
    | (go_at_call 45; refine (HCONC.out _ _ _ _ _ BW.out RE.out NE.out RT.out NT.out).mono ?_; rintro e wf ⟨av, nv, cv, rfl, ov, b1⟩; have OV := hide ov; replace BW := hide b1; have bk := (b1.block g hgW).trans H2.out.blk; have fz3 := frozen_blk bk 3; have t2 : (wf.setCell ⟨g, 3, none⟩ (.slice av nv cv)).cell? ⟨g, 2, none⟩ = some (.slice ar nL cr) := (by rw [cell_of_row _ _ _ _ _ _ (block_setCell bk 3 _)]; rfl); have s2 := (b1.cell (p := ⟨g, 2, none⟩) hgW).trans c2; have s3 := (b1.cell (p := ⟨g, 3, none⟩) hgW).trans c3; clear ov b1 bk)
    | fail)
  all_goals (try go_wp2_with fail)
  all_goals
    have R := wt_sure H2.out BW.out OV.out
    go_ret
    refine ⟨rfl, fun i => WtM g Mb1 (.slice ar nL cr) (.slice av nv cv) i ∨ WtK C1 i, ⟨gb1, Mb1, _, _, C1, R.1, fun _ => Iff.rfl⟩, ?_, fun i hi => ?_⟩
    · exact U1.out.then ((U12.out.trans R.2.1)) (fun i hi q => (MM1.out i ((HM1.out i).2 (.inl (.inl q)))).elim id (fun q => by omega))
    · have z := U1.out.size
      have z2 := U12.out.size
      rcases hi with q | q
      · rcases R.2.2 i q with q | q
        · exact MM1.out i ((HM1.out i).2 (.inl q))
        · exact .inr (by omega)
      · exact MM1.out i ((HM1.out i).2 (.inr q))

end Go.Proofs.YtepjblmjjegpgaaGreat

namespace Go.Proofs.YtepjblmjjegpgaaGreat
open Go.RowKit
set_option maxRecDepth 100000

/-- What Next tells is handed over. -/
def NxPost (W : World) (B g : Nat) (M : Nat → Prop) (N : Nat) (s : St) (sh : Bool) (zs : List Int) (e : Ending) (w' : World) : Prop :=
  ∃ v M', e = .returned v ∧ SuR w' B v zs ∧ WtAt w' B M' g N s sh [] ∧ Upd M W w' ∧ (∀ i, M' i → M i) ∧ ∀ k, v.ownBlock = some k → M k ∧ ¬ M' k
set_option maxRecDepth 100000 in
set_option maxHeartbeats 1600000 in
theorem wnext_any {W : World} {B g N : Nat} {M : Nat → Prop} {s : St} {sh : Bool} {zs : List Int} (h : WtAt W B M g N s sh zs) :
    Calls Tryz.prog 23 #[.pointer (some ⟨g, 0, none⟩)] W (NxPost W B g M N s sh zs) := by
  obtain ⟨gb, Mb, vr, vs, C, h, hM⟩ := h
  obtain ⟨nz, hnz⟩ : ∃ n, zs.length = n := ⟨_, rfl⟩
  obtain ⟨a0, c0, hvs, _⟩ := h.su.sliceN hnz
  subst hvs
  have c3 := h.cells.2.2.2.1
  have hg := h.cells.2.2.2.2.2.1
  have fz3 := frozen_blk h.blk 3
  have hu := set_upd W g 3 (.slice none 0 0)
  have h1 : ∀ k, k = g → ¬ WtK C k := fun k q r => (h.klt k r).2.2 (.inl q)
  have hsub : ∀ i, WtM g Mb vr (.slice none 0 0) i → WtM g Mb vr (.slice a0 nz c0) i := by
    rintro i (q | q | q | q)
    · exact .inl q
    · exact .inr (.inl q)
    · exact .inr (.inr (.inl q))
    · cases q
  have R : Hid (NxPost W B g M N s sh zs (.returned (.slice a0 nz c0)) (W.setCell ⟨g, 3, none⟩ (.slice none 0 0))) := by
    refine ⟨_, fun i => WtM g Mb vr (.slice none 0 0) i ∨ WtK C i, rfl, h.su.upd hu (fun k hk q => h.dg.2.2 (by rw [← q]; exact hk)), ⟨gb, Mb, vr, _, C, ⟨block_setCell h.blk 3 _, h.bd.upd hu (fun i hi q => h.dg.1 (by rw [← q]; exact hi)), h.rw.upd hu (fun k hk q => h.dg.2.1 (by rw [← q]; exact hk)) (fun i hi q => h1 i q hi), .inl (OwnB.nil _ _ _), ⟨h.dg.1, h.dg.2.1, (fun q => by cases q)⟩, fun i hi => ⟨(h.dm i hi).1, (fun q => by cases q)⟩, (fun i hi q => by cases q), fun i hi x hx hl => ⟨(h.kr i hi x hx hl).1, fun q => (h.kr i hi x hx hl).2 (hsub _ q)⟩, h.gB, h.sg, h.n1, h.lt, fun _ => Nat.zero_le _⟩, fun _ => Iff.rfl⟩, hu.mono (fun i _ q => (hM i).2 (.inl (.inl q))), fun i hi => (hM i).2 (hi.imp (hsub i) id), fun k hk => ⟨(hM k).2 (.inl (.inr (.inr (.inr hk)))), ?_⟩⟩
    rintro (q | q)
    · rcases q with q | q | q | q
      · exact h.dg.2.2 (by rw [← q]; exact hk)
      · exact (h.dm k q).2 hk
      · exact h.dr k q hk
      · cases q
    · exact (h.klt k q).2.2 (.inr (.inr (.inr hk)))
  clear h hM hu h1 hsub
  go_enter Tryz.func23, Tryz.ntmps23
  go_wp2_with fail
  go_ret
  exact R.out

set_option maxRecDepth 100000 in
set_option maxHeartbeats 800000 in
theorem wnew_bad (n : Int) (w : World) (h : n < 1 ∨ 64 < n) :
    Calls Tryz.prog 13 #[.int .i64 n] w fun e w' => e = .returned (.tuple #[.pointer none, .int .i64 1]) ∧ w' = w := by
  by_cases h1 : n < 1
  · go_enter Tryz.func13, Tryz.ntmps13
    go_wp2_with fail
    go_ret2
    exact ⟨rfl, rfl⟩
  · have h2 : 64 < n := by omega
    go_enter Tryz.func13, Tryz.ntmps13
    go_wp2_with fail
    go_ret2
    exact ⟨rfl, rfl⟩
def NwPost (w : World) (N : Nat) (e : Ending) (w' : World) : Prop := ∃ g M, e = .returned (.tuple #[.pointer (some ⟨g, 0, none⟩), .int .i64 0]) ∧ WtAt w' w.heap.size M g N ⟨[], []⟩ false hd8 ∧ Below w.heap.size w w'
set_option maxRecDepth 100000 in
set_option maxHeartbeats 800000 in
theorem wnew_good (N : Nat) (w : World) (h : 1 ≤ N ∧ N ≤ 64) :
    Calls Tryz.prog 13 #[.int .i64 (N : Int)] w (NwPost w N) := by
  have h1 : ¬ (N : Int) < 1 := by omega
  have h2 : ¬ 64 < (N : Int) := by omega
  have HB := hide (wbegun_any N w h)
  clear h
  go_enter Tryz.func13, Tryz.ntmps13
  go_wp2_with fail
  refine HB.out.mono ?_
  rintro e w1 ⟨g, M, rfl, hw, hb⟩
  have HF : Hid (NwPost w N (.returned (.tuple #[.pointer (some ⟨g, 0, none⟩), .int .i64 0])) w1) := ⟨g, M, rfl, hw, hb⟩
  clear hw hb
  go_wp2_with fail
  go_ret2
  exact HF.out

/-- A writer that was told the first entries. -/
def sRun (N : Nat) (l : List KV) : Nat → St
  | 0 => ⟨[], []⟩
  | i + 1 => sAdd N (sRun N l i) (kyOf l i) (vlOf l i)
/-- What Bytes tells of entries. -/
def BtE (N : Nat) (l : List KV) (r : Int) (n : Nat) (zs : List Int) : Prop :=
  (n < l.length ∧ (∀ j, j < n → sErr (sRun N l j) (kyOf l j) (vlOf l j) = 0) ∧ sErr (sRun N l n) (kyOf l n) (vlOf l n) = r ∧ r ≠ 0 ∧ zs = []) ∨
  ((∀ j, j < l.length → sErr (sRun N l j) (kyOf l j) (vlOf l j) = 0) ∧ r = 0 ∧ n = 0 ∧ zs = wholeB (sCut (sRun N l l.length)).L)
theorem BtE.one {N : Nat} {l : List KV} {r r' : Int} {n n' : Nat} {zs zs' : List Int} (h : BtE N l r n zs) (k : BtE N l r' n' zs') : r = r' ∧ n = n' ∧ zs = zs' := by
  rcases h with ⟨h1, h2, h3, h4, h5⟩ | ⟨h1, h2, h3, h4⟩ <;> rcases k with ⟨k1, k2, k3, k4, k5⟩ | ⟨k1, k2, k3, k4⟩
  · have : n = n' := by
      rcases Nat.lt_trichotomy n n' with q | q | q
      · exact absurd (k2 n q) (by rw [h3]; exact h4)
      · exact q
      · exact absurd (h2 n' q) (by rw [k3]; exact k4)
    subst this
    exact ⟨by rw [← h3, ← k3], rfl, by rw [h5, k5]⟩
  · exact absurd (k1 n h1) (by rw [h3]; exact h4)
  · exact absurd (h1 n' k1) (by rw [k3]; exact k4)
  · exact ⟨by rw [h2, k2], by rw [h3, k3], by rw [h4, k4]⟩
theorem sRun_lt {N : Nat} (hN : 1 ≤ N) (l : List KV) : ∀ i, (sRun N l i).now.length < N
  | 0 => hN
  | i + 1 => sAdd_lt hN (sRun_lt hN l i)
/-- The bytes that are sure are the head and the blocks so far. -/
theorem sure_add {N : Nat} {s : St} {k v : List Int} : hd8 ++ byts s.L ++ sOut N s k v = hd8 ++ byts (sAdd N s k v).L := by
  unfold sOut sAdd sPut
  by_cases h1 : sErr s k v = 0
  · by_cases h2 : s.now.length + 1 = N
    · rw [if_pos ⟨h1, h2⟩, if_pos h1, if_pos h2, byts_snoc, List.append_assoc]
    · rw [if_neg (fun q => h2 q.2), if_pos h1, if_neg h2, List.append_nil]
  · rw [if_neg (fun q => h1 q.1), if_neg h1, List.append_nil]
theorem sure_cut (s : St) : hd8 ++ byts s.L ++ sFr s = hd8 ++ byts (sCut s).L := by
  unfold sFr sCut
  by_cases h1 : s.now.length = 0
  · rw [if_pos h1, if_pos h1, List.append_nil]
  · rw [if_neg h1, if_neg h1, byts_snoc, List.append_assoc]

end Go.Proofs.YtepjblmjjegpgaaGreat

namespace Go.Proofs.YtepjblmjjegpgaaGreat
open Go.RowKit
set_option maxRecDepth 100000

/-- A list of bytes, an error, a number. -/
def BsPost (w : World) (N : Nat) (l : List KV) (e : Ending) (w' : World) : Prop :=
  ∃ v r n zs, e = .returned (.tuple #[v, .int .i64 r, .int .i64 (n : Nat)]) ∧ BtE N l r n zs ∧ OwnB w' w.heap.size 5 v zs ∧ Below w.heap.size w w'
theorem SuR.own {W : World} {B : Nat} {v : Value} {zs : List Int} (h : SuR W B v zs) (hl : zs.length ≠ 8) : OwnB W B 5 v zs := by
  rcases h with h | ⟨g, _, _, _, h4⟩
  · exact h
  · exact absurd (by rw [h4]; rfl) hl
theorem WtUp.below {W w' : World} {B g N : Nat} {M : Nat → Prop} {s : St} {sh : Bool} {zs : List Int} (h : WtUp W B g M N s sh zs w') {B0 : Nat} (hB : B0 ≤ W.heap.size) (hM : ∀ i, M i → B0 ≤ i) : ∃ M', WtAt w' B M' g N s sh zs ∧ Below B0 W w' ∧ ∀ i, M' i → B0 ≤ i := by
  obtain ⟨M', h1, h2, h3⟩ := h
  exact ⟨M', h1, h2.below hB (fun k hk q => by have := hM k q; omega), fun i hi => (h3 i hi).elim (hM i) (fun q => by omega)⟩
theorem below_drewNW {B : Nat} {a w : World} (h : Below B a w) (n : Nat) : Below B a (w.drewN n) := ⟨h.os, h.tape, h.output, h.size, h.block⟩
/-- What a round of Bytes has. -/
structure BtI (w wr : World) (g N : Nat) (l : List KV) (k : Nat) : Prop where
  wt : ∃ M, WtAt wr w.heap.size M g N (sRun N l k) false (hd8 ++ byts (sRun N l k).L) ∧ ∀ i, M i → w.heap.size ≤ i
  ok : ∀ j, j < k → sErr (sRun N l j) (kyOf l j) (vlOf l j) = 0
  b : Below w.heap.size w wr
theorem BtI.drewN {w wr : World} {g N k : Nat} {l : List KV} (h : BtI w wr g N l k) (m : Nat) : BtI w (wr.drewN m) g N l k := by
  obtain ⟨⟨M, h1, h2⟩, h3, h4⟩ := h
  exact ⟨⟨M, h1.upd (Upd.of_below (below_drewNW (Below.refl _ _) m) Noth) (fun _ _ e => e), h2⟩, h3, below_drewNW h4 m⟩

set_option maxRecDepth 100000 in
set_option maxHeartbeats 3200000 in
theorem sbytes_any (a : Option Addr) (b o l c : Nat) (L : List Ent) (N : Nat) (w : World) (hN : 1 ≤ N ∧ N ≤ 64) (hl : L.length = l) (hm : l ≤ 140737488351232) (ha : 0 < l → a = some ⟨b, o, none⟩) (hE : Ens w b o L) :
    Calls Tryz.prog 9 #[.slice a l c, .int .i64 (N : Int)] w (BsPost w N (kvs L)) := by
  have HE := hide (fun (W : World) (h : Below w.heap.size w W) => hE.below h)
  have HNW := hide (wnew_good N w hN)
  have hkl : (kvs L).length = l := (kvs_len L).trans hl
  have hbw : 0 < l → b < w.heap.size := fun h => hE.lt (by omega)
  have HOK : Hid (∀ k (h : k < L.length), (∀ x, L[k].ka = some x → 0 < L[k].ks.length → x.block < w.heap.size) ∧ ∀ x, L[k].va = some x → 0 < L[k].vs.length → x.block < w.heap.size) := fun k h => by
    have r := hE.ok k h
    refine ⟨fun x hx h0 => ?_, fun x hx h0 => ?_⟩
    · obtain ⟨b', o', e1, e2, _⟩ := r.k.cons h0
      rw [hx] at e1; cases e1; exact e2
    · obtain ⟨b', o', e1, e2, _⟩ := r.v.cons h0
      rw [hx] at e1; cases e1; exact e2
  clear hE
  go_enter Tryz.func9, Tryz.ntmps9
  go_wp2_with fail
  refine HNW.out.mono ?_
  rintro e w1 ⟨g, M1, rfl, hw1, b1⟩
  have I0 : Hid (BtI w w1 g N (kvs L) 0) := ⟨⟨M1, by rw [show hd8 ++ byts (sRun N (kvs L) 0).L = hd8 from rfl]; exact hw1, fun i hi => (hw1.lt i hi).1⟩, fun j hj => absurd hj (Nat.not_lt_zero j), b1⟩
  clear hw1 b1 HNW
  go_wp2_with fail
  go_loopw [22] (fun q wr => ∃ k : Nat, k ≤ l ∧ q = .int .i64 (k : Int) ∧ Hid (BtI w wr g N (kvs L) k)) (fun q _ => l - (intOf q).toNat)
  case atStart => exact ⟨0, by omega, rfl, I0⟩
  case round =>
    obtain ⟨k, hk, rfl, HI⟩ := hrel
    by_cases hlt : k < l
    · obtain rfl := ha (by omega)
      have hkL : k < L.length := by omega
      have hen := HE.out wr HI.out.b
      have c0 := hen.at0 k hkL
      have c1 := hen.at1 k hkL
      have ok := hide (hen.ok k hkL)
      have hbr : b < wr.heap.size := hen.lt (by omega)
      have i1 : (k : Int) < (l : Int) := by omega
      obtain ⟨HK, HV⟩ := HOK.out k hkL
      have hky := kvs_ky L k hkL
      have hvl := kvs_vl L k hkL
      unfold Ent.kv at c0
      unfold Ent.vv at c1
      clear hen
      generalize L[k] = en at *
      obtain ⟨M, hwt, hMM⟩ := HI.out.wt
      have bb : Below wr.heap.size wr (wr.alloc (.cells #[.slice en.ka en.ks.length en.kc, .slice en.va en.vs.length en.vc] 38)) := (Below.refl _ _).alloc (Nat.le_refl _) _
      have hws := HI.out.b.size
      have HAD : Hid (Calls Tryz.prog 15 #[.pointer (some ⟨g, 0, none⟩), .agg #[.slice en.ka en.ks.length en.kc, .slice en.va en.vs.length en.vc]] (wr.alloc (.cells #[.slice en.ka en.ks.length en.kc, .slice en.va en.vs.length en.vc] 38)) fun e w' => e = .returned (.int .i64 (sErr (sRun N (kvs L) k) en.ks en.vs)) ∧ Below w.heap.size w w' ∧ (sErr (sRun N (kvs L) k) en.ks en.vs = 0 → BtI w w' g N (kvs L) (k + 1))) := by
        have hwt' := hwt.upd (Upd.of_below bb Noth) (fun _ _ e => e)
        refine (wadd_any hwt' (sRun_lt hN.1 _ _) en (ok.out.below bb) (fun x hx h0 q => by have := HK x hx h0; have := hMM _ q; omega) (fun x hx h0 q => by have := HV x hx h0; have := hMM _ q; omega)).mono ?_
        rintro e w' ⟨rfl, hup⟩
        obtain ⟨M', q1, q2, q3⟩ := hup.below (Nat.le_trans hws bb.size) hMM
        have q4 : Below w.heap.size w w' := (HI.out.b.trans (bb.mono hws)).trans q2
        refine ⟨rfl, q4, fun h0 => ⟨⟨M', ?_, q3⟩, fun j hj => ?_, q4⟩⟩
        · rw [sRun, hky, hvl, ← sure_add]; exact q1
        · by_cases h : j < k
          · exact HI.out.ok j h
          · obtain rfl : j = k := by omega
            rw [hky, hvl]; exact h0
      have X0 := hide (two_new wr (.slice en.ka en.ks.length en.kc) (.slice en.va en.vs.length en.vc) 38)
      have HERR : Hid (∀ w', sErr (sRun N (kvs L) k) en.ks en.vs ≠ 0 → Below w.heap.size w w' → BsPost w N (kvs L) (.returned (.tuple #[.slice none 0 0, .int .i64 (sErr (sRun N (kvs L) k) en.ks en.vs), .int .i64 (k : Int)])) w') := fun w' h0 hb =>
        ⟨_, _, k, [], rfl, .inl ⟨by omega, HI.out.ok, by rw [hky, hvl], h0, rfl⟩, OwnB.nil _ _ _, hb⟩
      clear hwt hMM bb hky hvl HK HV ok
      generalize sErr (sRun N (kvs L) k) en.ks en.vs = x at *
      go_wp2_with fail
      refine HAD.out.mono ?_
      rintro e w2 ⟨rfl, b2, hn⟩
      have B2 := hide b2
      by_cases hx : x = 0
      · have I2 := hide (hn hx)
        subst hx
        clear b2 hn HAD HERR c0 c1
        go_wp2_with fail
        go_roundw
        case rel => exact ⟨k + 1, by omega, by go_num, I2⟩
        case measure => simp [intOf]; omega
      · have hne : (x != 0) = true := by simp [hx]
        have HF := hide (HERR.out w2 hx b2)
        clear b2 hn HAD HERR c0 c1
        go_wp2_with fail
        go_ret3
        exact HF.out
    · obtain rfl : k = l := by omega
      have i1 : ¬ (k : Int) < (k : Int) := by omega
      obtain ⟨M, hwt, hMM⟩ := HI.out.wt
      have HCL := hide (wclose_any hwt)
      rw [sure_cut] at HCL
      have HMM := hide hMM
      have HOKK := hide HI.out.ok
      have HBB := hide HI.out.b
      clear hwt hMM
      generalize hsc : sCut (sRun N (kvs L) k) = sc at *
      go_wp2_with fail
      refine HCL.out.mono ?_
      rintro e w2 ⟨rfl, hup⟩
      obtain ⟨M', q1, q2, q3⟩ := hup.below HBB.out.size HMM.out
      have HNX := hide (wnext_any q1)
      have B2 : Hid (Below w.heap.size w w2) := HBB.out.trans q2
      have Q3 := hide q3
      clear q1 q2 q3 hup HCL
      go_wp2_with fail
      refine HNX.out.mono ?_
      rintro e w3 ⟨v, M3, rfl, hsu, _, hu3, _, _⟩
      have HF : Hid (BsPost w N (kvs L) (.returned (.tuple #[v, .int .i64 0, .int .i64 0])) w3) := by
        refine ⟨v, 0, 0, _, rfl, .inr ⟨by rw [hkl]; exact HOKK.out, rfl, rfl, rfl⟩, ?_, B2.out.trans (hu3.below B2.out.size (fun i hi q => by have := Q3.out i q; omega))⟩
        rw [hkl, hsc]
        have := hsu.own (by show (hd8 ++ byts sc.L ++ endB sc.L).length ≠ 8; simp only [List.length_append]; have h8 : hd8.length = 8 := rfl; have h0 : 0 < (endB sc.L).length := (by simp [endB, plc]); omega)
        exact this
      clear hsu hu3 HNX
      go_wp2_with fail
      go_ret3
      exact HF.out

end Go.Proofs.YtepjblmjjegpgaaGreat

namespace Go.Proofs.YtepjblmjjegpgaaGreat
open Go.RowKit
set_option maxRecDepth 100000

theorem step_appS {ops : Array Oper} {o : Oper} {a : Act} {w : World} {K : Act → World → Prop} {Q : Exit → Act → World → Prop} {E : Prop} (hgd : o.guard = none) (s x : Operand)
    (ho : o.op = .call { callee := .builtin .append, args := #[s, x], argTypes := #[51, 51] })
    (base : Nat) (v : Value) (C : List Spn) (c : Spn) (hs : a.eval s = v) (hown : OwnS w base v C) (ad : Addr) (cc : Nat) (hx : a.eval x = .slice (some ad) 1 cc) (hrow : ∀ j u, [c.kv, .int .i64 c.pl, .int .i64 c.ln, .int .i64 c.n][j]? = some u → w.cell? (ad.add j) = some u)
    (hbytes : C.length ≤ 100000000) (hbase : base ≤ w.heap.size)
    (h : ∀ v' w', OwnS w' base v' (C ++ [c]) → w.grownBy w' v.ownBlock → (∀ k, v'.ownBlock = some k → v.ownBlock = some k ∨ w.heap.size ≤ k) → K (a.put o.dst v') w') :
    if Region.wanted o (yielded ops a.tmps) = true then Oper.wp Tryz.prog o a w K Q else E := by
  obtain ⟨v', w', hrun, h1, h2, h3⟩ := run_app_s 51 Tryz.underlying51 o.type base v C c hown ad cc hrow hbytes hbase
  have hK := h v' w' h1 h2 h3
  have hw : Region.wanted o (yielded ops a.tmps) = true := by simp [Region.wanted, hgd]
  rw [if_pos hw]
  unfold Oper.wp
  simp [execOp, ho, resolve, invoke, builtin, hs, hx, hrun, Result.andThen]
  exact hK

theorem fL_good {L : List Ent} (h : Good (kvs L)) : ∀ i, i < L.length → fL L i = 0 := by
  intro i hi
  have hk : (kvs L).length = L.length := kvs_len L
  have c : chkE L[i].ks.length L[i].vs.length = 0 := by
    have h1 := h.k1 i (by omega)
    have h2 := h.v1 i (by omega)
    rw [kvs_ky L i hi] at h1
    rw [kvs_vl L i hi] at h2
    unfold chkE
    rcases keyE_cases L[i].ks.length with q | q
    · omega
    · rw [q.1]
      rcases valE_cases L[i].vs.length with r | r
      · omega
      · rw [r.1]; rfl
  by_cases h0 : i = 0
  · subst h0
    exact fL_zero hi c
  · rw [fL_succ hi (by omega) c]
    have := h.up (i - 1) (by omega)
    rw [kvs_ky L (i - 1) (by omega), show i - 1 + 1 = i by omega, kvs_ky L i hi] at this
    rw [if_pos this]
theorem bld_good {L : List Ent} (h : Good (kvs L)) (h0 : 0 < L.length) {n : Nat} {r : Int} (hb : bldE L n r) : r = 0 := by
  have h64 := h.n64
  rw [kvs_len] at h64
  unfold bldE at hb
  rw [if_neg (by omega)] at hb
  rcases hb with ⟨_, _, q⟩ | ⟨q1, q2, _, _⟩
  · exact q
  · exact absurd (fL_good h n q1) q2

/-- Lists of entries that lie one behind the other. -/
structure LsM (W : World) (b : Nat) (LL : List (List Ent)) : Prop where
  c : ∀ i (h : i < LL.length), ∃ bi ci, W.cell? ⟨b, i, none⟩ = some (.slice (some ⟨bi, 0, none⟩) LL[i].length ci) ∧ Ens W bi 0 LL[i]
  g : ∀ i (h : i < LL.length), Good (kvs LL[i]) ∧ 0 < LL[i].length
theorem LsM.below {W W' : World} {b : Nat} {LL : List (List Ent)} (h : LsM W b LL) (hb : Below W.heap.size W W') : LsM W' b LL :=
  ⟨fun i hi => by
    obtain ⟨bi, ci, h1, h2⟩ := h.c i hi
    exact ⟨bi, ci, (hb.cell (p := ⟨b, i, none⟩) (World.block_lt_of_cell? _ _ h1)).trans h1, h2.below hb⟩, h.g⟩
theorem take_map_succ (LL : List (List Ent)) (k : Nat) (h : k < LL.length) : (LL.map kvs).take (k + 1) = (LL.map kvs).take k ++ [kvs LL[k]] := by
  rw [List.take_add_one]
  simp [List.getElem?_map, List.getElem?_eq_getElem h]
/-- What Blocks tells. -/
def BkPost (w : World) (L : List (List KV)) (e : Ending) (w' : World) : Prop :=
  ∃ vb vr C, e = .returned (.tuple #[vb, vr]) ∧ OwnB w' w.heap.size 5 vb (byts L) ∧ RwO w' w.heap.size vr C L ∧ Below w.heap.size w w'
/-- A round of it. -/
structure BkI (w wr : World) (vb vr : Value) (L : List (List KV)) (k : Nat) : Prop where
  ob : OwnB wr w.heap.size 5 vb (byts (L.take k))
  rw : ∃ C, RwO wr w.heap.size vr C (L.take k) ∧ ∀ i (h : i < C.length) x, C[i].ka = some x → 0 < C[i].ks.length → x.block < w.heap.size
  b : Below w.heap.size w wr
  d : ∀ i, vb.ownBlock = some i → vr.ownBlock ≠ some i

set_option maxRecDepth 100000 in
set_option maxHeartbeats 3200000 in
theorem rblocks_any (a : Option Addr) (b n c : Nat) (LL : List (List Ent)) (w : World) (hn : LL.length = n) (hm : n ≤ 8388608) (ha : 0 < n → a = some ⟨b, 0, none⟩) (h : LsM w b LL) (hz : ∀ k, k ≤ n → (byts ((LL.map kvs).take k)).length ≤ 1099511627784) :
    Calls Tryz.prog 56 #[.slice a n c] w (BkPost w (LL.map kvs)) := by
  obtain ⟨i0, hi0, hz0, hz1, hz2⟩ := info_parts infoByte'
  have HH := hide (fun (W : World) (hb : Below w.heap.size w W) => h.below hb)
  have HG := hide h.g
  have HZ := hide hz
  clear h hz
  go_enter Tryz.func56, Tryz.ntmps56
  go_wp2_with fail
  go_loopw [4, 5, 6] (fun o r q wr => ∃ k : Nat, k ≤ n ∧ q = .int .i64 (k : Int) ∧ Hid (BkI w wr o r (LL.map kvs) k)) (fun _ _ q _ => n - (intOf q).toNat)
  case atStart => exact ⟨0, by omega, rfl, ⟨OwnB.nil _ _ _, ⟨[], ⟨.inl ⟨rfl, rfl⟩, rfl, fun i hi => absurd hi (Nat.not_lt_zero _)⟩, fun i hi => absurd hi (Nat.not_lt_zero _)⟩, Below.refl _ _, fun i hi => by cases hi⟩⟩
  case round =>
    obtain ⟨k, hk, rfl, HI⟩ := hrel
    obtain ⟨nb, hnb⟩ : ∃ x, (byts ((LL.map kvs).take k)).length = x := ⟨_, rfl⟩
    obtain ⟨ab, cb, hvb, _, _, _⟩ := HI.out.ob.sliceN hnb
    subst hvb
    obtain ⟨C, hC, hCx⟩ := HI.out.rw
    obtain ⟨ar, cr, hvr⟩ := hC.shape
    have hkl : ((LL.map kvs).take k).length = k := by rw [List.length_take, List.length_map]; omega
    rw [hkl] at hvr
    subst hvr
    have hsw := HI.out.b.size
    by_cases hlt : k < n
    · obtain rfl := ha (by omega)
      have hkL : k < LL.length := by omega
      obtain ⟨bi, ci, e1w, hensw⟩ := (HH.out w (Below.refl _ _)).c k hkL
      have hbw : b < w.heap.size := World.block_lt_of_cell? _ _ e1w
      have e1 := (HI.out.b.cell (p := ⟨b, k, none⟩) hbw).trans e1w
      have hens := hensw.below HI.out.b
      obtain ⟨hgood, hpos⟩ := HG.out k hkL
      have hts := take_map_succ LL k hkL
      have hz1 := HZ.out (k + 1) (by omega)
      rw [hts, byts_snoc, List.length_append, hnb] at hz1
      generalize LL[k] = E at *
      obtain ⟨mi, hni⟩ : ∃ x, E.length = x + 1 := ⟨E.length - 1, by omega⟩
      have h64 : mi + 1 ≤ 64 := by have := hgood.n64; rw [kvs_len] at this; omega
      have hbl := blk_le hgood
      have hb8 := blk_b8 hgood
      obtain ⟨nk, hnk⟩ : ∃ x, (blk (kvs E)).length = x := ⟨_, rfl⟩
      obtain ⟨nf, hnf⟩ : ∃ x, (blkF (kvs E)).length = x := ⟨_, rfl⟩
      have hfl := blkF_len hgood
      have i1 : (k : Int) < (n : Int) := by omega
      have HB := hide (rbuild_any (some ⟨bi, 0, none⟩) bi 0 (mi + 1) ci E wr hni (by omega) (fun _ => rfl) hens)
      have hbiw : bi < w.heap.size := hensw.lt (by omega)
      clear e1w
      have e2 : ∃ ka kc, wr.cell? ⟨bi, mi * 2, none⟩ = some (.slice ka (ahd (kvs E)).length kc) ∧ Row wr .u8 ka (ahd (kvs E)) ∧ (ka = none → (ahd (kvs E)).length = 0 ∧ kc = 0) ∧ (ahd (kvs E)).length ≤ kc ∧ ∀ x, ka = some x → 0 < (ahd (kvs E)).length → x.block < w.heap.size := by
        have hi : mi < E.length := by omega
        have q := hens.at0 mi hi
        have ok := hens.ok mi hi
        have ek : ahd (kvs E) = E[mi].ks := by unfold ahd; rw [kvs_len, hni, Nat.add_sub_cancel, kvs_ky E _ hi]
        rw [Nat.zero_add] at q
        rw [ek]
        refine ⟨_, _, q, ok.k, ok.nk, ok.lk, fun x hx h0 => ?_⟩
        obtain ⟨b', o', r1, r2, _⟩ := (hensw.ok mi hi).k.cons h0
        rw [hx] at r1; cases r1; exact r2
      obtain ⟨ka, kc, e2, hrk, hnka, hkc, hkx⟩ := e2
      obtain ⟨nz, hnz⟩ : ∃ x, (ahd (kvs E)).length = x := ⟨_, rfl⟩
      have hk64 := hgood.ahdl
      have hk8 := hgood.ahd8
      rw [hnz] at e2 hnka hkc hk64 hkx
      have HKX := hide hkx
      have HCX := hide hCx
      rw [hni] at e1
      have hbr : b < wr.heap.size := World.block_lt_of_cell? _ _ e1
      have hbi : bi < wr.heap.size := World.block_lt_of_cell? _ _ e2
      have HNK := hide hnk
      have HNF := hide hnf
      have HNB := hide hnb
      have HRK := hide hrk
      have HC := hide hC
      have HGD := hide hgood
      clear hens hrk hC hensw hkx hCx
      go_wp2_with fail
      refine HB.out.mono ?_
      rintro e w1 ⟨a1, c1, m, r, rfl, hE, hr1, hn1, hx1, b1⟩
      obtain rfl := bld_good HGD.out (by omega) hE
      rw [show bldL E 0 = blk (kvs E) from if_pos rfl] at hr1 hn1
      rw [show bldL E 0 = blk (kvs E) from if_pos rfl, HNK.out]
      rw [HNK.out] at hn1
      have R1 := hide hr1
      have B1 := hide b1
      have N1 := hide hn1
      clear hr1 b1 hn1 hx1 hE HB
      go_wp2_with fail
      refine (rframe_any 66 a1 nk c1 (blk (kvs E)) w1 HNK.out (by omega) N1.out R1.out hb8).mono ?_
      rintro e w2 ⟨v2, rfl, o2, b2⟩
      obtain ⟨a2, c2, rfl, n2, _⟩ := o2.sliceN (show (frm 66 (blk (kvs E))).length = nf from HNF.out)
      have B2 : Hid (Below wr.heap.size wr w2) := B1.out.trans (b2.mono B1.out.size)
      have O2 := hide o2
      have N2 := hide n2
      have d1 := (B2.out.cell (p := ⟨b, k, none⟩) hbr).trans e1
      have d2 := (B2.out.cell (p := ⟨bi, mi * 2, none⟩) hbi).trans e2
      have hz2' := b2.size
      clear o2 b2 n2 e1 e2 R1
      obtain ⟨cs, hcs⟩ : ∃ cs : Spn, cs = ⟨ka, kc, ahd (kvs E), 8 + (nb : Int), (nf : Int), ((mi : Int) + 1)⟩ := ⟨_, rfl⟩
      have hkv : cs.kv = .slice ka nz kc := by rw [hcs]; unfold Spn.kv; rw [hnz]
      have HNEW := hide (four_new w2 (.slice ka nz kc) (.int .i64 (8 + (nb : Int))) (.int .i64 (nf : Int)) (.int .i64 ((mi : Int) + 1)) 97)
      have HROW : Hid (∀ j u, [cs.kv, .int .i64 cs.pl, .int .i64 cs.ln, .int .i64 cs.n][j]? = some u → (w2.alloc (.cells #[.slice ka nz kc, .int .i64 (8 + (nb : Int)), .int .i64 (nf : Int), .int .i64 ((mi : Int) + 1)] 97)).drew.cell? ((⟨w2.heap.size, 0, none⟩ : Addr).add j) = some u) := by rw [hkv, hcs]; exact HNEW.out
      have BA : Hid (Below w2.heap.size w2 (w2.alloc (.cells #[.slice ka nz kc, .int .i64 (8 + (nb : Int)), .int .i64 (nf : Int), .int .i64 ((mi : Int) + 1)] 97)).drew) := ((Below.refl _ _).alloc (Nat.le_refl _) _).drew
      have OSA := hide ((HC.out.o.below B2.out).below BA.out)
      have hZA : w.heap.size ≤ (w2.alloc (.cells #[.slice ka nz kc, .int .i64 (8 + (nb : Int)), .int .i64 (nf : Int), .int .i64 ((mi : Int) + 1)] 97)).drew.heap.size := by have := BA.out.size; have := B2.out.size; omega
      have hCL : C.length = k := HC.out.len.trans hkl
      have HVR : Hid (∀ i, (Value.slice ar k cr).ownBlock = some i → w.heap.size ≤ i ∧ i < wr.heap.size) := HC.out.o.lt
      generalize hwA : (w2.alloc (.cells #[.slice ka nz kc, .int .i64 (8 + (nb : Int)), .int .i64 (nf : Int), .int .i64 ((mi : Int) + 1)] 97)).drew = wA at *
      replace hwA := hide hwA
      clear HNEW
      have i2 : (8 : Int) + (nb : Int) ≤ 9223372036854775807 := by omega
      have j1 : ((mi + 1 : Nat) : Int) - 1 = (mi : Int) := by omega
      have j3 : (mi : Int) < ((mi + 1 : Nat) : Int) := by omega
      have j4 : (0 : Int) ≤ (mi : Int) := by omega
      have j5 : IntKind.i64.wrap (((mi + 1 : Nat) : Int) - 1) = (mi : Int) := by rw [IntKind.wrap_i64]; omega
      have j6 : IntKind.i64.wrap ((mi : Int) + 1 - 1) = (mi : Int) := by rw [IntKind.wrap_i64]; omega
      have j7 : IntKind.i64.wrap (8 + (nb : Int)) = 8 + (nb : Int) := by rw [IntKind.wrap_i64]; omega
      have j8 : (mi : Int) < (mi : Int) + 1 := by omega
      have j9 : IntKind.i64.wrap (mi : Int) = (mi : Int) := by rw [IntKind.wrap_i64]; omega
      go_wp2_with fail
      go_region_held3 (fun Y => Y.cell? ⟨b, k, none⟩ = some (.slice (some ⟨bi, 0, none⟩) (mi + 1) ci) ∧ Y.cell? ⟨bi, mi * 2, none⟩ = some (.slice ka nz kc)) (first | exact ⟨f1, f2⟩ | go_keep) (first
        | (rw [hwA.out]; refine step_appS rfl (.tmp 28) (.tmp 53) rfl w.heap.size (.slice ar k cr) C cs (by simp [Act.eval]) OSA.out ⟨w2.heap.size, 0, none⟩ 1 (by simp [Act.eval]) HROW.out (by omega) hZA ?_; intro v3 w3 o3 g3 k3; obtain ⟨a3, b3, c3, hv3, h31, h32⟩ := o3.slice; clear h31 h32; rw [List.length_append, List.length_singleton, hCL] at hv3; subst hv3; have UA : Hid (Upd (fun i => (Value.slice ar k cr).ownBlock = some i) w2 w3) := (Upd.of_below BA.out _).trans (Upd.of_grown g3 (fun k hk _ => hk)); have f1 := UA.out.cell d1 (fun q => by have := (HVR.out _ q).1; have q' : w.heap.size ≤ b := this; omega); have f2 := UA.out.cell d2 (fun q => by have := (HVR.out _ q).1; have q' : w.heap.size ≤ bi := this; omega); have O3 := hide o3; have K3 := hide k3; clear o3 g3 k3)
        | fail)
      all_goals
        have OB3 : Hid (SuR w3 w.heap.size (.slice ab nb cb) (byts ((LL.map kvs).take k))) := .inl (HI.out.ob.blk fun q hq => (UA.out.block q (Nat.lt_of_lt_of_le (HI.out.ob.owns.lt q hq).2 B2.out.size) (HI.out.d q hq)).trans (B2.out.block q (HI.out.ob.owns.lt q hq).2))
        have R3 := hide (O2.out.blk fun q hq => UA.out.block q (O2.out.owns.lt q hq).2 (fun e => by have := (HVR.out q e).2; have := (O2.out.owns.lt q hq).1; have := B1.out.size; omega)).row
        have BZ3 : w.heap.size ≤ w3.heap.size := by have := UA.out.size; have := B2.out.size; omega
        clear f1 f2 d1 d2
        go_wp2_with (first
          | (at_builtin; refine append_su rfl (.tmp 55) (.tmp 56) rfl w.heap.size (.slice ab nb cb) (byts ((LL.map kvs).take k)) rfl OB3.out a2 nf c2 (blkF (kvs E)) rfl HNF.out (by have := HNF.out; have := frm_len 66 (blk (kvs E)) (by omega); unfold blkF at *; omega) N2.out R3.out (by rw [HNB.out]; omega) BZ3 ?_; intro v4 w4 o4 g4 k4; have O4 := hide o4; have G4 := hide g4; have K4 := hide k4; clear o4 g4 k4)
          | fail)
        have U34 := Upd.of_grown (S := fun i => (Value.slice ab nb cb).ownBlock = some i) G4.out (fun k hk _ => hk)
        have hvb := HI.out.ob.owns.lt
        have hz3 := (UA.out.size)
        have hz2 := B2.out.size
        go_roundw
        case rel =>
          refine ⟨k + 1, by omega, by go_num, ⟨?_, ⟨C ++ [cs], ⟨?_, ?_, fun i hi => ?_⟩, fun i hi x hx h0 => ?_⟩, ?_, fun i hi q => ?_⟩⟩
          · rw [hts, byts_snoc]; exact O4.out
          · exact O3.out.upd U34 (fun q hq e => (K3.out q hq).elim (fun f => HI.out.d q e f) (fun f => by have := (hvb q e).2; have := BA.out.size; omega))
          · rw [rws_snoc, HC.out.e, hts, rowsOf_snoc, hcs]
            simp only [Spn.row]
            rw [hnf, show ((behP ((LL.map kvs).take k) : Nat) : Int) = 8 + (nb : Int) by unfold behP; rw [hnb]; simp, kvs_len, hni]
            simp
          · have OKC : ∀ e : Spn, e.Ok wr → (∀ x, e.ka = some x → 0 < e.ks.length → x.block < w.heap.size) → e.Ok w4 := fun e he hx => by
              have h1 := (he.below B2.out).upd UA.out (fun x hx' h0 q => by have := hx x hx' h0; have := (HVR.out _ q).1; omega)
              exact h1.upd U34 (fun x hx' h0 q => by have := hx x hx' h0; have := (hvb _ q).1; omega)
            by_cases q : i < C.length
            · rw [List.getElem_append_left q]
              exact OKC _ (HC.out.ok i q) (HCX.out i q)
            · have e : i = C.length := by rw [List.length_append, List.length_singleton] at hi; omega
              subst e
              rw [List.getElem_append_right (Nat.le_refl _)]
              simp only [Nat.sub_self, List.getElem_cons_zero]
              refine OKC _ ?_ ?_
              · rw [hcs]
                exact ⟨HRK.out, fun e => by rw [hnz]; exact hnka e, by rw [hnz]; exact hkc, hk8, by rw [hnz]; omega, (show I64 (8 + (nb : Int)) by unfold I64; omega), (show I64 (nf : Int) by unfold I64; omega), (show I64 ((mi : Int) + 1) by unfold I64; omega)⟩
              · rw [hcs]
                exact fun x hx h0 => HKX.out x hx (by rw [← hnz]; exact h0)
          · by_cases q : i < C.length
            · rw [List.getElem_append_left q] at hx h0
              exact HCX.out i q x hx h0
            · have e : i = C.length := by rw [List.length_append, List.length_singleton] at hi; omega
              subst e
              rw [List.getElem_append_right (Nat.le_refl _)] at hx h0
              simp only [Nat.sub_self, List.getElem_cons_zero] at hx h0
              rw [hcs] at hx h0
              exact HKX.out x hx (by rw [← hnz]; exact h0)
          · exact ((HI.out.b.trans (B2.out.mono hsw)).trans (UA.out.below (by omega) (fun q hq e => by have := (HVR.out q e).1; omega))).trans (U34.below BZ3 (fun q hq e => by have := (hvb q e).1; omega))
          · rcases K4.out i hi with f | f
            · rcases K3.out i q with f2 | f2
              · exact HI.out.d i f f2
              · have := (hvb i f).2; have := BA.out.size; omega
            · rcases K3.out i q with f2 | f2
              · have := (HVR.out i f2).2; omega
              · have := (O3.out.lt i q).2; omega
        case measure => simp [intOf]; omega
    · obtain rfl : k = n := by omega
      have i1 : ¬ (k : Int) < (k : Int) := by omega
      have HF : Hid (BkPost w (LL.map kvs) (.returned (.tuple #[.slice ab nb cb, .slice ar k cr])) wr) := by
        have hob := HI.out.ob
        have e : (LL.map kvs).take k = LL.map kvs := List.take_of_length_le (by rw [List.length_map]; omega)
        rw [e] at hob hC
        exact ⟨_, _, C, rfl, hob, hC, HI.out.b⟩
      clear hC hCx
      go_wp2_with fail
      go_ret2
      exact HF.out

end Go.Proofs.YtepjblmjjegpgaaGreat

namespace Go.Proofs.YtepjblmjjegpgaaGreat
open Go.RowKit
set_option maxRecDepth 100000

set_option maxHeartbeats 400000 in
theorem rhead8_any (w : World) :
    Calls Tryz.prog 57 #[] w fun e w' => ∃ v, e = .returned v ∧ OwnB w' w.heap.size 5 v hd8 ∧ Below w.heap.size w w' := by
  have HO := hide (full_own w hd8 8 rfl (by decide) #[.int .u8 99, .int .u8 111, .int .u8 112, .int .u8 112, .int .u8 105, .int .u8 99, .int .u8 101, .int .u8 1] rfl)
  go_enter Tryz.func57, Tryz.ntmps57
  go_wp2_with fail
  go_ret
  exact ⟨_, rfl, HO.out, (Below.refl _ _).alloc (Nat.le_refl _) _⟩

set_option maxRecDepth 100000 in
set_option maxHeartbeats 3200000 in
theorem rend_any {W : World} {B : Nat} {v : Value} {C : List Spn} {s : St} (h : RwO W B v C s.L) (hs : SG s) :
    Calls Tryz.prog 58 #[v] W fun e w' => ∃ u, e = .returned u ∧ OwnB w' W.heap.size 5 u (endB s.L) ∧ Below W.heap.size W w' := by
  obtain ⟨i0, hi, hz0, hz1, hz2⟩ := info_parts infoByte'
  have hm := hs.many
  have hbe := hs.beh
  have h8 := hs.foot8
  have hfl := hs.footl
  have hel := end_len hs
  obtain ⟨nF, hnF⟩ : ∃ n, (footB (rowsOf s.L)).length = n := ⟨_, rfl⟩
  obtain ⟨nE, hnE⟩ : ∃ n, (frm 70 (footB (rowsOf s.L))).length = n := ⟨_, rfl⟩
  have HNF := hide hnF
  have HNE := hide hnE
  have CK := hide hs.chk
  have HFB : Hid (∀ Y, Below W.heap.size W Y → Calls Tryz.prog 71 #[v] Y fun e w' => ∃ a c, e = .returned (.tuple #[.slice a nF c, .int .i64 0, .int .i64 0]) ∧ Row w' .u8 a (footB (rowsOf s.L)) ∧ (a = none → nF = 0 ∧ c = 0) ∧ Below W.heap.size W w') := fun Y hb => by
    have hY := h.below hb
    obtain ⟨a, b, cap, rfl, ha, hc⟩ := hY.o.slice
    have hl := hY.len
    have q := rfbytes_any a b 0 C.length cap C Y rfl (by omega) ha ⟨fun i hi => by rw [Nat.zero_add]; exact hc i hi, hY.ok⟩
    rw [hY.e] at q
    refine q.mono fun e w' r => ?_
    obtain ⟨u, he, ho, hb2⟩ := r.zero CK.out
    obtain ⟨a', c', rfl, hn', _⟩ := ho.sliceN HNF.out
    exact ⟨a', c', he, ho.row, hn', hb.trans (hb2.mono hb.size)⟩
  by_cases h0 : s.L.length = 0
  · have hL := List.eq_nil_of_length_eq_zero h0
    have hbp : behP s.L = 8 := by rw [hL]; rfl
    obtain ⟨a0, cap, hv⟩ := h.shape
    rw [h0] at hv
    subst hv
    have BLW : Below W.heap.size W W := Below.refl _ _
    have HBE : Hid (behP s.L = 8) := hbp
    have hP : (8 : Nat) ≤ 4611686018427387904 := by omega
    clear h hL h0 hs hnF hnE hbp
    go_enter Tryz.func58, Tryz.ntmps58
    go_wp2_with fail
    refine (HFB.out _ BLW).mono ?_
    rintro e w1 ⟨a1, c1, rfl, r1, n1, b1⟩
    have B1 := hide b1
    have R1 := hide r1
    have N1 := hide n1
    clear b1 r1 n1
    go_wp2_with fail
    refine (rframe_any 70 a1 nF c1 (footB (rowsOf s.L)) w1 HNF.out (by have := HNF.out; omega) N1.out R1.out h8).mono ?_
    rintro e w2 ⟨v2, rfl, o2, b2⟩
    obtain ⟨a2, c2, rfl, n2, _⟩ := o2.sliceN HNE.out
    have B2 : Hid (Below W.heap.size W w2) := B1.out.trans (b2.mono B1.out.size)
    have O2 := hide (o2.mono (B1.out.size))
    clear o2 b2 n2
    go_wp2_with fail
    refine (rtail_any 8 w2 hP).mono ?_
    rintro e w3 ⟨a3, c3, rfl, n3, r3, b3⟩
    have B3 : Hid (Below W.heap.size W w3) := B2.out.trans (b3.mono B2.out.size)
    have O3 := hide (O2.out.below b3)
    have R3 := hide r3
    have N3 : Hid (a3 = none → 12 = 0 ∧ c3 = 0) := fun q => absurd q n3
    have z3 := B3.out.size
    clear b3 r3 n3
    go_wp2_with (first
      | (at_builtin; refine append_b rfl (.tmp 32) (.tmp 34) 23 rfl W.heap.size 5 i0 Tryz.underlying23 hi hz0 hz1 hz2 (.slice a2 nE c2) (frm 70 (footB (rowsOf s.L))) rfl O3.out a3 12 c3 (plc 8 ++ [101, 110, 100, 46]) rfl rfl N3.out R3.out (by omega) z3 ?_; intro v4 w4 o4 g4; have O4 := hide o4; have B4 : Hid (Below W.heap.size W w4) := B3.out.grown g4 z3 (fun k h => (O3.out.owns.lt k h).1); clear o4 g4)
      | fail)
    go_ret
    exact ⟨v4, rfl, by unfold endB; rw [HBE.out]; exact O4.out, B4.out⟩
  · obtain ⟨M, l, hL⟩ := list_end s.L (by omega)
    have h' := h
    rw [hL] at h'
    obtain ⟨b, cap, sp, hv, hsp, ok, hk, hp, hq⟩ := h'.last
    subst hv
    have c1 := hsp.c1
    have c2 := hsp.c2
    have hbp : (behP s.L : Int) = sp.pl + sp.ln := by rw [hL, behP_snoc, hp, hq]; simp
    obtain ⟨P, hPP⟩ : ∃ P, behP s.L = P := ⟨_, rfl⟩
    have HBE : Hid (behP s.L = P) := hPP
    have hP : P ≤ 4611686018427387904 := by omega
    have e1 : IntKind.i64.wrap (((M.length + 1 : Nat) : Int) - 1) = (M.length : Int) := by rw [hL, List.length_append, List.length_singleton] at hm; rw [IntKind.wrap_i64]; omega
    have e2 : IntKind.i64.wrap ((M.length : Int) + 1 - 1) = (M.length : Int) := by rw [hL, List.length_append, List.length_singleton] at hm; rw [IntKind.wrap_i64]; omega
    have e3 : IntKind.i64.wrap (M.length : Int) = (M.length : Int) := by rw [hL, List.length_append, List.length_singleton] at hm; rw [IntKind.wrap_i64]; omega
    have e4 : IntKind.i64.wrap (sp.pl + sp.ln) = (P : Int) := by rw [IntKind.wrap_i64, ← hbp, hPP]; omega
    have e5 : (M.length : Int) < (M.length : Int) + 1 := by omega
    have e6 : (M.length : Int) < ((M.length + 1 : Nat) : Int) := by omega
    have e7 : (0 : Int) ≤ (M.length : Int) := by omega
    have BLW : Below W.heap.size W W.drew := (Below.refl _ _).drew
    have hML : M.length ≤ 8388608 := by rw [hL, List.length_append] at hm; omega
    clear h h' hsp ok hk hp hq hbp hs hnF hnE h0 hPP hL
    go_enter Tryz.func58, Tryz.ntmps58
    go_wp2_with fail
    go_region_held3 (fun Y => Y.cell? ⟨b, M.length * 4 + 1, none⟩ = some (.int .i64 sp.pl) ∧ Y.cell? ⟨b, M.length * 4 + 2, none⟩ = some (.int .i64 sp.ln)) (go_keep) (fail)
    go_wp2_with fail
    refine (HFB.out _ BLW).mono ?_
    rintro e w1 ⟨a1, c1, rfl, r1, n1, b1⟩
    have B1 := hide b1
    have R1 := hide r1
    have N1 := hide n1
    clear b1 r1 n1
    go_wp2_with fail
    refine (rframe_any 70 a1 nF c1 (footB (rowsOf s.L)) w1 HNF.out (by have := HNF.out; omega) N1.out R1.out h8).mono ?_
    rintro e w2 ⟨v2, rfl, o2, b2⟩
    obtain ⟨a2, c2, rfl, n2, _⟩ := o2.sliceN HNE.out
    have B2 : Hid (Below W.heap.size W w2) := B1.out.trans (b2.mono B1.out.size)
    have O2 := hide (o2.mono (B1.out.size))
    clear o2 b2 n2
    go_wp2_with fail
    refine (rtail_any P w2 hP).mono ?_
    rintro e w3 ⟨a3, c3, rfl, n3, r3, b3⟩
    have B3 : Hid (Below W.heap.size W w3) := B2.out.trans (b3.mono B2.out.size)
    have O3 := hide (O2.out.below b3)
    have R3 := hide r3
    have N3 : Hid (a3 = none → 12 = 0 ∧ c3 = 0) := fun q => absurd q n3
    have z3 := B3.out.size
    clear b3 r3 n3
    go_wp2_with (first
      | (at_builtin; refine append_b rfl (.tmp 32) (.tmp 34) 23 rfl W.heap.size 5 i0 Tryz.underlying23 hi hz0 hz1 hz2 (.slice a2 nE c2) (frm 70 (footB (rowsOf s.L))) rfl O3.out a3 12 c3 (plc P ++ [101, 110, 100, 46]) rfl rfl N3.out R3.out (by omega) z3 ?_; intro v4 w4 o4 g4; have O4 := hide o4; have B4 : Hid (Below W.heap.size W w4) := B3.out.grown g4 z3 (fun k h => (O3.out.owns.lt k h).1); clear o4 g4)
      | fail)
    go_ret
    exact ⟨v4, rfl, by unfold endB; rw [HBE.out]; exact O4.out, B4.out⟩

end Go.Proofs.YtepjblmjjegpgaaGreat

namespace Go.Proofs.YtepjblmjjegpgaaGreat
open Go.RowKit
set_option maxRecDepth 100000

/-- An entry whose texts are older than B. -/
def EsB (B : Nat) (e : Ent) : Prop := (∀ x, e.ka = some x → 0 < e.ks.length → x.block < B) ∧ ∀ x, e.va = some x → 0 < e.vs.length → x.block < B
theorem Ent.Ok.old {S : Nat → Prop} {W W' : World} {B : Nat} {e : Ent} (h : e.Ok W) (hx : EsB B e) (hu : Upd S W W') (hs : ∀ i, S i → B ≤ i) : e.Ok W' :=
  h.upd hu (fun x h1 h2 q => by have := hx.1 x h1 h2; have := hs _ q; omega) (fun x h1 h2 q => by have := hx.2 x h1 h2; have := hs _ q; omega)
def lvals (LL : List (List Ent)) (ps : List (Nat × Nat)) : List Value := (LL.zip ps).map fun x => .slice (some ⟨x.2.1, 0, none⟩) x.1.length x.2.2
theorem lvals_snoc (LL : List (List Ent)) (ps : List (Nat × Nat)) (h : ps.length = LL.length) (E : List Ent) (p : Nat × Nat) : lvals (LL ++ [E]) (ps ++ [p]) = lvals LL ps ++ [.slice (some ⟨p.1, 0, none⟩) E.length p.2] := by
  unfold lvals
  rw [List.zip_append h.symm]
  simp
theorem lvals_at (LL : List (List Ent)) (ps : List (Nat × Nat)) (i : Nat) (h : i < LL.length) (h' : i < ps.length) : (lvals LL ps)[i]? = some (.slice (some ⟨ps[i].1, 0, none⟩) LL[i].length ps[i].2) := by
  unfold lvals
  simp [List.getElem?_eq_getElem h, List.getElem?_eq_getElem h', List.zip, List.getElem?_zipWith]
theorem owns2_upd {S : Nat → Prop} {w w' : World} {base : Nat} {e : TypeId} {v : Value} {n k : Nat} {xs : List Value} (h : w.ownsRow base e k v n xs) (hu : Upd S w w') (hs : ∀ q, v.ownBlock = some q → ¬ S q) : w'.ownsRow base e k v n xs := by
  refine ⟨h.1, ?_⟩
  rcases h.2 with h1 | ⟨g, cap, cur, rfl, h2, h3, h4⟩
  · exact .inl h1
  · exact .inr ⟨g, cap, cur, rfl, h2, hu.heap h3 (hs g rfl), h4⟩
/-- The entries of a list of one's own. -/
theorem ens_own {W : World} {B g cap : Nat} {C : List Ent} (h : W.ownsRow B 38 2 (.slice (some ⟨g, 0, none⟩) C.length cap) C.length (cellsOf C)) (ok : ∀ e, e ∈ C → e.Ok W) : Ens W g 0 C := by
  have hc : ∀ j u, (cellsOf C)[j]? = some u → W.cell? ⟨g, j, none⟩ = some u := fun j u q => by
    have r := h.cells (g := g) rfl j u q
    rw [Addr.add_lit, Nat.zero_add] at r
    exact r
  refine ⟨fun i hi => ?_, fun i hi => ?_, fun i hi => ok _ (List.getElem_mem hi)⟩
  · rw [Nat.zero_add]; exact hc _ _ (cellsOf_get C i hi).1
  · rw [Nat.zero_add]; exact hc _ _ (cellsOf_get C i hi).2

def RtM (g : Nat) (vL vN : Value) (ps : List (Nat × Nat)) (i : Nat) : Prop := i = g ∨ vL.ownBlock = some i ∨ vN.ownBlock = some i ∨ ∃ p, p ∈ ps ∧ p.1 = i
/-- The document's Writer: its blocks, the one that is being made, the last key. -/
structure RtR (W : World) (B g N : Nat) (s : St) (sh : Bool) (told : Nat) (vL vN : Value) (aL : Option Addr) (cL : Nat) (LL : List (List Ent)) (ps : List (Nat × Nat)) (C : List Ent) : Prop where
  blk : W.heap[g]? = some (.cells #[.int .i64 (N : Int), vL, vN, .slice aL (aheadK s).length cL, .bool sh, .int .i64 (told : Int)] 43 (0, 0))
  oL : W.ownsRow B 27 1 vL LL.length (lvals LL ps)
  pl : ps.length = LL.length
  eL : LL.map kvs = s.L
  lE : ∀ i (h : i < LL.length) (h' : i < ps.length), B ≤ ps[i].1 ∧ Ens W ps[i].1 0 LL[i]
  lx : ∀ E, E ∈ LL → ∀ e, e ∈ E → EsB B e
  oN : W.ownsRow B 38 2 vN C.length (cellsOf C)
  eN : kvs C = s.now
  kN : ∀ e, e ∈ C → e.Ok W ∧ EsB B e
  la : Row W .u8 aL (aheadK s)
  ln : aL = none → (aheadK s).length = 0 ∧ cL = 0
  lo : ∀ x, aL = some x → 0 < (aheadK s).length → x.block < B
  lc : (aheadK s).length ≤ cL
  dg : vL.ownBlock ≠ some g ∧ vN.ownBlock ≠ some g ∧ ∀ p, p ∈ ps → p.1 ≠ g
  dn : ∀ i, vL.ownBlock = some i → vN.ownBlock ≠ some i
  dp : ∀ p, p ∈ ps → vL.ownBlock ≠ some p.1 ∧ vN.ownBlock ≠ some p.1
  gB : B ≤ g
  sg : SG s
  n1 : 1 ≤ N ∧ N ≤ 64
  lt : s.now.length ≤ N
theorem RtR.cells {W : World} {B g N : Nat} {s : St} {sh : Bool} {told : Nat} {vL vN : Value} {aL : Option Addr} {cL : Nat} {LL : List (List Ent)} {ps : List (Nat × Nat)} {C : List Ent} (h : RtR W B g N s sh told vL vN aL cL LL ps C) :
    W.cell? ⟨g, 0, none⟩ = some (.int .i64 (N : Int)) ∧ W.cell? ⟨g, 1, none⟩ = some vL ∧ W.cell? ⟨g, 2, none⟩ = some vN ∧ W.cell? ⟨g, 3, none⟩ = some (.slice aL (aheadK s).length cL) ∧ W.cell? ⟨g, 4, none⟩ = some (.bool sh) ∧ W.cell? ⟨g, 5, none⟩ = some (.int .i64 (told : Int)) ∧ g < W.heap.size := by
  have hb := h.blk
  refine ⟨?_, ?_, ?_, ?_, ?_, ?_, lt_of_block hb⟩ <;> (rw [cell_of_row _ _ _ _ _ _ hb]; rfl)
theorem RtR.nlen {W : World} {B g N : Nat} {s : St} {sh : Bool} {told : Nat} {vL vN : Value} {aL : Option Addr} {cL : Nat} {LL : List (List Ent)} {ps : List (Nat × Nat)} {C : List Ent} (h : RtR W B g N s sh told vL vN aL cL LL ps C) : C.length = s.now.length ∧ LL.length = s.L.length := by
  rw [← h.eN, ← h.eL, kvs_len, List.length_map]
  exact ⟨rfl, rfl⟩
theorem RtR.pb {W : World} {B g N : Nat} {s : St} {sh : Bool} {told : Nat} {vL vN : Value} {aL : Option Addr} {cL : Nat} {LL : List (List Ent)} {ps : List (Nat × Nat)} {C : List Ent} (h : RtR W B g N s sh told vL vN aL cL LL ps C) : ∀ p, p ∈ ps → B ≤ p.1 ∧ p.1 < W.heap.size := by
  intro p hp
  obtain ⟨i, hi, rfl⟩ := List.getElem_of_mem hp
  have hi' : i < LL.length := by rw [← h.pl]; exact hi
  have q := h.lE i hi' hi
  have hE : LL[i] ∈ LL := List.getElem_mem hi'
  have hpos : 0 < LL[i].length := by
    have := (h.sg.each (kvs LL[i]) (by rw [← h.eL]; exact List.mem_map_of_mem hE)).2
    rwa [kvs_len] at this
  exact ⟨q.1, q.2.lt hpos⟩
theorem RtR.mlt {W : World} {B g N : Nat} {s : St} {sh : Bool} {told : Nat} {vL vN : Value} {aL : Option Addr} {cL : Nat} {LL : List (List Ent)} {ps : List (Nat × Nat)} {C : List Ent} (h : RtR W B g N s sh told vL vN aL cL LL ps C) : ∀ i, RtM g vL vN ps i → B ≤ i ∧ i < W.heap.size := by
  rintro i (rfl | q | q | ⟨p, hp, rfl⟩)
  · exact ⟨h.gB, lt_of_block h.blk⟩
  · exact h.oL.lt i q
  · exact h.oN.lt i q
  · exact h.pb p hp
theorem RtR.upd {S : Nat → Prop} {W W' : World} {B g N : Nat} {s : St} {sh : Bool} {told : Nat} {vL vN : Value} {aL : Option Addr} {cL : Nat} {LL : List (List Ent)} {ps : List (Nat × Nat)} {C : List Ent} (h : RtR W B g N s sh told vL vN aL cL LL ps C) (hu : Upd S W W') (h1 : ∀ i, RtM g vL vN ps i → ¬ S i) (h2 : ∀ i, S i → B ≤ i) : RtR W' B g N s sh told vL vN aL cL LL ps C :=
  ⟨hu.heap h.blk (h1 _ (.inl rfl)), owns2_upd h.oL hu (fun q hq => h1 q (.inr (.inl hq))), h.pl, h.eL, fun i hi hi' => ⟨(h.lE i hi hi').1, by
    have q := (h.lE i hi hi').2
    have ns : ¬ S ps[i].1 := h1 _ (.inr (.inr (.inr ⟨_, List.getElem_mem hi', rfl⟩)))
    exact ⟨fun j hj => hu.cell (p := ⟨ps[i].1, 0 + j * 2, none⟩) (q.at0 j hj) ns, fun j hj => hu.cell (p := ⟨ps[i].1, 0 + j * 2 + 1, none⟩) (q.at1 j hj) ns, fun j hj => (q.ok j hj).old (h.lx _ (List.getElem_mem hi) _ (List.getElem_mem hj)) hu h2⟩⟩, h.lx, owns2_upd h.oN hu (fun q hq => h1 q (.inr (.inr (.inl hq)))), h.eN, fun e he => ⟨(h.kN e he).1.old (h.kN e he).2 hu h2, (h.kN e he).2⟩, h.la.upd hu (fun x hx h0 q => by have := h.lo x hx h0; have := h2 _ q; omega), h.ln, h.lo, h.lc, h.dg, h.dn, h.dp, h.gB, h.sg, h.n1, h.lt⟩
theorem RtR.below {W W' : World} {B g N : Nat} {s : St} {sh : Bool} {told : Nat} {vL vN : Value} {aL : Option Addr} {cL : Nat} {LL : List (List Ent)} {ps : List (Nat × Nat)} {C : List Ent} (h : RtR W B g N s sh told vL vN aL cL LL ps C) (hb : Below W.heap.size W W') : RtR W' B g N s sh told vL vN aL cL LL ps C :=
  h.upd (Upd.of_below hb Noth) (fun _ _ e => e) (fun _ e => e.elim)
/-- One entry more. -/
theorem rt_put {W W1 W2 : World} {B g N : Nat} {s : St} {told : Nat} {vL vN : Value} {aL : Option Addr} {cL : Nat} {LL : List (List Ent)} {ps : List (Nat × Nat)} {C : List Ent} (h : RtR W B g N s false told vL vN aL cL LL ps C) (e : Ent) (ok : e.Ok W) (hx : EsB B e) (sg : SG ⟨s.L, s.now ++ [(e.ks, e.vs)]⟩) (hl : s.now.length + 1 ≤ N)
    (b1 : Below W.heap.size W W1) {g6 c6 : Nat} (o6 : W2.ownsRow B 38 2 (.slice (some ⟨g6, 0, none⟩) (C.length + 1) c6) (C.length + 1) (cellsOf C ++ [e.kv, e.vv])) (gr : W1.grownBy W2 vN.ownBlock) (k6 : vN.ownBlock = some g6 ∨ W.heap.size ≤ g6) :
    RtR ((W2.setCell ⟨g, 2, none⟩ (.slice (some ⟨g6, 0, none⟩) (C.length + 1) c6)).setCell ⟨g, 3, none⟩ e.kv) B g N ⟨s.L, s.now ++ [(e.ks, e.vs)]⟩ false told vL (.slice (some ⟨g6, 0, none⟩) (C.length + 1) c6) e.ka e.kc LL ps (C ++ [e]) ∧
    Upd (RtM g vL vN ps) W ((W2.setCell ⟨g, 2, none⟩ (.slice (some ⟨g6, 0, none⟩) (C.length + 1) c6)).setCell ⟨g, 3, none⟩ e.kv) ∧ ∀ i, RtM g vL (.slice (some ⟨g6, 0, none⟩) (C.length + 1) c6) ps i → RtM g vL vN ps i ∨ W.heap.size ≤ i := by
  have hah : aheadK ⟨s.L, s.now ++ [(e.ks, e.vs)]⟩ = e.ks := by unfold aheadK; rw [if_neg (by simp), ahd_snoc]
  have hg := lt_of_block h.blk
  have U1 : Upd (fun i => vN.ownBlock = some i) W W2 := (Upd.of_below b1 _).trans (Upd.of_grown gr (fun k hk _ => hk))
  have U2 := set_upd W2 g 2 (.slice (some ⟨g6, 0, none⟩) (C.length + 1) c6)
  have U3 := set_upd (W2.setCell ⟨g, 2, none⟩ (.slice (some ⟨g6, 0, none⟩) (C.length + 1) c6)) g 3 e.kv
  have U23 := U2.trans U3
  have U : Upd (fun i => i = g ∨ vN.ownBlock = some i) W ((W2.setCell ⟨g, 2, none⟩ (.slice (some ⟨g6, 0, none⟩) (C.length + 1) c6)).setCell ⟨g, 3, none⟩ e.kv) := (U1.mono (fun _ _ q => .inr q)).trans (U23.mono (fun _ _ q => .inl q))
  have hNl : ∀ i, vN.ownBlock = some i → B ≤ i ∧ i < W.heap.size := h.oN.lt
  have hLl : ∀ i, vL.ownBlock = some i → B ≤ i ∧ i < W.heap.size := h.oL.lt
  have hge : ∀ i, (i = g ∨ vN.ownBlock = some i) → B ≤ i := fun i q => q.elim (fun q => by rw [q]; exact h.gB) (fun q => (hNl i q).1)
  have ob : ∀ k, (Value.slice (some ⟨g6, 0, none⟩) (C.length + 1) c6).ownBlock = some k → k = g6 := fun k q => by
    have : g6 = k := by simpa [Value.ownBlock] using q
    exact this.symm
  have h6g : g6 ≠ g := fun q => k6.elim (fun e => h.dg.2.1 (by rw [e, q])) (fun e => by omega)
  refine ⟨⟨?_, owns2_upd h.oL U (fun q hq r => r.elim (fun r => h.dg.1 (by rw [← r]; exact hq)) (fun r => h.dn q hq r)), h.pl, h.eL, fun i hi hi' => ?_, h.lx, ?_, ?_, fun e' he' => ?_, ?_, ?_, ?_, ?_, ⟨h.dg.1, fun q => h6g (ob g q).symm, h.dg.2.2⟩, fun i hi q => ?_, fun p hp => ⟨(h.dp p hp).1, fun q => ?_⟩, h.gB, sg, h.n1, ?_⟩, U.mono (fun i _ q => q.elim .inl (fun q => .inr (.inr (.inl q)))), ?_⟩
  · rw [hah]
    exact block_setCell (block_setCell (U1.heap h.blk h.dg.2.1) 2 _) 3 _
  · have q := h.lE i hi hi'
    have hp : ps[i] ∈ ps := List.getElem_mem hi'
    have ns : ¬ (ps[i].1 = g ∨ vN.ownBlock = some ps[i].1) := fun r => r.elim (h.dg.2.2 _ hp) (h.dp _ hp).2
    exact ⟨q.1, fun j hj => U.cell (p := ⟨ps[i].1, 0 + j * 2, none⟩) (q.2.at0 j hj) ns, fun j hj => U.cell (p := ⟨ps[i].1, 0 + j * 2 + 1, none⟩) (q.2.at1 j hj) ns, fun j hj => (q.2.ok j hj).old (h.lx _ (List.getElem_mem hi) _ (List.getElem_mem hj)) U hge⟩
  · rw [List.length_append, List.length_singleton, cellsOf_app]
    exact owns2_upd o6 U23 (fun q hq r => h6g (by rw [← ob q hq]; exact r))
  · show kvs (C ++ [e]) = s.now ++ [(e.ks, e.vs)]
    rw [← h.eN]; simp [kvs]
  · rcases List.mem_append.1 he' with q | q
    · exact ⟨(h.kN e' q).1.old (h.kN e' q).2 U hge, (h.kN e' q).2⟩
    · rw [List.mem_singleton.1 q]
      exact ⟨ok.old hx U hge, hx⟩
  · rw [hah]; exact (ok.old hx U hge).k
  · rw [hah]; exact ok.nk
  · rw [hah]; exact hx.1
  · rw [hah]; exact ok.lk
  · rcases k6 with e1 | e1
    · exact h.dn i hi (by rw [ob i q]; exact e1)
    · have := (hLl i hi).2; have := ob i q; omega
  · rcases k6 with e1 | e1
    · exact (h.dp p hp).2 (by rw [ob _ q]; exact e1)
    · have := (h.pb p hp).2; have := ob _ q; omega
  · show (s.now ++ [(e.ks, e.vs)]).length ≤ N
    simp only [List.length_append, List.length_singleton]; omega
  · rintro i (q | q | q | q)
    · exact .inl (.inl q)
    · exact .inl (.inr (.inl q))
    · rw [ob i q]
      exact k6.imp (fun r => .inr (.inr (.inl r))) id
    · exact .inl (.inr (.inr (.inr q)))

end Go.Proofs.YtepjblmjjegpgaaGreat

namespace Go.Proofs.YtepjblmjjegpgaaGreat
open Go.RowKit
set_option maxRecDepth 100000

theorem infoL : (Tryz.prog.info? 27).map (fun i => (i.zero, i.size, i.bytes)) = some (some (.slice none 0 0), 1, 24) := by kernel_rfl
theorem ahead_cut {s : St} (h : 0 < s.now.length) : aheadK ⟨s.L ++ [s.now], []⟩ = aheadK s := by
  unfold aheadK
  show (if ([] : List KV).length = 0 then lastK (s.L ++ [s.now]) else ahd []) = _
  rw [if_pos (show ([] : List KV).length = 0 from rfl), if_neg (by omega), lastK_snoc]
/-- The block is ended. -/
theorem rt_cut {W W1 W2 : World} {B g N : Nat} {s : St} {told : Nat} {vL : Value} {bN cN : Nat} {aL : Option Addr} {cL : Nat} {LL : List (List Ent)} {ps : List (Nat × Nat)} {C : List Ent} (h : RtR W B g N s false told vL (.slice (some ⟨bN, 0, none⟩) C.length cN) aL cL LL ps C) (h0 : 0 < s.now.length)
    (b1 : Below W.heap.size W W1) {g6 c6 : Nat} (o6 : W2.ownsRow B 27 1 (.slice (some ⟨g6, 0, none⟩) (LL.length + 1) c6) (LL.length + 1) (lvals LL ps ++ [.slice (some ⟨bN, 0, none⟩) C.length cN])) (gr : W1.grownBy W2 vL.ownBlock) (k6 : vL.ownBlock = some g6 ∨ W.heap.size ≤ g6) :
    RtR ((W2.setCell ⟨g, 1, none⟩ (.slice (some ⟨g6, 0, none⟩) (LL.length + 1) c6)).setCell ⟨g, 2, none⟩ (.slice none 0 0)) B g N ⟨s.L ++ [s.now], []⟩ false told (.slice (some ⟨g6, 0, none⟩) (LL.length + 1) c6) (.slice none 0 0) aL cL (LL ++ [C]) (ps ++ [(bN, cN)]) [] ∧
    Upd (RtM g vL (.slice (some ⟨bN, 0, none⟩) C.length cN) ps) W ((W2.setCell ⟨g, 1, none⟩ (.slice (some ⟨g6, 0, none⟩) (LL.length + 1) c6)).setCell ⟨g, 2, none⟩ (.slice none 0 0)) ∧ ∀ i, RtM g (.slice (some ⟨g6, 0, none⟩) (LL.length + 1) c6) (.slice none 0 0) (ps ++ [(bN, cN)]) i → RtM g vL (.slice (some ⟨bN, 0, none⟩) C.length cN) ps i ∨ W.heap.size ≤ i := by
  have hg := lt_of_block h.blk
  have U1 : Upd (fun i => vL.ownBlock = some i) W W2 := (Upd.of_below b1 _).trans (Upd.of_grown gr (fun k hk _ => hk))
  have U23 := (set_upd W2 g 1 (.slice (some ⟨g6, 0, none⟩) (LL.length + 1) c6)).trans (set_upd (W2.setCell ⟨g, 1, none⟩ (.slice (some ⟨g6, 0, none⟩) (LL.length + 1) c6)) g 2 (.slice none 0 0))
  have U : Upd (fun i => i = g ∨ vL.ownBlock = some i) W ((W2.setCell ⟨g, 1, none⟩ (.slice (some ⟨g6, 0, none⟩) (LL.length + 1) c6)).setCell ⟨g, 2, none⟩ (.slice none 0 0)) := (U1.mono (fun _ _ q => .inr q)).trans (U23.mono (fun _ _ q => .inl q))
  have hLl : ∀ i, vL.ownBlock = some i → B ≤ i ∧ i < W.heap.size := h.oL.lt
  have hN := h.oN.lt bN rfl
  have hge : ∀ i, (i = g ∨ vL.ownBlock = some i) → B ≤ i := fun i q => q.elim (fun q => by rw [q]; exact h.gB) (fun q => (hLl i q).1)
  have ob : ∀ k, (Value.slice (some ⟨g6, 0, none⟩) (LL.length + 1) c6).ownBlock = some k → k = g6 := fun k q => by
    have : g6 = k := by simpa [Value.ownBlock] using q
    exact this.symm
  have h6g : g6 ≠ g := fun q => k6.elim (fun e => h.dg.1 (by rw [e, q])) (fun e => by omega)
  have hNg : bN ≠ g := fun q => h.dg.2.1 (by rw [← q]; rfl)
  have hLN : vL.ownBlock ≠ some bN := fun q => h.dn bN q rfl
  have h6N : g6 ≠ bN := fun q => k6.elim (fun e => hLN (by rw [e, q])) (fun e => by omega)
  have hnl := h.nlen
  refine ⟨⟨?_, ?_, ?_, ?_, fun i hi hi' => ?_, fun E hE e he => ?_, World.ownsRow_nil _ _ _ _, rfl, (fun e he => by cases he), ?_, ?_, ?_, ?_, ⟨fun q => h6g (ob g q).symm, (fun q => by cases q), fun p hp => ?_⟩, (fun i _ q => by cases q), fun p hp => ⟨fun q => ?_, (fun q => by cases q)⟩, h.gB, SG.ended (L := s.L) (l := s.now) h.sg h0, h.n1, Nat.zero_le _⟩, U.mono (fun i _ q => q.elim .inl (fun q => .inr (.inl q))), ?_⟩
  · rw [ahead_cut h0]
    exact block_setCell (block_setCell (U1.heap h.blk h.dg.1) 1 _) 2 _
  · rw [List.length_append, List.length_singleton, lvals_snoc LL ps h.pl]
    exact owns2_upd o6 U23 (fun q hq r => h6g (by rw [← ob q hq]; exact r))
  · rw [List.length_append, List.length_append, h.pl]; rfl
  · rw [List.map_append, h.eL]; simp [h.eN]
  · have okx : ∀ E, E ∈ LL ++ [C] → ∀ e, e ∈ E → EsB B e := fun E hE e he => by
      rcases List.mem_append.1 hE with q | q
      · exact h.lx E q e he
      · rw [List.mem_singleton.1 q] at he; exact (h.kN e he).2
    by_cases q : i < LL.length
    · have q' : i < ps.length := by rw [h.pl]; exact q
      rw [List.getElem_append_left q', List.getElem_append_left q]
      have r := h.lE i q q'
      have hp : ps[i] ∈ ps := List.getElem_mem q'
      have ns : ¬ (ps[i].1 = g ∨ vL.ownBlock = some ps[i].1) := fun r => r.elim (h.dg.2.2 _ hp) (h.dp _ hp).1
      exact ⟨r.1, fun j hj => U.cell (p := ⟨ps[i].1, 0 + j * 2, none⟩) (r.2.at0 j hj) ns, fun j hj => U.cell (p := ⟨ps[i].1, 0 + j * 2 + 1, none⟩) (r.2.at1 j hj) ns, fun j hj => (r.2.ok j hj).old (h.lx _ (List.getElem_mem q) _ (List.getElem_mem hj)) U hge⟩
    · have e : i = LL.length := by rw [List.length_append, List.length_singleton] at hi; omega
      subst e
      have e1 : (LL ++ [C])[LL.length] = C := by rw [List.getElem_append_right (Nat.le_refl _)]; simp
      have e2 : (ps ++ [(bN, cN)])[LL.length] = (bN, cN) := by rw [List.getElem_append_right (by rw [h.pl]; exact Nat.le_refl _)]; simp [h.pl]
      rw [e1, e2]
      have ns : ¬ (bN = g ∨ vL.ownBlock = some bN) := fun r => r.elim hNg hLN
      exact ⟨hN.1, ens_own (owns2_upd h.oN U (fun q hq r => ns (by have : bN = q := by simpa [Value.ownBlock] using hq
                                                                   rw [this]; exact r))) (fun e he => (h.kN e he).1.old (h.kN e he).2 U hge)⟩
  · rcases List.mem_append.1 hE with q | q
    · exact h.lx E q e he
    · rw [List.mem_singleton.1 q] at he; exact (h.kN e he).2
  · rw [ahead_cut h0]; exact h.la.upd U (fun x hx hl q => by have := h.lo x hx hl; have := hge _ q; omega)
  · rw [ahead_cut h0]; exact h.ln
  · rw [ahead_cut h0]; exact h.lo
  · rw [ahead_cut h0]; exact h.lc
  · rcases List.mem_append.1 hp with q | q
    · exact h.dg.2.2 p q
    · rw [List.mem_singleton.1 q]; exact hNg
  · rcases List.mem_append.1 hp with r | r
    · rcases k6 with e1 | e1
      · exact (h.dp p r).1 (by rw [ob _ q]; exact e1)
      · have := (h.pb p r).2; have := ob _ q; omega
    · rw [List.mem_singleton.1 r] at q
      exact h6N (ob _ q).symm
  · rintro i (q | q | q | ⟨p, hp, rfl⟩)
    · exact .inl (.inl q)
    · rw [ob i q]
      exact k6.imp (fun r => .inr (.inl r)) id
    · cases q
    · rcases List.mem_append.1 hp with r | r
      · exact .inl (.inr (.inr (.inr ⟨p, r, rfl⟩)))
      · rw [List.mem_singleton.1 r]; exact .inl (.inr (.inr (.inl rfl)))

/-- The document's Writer; M: its blocks. -/
def RtAt (W : World) (B : Nat) (M : Nat → Prop) (g N : Nat) (s : St) (sh : Bool) (told : Nat) : Prop :=
  ∃ vL vN aL cL LL ps C, RtR W B g N s sh told vL vN aL cL LL ps C ∧ ∀ i, M i ↔ RtM g vL vN ps i
theorem RtAt.lt {W : World} {B g N told : Nat} {M : Nat → Prop} {s : St} {sh : Bool} (h : RtAt W B M g N s sh told) : ∀ i, M i → B ≤ i ∧ i < W.heap.size := by
  obtain ⟨vL, vN, aL, cL, LL, ps, C, h, hM⟩ := h
  exact fun i hi => h.mlt i ((hM i).1 hi)
theorem RtAt.upd {S : Nat → Prop} {W W' : World} {B g N told : Nat} {M : Nat → Prop} {s : St} {sh : Bool} (h : RtAt W B M g N s sh told) (hu : Upd S W W') (h1 : ∀ i, M i → ¬ S i) (h2 : ∀ i, S i → B ≤ i) : RtAt W' B M g N s sh told := by
  obtain ⟨vL, vN, aL, cL, LL, ps, C, h, hM⟩ := h
  exact ⟨vL, vN, aL, cL, LL, ps, C, h.upd hu (fun i q => h1 i ((hM i).2 q)) h2, hM⟩
theorem RtAt.below {W W' : World} {B g N told : Nat} {M : Nat → Prop} {s : St} {sh : Bool} (h : RtAt W B M g N s sh told) (hb : Below W.heap.size W W') : RtAt W' B M g N s sh told :=
  h.upd (Upd.of_below hb Noth) (fun _ _ e => e) (fun _ e => e.elim)
def RtUp (W : World) (B : Nat) (M : Nat → Prop) (g N : Nat) (s : St) (sh : Bool) (told : Nat) (w' : World) : Prop := ∃ M', RtAt w' B M' g N s sh told ∧ Upd M W w' ∧ ∀ i, M' i → M i ∨ W.heap.size ≤ i
theorem RtAt.same {W w' : World} {B g N told : Nat} {M : Nat → Prop} {s : St} {sh : Bool} (h : RtAt W B M g N s sh told) (hb : Below W.heap.size W w') : RtUp W B M g N s sh told w' :=
  ⟨M, h.below hb, Upd.of_below hb M, fun _ q => .inl q⟩
/-- Loads by names of their own: they come up with the allocs. -/
@[go_sem] def ldList : Op := .load 41 (.tmp 16)
theorem ldList_eq : Op.load 41 (.tmp 16) = ldList := rfl

set_option maxRecDepth 100000 in
set_option maxHeartbeats 3200000 in
theorem rcut_some {W : World} {B g N : Nat} {s : St} {told : Nat} {vL vN : Value} {aL : Option Addr} {cL : Nat} {LL : List (List Ent)} {ps : List (Nat × Nat)} {C : List Ent} (h : RtR W B g N s false told vL vN aL cL LL ps C) (h0 : 0 < s.now.length) :
    Calls Tryz.prog 21 #[.pointer (some ⟨g, 0, none⟩)] W fun e w' => e = .returned (.int .i64 0) ∧ RtUp W B (RtM g vL vN ps) g N ⟨s.L ++ [s.now], []⟩ false told w' := by
  obtain ⟨i0, hi, hz0, hz1, hz2⟩ := info_parts infoL
  obtain ⟨hnC, hnL⟩ := h.nlen
  have hm := h.sg.many
  have hfew := h.sg.few h0
  have hlim : LL.length ≤ 8388608 := by omega
  have i1 : (0 : Int) < (C.length : Int) := by omega
  obtain ⟨bN, cN, hvN, hBN, hbN⟩ := h.oN.form (by omega)
  subst hvN
  have hvLf : ∃ a c, vL = .slice a LL.length c := by
    rcases h.oL.2 with ⟨q, r⟩ | ⟨g', cap, cur, q, _⟩
    · exact ⟨none, 0, by rw [q, r]⟩
    · exact ⟨_, cap, q⟩
  obtain ⟨aV, cV, hvL⟩ := hvLf
  subst hvL
  have H := hide h
  have HRT : Hid (∀ (W1 W2 : World) (g6 c6 : Nat), _ → _ → _ → _ → _) := fun W1 W2 g6 c6 q1 q2 q3 q4 => rt_cut h h0 (W1 := W1) (W2 := W2) (g6 := g6) (c6 := c6) q1 q2 q3 q4
  have c1 := h.cells.2.1
  have c2 := h.cells.2.2.1
  have c4 := h.cells.2.2.2.2.1
  have hg := h.cells.2.2.2.2.2.2
  have HO := hide (fun (Y : World) (hb : Below W.heap.size W Y) => (h.below hb).oL)
  have HBK := hide h.blk
  clear h hnC hnL
  generalize hnC' : C.length = nC at *
  generalize hnL' : LL.length = nL at *
  have BA : Hid (Below W.heap.size W ((W.alloc (.cells #[.slice (some ⟨bN, 0, none⟩) nC cN] 27)).drew)) := ((Below.refl _ _).alloc (Nat.le_refl _) _).drew
  have HROW : Hid (∀ j u, [Value.slice (some ⟨bN, 0, none⟩) nC cN][j]? = some u → ((W.alloc (.cells #[.slice (some ⟨bN, 0, none⟩) nC cN] 27)).drew).cell? ((⟨W.heap.size, 0, none⟩ : Addr).add j) = some u) := one_cellM W _ _
  go_enter Tryz.func21, Tryz.ntmps21
  go_upto_region 4 with fail
  rw [ldList_eq]
  go_region_held3 (fun Y => Y.cell? ⟨g, 2, none⟩ = some (.slice (some ⟨bN, 0, none⟩) nC cN)) (first | exact t2 | exact f2 | go_keep) (first
    | (refine step_append_lies _ rfl (.tmp 17) (.tmp 22) 41 rfl B 27 i0 (.slice none 0 0) 1 24 Tryz.underlying41 hi hz0 hz1 hz2 rfl (by decide) (.slice aV nL cV) nL (lvals LL ps) (by simp [Act.eval]) (HO.out _ BA.out) ⟨W.heap.size, 0, none⟩ 1 1 [.slice (some ⟨bN, 0, none⟩) nC cN] (by simp [Act.eval]) rfl HROW.out (by intro u hu; simp at hu; rw [hu]; rfl) (by omega) (by unfold maxLen; omega) (by omega) (by have := BA.out.size; have := H.out.gB; omega) _ rfl ?_; intro g6 c6 w6 o6 gr6 k6 lt6; have f2 : w6.cell? ⟨g, 2, none⟩ = some (.slice (some ⟨bN, 0, none⟩) nC cN) := ((Upd.of_below BA.out _).trans (Upd.of_grown (S := fun i => (Value.slice aV nL cV).ownBlock = some i) gr6 (fun k hk _ => hk))).cell c2 (fun q => H.out.dg.1 q); have bk := ((Upd.of_below BA.out _).trans (Upd.of_grown (S := fun i => (Value.slice aV nL cV).ownBlock = some i) gr6 (fun k hk _ => hk))).heap HBK.out H.out.dg.1; have fz1 := frozen_blk bk 1; have fz2 := frozen_blk (block_setCell bk 1 (.slice (some ⟨g6, 0, none⟩) (nL + 1) c6)) 2; have t1 : w6.cell? ⟨g, 1, none⟩ = some (.slice aV nL cV) := (by rw [cell_of_row _ _ _ _ _ _ bk]; rfl); have t2 : (w6.setCell ⟨g, 1, none⟩ (.slice (some ⟨g6, 0, none⟩) (nL + 1) c6)).cell? ⟨g, 2, none⟩ = some (.slice (some ⟨bN, 0, none⟩) nC cN) := (by rw [cell_of_row _ _ _ _ _ _ (block_setCell bk 1 _)]; rfl); have O6 := hide o6; have GR6 := hide gr6; have K6 := hide k6; clear o6 gr6 k6 lt6 bk)
    | fail)
  all_goals (try go_wp2_with fail)
  all_goals
    have R := HRT.out _ w6 g6 c6 BA.out O6.out GR6.out (K6.out.imp id (fun q => by rw [q]; exact BA.out.size))
    go_ret
    exact ⟨rfl, _, ⟨_, _, _, _, _, _, _, R.1, fun _ => Iff.rfl⟩, R.2.1, R.2.2⟩

set_option maxRecDepth 100000 in
set_option maxHeartbeats 1600000 in
theorem rcut_none {W : World} {B g N : Nat} {s : St} {told : Nat} {vL vN : Value} {aL : Option Addr} {cL : Nat} {LL : List (List Ent)} {ps : List (Nat × Nat)} {C : List Ent} (h : RtR W B g N s false told vL vN aL cL LL ps C) (h0 : s.now.length = 0) :
    Calls Tryz.prog 21 #[.pointer (some ⟨g, 0, none⟩)] W fun e w' => e = .returned (.int .i64 0) ∧ w' = W := by
  obtain ⟨hnC, _⟩ := h.nlen
  rcases h.oN.2 with ⟨q, r⟩ | ⟨g', cap, cur, q, _⟩
  · subst q
    have c2 := h.cells.2.2.1
    have c4 := h.cells.2.2.2.2.1
    clear h
    go_enter Tryz.func21, Tryz.ntmps21
    go_wp2_with fail
    go_ret
    exact ⟨rfl, rfl⟩
  · subst q
    have c2 := h.cells.2.2.1
    have c4 := h.cells.2.2.2.2.1
    rw [show C.length = 0 by omega] at c2
    clear h
    go_enter Tryz.func21, Tryz.ntmps21
    go_wp2_with fail
    go_ret
    exact ⟨rfl, rfl⟩
def RcPost (W : World) (B : Nat) (M : Nat → Prop) (g N : Nat) (s : St) (told : Nat) (e : Ending) (w' : World) : Prop := e = .returned (.int .i64 0) ∧ RtUp W B M g N s false told w'
theorem rcut_any {W : World} {B g N told : Nat} {M : Nat → Prop} {s : St} (h : RtAt W B M g N s false told) :
    Calls Tryz.prog 21 #[.pointer (some ⟨g, 0, none⟩)] W (RcPost W B M g N (sCut s) told) := by
  have h' := h
  obtain ⟨vL, vN, aL, cL, LL, ps, C, h, hM⟩ := h
  unfold sCut
  by_cases h0 : s.now.length = 0
  · rw [if_pos h0]
    refine (rcut_none h h0).mono ?_
    rintro e w' ⟨rfl, rfl⟩
    exact ⟨rfl, h'.same (Below.refl _ _)⟩
  · rw [if_neg h0]
    refine (rcut_some h (by omega)).mono ?_
    rintro e w' ⟨rfl, M', q1, q2, q3⟩
    exact ⟨rfl, M', q1, q2.mono (fun i _ q => (hM i).2 q), fun i hi => (q3 i hi).imp (hM i).2 id⟩

end Go.Proofs.YtepjblmjjegpgaaGreat

namespace Go.Proofs.YtepjblmjjegpgaaGreat
open Go.RowKit
set_option maxRecDepth 100000

def RaPost (W : World) (B : Nat) (M : Nat → Prop) (g N : Nat) (s : St) (told : Nat) (k v : List Int) (e : Ending) (w' : World) : Prop := e = .returned (.int .i64 (sErr s k v)) ∧ RtUp W B M g N (sAdd N s k v) false told w'
theorem RtR.lform {W : World} {B g N : Nat} {s : St} {sh : Bool} {told : Nat} {vL vN : Value} {aL : Option Addr} {cL : Nat} {LL : List (List Ent)} {ps : List (Nat × Nat)} {C : List Ent} (h : RtR W B g N s sh told vL vN aL cL LL ps C) : (∃ a c, vL = .slice a LL.length c) ∧ ∃ a c, vN = .slice a C.length c := by
  refine ⟨?_, ?_⟩
  · rcases h.oL.2 with ⟨q, r⟩ | ⟨g', cap, cur, q, _⟩
    · exact ⟨none, 0, by rw [q, r]⟩
    · exact ⟨_, cap, q⟩
  · rcases h.oN.2 with ⟨q, r⟩ | ⟨g', cap, cur, q, _⟩
    · exact ⟨none, 0, by rw [q, r]⟩
    · exact ⟨_, cap, q⟩
theorem SG.ahead {s : St} (h : SG s) : B8 (aheadK s) ∧ (aheadK s).length ≤ 64 := by
  unfold aheadK
  split
  · exact h.last8
  · exact ⟨h.now.ahd8, h.now.ahdl⟩
/-- Where its cells lie in a later world. -/
structure RcC (Y : World) (g N nL nC : Nat) (aV aN aL : Option Addr) (cV cN na cL : Nat) : Prop where
  c0 : Y.cell? ⟨g, 0, none⟩ = some (.int .i64 (N : Int))
  c1 : Y.cell? ⟨g, 1, none⟩ = some (.slice aV nL cV)
  c2 : Y.cell? ⟨g, 2, none⟩ = some (.slice aN nC cN)
  c3 : Y.cell? ⟨g, 3, none⟩ = some (.slice aL na cL)
  c4 : Y.cell? ⟨g, 4, none⟩ = some (.bool false)
theorem RcC.below {W Y : World} {B g N nL nC : Nat} {aV aN aL : Option Addr} {cV cN na cL : Nat} (h : RcC W g N nL nC aV aN aL cV cN na cL) (hb : Below B W Y) (hg : g < B) : RcC Y g N nL nC aV aN aL cV cN na cL :=
  ⟨(hb.cell (p := ⟨g, 0, none⟩) hg).trans h.c0, (hb.cell (p := ⟨g, 1, none⟩) hg).trans h.c1, (hb.cell (p := ⟨g, 2, none⟩) hg).trans h.c2, (hb.cell (p := ⟨g, 3, none⟩) hg).trans h.c3, (hb.cell (p := ⟨g, 4, none⟩) hg).trans h.c4⟩
/-- The load of the list, by a name of its own. -/
@[go_sem] def ldNow : Op := .load 27 (.tmp 52)
theorem ldNow_eq : Op.load 27 (.tmp 52) = ldNow := rfl

set_option maxRecDepth 100000 in
set_option maxHeartbeats 3200000 in
theorem radd_chk {W : World} {B g N told : Nat} {M : Nat → Prop} {s : St} (h : RtAt W B M g N s false told) (e : Ent) (hc : chkE e.ks.length e.vs.length ≠ 0) :
    Calls Tryz.prog 18 #[.pointer (some ⟨g, 0, none⟩), .agg #[e.kv, e.vv]] W (FltPost W (chkE e.ks.length e.vs.length)) := by
  obtain ⟨vL, vN, aL, cL, LL, ps, C, h, hM⟩ := h
  have hbox : Below W.heap.size W (W.alloc (.cells #[e.kv, e.vv] 38)) := (Below.refl _ _).alloc (Nat.le_refl _) _
  have X0 := hide (two_new2 W e.kv e.vv 38)
  have HCH := hide (rcheck_any e.ka e.va e.ks.length e.kc e.vs.length e.vc (W.alloc (.cells #[e.kv, e.vv] 38)))
  have hgW := h.cells.2.2.2.2.2.2
  have c4 := h.cells.2.2.2.2.1
  have HBOX := hide hbox
  have hzA := hbox.size
  clear h hM hbox
  generalize chkE e.ks.length e.vs.length = x at *
  have hne : (x != 0) = true := by simp [hc]
  unfold Ent.kv Ent.vv at *
  generalize e.ks.length = lk at *
  generalize e.vs.length = lv at *
  go_enter Tryz.func18, Tryz.ntmps18
  go_wp2_with fail
  refine HCH.out.mono ?_
  rintro r w1 ⟨rfl, hb1⟩
  have B1 : Hid (Below W.heap.size W w1) := HBOX.out.trans (hb1.mono HBOX.out.size)
  have d4 := (B1.out.cell (p := ⟨g, 4, none⟩) hgW).trans c4
  clear hb1
  go_wp2_with fail
  go_ret
  exact ⟨rfl, B1.out⟩

end Go.Proofs.YtepjblmjjegpgaaGreat

namespace Go.Proofs.YtepjblmjjegpgaaGreat
open Go.RowKit
set_option maxRecDepth 100000

set_option maxRecDepth 100000 in
set_option maxHeartbeats 12800000 in
theorem radd_rest {W : World} {B g N told : Nat} {M : Nat → Prop} {s : St} (h : RtAt W B M g N s false told) (hlt : s.now.length < N) (e : Ent) (ok : e.Ok W) (hx : EsB B e) (hc : chkE e.ks.length e.vs.length = 0) :
    Calls Tryz.prog 18 #[.pointer (some ⟨g, 0, none⟩), .agg #[.slice e.ka e.ks.length e.kc, .slice e.va e.vs.length e.vc]] W (RaPost W B M g N s told e.ks e.vs) := by
  obtain ⟨vL, vN, aL, cL, LL, ps, C, h, hM⟩ := h
  obtain ⟨hnC, hnL⟩ := h.nlen
  obtain ⟨⟨aV, cV, hvL⟩, aN, cN, hvN⟩ := h.lform
  subst hvL hvN
  have hn64 : s.now.length < 64 := by have := h.n1; omega
  have hbox : Below W.heap.size W (W.alloc (.cells #[.slice e.ka e.ks.length e.kc, .slice e.va e.vs.length e.vc] 38)) := (Below.refl _ _).alloc (Nat.le_refl _) _
  have X0 := hide (two_new2 W (.slice e.ka e.ks.length e.kc) (.slice e.va e.vs.length e.vc) 38)
  have HCH := hide (rcheck_any e.ka e.va e.ks.length e.kc e.vs.length e.vc (W.alloc (.cells #[.slice e.ka e.ks.length e.kc, .slice e.va e.vs.length e.vc] 38)))
  rw [hc] at HCH
  have HR := hide (h.below hbox)
  have OK := hide (ok.below hbox)
  have HBOX := hide hbox
  have hgW := h.cells.2.2.2.2.2.2
  have RC : Hid (RcC W g N LL.length C.length aV aN aL cV cN (aheadK s).length cL) := ⟨h.cells.1, h.cells.2.1, h.cells.2.2.1, h.cells.2.2.2.1, h.cells.2.2.2.2.1⟩
  have hah := h.sg.ahead
  have hmany := h.sg.many
  have hN := h.n1
  have HSG := hide h.sg
  have ZA : Hid ((W.alloc (.cells #[.slice e.ka e.ks.length e.kc, .slice e.va e.vs.length e.vc] 38)).heap.size = W.heap.size + 1) := by show _ = _; simp
  have hgB := h.gB
  have HOW : Hid (∀ Y, Below (W.alloc (.cells #[.slice e.ka e.ks.length e.kc, .slice e.va e.vs.length e.vc] 38)).heap.size (W.alloc (.cells #[.slice e.ka e.ks.length e.kc, .slice e.va e.vs.length e.vc] 38)) Y → Y.ownsRow B 38 2 (.slice aN C.length cN) C.length (cellsOf C)) := fun Y hb => (HR.out.below hb).oN
  have HPUT : Hid (sErr s e.ks e.vs = 0 → ∀ (W1 W2 : World) (g6 c6 : Nat), Below (W.alloc (.cells #[.slice e.ka e.ks.length e.kc, .slice e.va e.vs.length e.vc] 38)).heap.size (W.alloc (.cells #[.slice e.ka e.ks.length e.kc, .slice e.va e.vs.length e.vc] 38)) W1 → W2.ownsRow B 38 2 (.slice (some ⟨g6, 0, none⟩) (C.length + 1) c6) (C.length + 1) (cellsOf C ++ [.slice e.ka e.ks.length e.kc, .slice e.va e.vs.length e.vc]) → W1.grownBy W2 (Value.slice aN C.length cN).ownBlock → ((Value.slice aN C.length cN).ownBlock = some g6 ∨ (W.alloc (.cells #[.slice e.ka e.ks.length e.kc, .slice e.va e.vs.length e.vc] 38)).heap.size ≤ g6) → RtR ((W2.setCell ⟨g, 2, none⟩ (.slice (some ⟨g6, 0, none⟩) (C.length + 1) c6)).setCell ⟨g, 3, none⟩ (.slice e.ka e.ks.length e.kc)) B g N ⟨s.L, s.now ++ [(e.ks, e.vs)]⟩ false told (.slice aV LL.length cV) (.slice (some ⟨g6, 0, none⟩) (C.length + 1) c6) e.ka e.kc LL ps (C ++ [e]) ∧ Upd M W ((W2.setCell ⟨g, 2, none⟩ (.slice (some ⟨g6, 0, none⟩) (C.length + 1) c6)).setCell ⟨g, 3, none⟩ (.slice e.ka e.ks.length e.kc)) ∧ ∀ i, RtM g (.slice aV LL.length cV) (.slice (some ⟨g6, 0, none⟩) (C.length + 1) c6) ps i → M i ∨ W.heap.size ≤ i) := fun he W1 W2 g6 c6 q1 q2 q3 q4 => by
    have R := rt_put HR.out e OK.out hx (HSG.out.more he hn64 OK.out.k8 OK.out.v8) (by omega) q1 q2 q3 q4
    exact ⟨R.1, ((Upd.of_below hbox _).trans (R.2.1.mono (fun i _ q => (hM i).2 q))), fun i hi => (R.2.2 i hi).imp (hM i).2 (fun q => by have := ZA.out; omega)⟩
  have HVN : Hid (∀ i, (Value.slice aN C.length cN).ownBlock = some i → i < (W.alloc (.cells #[.slice e.ka e.ks.length e.kc, .slice e.va e.vs.length e.vc] 38)).heap.size ∧ i ≠ g ∧ i ≠ W.heap.size) := fun i q => ⟨(HR.out.oN.lt i q).2, fun r => h.dg.2.1 (by rw [← r]; exact q), fun r => by have := (h.oN.lt i q).2; omega⟩
  have HSAME : Hid (sErr s e.ks e.vs ≠ 0 → ∀ Y, Below (W.alloc (.cells #[.slice e.ka e.ks.length e.kc, .slice e.va e.vs.length e.vc] 38)).heap.size (W.alloc (.cells #[.slice e.ka e.ks.length e.kc, .slice e.va e.vs.length e.vc] 38)) Y → ∀ z, z = sErr s e.ks e.vs → RaPost W B M g N s told e.ks e.vs (.returned (.int .i64 z)) Y) := fun he Y hb z hz => ⟨by rw [hz], by
    unfold sAdd
    rw [if_neg he]
    exact RtAt.same ⟨_, _, _, _, _, _, _, h, hM⟩ (hbox.trans (hb.mono hbox.size))⟩
  have HDONE : Hid (sErr s e.ks e.vs = 0 → ∀ Y, RtUp W B M g N (sPut N s e.ks e.vs) false told Y → RaPost W B M g N s told e.ks e.vs (.returned (.int .i64 0)) Y) := fun he Y q => ⟨by rw [he], by
    unfold sAdd
    rw [if_pos he]
    exact q⟩
  have HE51 : Hid (0 ≤ cmpI (aheadK s) e.ks → sErr s e.ks e.vs = 51) := fun q => by unfold sErr; rw [if_neg (by rw [hc]; simp), if_pos (by omega)]
  have HE71 : Hid (cmpI (aheadK s) e.ks < 0 → s.now.length = 0 → s.L.length = 8388608 → sErr s e.ks e.vs = 71) := fun q1 q2 q3 => by unfold sErr; rw [if_neg (by rw [hc]; simp), if_neg (by omega), if_pos ⟨q2, q3⟩]
  have HE0 : Hid (cmpI (aheadK s) e.ks < 0 → ¬ (s.now.length = 0 ∧ s.L.length = 8388608) → sErr s e.ks e.vs = 0) := fun q1 q2 => by unfold sErr; rw [if_neg (by rw [hc]; simp), if_neg (by omega), if_neg q2]
  have HCMP : Hid (∀ Y, Below (W.alloc (.cells #[.slice e.ka e.ks.length e.kc, .slice e.va e.vs.length e.vc] 38)).heap.size (W.alloc (.cells #[.slice e.ka e.ks.length e.kc, .slice e.va e.vs.length e.vc] 38)) Y → Calls Tryz.prog 55 #[.slice aL (aheadK s).length cL, .slice e.ka e.ks.length e.kc] Y fun r w' => r = .returned (.int .i64 (cmpI (aheadK s) e.ks)) ∧ ∃ m, w' = Y.drewN m) := fun Y hb => (rcompare_any aL e.ka (aheadK s).length cL e.ks.length e.kc (aheadK s) e.ks Y (by unfold maxLen; omega) (by have := OK.out.zk; unfold maxLen; omega) rfl rfl (HR.out.below hb).la (OK.out.below hb).k)
  have HEMP : Hid ((aheadK s).length = 0 → cmpI (aheadK s) e.ks < 0) := fun q => by
    obtain ⟨f1, _⟩ := wfits_key hc
    rw [List.eq_nil_of_length_eq_zero q]
    generalize e.ks = k at f1
    cases k with
    | nil => simp at f1
    | cons y k => rw [cmpI_nil_cons]; decide
  have HNOW : Hid (s.now.length = C.length ∧ s.L.length = LL.length) := ⟨hnC.symm, hnL.symm⟩
  have hCL : C.length < 64 := by omega
  have hLL : LL.length ≤ 8388608 := by omega
  clear h ok hbox hM hx hc hnC hnL hmany
  obtain ⟨ER, hE⟩ : ∃ E, sErr s e.ks e.vs = E := ⟨_, rfl⟩
  rw [hE] at HPUT HSAME HDONE HE51 HE71 HE0
  obtain ⟨cv, hcv⟩ : ∃ c, cmpI (aheadK s) e.ks = c := ⟨_, rfl⟩
  rw [hcv] at HE51 HE71 HE0 HCMP HEMP
  clear hE hcv
  have RCA := hide (RC.out.below HBOX.out hgW)
  have hzA : W.heap.size < (W.alloc (.cells #[.slice e.ka e.ks.length e.kc, .slice e.va e.vs.length e.vc] 38)).heap.size := by rw [ZA.out]; omega
  obtain ⟨wA, hwA⟩ : ∃ w, w = (W.alloc (.cells #[.slice e.ka e.ks.length e.kc, .slice e.va e.vs.length e.vc] 38)) := ⟨_, rfl⟩
  rw [← hwA] at X0 HCH HR OK HBOX ZA HOW HPUT HVN HSAME HCMP RCA hzA
  replace hwA := hide hwA
  generalize hna : (aheadK s).length = na at *
  replace hna := hide hna
  go_enter Tryz.func18, Tryz.ntmps18
  go_wp2_with fail
  rw [← hwA.out]
  refine HCH.out.mono ?_
  rintro r w1 ⟨rfl, hb1⟩
  have BA1 := hide hb1
  have RC1 := RCA.out.below hb1 (Nat.lt_trans hgW hzA)
  obtain ⟨y0, y1, y2, y3, y4⟩ := RC1
  have x0 := (hb1.cell (p := ⟨W.heap.size, 0, none⟩) hzA).trans X0.out.1
  have x1 := (hb1.cell (p := ⟨W.heap.size, 1, none⟩) hzA).trans X0.out.2
  clear hb1 HCH
  have hgA : g < wA.heap.size := Nat.lt_trans hgW hzA
  by_cases hna0 : na = 0
  · have hcm : cv < 0 := HEMP.out hna0
    subst hna0
    go_wp2_with fail
    go_quiet (fail)
    rename Nat => mq
    have BA2 : Hid (Below wA.heap.size wA (w1.drewN mq)) := below_drewNW BA1.out mq
    generalize w1.drewN mq = w2 at *
      -- behind the look at the last key
    obtain ⟨z0, z1, z2, z3, z4⟩ := RCA.out.below BA2.out hgA
    have u0 := (BA2.out.cell (p := ⟨W.heap.size, 0, none⟩) hzA).trans X0.out.1
    have u1 := (BA2.out.cell (p := ⟨W.heap.size, 1, none⟩) hzA).trans X0.out.2
    have hg2 : g < w2.heap.size := by have := BA2.out.size; omega
    have hb2 : W.heap.size < w2.heap.size := by have := BA2.out.size; omega
    by_cases hfull : C.length = 0 ∧ LL.length = 8388608
    · have hE := HE71.out hcm (by have := HNOW.out; omega) (by have := HNOW.out; omega)
      have HF := hide (HSAME.out (by rw [hE]; decide) w2 BA2.out 71 hE.symm)
      obtain ⟨f1, f2⟩ := hfull
      rw [f1] at z2
      rw [f2] at z1
      clear hE HPUT HDONE HOW
      go_wp2_with fail
      go_ret
      exact HF.out
    · have hE := HE0.out hcm (by have := HNOW.out; omega)
      have HPU := hide (HPUT.out hE)
      have HDO := hide (HDONE.out hE)
      obtain ⟨i0, hi, hz0, hz1, hz2⟩ := info_parts infoE
      have BAL : Hid (Below wA.heap.size wA ((w2.alloc (.cells #[.slice e.ka e.ks.length e.kc, .slice e.va e.vs.length e.vc] 38)).drew)) := (BA2.out.alloc BA2.out.size _).drew
      have HROW : Hid (∀ j u, [Value.slice e.ka e.ks.length e.kc, .slice e.va e.vs.length e.vc][j]? = some u → ((w2.alloc (.cells #[.slice e.ka e.ks.length e.kc, .slice e.va e.vs.length e.vc] 38)).drew).cell? ((⟨w2.heap.size, 0, none⟩ : Addr).add j) = some u) := two_new w2 _ _ _
      clear hE HPUT HDONE HSAME HE51 HE71 HE0 HCMP HEMP
      by_cases hC0 : C.length = 0
      · have hLn : ¬ (LL.length : Int) = 8388608 := by omega
        have hC0' : ((C.length : Int) == 0) = true := beq_iff_eq.2 (by omega)
        clear hC0 hfull
        go_wp2_with fail
        rw [ldNow_eq]
        go_region_held3 (fun Y => Y.cell? ⟨W.heap.size, 0, none⟩ = some (.slice e.ka e.ks.length e.kc) ∧ Y.cell? ⟨W.heap.size, 1, none⟩ = some (.slice e.va e.vs.length e.vc)) (first | exact ⟨r0, r1⟩ | exact ⟨q0, q1⟩ | go_keep) (first
          | (refine step_append_lies _ rfl (.tmp 53) (.tmp 55) 27 rfl B 38 i0 (.agg #[.slice none 0 0, .slice none 0 0]) 2 48 Tryz.underlying27 hi hz0 hz1 hz2 rfl (by decide) (.slice aN C.length cN) C.length (cellsOf C) (by simp [Act.eval]) (HOW.out _ BAL.out) ⟨w2.heap.size, 0, none⟩ 1 1 [.slice e.ka e.ks.length e.kc, .slice e.va e.vs.length e.vc] (by simp [Act.eval]) rfl HROW.out (by intro u hu; simp at hu; rcases hu with rfl | rfl <;> rfl) (by omega) (by unfold maxLen; omega) (by omega) (by have := BAL.out.size; omega) _ rfl ?_; intro g6 c6 w6 o6 gr6 k6 lt6; have UU : Hid (Upd (fun i => (Value.slice aN C.length cN).ownBlock = some i) wA w6) := (Upd.of_below BAL.out _).trans (Upd.of_grown gr6 (fun k hk _ => hk)); have q0 := UU.out.cell (p := ⟨W.heap.size, 0, none⟩) X0.out.1 (fun q => (HVN.out _ q).2.2 rfl); have q1 := UU.out.cell (p := ⟨W.heap.size, 1, none⟩) X0.out.2 (fun q => (HVN.out _ q).2.2 rfl); have bk := UU.out.heap HR.out.blk (fun q => (HVN.out _ q).2.1 rfl); have fz2 := frozen_blk bk 2; have fz3 := frozen_blk (block_setCell bk 2 (.slice (some ⟨g6, 0, none⟩) (C.length + 1) c6)) 3; have t2 := UU.out.cell (p := ⟨g, 2, none⟩) RCA.out.c2 (fun q => (HVN.out _ q).2.1 rfl); have t3 := UU.out.cell (p := ⟨g, 3, none⟩) RCA.out.c3 (fun q => (HVN.out _ q).2.1 rfl); have us := set_upd w6 g 2 (.slice (some ⟨g6, 0, none⟩) (C.length + 1) c6); have r0 := us.cell q0 (fun q => by have q' : W.heap.size = g := q; omega); have r1 := us.cell q1 (fun q => by have q' : W.heap.size = g := q; omega); have O6 := hide o6; have GR6 := hide gr6; have K6 := hide k6; clear o6 gr6 k6 lt6 bk us)
          | fail)
        all_goals (try go_wp2_with fail)
        all_goals
          have R := HPU.out _ w6 g6 c6 BAL.out O6.out GR6.out (K6.out.imp id (fun q => by rw [q]; exact BAL.out.size))
          obtain ⟨w8, hw8⟩ : ∃ w, w = (w6.setCell ⟨g, 2, none⟩ (.slice (some ⟨g6, 0, none⟩) (C.length + 1) c6)).setCell ⟨g, 3, none⟩ (.slice e.ka e.ks.length e.kc) := ⟨_, rfl⟩
          rw [← hw8] at R ⊢
          have R1 := hide R.1
          have R2 := hide R.2
          have s0 := R.1.cells.1
          have s2 := R.1.cells.2.2.1
          clear hw8 R r0 r1 q0 q1 t2 t3
          go_region_held3 (fun Y => Y.cell? ⟨g, 2, none⟩ = some (.slice (some ⟨g6, 0, none⟩) (C.length + 1) c6) ∧ Y.cell? ⟨g, 0, none⟩ = some (.int .i64 (N : Int))) (go_keep) (fail)
          all_goals
            have RD := hide (R1.out.below (Below.refl _ _).drew)
            have hnow := HNOW.out.1
            by_cases hfN : C.length + 1 = N
            · have k1 : (C.length : Int) + 1 = (N : Int) := by omega
              have HCU := hide (rcut_some RD.out (by simp))
              go_wp2_with fail
              refine HCU.out.mono ?_
              rintro r w9 ⟨rfl, M', p1, p2, p3⟩
              have HF := hide (HDO.out w9 ⟨M', by unfold sPut; rw [if_pos (by omega)]; exact p1, (R2.out.1.drew).then p2 (fun i hi q => (R2.out.2 i q).elim id (fun q => by omega)), fun i hi => (p3 i hi).elim (R2.out.2 i) (fun q => .inr (by have z := R2.out.1.size; have : w8.drew.heap.size = w8.heap.size := rfl; omega))⟩)
              clear p1 p2 p3
              go_wp2_with fail
              go_ret
              exact HF.out
            · have k1 : ¬ (C.length : Int) + 1 = (N : Int) := by omega
              have HF := hide (HDO.out w8.drew ⟨_, by unfold sPut; rw [if_neg (by omega)]; exact ⟨_, _, _, _, _, _, _, RD.out, fun _ => Iff.rfl⟩, R2.out.1.drew, R2.out.2⟩)
              go_wp2_with fail
              go_ret
              exact HF.out
      · have hC0' : ((C.length : Int) == 0) = false := beq_eq_false_iff_ne.2 (by omega)
        clear hC0 hfull
        go_wp2_with fail
        rw [ldNow_eq]
        go_region_held3 (fun Y => Y.cell? ⟨W.heap.size, 0, none⟩ = some (.slice e.ka e.ks.length e.kc) ∧ Y.cell? ⟨W.heap.size, 1, none⟩ = some (.slice e.va e.vs.length e.vc)) (first | exact ⟨r0, r1⟩ | exact ⟨q0, q1⟩ | go_keep) (first
          | (refine step_append_lies _ rfl (.tmp 53) (.tmp 55) 27 rfl B 38 i0 (.agg #[.slice none 0 0, .slice none 0 0]) 2 48 Tryz.underlying27 hi hz0 hz1 hz2 rfl (by decide) (.slice aN C.length cN) C.length (cellsOf C) (by simp [Act.eval]) (HOW.out _ BAL.out) ⟨w2.heap.size, 0, none⟩ 1 1 [.slice e.ka e.ks.length e.kc, .slice e.va e.vs.length e.vc] (by simp [Act.eval]) rfl HROW.out (by intro u hu; simp at hu; rcases hu with rfl | rfl <;> rfl) (by omega) (by unfold maxLen; omega) (by omega) (by have := BAL.out.size; omega) _ rfl ?_; intro g6 c6 w6 o6 gr6 k6 lt6; have UU : Hid (Upd (fun i => (Value.slice aN C.length cN).ownBlock = some i) wA w6) := (Upd.of_below BAL.out _).trans (Upd.of_grown gr6 (fun k hk _ => hk)); have q0 := UU.out.cell (p := ⟨W.heap.size, 0, none⟩) X0.out.1 (fun q => (HVN.out _ q).2.2 rfl); have q1 := UU.out.cell (p := ⟨W.heap.size, 1, none⟩) X0.out.2 (fun q => (HVN.out _ q).2.2 rfl); have bk := UU.out.heap HR.out.blk (fun q => (HVN.out _ q).2.1 rfl); have fz2 := frozen_blk bk 2; have fz3 := frozen_blk (block_setCell bk 2 (.slice (some ⟨g6, 0, none⟩) (C.length + 1) c6)) 3; have t2 := UU.out.cell (p := ⟨g, 2, none⟩) RCA.out.c2 (fun q => (HVN.out _ q).2.1 rfl); have t3 := UU.out.cell (p := ⟨g, 3, none⟩) RCA.out.c3 (fun q => (HVN.out _ q).2.1 rfl); have us := set_upd w6 g 2 (.slice (some ⟨g6, 0, none⟩) (C.length + 1) c6); have r0 := us.cell q0 (fun q => by have q' : W.heap.size = g := q; omega); have r1 := us.cell q1 (fun q => by have q' : W.heap.size = g := q; omega); have O6 := hide o6; have GR6 := hide gr6; have K6 := hide k6; clear o6 gr6 k6 lt6 bk us)
          | fail)
        all_goals (try go_wp2_with fail)
        all_goals
          have R := HPU.out _ w6 g6 c6 BAL.out O6.out GR6.out (K6.out.imp id (fun q => by rw [q]; exact BAL.out.size))
          obtain ⟨w8, hw8⟩ : ∃ w, w = (w6.setCell ⟨g, 2, none⟩ (.slice (some ⟨g6, 0, none⟩) (C.length + 1) c6)).setCell ⟨g, 3, none⟩ (.slice e.ka e.ks.length e.kc) := ⟨_, rfl⟩
          rw [← hw8] at R ⊢
          have R1 := hide R.1
          have R2 := hide R.2
          have s0 := R.1.cells.1
          have s2 := R.1.cells.2.2.1
          clear hw8 R r0 r1 q0 q1 t2 t3
          go_region_held3 (fun Y => Y.cell? ⟨g, 2, none⟩ = some (.slice (some ⟨g6, 0, none⟩) (C.length + 1) c6) ∧ Y.cell? ⟨g, 0, none⟩ = some (.int .i64 (N : Int))) (go_keep) (fail)
          all_goals
            have RD := hide (R1.out.below (Below.refl _ _).drew)
            have hnow := HNOW.out.1
            by_cases hfN : C.length + 1 = N
            · have k1 : (C.length : Int) + 1 = (N : Int) := by omega
              have HCU := hide (rcut_some RD.out (by simp))
              go_wp2_with fail
              refine HCU.out.mono ?_
              rintro r w9 ⟨rfl, M', p1, p2, p3⟩
              have HF := hide (HDO.out w9 ⟨M', by unfold sPut; rw [if_pos (by omega)]; exact p1, (R2.out.1.drew).then p2 (fun i hi q => (R2.out.2 i q).elim id (fun q => by omega)), fun i hi => (p3 i hi).elim (R2.out.2 i) (fun q => .inr (by have z := R2.out.1.size; have : w8.drew.heap.size = w8.heap.size := rfl; omega))⟩)
              clear p1 p2 p3
              go_wp2_with fail
              go_ret
              exact HF.out
            · have k1 : ¬ (C.length : Int) + 1 = (N : Int) := by omega
              have HF := hide (HDO.out w8.drew ⟨_, by unfold sPut; rw [if_neg (by omega)]; exact ⟨_, _, _, _, _, _, _, RD.out, fun _ => Iff.rfl⟩, R2.out.1.drew, R2.out.2⟩)
              go_wp2_with fail
              go_ret
              exact HF.out
  · have hnp : (0 : Int) < (na : Int) := by omega
    have hnp2 : 0 < na := by omega
    have HCQ : Hid (∀ q, Calls Tryz.prog 55 #[.slice aL na cL, .slice e.ka e.ks.length e.kc] (w1.drewN q) fun r w' => r = .returned (.int .i64 cv) ∧ ∃ m, w' = w1.drewN m) := fun q => (HCMP.out _ (below_drewNW BA1.out q)).mono fun r w' ⟨h1, m, h2⟩ => ⟨h1, q + m, by rw [h2]; exact drewN_drewNF w1 q m⟩
    go_wp2_with fail
    go_quiet ((go_at_call 55; with_reducible exact HCQ.out _))
    rename Nat => mq
    have BA2 : Hid (Below wA.heap.size wA (w1.drewN mq)) := below_drewNW BA1.out mq
    generalize w1.drewN mq = w2 at *
    by_cases hcm : cv < 0
    · have i1 : ¬ 0 ≤ cv := by omega
      -- behind the look at the last key
      obtain ⟨z0, z1, z2, z3, z4⟩ := RCA.out.below BA2.out hgA
      have u0 := (BA2.out.cell (p := ⟨W.heap.size, 0, none⟩) hzA).trans X0.out.1
      have u1 := (BA2.out.cell (p := ⟨W.heap.size, 1, none⟩) hzA).trans X0.out.2
      have hg2 : g < w2.heap.size := by have := BA2.out.size; omega
      have hb2 : W.heap.size < w2.heap.size := by have := BA2.out.size; omega
      by_cases hfull : C.length = 0 ∧ LL.length = 8388608
      · have hE := HE71.out hcm (by have := HNOW.out; omega) (by have := HNOW.out; omega)
        have HF := hide (HSAME.out (by rw [hE]; decide) w2 BA2.out 71 hE.symm)
        obtain ⟨f1, f2⟩ := hfull
        rw [f1] at z2
        rw [f2] at z1
        clear hE HPUT HDONE HOW
        go_wp2_with fail
        go_ret
        exact HF.out
      · have hE := HE0.out hcm (by have := HNOW.out; omega)
        have HPU := hide (HPUT.out hE)
        have HDO := hide (HDONE.out hE)
        obtain ⟨i0, hi, hz0, hz1, hz2⟩ := info_parts infoE
        have BAL : Hid (Below wA.heap.size wA ((w2.alloc (.cells #[.slice e.ka e.ks.length e.kc, .slice e.va e.vs.length e.vc] 38)).drew)) := (BA2.out.alloc BA2.out.size _).drew
        have HROW : Hid (∀ j u, [Value.slice e.ka e.ks.length e.kc, .slice e.va e.vs.length e.vc][j]? = some u → ((w2.alloc (.cells #[.slice e.ka e.ks.length e.kc, .slice e.va e.vs.length e.vc] 38)).drew).cell? ((⟨w2.heap.size, 0, none⟩ : Addr).add j) = some u) := two_new w2 _ _ _
        clear hE HPUT HDONE HSAME HE51 HE71 HE0 HCMP HEMP
        by_cases hC0 : C.length = 0
        · have hLn : ¬ (LL.length : Int) = 8388608 := by omega
          have hC0' : ((C.length : Int) == 0) = true := beq_iff_eq.2 (by omega)
          clear hC0 hfull
          go_wp2_with fail
          rw [ldNow_eq]
          go_region_held3 (fun Y => Y.cell? ⟨W.heap.size, 0, none⟩ = some (.slice e.ka e.ks.length e.kc) ∧ Y.cell? ⟨W.heap.size, 1, none⟩ = some (.slice e.va e.vs.length e.vc)) (first | exact ⟨r0, r1⟩ | exact ⟨q0, q1⟩ | go_keep) (first
            | (refine step_append_lies _ rfl (.tmp 53) (.tmp 55) 27 rfl B 38 i0 (.agg #[.slice none 0 0, .slice none 0 0]) 2 48 Tryz.underlying27 hi hz0 hz1 hz2 rfl (by decide) (.slice aN C.length cN) C.length (cellsOf C) (by simp [Act.eval]) (HOW.out _ BAL.out) ⟨w2.heap.size, 0, none⟩ 1 1 [.slice e.ka e.ks.length e.kc, .slice e.va e.vs.length e.vc] (by simp [Act.eval]) rfl HROW.out (by intro u hu; simp at hu; rcases hu with rfl | rfl <;> rfl) (by omega) (by unfold maxLen; omega) (by omega) (by have := BAL.out.size; omega) _ rfl ?_; intro g6 c6 w6 o6 gr6 k6 lt6; have UU : Hid (Upd (fun i => (Value.slice aN C.length cN).ownBlock = some i) wA w6) := (Upd.of_below BAL.out _).trans (Upd.of_grown gr6 (fun k hk _ => hk)); have q0 := UU.out.cell (p := ⟨W.heap.size, 0, none⟩) X0.out.1 (fun q => (HVN.out _ q).2.2 rfl); have q1 := UU.out.cell (p := ⟨W.heap.size, 1, none⟩) X0.out.2 (fun q => (HVN.out _ q).2.2 rfl); have bk := UU.out.heap HR.out.blk (fun q => (HVN.out _ q).2.1 rfl); have fz2 := frozen_blk bk 2; have fz3 := frozen_blk (block_setCell bk 2 (.slice (some ⟨g6, 0, none⟩) (C.length + 1) c6)) 3; have t2 := UU.out.cell (p := ⟨g, 2, none⟩) RCA.out.c2 (fun q => (HVN.out _ q).2.1 rfl); have t3 := UU.out.cell (p := ⟨g, 3, none⟩) RCA.out.c3 (fun q => (HVN.out _ q).2.1 rfl); have us := set_upd w6 g 2 (.slice (some ⟨g6, 0, none⟩) (C.length + 1) c6); have r0 := us.cell q0 (fun q => by have q' : W.heap.size = g := q; omega); have r1 := us.cell q1 (fun q => by have q' : W.heap.size = g := q; omega); have O6 := hide o6; have GR6 := hide gr6; have K6 := hide k6; clear o6 gr6 k6 lt6 bk us)
            | fail)
          all_goals (try go_wp2_with fail)
          all_goals
            have R := HPU.out _ w6 g6 c6 BAL.out O6.out GR6.out (K6.out.imp id (fun q => by rw [q]; exact BAL.out.size))
            obtain ⟨w8, hw8⟩ : ∃ w, w = (w6.setCell ⟨g, 2, none⟩ (.slice (some ⟨g6, 0, none⟩) (C.length + 1) c6)).setCell ⟨g, 3, none⟩ (.slice e.ka e.ks.length e.kc) := ⟨_, rfl⟩
            rw [← hw8] at R ⊢
            have R1 := hide R.1
            have R2 := hide R.2
            have s0 := R.1.cells.1
            have s2 := R.1.cells.2.2.1
            clear hw8 R r0 r1 q0 q1 t2 t3
            go_region_held3 (fun Y => Y.cell? ⟨g, 2, none⟩ = some (.slice (some ⟨g6, 0, none⟩) (C.length + 1) c6) ∧ Y.cell? ⟨g, 0, none⟩ = some (.int .i64 (N : Int))) (go_keep) (fail)
            all_goals
              have RD := hide (R1.out.below (Below.refl _ _).drew)
              have hnow := HNOW.out.1
              by_cases hfN : C.length + 1 = N
              · have k1 : (C.length : Int) + 1 = (N : Int) := by omega
                have HCU := hide (rcut_some RD.out (by simp))
                go_wp2_with fail
                refine HCU.out.mono ?_
                rintro r w9 ⟨rfl, M', p1, p2, p3⟩
                have HF := hide (HDO.out w9 ⟨M', by unfold sPut; rw [if_pos (by omega)]; exact p1, (R2.out.1.drew).then p2 (fun i hi q => (R2.out.2 i q).elim id (fun q => by omega)), fun i hi => (p3 i hi).elim (R2.out.2 i) (fun q => .inr (by have z := R2.out.1.size; have : w8.drew.heap.size = w8.heap.size := rfl; omega))⟩)
                clear p1 p2 p3
                go_wp2_with fail
                go_ret
                exact HF.out
              · have k1 : ¬ (C.length : Int) + 1 = (N : Int) := by omega
                have HF := hide (HDO.out w8.drew ⟨_, by unfold sPut; rw [if_neg (by omega)]; exact ⟨_, _, _, _, _, _, _, RD.out, fun _ => Iff.rfl⟩, R2.out.1.drew, R2.out.2⟩)
                go_wp2_with fail
                go_ret
                exact HF.out
        · have hC0' : ((C.length : Int) == 0) = false := beq_eq_false_iff_ne.2 (by omega)
          clear hC0 hfull
          go_wp2_with fail
          rw [ldNow_eq]
          go_region_held3 (fun Y => Y.cell? ⟨W.heap.size, 0, none⟩ = some (.slice e.ka e.ks.length e.kc) ∧ Y.cell? ⟨W.heap.size, 1, none⟩ = some (.slice e.va e.vs.length e.vc)) (first | exact ⟨r0, r1⟩ | exact ⟨q0, q1⟩ | go_keep) (first
            | (refine step_append_lies _ rfl (.tmp 53) (.tmp 55) 27 rfl B 38 i0 (.agg #[.slice none 0 0, .slice none 0 0]) 2 48 Tryz.underlying27 hi hz0 hz1 hz2 rfl (by decide) (.slice aN C.length cN) C.length (cellsOf C) (by simp [Act.eval]) (HOW.out _ BAL.out) ⟨w2.heap.size, 0, none⟩ 1 1 [.slice e.ka e.ks.length e.kc, .slice e.va e.vs.length e.vc] (by simp [Act.eval]) rfl HROW.out (by intro u hu; simp at hu; rcases hu with rfl | rfl <;> rfl) (by omega) (by unfold maxLen; omega) (by omega) (by have := BAL.out.size; omega) _ rfl ?_; intro g6 c6 w6 o6 gr6 k6 lt6; have UU : Hid (Upd (fun i => (Value.slice aN C.length cN).ownBlock = some i) wA w6) := (Upd.of_below BAL.out _).trans (Upd.of_grown gr6 (fun k hk _ => hk)); have q0 := UU.out.cell (p := ⟨W.heap.size, 0, none⟩) X0.out.1 (fun q => (HVN.out _ q).2.2 rfl); have q1 := UU.out.cell (p := ⟨W.heap.size, 1, none⟩) X0.out.2 (fun q => (HVN.out _ q).2.2 rfl); have bk := UU.out.heap HR.out.blk (fun q => (HVN.out _ q).2.1 rfl); have fz2 := frozen_blk bk 2; have fz3 := frozen_blk (block_setCell bk 2 (.slice (some ⟨g6, 0, none⟩) (C.length + 1) c6)) 3; have t2 := UU.out.cell (p := ⟨g, 2, none⟩) RCA.out.c2 (fun q => (HVN.out _ q).2.1 rfl); have t3 := UU.out.cell (p := ⟨g, 3, none⟩) RCA.out.c3 (fun q => (HVN.out _ q).2.1 rfl); have us := set_upd w6 g 2 (.slice (some ⟨g6, 0, none⟩) (C.length + 1) c6); have r0 := us.cell q0 (fun q => by have q' : W.heap.size = g := q; omega); have r1 := us.cell q1 (fun q => by have q' : W.heap.size = g := q; omega); have O6 := hide o6; have GR6 := hide gr6; have K6 := hide k6; clear o6 gr6 k6 lt6 bk us)
            | fail)
          all_goals (try go_wp2_with fail)
          all_goals
            have R := HPU.out _ w6 g6 c6 BAL.out O6.out GR6.out (K6.out.imp id (fun q => by rw [q]; exact BAL.out.size))
            obtain ⟨w8, hw8⟩ : ∃ w, w = (w6.setCell ⟨g, 2, none⟩ (.slice (some ⟨g6, 0, none⟩) (C.length + 1) c6)).setCell ⟨g, 3, none⟩ (.slice e.ka e.ks.length e.kc) := ⟨_, rfl⟩
            rw [← hw8] at R ⊢
            have R1 := hide R.1
            have R2 := hide R.2
            have s0 := R.1.cells.1
            have s2 := R.1.cells.2.2.1
            clear hw8 R r0 r1 q0 q1 t2 t3
            go_region_held3 (fun Y => Y.cell? ⟨g, 2, none⟩ = some (.slice (some ⟨g6, 0, none⟩) (C.length + 1) c6) ∧ Y.cell? ⟨g, 0, none⟩ = some (.int .i64 (N : Int))) (go_keep) (fail)
            all_goals
              have RD := hide (R1.out.below (Below.refl _ _).drew)
              have hnow := HNOW.out.1
              by_cases hfN : C.length + 1 = N
              · have k1 : (C.length : Int) + 1 = (N : Int) := by omega
                have HCU := hide (rcut_some RD.out (by simp))
                go_wp2_with fail
                refine HCU.out.mono ?_
                rintro r w9 ⟨rfl, M', p1, p2, p3⟩
                have HF := hide (HDO.out w9 ⟨M', by unfold sPut; rw [if_pos (by omega)]; exact p1, (R2.out.1.drew).then p2 (fun i hi q => (R2.out.2 i q).elim id (fun q => by omega)), fun i hi => (p3 i hi).elim (R2.out.2 i) (fun q => .inr (by have z := R2.out.1.size; have : w8.drew.heap.size = w8.heap.size := rfl; omega))⟩)
                clear p1 p2 p3
                go_wp2_with fail
                go_ret
                exact HF.out
              · have k1 : ¬ (C.length : Int) + 1 = (N : Int) := by omega
                have HF := hide (HDO.out w8.drew ⟨_, by unfold sPut; rw [if_neg (by omega)]; exact ⟨_, _, _, _, _, _, _, RD.out, fun _ => Iff.rfl⟩, R2.out.1.drew, R2.out.2⟩)
                go_wp2_with fail
                go_ret
                exact HF.out
    · have i1 : 0 ≤ cv := by omega
      have hE := HE51.out i1
      have HF := hide (HSAME.out (by rw [hE]; decide) w2 BA2.out 51 hE.symm)
      clear hE HPUT HDONE HOW
      go_wp2_with fail
      go_ret
      exact HF.out

end Go.Proofs.YtepjblmjjegpgaaGreat

namespace Go.Proofs.YtepjblmjjegpgaaGreat
open Go.RowKit
set_option maxRecDepth 100000

theorem radd_any {W : World} {B g N told : Nat} {M : Nat → Prop} {s : St} (h : RtAt W B M g N s false told) (hlt : s.now.length < N) (e : Ent) (ok : e.Ok W) (hx : EsB B e) :
    Calls Tryz.prog 18 #[.pointer (some ⟨g, 0, none⟩), .agg #[.slice e.ka e.ks.length e.kc, .slice e.va e.vs.length e.vc]] W (RaPost W B M g N s told e.ks e.vs) := by
  by_cases hc : chkE e.ks.length e.vs.length = 0
  · exact radd_rest h hlt e ok hx hc
  · refine (radd_chk h e hc).mono ?_
    rintro r w' ⟨rfl, hb⟩
    have he : sErr s e.ks e.vs = chkE e.ks.length e.vs.length := by unfold sErr; rw [if_pos hc]
    refine ⟨by rw [he], ?_⟩
    unfold sAdd
    rw [if_neg (by rw [he]; exact hc)]
    exact h.same hb
theorem rt_shut {W : World} {B g N : Nat} {s : St} {sh : Bool} {told : Nat} {vL vN : Value} {aL : Option Addr} {cL : Nat} {LL : List (List Ent)} {ps : List (Nat × Nat)} {C : List Ent} (h : RtR W B g N s sh told vL vN aL cL LL ps C) : RtR (W.setCell ⟨g, 4, none⟩ (.bool true)) B g N s true told vL vN aL cL LL ps C := by
  have U := set_upd W g 4 (.bool true)
  have hge : ∀ i, i = g → B ≤ i := fun i q => by rw [q]; exact h.gB
  exact ⟨block_setCell h.blk 4 _, owns2_upd h.oL U (fun q hq r => h.dg.1 (by rw [← r]; exact hq)), h.pl, h.eL, fun i hi hi' => by
    have q := h.lE i hi hi'
    have ns : ¬ ps[i].1 = g := h.dg.2.2 _ (List.getElem_mem hi')
    exact ⟨q.1, fun j hj => U.cell (p := ⟨ps[i].1, 0 + j * 2, none⟩) (q.2.at0 j hj) ns, fun j hj => U.cell (p := ⟨ps[i].1, 0 + j * 2 + 1, none⟩) (q.2.at1 j hj) ns, fun j hj => (q.2.ok j hj).old (h.lx _ (List.getElem_mem hi) _ (List.getElem_mem hj)) U hge⟩, h.lx, owns2_upd h.oN U (fun q hq r => h.dg.2.1 (by rw [← r]; exact hq)), h.eN, fun e he => ⟨(h.kN e he).1.old (h.kN e he).2 U hge, (h.kN e he).2⟩, h.la.upd U (fun x hx h0 q => by have := h.lo x hx h0; have := hge _ q; omega), h.ln, h.lo, h.lc, h.dg, h.dn, h.dp, h.gB, h.sg, h.n1, h.lt⟩
def RlPost (W : World) (B : Nat) (M : Nat → Prop) (g N : Nat) (s : St) (told : Nat) (e : Ending) (w' : World) : Prop := e = .returned (.int .i64 0) ∧ RtUp W B M g N s true told w'
set_option maxRecDepth 100000 in
set_option maxHeartbeats 1600000 in
theorem rclose_any {W : World} {B g N told : Nat} {M : Nat → Prop} {s : St} (h : RtAt W B M g N s false told) :
    Calls Tryz.prog 22 #[.pointer (some ⟨g, 0, none⟩)] W (RlPost W B M g N (sCut s) told) := by
  have HC := hide (rcut_any h)
  clear h
  generalize sCut s = s' at *
  go_enter Tryz.func22, Tryz.ntmps22
  go_wp2_with fail
  refine HC.out.mono ?_
  rintro e w1 ⟨rfl, M1, ⟨vL, vN, aL, cL, LL, ps, C, h1, hM1⟩, u1, m1⟩
  have c4 := h1.cells.2.2.2.2.1
  have fz4 := frozen_blk h1.blk 4
  have HF : Hid (RlPost W B M g N s' told (.returned (.int .i64 0)) (w1.setCell ⟨g, 4, none⟩ (.bool true))) := ⟨rfl, M1, ⟨vL, vN, aL, cL, LL, ps, C, rt_shut h1, hM1⟩, u1.then (set_upd w1 g 4 (.bool true)) (fun i hi q => (m1 i ((hM1 i).2 (.inl q))).elim id (fun r => by omega)), m1⟩
  clear h1 hM1 u1 m1 HC
  go_wp2_with fail
  go_ret
  exact HF.out

theorem RtR.lsm {W : World} {B g N : Nat} {s : St} {sh : Bool} {told : Nat} {vL vN : Value} {aL : Option Addr} {cL : Nat} {LL : List (List Ent)} {ps : List (Nat × Nat)} {C : List Ent} (h : RtR W B g N s sh told vL vN aL cL LL ps C) : ∃ a b c, vL = .slice a LL.length c ∧ (0 < LL.length → a = some ⟨b, 0, none⟩) ∧ LsM W b LL := by
  have hg : ∀ i (hi : i < LL.length), Good (kvs LL[i]) ∧ 0 < LL[i].length := fun i hi => by
    have := h.sg.each (kvs LL[i]) (by rw [← h.eL]; exact List.mem_map_of_mem (List.getElem_mem hi))
    rw [kvs_len] at this
    exact this
  rcases h.oL.2 with ⟨q, r⟩ | ⟨g', cap, cur, q, _⟩
  · exact ⟨none, 0, 0, by rw [q, r], fun q => by omega, ⟨fun i hi => by omega, hg⟩⟩
  · refine ⟨_, g', cap, q, fun _ => rfl, ⟨fun i hi => ?_, hg⟩⟩
    have hi' : i < ps.length := by rw [h.pl]; exact hi
    have o := h.oL
    rw [q] at o
    have r := o.cells (g := g') rfl i _ (lvals_at LL ps i hi hi')
    rw [Addr.add_lit, Nat.zero_add] at r
    exact ⟨ps[i].1, ps[i].2, r, (h.lE i hi hi').2⟩
theorem byts_take (L : List (List KV)) (k : Nat) : (byts (L.take k)).length ≤ (byts L).length := by
  have e : byts L = byts (L.take k) ++ byts (L.drop k) := by
    unfold byts
    rw [← List.flatten_append, ← List.map_append, List.take_append_drop]
  rw [e, List.length_append]
  omega

theorem RwO.klt {W : World} {B : Nat} {v : Value} {C : List Spn} {L : List (List KV)} (h : RwO W B v C L) : ∀ i, WtK C i → i < W.heap.size := by
  rintro i ⟨j, hj, x, hx, h0, rfl⟩
  obtain ⟨b', o', e1, e2, _⟩ := (h.ok j hj).k.cons h0
  rw [hx] at e1
  cases e1
  exact e2
set_option maxRecDepth 100000 in
set_option maxHeartbeats 3200000 in
theorem rnext_shut {W : World} {B g N : Nat} {M : Nat → Prop} {s : St} (h : RtAt W B M g N s true 0) :
    Calls Tryz.prog 24 #[.pointer (some ⟨g, 0, none⟩)] W fun e w' => ∃ v, e = .returned v ∧ OwnB w' W.heap.size 5 v (wholeB s.L) ∧ Upd (fun i => i = g) W w' := by
  obtain ⟨i0, hi, hz0, hz1, hz2⟩ := info_parts infoByte'
  obtain ⟨vL, vN, aL, cL, LL, ps, C, h, hM⟩ := h
  obtain ⟨a, b, c, hvL, ha, hls⟩ := h.lsm
  subst hvL
  have hsg := h.sg
  have hbe := hsg.beh
  have hel := end_len hsg
  have hma := hsg.many
  have HB := hide (rblocks_any a b LL.length c LL W rfl (by have := h.nlen; omega) ha hls (fun k _ => by have := byts_take (LL.map kvs) k; rw [h.eL] at this ⊢; unfold behP at hbe; omega))
  rw [h.eL] at HB
  have c1 := h.cells.2.1
  have c4 := h.cells.2.2.2.2.1
  have c5 := h.cells.2.2.2.2.2.1
  have hg := h.cells.2.2.2.2.2.2
  have HBK := hide h.blk
  have hby : (byts s.L).length ≤ 1099511627784 := by unfold behP at hbe; omega
  have heb : (endB s.L).length ≤ 3000000000 := by unfold endB; rw [List.length_append]; have : (plc (behP s.L) ++ [101, 110, 100, 46]).length = 12 := rfl; omega
  have HW : Hid (hd8 ++ byts s.L ++ endB s.L = wholeB s.L) := rfl
  clear h hM hls ha
  go_enter Tryz.func24, Tryz.ntmps24
  go_wp2_with fail
  refine HB.out.mono ?_
  rintro e w1 ⟨vb, vr, C1, rfl, ob, hrw, b1⟩
  obtain ⟨nb, hnb⟩ : ∃ n, (byts s.L).length = n := ⟨_, rfl⟩
  obtain ⟨ab, cb, hvb, hnb', _⟩ := ob.sliceN hnb
  subst hvb
  have OB := hide ob
  have RW := hide hrw
  have B1 := hide b1
  have NB := hide hnb'
  have HNB := hide hnb
  clear ob hrw b1 hnb' HB
  go_wp2_with fail
  refine (rhead8_any w1).mono ?_
  rintro e w2 ⟨v2, rfl, o2, b2⟩
  obtain ⟨a2, c2, hv2, _⟩ := o2.sliceN (n := 8) rfl
  subst hv2
  have z1 := B1.out.size
  have O2 := hide (o2.mono z1)
  have HA2 : Hid (∀ k, (Value.slice a2 8 c2).ownBlock = some k → w1.heap.size ≤ k) := fun k hk => (o2.owns.lt k hk).1
  have HR1 : Hid ((∀ k, vr.ownBlock = some k → k < w1.heap.size) ∧ ∀ i, WtK C1 i → i < w1.heap.size) := ⟨fun k hk => (RW.out.o.lt k hk).2, RW.out.klt⟩
  have B2 : Hid (Below W.heap.size W w2) := B1.out.trans (b2.mono z1)
  have R2 := hide (OB.out.below b2).row
  have RW2 := hide (RW.out.below b2)
  have z2 := B2.out.size
  clear o2 b2
  go_wp2_with (first
    | (at_builtin; refine append_b rfl (.tmp 14) (.tmp 15) 23 rfl W.heap.size 5 i0 Tryz.underlying23 hi hz0 hz1 hz2 (.slice a2 8 c2) hd8 rfl O2.out ab nb cb (byts s.L) rfl HNB.out NB.out R2.out (by show 8 + nb ≤ 140737488355328; omega) z2 ?_; intro v3 w3 o3 g3; obtain ⟨a3, c3, hv3, h3n⟩ := o3.sliceN (n := 8 + nb) (by rw [List.length_append, HNB.out]; rfl); clear h3n; subst hv3; have O3 := hide o3; have B3 : Hid (Below W.heap.size W w3) := B2.out.grown g3 z2 (fun k h => (O2.out.owns.lt k h).1); have RW3 : Hid (RwO w3 W.heap.size vr C1 s.L) := RW2.out.upd (Upd.of_grown (S := fun i => (Value.slice a2 8 c2).ownBlock = some i) g3 (fun k hk _ => hk)) (fun k hk q => by have := HR1.out.1 k hk; have := HA2.out k q; omega) (fun i hi q => by have := HR1.out.2 i hi; have := HA2.out i q; omega); have d4 := (B3.out.cell (p := ⟨g, 4, none⟩) hg).trans c4; clear o3 g3)
    | fail)
  refine (rend_any RW3.out hsg).mono ?_
  rintro e w4 ⟨v4, rfl, o4, b4⟩
  obtain ⟨n4, hn4⟩ : ∃ n, (endB s.L).length = n := ⟨_, rfl⟩
  obtain ⟨a4, c4', hv4, h4n, _⟩ := o4.sliceN hn4
  subst hv4
  have R4 := hide o4.row
  have N4 := hide h4n
  have HN4 := hide hn4
  have z3 := B3.out.size
  have O34 := hide (O3.out.below b4)
  have B4 : Hid (Below W.heap.size W w4) := B3.out.trans (b4.mono z3)
  have z4 := B4.out.size
  clear o4 b4 h4n
  go_wp2_with (first
    | (at_builtin; refine append_b rfl (.tmp 21) (.tmp 23) 23 rfl W.heap.size 5 i0 Tryz.underlying23 hi hz0 hz1 hz2 (.slice a3 (8 + nb) c3) (hd8 ++ byts s.L) rfl O34.out a4 n4 c4' (endB s.L) rfl HN4.out N4.out R4.out (by rw [List.length_append, HNB.out]; show 8 + nb + n4 ≤ 140737488355328; omega) z4 ?_; intro v5 w5 o5 g5; obtain ⟨a5, c5', hv5, h5n⟩ := o5.sliceN (n := 8 + nb + n4) (by rw [List.length_append, List.length_append, HNB.out, HN4.out]; rfl); clear h5n; subst hv5; have O5 := hide o5; have B5 : Hid (Below W.heap.size W w5) := B4.out.grown g5 z4 (fun k h => (O34.out.owns.lt k h).1); have bk := (B5.out.block g hg).trans HBK.out; have fz5 := frozen_blk bk 5; have d5 := (B5.out.cell (p := ⟨g, 5, none⟩) hg).trans c5; clear o5 g5 bk)
    | fail)
  have us := set_upd w5 g 5 (.int .i64 (8 + (nb : Int) + (n4 : Int)))
  have O6 := O5.out.blk (w' := w5.setCell ⟨g, 5, none⟩ (.int .i64 (8 + (nb : Int) + (n4 : Int)))) (fun k hk => us.block k (O5.out.owns.lt k hk).2 (fun q => by have := (O5.out.owns.lt k hk).1; have q' : k = g := q; omega))
  go_ret
  exact ⟨_, rfl, O6, (Upd.of_below B5.out _).trans us⟩

end Go.Proofs.YtepjblmjjegpgaaGreat

namespace Go.Proofs.YtepjblmjjegpgaaGreat
open Go.RowKit
set_option maxRecDepth 100000

theorem rt_new (w : World) (N : Nat) (hN : 1 ≤ N ∧ N ≤ 64) : RtR (w.alloc (.cells #[.int .i64 (N : Int), .slice none 0 0, .slice none 0 0, .slice none 0 0, .bool false, .int .i64 0] 43)) w.heap.size w.heap.size N ⟨[], []⟩ false 0 (.slice none 0 0) (.slice none 0 0) none 0 [] [] [] :=
  ⟨heap_alloc_new w _, World.ownsRow_nil _ _ _ _, rfl, rfl, fun i hi => absurd hi (Nat.not_lt_zero _), fun E hE => (by cases hE), World.ownsRow_nil _ _ _ _, rfl, fun e he => (by cases he), row_nil _ _ _, fun _ => ⟨rfl, rfl⟩, fun x hx => (by cases hx), Nat.zero_le _, ⟨fun q => (by cases q), fun q => (by cases q), fun p hp => (by cases hp)⟩, fun i q => (by cases q), fun p hp => (by cases hp), Nat.le_refl _, SG.nil, hN, Nat.zero_le _⟩

end Go.Proofs.YtepjblmjjegpgaaGreat

namespace Go.Proofs.YtepjblmjjegpgaaGreat
open Go.RowKit
set_option maxRecDepth 100000

set_option maxRecDepth 100000 in
set_option maxHeartbeats 3200000 in
theorem radd_shut {W : World} {B g N told : Nat} {M : Nat → Prop} {s : St} (h : RtAt W B M g N s true told) (e : Ent) :
    Calls Tryz.prog 18 #[.pointer (some ⟨g, 0, none⟩), .agg #[.slice e.ka e.ks.length e.kc, .slice e.va e.vs.length e.vc]] W (FltPost W 87) := by
  obtain ⟨vL, vN, aL, cL, LL, ps, C, h, hM⟩ := h
  have hbox : Below W.heap.size W (W.alloc (.cells #[.slice e.ka e.ks.length e.kc, .slice e.va e.vs.length e.vc] 38)) := (Below.refl _ _).alloc (Nat.le_refl _) _
  have X0 := hide (two_new2 W (.slice e.ka e.ks.length e.kc) (.slice e.va e.vs.length e.vc) 38)
  have HCH := hide (rcheck_any e.ka e.va e.ks.length e.kc e.vs.length e.vc (W.alloc (.cells #[.slice e.ka e.ks.length e.kc, .slice e.va e.vs.length e.vc] 38)))
  have hgW := h.cells.2.2.2.2.2.2
  have c4 := h.cells.2.2.2.2.1
  have HBOX := hide hbox
  clear h hM hbox
  generalize chkE e.ks.length e.vs.length = x at *
  generalize e.ks.length = lk at *
  generalize e.vs.length = lv at *
  go_enter Tryz.func18, Tryz.ntmps18
  go_wp2_with fail
  refine HCH.out.mono ?_
  rintro r w1 ⟨rfl, hb1⟩
  have B1 : Hid (Below W.heap.size W w1) := HBOX.out.trans (hb1.mono HBOX.out.size)
  have d4 := (B1.out.cell (p := ⟨g, 4, none⟩) hgW).trans c4
  clear hb1
  go_wp2_with fail
  go_ret
  exact ⟨rfl, B1.out⟩
set_option maxRecDepth 100000 in
set_option maxHeartbeats 800000 in
theorem rcut_shut {W : World} {B g N told : Nat} {M : Nat → Prop} {s : St} (h : RtAt W B M g N s true told) :
    Calls Tryz.prog 21 #[.pointer (some ⟨g, 0, none⟩)] W fun e w' => e = .returned (.int .i64 87) ∧ w' = W := by
  obtain ⟨vL, vN, aL, cL, LL, ps, C, h, hM⟩ := h
  have c4 := h.cells.2.2.2.2.1
  clear h hM
  go_enter Tryz.func21, Tryz.ntmps21
  go_wp2_with fail
  go_ret
  exact ⟨rfl, rfl⟩
def RlPost2 (W : World) (B : Nat) (M : Nat → Prop) (g N : Nat) (s : St) (told : Nat) (e : Ending) (w' : World) : Prop := e = .returned (.int .i64 87) ∧ RtUp W B M g N s true told w'
set_option maxRecDepth 100000 in
set_option maxHeartbeats 1600000 in
theorem rclose_shut {W : World} {B g N told : Nat} {M : Nat → Prop} {s : St} (h : RtAt W B M g N s true told) :
    Calls Tryz.prog 22 #[.pointer (some ⟨g, 0, none⟩)] W (RlPost2 W B M g N s told) := by
  have HC := hide (rcut_shut h)
  obtain ⟨vL, vN, aL, cL, LL, ps, C, h1, hM1⟩ := h
  have c4 := h1.cells.2.2.2.2.1
  have fz4 := frozen_blk h1.blk 4
  have HF : Hid (RlPost2 W B M g N s told (.returned (.int .i64 87)) (W.setCell ⟨g, 4, none⟩ (.bool true))) := ⟨rfl, M, ⟨vL, vN, aL, cL, LL, ps, C, rt_shut h1, hM1⟩, (set_upd W g 4 (.bool true)).mono (fun i _ q => (hM1 i).2 (.inl q)), fun _ q => .inl q⟩
  clear h1 hM1
  go_enter Tryz.func22, Tryz.ntmps22
  go_wp2_with fail
  refine HC.out.mono ?_
  rintro e w1 ⟨rfl, rfl⟩
  go_wp2_with fail
  go_ret
  exact HF.out
theorem rt_told {W W' : World} {B g N : Nat} {s : St} {sh : Bool} {told t : Nat} {vL vN : Value} {aL : Option Addr} {cL : Nat} {LL : List (List Ent)} {ps : List (Nat × Nat)} {C : List Ent} (h0 : RtR W B g N s sh told vL vN aL cL LL ps C) (hb : Below W.heap.size W W') : RtR (W'.setCell ⟨g, 5, none⟩ (.int .i64 (t : Int))) B g N s sh t vL vN aL cL LL ps C := by
  have h := h0.below hb
  have U := set_upd W' g 5 (.int .i64 (t : Int))
  have hge : ∀ i, i = g → B ≤ i := fun i q => by rw [q]; exact h.gB
  exact ⟨block_setCell h.blk 5 _, owns2_upd h.oL U (fun q hq r => h.dg.1 (by rw [← r]; exact hq)), h.pl, h.eL, fun i hi hi' => by
    have q := h.lE i hi hi'
    have ns : ¬ ps[i].1 = g := h.dg.2.2 _ (List.getElem_mem hi')
    exact ⟨q.1, fun j hj => U.cell (p := ⟨ps[i].1, 0 + j * 2, none⟩) (q.2.at0 j hj) ns, fun j hj => U.cell (p := ⟨ps[i].1, 0 + j * 2 + 1, none⟩) (q.2.at1 j hj) ns, fun j hj => (q.2.ok j hj).old (h.lx _ (List.getElem_mem hi) _ (List.getElem_mem hj)) U hge⟩, h.lx, owns2_upd h.oN U (fun q hq r => h.dg.2.1 (by rw [← r]; exact hq)), h.eN, fun e he => ⟨(h.kN e he).1.old (h.kN e he).2 U hge, (h.kN e he).2⟩, h.la.upd U (fun x hx h0 q => by have := h.lo x hx h0; have := hge _ q; omega), h.ln, h.lo, h.lc, h.dg, h.dn, h.dp, h.gB, h.sg, h.n1, h.lt⟩
/-- All bytes so far. -/
def fullB (s : St) (sh : Bool) : List Int := hd8 ++ byts s.L ++ (if sh then endB s.L else [])
def RnPost (W : World) (B : Nat) (M : Nat → Prop) (g N : Nat) (s : St) (sh : Bool) (told : Nat) (e : Ending) (w' : World) : Prop :=
  ∃ a n c, e = .returned (.slice a n c) ∧ n = (fullB s sh).length - told ∧ Row w' .u8 a ((fullB s sh).drop told) ∧ (a = none → n = 0 ∧ c = 0) ∧ n ≤ c ∧ RtUp W B M g N s sh (fullB s sh).length w'
theorem SG.full {s : St} (h : SG s) (sh : Bool) : (fullB s sh).length ≤ 2000000000000 := by
  have hbe := h.beh
  have hel := end_len h
  unfold behP at hbe
  have h8 : hd8.length = 8 := rfl
  have h12 : (plc (behP s.L) ++ [101, 110, 100, 46]).length = 12 := rfl
  unfold fullB endB
  cases sh <;> simp only [List.length_append, if_true, if_false, Bool.false_eq_true] at * <;> simp <;> omega

set_option maxRecDepth 100000 in
set_option maxHeartbeats 3200000 in
theorem rspans_any {W : World} {B g N told : Nat} {M : Nat → Prop} {s : St} {sh : Bool} (h : RtAt W B M g N s sh told) :
    Calls Tryz.prog 28 #[.pointer (some ⟨g, 0, none⟩)] W fun e w' => ∃ v C, e = .returned v ∧ RwO w' W.heap.size v C s.L ∧ Below W.heap.size W w' := by
  obtain ⟨vL, vN, aL, cL, LL, ps, C, h, hM⟩ := h
  obtain ⟨a, b, c, hvL, ha, hls⟩ := h.lsm
  subst hvL
  have hma := h.sg.many
  have hbe := h.sg.beh
  have HB := hide (rblocks_any a b LL.length c LL W rfl (by have := h.nlen; omega) ha hls (fun k _ => by have := byts_take (LL.map kvs) k; rw [h.eL] at this ⊢; unfold behP at hbe; omega))
  rw [h.eL] at HB
  have c1 := h.cells.2.1
  clear h hM hls ha
  go_enter Tryz.func28, Tryz.ntmps28
  go_wp2_with fail
  refine HB.out.mono ?_
  rintro e w1 ⟨vb, vr, C1, rfl, ob, hrw, b1⟩
  have RW := hide hrw
  have B1 := hide b1
  clear ob hrw b1 HB
  go_wp2_with fail
  go_ret
  exact ⟨_, C1, rfl, RW.out, B1.out⟩

theorem cutAt_own {w : World} {base : Nat} {e : TypeId} {a : Option Addr} {n c t : Nat} {zs : List Int} (h : OwnB w base e (.slice a n c) zs) {x : Addr} (hx : cutAt a t c = some x) : base ≤ x.block := by
  rcases h with ⟨h1, _⟩ | ⟨g, cap, cur, h1, h2, _⟩
  · cases h1
    simp [cutAt] at hx
  · cases h1
    unfold cutAt at hx
    simp at hx
    split at hx <;> simp at hx
    all_goals (subst hx; first | exact h2 | (unfold Addr.add; exact h2) | (unfold Addr.add; split <;> exact h2))
set_option maxRecDepth 100000 in
set_option maxHeartbeats 3200000 in
theorem rnext_f {W : World} {B g N told : Nat} {M : Nat → Prop} {s : St} (h : RtAt W B M g N s false told) (ht : told ≤ (fullB s false).length) :
    Calls Tryz.prog 24 #[.pointer (some ⟨g, 0, none⟩)] W (RnPost W B M g N s false told) := by
  obtain ⟨i0, hi, hz0, hz1, hz2⟩ := info_parts infoByte'
  obtain ⟨vL, vN, aL, cL, LL, ps, C, h, hM⟩ := h
  obtain ⟨a, b, c, hvL, ha, hls⟩ := h.lsm
  subst hvL
  have hsg := h.sg
  have hbe := hsg.beh
  have hel := end_len hsg
  have hma := hsg.many
  have HB := hide (rblocks_any a b LL.length c LL W rfl (by have := h.nlen; omega) ha hls (fun k _ => by have := byts_take (LL.map kvs) k; rw [h.eL] at this ⊢; unfold behP at hbe; omega))
  rw [h.eL] at HB
  have c1 := h.cells.2.1
  have c4 := h.cells.2.2.2.2.1
  have c5 := h.cells.2.2.2.2.2.1
  have hg := h.cells.2.2.2.2.2.2
  have HBK := hide h.blk
  have hby : (byts s.L).length ≤ 1099511627784 := by unfold behP at hbe; omega
  have heb : (endB s.L).length ≤ 3000000000 := by unfold endB; rw [List.length_append]; have : (plc (behP s.L) ++ [101, 110, 100, 46]).length = 12 := rfl; omega
  have HW : Hid (fullB s false = hd8 ++ byts s.L) := by show _ = _; unfold fullB; simp
  have HT := hide ht
  have hth := Nat.le_trans ht (hsg.full _)
  have HTOLD : Hid (∀ W', Below W.heap.size W W' → ∀ t : Nat, RtUp W B M g N s false t (W'.setCell ⟨g, 5, none⟩ (.int .i64 (t : Int)))) := fun W' hb t => ⟨M, ⟨_, _, _, _, _, _, _, rt_told h hb, hM⟩, (Upd.of_below hb _).trans ((set_upd W' g 5 _).mono (fun i _ q => (hM i).2 (.inl q))), fun _ q => .inl q⟩
  clear h hM hls ha ht
  go_enter Tryz.func24, Tryz.ntmps24
  go_wp2_with fail
  refine HB.out.mono ?_
  rintro e w1 ⟨vb, vr, C1, rfl, ob, hrw, b1⟩
  obtain ⟨nb, hnb⟩ : ∃ n, (byts s.L).length = n := ⟨_, rfl⟩
  obtain ⟨ab, cb, hvb, hnb', _⟩ := ob.sliceN hnb
  subst hvb
  have OB := hide ob
  have RW := hide hrw
  have B1 := hide b1
  have NB := hide hnb'
  have HNB := hide hnb
  clear ob hrw b1 hnb' HB
  go_wp2_with fail
  refine (rhead8_any w1).mono ?_
  rintro e w2 ⟨v2, rfl, o2, b2⟩
  obtain ⟨a2, c2, hv2, _⟩ := o2.sliceN (n := 8) rfl
  subst hv2
  have z1 := B1.out.size
  have O2 := hide (o2.mono z1)
  have HA2 : Hid (∀ k, (Value.slice a2 8 c2).ownBlock = some k → w1.heap.size ≤ k) := fun k hk => (o2.owns.lt k hk).1
  have HR1 : Hid ((∀ k, vr.ownBlock = some k → k < w1.heap.size) ∧ ∀ i, WtK C1 i → i < w1.heap.size) := ⟨fun k hk => (RW.out.o.lt k hk).2, RW.out.klt⟩
  have B2 : Hid (Below W.heap.size W w2) := B1.out.trans (b2.mono z1)
  have R2 := hide (OB.out.below b2).row
  have RW2 := hide (RW.out.below b2)
  have z2 := B2.out.size
  clear o2 b2
  go_wp2_with (first
    | (at_builtin; refine append_b rfl (.tmp 14) (.tmp 15) 23 rfl W.heap.size 5 i0 Tryz.underlying23 hi hz0 hz1 hz2 (.slice a2 8 c2) hd8 rfl O2.out ab nb cb (byts s.L) rfl HNB.out NB.out R2.out (by show 8 + nb ≤ 140737488355328; omega) z2 ?_; intro v3 w3 o3 g3; obtain ⟨a3, c3, hv3, h3n⟩ := o3.sliceN (n := 8 + nb) (by rw [List.length_append, HNB.out]; rfl); clear h3n; subst hv3; have O3 := hide o3; have B3 : Hid (Below W.heap.size W w3) := B2.out.grown g3 z2 (fun k h => (O2.out.owns.lt k h).1); have RW3 : Hid (RwO w3 W.heap.size vr C1 s.L) := RW2.out.upd (Upd.of_grown (S := fun i => (Value.slice a2 8 c2).ownBlock = some i) g3 (fun k hk _ => hk)) (fun k hk q => by have := HR1.out.1 k hk; have := HA2.out k q; omega) (fun i hi q => by have := HR1.out.2 i hi; have := HA2.out i q; omega); have d4 := (B3.out.cell (p := ⟨g, 4, none⟩) hg).trans c4; have htl : told ≤ 8 + nb := (by have q := HT.out; rw [HW.out, List.length_append, HNB.out] at q; exact q); have RF := fun W => run_from a3 (8 + nb) c3 told htl W; have bk := (B3.out.block g hg).trans HBK.out; have fz5 := frozen_blk bk 5; have d5 := (B3.out.cell (p := ⟨g, 5, none⟩) hg).trans c5; clear o3 g3 bk)
    | fail)
  have hr5 := O3.out.row
  have hl5 : (hd8 ++ byts s.L).length = 8 + nb := by rw [List.length_append, HNB.out]; rfl
  obtain ⟨_, _, hvv, hn5, hc5, _⟩ := O3.out.sliceN hl5
  cases hvv
  have HUP := HTOLD.out w3 B3.out (8 + nb)
  have ev : ((8 + nb : Nat) : Int) = (8 + (nb : Int)) := by omega
  rw [ev] at HUP
  have R6 := (cut_row (n := told) (by rw [hl5]; exact hc5) hr5).upd (set_upd w3 g 5 (.int .i64 (8 + (nb : Int)))) (fun x hx h0 q => by
    have q' : x.block = g := q
    have := cutAt_own O3.out hx
    omega)
  go_ret
  refine ⟨_, _, _, rfl, by rw [HW.out, hl5], by rw [HW.out]; exact R6, fun q => cut_none told hn5 q, by omega, by rw [HW.out, hl5]; exact HUP⟩

set_option maxRecDepth 100000 in
set_option maxHeartbeats 3200000 in
theorem rnext_t {W : World} {B g N told : Nat} {M : Nat → Prop} {s : St} (h : RtAt W B M g N s true told) (ht : told ≤ (fullB s true).length) :
    Calls Tryz.prog 24 #[.pointer (some ⟨g, 0, none⟩)] W (RnPost W B M g N s true told) := by
  obtain ⟨i0, hi, hz0, hz1, hz2⟩ := info_parts infoByte'
  obtain ⟨vL, vN, aL, cL, LL, ps, C, h, hM⟩ := h
  obtain ⟨a, b, c, hvL, ha, hls⟩ := h.lsm
  subst hvL
  have hsg := h.sg
  have hbe := hsg.beh
  have hel := end_len hsg
  have hma := hsg.many
  have HB := hide (rblocks_any a b LL.length c LL W rfl (by have := h.nlen; omega) ha hls (fun k _ => by have := byts_take (LL.map kvs) k; rw [h.eL] at this ⊢; unfold behP at hbe; omega))
  rw [h.eL] at HB
  have c1 := h.cells.2.1
  have c4 := h.cells.2.2.2.2.1
  have c5 := h.cells.2.2.2.2.2.1
  have hg := h.cells.2.2.2.2.2.2
  have HBK := hide h.blk
  have hby : (byts s.L).length ≤ 1099511627784 := by unfold behP at hbe; omega
  have heb : (endB s.L).length ≤ 3000000000 := by unfold endB; rw [List.length_append]; have : (plc (behP s.L) ++ [101, 110, 100, 46]).length = 12 := rfl; omega
  have HW : Hid (fullB s true = hd8 ++ byts s.L ++ endB s.L) := by show _ = _; unfold fullB; simp
  have HT := hide ht
  have hth := Nat.le_trans ht (hsg.full _)
  have HTOLD : Hid (∀ W', Below W.heap.size W W' → ∀ t : Nat, RtUp W B M g N s true t (W'.setCell ⟨g, 5, none⟩ (.int .i64 (t : Int)))) := fun W' hb t => ⟨M, ⟨_, _, _, _, _, _, _, rt_told h hb, hM⟩, (Upd.of_below hb _).trans ((set_upd W' g 5 _).mono (fun i _ q => (hM i).2 (.inl q))), fun _ q => .inl q⟩
  clear h hM hls ha ht
  go_enter Tryz.func24, Tryz.ntmps24
  go_wp2_with fail
  refine HB.out.mono ?_
  rintro e w1 ⟨vb, vr, C1, rfl, ob, hrw, b1⟩
  obtain ⟨nb, hnb⟩ : ∃ n, (byts s.L).length = n := ⟨_, rfl⟩
  obtain ⟨ab, cb, hvb, hnb', _⟩ := ob.sliceN hnb
  subst hvb
  have OB := hide ob
  have RW := hide hrw
  have B1 := hide b1
  have NB := hide hnb'
  have HNB := hide hnb
  clear ob hrw b1 hnb' HB
  go_wp2_with fail
  refine (rhead8_any w1).mono ?_
  rintro e w2 ⟨v2, rfl, o2, b2⟩
  obtain ⟨a2, c2, hv2, _⟩ := o2.sliceN (n := 8) rfl
  subst hv2
  have z1 := B1.out.size
  have O2 := hide (o2.mono z1)
  have HA2 : Hid (∀ k, (Value.slice a2 8 c2).ownBlock = some k → w1.heap.size ≤ k) := fun k hk => (o2.owns.lt k hk).1
  have HR1 : Hid ((∀ k, vr.ownBlock = some k → k < w1.heap.size) ∧ ∀ i, WtK C1 i → i < w1.heap.size) := ⟨fun k hk => (RW.out.o.lt k hk).2, RW.out.klt⟩
  have B2 : Hid (Below W.heap.size W w2) := B1.out.trans (b2.mono z1)
  have R2 := hide (OB.out.below b2).row
  have RW2 := hide (RW.out.below b2)
  have z2 := B2.out.size
  clear o2 b2
  go_wp2_with (first
    | (at_builtin; refine append_b rfl (.tmp 14) (.tmp 15) 23 rfl W.heap.size 5 i0 Tryz.underlying23 hi hz0 hz1 hz2 (.slice a2 8 c2) hd8 rfl O2.out ab nb cb (byts s.L) rfl HNB.out NB.out R2.out (by show 8 + nb ≤ 140737488355328; omega) z2 ?_; intro v3 w3 o3 g3; obtain ⟨a3, c3, hv3, h3n⟩ := o3.sliceN (n := 8 + nb) (by rw [List.length_append, HNB.out]; rfl); clear h3n; subst hv3; have O3 := hide o3; have B3 : Hid (Below W.heap.size W w3) := B2.out.grown g3 z2 (fun k h => (O2.out.owns.lt k h).1); have RW3 : Hid (RwO w3 W.heap.size vr C1 s.L) := RW2.out.upd (Upd.of_grown (S := fun i => (Value.slice a2 8 c2).ownBlock = some i) g3 (fun k hk _ => hk)) (fun k hk q => by have := HR1.out.1 k hk; have := HA2.out k q; omega) (fun i hi q => by have := HR1.out.2 i hi; have := HA2.out i q; omega); have d4 := (B3.out.cell (p := ⟨g, 4, none⟩) hg).trans c4; clear o3 g3)
    | fail)
  refine (rend_any RW3.out hsg).mono ?_
  rintro e w4 ⟨v4, rfl, o4, b4⟩
  obtain ⟨n4, hn4⟩ : ∃ n, (endB s.L).length = n := ⟨_, rfl⟩
  obtain ⟨a4, c4', hv4, h4n, _⟩ := o4.sliceN hn4
  subst hv4
  have R4 := hide o4.row
  have N4 := hide h4n
  have HN4 := hide hn4
  have z3 := B3.out.size
  have O34 := hide (O3.out.below b4)
  have B4 : Hid (Below W.heap.size W w4) := B3.out.trans (b4.mono z3)
  have z4 := B4.out.size
  clear o4 b4 h4n
  go_wp2_with (first
    | (at_builtin; refine append_b rfl (.tmp 21) (.tmp 23) 23 rfl W.heap.size 5 i0 Tryz.underlying23 hi hz0 hz1 hz2 (.slice a3 (8 + nb) c3) (hd8 ++ byts s.L) rfl O34.out a4 n4 c4' (endB s.L) rfl HN4.out N4.out R4.out (by rw [List.length_append, HNB.out]; show 8 + nb + n4 ≤ 140737488355328; omega) z4 ?_; intro v5 w5 o5 g5; obtain ⟨a5, c5', hv5, h5n⟩ := o5.sliceN (n := 8 + nb + n4) (by rw [List.length_append, List.length_append, HNB.out, HN4.out]; rfl); clear h5n; subst hv5; have O5 := hide o5; have htl : told ≤ 8 + nb + n4 := (by have q := HT.out; rw [HW.out, List.length_append, List.length_append, HNB.out, HN4.out] at q; exact q); have RF := fun W => run_from a5 (8 + nb + n4) c5' told htl W; have kw : IntKind.i64.wrap (8 + (nb : Int) + (n4 : Int)) = 8 + (nb : Int) + (n4 : Int) := (by rw [IntKind.wrap_i64]; omega); have B5 : Hid (Below W.heap.size W w5) := B4.out.grown g5 z4 (fun k h => (O34.out.owns.lt k h).1); have bk := (B5.out.block g hg).trans HBK.out; have fz5 := frozen_blk bk 5; have d5 := (B5.out.cell (p := ⟨g, 5, none⟩) hg).trans c5; clear o5 g5 bk)
    | fail)
  have hr5 := O5.out.row
  have hl5 : (hd8 ++ byts s.L ++ endB s.L).length = 8 + nb + n4 := by rw [List.length_append, List.length_append, HNB.out, HN4.out]; rfl
  obtain ⟨_, _, hvv, hn5, hc5, _⟩ := O5.out.sliceN hl5
  cases hvv
  have HUP := HTOLD.out w5 B5.out (8 + nb + n4)
  have ev : ((8 + nb + n4 : Nat) : Int) = (8 + (nb : Int) + (n4 : Int)) := by omega
  rw [ev] at HUP
  have R6 := (cut_row (n := told) (by rw [hl5]; exact hc5) hr5).upd (set_upd w5 g 5 (.int .i64 (8 + (nb : Int) + (n4 : Int)))) (fun x hx h0 q => by
    have q' : x.block = g := q
    have := cutAt_own O5.out hx
    omega)
  go_ret
  refine ⟨_, _, _, rfl, by rw [HW.out, hl5], by rw [HW.out]; exact R6, fun q => cut_none told hn5 q, by omega, by rw [HW.out, hl5]; exact HUP⟩

theorem rnext_any {W : World} {B g N told : Nat} {M : Nat → Prop} {s : St} {sh : Bool} (h : RtAt W B M g N s sh told) (ht : told ≤ (fullB s sh).length) :
    Calls Tryz.prog 24 #[.pointer (some ⟨g, 0, none⟩)] W (RnPost W B M g N s sh told) := by
  cases sh with
  | true => exact rnext_t h ht
  | false => exact rnext_f h ht

end Go.Proofs.YtepjblmjjegpgaaGreat

namespace Go.Proofs.YtepjblmjjegpgaaGreat
open Go.RowKit
set_option maxRecDepth 100000

theorem whole_nil : (wholeB []).length = 28 := by decide +kernel
set_option maxRecDepth 100000 in
set_option maxHeartbeats 800000 in
theorem slives_any (w : World) :
    Calls Tryz.prog 8 #[] w fun e w' => e = .returned (.bool true) ∧ Below w.heap.size w w' := by
  have HB : Hid (Calls Tryz.prog 9 #[.slice none 0 0, .int .i64 1] w fun e w' => ∃ a c, e = .returned (.tuple #[.slice a 28 c, .int .i64 0, .int .i64 0]) ∧ Below w.heap.size w w') := by
    refine (sbytes_any none 0 0 0 0 [] 1 w (by omega) rfl (by omega) (fun h => by omega) ⟨fun i hi => absurd hi (Nat.not_lt_zero _), fun i hi => absurd hi (Nat.not_lt_zero _), fun i hi => absurd hi (Nat.not_lt_zero _)⟩).mono ?_
    rintro e w' ⟨v, r, n, zs, rfl, hE, ho, hb⟩
    rcases hE with ⟨h1, _⟩ | ⟨_, rfl, rfl, rfl⟩
    · exact absurd h1 (Nat.not_lt_zero _)
    · obtain ⟨a, c, rfl, _⟩ := ho.sliceN (n := 28) whole_nil
      exact ⟨a, c, rfl, hb⟩
  go_enter Tryz.func8, Tryz.ntmps8
  go_wp2_with fail
  refine HB.out.mono ?_
  rintro e w1 ⟨a, c, rfl, hb⟩
  have B1 := hide hb
  clear hb
  go_wp2_with fail
  go_ret
  exact ⟨rfl, B1.out⟩

end Go.Proofs.YtepjblmjjegpgaaGreat
