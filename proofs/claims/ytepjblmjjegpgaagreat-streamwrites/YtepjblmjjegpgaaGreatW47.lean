/- stream: a Writer's rows, copied: their keys too. -/
import Derived.Test.YtepjblmjjegpgaaGreatW46
import Derived.Test.YtepjblmjjegpgaaGreatW20
import Derived.Test.YtepjblmjjegpgaaGreatW45
import Derived.Deep.Upon
import Derived.Test.YtepjblmjjegpgaaGreatW15
namespace Go.Proofs.YtepjblmjjegpgaaGreat
open Go.RowKit
set_option maxRecDepth 100000

structure CpI (w wr : World) (g n cap : Nat) (C : List Spn) (k : Nat) : Prop where
  ex : ∃ D : List Spn, D.length = n ∧ rws D = rws C ∧ OwnS wr w.heap.size (.slice (some ⟨g, 0, none⟩) n cap) D ∧ (∀ i (h : i < D.length), i < k → OwnB wr w.heap.size 5 D[i].kv D[i].ks ∧ D[i].kv.ownBlock ≠ some g) ∧ (∀ i (h : i < D.length) (h' : i < C.length), k ≤ i → D[i] = C[i])
  b : Below w.heap.size w wr
theorem CpI.step {w wr w1 : World} {g n cap k : Nat} {C : List Spn} (h : CpI w wr g n cap C k) (hk : k < C.length) (hn : C.length = n) {a : Option Addr} {c : Nat} (ho : OwnB w1 wr.heap.size 5 (.slice a C[k].ks.length c) C[k].ks) (hb : Below wr.heap.size wr w1) : CpI w (w1.setCell ⟨g, k * 4, none⟩ (.slice a C[k].ks.length c)) g n cap C (k + 1) := by
  obtain ⟨⟨D, e1, e2, e3, e4, e5⟩, b⟩ := h
  have hz := b.size
  have b1 := b.trans (hb.mono hz)
  have hgl := e3.lt g rfl
  have hkD : k < D.length := by omega
  have ek := e5 k hkD hk (Nat.le_refl _)
  have u := set_upd w1 g (k * 4) (.slice a C[k].ks.length c)
  refine ⟨⟨D.set k ⟨a, c, C[k].ks, C[k].pl, C[k].ln, C[k].n⟩, by rw [List.length_set]; exact e1, ?_, ?_, ?_, ?_⟩, b1.setCell hgl.1 _⟩
  · rw [← e2]
    unfold rws
    rw [List.map_set]
    apply List.ext_getElem
    · simp
    · intro i h1 h2
      rw [List.getElem_set]
      by_cases hi : k = i
      · subst hi
        rw [if_pos rfl, List.getElem_map, ek]
        rfl
      · rw [if_neg hi]
  · exact (e3.below hb).key k hkD _ (by rw [ek]) (by rw [ek]) (by rw [ek])
  · intro i hi hik
    rw [List.length_set] at hi
    by_cases h0 : k = i
    · subst h0
      rw [List.getElem_set_self]
      have hne : ∀ q, (Value.slice a C[k].ks.length c).ownBlock = some q → q ≠ g := fun q hq => by
        have := (ho.owns.lt q hq).1; omega
      exact ⟨(ho.mono hz).upd u (fun q hq r => hne q hq r), fun hq => hne g hq rfl⟩
    · rw [List.getElem_set_ne h0]
      have q := e4 i hi (by omega)
      exact ⟨(q.1.below hb).upd u (fun x hx r => q.2 (by rw [← show x = g from r]; exact hx)), q.2⟩
  · intro i hi hi' hik
    rw [List.length_set] at hi
    rw [List.getElem_set_ne (by omega)]
    exact e5 i hi hi' (by omega)
theorem cells4_row {w : World} {B g n cap : Nat} {C : List Spn} (h : OwnS w B (.slice (some ⟨g, 0, none⟩) n cap) C) : ∀ j u, (cells4 C)[j]? = some u → w.cell? ((⟨g, 0, none⟩ : Addr).add j) = some u := by
  rcases h with ⟨q, _⟩ | ⟨g', cap', cur, hv, hb, hg, hn, hm, hs, ht, hz⟩
  · cases q
  · cases hv
    intro j u hj
    rw [Addr.add_lit, Nat.zero_add, cell_of_row _ _ _ _ _ _ hg]
    rw [← ht, List.getElem?_take] at hj
    split at hj
    · rw [Array.getElem?_toList] at hj; exact hj
    · cases hj
def SpPost (w : World) (C : List Spn) (e : Ending) (w' : World) : Prop := ∃ v D, e = .returned v ∧ RdL w' w.heap.size v D ∧ rws D = rws C ∧ Below w.heap.size w w'
set_option maxRecDepth 100000 in
set_option maxHeartbeats 1600000 in
theorem copied_nil (w : World) : Calls Tryz.prog 59 #[.slice none 0 0] w (SpPost w []) := by
  go_enter Tryz.func59, Tryz.ntmps59
  go_wp2_with fail
  refine (sclone_nil w).mono ?_
  rintro e w1 ⟨rfl, rfl⟩
  go_wp2_with fail
  refine wp_loop_rounds 1 ?_
  rw [rounds_succ]
  go_wp2_with fail
  go_ret
  exact ⟨_, [], rfl, RdL.nil _ _, rfl, Below.refl _ _⟩
set_option maxRecDepth 100000 in
set_option maxHeartbeats 1600000 in
/-- Rows that are none, yet not nil. -/
theorem sclone_zero (x : Addr) (cap : Nat) (w : World) :
    Calls Tryz.prog 99 #[.slice (some x) 0 cap] w fun e w' => e = .returned (.slice (some ⟨w.heap.size, 0, none⟩) 0 0) ∧ w' = w.alloc (.cells #[] 97) := by
  obtain ⟨i, hi, hz, hsize, hby⟩ := info_parts infoS'
  have qn : ∀ w : World, (binOp .eql 51 (.slice (some x) 0 cap) (.slice none 0 0)).run Tryz.prog w = .ok (.bool false) w := fun w => Lib.run_eql_slice_nil w _ _ _ _ _ _ _ Tryz.underlying51
  have HR := hide (run_append_nothing (P := Tryz.prog) (w.alloc (.cells #[] 97)) 51 51 51 97 i Tryz.underlying51 hi (some ⟨w.heap.size, 0, none⟩) 0 0 (Nat.le_refl _) (.slice (some x) 0 cap) (Src.ofSlice _ Tryz.underlying51 x 0 cap [] (by simp) (fun j u q => by simp at q) (fun u q => by cases q)))
  go_enter Tryz.func99, Tryz.ntmps99
  go_wp2_with (first
    | (at_builtin; refine Lib.wpList_append_run _ rfl (.tmp 5) (.tmp 6) 51 51 rfl (.slice (some ⟨w.heap.size, 0, none⟩) 0 0) (.slice (some x) 0 cap) rfl rfl _ _ HR.out ?_)
    | fail)
  go_ret
  exact ⟨rfl, rfl⟩
set_option maxRecDepth 100000 in
set_option maxHeartbeats 1600000 in
theorem copied_zero (x : Addr) (cap : Nat) (w : World) : Calls Tryz.prog 59 #[.slice (some x) 0 cap] w (SpPost w []) := by
  have hb : Hid (Below w.heap.size w (w.alloc (.cells #[] 97))) := (Below.refl _ _).alloc (Nat.le_refl _) _
  have HR : Hid (SpPost w [] (.returned (.slice (some ⟨w.heap.size, 0, none⟩) 0 0)) (w.alloc (.cells #[] 97))) := ⟨_, [], rfl, ⟨.inr ⟨w.heap.size, 0, #[], rfl, Nat.le_refl _, heap_alloc_new w _, Nat.le_refl _, Nat.zero_le _, rfl, rfl, fun i _ h => absurd h (Nat.not_lt_zero _)⟩, fun i h => by simp at h, fun i h => by simp at h, fun i h => by simp at h, fun _ h => absurd h (Nat.not_lt_zero _), by simp⟩, rfl, hb.out⟩
  go_enter Tryz.func59, Tryz.ntmps59
  go_wp2_with fail
  refine (sclone_zero x cap w).mono ?_
  rintro e w1 ⟨rfl, rfl⟩
  go_wp2_with fail
  refine wp_loop_rounds 1 ?_
  rw [rounds_succ]
  go_wp2_with fail
  go_ret
  exact HR.out
set_option maxRecDepth 100000 in
set_option maxHeartbeats 3200000 in
theorem copied_some {w : World} {B g n cap : Nat} {C : List Spn} (h : OwnS w B (.slice (some ⟨g, 0, none⟩) n cap) C) (hn : C.length = n) (h0 : 0 < n) (hm : n ≤ 8388608) (hok : ∀ i (h : i < C.length), C[i].Ok w) (gd : Gd (rws C) C.length) :
    Calls Tryz.prog 59 #[.slice (some ⟨g, 0, none⟩) n cap] w (SpPost w C) := by
  have HC := hide (sclone_some ⟨g, 0, none⟩ n cap C w hn h0 hm (cells4_row h))
  have HK : Hid (∀ W', Below w.heap.size w W' → ∀ i (h : i < C.length), C[i].Ok W') := fun W' hb i hi => (hok i hi).below hb
  have GD := hide gd
  clear h hok gd
  go_enter Tryz.func59, Tryz.ntmps59
  go_wp2_with fail
  refine HC.out.mono ?_
  rintro e w1 ⟨g1, c1, rfl, o1, b1⟩
  have HI0 : Hid (CpI w w1 g1 n c1 C 0) := ⟨⟨C, hn, rfl, o1, fun i _ hi => absurd hi (Nat.not_lt_zero _), fun i _ _ _ => rfl⟩, b1⟩
  clear o1 b1 HC
  go_wp2_with fail
  go_loopw [9] (fun q wr => ∃ k : Nat, k ≤ n ∧ q = .int .i64 (k : Int) ∧ Hid (CpI w wr g1 n c1 C k)) (fun q _ => n - (intOf q).toNat)
  case atStart => exact ⟨0, by omega, rfl, HI0⟩
  case round =>
    clear HI0
    obtain ⟨k, hk, rfl, HI⟩ := hrel
    rename World => wr
    by_cases hlt : k < n
    · have i1 : (k : Int) < (n : Int) := by omega
      have i2 : (0 : Int) ≤ (k : Int) := by omega
      have hkC : k < C.length := by omega
      have HS := hide (fun (w1 : World) (a : Option Addr) (c : Nat) (ho : OwnB w1 wr.heap.size 5 (.slice a C[k].ks.length c) C[k].ks) (hb : Below wr.heap.size wr w1) => HI.out.step hkC hn ho hb)
      obtain ⟨D, e1, e2, e3, e4, e5⟩ := HI.out.ex
      have hkD : k < D.length := by omega
      have ok := HK.out wr HI.out.b k hkC
      obtain ⟨a', b', cap', q1, q2, q3⟩ := e3.slice
      have qa := q2 (by omega)
      subst qa
      have gb : g1 = b' := by cases q1; rfl
      subst gb
      have c0 := (q3 k hkD).c0
      rw [e5 k hkD hkC (Nat.le_refl _)] at c0
      have hfz : wr.frozen? ⟨g1, k * 4, none⟩ = false := by
        rcases e3 with ⟨q, _⟩ | ⟨g', cap'', cur, hv, _, hg, _⟩
        · cases q
        · cases hv; simp [World.frozen?, hg]
      have hgl := (e3.lt g1 rfl).2
      clear e1 e2 e3 e4 e5 q1 q2 q3 HI
      obtain ⟨nk, hnk⟩ : ∃ x, C[k].ks.length = x := ⟨_, rfl⟩
      have HB := hide (bclone_any C[k].ka nk C[k].kc C[k].ks wr hnk (by have := ok.zk; omega) (fun q => by rw [← hnk]; exact ok.nk q) ok.k)
      unfold Spn.kv at c0
      rw [hnk] at c0
      rw [hnk] at HS
      have HNK := hide hnk
      clear ok hkD
      go_wp2_with fail
      refine HB.out.mono ?_
      rintro e w2 ⟨v, rfl, o2, b2⟩
      obtain ⟨a2, c2, hv2, _⟩ := o2.sliceN hnk
      subst hv2
      have HN := HS.out w2 a2 c2 o2 b2
      have hfz2 := (b2.frozen (p := ⟨g1, k * 4, none⟩) hgl).trans hfz
      have c02 := (b2.cell (p := ⟨g1, k * 4, none⟩) hgl).trans c0
      clear o2 b2 HB c0 hfz
      have HN' := hide HN
      clear HN
      go_wp2_with fail
      go_roundw
      case rel => exact ⟨k + 1, by omega, by go_num, HN'⟩
      case measure => simp [intOf]; omega
    · have i1 : ¬ (k : Int) < (n : Int) := by omega
      obtain rfl : k = n := by omega
      obtain ⟨D, e1, e2, e3, e4, e5⟩ := HI.out.ex
      have hB := HI.out.b
      have e6 : rws D = rws C := e2
      have HR : Hid (SpPost w C (.returned (.slice (some ⟨g1, 0, none⟩) k c1)) wr) := ⟨_, D, rfl, ⟨e3, fun i hi => (e4 i hi (by omega)).1, fun i hi b hb q => (e4 i hi (by omega)).2 (by rw [hb]; exact q.symm), fun i hi => by
        have hiC : i < C.length := by omega
        have q := rws_at D i hi
        rw [e6, rws_at C i hiC] at q
        have q' : C[i].ks = D[i].ks := congrArg FRow.k q
        rw [← q']
        exact (HK.out w (Below.refl _ _) i hiC).k8, by rw [e6, e1, ← hn]; exact GD.out, by omega⟩, e6, hB⟩
      clear e1 e2 e3 e4 e5 e6 hB HI
      go_wp2_with fail
      go_ret
      exact HR.out

end Go.Proofs.YtepjblmjjegpgaaGreat

namespace Go.Proofs.YtepjblmjjegpgaaGreat
open Go.RowKit
set_option maxRecDepth 100000

def CutPost (W : World) (B g : Nat) (M : Nat → Prop) (N : Nat) (s : St) (zs : List Int) (e : Ending) (w' : World) : Prop := e = .returned (.int .i64 0) ∧ WtUp W B g M N (sCut s) false (zs ++ sFr s) w'
set_option maxRecDepth 100000 in
set_option maxHeartbeats 1600000 in
theorem wcut_any {W : World} {B g N : Nat} {M : Nat → Prop} {s : St} {zs : List Int} (h : WtAt W B M g N s false zs) :
    Calls Tryz.prog 20 #[.pointer (some ⟨g, 0, none⟩)] W (CutPost W B g M N s zs) := by
  have HE := hide (wend_any h)
  obtain ⟨gb, Mb, vr, vs, C, h, hM⟩ := h
  have c4 := h.cells.2.2.2.2.1
  clear h hM
  go_enter Tryz.func20, Tryz.ntmps20
  go_wp2_with fail
  refine HE.out.mono ?_
  rintro e w1 ⟨rfl, hu⟩
  have HU : Hid (CutPost W B g M N s zs (.returned (.int .i64 0)) w1) := ⟨rfl, hu⟩
  clear hu
  go_wp2_with fail
  go_ret
  exact HU.out
set_option maxRecDepth 100000 in
set_option maxHeartbeats 1600000 in
theorem wcut_shut {W : World} {B g N : Nat} {M : Nat → Prop} {s : St} {zs : List Int} (h : WtAt W B M g N s true zs) :
    Calls Tryz.prog 20 #[.pointer (some ⟨g, 0, none⟩)] W fun e w' => e = .returned (.int .i64 87) ∧ w' = W := by
  obtain ⟨gb, Mb, vr, vs, C, h, hM⟩ := h
  have c4 := h.cells.2.2.2.2.1
  clear h hM
  go_enter Tryz.func20, Tryz.ntmps20
  go_wp2_with fail
  go_ret
  exact ⟨rfl, rfl⟩
set_option maxRecDepth 100000 in
set_option maxHeartbeats 1600000 in
theorem wclose_shut {W : World} {B g N : Nat} {M : Nat → Prop} {s : St} {zs : List Int} (h : WtAt W B M g N s true zs) :
    Calls Tryz.prog 14 #[.pointer (some ⟨g, 0, none⟩)] W fun e w' => e = .returned (.int .i64 87) ∧ w' = W := by
  obtain ⟨gb, Mb, vr, vs, C, h, hM⟩ := h
  have c4 := h.cells.2.2.2.2.1
  clear h hM
  go_enter Tryz.func14, Tryz.ntmps14
  go_wp2_with fail
  go_ret
  exact ⟨rfl, rfl⟩
set_option maxRecDepth 100000 in
set_option maxHeartbeats 1600000 in
theorem wadd_shut {W : World} {B g N : Nat} {M : Nat → Prop} {s : St} {zs : List Int} (h : WtAt W B M g N s true zs) (e : Ent) (ok : e.Ok W) :
    Calls Tryz.prog 15 #[.pointer (some ⟨g, 0, none⟩), .agg #[e.kv, e.vv]] W (FltPost W 87) := by
  obtain ⟨gb, Mb, vr, vs, C, h, hM⟩ := h
  have hbox : Below W.heap.size W (W.alloc (.cells #[e.kv, e.vv] 38)) := (Below.refl _ _).alloc (Nat.le_refl _) _
  have X0 := hide (two_new2 W e.kv e.vv 38)
  have HFL := hide (fault_shut (h.below hbox) e (ok.below hbox))
  have HBOX := hide hbox
  clear h ok hbox hM
  unfold Ent.kv Ent.vv at *
  generalize e.ks.length = lk at *
  generalize e.vs.length = lv at *
  go_enter Tryz.func15, Tryz.ntmps15
  go_wp2_with fail
  refine HFL.out.mono ?_
  rintro r w1 ⟨rfl, hb1⟩
  have HF : Hid (FltPost W 87 (.returned (.int .i64 87)) w1) := ⟨rfl, HBOX.out.trans (hb1.mono HBOX.out.size)⟩
  clear hb1
  go_wp2_with fail
  go_ret
  exact HF.out
def WspPost (W : World) (L : List (List KV)) (e : Ending) (w' : World) : Prop := ∃ v D, e = .returned v ∧ RdL w' W.heap.size v D ∧ rws D = rowsOf L ∧ Below W.heap.size W w'
set_option maxRecDepth 100000 in
set_option maxHeartbeats 1600000 in
theorem wspans_any {W : World} {B g N : Nat} {M : Nat → Prop} {s : St} {sh : Bool} {zs : List Int} (h : WtAt W B M g N s sh zs) :
    Calls Tryz.prog 26 #[.pointer (some ⟨g, 0, none⟩)] W (WspPost W s.L) := by
  obtain ⟨gb, Mb, vr, vs, C, h, hM⟩ := h
  have c2 := h.cells.2.2.1
  have hl := h.rw.len
  have HC : Hid (Calls Tryz.prog 59 #[vr] W (SpPost W C)) := by
    have o := h.rw.o
    rcases id o with ⟨q1, q2⟩ | ⟨g', cap, cur, q1, _⟩
    · subst q1 q2; exact copied_nil W
    · by_cases h0 : C.length = 0
      · have e0 : C = [] := List.eq_nil_of_length_eq_zero h0
        subst e0
        rw [q1]
        exact copied_zero _ _ W
      · rw [q1] at o ⊢
        exact copied_some o rfl (by omega) (by rw [hl]; exact h.sg.many) h.rw.ok (by rw [h.rw.e, hl]; exact h.sg.gd)
  have HE := hide h.rw.e
  clear h hM hl
  go_enter Tryz.func26, Tryz.ntmps26
  go_wp2_with fail
  refine HC.out.mono ?_
  rintro e w1 ⟨v, D, rfl, hr, he, hb⟩
  have HR : Hid (WspPost W s.L (.returned v) w1) := ⟨v, D, rfl, hr, he.trans HE.out, hb⟩
  clear hr he hb HC
  go_wp2_with fail
  go_ret
  exact HR.out

theorem block_setF {w : World} {b : Nat} {cs : Array Value} {T : TypeId} {f : Nat × Nat} (h : w.heap[b]? = some (.cells cs T f)) (k : Nat) (u : Value) :
    (w.setCell ⟨b, k, none⟩ u).heap[b]? = some (.cells (cs.setIfInBounds k u) T f) := by
  have hlt := lt_of_block h
  have h' : w.heap[b] = .cells cs T f := by simpa [Array.getElem?_eq_getElem hlt] using h
  show (w.heap.modify b _)[b]? = _
  rw [Array.getElem?_eq_getElem (by simpa using hlt), Array.getElem_modify_self, h']
  rfl
set_option maxHeartbeats 1600000 in
theorem spoil_hd (g : Nat) (w : World) (hg : w.heap[g]? = some (.cells hdC 5 (8, 9))) :
    Calls Tryz.prog 25 #[.slice (some ⟨g, 0, none⟩) 8 8] w fun e w' => e = .returned (.tuple #[]) ∧ w.grownBy w' (some g) := by
  have hs : hdC.size = 8 := rfl
  have hb : ∀ u ∈ hdC.toList, IsByte u := by unfold hdC IsByte; simp
  generalize hdC = cur at *
  go_enter Tryz.func25, Tryz.ntmps25
  go_wp2
  go_loopw [2] (fun i wr => ∃ (k : Nat) (cs : Array Value), k ≤ 8 ∧ i = .int .i64 k ∧ wr.heap[g]? = some (.cells cs 5 (8, 9)) ∧ cs.size = 8 ∧ Hid (∀ u ∈ cs.toList, IsByte u) ∧ w.grownBy wr (some g)) (fun i _ => 8 - (intOf i).toNat)
  case atStart => exact ⟨0, cur, by omega, rfl, hg, hs, hb, grownBy_refl _ _⟩
  case round =>
    clear hg hs hb
    obtain ⟨k, cs, hk, rfl, hg, hs, HB, hgr⟩ := hrel
    by_cases hlt : k < 8
    · obtain ⟨x, hx⟩ := HB.out cs[k] (by simp)
      have hcell : wr.cell? ⟨g, k, none⟩ = some (.int .u8 x) := by rw [cell_of_row _ _ _ _ _ _ hg, Array.getElem?_eq_getElem (by omega), hx]
      have hfr : wr.frozen? ⟨g, k, none⟩ = false := by simp [World.frozen?, hg]; omega
      have HG := hide hg
      have i1 : (k : Int) < 8 := by omega
      clear hg hx
      go_wp2
      go_roundw
      case rel => exact ⟨k + 1, _, by omega, by go_num, block_setF HG.out k _, by rw [Array.size_setIfInBounds]; exact hs, isByte_set HB.out k _, grownBy_setCell hgr k _⟩
      case measure => simp [intOf]; omega
    · have hge : ¬ (k : Int) < 8 := by omega
      go_wp2
      go_end0
      exact ⟨rfl, hgr⟩
theorem spoil_su {w : World} {B : Nat} {v : Value} {zs : List Int} (h : SuR w B v zs) :
    Calls Tryz.prog 25 #[v] w fun e w' => e = .returned (.tuple #[]) ∧ w.grownBy w' v.ownBlock := by
  rcases h with h | ⟨g, rfl, _, hg, _⟩
  · exact spoil_any h
  · exact spoil_hd g w hg

end Go.Proofs.YtepjblmjjegpgaaGreat
