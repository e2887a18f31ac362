/- The document's source of any behaviour. -/
import Derived.Test.YtcffekhlnidjnaaOddP
import Derived.Deep.DeepCutAuto
import Derived.Deep.CutBlock
import Derived.BigRegion
namespace Go.Proofs.Ytcffekhlnidjnaa
open Go.RowKit

def OB (W : World) (g : Nat) (vn ve : Value) (c add : Nat) (nx : Int) (vs : Value) : Prop := W.heap[g]? = some (.cells #[.slice none 0 0, .slice none 0 0, .int .i64 0, .bool false, .int .i64 (c : Int), .int .i64 0, .bool true, vn, ve, .int .u8 (add : Int), .int .u8 nx, vs] 46 (0, 0))
theorem ob_cells {W : World} {g : Nat} {vn ve : Value} {c add : Nat} {nx : Int} {vs : Value} (h : OB W g vn ve c add nx vs) : W.cell? ⟨g, 4, none⟩ = some (.int .i64 (c : Int)) ∧ W.cell? ⟨g, 6, none⟩ = some (.bool true) ∧ W.cell? ⟨g, 7, none⟩ = some vn ∧ W.cell? ⟨g, 8, none⟩ = some ve ∧ W.cell? ⟨g, 9, none⟩ = some (.int .u8 (add : Int)) ∧ W.cell? ⟨g, 10, none⟩ = some (.int .u8 nx) ∧ W.cell? ⟨g, 11, none⟩ = some vs ∧ ∀ j, W.frozen? ⟨g, j, none⟩ = false := by
  refine ⟨?_, ?_, ?_, ?_, ?_, ?_, ?_, fun j => frozen_blk h j⟩ <;> (rw [cell_of_row _ _ _ _ _ _ h]; rfl)

structure IsOR (W : World) (B : Nat) (M : Nat → Prop) (an : Option Addr) (ln cn : Nat) (ns : List Int) (ae : Option Addr) (le ce : Nat) (es : List Int) (add g : Nat) (s : OSt) (ay : Option Addr) (cy : Nat) : Prop where
  blk : OB W g (.slice an ln cn) (.slice ae le ce) s.c add (s.nx : Int) (.slice ay s.szs.length cy)
  rn : Row W .i64 an ns
  re : Row W .i64 ae es
  bn : ∀ x, an = some x → 0 < ns.length → x.block < B
  be : ∀ x, ae = some x → 0 < es.length → x.block < B
  own : W.ownsRow B 3 1 (.slice ay s.szs.length cy) s.szs.length (s.szs.map (Value.int .i64))
  mv : ∀ i, (Value.slice ay s.szs.length cy).ownBlock = some i → M i ∧ i ≠ g
  mg : M g
  lt : ∀ i, M i → B ≤ i ∧ i < W.heap.size
  le : s.szs.length = s.c
  nx : s.nx < 256
theorem IsOR.upd {W W' : World} {B : Nat} {M S : Nat → Prop} {an : Option Addr} {ln cn : Nat} {ns : List Int} {ae : Option Addr} {le ce : Nat} {es : List Int} {add g : Nat} {s : OSt} {ay : Option Addr} {cy : Nat} (h : IsOR W B M an ln cn ns ae le ce es add g s ay cy) (hu : Upd S W W') (hs : ∀ i, S i → B ≤ i ∧ ¬ M i) : IsOR W' B M an ln cn ns ae le ce es add g s ay cy :=
  ⟨hu.heap h.blk (fun e => (hs _ e).2 h.mg), h.rn.upd hu (fun x hx h0 e => by have := h.bn x hx h0; have := (hs _ e).1; omega), h.re.upd hu (fun x hx h0 e => by have := h.be x hx h0; have := (hs _ e).1; omega), h.bn, h.be, owns_upd h.own hu (fun i hi e => (hs i e).2 (h.mv i hi).1), h.mv, h.mg, fun i hi => ⟨(h.lt i hi).1, Nat.lt_of_lt_of_le (h.lt i hi).2 hu.size⟩, h.le, h.nx⟩

def OddPost (ns es : List Int) (an : Option Addr) (ln cn : Nat) (ae : Option Addr) (le ce : Nat) (add g B : Nat) (M : Nat → Prop) (s : OSt) (size r : Nat) (cur : List Value) (W : World) (e : Ending) (W' : World) : Prop :=
  ∃ M', e = .returned (.tuple #[.int .i64 (oRd ns es add size s).1, .int .i64 (oRd ns es add size s).2.1]) ∧ (∃ ay cy, IsOR W' B M' an ln cn ns ae le ce es add g (oRd ns es add size s).2.2.2 ay cy) ∧ Room W' (some ⟨r, 0, none⟩) size r ((oRd ns es add size s).2.2.1.map (Value.int .u8) ++ cur.drop (oRd ns es add size s).2.2.1.length) ∧ Upd (fun i => M i ∨ i = r) W W' ∧ (∀ i, M' i → M i ∨ W.heap.size ≤ i) ∧ ¬ M' r

set_option maxRecDepth 100000 in
set_option maxHeartbeats 3200000 in
/-- From the world where the call is counted already. -/
theorem rodd_any {W : World} {B : Nat} {M : Nat → Prop} {an : Option Addr} {ln cn : Nat} {ns : List Int} {ae : Option Addr} {le ce : Nat} {es : List Int} {add g : Nat} {s : OSt} {ay : Option Addr} {cy : Nat} (size r : Nat) (cur : List Value) (w : World) (h : IsOR W B M an ln cn ns ae le ce es add g s ay cy) (hln : ns.length = ln) (hle : es.length = le) (hc : s.c < 1099511627776) (hw : w = W.setCell ⟨g, 4, none⟩ (.int .i64 ((s.c : Int) + 1)))
    (hroom : Room W (some ⟨r, 0, none⟩) size r cur) (h8 : ∀ u ∈ cur, IsByte u) (hr : ¬ M r) (hBr : B ≤ r) (hs : size ≤ 140737488355328) :
    Calls Try.prog 32 #[.pointer (some ⟨g, 0, none⟩), .slice (some ⟨r, 0, none⟩) size size] w fun e W' => OddPost ns es an ln cn ae le ce add g B M s size r cur W e W' := by
  obtain ⟨i0, hi0, hz0, hz1, hz2⟩ := info_partsO infoIntO
  have hgr : g ≠ r := fun e => hr (e ▸ h.mg)
  have hu1 : Upd (fun i => i = g) W w := by rw [hw]; exact (Upd.refl _ _).set1 4 _
  have hb1 : OB w g (.slice an ln cn) (.slice ae le ce) (s.c + 1) add (s.nx : Int) (.slice ay s.szs.length cy) := by rw [hw]; exact block_setCell h.blk 4 _
  have hgl := h.lt g h.mg
  have hBw : B ≤ w.heap.size := by have := hu1.size; omega
  have ho1 : w.ownsRow B 3 1 (.slice ay s.szs.length cy) s.szs.length (s.szs.map (Value.int .i64)) := owns_upd h.own hu1 (fun i hi => (h.mv i hi).2)
  have hrl : r < W.heap.size := lt_of_block hroom.2.1
  have hnx := h.nx
  have H := hide h
  have HU1 := hide hu1
  have HB1 := hide hb1
  have HRM := hide hroom
  have H8 := hide h8
  have hcl := ob_cells hb1
  have c11 := hcl.2.2.2.2.2.2.1
  have f11 := hcl.2.2.2.2.2.2.2 11
  have hll := h.le
  obtain ⟨l, hl⟩ : ∃ l, l = s.szs.length := ⟨_, rfl⟩
  rw [← hl] at c11 ho1
  replace hw := hide hw
  replace hll := hide hll
  replace hl := hide hl
  clear h hu1 hb1 hroom h8 hcl
  have hsA : (w.alloc (.cells #[.int .i64 (size : Int)] 3)).heap.size = w.heap.size + 1 := World.size_alloc _ _
  have uA : Upd Noth w (w.alloc (.cells #[.int .i64 (size : Int)] 3)) := (Upd.refl _ _).alloc _
  have HOA : Hid ((w.alloc (.cells #[.int .i64 (size : Int)] 3)).ownsRow B 3 1 (.slice ay l cy) l (s.szs.map (Value.int .i64))) := hide (owns_upd ho1 uA (fun i hi e => e))
  have HNA : Hid (∀ j u, [Value.int .i64 (size : Int)][j]? = some u → (w.alloc (.cells #[.int .i64 (size : Int)] 3)).cell? ((⟨w.heap.size, 0, none⟩ : Addr).add j) = some u) := hide fun j u hj => by
    have h0 := heap_alloc_new w (.cells #[.int .i64 (size : Int)] 3)
    match j, hj with
    | 0, hj => cases hj; exact (cell_of_row _ _ _ _ _ _ h0).trans rfl
  have HLM : Hid (l + 1 ≤ maxLen ∧ (l + 1) * 8 ≤ 140737488355328) := hide (by have := hl.out; have := hll.out; unfold maxLen; omega)
  have HBA : Hid (B ≤ (w.alloc (.cells #[.int .i64 (size : Int)] 3)).heap.size) := hide (by omega)
  have HBK : Hid ((w.alloc (.cells #[.int .i64 (size : Int)] 3)).heap[g]? = w.heap[g]?) := hide (by rw [uA.heap HB1.out (fun e => e)]; exact HB1.out.symm)
  have HAP : Hid (∀ g4 c4 w4, w4.ownsRow B 3 1 (.slice (some ⟨g4, 0, none⟩) (l + 1) c4) (l + 1) (s.szs.map (Value.int .i64) ++ [Value.int .i64 (size : Int)]) → (w.alloc (.cells #[.int .i64 (size : Int)] 3)).grownBy w4 (Value.slice ay l cy).ownBlock → ((Value.slice ay l cy).ownBlock = some g4 ∨ (w.alloc (.cells #[.int .i64 (size : Int)] 3)).heap.size ≤ g4) →
      (w4.cell? ⟨g, 11, none⟩ = some (.slice ay l cy) ∧ w4.frozen? ⟨g, 11, none⟩ = false) ∧
      IsOR (w4.setCell ⟨g, 11, none⟩ (.slice (some ⟨g4, 0, none⟩) (l + 1) c4)) B (fun i => i = g ∨ i = g4) an ln cn ns ae le ce es add g ⟨s.c + 1, s.nx, s.szs ++ [(size : Int)]⟩ (some ⟨g4, 0, none⟩) c4 ∧ Upd M W (w4.setCell ⟨g, 11, none⟩ (.slice (some ⟨g4, 0, none⟩) (l + 1) c4)) ∧ (∀ i, i = g ∨ i = g4 → M i ∨ W.heap.size ≤ i) ∧ g4 ≠ r) := hide fun g4 c4 w4 o4 gr4 k4 => by
    have hl' := hl.out
    have hown : ∀ i, (Value.slice ay l cy).ownBlock = some i → M i ∧ i ≠ g := fun i hi => H.out.mv i (by rw [← hl']; exact hi)
    have u4 : Upd (fun i => (Value.slice ay l cy).ownBlock = some i) (w.alloc (.cells #[.int .i64 (size : Int)] 3)) w4 := Upd.of_grown gr4 (fun k hk _ => hk)
    have u5 : Upd (fun i => i = g) w4 (w4.setCell ⟨g, 11, none⟩ (.slice (some ⟨g4, 0, none⟩) (l + 1) c4)) := (Upd.refl _ _).set1 11 _
    have b4 : OB w4 g (.slice an ln cn) (.slice ae le ce) (s.c + 1) add (s.nx : Int) (.slice ay s.szs.length cy) := u4.heap (uA.heap HB1.out (fun e => e)) (fun e => (hown g e).2 rfl)
    have hu1 := HU1.out
    have hz1 := hu1.size
    have h4 : M g4 ∧ g4 ≠ g ∨ W.heap.size ≤ g4 := k4.imp (fun e => hown g4 e) (fun e => by omega)
    have hgg : g4 ≠ g := h4.elim (fun e => e.2) (fun e => by omega)
    have ul : (s.szs ++ [(size : Int)]).length = l + 1 := by rw [List.length_append, hl']; rfl
    have hu45 : Upd (fun i => i = g ∨ (Value.slice ay l cy).ownBlock = some i) w (w4.setCell ⟨g, 11, none⟩ (.slice (some ⟨g4, 0, none⟩) (l + 1) c4)) := (uA.noth.trans (u4.mono (fun _ _ e => .inr e))).trans (u5.mono (fun _ _ e => .inl e))
    refine ⟨?_, ?_, ?_, ?_, ?_⟩
    · have := (ob_cells b4).2.2.2.2.2.2
      rw [← hl'] at this
      exact ⟨this.1, this.2 11⟩
    · have hrw : ∀ (a : Option Addr) (zs : List Int), Row W .i64 a zs → (∀ x, a = some x → 0 < zs.length → x.block < B) → Row (w4.setCell ⟨g, 11, none⟩ (.slice (some ⟨g4, 0, none⟩) (l + 1) c4)) .i64 a zs := fun a zs hr hb => (hr.upd hu1 (fun x hx h0 e => by have := hb x hx h0; omega)).upd hu45 (fun x hx h0 e => by
        have := hb x hx h0
        rcases e with e | e
        · omega
        · have := (H.out.lt _ (hown _ e).1).1; omega)
      refine ⟨?_, hrw _ _ H.out.rn H.out.bn, hrw _ _ H.out.re H.out.be, H.out.bn, H.out.be, ?_, ?_, .inl rfl, ?_, ?_, H.out.nx⟩
      · show OB _ _ _ _ _ _ _ (.slice (some ⟨g4, 0, none⟩) (s.szs ++ [(size : Int)]).length c4)
        rw [ul]
        exact block_setCell b4 11 _
      · show World.ownsRow _ _ _ _ (.slice (some ⟨g4, 0, none⟩) (s.szs ++ [(size : Int)]).length c4) (s.szs ++ [(size : Int)]).length ((s.szs ++ [(size : Int)]).map (Value.int .i64))
        rw [ul, List.map_append]
        exact owns_upd o4 u5 (fun i hi e => by simp [Value.ownBlock] at hi; omega)
      · intro i hi
        simp only [Value.ownBlock, Option.some.injEq] at hi
        exact ⟨.inr hi.symm, by omega⟩
      · intro i hi
        have := u5.size
        rcases hi with rfl | rfl
        · have := u4.size; omega
        · have := o4.lt i rfl; omega
      · show (s.szs ++ [(size : Int)]).length = s.c + 1
        rw [ul]; have := hll.out; omega
    · exact (hu1.mono (fun i _ e => e ▸ H.out.mg)).trans (hu45.mono (fun i _ e => e.elim (fun e => e ▸ H.out.mg) (fun e => (hown i e).1)))
    · rintro i (rfl | rfl)
      · exact .inl H.out.mg
      · exact h4.imp And.left id
    · rintro rfl
      exact h4.elim (fun e => hr e.1) (fun e => by omega)
  clear ho1 hsA uA
  go_enter Try.func32, Try.ntmps32
  go_wp2_with (first
    | (at_builtin; refine app_liesO rfl (.tmp 13) (.tmp 16) 24 rfl B 3 i0 (.int .i64 0) 1 8 Try.underlying24 hi0 hz0 hz1 hz2 rfl (by decide) (.slice ay l cy) l (s.szs.map (Value.int .i64)) rfl HOA.out ⟨w.heap.size, 0, none⟩ 1 [.int .i64 (size : Int)] rfl rfl HNA.out (by intro u hu; simp at hu; rcases hu with rfl; rfl) HLM.out.1 HLM.out.2 HBA.out ?_; intro g4 c4 w4 o4 gr4 k4; have HF4 := hide (HAP.out g4 c4 w4 o4 gr4 k4); have k11 := HF4.out.1.1; have f11' := HF4.out.1.2; clear o4 gr4 k4)
    | fail)
  obtain ⟨_, HA, HUA, HMA, HGR⟩ := HF4.out
  have hXl := oBytes_len add s.nx (min (toldE ns es (s.c + 1) 0 31).1.toNat size)
  have hXb := oBytes_get add s.nx (min (toldE ns es (s.c + 1) 0 31).1.toNat size)
  have HFIN : Hid (∀ wr w5, Upd (fun j => j = g ∨ j = r) (w4.setCell ⟨g, 11, none⟩ (.slice (some ⟨g4, 0, none⟩) (l + 1) c4)) wr → OB wr g (.slice an ln cn) (.slice ae le ce) (s.c + 1) add (((s.nx + add * min (toldE ns es (s.c + 1) 0 31).1.toNat size) % 256 : Nat) : Int) (.slice (some ⟨g4, 0, none⟩) (l + 1) c4) → wr.heap[r]? = some (.cells (((oBytes add s.nx (min (toldE ns es (s.c + 1) 0 31).1.toNat size)).take (min (toldE ns es (s.c + 1) 0 31).1.toNat size)).map (Value.int .u8) ++ cur.drop (min (toldE ns es (s.c + 1) 0 31).1.toNat size)).toArray 5 (0, 0)) → Still wr w5 →
      OddPost ns es an ln cn ae le ce add g B M s size r cur W (.returned (.tuple #[.int .i64 (toldE ns es (s.c + 1) 0 31).1, .int .i64 (toldE ns es (s.c + 1) 0 31).2])) w5) := hide fun wr w5 hu hb hh hst => by
    have hu5 : Upd (fun j => j = g ∨ j = r) (w4.setCell ⟨g, 11, none⟩ (.slice (some ⟨g4, 0, none⟩) (l + 1) c4)) w5 := hu.trans (hst.upd _)
    have hgB := (HA.lt g (.inl rfl)).1
    have hrw : ∀ (a : Option Addr) (zs : List Int), Row (w4.setCell ⟨g, 11, none⟩ (.slice (some ⟨g4, 0, none⟩) (l + 1) c4)) .i64 a zs → (∀ x, a = some x → 0 < zs.length → x.block < B) → Row w5 .i64 a zs := fun a zs hr hb => hr.upd hu5 (fun x hx h0 e => by have := hb x hx h0; omega)
    have ul : (s.szs ++ [(size : Int)]).length = l + 1 := by rw [List.length_append, hl.out]; rfl
    refine ⟨fun i => i = g ∨ i = g4, rfl, ⟨some ⟨g4, 0, none⟩, c4, ?_, hrw _ _ HA.rn HA.bn, hrw _ _ HA.re HA.be, HA.bn, HA.be, ?_, HA.mv, .inl rfl, fun i hi => ⟨(HA.lt i hi).1, Nat.lt_of_lt_of_le (HA.lt i hi).2 hu5.size⟩, HA.le, Nat.mod_lt _ (by omega)⟩, ⟨fun _ => rfl, ?_, ?_⟩, ?_, HMA, ?_⟩
    · show OB _ _ _ _ _ _ _ (.slice (some ⟨g4, 0, none⟩) (s.szs ++ [(size : Int)]).length c4)
      rw [ul]
      exact (hst.upd Noth).heap hb (fun e => e)
    · exact owns_upd HA.own hu5 (fun i hi e => by have := (HA.mv i hi).2; simp only [Value.ownBlock, Option.some.injEq] at hi; omega)
    · rw [List.take_of_length_le (by rw [hXl]; exact Nat.le_refl _)] at hh
      simp only [oRd, hXl]
      exact (hst.upd Noth).heap hh (fun e => e)
    · have := HRM.out.2.2
      simp only [oRd, List.length_append, List.length_map, List.length_drop, hXl]
      omega
    · exact (HUA.mono (fun _ _ e => .inl e)).trans (hu5.mono (fun i _ e => e.elim (fun e => .inl (e ▸ H.out.mg)) .inr))
    · rintro (e | e)
      · exact hgr e.symm
      · exact HGR e.symm
  have hcd := ob_cells HA.blk
  have ul : (s.szs ++ [(size : Int)]).length = l + 1 := by rw [List.length_append, hl.out]; rfl
  have HOB : Hid (OB (w4.setCell ⟨g, 11, none⟩ (.slice (some ⟨g4, 0, none⟩) (l + 1) c4)) g (.slice an ln cn) (.slice ae le ce) (s.c + 1) add (s.nx : Int) (.slice (some ⟨g4, 0, none⟩) (l + 1) c4)) := hide (by have := HA.blk; simp only [ul] at this; exact this)
  have HRR : Hid ((w4.setCell ⟨g, 11, none⟩ (.slice (some ⟨g4, 0, none⟩) (l + 1) c4)).heap[r]? = some (.cells cur.toArray 5 (0, 0))) := hide (HUA.heap HRM.out.2.1 (fun e => hr e))
  have HTO : Hid (∀ a, Calls Try.prog 34 #[.slice an ln cn, .slice ae le ce, .int .i64 ((s.c : Int) + 1), .int .i64 0, .int .i64 31] ((w4.setCell ⟨g, 11, none⟩ (.slice (some ⟨g4, 0, none⟩) (l + 1) c4)).drewN a) fun e w'' => e = .returned (.tuple #[.int .i64 (toldE ns es (s.c + 1) 0 31).1, .int .i64 (toldE ns es (s.c + 1) 0 31).2]) ∧ ∃ n, w'' = (w4.setCell ⟨g, 11, none⟩ (.slice (some ⟨g4, 0, none⟩) (l + 1) c4)).drewN n) := hide fun a => by
    have hst := (Still.refl (w4.setCell ⟨g, 11, none⟩ (.slice (some ⟨g4, 0, none⟩) (l + 1) c4))).drewN a
    have h := rtold_any an ae ln cn le ce ns es (s.c + 1) 0 31 _ hln hle (by omega) (by omega) (HA.rn.upd (hst.upd Noth) (fun _ _ _ e => e)) (HA.re.upd (hst.upd Noth) (fun _ _ _ e => e))
    rw [show ((s.c + 1 : Nat) : Int) = (s.c : Int) + 1 by omega] at h
    exact h.mono fun e w' ⟨h1, m, h2⟩ => ⟨h1, a + m, by rw [h2, World.drewN_drewN]⟩
  have d4 := hcd.1
  have d7 := hcd.2.2.1
  have d8 := hcd.2.2.2.1
  rw [show ((s.c + 1 : Nat) : Int) = (s.c : Int) + 1 by omega] at d4
  have HCL : Hid (size ≤ cur.length) := hide HRM.out.2.2
  generalize toldE ns es (s.c + 1) 0 31 = tl at *
  obtain ⟨n, er⟩ := tl
  simp only at hXl hXb HFIN HTO
  obtain ⟨m, hm⟩ : ∃ m, m = min n.toNat size := ⟨_, rfl⟩
  rw [← hm] at hXl hXb HFIN
  generalize w4.setCell ⟨g, 11, none⟩ (.slice (some ⟨g4, 0, none⟩) (l + 1) c4) = w5 at *
  generalize oBytes add s.nx m = X at *
  have HXL := hide hXl
  have HXB := hide hXb
  replace hm := hide hm
  clear HA HUA HMA HF4 hXl hXb hcd ul c11 f11 k11 f11' HAP HNA HLM HBA HBK HOA H HU1 HB1 HRM hll
  go_quiet ((go_at_call 34; with_reducible exact HTO.out _))
  go_wp2_with fail
  go_loopw [8] (fun q wr => ∃ i : Nat, i ≤ m ∧ q = .int .i64 (i : Int) ∧ Hid (Upd (fun j => j = g ∨ j = r) w5 wr) ∧ Hid (OB wr g (.slice an ln cn) (.slice ae le ce) (s.c + 1) add (((s.nx + add * i) % 256 : Nat) : Int) (.slice (some ⟨g4, 0, none⟩) (l + 1) c4)) ∧ Hid (wr.heap[r]? = some (.cells ((X.take i).map (Value.int .u8) ++ cur.drop i).toArray 5 (0, 0)))) (fun q _ => m - (intOf q).toNat)
  case atStart => exact ⟨0, by omega, rfl, ((Still.refl w5).drewN _).upd _, hide (by have h := HOB.out; rw [← Nat.mod_eq_of_lt hnx] at h; exact (((Still.refl w5).drewN _).upd Noth).heap h (fun e => e)), by show _ = _; simpa using HRR.out⟩
  case round =>
    obtain ⟨i, hi, rfl, HU, HO, HR⟩ := hrel
    by_cases hlt : i < m
    · have j1 : (i : Int) < n := by have := hm.out; omega
      have j2 : (i : Int) < (size : Int) := by have := hm.out; omega
      have j0 : (0 : Int) ≤ (i : Int) := by omega
      have hoc := ob_cells HO.out
      have o9 := hoc.2.2.2.2.1
      have o10 := hoc.2.2.2.2.2.1
      have g10 := hoc.2.2.2.2.2.2.2 10
      obtain ⟨y, hy⟩ : ∃ y : Int, y = (((s.nx + add * (i + 1)) % 256 : Nat) : Int) := ⟨_, rfl⟩
      have HY : Hid (((s.nx : Int) + (add : Int) * (i : Int) + (add : Int)) % 256 = y) := hide (by rw [hy, Nat.mul_add, Nat.mul_one, ← Nat.add_assoc]; push_cast; rfl)
      have HXI : Hid (X.getD i 0 = y) := hide (by rw [HXB.out i hlt, hy])
      have hcl6 := HCL.out
      have hXl6 := HXL.out
      have hms : m ≤ size := by have := hm.out; omega
      have u6 : Upd (fun j => j = g) wr (wr.setCell ⟨g, 10, none⟩ (.int .u8 y)).drew := ((Upd.refl _ _).set1 10 _).drew
      have HO6 : Hid (OB (wr.setCell ⟨g, 10, none⟩ (.int .u8 y)).drew g (.slice an ln cn) (.slice ae le ce) (s.c + 1) add y (.slice (some ⟨g4, 0, none⟩) (l + 1) c4)) := hide (block_setCell HO.out 10 _)
      have hR6 : (wr.setCell ⟨g, 10, none⟩ (.int .u8 y)).drew.heap[r]? = some (.cells ((X.take i).map (Value.int .u8) ++ cur.drop i).toArray 5 (0, 0)) := u6.heap HR.out (fun e => hgr e.symm)
      obtain ⟨x6, hp6⟩ := fill_cell hR6 (by omega) (by omega) H8.out
      have f6 := frozen_blk hR6 i
      have k10 := (ob_cells HO6.out).2.2.2.2.2.1
      have HR6 := hide hR6
      have HU6 := hide (HU.out.trans (u6.mono (fun _ _ e => .inl e)))
      replace hy := hide hy
      clear hoc u6 hR6 hcl6 hXl6
      go_wp2_with fail
      go_region
      rw [HY.out]
      generalize (wr.setCell ⟨g, 10, none⟩ (.int .u8 y)).drew = w6 at *
      have HNX := hide (fill_next X cur i (by rw [HXL.out]; omega) (by have := HCL.out; omega))
      have HU' : Hid (Upd (fun j => j = g ∨ j = r) w5 (w6.setCell ⟨r, i, none⟩ (.int .u8 y))) := hide (HU6.out.trans (((Upd.refl _ _).set1 i _).mono (fun _ _ e => .inr e)))
      have HO' : Hid (OB (w6.setCell ⟨r, i, none⟩ (.int .u8 y)) g (.slice an ln cn) (.slice ae le ce) (s.c + 1) add (((s.nx + add * (i + 1)) % 256 : Nat) : Int) (.slice (some ⟨g4, 0, none⟩) (l + 1) c4)) := hide (by rw [← hy.out]; exact (((Upd.refl (fun j => j = r) w6).set1 i (.int .u8 y))).heap HO6.out (fun e => hgr e))
      have HR' : Hid ((w6.setCell ⟨r, i, none⟩ (.int .u8 y)).heap[r]? = some (.cells ((X.take (i + 1)).map (Value.int .u8) ++ cur.drop (i + 1)).toArray 5 (0, 0))) := hide (by rw [← HNX.out, HXI.out]; exact block_setCell HR6.out i _)
      go_wp2_with fail
      go_roundw
      case rel => exact ⟨i + 1, by omega, by go_num, HU', HO', HR'⟩
      case measure => simp [intOf]; omega
    · obtain rfl : i = m := by omega
      have HF2 := hide (fun w6 => HFIN.out wr w6 HU.out HO.out HR.out)
      by_cases hn : (i : Int) < n
      · have hge : ¬ (i : Int) < (size : Int) := by have := hm.out; omega
        go_wp2_with fail
        go_ret2
        exact HF2.out _ (Still.refl _)
      · go_wp2_with fail
        go_ret2
        exact HF2.out _ (Still.refl _)

set_option maxRecDepth 100000 in
set_option maxHeartbeats 800000 in
theorem roread_any {W : World} {B : Nat} {M : Nat → Prop} {an : Option Addr} {ln cn : Nat} {ns : List Int} {ae : Option Addr} {le ce : Nat} {es : List Int} {add g : Nat} {s : OSt} {ay : Option Addr} {cy : Nat} (size r : Nat) (cur : List Value) (h : IsOR W B M an ln cn ns ae le ce es add g s ay cy) (hln : ns.length = ln) (hle : es.length = le) (hc : s.c < 1099511627776)
    (hroom : Room W (some ⟨r, 0, none⟩) size r cur) (h8 : ∀ u ∈ cur, IsByte u) (hr : ¬ M r) (hBr : B ≤ r) (hs : size ≤ 140737488355328) :
    Calls Try.prog 16 #[.pointer (some ⟨g, 0, none⟩), .slice (some ⟨r, 0, none⟩) size size] W fun e W' => OddPost ns es an ln cn ae le ce add g B M s size r cur W e W' := by
  have HO := hide (rodd_any size r cur _ h hln hle hc rfl hroom h8 hr hBr hs)
  have h4 := (ob_cells h.blk).1
  have f4 := (ob_cells h.blk).2.2.2.2.2.2.2 4
  have c6 := (ob_cells (show OB (W.setCell ⟨g, 4, none⟩ (.int .i64 ((s.c : Int) + 1))) g _ _ (s.c + 1) add _ _ from block_setCell h.blk 4 _)).2.1
  clear h hroom h8 hr
  go_enter Try.func16, Try.ntmps16
  go_upto_region 2 with fail
  generalize W.setCell ⟨g, 4, none⟩ (.int .i64 ((s.c : Int) + 1)) = w1 at *
  go_wp2_with fail
  refine HO.out.mono ?_
  rintro e w2 ⟨M', rfl, h2⟩
  have HH : Hid (OddPost ns es an ln cn ae le ce add g B M s size r cur W (.returned (.tuple #[.int .i64 (oRd ns es add size s).1, .int .i64 (oRd ns es add size s).2.1])) w2) := hide ⟨M', rfl, h2⟩
  clear h2
  generalize hA : (oRd ns es add size s).1 = A at *
  generalize hE : (oRd ns es add size s).2.1 = E at *
  replace hA := hide hA
  replace hE := hide hE
  go_wp2_with fail
  go_ret2
  exact HH.out

theorem oCnt_eq (s : OSt) : oCnt s = s.c + 4611684918915760128 := rfl
theorem oCntW_eq (t : OWt) : oCntW t = t.c + 4611684918915760128 := rfl
def ORd (ns es : List Int) (an : Option Addr) (ln cn : Nat) (ae : Option Addr) (le ce : Nat) (add g B : Nat) (W : World) (s : OSt) (M : Nat → Prop) : Prop := ∃ ay cy, IsOR W B M an ln cn ns ae le ce es add g s ay cy
theorem ro_reader (ns es : List Int) (an : Option Addr) (ln cn : Nat) (ae : Option Addr) (le ce : Nat) (add g B size : Nat) (hln : ns.length = ln) (hle : es.length = le) (hs : size ≤ 140737488355328) :
    Reader size (oRd ns es add size) oCnt (fun s => ns.length - s.c) 16 (.pointer (some ⟨g, 0, none⟩)) B (ORd ns es an ln cn ae le ce add g B) where
  upd := fun ⟨ay, cy, h⟩ hu hs => ⟨ay, cy, h.upd hu hs⟩
  lt := fun ⟨ay, cy, h⟩ => h.lt
  fit := fun s h0 h1 => o_fit ns es add size s h0 h1
  len := fun s => o_len ns es add size s
  b8 := fun s => oBytes_b8 _ _ _
  cnt1 := fun s => by have h1 := oCnt_eq s; have h2 := oCnt_eq (oRd ns es add size s).2.2.2; have h3 : (oRd ns es add size s).2.2.2.c = s.c + 1 := rfl; omega
  dec := fun s he _ _ => by have := o_dec ns es add size s he; simp only [oRd]; omega
  mle := fun s => by simp only [oRd]; omega
  read := fun W s M r cur ⟨ay, cy, h⟩ hc hroom hcur hr hBr => by
    refine (roread_any size r cur h hln hle (by rw [oCnt_eq] at hc; omega) hroom hcur hr hBr hs).mono fun e W' ⟨M', h1, h2, h3, h4, h5, h6⟩ => ⟨M', h1, h2, h3, h4, h5, h6⟩

end Go.Proofs.Ytcffekhlnidjnaa
