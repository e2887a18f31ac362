/- block: left, finish; a list of entries in new memory. -/
import Derived.Test.YtepjblmjjegpgaaGreatW43
import Derived.Test.YtepjblmjjegpgaaGreatW31
import Derived.Test.YtepjblmjjegpgaaGreatW22
import Derived.Test.YtepjblmjjegpgaaGreatW39
import Derived.Deep.DeepCutAuto
import Derived.Deep.CutBlock
import Derived.Test.YtepjblmjjegpgaaGreatW15
import Derived.Deep.RegionLaw
namespace Go.Proofs.YtepjblmjjegpgaaGreat
open Go.RowKit
set_option maxRecDepth 100000

set_option maxHeartbeats 400000 in
theorem left_any {W : World} {B g : Nat} {a : Option Addr} {l c p n num : Nat} {ls : List Int} {va : Value} (h : WkR W B g a l c p n num ls va) :
    Calls Tryz.prog 177 #[.pointer (some ⟨g, 0, none⟩)] W fun e w' => e = .returned (.bool (decide (num < n))) ∧ ∃ m, w' = W.drewN m := by
  have c2 := h.cells.2.2.1
  have c3 := h.cells.2.2.2.1
  clear h
  go_enter Tryz.func177, Tryz.ntmps177
  go_wp2_with fail
  go_quiet (fail)
  go_wp2_with fail
  go_ret
  have hd : decide ((num : Int) < (n : Int)) = decide (num < n) := by
    by_cases h : num < n
    · rw [decide_eq_true h, decide_eq_true (by omega)]
    · rw [decide_eq_false h, decide_eq_false (by omega)]
  rw [← hd]
  exact ⟨rfl, _, rfl⟩

/-- What finish tells. -/
def FnPost (W : World) (zs ts : List Int) (p : Nat) (e : Ending) (W' : World) : Prop :=
  Below W.heap.size W W' ∧ (if comN (zs.drop p) ts < ts.length then e = fallen 62 ((p + comN (zs.drop p) ts : Nat) : Int) else if comN (zs.drop p) ts < (zs.drop p).length then e = fallen 63 ((p + comN (zs.drop p) ts : Nat) : Int) else ∃ v, e = .returned v)

set_option maxRecDepth 100000 in
set_option maxHeartbeats 1600000 in
theorem finish_any {W : World} {B g : Nat} {a : Option Addr} {l c p n num : Nat} {ls zs ts : List Int} {va : Value} (at' : Option Addr) (lt ct : Nat) (h : WkR W B g a l c p n num ls va) (hl : zs.length = l) (hm : l ≤ 140737488400000) (hcl : l ≤ c) (hp : p ≤ l) (hr : Row W .u8 a zs) (hlt : ts.length = lt) (hmt : lt ≤ 1000000) (hrt : Row W .u8 at' ts) :
    Calls Tryz.prog 179 #[.pointer (some ⟨g, 0, none⟩), .slice at' lt ct] W (FnPost W zs ts p) := by
  have c0 := h.cells.1
  have c1 := h.cells.2.1
  have hsl : ∀ W : World, (Instr.slice 23 (.slice a l c) (some (.int .i64 (p : Int))) none none).run Tryz.prog W = .ok (.slice (cutAt a p c) (l - p) (c - p)) W := run_from a l c p hp
  have hdl : (zs.drop p).length = l - p := by rw [List.length_drop, hl]
  have HCM : Hid (∀ m, Calls Tryz.prog 122 #[.slice (cutAt a p c) (l - p) (c - p), .slice at' lt ct] (W.drewN m) fun e w' => e = .returned (.int .i64 (comN (zs.drop p) ts : Nat)) ∧ ∃ k, w' = (W.drewN m).drewN k) := fun m => common_any (cutAt a p c) at' (l - p) (c - p) lt ct (zs.drop p) ts (W.drewN m) (by unfold maxLen; omega) (by unfold maxLen; omega) hdl hlt (show Row W .u8 _ _ from cut_row (by omega) hr) (show Row W .u8 _ _ from hrt)
  have HP : Hid (∀ e w', FnPost W zs ts p e w' ↔ (Below W.heap.size W w' ∧ (if comN (zs.drop p) ts < lt then e = fallen 62 ((p + comN (zs.drop p) ts : Nat) : Int) else if comN (zs.drop p) ts < l - p then e = fallen 63 ((p + comN (zs.drop p) ts : Nat) : Int) else ∃ v, e = .returned v))) := fun e w' => by unfold FnPost; rw [hlt, hdl]
  have hcle := comN_le (zs.drop p) ts
  rw [hdl] at hcle
  generalize comN (zs.drop p) ts = k at *
  generalize hL : l - p = L at *
  generalize cutAt a p c = ac at *
  clear h hr hrt hdl
  go_enter Tryz.func179, Tryz.ntmps179
  go_wp2_with fail
  go_quiet (fail)
  go_wp2_with fail
  refine (HCM.out _).mono ?_
  rintro e w1 ⟨rfl, m, hw1⟩
  have HB : Hid (Below W.heap.size W w1) := by rw [hw1]; exact below_of_drewN (below_of_drewN (Below.refl _ _) _) m
  have d1 : w1.cell? ⟨g, 1, none⟩ = some (.int .i64 (p : Int)) := by rw [hw1]; exact c1
  clear hw1 c0 c1 hsl
  by_cases h1 : k < lt
  · have i1 : (k : Int) < (lt : Int) := by omega
    have HF : Hid (FnPost W zs ts p (fallen 62 ((p : Int) + (k : Int))) w1) := (HP.out _ _).2 ⟨HB.out, by rw [if_pos h1]; rfl⟩
    go_wp2_with fail
    refine (giveUp_any 62 _ w1).mono ?_
    rintro e w2 ⟨rfl, rfl⟩
    exact ⟨rfl, HF.out⟩
  · have i1 : ¬ (k : Int) < (lt : Int) := by omega
    by_cases h2 : k < L
    · have i2 : (k : Int) < (L : Int) := by omega
      have HF : Hid (FnPost W zs ts p (fallen 63 ((p : Int) + (k : Int))) w1) := (HP.out _ _).2 ⟨HB.out, by rw [if_neg h1, if_pos h2]; rfl⟩
      go_wp2_with fail
      refine (giveUp_any 63 _ w1).mono ?_
      rintro e w2 ⟨rfl, rfl⟩
      exact ⟨rfl, HF.out⟩
    · have i2 : ¬ (k : Int) < (L : Int) := by omega
      go_wp2_with fail
      go_end0
      exact (HP.out _ _).2 ⟨HB.out, by rw [if_neg h1, if_neg h2]; exact ⟨_, rfl⟩⟩

/-- append of one entry where there is room. -/
theorem app_room {P : Program} {ops : Array Oper} {o : Oper} {rest : List Oper} {a : Act} {w : World} {Q : Exit → Act → World → Prop} (hgd : o.guard = none) (s x : Operand) (t : TypeId)
    (ho : o.op = .call { callee := .builtin .append, args := #[s, x], argTypes := #[t, t] })
    (e : TypeId) (i : TypeInfo) (ht : P.underlying t = some (.slice e)) (hi : P.info? e = some i) (hsize : i.size = 2)
    (b n cap : Nat) (hs : a.eval s = .slice (some ⟨b, 0, none⟩) n cap) (cur : Array Value) (T : TypeId) (hb : w.heap[b]? = some (.cells cur T (0, 0))) (hcur : cur.size = cap * 2) (hn : n < cap)
    (ad : Addr) (c : Nat) (k v : Value) (hx : a.eval x = .slice (some ad) 1 c) (h0 : w.cell? ad = some k) (h1 : w.cell? (ad.add 1) = some v) (hk : k.oneCell' = true) (hv : v.oneCell' = true)
    (h : wpList P ops Q rest (a.put o.dst (.slice (some ⟨b, 0, none⟩) (n + 1) cap)) ((w.setCell ⟨b, n * 2, none⟩ k).setCell ⟨b, n * 2 + 1, none⟩ v)) : wpList P ops Q (o :: rest) a w := by
  have hw : Region.wanted o (yielded ops a.tmps) = true := by simp [Region.wanted, hgd]
  have hcell : ∀ j, j < cur.size → (w.cell? ⟨b, j, none⟩).isSome = true := fun j hj => by
    rw [cell_of_row _ _ _ _ _ _ hb]
    simp [hj]
  have h0' := step_append_room (ops := ops) (K := wpList P ops Q rest) (Q := Q) (E := True) hgd s x t ho e i 2 ht hi hsize b 0 n cap hs ad 1 c [k, v] hx (by simp) (fun j u hj => by
    match j, hj with
    | 0, hj => simp at hj; subst hj; simpa [Addr.add] using h0
    | 1, hj => simp at hj; subst hj; exact h1) (fun u hu => by simp at hu; rcases hu with rfl | rfl <;> assumption) (by omega) (fun j hj => ⟨hcell _ (by simp at hj; omega), by simp [World.frozen?, hb]⟩) (by simpa [World.setCells] using h)
  rw [if_pos hw] at h0'
  rw [wpList, if_pos hw]
  exact .inl h0'

end Go.Proofs.YtepjblmjjegpgaaGreat

namespace Go.Proofs.YtepjblmjjegpgaaGreat
open Go.RowKit
set_option maxRecDepth 100000

/-- A list of entries in new memory: the rows; and each key, each value in a row of its own. -/
structure ElOk (W : World) (N ga : Nat) (Es : List Ent) : Prop where
  eb : ∃ cur, W.heap[ga]? = some (.cells cur 38 (0, 0)) ∧ cur.size = Es.length * 2 ∧ ∀ i (h : i < Es.length), cur[i * 2]? = some Es[i].kv ∧ cur[i * 2 + 1]? = some Es[i].vv
  ok : ∀ i (h : i < Es.length), OwnB W N 5 Es[i].kv Es[i].ks ∧ OwnB W N 5 Es[i].vv Es[i].vs
  sep : ∀ i (h : i < Es.length) b, (Es[i].kv.ownBlock = some b ∨ Es[i].vv.ownBlock = some b) → b ≠ ga
  gN : N ≤ ga
/-- What readWhole tells. -/
def RwPost (w : World) (zs : List Int) (e : Ending) (w' : World) : Prop :=
  Below w.heap.size w w' ∧ (((bRes zs).2.1 = 0 ∧ ∃ ga Es, e = .returned (.slice (some ⟨ga, 0, none⟩) Es.length Es.length) ∧ ElOk w' w.heap.size ga Es ∧ kvs Es = (bRes zs).1) ∨ ((bRes zs).2.1 ≠ 0 ∧ e = fallen (bRes zs).2.1 ((bRes zs).2.2 : Nat)))

/-- Between two rounds. -/
structure RwI (w wr : World) (g ga : Nat) (a : Option Addr) (l c n k : Nat) (s : RS) (Es : List Ent) (va vt : Value) : Prop where
  wk : WkR wr w.heap.size g a l c s.p n k (ahd s.l) va
  eb : ∃ cur, wr.heap[ga]? = some (.cells cur 38 (0, 0)) ∧ cur.size = n * 2 ∧ ∀ i (h : i < Es.length), cur[i * 2]? = some Es[i].kv ∧ cur[i * 2 + 1]? = some Es[i].vv
  ot : wr.ownsRow w.heap.size 5 1 vt (tabP s.ps k).length ((tabP s.ps k).map (Value.int .u8))
  kv : kvs Es = s.l
  ok : ∀ i (h : i < Es.length), OwnB wr w.heap.size 5 Es[i].kv Es[i].ks ∧ OwnB wr w.heap.size 5 Es[i].vv Es[i].vs
  sep : ∀ i (h : i < Es.length) b, (Es[i].kv.ownBlock = some b ∨ Es[i].vv.ownBlock = some b) → ¬ WkM g va b ∧ b ≠ ga ∧ vt.ownBlock ≠ some b
  dt : ∀ b, vt.ownBlock = some b → ¬ WkM g va b ∧ b ≠ ga
  dg : ¬ WkM g va ga
  gN : w.heap.size ≤ ga
  bel : Below w.heap.size w wr

theorem RwI.ga_lt {w wr : World} {g ga : Nat} {a : Option Addr} {l c n k : Nat} {s : RS} {Es : List Ent} {va vt : Value} (h : RwI w wr g ga a l c n k s Es va vt) : ga < wr.heap.size := by
  obtain ⟨cur, hb, _⟩ := h.eb
  exact lt_of_block hb
/-- The world moves on below. -/
theorem RwI.below {w wr wr' : World} {g ga : Nat} {a : Option Addr} {l c n k : Nat} {s : RS} {Es : List Ent} {va vt : Value} (h : RwI w wr g ga a l c n k s Es va vt) (hb : Below wr.heap.size wr wr') : RwI w wr' g ga a l c n k s Es va vt := by
  have hu := Upd.of_below hb Noth
  obtain ⟨cur, h1, h2, h3⟩ := h.eb
  exact ⟨h.wk.upd hu (fun _ _ e => e), ⟨cur, hu.heap h1 (fun e => e), h2, h3⟩, owns_upd h.ot hu (fun _ _ e => e), h.kv, fun i hi => ⟨(h.ok i hi).1.below hb, (h.ok i hi).2.below hb⟩, h.sep, h.dt, h.dg, h.gN, h.bel.trans (hb.mono h.bel.size)⟩
/-- The table has grown. -/
theorem RwI.table {w wr w3 : World} {g ga : Nat} {a : Option Addr} {l c n k : Nat} {s : RS} {Es : List Ent} {va vt v' : Value} (h : RwI w wr g ga a l c n k s Es va vt) (hg : wr.grownBy w3 vt.ownBlock) (hk : ∀ k, v'.ownBlock = some k → vt.ownBlock = some k ∨ wr.heap.size ≤ k) :
    WkR w3 w.heap.size g a l c s.p n k (ahd s.l) va ∧ (∃ cur, w3.heap[ga]? = some (.cells cur 38 (0, 0)) ∧ cur.size = n * 2 ∧ ∀ i (h : i < Es.length), cur[i * 2]? = some Es[i].kv ∧ cur[i * 2 + 1]? = some Es[i].vv) ∧ (∀ i (h : i < Es.length), OwnB w3 w.heap.size 5 Es[i].kv Es[i].ks ∧ OwnB w3 w.heap.size 5 Es[i].vv Es[i].vs) ∧
      (∀ i (h : i < Es.length) b, (Es[i].kv.ownBlock = some b ∨ Es[i].vv.ownBlock = some b) → ¬ WkM g va b ∧ b ≠ ga ∧ v'.ownBlock ≠ some b) ∧ (∀ b, v'.ownBlock = some b → ¬ WkM g va b ∧ b ≠ ga) ∧ Below w.heap.size w w3 := by
  have hu : Upd (fun i => vt.ownBlock = some i) wr w3 := Upd.of_grown hg (fun k hk _ => hk)
  obtain ⟨cur, h1, h2, h3⟩ := h.eb
  have hgl := h.ga_lt
  refine ⟨h.wk.upd hu (fun i hi e => (h.dt i e).1 hi), ⟨cur, hu.heap h1 (fun e => (h.dt ga e).2 rfl), h2, h3⟩, fun i hi => ⟨(h.ok i hi).1.upd hu (fun b hb => (h.sep i hi b (.inl hb)).2.2), (h.ok i hi).2.upd hu (fun b hb => (h.sep i hi b (.inr hb)).2.2)⟩, fun i hi b hb => ?_, fun b hb => ?_, h.bel.grown hg h.bel.size (fun k hk => (h.ot.lt k hk).1)⟩
  · refine ⟨(h.sep i hi b hb).1, (h.sep i hi b hb).2.1, fun e => ?_⟩
    rcases hk b e with h4 | h4
    · exact (h.sep i hi b hb).2.2 h4
    · rcases hb with hb | hb
      · have := ((h.ok i hi).1.owns.lt b hb).2; omega
      · have := ((h.ok i hi).2.owns.lt b hb).2; omega
  · rcases hk b hb with h4 | h4
    · exact h.dt b h4
    · exact ⟨fun e => by have := (h.wk.lt b e).2; omega, fun e => by omega⟩

theorem bRes_at {zs : List Int} (h : stE zs = 0) : bRes zs = bFin zs (rrun zs (nx zs 0) (nm zs 0)) ∧ 1 ≤ nm zs 0 ∧ nm zs 0 ≤ 64 := by
  unfold stE at h
  by_cases h1 : er zs 0 = 0
  · rw [if_neg (by rw [h1]; simp)] at h
    by_cases h2 : nm zs 0 < 1 ∨ 64 < nm zs 0
    · rw [if_pos h2] at h; exact absurd h (by decide)
    · unfold bRes
      rw [if_neg (by rw [h1]; simp), if_neg h2]
      exact ⟨rfl, by omega, by omega⟩
  · rw [if_pos h1] at h; exact absurd h h1
theorem bRes_st {zs : List Int} (h : stE zs ≠ 0) : bRes zs = ([], stE zs, stP zs) := by
  unfold stE at h ⊢
  unfold stP bRes
  by_cases h1 : er zs 0 = 0
  · simp only [if_neg (show ¬ er zs 0 ≠ 0 by rw [h1]; simp)] at h ⊢
    by_cases h2 : nm zs 0 < 1 ∨ 64 < nm zs 0
    · simp only [if_pos h2]
    · rw [if_neg h2] at h; exact absurd rfl h
  · simp only [if_pos h1]
theorem bFin_fail {zs : List Int} {p0 k n : Nat} (h : (rrun zs p0 (k + 1)).e ≠ 0) (hk : k < n) : bFin zs (rrun zs p0 n) = ([], (rrun zs p0 (k + 1)).e, (rrun zs p0 (k + 1)).q) := by
  obtain ⟨j, rfl⟩ : ∃ j, n = k + 1 + j := ⟨n - (k + 1), by omega⟩
  rw [rrun_stays zs p0 (k + 1) h j]
  unfold bFin
  rw [if_pos h]
/-- One step, as the walker tells it. -/
theorem step_e {zs : List Int} {s : RS} (he : s.e = 0) (hp : s.p ≤ zs.length) : eE (pvS s.l) (ahd s.l) zs s.p = (rstp zs s).e ∧ (eE (pvS s.l) (ahd s.l) zs s.p ≠ 0 → eP (pvS s.l) zs s.p = (rstp zs s).q) ∧ (eE (pvS s.l) (ahd s.l) zs s.p = 0 → rstp zs s = ⟨s.l ++ [(xKy (pvS s.l) zs s.p, xVl (pvS s.l) zs s.p)], s.ps ++ [s.p], xPl (pvS s.l) zs s.p, 0, 0⟩) := by
  unfold eE eP xEr xPl xKy xVl
  simp only [if_pos hp]
  by_cases hr : rEr (pvS s.l) zs s.p = 0
  · rw [if_neg (by rw [hr]; simp)]
    by_cases hc : cmpI (ahd s.l) (rKy (pvS s.l) zs s.p) < 0
    · rw [if_pos hc, rstp_ok he hr hc]
      exact ⟨rfl, fun h => absurd rfl h, fun _ => rfl⟩
    · rw [if_neg hc, rstp_ord he hr hc]
      refine ⟨rfl, fun _ => ?_, fun h => absurd h (by decide)⟩
      rw [if_neg (by rw [hr]; simp)]
  · rw [if_pos hr, rstp_bad he hr]
    refine ⟨rfl, fun _ => ?_, fun h => absurd h hr⟩
    rw [if_pos hr]

/-- An entry is put behind the others. -/
theorem RwI.next {w w4 W5 : World} {g ga : Nat} {a : Option Addr} {l c n k : Nat} {s : RS} {Es : List Ent} {va vt : Value} {ts K V : List Int} {p' : Nat}
    (wk : WkR w4 w.heap.size g a l c s.p n k (ahd s.l) va) (eb : ∃ cur, w4.heap[ga]? = some (.cells cur 38 (0, 0)) ∧ cur.size = n * 2 ∧ ∀ i (h : i < Es.length), cur[i * 2]? = some Es[i].kv ∧ cur[i * 2 + 1]? = some Es[i].vv)
    (ot : w4.ownsRow w.heap.size 5 1 vt ts.length (ts.map (Value.int .u8))) (kv : kvs Es = s.l) (hlen : Es.length = k) (ok : ∀ i (h : i < Es.length), OwnB w4 w.heap.size 5 Es[i].kv Es[i].ks ∧ OwnB w4 w.heap.size 5 Es[i].vv Es[i].vs)
    (sep : ∀ i (h : i < Es.length) b, (Es[i].kv.ownBlock = some b ∨ Es[i].vv.ownBlock = some b) → ¬ WkM g va b ∧ b ≠ ga ∧ vt.ownBlock ≠ some b) (dt : ∀ b, vt.ownBlock = some b → ¬ WkM g va b ∧ b ≠ ga) (dg : ¬ WkM g va ga) (gN : w.heap.size ≤ ga) (bel : Below w.heap.size w w4)
    (ka : Option Addr) (kc : Nat) (v2 : Option Addr) (vc N : Nat) (vn : Value) (hk5 : OwnB W5 w4.heap.size 5 (.slice ka K.length kc) K) (hv5 : OwnB W5 N 5 (.slice v2 V.length vc) V) (hN : w4.heap.size ≤ N) (wk5 : WkR W5 w.heap.size g a l c p' n (k + 1) K vn) (hu5 : Upd (WkM g va) w4 W5) (fp5 : ∀ i, WkM g vn i → WkM g va i ∨ w4.heap.size ≤ i) (sp5 : ∀ i, WkM g vn i → (Value.slice ka K.length kc).ownBlock ≠ some i ∧ (Value.slice v2 V.length vc).ownBlock ≠ some i)
    (hkn : k < n) (hts : ts = tabP (s.ps ++ [s.p]) (k + 1)) (W6 : World) (hw6 : W6 = ((W5.alloc (.cells #[.slice ka K.length kc, .slice v2 V.length vc] 38)).setCell ⟨ga, k * 2, none⟩ (.slice ka K.length kc)).setCell ⟨ga, k * 2 + 1, none⟩ (.slice v2 V.length vc)) :
    RwI w W6 g ga a l c n (k + 1) ⟨s.l ++ [(K, V)], s.ps ++ [s.p], p', 0, 0⟩ (Es ++ [⟨ka, kc, K, v2, vc, V⟩]) vn vt := by
  have hu6 : Upd (fun i => i = ga) W5 W6 := by rw [hw6]; exact (((Upd.refl _ W5).alloc _).trans (set_upd _ ga _ _)).trans (set_upd _ ga _ _)
  obtain ⟨cur, h1, h2, h3⟩ := eb
  have hgal : ga < w4.heap.size := lt_of_block h1
  have hga5 : W5.heap[ga]? = some (.cells cur 38 (0, 0)) := hu5.heap h1 dg
  have hgn : ∀ i, WkM g vn i → i ≠ ga := fun i hi e => by
    rcases fp5 i hi with h | h
    · exact dg (e ▸ h)
    · omega
  have hkl : ∀ b, (Value.slice ka K.length kc).ownBlock = some b ∨ (Value.slice v2 V.length vc).ownBlock = some b → w4.heap.size ≤ b ∧ b < W5.heap.size := fun b hb => by
    rcases hb with hb | hb
    · exact hk5.owns.lt b hb
    · have := hv5.owns.lt b hb; omega
  have hlen2 : (Es ++ [(⟨ka, kc, K, v2, vc, V⟩ : Ent)]).length = k + 1 := by rw [List.length_append, hlen]; rfl
  have hlast : ∀ i (h : i < (Es ++ [(⟨ka, kc, K, v2, vc, V⟩ : Ent)]).length), (∃ h' : i < Es.length, (Es ++ [(⟨ka, kc, K, v2, vc, V⟩ : Ent)])[i] = Es[i]) ∨ (i = k ∧ (Es ++ [(⟨ka, kc, K, v2, vc, V⟩ : Ent)])[i] = ⟨ka, kc, K, v2, vc, V⟩) := fun i h => by
    by_cases h' : i < Es.length
    · exact .inl ⟨h', List.getElem_append_left h'⟩
    · refine .inr ⟨by omega, ?_⟩
      rw [List.getElem_append_right (by omega)]
      simp
  refine ⟨?_, ?_, ?_, ?_, ?_, ?_, ?_, fun h => hgn ga h rfl, gN, ?_⟩
  · rw [ahd_snoc]
    exact wk5.upd hu6 hgn
  · refine ⟨(cur.setIfInBounds (k * 2) (.slice ka K.length kc)).setIfInBounds (k * 2 + 1) (.slice v2 V.length vc), ?_, by simp [h2], fun i hi => ?_⟩
    · rw [hw6]
      exact block_setCell (block_setCell ((Below.heap_alloc _ _ _ (lt_of_block hga5)).trans hga5) _ _) _ _
    · rcases hlast i hi with ⟨h', e⟩ | ⟨rfl, e⟩
      · rw [e]
        have q := h3 i h'
        rw [Array.getElem?_setIfInBounds_ne (by omega), Array.getElem?_setIfInBounds_ne (by omega), Array.getElem?_setIfInBounds_ne (by omega), Array.getElem?_setIfInBounds_ne (by omega)]
        exact q
      · rw [e]
        refine ⟨?_, ?_⟩
        · rw [Array.getElem?_setIfInBounds_ne (by omega), Array.getElem?_setIfInBounds_self_of_lt (by omega)]; rfl
        · rw [Array.getElem?_setIfInBounds_self_of_lt (by simp; omega)]; rfl
  · simp only
    rw [← hts]
    exact owns_upd (owns_upd ot hu5 (fun b hb => (dt b hb).1)) hu6 (fun b hb => (dt b hb).2)
  · simp only [kvs, List.map_append, List.map_cons, List.map_nil]
    rw [← kv]; rfl
  · intro i hi
    rcases hlast i hi with ⟨h', e⟩ | ⟨rfl, e⟩
    · rw [e]
      exact ⟨((ok i h').1.upd hu5 (fun b hb => (sep i h' b (.inl hb)).1)).upd hu6 (fun b hb => (sep i h' b (.inl hb)).2.1), ((ok i h').2.upd hu5 (fun b hb => (sep i h' b (.inr hb)).1)).upd hu6 (fun b hb => (sep i h' b (.inr hb)).2.1)⟩
    · rw [e]
      have := bel.size
      exact ⟨(hk5.mono (by omega)).upd hu6 (fun b hb e => by have := hkl b (.inl hb); omega), (hv5.mono (by omega)).upd hu6 (fun b hb e => by have := hkl b (.inr hb); omega)⟩
  · intro i hi b hb
    rcases hlast i hi with ⟨h', e⟩ | ⟨rfl, e⟩
    · rw [e] at hb
      refine ⟨fun hm => ?_, (sep i h' b hb).2⟩
      rcases fp5 b hm with h | h
      · exact (sep i h' b hb).1 h
      · rcases hb with hb | hb
        · have := ((ok i h').1.owns.lt b hb).2; omega
        · have := ((ok i h').2.owns.lt b hb).2; omega
    · rw [e] at hb
      have hl := hkl b hb
      refine ⟨fun hm => ?_, by omega, fun e2 => by have := (ot.lt b e2).2; omega⟩
      rcases hb with hb | hb
      · exact (sp5 b hm).1 hb
      · exact (sp5 b hm).2 hb
  · intro b hb
    refine ⟨fun hm => ?_, (dt b hb).2⟩
    rcases fp5 b hm with h | h
    · exact (dt b hb).1 h
    · have := (ot.lt b hb).2; omega
  · have hb5 : Below w.heap.size w W5 := bel.trans (hu5.below bel.size (fun i hi hm => by have := (wk.lt i hm).1; omega))
    exact hb5.trans (hu6.below hb5.size (fun i hi e => by omega))

end Go.Proofs.YtepjblmjjegpgaaGreat

namespace Go.Proofs.YtepjblmjjegpgaaGreat
open Go.RowKit
set_option maxRecDepth 100000

def slen : Value → Nat
  | .slice _ n _ => n
  | _ => 0
/-- In the midst of a round: the table is right already. -/
structure RwM (w wr : World) (g ga : Nat) (a : Option Addr) (l c n k : Nat) (s : RS) (Es : List Ent) (va vt : Value) (ts : List Int) : Prop where
  wk : WkR wr w.heap.size g a l c s.p n k (ahd s.l) va
  eb : ∃ cur, wr.heap[ga]? = some (.cells cur 38 (0, 0)) ∧ cur.size = n * 2 ∧ ∀ i (h : i < Es.length), cur[i * 2]? = some Es[i].kv ∧ cur[i * 2 + 1]? = some Es[i].vv
  ot : wr.ownsRow w.heap.size 5 1 vt ts.length (ts.map (Value.int .u8))
  ok : ∀ i (h : i < Es.length), OwnB wr w.heap.size 5 Es[i].kv Es[i].ks ∧ OwnB wr w.heap.size 5 Es[i].vv Es[i].vs
  sep : ∀ i (h : i < Es.length) b, (Es[i].kv.ownBlock = some b ∨ Es[i].vv.ownBlock = some b) → ¬ WkM g va b ∧ b ≠ ga ∧ vt.ownBlock ≠ some b
  dt : ∀ b, vt.ownBlock = some b → ¬ WkM g va b ∧ b ≠ ga
  bel : Below w.heap.size w wr

theorem RwI.mid {w wr w3 : World} {g ga : Nat} {a : Option Addr} {l c n k : Nat} {s : RS} {Es : List Ent} {va vt v' : Value} {ts : List Int} (h : RwI w wr g ga a l c n k s Es va vt) (ho : w3.ownsRow w.heap.size 5 1 v' ts.length (ts.map (Value.int .u8))) (hg : wr.grownBy w3 vt.ownBlock) (hk : ∀ k, v'.ownBlock = some k → vt.ownBlock = some k ∨ wr.heap.size ≤ k) : RwM w w3 g ga a l c n k s Es va v' ts := by
  obtain ⟨q1, q2, q3, q4, q5, q6⟩ := h.table hg hk
  exact ⟨q1, q2, ho, q3, q4, q5, q6⟩

theorem run_madeE (n : Nat) (hn : n ≤ 1000) (w : World) : ∃ cur : Array Value, cur.size = n * 2 ∧ (Instr.makeSlice 27 (.int .i64 0) (.int .i64 (n : Int))).run Tryz.prog w = .ok (.slice (some ⟨w.heap.size, 0, none⟩) 0 n) (w.alloc (.cells cur 38)) := by
  obtain ⟨i0, hi0, hz0, hz1, hz2⟩ := info_parts infoE
  have h := run_make (P := Tryz.prog) w 27 38 i0 (.agg #[.slice none 0 0, .slice none 0 0]) Tryz.underlying27 hi0 hz0 .i64 .i64 0 n (by omega) (by omega) (by rw [hz2]; omega) (by omega)
  rw [hz1] at h
  simp only [Int.toNat_natCast] at h
  exact ⟨_, by simp [madeCells], h⟩

set_option maxRecDepth 100000 in
set_option maxHeartbeats 3200000 in
theorem readWhole_any (a : Option Addr) (l c : Nat) (zs : List Int) (w : World) (hl : zs.length = l) (hm : l ≤ 140737488400000) (hcl : l ≤ c) (na : a = none → l = 0 ∧ c = 0) (hr : Row w .u8 a zs) (z8 : B8 zs) :
    Calls Tryz.prog 165 #[.slice a l c] w (RwPost w zs) := by
  obtain ⟨i0, hi0, hz0, hz1, hz2⟩ := info_parts infoByte'
  obtain ⟨iE, hiE, _, hzE, _⟩ := info_parts infoE
  have HS := hide (start_any a l c zs w hl hm hr z8)
  have hra : Hid (∀ x, a = some x → 0 < l → x.block < w.heap.size) := fun x hx h0 => by
    obtain ⟨b', o', h1, h2, _⟩ := hr.cons (by omega)
    rw [hx] at h1; cases h1; exact h2
  have HR := hide hr
  have HNA := hide na
  clear hr na
  go_enter Tryz.func165, Tryz.ntmps165
  go_wp2_with fail
  refine HS.out.mono ?_
  rintro e w1 ⟨hb1, ⟨hst, g, hgN, rfl, hwk⟩ | ⟨hst, rfl⟩⟩
  · obtain ⟨hbR, hn1, hn64⟩ := bRes_at hst
    have hx0 := (rd_at zs 0 z8 (Nat.zero_le _)).2.2.2.1
    obtain ⟨x0, hx0'⟩ : ∃ x0, x0 = nx zs 0 := ⟨_, rfl⟩
    obtain ⟨n, hn'⟩ : ∃ n, n = nm zs 0 := ⟨_, rfl⟩
    rw [← hx0'] at hbR hwk hx0
    rw [← hn'] at hbR hwk hn1 hn64
    have HINV := hide (fun k (hk : k ≤ 64) => rinv z8 hx0 k hk)
    have HBR := hide hbR
    have B1 := hide hb1
    have c2 := hwk.cells.2.2.1
    obtain ⟨cur, hcur, hmk⟩ := run_madeE n (by omega) w1
    have HWK := hide hwk
    have hga : Hid (RwI w (w1.alloc (.cells cur 38)) g w1.heap.size a l c n 0 (rrun zs x0 0) [] (.slice none 0 0) (.slice none 0 0)) := by
      have hb2 : Below w1.heap.size w1 (w1.alloc (.cells cur 38)) := (Below.refl _ _).alloc (Nat.le_refl _) _
      refine ⟨hwk.upd (Upd.of_below hb2 Noth) (fun _ _ e => e), ⟨cur, heap_alloc_new w1 _, hcur, fun i h => absurd h (Nat.not_lt_zero i)⟩, World.ownsRow_nil _ _ _ _, rfl, fun i h => absurd h (Nat.not_lt_zero i), fun i h => absurd h (Nat.not_lt_zero i), (fun b h => by cases h), (fun h => by have := (hwk.lt _ h).2; omega), hb1.size, hb1.trans (hb2.mono hb1.size)⟩
    clear hbR hx0' hn' hwk hb1 hcur HS
    go_wp2_with fail
    generalize w1.alloc (.cells cur 38) = w2 at *
    obtain ⟨ga, hga'⟩ : ∃ ga, ga = w1.heap.size := ⟨_, rfl⟩
    rw [← hga'] at hga ⊢
    clear hga' hmk c2 HWK
    go_loopw [4, 5] (fun q4 q5 wr => ∃ (k nt : Nat) (at' : Option Addr) (ct : Nat) (Es : List Ent) (va : Value), k ≤ n ∧ q4 = .slice (some ⟨ga, 0, none⟩) k n ∧ q5 = .slice at' nt ct ∧ Hid ((tabP (rrun zs x0 k).ps k).length = nt) ∧ Hid ((rrun zs x0 k).e = 0) ∧ Hid (RwI w wr g ga a l c n k (rrun zs x0 k) Es va (.slice at' nt ct))) (fun q _ _ => n - slen q)
    case atStart => exact ⟨0, 0, none, 0, [], _, Nat.zero_le _, rfl, rfl, rfl, rfl, hga⟩
    case round =>
      clear hga
      obtain ⟨k, nt, at', ct, Es, va, hk, rfl, rfl, LT, HE0, HI⟩ := hrel
      obtain ⟨hinv, hlk, _⟩ := HINV.out k (by omega)
      have hlk' := hlk HE0.out
      have hpz := hinv.p
      have hps := hinv.ps
      have hgood := hinv.good (by omega)
      obtain ⟨s, hs⟩ : ∃ s, s = rrun zs x0 k := ⟨_, rfl⟩
      have HSS := hide hs
      rw [← hs] at LT HE0 HI hlk' hpz hps hgood
      have HLK := hide hlk'
      have HPS : Hid (s.ps.length = k) := hide (by rw [hps, hlk'])
      have HGD := hide hgood
      have hEs : Es.length = k := by rw [← kvs_len, HI.out.kv, hlk']
      have HKV := hide HI.out.kv
      have HDG := hide HI.out.dg
      have HGN := hide HI.out.gN
      clear hinv hlk hs hps hgood hlk'
      have HLF := hide (left_any HI.out.wk)
      by_cases hlt : k < n
      · rw [decide_eq_true hlt] at HLF
        go_wp2_with fail
        refine HLF.out.mono ?_
        rintro e w3 ⟨rfl, m, hw3⟩
        have HI3 : Hid (RwI w w3 g ga a l c n k s Es va (.slice at' nt ct)) := HI.out.below (by rw [hw3]; exact below_of_drewN (Below.refl _ _) m)
        clear hw3 HLF HI
        have c1 := HI3.out.wk.cells.2.1
        have c3 := HI3.out.wk.cells.2.2.2.1
        have HRS := hide (restart_any k w3 (by omega))
        have HSP := hide (spell_any s.p w3)
        obtain ⟨ts, hts⟩ : ∃ ts, ts = tabP (s.ps ++ [s.p]) (k + 1) := ⟨_, rfl⟩
        have HTS : Hid (ts = if k % 8 = 0 then tabP s.ps k ++ sp2 s.p else tabP s.ps k) := by
          show _ = _
          rw [hts]
          have := tabP_snoc s.ps s.p
          rw [HPS.out] at this
          exact this
        have hntl : nt ≤ 100 := by have := LT.out; rw [tabP_len] at this; omega
        obtain ⟨nt', hnt'⟩ : ∃ k, ts.length = k := ⟨_, rfl⟩
        have LT' := hide hnt'
        have hnt2 : nt' ≤ 100 := by rw [← hnt', hts, tabP_len]; omega
        replace hts := hide hts
        clear hnt'
        go_wp2_with fail
        refine keep HRS.out ?_
        obtain ⟨b8, hb8⟩ : ∃ b8, b8 = decide (k % 8 = 0) := ⟨_, rfl⟩
        rw [← hb8]
        replace hb8 := hide hb8
        go_upto_if 19 with fail
        go_cut [5] (fun s5 wx => ∃ (a5 : Option Addr) (c5 : Nat), s5 = .slice a5 nt' c5 ∧ Hid (RwM w wx g ga a l c n k s Es va (.slice a5 nt' c5) ts))
        case first =>
          by_cases h8 : k % 8 = 0
          · obtain rfl : b8 = true := by rw [hb8.out, decide_eq_true h8]
            have hb1 : Below w3.heap.size w3 (w3.alloc (.cells #[.int .u8 ((s.p % 256 : Nat) : Int), .int .u8 ((s.p / 256 % 256 : Nat) : Int)] 5)) := (Below.refl _ _).alloc (Nat.le_refl _) _
            have HI4 := hide (HI3.out.below hb1)
            have HR1 := hide (two_row w3 ((s.p % 256 : Nat) : Int) ((s.p / 256 % 256 : Nat) : Int) 5)
            have hbz : Hid (w.heap.size ≤ (w3.alloc (.cells #[.int .u8 ((s.p % 256 : Nat) : Int), .int .u8 ((s.p / 256 % 256 : Nat) : Int)] 5)).heap.size) := HI4.out.bel.size
            have ht9 : Hid (tabP s.ps k ++ [((s.p % 256 : Nat) : Int), ((s.p / 256 % 256 : Nat) : Int)] = ts) := by show _ = _; rw [HTS.out, if_pos h8]; rfl
            have ZB : Hid ((tabP s.ps k).length + 2 ≤ 140737488355328) := by show _ ≤ _; rw [LT.out]; omega
            clear hb1
            go_wp2_with fail
            refine HSP.out.mono ?_
            rintro e w4 ⟨rfl, rfl⟩
            go_wp2_with (first
              | (at_builtin; refine app_list rfl (.tmp 20) (.tmp 25) 23 rfl w.heap.size 5 i0 Tryz.underlying23 hi0 hz0 hz1 hz2 (.slice at' nt ct) (tabP s.ps k) rfl HI4.out.ot (some ⟨w3.heap.size, 0, none⟩) 2 2 [((s.p % 256 : Nat) : Int), ((s.p / 256 % 256 : Nat) : Int)] rfl rfl (by intro h; cases h) HR1.out ZB.out hbz.out ?_; intro v4 w4 ho4 hg4 hk4; rw [ht9.out] at ho4; have HM4 := hide (HI4.out.mid ho4 hg4 hk4); obtain ⟨a5, c5, rfl, _⟩ := owns_openN ho4 LT'.out; clear ho4 hg4 hk4)
              | fail)
            go_meet
            exact ⟨a5, c5, rfl, HM4⟩
          · obtain rfl : b8 = false := by rw [hb8.out, decide_eq_false h8]
            have ht9 : ts = tabP s.ps k := by rw [HTS.out, if_neg h8]
            obtain rfl : nt' = nt := by rw [← LT'.out, ht9, LT.out]
            go_wp2_with fail
            go_meet
            exact ⟨at', ct, rfl, HI3.out.wk, HI3.out.eb, by rw [ht9]; exact HI3.out.ot, HI3.out.ok, HI3.out.sep, HI3.out.dt, HI3.out.bel⟩
        case rest =>
          obtain ⟨a5, c5, rfl, HM⟩ := hcut
          clear HI3 HSP HRS c1 c3 HTS hb8
          have HEN := hide (entry_any HM.out.wk hl hm hcl HNA.out (HR.out.below2 HM.out.bel) (fun x hx h0 hm => by have h1 := hra.out x hx h0; have h2 := (HM.out.wk.lt _ hm).1; omega) z8 HGD.out.ahd8 HGD.out.ahdl (by omega))
          have hpv : (if k % 8 = 0 then [] else ahd s.l) = pvS s.l := by unfold pvS; rw [HLK.out]
          rw [hpv] at HEN
          obtain ⟨se1, se2, se3⟩ := step_e (zs := zs) HE0.out (by omega)
          have SE1 := hide se1
          have SE2 := hide se2
          have SE3 := hide se3
          clear hpv se1 se2 se3
          go_wp2_with fail
          refine HEN.out.mono ?_
          rintro e w5 (⟨he, ⟨ka, kc, v2, vc, N, vn, rfl, hk5, hv5, hN5, hkN5, wk5, hu5, fp5, sp5⟩⟩ | ⟨he, rfl, hb5⟩)
          · have HRR : Hid (rrun zs x0 (k + 1) = ⟨s.l ++ [(xKy (pvS s.l) zs s.p, xVl (pvS s.l) zs s.p)], s.ps ++ [s.p], xPl (pvS s.l) zs s.p, 0, 0⟩) := by show _ = _; rw [rrun, ← HSS.out]; exact SE3.out he
            generalize xKy (pvS s.l) zs s.p = K at *
            generalize xVl (pvS s.l) zs s.p = V at *
            generalize xPl (pvS s.l) zs s.p = p' at *
            have HNX := hide (fun W6 hW6 => RwI.next (W6 := W6) HM.out.wk HM.out.eb HM.out.ot HKV.out hEs HM.out.ok HM.out.sep HM.out.dt HDG.out HGN.out HM.out.bel ka kc v2 vc N vn hk5 hv5 hN5 wk5 hu5 fp5 sp5 hlt hts.out hW6)
            rw [← HRR.out] at HNX
            have hcur : ∃ cur, (w5.alloc (.cells #[.slice ka K.length kc, .slice v2 V.length vc] 38)).heap[ga]? = some (.cells cur 38 (0, 0)) ∧ cur.size = n * 2 := by
              obtain ⟨cur, q1, q2, _⟩ := HM.out.eb
              have q3 := hu5.heap q1 HDG.out
              exact ⟨cur, (Below.heap_alloc _ _ _ (lt_of_block q3)).trans q3, q2⟩
            obtain ⟨cur, hcur1, hcur2⟩ := hcur
            have HCU := hide hcur1
            have Y := hide (two_new2 w5 (.slice ka K.length kc) (.slice v2 V.length vc) 38)
            replace hcur2 := hide hcur2
            clear hk5 hv5 hN5 hkN5 wk5 hu5 fp5 sp5 hcur1 HEN SE1 SE2 SE3
            obtain ⟨nK, hnK⟩ : ∃ x, K.length = x := ⟨_, rfl⟩
            obtain ⟨nV, hnV⟩ : ∃ x, V.length = x := ⟨_, rfl⟩
            rw [hnK, hnV] at Y HCU
            rw [hnK, hnV]
            have HNX2 : Hid (∀ W6, Hid (W6 = ((w5.alloc (.cells #[.slice ka nK kc, .slice v2 nV vc] 38)).setCell ⟨ga, k * 2, none⟩ (.slice ka nK kc)).setCell ⟨ga, k * 2 + 1, none⟩ (.slice v2 nV vc)) → RwI w W6 g ga a l c n (k + 1) (rrun zs x0 (k + 1)) (Es ++ [⟨ka, kc, K, v2, vc, V⟩]) vn (.slice a5 nt' c5)) := fun W6 h => HNX.out W6 (by rw [hnK, hnV]; exact h.out)
            have hT' : Hid ((tabP (rrun zs x0 (k + 1)).ps (k + 1)).length = nt') := by show _ = _; rw [HRR.out]; simp only; rw [← hts.out]; exact LT'.out
            have hE' : Hid ((rrun zs x0 (k + 1)).e = 0) := by show _ = _; rw [HRR.out]
            clear hnK hnV HNX HRR
            go_wp2_with (first
              | (at_builtin; refine app_room rfl (.tmp 27) (.tmp 30) 27 rfl 38 iE Tryz.underlying27 hiE hzE ga k n rfl cur 38 HCU.out hcur2.out hlt ⟨w5.heap.size, 0, none⟩ 1 (.slice ka nK kc) (.slice v2 nV vc) rfl Y.out.1 Y.out.2 rfl rfl ?_)
              | fail)
            go_roundw
            case rel => exact ⟨k + 1, nt', a5, c5, _, vn, by omega, rfl, rfl, hT', hE', HNX2.out _ rfl⟩
            case measure => simp [slen]; omega
          · have HF : Hid (RwPost w zs (fallen (eE (pvS s.l) (ahd s.l) zs s.p) (eP (pvS s.l) zs s.p : Nat)) w5) := by
              have hre : (rrun zs x0 (k + 1)).e = eE (pvS s.l) (ahd s.l) zs s.p ∧ (rrun zs x0 (k + 1)).q = eP (pvS s.l) zs s.p := by
                rw [rrun, ← HSS.out]
                exact ⟨SE1.out.symm, (SE2.out he).symm⟩
              have hbf := bFin_fail (zs := zs) (p0 := x0) (k := k) (n := n) (by rw [hre.1]; exact he) hlt
              rw [← HBR.out, hre.1, hre.2] at hbf
              refine ⟨HM.out.bel.trans (hb5.mono HM.out.bel.size), .inr ?_⟩
              rw [hbf]
              exact ⟨he, rfl⟩
            exact ⟨rfl, HF.out⟩
      · obtain rfl : k = n := by omega
        rw [decide_eq_false hlt] at HLF
        go_wp2_with fail
        refine HLF.out.mono ?_
        rintro e w3 ⟨rfl, m, hw3⟩
        have HI3 : Hid (RwI w w3 g ga a l c k k s Es va (.slice at' nt ct)) := HI.out.below (by rw [hw3]; exact below_of_drewN (Below.refl _ _) m)
        clear hw3 HLF HI
        have HFN := hide (finish_any at' nt ct HI3.out.wk hl hm hcl (by omega) (HR.out.below2 HI3.out.bel) LT.out (by have := LT.out; rw [tabP_len] at this; omega) (row_of_owns2 (n := nt) (by have := HI3.out.ot; rw [LT.out] at this; exact this)))
        have HBF : Hid (bRes zs = bFin zs s) := by show _ = _; rw [HBR.out, HSS.out]
        go_wp2_with fail
        refine HFN.out.mono ?_
        rintro e w4 ⟨hb4, hcase⟩
        have hbF : bFin zs s = (if comN (zs.drop s.p) (tabP s.ps k) < (tabP s.ps k).length then ([], 62, s.p + comN (zs.drop s.p) (tabP s.ps k)) else if comN (zs.drop s.p) (tabP s.ps k) < (zs.drop s.p).length then ([], 63, s.p + comN (zs.drop s.p) (tabP s.ps k)) else (s.l, 0, 0)) := by
          unfold bFin
          rw [if_neg (by rw [HE0.out]; simp), HPS.out]
        rw [← HBF.out] at hbF
        have hbb : Below w.heap.size w w4 := HI3.out.bel.trans (hb4.mono HI3.out.bel.size)
        by_cases h1 : comN (zs.drop s.p) (tabP s.ps k) < (tabP s.ps k).length
        · rw [if_pos h1] at hcase hbF
          subst hcase
          exact ⟨rfl, hbb, .inr (by rw [hbF]; exact ⟨by simp, rfl⟩)⟩
        · rw [if_neg h1] at hcase hbF
          by_cases h2 : comN (zs.drop s.p) (tabP s.ps k) < (zs.drop s.p).length
          · rw [if_pos h2] at hcase hbF
            subst hcase
            exact ⟨rfl, hbb, .inr (by rw [hbF]; exact ⟨by simp, rfl⟩)⟩
          · rw [if_neg h2] at hcase hbF
            obtain ⟨v, rfl⟩ := hcase
            have HI4 := hide (HI3.out.below hb4)
            have HF : Hid (RwPost w zs (.returned (.slice (some ⟨ga, 0, none⟩) k k)) w4) := by
              refine ⟨hbb, .inl ⟨by rw [hbF], ga, Es, by rw [hEs], ⟨?_, HI4.out.ok, fun i hi b hb => (HI4.out.sep i hi b hb).2.1, HI4.out.gN⟩, by rw [hbF]; exact HI4.out.kv⟩⟩
              obtain ⟨cur, q1, q2, q3⟩ := HI4.out.eb
              exact ⟨cur, q1, by rw [hEs]; exact q2, q3⟩
            clear hbF hbb hb4 h1 h2 HFN
            go_wp2_with fail
            go_ret
            exact HF.out
  · have HF : Hid (RwPost w zs (fallen (stE zs) (stP zs : Nat)) w1) := ⟨hb1, .inr (by rw [bRes_st hst]; exact ⟨hst, rfl⟩)⟩
    exact ⟨rfl, HF.out⟩

end Go.Proofs.YtepjblmjjegpgaaGreat

namespace Go.Proofs.YtepjblmjjegpgaaGreat
open Go.RowKit
set_option maxRecDepth 100000

def One (W : World) (g : Nat) (t : TypeId) (v : Value) : Prop := W.heap[g]? = some (.cells #[v] t (0, 0))
theorem One.cell {W : World} {g : Nat} {t : TypeId} {v : Value} (h : One W g t v) : W.cell? ⟨g, 0, none⟩ = some v := by rw [cell_of_row _ _ _ _ _ _ h]; rfl
theorem One.fr {W : World} {g : Nat} {t : TypeId} {v : Value} (h : One W g t v) : W.frozen? ⟨g, 0, none⟩ = false := frozen_blk h 0
theorem ElOk.upd {W W' : World} {N ga : Nat} {Es : List Ent} {S : Nat → Prop} (h : ElOk W N ga Es) (hu : Upd S W W') (hs : ∀ i, N ≤ i → i < W.heap.size → ¬ S i) : ElOk W' N ga Es := by
  obtain ⟨cur, h1, h2, h3⟩ := h.eb
  exact ⟨⟨cur, hu.heap h1 (hs _ h.gN (lt_of_block h1)), h2, h3⟩, fun i hi => ⟨(h.ok i hi).1.upd hu (fun b hb => hs b ((h.ok i hi).1.owns.lt b hb).1 ((h.ok i hi).1.owns.lt b hb).2), (h.ok i hi).2.upd hu (fun b hb => hs b ((h.ok i hi).2.owns.lt b hb).1 ((h.ok i hi).2.owns.lt b hb).2)⟩, h.sep, h.gN⟩
theorem ElOk.below {W W' : World} {N ga : Nat} {Es : List Ent} (h : ElOk W N ga Es) (hb : Below W.heap.size W W') : ElOk W' N ga Es := h.upd (Upd.of_below hb Noth) (fun _ _ _ e => e)
theorem ElOk.mono {W : World} {N N' ga : Nat} {Es : List Ent} (h : ElOk W N' ga Es) (hn : N ≤ N') : ElOk W N ga Es :=
  ⟨h.eb, fun i hi => ⟨(h.ok i hi).1.mono hn, (h.ok i hi).2.mono hn⟩, h.sep, Nat.le_trans hn h.gN⟩

/-- What Read's closure does. -/
def R1Post (w : World) (zs : List Int) (gl : Nat) (e : Ending) (w' : World) : Prop :=
  Upd (fun i => i = gl) w w' ∧ (((bRes zs).2.1 = 0 ∧ ∃ v ga Es, e = .returned v ∧ One w' gl 27 (.slice (some ⟨ga, 0, none⟩) Es.length Es.length) ∧ ElOk w' w.heap.size ga Es ∧ kvs Es = (bRes zs).1) ∨ ((bRes zs).2.1 ≠ 0 ∧ e = fallen (bRes zs).2.1 ((bRes zs).2.2 : Nat) ∧ One w' gl 27 (.slice none 0 0)))

set_option maxRecDepth 100000 in
set_option maxHeartbeats 800000 in
theorem read1_any (a : Option Addr) (l c gb gl : Nat) (zs : List Int) (w : World) (hl : zs.length = l) (hm : l ≤ 140737488400000) (hcl : l ≤ c) (na : a = none → l = 0 ∧ c = 0) (hr : Row w .u8 a zs) (z8 : B8 zs) (h1 : One w gb 23 (.slice a l c)) (h2 : One w gl 27 (.slice none 0 0)) :
    Calls Tryz.prog 164 #[.pointer (some ⟨gb, 0, none⟩), .pointer (some ⟨gl, 0, none⟩)] w (R1Post w zs gl) := by
  have c1 := h1.cell
  have HRW := hide (readWhole_any a l c zs w hl hm hcl na hr z8)
  have hgl : gl < w.heap.size := lt_of_block h2
  have H2 := hide h2
  clear h1 h2 hr na
  go_enter Tryz.func164, Tryz.ntmps164
  go_wp2_with fail
  refine HRW.out.mono ?_
  rintro e w1 ⟨hb, ⟨h0, ga, Es, rfl, hE, hkv⟩ | ⟨h0, rfl⟩⟩
  · have hO : One w1 gl 27 (.slice none 0 0) := (hb.block gl hgl).trans H2.out
    have c2 := hO.cell
    have f2 := hO.fr
    have hu : Upd (fun i => i = gl) w1 (w1.setCell ⟨gl, 0, none⟩ (.slice (some ⟨ga, 0, none⟩) Es.length Es.length)) := set_upd _ gl 0 _
    have HF : Hid (∀ v, R1Post w zs gl (.returned v) (w1.setCell ⟨gl, 0, none⟩ (.slice (some ⟨ga, 0, none⟩) Es.length Es.length))) := fun v => ⟨(Upd.of_below hb _).trans hu, .inl ⟨h0, v, ga, Es, rfl, block_setCell hO 0 _, hE.upd hu (fun i hi _ e => by have e' : i = gl := e; omega), hkv⟩⟩
    clear hO hu hE hkv hb
    generalize Es.length = n at *
    go_wp2_with fail
    go_end0
    exact HF.out _
  · exact ⟨rfl, Upd.of_below hb _, .inr ⟨h0, rfl, (hb.block gl hgl).trans H2.out⟩⟩

/-- What Read tells. -/
def RdB (w : World) (zs : List Int) (e : Ending) (w' : World) : Prop :=
  Below w.heap.size w w' ∧ (((bRes zs).2.1 = 0 ∧ ∃ ga Es, e = .returned (.tuple #[.slice (some ⟨ga, 0, none⟩) Es.length Es.length, .int .i64 0, .int .i64 0]) ∧ ElOk w' w.heap.size ga Es ∧ kvs Es = (bRes zs).1) ∨ ((bRes zs).2.1 ≠ 0 ∧ e = .returned (.tuple #[.slice none 0 0, .int .i64 (bRes zs).2.1, .int .i64 ((bRes zs).2.2 : Nat)])))

set_option maxRecDepth 100000 in
set_option maxHeartbeats 800000 in
theorem bread_any (a : Option Addr) (l c : Nat) (zs : List Int) (w : World) (hl : zs.length = l) (hm : l ≤ 140737488400000) (hcl : l ≤ c) (na : a = none → l = 0 ∧ c = 0) (hr : Row w .u8 a zs) (z8 : B8 zs) :
    Calls Tryz.prog 151 #[.slice a l c] w (RdB w zs) := by
  have hmf : ∀ (fn : Fn) (first cap : Array Value) (w : World), (Instr.makeFunc fn first cap).run Tryz.prog w = .ok (.func fn first cap) w := fun _ _ _ _ => rfl
  obtain ⟨w2, hw2⟩ : ∃ w2, w2 = (w.alloc (.cells #[.slice a l c] 23)).alloc (.cells #[.slice none 0 0] 27) := ⟨_, rfl⟩
  have hb2 : Below w.heap.size w w2 := by rw [hw2]; exact ((Below.refl _ _).alloc (Nat.le_refl _) _).alloc (by simp) _
  have hs2 : w2.heap.size = w.heap.size + 2 := by rw [hw2]; simp
  have hO1 : One w2 w.heap.size 23 (.slice a l c) := by rw [hw2]; exact (Below.heap_alloc _ _ _ (by simp)).trans (heap_alloc_new w _)
  have hO2 : One w2 (w.heap.size + 1) 27 (.slice none 0 0) := by
    have := heap_alloc_new (w.alloc (.cells #[.slice a l c] 23)) (.cells #[.slice none 0 0] 27)
    rw [World.size_alloc] at this
    rw [hw2]; exact this
  have hb3 : Below w2.heap.size w2 (w2.alloc (.cells #[.int .i64 0, .int .i64 0] 114)) := (Below.refl _ _).alloc (Nat.le_refl _) _
  have HT := hide (tried_any 164 #[.pointer (some ⟨w.heap.size, 0, none⟩), .pointer (some ⟨w.heap.size + 1, 0, none⟩)] w2
    (fun w' => Upd (fun i => i = w.heap.size + 1) (w2.alloc (.cells #[.int .i64 0, .int .i64 0] 114)) w' ∧ (bRes zs).2.1 = 0 ∧ ∃ ga Es, One w' (w.heap.size + 1) 27 (.slice (some ⟨ga, 0, none⟩) Es.length Es.length) ∧ ElOk w' (w2.heap.size + 1) ga Es ∧ kvs Es = (bRes zs).1)
    (fun er p w' => Upd (fun i => i = w.heap.size + 1) (w2.alloc (.cells #[.int .i64 0, .int .i64 0] 114)) w' ∧ (bRes zs).2.1 ≠ 0 ∧ er = (bRes zs).2.1 ∧ p = ((bRes zs).2.2 : Nat) ∧ One w' (w.heap.size + 1) 27 (.slice none 0 0))
    (fun _ _ => rfl) (by
      refine (read1_any a l c w.heap.size (w.heap.size + 1) zs _ hl hm hcl na ((hr.below2 hb2).below2 hb3) z8 ((hb3.block _ (by omega)).trans hO1) ((hb3.block _ (by omega)).trans hO2)).mono ?_
      rintro e w' ⟨hu, hcase⟩
      have hbk : w'.heap[w2.heap.size]? = some (.cells #[.int .i64 0, .int .i64 0] 114 (0, 0)) := hu.heap (heap_alloc_new w2 _) (fun e => by omega)
      rcases hcase with ⟨h0, v, ga, Es, rfl, h1, h2, h3⟩ | ⟨h0, rfl, h1⟩
      · exact ⟨.inl ⟨v, rfl, hu, h0, ga, Es, h1, by rw [World.size_alloc] at h2; exact h2, h3⟩, hbk⟩
      · exact ⟨.inr ⟨_, _, rfl, hu, h0, rfl, rfl, h1⟩, hbk⟩))
  have B2 := hide hb2
  have B3 := hide hb3
  have S2 := hide hs2
  clear hr na hb2 hO1 hO2 hs2 hb3
  go_enter Tryz.func151, Tryz.ntmps151
  go_wp2_with fail
  rw [← hw2]
  replace hw2 := hide hw2
  refine HT.out.mono ?_
  rintro e w5 (⟨rfl, w4, ⟨hu4, h0, ga, Es, hO, hE, hkv⟩, hlt, hu5⟩ | ⟨er, p, w4, rfl, ⟨hu4, h0, rfl, rfl, hO⟩, hlt, hu5⟩)
  · have hs2 := S2.out
    have hO5 : One w5 (w.heap.size + 1) 27 (.slice (some ⟨ga, 0, none⟩) Es.length Es.length) := hu5.heap hO (fun e => by omega)
    have hE5 : ElOk w5 (w2.heap.size + 1) ga Es := hE.upd hu5 (fun i hi _ e => by omega)
    have hB5 : Below w.heap.size w w5 := (B2.out.trans (B3.out.mono B2.out.size)).trans (((hu4.below (by simp; omega) (fun i hi e => by omega))).trans (hu5.below (Nat.le_trans (show w.heap.size ≤ _ by simp; omega) hu4.size) (fun i hi e => by omega)))
    have hlt5 : w.heap.size + 1 < w5.heap.size := lt_of_block hO5
    have hE6 : ElOk (w5.alloc (.cells #[.int .i64 0, .int .i64 0] 114)) (w2.heap.size + 1) ga Es := hE5.below ((Below.refl _ _).alloc (Nat.le_refl _) _)
    have c5 := One.cell (W := w5.alloc (.cells #[.int .i64 0, .int .i64 0] 114)) (g := w.heap.size + 1) (t := 27) ((Below.heap_alloc w5 (.cells #[.int .i64 0, .int .i64 0] 114) _ hlt5).trans hO5)
    have HF : Hid (∀ m, RdB w zs (.returned (.tuple #[.slice (some ⟨ga, 0, none⟩) Es.length Es.length, .int .i64 0, .int .i64 0])) ((w5.alloc (.cells #[.int .i64 0, .int .i64 0] 114)).drewN m)) := fun m => ⟨below_of_drewN (hB5.alloc hB5.size _) m, .inl ⟨h0, ga, Es, rfl, (hE6.mono (by omega)).below (below_of_drewN (Below.refl _ _) m), hkv⟩⟩
    have y := two_new2 w5 (.int .i64 0) (.int .i64 0) 114
    have y0 := y.1
    have y1 := y.2
    generalize Es.length = n at *
    clear y hE6 hE5 hO5 hB5 hkv hE hO hu4 hu5 HT
    go_wp2_with fail
    go_quiet (fail)
    go_wp2_with fail
    go_ret3
    exact HF.out _
  · have hs2 := S2.out
    have hO5 : One w5 (w.heap.size + 1) 27 (.slice none 0 0) := hu5.heap hO (fun e => by omega)
    have hB5 : Below w.heap.size w w5 := (B2.out.trans (B3.out.mono B2.out.size)).trans (((hu4.below (by simp; omega) (fun i hi e => by omega))).trans (hu5.below (Nat.le_trans (show w.heap.size ≤ _ by simp; omega) hu4.size) (fun i hi e => by omega)))
    have hlt5 : w.heap.size + 1 < w5.heap.size := lt_of_block hO5
    have HF : Hid (∀ m, RdB w zs (.returned (.tuple #[.slice none 0 0, .int .i64 (bRes zs).2.1, .int .i64 ((bRes zs).2.2 : Nat)])) ((w5.alloc (.cells #[.int .i64 (bRes zs).2.1, .int .i64 ((bRes zs).2.2 : Nat)] 114)).drewN m)) := fun m => ⟨below_of_drewN (hB5.alloc hB5.size _) m, .inr ⟨h0, rfl⟩⟩
    generalize (bRes zs).2.1 = er at *
    generalize (bRes zs).2.2 = p at *
    have c5 := One.cell (W := w5.alloc (.cells #[.int .i64 er, .int .i64 (p : Int)] 114)) (g := w.heap.size + 1) (t := 27) ((Below.heap_alloc w5 (.cells #[.int .i64 er, .int .i64 (p : Int)] 114) _ hlt5).trans hO5)
    have y := two_new2 w5 (.int .i64 er) (.int .i64 (p : Int)) 114
    have y0 := y.1
    have y1 := y.2
    clear y hO5 hB5 hO hu4 hu5 HT
    go_wp2_with fail
    go_quiet (fail)
    go_wp2_with fail
    go_ret3
    exact HF.out _

end Go.Proofs.YtepjblmjjegpgaaGreat

namespace Go.Proofs.YtepjblmjjegpgaaGreat
open Go.RowKit
set_option maxRecDepth 100000

def Byk (W : World) (N M ga : Nat) (a : Option Addr) (c : Nat) : Prop := c ≤ maxLen ∧ (c = 0 ∨ ∃ g cur, a = some ⟨g, 0, none⟩ ∧ (N ≤ g ∧ g < M) ∧ g ≠ ga ∧ W.heap[g]? = some (.cells cur 5 (0, 0)) ∧ cur.size = c ∧ ∀ u ∈ cur.toList, IsByte u)
theorem Byk.set {W : World} {N M ga c g k : Nat} {a : Option Addr} {cur : Array Value} (h : Byk W N M ga a c) (hg : W.heap[g]? = some (.cells cur 5 (0, 0))) (hb : ∀ u ∈ cur.toList, IsByte u) (x : Int) : Byk (W.setCell ⟨g, k, none⟩ (.int .u8 x)) N M ga a c := by
  refine ⟨h.1, h.2.imp id ?_⟩
  rintro ⟨g', cur', h1, h2, h3, h4, h5, h6⟩
  by_cases e : g' = g
  · subst e
    rw [hg] at h4
    cases h4
    exact ⟨g', _, h1, h2, h3, block_setCell hg k _, by rw [Array.size_setIfInBounds]; exact h5, isByte_set hb k x⟩
  · exact ⟨g', cur', h1, h2, h3, (Below.heap_setCell _ _ _ _ e).trans h4, h5, h6⟩
/-- The entries from i on are as they were, and their texts are bytes. -/
structure SpI (w W : World) (N M ga : Nat) (Es : List Ent) (i : Nat) : Prop where
  arr : ∃ cur, W.heap[ga]? = some (.cells cur 38 (0, 0)) ∧ cur.size = Es.length * 2 ∧ ∀ j (h : j < Es.length), i ≤ j → cur[j * 2]? = some Es[j].kv ∧ cur[j * 2 + 1]? = some Es[j].vv
  by' : ∀ j (h : j < Es.length), Byk W N M ga Es[j].ka Es[j].kc ∧ Byk W N M ga Es[j].va Es[j].vc
  up : Upd (fun b => N ≤ b ∧ b < M) w W
theorem SpI.byte {w W : World} {N M ga : Nat} {Es : List Ent} {i g k : Nat} {cur : Array Value} (h : SpI w W N M ga Es i) (hN : N ≤ g ∧ g < M) (hne : g ≠ ga) (hg : W.heap[g]? = some (.cells cur 5 (0, 0))) (hb : ∀ u ∈ cur.toList, IsByte u) (x : Int) : SpI w (W.setCell ⟨g, k, none⟩ (.int .u8 x)) N M ga Es i := by
  obtain ⟨c2, h1, h2, h3⟩ := h.arr
  exact ⟨⟨c2, (Below.heap_setCell _ _ _ _ (Ne.symm hne)).trans h1, h2, h3⟩, fun j hj => ⟨(h.by' j hj).1.set hg hb x, (h.by' j hj).2.set hg hb x⟩, h.up.trans ((set_upd W g k _).mono (fun b _ e => by rw [show b = g from e]; exact hN))⟩
theorem SpI.drewN {w W : World} {N M ga : Nat} {Es : List Ent} {i : Nat} (h : SpI w W N M ga Es i) (m : Nat) : SpI w (W.drewN m) N M ga Es i :=
  ⟨h.arr, h.by', ⟨h.up.os, h.up.tape, h.up.output, h.up.size, h.up.block⟩⟩
theorem SpI.zero {w W : World} {N M ga : Nat} {Es : List Ent} {i : Nat} (h : SpI w W N M ga Es i) (hN : N ≤ ga ∧ ga < M) : SpI w ((W.setCell ⟨ga, i * 2, none⟩ (.slice none 0 0)).setCell ⟨ga, i * 2 + 1, none⟩ (.slice none 0 0)) N M ga Es (i + 1) := by
  obtain ⟨cur, h1, h2, h3⟩ := h.arr
  refine ⟨⟨_, block_setCell (block_setCell h1 _ _) _ _, by simp [h2], fun j hj hij => ?_⟩, fun j hj => ?_, h.up.trans (((set_upd W ga _ _).trans (set_upd _ ga _ _)).mono (fun b _ e => by rw [show b = ga from e]; exact hN))⟩
  · rw [Array.getElem?_setIfInBounds_ne (by omega), Array.getElem?_setIfInBounds_ne (by omega), Array.getElem?_setIfInBounds_ne (by omega), Array.getElem?_setIfInBounds_ne (by omega)]
    exact h3 j hj (by omega)
  · have q : ∀ a c, Byk W N M ga a c → Byk ((W.setCell ⟨ga, i * 2, none⟩ (.slice none 0 0)).setCell ⟨ga, i * 2 + 1, none⟩ (.slice none 0 0)) N M ga a c := fun a c hb => by
      refine ⟨hb.1, hb.2.imp id ?_⟩
      rintro ⟨g', cur', k1, k2, k3, k4, k5, k6⟩
      exact ⟨g', cur', k1, k2, k3, (Below.heap_setCell _ _ _ _ k3).trans ((Below.heap_setCell _ _ _ _ k3).trans k4), k5, k6⟩
    exact ⟨q _ _ (h.by' j hj).1, q _ _ (h.by' j hj).2⟩
theorem byk_of {W : World} {N M ga : Nat} {a : Option Addr} {n c : Nat} {zs : List Int} (h : OwnB W N 5 (.slice a n c) zs) (hs : ∀ b, (Value.slice a n c).ownBlock = some b → b ≠ ga ∧ b < M) : Byk W N M ga a c := by
  rcases h with ⟨h1, _⟩ | ⟨g, cap, cur, h1, h2, h3, h4, h5, h6, h7, h8⟩
  · cases h1; exact ⟨by unfold maxLen; omega, .inl rfl⟩
  · cases h1
    exact ⟨h5, .inr ⟨g, cur, rfl, ⟨h2, (hs g rfl).2⟩, (hs g rfl).1, h3, h6, h8⟩⟩
theorem ElOk.spi {W0 W : World} {N ga : Nat} {Es : List Ent} (h0 : ElOk W0 N ga Es) (hb : Below W0.heap.size W0 W) : SpI W W N W0.heap.size ga Es 0 := by
  have h := h0.below hb
  obtain ⟨cur, h1, h2, h3⟩ := h.eb
  exact ⟨⟨cur, h1, h2, fun j hj _ => h3 j hj⟩, fun j hj => ⟨byk_of (n := Es[j].ks.length) (h.ok j hj).1 (fun b hb => ⟨h.sep j hj b (.inl hb), ((h0.ok j hj).1.owns.lt b hb).2⟩), byk_of (n := Es[j].vs.length) (h.ok j hj).2 (fun b hb => ⟨h.sep j hj b (.inr hb), ((h0.ok j hj).2.owns.lt b hb).2⟩)⟩, Upd.refl _ _⟩

set_option maxRecDepth 100000 in
set_option maxHeartbeats 800000 in
theorem rspoil_nil (w : World) :
    Calls Tryz.prog 19 #[.slice none 0 0] w fun e w' => e = .returned (.tuple #[]) ∧ w' = w := by
  go_enter Tryz.func19, Tryz.ntmps19
  go_wp2
  refine wp_loop_rounds 1 ?_
  rw [rounds_succ]
  go_wp2
  go_end0
  exact ⟨rfl, rfl⟩

set_option maxRecDepth 100000 in
set_option maxHeartbeats 3200000 in
theorem rspoil_spi {w : World} {N M ga n : Nat} {Es : List Ent} (H0 : Hid (SpI w w N M ga Es 0)) (hgN : N ≤ ga ∧ ga < M) (hn : Es.length = n) (hm : n ≤ 1000) (m : Nat) :
    Calls Tryz.prog 19 #[.slice (some ⟨ga, 0, none⟩) m n] w fun e w' => e = .returned (.tuple #[]) ∧ Upd (fun b => N ≤ b ∧ b < M) w w' := by
  go_enter Tryz.func19, Tryz.ntmps19
  go_wp2
  go_loopw [2] (fun q wr => ∃ i : Nat, i ≤ n ∧ q = .int .i64 (i : Int) ∧ Hid (SpI w wr N M ga Es i)) (fun q _ => n - (intOf q).toNat)
  case atStart => exact ⟨0, by omega, rfl, H0⟩
  case round =>
    clear H0
    obtain ⟨i, hi, rfl, HI⟩ := hrel
    by_cases hlt : i < n
    · have hiE : i < Es.length := by omega
      have i1 : (i : Int) < (n : Int) := by omega
      have i2 : (0 : Int) ≤ (i : Int) := by omega
      obtain ⟨cur, q1, q2, q3⟩ := HI.out.arr
      have c0 : wr.cell? ⟨ga, i * 2, none⟩ = some Es[i].kv := by rw [cell_of_row _ _ _ _ _ _ q1]; exact (q3 i hiE (Nat.le_refl _)).1
      have hbk : Hid (∀ W, SpI w W N M ga Es i → Byk W N M ga Es[i].ka Es[i].kc ∧ Byk W N M ga Es[i].va Es[i].vc) := fun W h => h.by' i hiE
      have hcl : Hid (∀ W, SpI w W N M ga Es i → W.cell? ⟨ga, i * 2 + 1, none⟩ = some Es[i].vv) := fun W h => by
        obtain ⟨cur, q1, q2, q3⟩ := h.arr
        rw [cell_of_row _ _ _ _ _ _ q1]; exact (q3 i hiE (Nat.le_refl _)).2
      have hcz : Hid (∀ W, SpI w W N M ga Es i → (∃ x, W.cell? ⟨ga, i * 2, none⟩ = some x) ∧ (∃ x, W.cell? ⟨ga, i * 2 + 1, none⟩ = some x) ∧ (∀ j, W.frozen? ⟨ga, j, none⟩ = false)) := fun W h => by
        obtain ⟨cur, q1, q2, q3⟩ := h.arr
        refine ⟨⟨_, by rw [cell_of_row _ _ _ _ _ _ q1]; exact (q3 i hiE (Nat.le_refl _)).1⟩, ⟨_, by rw [cell_of_row _ _ _ _ _ _ q1]; exact (q3 i hiE (Nat.le_refl _)).2⟩, fun j => by simp [World.frozen?, q1]⟩
      clear q1 q2 q3
      generalize Es[i] = en at *
      unfold Ent.kv at c0
      unfold Ent.vv at hcl
      have hks : ∀ W : World, (Instr.slice 23 (.slice en.ka en.ks.length en.kc) none (some (.int .i64 (en.kc : Int))) none).run Tryz.prog W = .ok (.slice en.ka en.kc en.kc) W := fun W => run_upto _ _ _ _ (Nat.le_refl _) .i64 W
      have hvs : ∀ W : World, (Instr.slice 23 (.slice en.va en.vs.length en.vc) none (some (.int .i64 (en.vc : Int))) none).run Tryz.prog W = .ok (.slice en.va en.vc en.vc) W := fun W => run_upto _ _ _ _ (Nat.le_refl _) .i64 W
      have hkm := (hbk.out _ HI.out).1.1
      have hvm := (hbk.out _ HI.out).2.1
      unfold maxLen at hkm hvm
      generalize en.ks.length = nk at *
      generalize en.vs.length = nv at *
      generalize en.kc = kc at *
      generalize en.vc = vc at *
      generalize en.ka = ka at *
      generalize en.va = va at *
      rename World => wo
      go_wp2_with fail
      go_quiet (fail)
      have HI1 := hide (HI.out.drewN nq)
      clear HI c0
      generalize wo.drewN nq = w1 at *
      go_wp2_with fail
      go_loopw [4] (fun q wr => ∃ k : Nat, k ≤ kc ∧ q = .int .i64 (k : Int) ∧ Hid (SpI w wr N M ga Es i)) (fun q _ => kc - (intOf q).toNat)
      case atStart => exact ⟨0, by omega, rfl, HI1⟩
      case round =>
        clear HI1
        obtain ⟨k, hk, rfl, HI⟩ := hrel
        by_cases hlk : k < kc
        · have j1 : (k : Int) < (kc : Int) := by omega
          have j2 : (0 : Int) ≤ (k : Int) := by omega
          obtain ⟨g, cs, rfl, hN, hne, hg, hs, hb⟩ := (hbk.out _ HI.out).1.2.resolve_left (by omega)
          obtain ⟨x, hx⟩ := hb cs[k] (by simp)
          have hcell : wr.cell? ⟨g, k, none⟩ = some (.int .u8 x) := by rw [cell_of_row _ _ _ _ _ _ hg, Array.getElem?_eq_getElem (by omega), hx]
          have hfr : wr.frozen? ⟨g, k, none⟩ = false := by simp [World.frozen?, hg]
          have HNX := hide (fun y => HI.out.byte (k := k) hN hne hg hb y)
          clear hg hx hb HI hs
          go_wp2_with fail
          go_roundw
          case rel => exact ⟨k + 1, by omega, by go_num, HNX.out _⟩
          case measure => simp [intOf]; omega
        · have j1 : ¬ (k : Int) < (kc : Int) := by omega
          have d1 := hcl.out _ HI.out
          rename World => w2
          go_wp2_with fail
          go_quiet (fail)
          have HI3 := hide (HI.out.drewN nq)
          clear HI d1
          generalize w2.drewN nq = w3 at *
          go_wp2_with fail
          go_loopw [6] (fun q wr => ∃ k : Nat, k ≤ vc ∧ q = .int .i64 (k : Int) ∧ Hid (SpI w wr N M ga Es i)) (fun q _ => vc - (intOf q).toNat)
          case atStart => exact ⟨0, by omega, rfl, HI3⟩
          case round =>
            clear HI3
            obtain ⟨k2, hk2, rfl, HI⟩ := hrel
            by_cases hlk2 : k2 < vc
            · have j3 : (k2 : Int) < (vc : Int) := by omega
              have j4 : (0 : Int) ≤ (k2 : Int) := by omega
              obtain ⟨g, cs, rfl, hN, hne, hg, hs, hb⟩ := (hbk.out _ HI.out).2.2.resolve_left (by omega)
              obtain ⟨x, hx⟩ := hb cs[k2] (by simp)
              have hcell : wr.cell? ⟨g, k2, none⟩ = some (.int .u8 x) := by rw [cell_of_row _ _ _ _ _ _ hg, Array.getElem?_eq_getElem (by omega), hx]
              have hfr : wr.frozen? ⟨g, k2, none⟩ = false := by simp [World.frozen?, hg]
              have HNX := hide (fun y => HI.out.byte (k := k2) hN hne hg hb y)
              clear hg hx hb HI hs
              go_wp2_with fail
              go_roundw
              case rel => exact ⟨k2 + 1, by omega, by go_num, HNX.out _⟩
              case measure => simp [intOf]; omega
            · have j3 : ¬ (k2 : Int) < (vc : Int) := by omega
              obtain ⟨⟨x1, e1⟩, ⟨x2, e2⟩, ef⟩ := hcz.out _ HI.out
              have f1 := ef (i * 2)
              have f2 := ef (i * 2 + 1)
              have HZ := hide (HI.out.zero hgN)
              clear ef HI
              go_wp2_with fail
              go_roundw
              case rel => exact ⟨i + 1, by omega, by go_num, HZ⟩
              case measure => simp [intOf]; omega
    · have i1 : ¬ (i : Int) < (n : Int) := by omega
      go_wp2
      go_end0
      exact ⟨rfl, HI.out.up⟩

theorem rspoil_cut {w0 w : World} {N ga n : Nat} {Es : List Ent} (h : ElOk w0 N ga Es) (hb : Below w0.heap.size w0 w) (hn : Es.length = n) (hm : n ≤ 1000) (m : Nat) :
    Calls Tryz.prog 19 #[.slice (some ⟨ga, 0, none⟩) m n] w fun e w' => e = .returned (.tuple #[]) ∧ Upd (fun b => N ≤ b ∧ b < w0.heap.size) w w' :=
  rspoil_spi (h.spi hb) ⟨h.gN, by obtain ⟨cur, h1, _⟩ := h.eb; exact lt_of_block h1⟩ hn hm m
theorem SpI.move {w W : World} {N M ga : Nat} {Es : List Ent} {i : Nat} {S : Nat → Prop} (h : SpI w w N M ga Es i) (hu : Upd S w W) (hs : ∀ b, N ≤ b → b < M → ¬ S b) (hga : N ≤ ga ∧ ga < M) : SpI W W N M ga Es i := by
  have byk : ∀ {a c}, Byk w N M ga a c → Byk W N M ga a c := fun ⟨q1, q2⟩ => ⟨q1, q2.imp id fun ⟨g, cur, e1, e2, e3, e4, e5⟩ => ⟨g, cur, e1, e2, e3, hu.heap e4 (hs g e2.1 e2.2), e5⟩⟩
  obtain ⟨cur, q1, q2⟩ := h.arr
  exact ⟨⟨cur, hu.heap q1 (hs ga hga.1 hga.2), q2⟩, fun j hj => ⟨byk (h.by' j hj).1, byk (h.by' j hj).2⟩, Upd.refl _ _⟩

theorem rspoil_any {w0 w : World} {N ga n : Nat} {Es : List Ent} (h : ElOk w0 N ga Es) (hb : Below w0.heap.size w0 w) (hn : Es.length = n) (hm : n ≤ 1000) :
    Calls Tryz.prog 19 #[.slice (some ⟨ga, 0, none⟩) n n] w fun e w' => e = .returned (.tuple #[]) ∧ Upd (fun b => N ≤ b ∧ b < w0.heap.size) w w' := rspoil_cut h hb hn hm n

end Go.Proofs.YtepjblmjjegpgaaGreat

namespace Go.Proofs.YtepjblmjjegpgaaGreat
open Go.RowKit
set_option maxRecDepth 100000

/-- A row that fills its block is bytes through and through. -/
theorem own_full {w : World} {base g n m : Nat} {ys : List Int} (h : w.ownsRow base 5 1 (.slice (some ⟨g, 0, none⟩) n n) n (ys.map (Value.int .u8))) (hm : m ≤ n) (hy : ys.length = n) : OwnB w base 5 (.slice (some ⟨g, 0, none⟩) m n) (ys.take m) := by
  rcases h.2 with ⟨hv, _⟩ | ⟨g', cap, cur, hv, h1, h2, h3, h4, h5, h6⟩
  · cases hv
  · cases hv
    have hl : (ys.take m).length = m := by rw [List.length_take]; omega
    have hcl : cur.toList = ys.map (Value.int .u8) := by
      rw [← h6]
      refine (List.take_of_length_le ?_).symm
      rw [Array.length_toList, h5]
      omega
    refine .inr ⟨g, n, cur, by rw [hl], h1, h2, by omega, h4, by omega, ?_, ?_⟩
    · rw [hcl, hl, List.map_take]
    · rw [hcl]
      intro u hu
      obtain ⟨x, _, rfl⟩ := List.mem_map.1 hu
      exact ⟨x, rfl⟩

set_option maxHeartbeats 800000 in
theorem marked2_any (a : Option Addr) (len cap : Nat) (zs : List Int) (w : World) (hl : zs.length = len) (hm : len ≤ 140737488351232) (hnone : a = none → len = 0 ∧ cap = 0) (hr : Row w .u8 a zs) :
    Calls Tryz.prog 53 #[.slice a len cap] w fun e w' => e = .returned (.slice (some ⟨w.heap.size, 0, none⟩) len (len + 1)) ∧ Mkd w' w.heap.size zs ∧ OwnB w' w.heap.size 5 (.slice (some ⟨w.heap.size, 0, none⟩) len (len + 1)) zs ∧ Below w.heap.size w w' := by
  obtain ⟨i0, hi, hz0, hz1, hz2⟩ := info_parts infoU8
  have HR := hide hr
  have HN := hide hnone
  clear hr hnone
  go_enter Tryz.func53, Tryz.ntmps53
  go_wp2_with (first
    | (at_make; refine wpList_make_own _ rfl _ _ 23 rfl w.heap.size 5 i0 (.int .u8 0) 1 Tryz.underlying23 hi hz0 hz1 .i64 .i64 _ (len + 1) rfl rfl (by omega) (by rw [hz2]; omega) (by unfold maxLen; omega) (Nat.le_refl _) ?_; intro w1 hown1 hg1)
    | (at_builtin; refine wpList_append_fits_any _ rfl (.tmp 6) (.tmp 7) 23 rfl w.heap.size 5 i0 1 Tryz.underlying23 hi hz1 w.heap.size 0 (len + 1) _ rfl hown1 _ len _ (zs.map (Value.int .u8)) rfl (by simp [hl]) HN.out (row_cells (Row.kept HR.out hg1 (fun _ _ _ => by simp))) (ints_oneCell _ _) (by omega) ?_; intro w2 hown2 hg2; simp only [Nat.zero_add, List.nil_append] at hown2)
    | (at_builtin; refine wpList_append_fits_any _ rfl (.tmp 8) (.tmp 9) 23 rfl w.heap.size 5 i0 1 Tryz.underlying23 hi hz1 w.heap.size len (len + 1) _ rfl (hown2.alloc _) _ 1 _ [.int .u8 77] rfl rfl (by intro h; cases h) (by intro ad had; cases had; exact one_cellM _ _ _) (by intro u hu; simp at hu; subst hu; rfl) (by omega) ?_; intro w3 hown3 hg3))
  go_ret
  have e : (zs.map (Value.int .u8)) ++ [.int .u8 77] = (zs ++ [77]).map (Value.int .u8) := by simp
  rw [e] at hown3
  have s1 := hg1.size
  have s2 := hg2.size
  have b1 : Below w.heap.size w w1 := (Below.refl _ _).grown hg1 (Nat.le_refl _) (fun k h => by cases h)
  have b2 : Below w.heap.size w w2 := b1.grown hg2 s1 (fun k h => by cases h; exact Nat.le_refl _)
  have b3 : Below w.heap.size w w3 := (b2.alloc (by omega) _).grown hg3 (by simp; omega) (fun k h => by cases h; exact Nat.le_refl _)
  have hf := own_full (m := len) hown3 (by omega) (by simp [hl])
  have htk : (zs ++ [77]).take len = zs := by rw [← hl]; simp
  rw [htk] at hf
  exact ⟨rfl, mkd_of_owns hown3, hf, b3⟩

/-- The copy of one entry, and the mark behind it. -/
def cpE (e : Ent) (gk gv : Nat) : Ent := ⟨some ⟨gk, 0, none⟩, e.ks.length + 1, e.ks, some ⟨gv, 0, none⟩, e.vs.length + 1, e.vs⟩
def mkE (gm : Nat) : Ent := ⟨some ⟨gm, 0, none⟩, 1, [77], none, 0, []⟩

set_option maxRecDepth 100000 in
set_option maxHeartbeats 1600000 in
theorem copy1_any (b o c : Nat) (en : Ent) (w : World) (h0 : w.cell? ⟨b, o, none⟩ = some en.kv) (h1 : w.cell? ⟨b, o + 1, none⟩ = some en.vv) (ok : en.Ok w) :
    Calls Tryz.prog 16 #[.slice (some ⟨b, o, none⟩) 1 c] w fun e w' => ∃ gk gv gm, e = .returned (.slice (some ⟨w.heap.size, 0, none⟩) 1 2) ∧ ElOk w' w.heap.size w.heap.size [cpE en gk gv, mkE gm] ∧ Mkd w' gk en.ks ∧ Mkd w' gv en.vs ∧ Below w.heap.size w w' := by
  obtain ⟨i0, hi, hz0, hz1, hz2⟩ := info_parts infoE
  have hbl : b < w.heap.size := World.block_lt_of_cell? w ⟨b, o, none⟩ h0
  have OK := hide ok
  unfold Ent.kv at h0
  unfold Ent.vv at h1
  clear ok
  go_enter Tryz.func16, Tryz.ntmps16
  go_wp2_with (first
    | (at_make; refine wpList_make_own _ rfl _ _ 27 rfl w.heap.size 38 i0 (.agg #[.slice none 0 0, .slice none 0 0]) 2 Tryz.underlying27 hi hz0 hz1 .i64 .i64 _ 2 rfl rfl (by omega) (by rw [hz2]; omega) (by unfold maxLen; omega) (Nat.le_refl _) ?_; intro w1 hown1 hg1)
    | fail)
  have b1 : Below w.heap.size w w1 := (Below.refl _ _).grown hg1 (Nat.le_refl _) (fun k h => by cases h)
  have c0 := (b1.cell (p := ⟨b, o, none⟩) hbl).trans h0
  have c1 := (b1.cell (p := ⟨b, o + 1, none⟩) hbl).trans h1
  obtain ⟨cur, hcur, hcs⟩ : ∃ cur, w1.heap[w.heap.size]? = some (.cells cur 38 (0, 0)) ∧ cur.size = 4 := by
    rcases hown1.2 with ⟨hv, _⟩ | ⟨g', cap, cur, hv, _, h2, _, _, h5, _⟩
    · cases hv
    · cases hv; exact ⟨cur, h2, h5⟩
  have HCUR := hide hcur
  have B1 := hide b1
  clear hown1 hg1 b1 hcur h0 h1
  obtain ⟨nk, hnk⟩ : ∃ nk, en.ks.length = nk := ⟨_, rfl⟩
  obtain ⟨nv, hnv⟩ : ∃ nv, en.vs.length = nv := ⟨_, rfl⟩
  rw [hnk] at c0
  rw [hnv] at c1
  have hzk : nk ≤ 140737488351232 := by rw [← hnk]; exact OK.out.zk
  have hzv : nv ≤ 140737488351232 := by rw [← hnv]; exact OK.out.zv
  have hg1 : w.heap.size < w1.heap.size := lt_of_block HCUR.out
  have MK := hide (marked2_any en.ka nk en.kc en.ks w1.drew hnk hzk (by have := OK.out.nk; rw [hnk] at this; exact this) (show Row w1 .u8 en.ka en.ks from OK.out.k.below2 B1.out))
  have MV : Hid (∀ w2 : World, Below w1.heap.size w1 w2 → Calls Tryz.prog 53 #[.slice en.va nv en.vc] w2 fun e w' => e = .returned (.slice (some ⟨w2.heap.size, 0, none⟩) nv (nv + 1)) ∧ Mkd w' w2.heap.size en.vs ∧ OwnB w' w2.heap.size 5 (.slice (some ⟨w2.heap.size, 0, none⟩) nv (nv + 1)) en.vs ∧ Below w2.heap.size w2 w') := fun w2 hb => marked2_any en.va nv en.vc en.vs w2 hnv hzv (by have := OK.out.nv; rw [hnv] at this; exact this) ((OK.out.v.below2 B1.out).below2 hb)
  refine wp_loop_rounds 2 ?_
  rw [rounds_succ]
  go_wp2_with fail
  go_region_held3 (fun W => W.cell? ⟨b, o, none⟩ = some (.slice en.ka nk en.kc) ∧ W.cell? ⟨b, o + 1, none⟩ = some (.slice en.va nv en.vc)) (go_keep) (first
    | (refine step_append_room rfl (.tmp 15) (.tmp 29) 27 rfl 38 i0 2 Tryz.underlying27 hi hz1 w.heap.size 0 0 2 (by simp [Act.eval]) ⟨w3.heap.size, 0, none⟩ 1 1 [.slice (some ⟨w1.heap.size, 0, none⟩) nk (nk + 1), .slice (some ⟨w2.heap.size, 0, none⟩) nv (nv + 1)] (by simp [Act.eval]) rfl (two_new _ _ _ _) (by intro u hu; simp at hu; rcases hu with rfl | rfl <;> rfl) (by omega) HSP.out ?_; rw [HW5.out])
    | (go_at_call 53; refine (MV.out w2 B2.out).mono ?_; rintro e w3 ⟨rfl, m3, v3, b3⟩; have hb2 := B2.out.size; have hb3 := b3.size; have f0 := (b3.cell (p := ⟨b, o, none⟩) (show b < w2.heap.size by omega)).trans d0; have f1 := (b3.cell (p := ⟨b, o + 1, none⟩) (show b < w2.heap.size by omega)).trans d1; have M3 := hide m3; have V3 := hide v3; have B3 : Hid (Below w2.heap.size w2 w3) := b3; have G3 : Hid ((w3.alloc (.cells #[.slice (some ⟨w1.heap.size, 0, none⟩) nk (nk + 1), .slice (some ⟨w2.heap.size, 0, none⟩) nv (nv + 1)] 38)).heap[w.heap.size]? = some (.cells cur 38 (0, 0))) := (Below.heap_alloc _ _ _ (show w.heap.size < w3.heap.size by omega)).trans ((b3.block _ (show w.heap.size < w2.heap.size by omega)).trans ((B2.out.block _ hg1).trans HCUR.out)); have HSP : Hid (∀ j, j < [Value.slice (some ⟨w1.heap.size, 0, none⟩) nk (nk + 1), Value.slice (some ⟨w2.heap.size, 0, none⟩) nv (nv + 1)].length → ((w3.alloc (.cells #[.slice (some ⟨w1.heap.size, 0, none⟩) nk (nk + 1), .slice (some ⟨w2.heap.size, 0, none⟩) nv (nv + 1)] 38)).cell? ⟨w.heap.size, 0 + 0 * 2 + j, none⟩).isSome = true ∧ (w3.alloc (.cells #[.slice (some ⟨w1.heap.size, 0, none⟩) nk (nk + 1), .slice (some ⟨w2.heap.size, 0, none⟩) nv (nv + 1)] 38)).frozen? ⟨w.heap.size, 0 + 0 * 2 + j, none⟩ = false) := (fun j hj => ⟨by rw [cell_of_row _ _ _ _ _ _ G3.out]; simp at hj; simp; omega, frozen_blk G3.out _⟩); obtain ⟨w5, hw5⟩ : ∃ w5, w5 = ((w3.alloc (.cells #[.slice (some ⟨w1.heap.size, 0, none⟩) nk (nk + 1), .slice (some ⟨w2.heap.size, 0, none⟩) nv (nv + 1)] 38)).setCell ⟨w.heap.size, 0, none⟩ (.slice (some ⟨w1.heap.size, 0, none⟩) nk (nk + 1))).setCell ⟨w.heap.size, 1, none⟩ (.slice (some ⟨w2.heap.size, 0, none⟩) nv (nv + 1)) := ⟨_, rfl⟩; have HW5 : Hid ((w3.alloc (.cells #[.slice (some ⟨w1.heap.size, 0, none⟩) nk (nk + 1), .slice (some ⟨w2.heap.size, 0, none⟩) nv (nv + 1)] 38)).setCells w.heap.size (0 + 0 * 2) [.slice (some ⟨w1.heap.size, 0, none⟩) nk (nk + 1), .slice (some ⟨w2.heap.size, 0, none⟩) nv (nv + 1)] = w5) := (by show _ = _; rw [hw5]; simp [World.setCells]); have U5 : Hid (Upd (fun i => i = w.heap.size) (w3.alloc (.cells #[.slice (some ⟨w1.heap.size, 0, none⟩) nk (nk + 1), .slice (some ⟨w2.heap.size, 0, none⟩) nv (nv + 1)] 38)) w5) := (by rw [hw5]; exact (set_upd _ w.heap.size 0 _).trans (set_upd _ w.heap.size 1 _)); have G5 : Hid (w5.heap[w.heap.size]? = some (.cells ((cur.setIfInBounds 0 (.slice (some ⟨w1.heap.size, 0, none⟩) nk (nk + 1))).setIfInBounds 1 (.slice (some ⟨w2.heap.size, 0, none⟩) nv (nv + 1))) 38 (0, 0))) := (by show _ = _; rw [hw5]; exact block_setCell (block_setCell G3.out 0 _) 1 _); have g0 := U5.out.cell ((((Below.refl w3.heap.size w3).alloc (Nat.le_refl _) (.cells #[.slice (some ⟨w1.heap.size, 0, none⟩) nk (nk + 1), .slice (some ⟨w2.heap.size, 0, none⟩) nv (nv + 1)] 38)).cell (p := ⟨b, o, none⟩) (show b < w3.heap.size by omega)).trans f0) (show b ≠ w.heap.size by omega); have g1 := U5.out.cell ((((Below.refl w3.heap.size w3).alloc (Nat.le_refl _) (.cells #[.slice (some ⟨w1.heap.size, 0, none⟩) nk (nk + 1), .slice (some ⟨w2.heap.size, 0, none⟩) nv (nv + 1)] 38)).cell (p := ⟨b, o + 1, none⟩) (show b < w3.heap.size by omega)).trans f1) (show b ≠ w.heap.size by omega); have h0 := ((((Below.refl w3.heap.size w3).alloc (Nat.le_refl _) (.cells #[.slice (some ⟨w1.heap.size, 0, none⟩) nk (nk + 1), .slice (some ⟨w2.heap.size, 0, none⟩) nv (nv + 1)] 38)).cell (p := ⟨b, o, none⟩) (show b < w3.heap.size by omega)).trans f0); have h1 := ((((Below.refl w3.heap.size w3).alloc (Nat.le_refl _) (.cells #[.slice (some ⟨w1.heap.size, 0, none⟩) nk (nk + 1), .slice (some ⟨w2.heap.size, 0, none⟩) nv (nv + 1)] 38)).cell (p := ⟨b, o + 1, none⟩) (show b < w3.heap.size by omega)).trans f1); replace hw5 := hide hw5; clear m3 v3 b3)
    | (go_at_call 53; refine MK.out.mono ?_; rintro e w2 ⟨rfl, m2, v2, b2⟩; have B2 : Hid (Below w1.heap.size w1 w2) := ⟨b2.os, b2.tape, b2.output, b2.size, b2.block⟩; have d0 := (B2.out.cell (p := ⟨b, o, none⟩) (show b < w1.heap.size by omega)).trans c0; have d1 := (B2.out.cell (p := ⟨b, o + 1, none⟩) (show b < w1.heap.size by omega)).trans c1; have M2 : Hid (Mkd w2 w1.heap.size en.ks) := m2; have V2 : Hid (OwnB w2 w1.heap.size 5 (.slice (some ⟨w1.heap.size, 0, none⟩) nk (nk + 1)) en.ks) := v2; clear m2 v2 b2)
    | fail)
  clear g0 g1 h0 h1 f0 f1 d0 d1 c0 c1 MK MV HSP HW5
  have hz2' := B2.out.size
  have hz3' := B3.out.size
  have hz5 := U5.out.size
  rw [World.size_alloc] at hz5
  have G7 : Hid (((w5.alloc (.cells #[.int .u8 77] 5)).alloc (.cells #[.slice (some ⟨w5.heap.size, 0, none⟩) 1 1, .slice none 0 0] 38)).heap[w.heap.size]? = some (.cells ((cur.setIfInBounds 0 (.slice (some ⟨w1.heap.size, 0, none⟩) nk (nk + 1))).setIfInBounds 1 (.slice (some ⟨w2.heap.size, 0, none⟩) nv (nv + 1))) 38 (0, 0))) := (Below.heap_alloc _ _ _ (by simp; omega)).trans ((Below.heap_alloc _ _ _ (by omega)).trans G5.out)
  have y := two_new2 (w5.alloc (.cells #[.int .u8 77] 5)) (.slice (some ⟨w5.heap.size, 0, none⟩) 1 1) (.slice none 0 0) 38
  rw [World.size_alloc] at y
  have Y0 := hide y.1
  have Y1 := hide y.2
  clear y
  go_wp2_with fail
  rw [rounds_succ]
  go_wp2_with (first
    | (at_builtin; refine app_room rfl (.tmp 31) (.tmp 34) 27 rfl 38 i0 Tryz.underlying27 hi hz1 w.heap.size 1 2 rfl _ _ G7.out (by simp [hcs]) (by omega) ⟨w5.heap.size + 1, 0, none⟩ 1 (.slice (some ⟨w5.heap.size, 0, none⟩) 1 1) (.slice none 0 0) rfl Y0.out Y1.out rfl rfl ?_)
    | fail)
  obtain ⟨w7, hw7⟩ : ∃ w7, w7 = (w5.alloc (.cells #[.int .u8 77] 5)).alloc (.cells #[.slice (some ⟨w5.heap.size, 0, none⟩) 1 1, .slice none 0 0] 38) := ⟨_, rfl⟩
  rw [← hw7] at G7 ⊢
  obtain ⟨w8, hw8⟩ : ∃ w8, w8 = (w7.setCell ⟨w.heap.size, 2, none⟩ (.slice (some ⟨w5.heap.size, 0, none⟩) 1 1)).setCell ⟨w.heap.size, 3, none⟩ (.slice none 0 0) := ⟨_, rfl⟩
  rw [← hw8]
  have G8 : w8.heap[w.heap.size]? = some (.cells ((((cur.setIfInBounds 0 (.slice (some ⟨w1.heap.size, 0, none⟩) nk (nk + 1))).setIfInBounds 1 (.slice (some ⟨w2.heap.size, 0, none⟩) nv (nv + 1))).setIfInBounds 2 (.slice (some ⟨w5.heap.size, 0, none⟩) 1 1)).setIfInBounds 3 (.slice none 0 0)) 38 (0, 0)) := by rw [hw8]; exact block_setCell (block_setCell G7.out 2 _) 3 _
  have U78 : Upd (fun i => i = w.heap.size) w7 w8 := by rw [hw8]; exact (set_upd _ w.heap.size 2 _).trans (set_upd _ w.heap.size 3 _)
  have U57 : Upd (fun i => i = w.heap.size) w5 w7 := by rw [hw7]; exact (((Upd.refl _ w5).alloc _).alloc _)
  have U38 : Upd (fun i => i = w.heap.size) w3 w8 := ((((Upd.refl _ w3).alloc (.cells #[.slice (some ⟨w1.heap.size, 0, none⟩) nk (nk + 1), .slice (some ⟨w2.heap.size, 0, none⟩) nv (nv + 1)] 38)).trans U5.out).trans U57).trans U78
  have U28 : Upd (fun i => i = w.heap.size) w2 w8 := (Upd.of_below B3.out _).trans U38
  have hM5 : w5.heap.size < w7.heap.size ∧ w7.heap[w5.heap.size]? = some (.cells #[.int .u8 77] 5 (0, 0)) := by
    rw [hw7]
    exact ⟨by simp; omega, (Below.heap_alloc _ _ _ (by simp)).trans (heap_alloc_new w5 _)⟩
  have hM8 : w8.heap[w5.heap.size]? = some (.cells #[.int .u8 77] 5 (0, 0)) := U78.heap hM5.2 (by omega)
  have hB8 : Below w.heap.size w w8 := (B1.out.trans (B2.out.mono B1.out.size)).trans (U28.below (by omega) (fun i hi e => by omega))
  have oK : OwnB w8 w.heap.size 5 (.slice (some ⟨w1.heap.size, 0, none⟩) nk (nk + 1)) en.ks := (V2.out.upd U28 (fun k hk e => by cases hk; exact absurd e (by show w1.heap.size ≠ w.heap.size; omega))).mono (by omega)
  have oV : OwnB w8 w.heap.size 5 (.slice (some ⟨w2.heap.size, 0, none⟩) nv (nv + 1)) en.vs := (V3.out.upd U38 (fun k hk e => by cases hk; exact absurd e (by show w2.heap.size ≠ w.heap.size; omega))).mono (by omega)
  have oM : OwnB w8 w.heap.size 5 (.slice (some ⟨w5.heap.size, 0, none⟩) 1 1) [77] := .inr ⟨w5.heap.size, 1, #[.int .u8 77], rfl, by omega, hM8, by simp, by unfold maxLen; omega, rfl, rfl, fun u hu => by simp at hu; exact ⟨77, hu⟩⟩
  have mK : Mkd w8 w1.heap.size en.ks := fun i hi => U28.cell (M2.out i hi) (show w1.heap.size ≠ w.heap.size by omega)
  have mV : Mkd w8 w2.heap.size en.vs := fun i hi => U38.cell (M3.out i hi) (show w2.heap.size ≠ w.heap.size by omega)
  have HF : Hid (ElOk w8 w.heap.size w.heap.size [cpE en w1.heap.size w2.heap.size, mkE w5.heap.size]) := by
    refine ⟨⟨_, G8, by simp [hcs], fun i hi => ?_⟩, fun i hi => ?_, fun i hi b hb => ?_, Nat.le_refl _⟩
    all_goals
      have h01 : i = 0 ∨ i = 1 := by simp at hi; omega
    · rcases h01 with rfl | rfl <;> simp [cpE, mkE, Ent.kv, Ent.vv, hcs, hnk, hnv]
    · rcases h01 with rfl | rfl
      · simp only [List.getElem_cons_zero, cpE, Ent.kv, Ent.vv, hnk, hnv]
        exact ⟨oK, oV⟩
      · simp only [List.getElem_cons_succ, List.getElem_cons_zero, mkE, Ent.kv, Ent.vv]
        exact ⟨oM, OwnB.nil _ _ _⟩
    · rcases h01 with rfl | rfl
      · simp only [List.getElem_cons_zero, cpE, Ent.kv, Ent.vv, Value.ownBlock, Option.some.injEq] at hb
        omega
      · simp only [List.getElem_cons_succ, List.getElem_cons_zero, mkE, Ent.kv, Ent.vv, Value.ownBlock, Option.some.injEq, reduceCtorEq, or_false] at hb
        omega
  go_ret
  exact ⟨w1.heap.size, w2.heap.size, w5.heap.size, rfl, HF.out, mK, mV, hB8⟩

/-- What Kept asks of it. -/
theorem cpd1 {W : World} {N ga gk gv gm : Nat} {en : Ent} (h : ElOk W N ga [cpE en gk gv, mkE gm]) (mk : Mkd W gk en.ks) (mv : Mkd W gv en.vs) : Cpd W N ga [cpE en gk gv] [en] := by
  obtain ⟨cur, h1, h2, h3⟩ := h.eb
  have e0 := h3 0 (by simp)
  have e1 := h3 1 (by simp)
  have o0 := h.ok 0 (by simp)
  have s0 := h.sep 0 (by simp)
  have lk := (o0.1.owns.lt gk rfl).1
  have lv := (o0.2.owns.lt gv rfl).1
  have sk : gk ≠ ga := s0 gk (.inl rfl)
  have sv : gv ≠ ga := s0 gv (.inr rfl)
  refine ⟨rfl, fun i hi => ?_, fun i hi => ?_, fun i hi _ => ?_, h.gN, ⟨gm, ?_⟩⟩
  · obtain rfl : i = 0 := by simp at hi; omega
    rw [cell_of_row _ _ _ _ _ _ h1]; exact e0.1
  · obtain rfl : i = 0 := by simp at hi; omega
    rw [cell_of_row _ _ _ _ _ _ h1]; exact e0.2
  · obtain rfl : i = 0 := by simp at hi; omega
    exact ⟨rfl, rfl, rfl, rfl, ⟨gk, rfl, mk, lk, fun e => by cases e; exact sk rfl⟩, ⟨gv, rfl, mv, lv, fun e => by cases e; exact sv rfl⟩⟩
  · rw [cell_of_row _ _ _ _ _ _ h1]; exact e1.1
/-- The copy as an entry to be added. -/
theorem cp1_ok {W W0 : World} {N ga gk gv gm : Nat} {en : Ent} (h : ElOk W N ga [cpE en gk gv, mkE gm]) (ok : en.Ok W0) : (cpE en gk gv).Ok W := by
  have o0 := h.ok 0 (by simp)
  exact ⟨o0.1.row, o0.2.row, (fun e => by cases e), (fun e => by cases e), by show en.ks.length ≤ en.ks.length + 1; omega, by show en.vs.length ≤ en.vs.length + 1; omega, ok.k8, ok.v8, ok.zk, ok.zv⟩

end Go.Proofs.YtepjblmjjegpgaaGreat

namespace Go.Proofs.YtepjblmjjegpgaaGreat
open Go.RowKit
set_option maxRecDepth 100000

section
variable {W : World} {en : Ent} {gk gv gm nk nv : Nat}
theorem cp1_cells {N ga : Nat} (h : ElOk W N ga [cpE en gk gv, mkE gm]) (hnk : en.ks.length = nk) (hnv : en.vs.length = nv) : W.cell? ⟨ga, 0, none⟩ = some (.slice (some ⟨gk, 0, none⟩) nk (nk + 1)) ∧ W.cell? ⟨ga, 1, none⟩ = some (.slice (some ⟨gv, 0, none⟩) nv (nv + 1)) := by
  obtain ⟨cur, q1, q2, q3⟩ := h.eb
  have q4 := q3 0 (by simp)
  subst hnk hnv
  exact ⟨by rw [cell_of_row _ _ _ _ _ _ q1]; exact q4.1, by rw [cell_of_row _ _ _ _ _ _ q1]; exact q4.2⟩

theorem cp1_young {N ga : Nat} (hel : ElOk W N ga [cpE en gk gv, mkE gm]) : N ≤ gk ∧ N ≤ gv := by
  have hok := hel.ok 0 (by simp)
  have hyg : ∀ {v : Value} {zs : List Int}, OwnB W N 5 v zs → ∀ i, v.ownBlock = some i → N ≤ i := fun h i hi => by
    obtain ⟨_, _, _, _, _, q⟩ := h.sliceN rfl
    exact (q i hi).1
  exact ⟨hyg hok.1 gk (by simp [cpE, Ent.kv, Value.ownBlock]), hyg hok.2 gv (by simp [cpE, Ent.vv, Value.ownBlock])⟩
theorem one_ens {b : Nat} {T : TypeId} (h : W.heap[b]? = some (.cells #[.slice en.ka nk en.kc, .slice en.va nv en.vc] T (0, 0))) (hnk : en.ks.length = nk) (hnv : en.vs.length = nv) (ok : en.Ok W) : Ens W b 0 [en] := by
  subst hnk hnv
  refine ⟨fun i hi => ?_, fun i hi => ?_, fun i hi => ?_⟩
  all_goals obtain rfl : i = 0 := by simp at hi; omega
  · rw [cell_of_row _ _ _ _ _ _ h]; rfl
  · rw [cell_of_row _ _ _ _ _ _ h]; rfl
  · exact ok

end

end Go.Proofs.YtepjblmjjegpgaaGreat
