/- block: left, finish; a list of entries in new memory. -/
import Derived.Test.YthloaabdlciefaaG38
import Derived.Test.YthloaabdlciefaaG29
import Derived.Test.YthloaabdlciefaaG22
import Derived.Test.YthloaabdlciefaaG36
namespace Go.Proofs.Ythloaabdlciefaa
open Go.RowKit

set_option maxHeartbeats 400000 in
theorem left_any {W : World} {B g : Nat} {a : Option Addr} {l c p n num : Nat} {ls : List Int} {va : Value} (h : WkR W B g a l c p n num ls va) :
    Calls Try.prog 52 #[.pointer (some ⟨g, 0, none⟩)] W fun e w' => e = .returned (.bool (decide (num < n))) ∧ ∃ m, w' = W.drewN m := by
  have c2 := h.cells.2.2.1
  have c3 := h.cells.2.2.2.1
  clear h
  go_enter Try.func52, Try.ntmps52
  go_wp2_with fail
  go_quiet (fail)
  go_wp2_with fail
  go_ret
  have hd : decide ((num : Int) < (n : Int)) = decide (num < n) := by
    by_cases h : num < n
    · rw [decide_eq_true h, decide_eq_true (by omega)]
    · rw [decide_eq_false h, decide_eq_false (by omega)]
  rw [← hd]
  exact ⟨rfl, _, rfl⟩

/-- What finish tells. -/
def FnPost (W : World) (zs ts : List Int) (p : Nat) (e : Ending) (W' : World) : Prop :=
  Below W.heap.size W W' ∧ (if comN (zs.drop p) ts < ts.length then e = fallen 62 ((p + comN (zs.drop p) ts : Nat) : Int) else if comN (zs.drop p) ts < (zs.drop p).length then e = fallen 63 ((p + comN (zs.drop p) ts : Nat) : Int) else ∃ v, e = .returned v)

set_option maxRecDepth 100000 in
set_option maxHeartbeats 1600000 in
theorem finish_any {W : World} {B g : Nat} {a : Option Addr} {l c p n num : Nat} {ls zs ts : List Int} {va : Value} (at' : Option Addr) (lt ct : Nat) (h : WkR W B g a l c p n num ls va) (hl : zs.length = l) (hm : l ≤ 140737488400000) (hcl : l ≤ c) (hp : p ≤ l) (hr : Row W .u8 a zs) (hlt : ts.length = lt) (hmt : lt ≤ 1000000) (hrt : Row W .u8 at' ts) :
    Calls Try.prog 66 #[.pointer (some ⟨g, 0, none⟩), .slice at' lt ct] W (FnPost W zs ts p) := by
  have c0 := h.cells.1
  have c1 := h.cells.2.1
  have hsl : ∀ W : World, (Instr.slice 23 (.slice a l c) (some (.int .i64 (p : Int))) none none).run Try.prog W = .ok (.slice (cutAt a p c) (l - p) (c - p)) W := run_from a l c p hp
  have hdl : (zs.drop p).length = l - p := by rw [List.length_drop, hl]
  have HCM : Hid (∀ m, Calls Try.prog 77 #[.slice (cutAt a p c) (l - p) (c - p), .slice at' lt ct] (W.drewN m) fun e w' => e = .returned (.int .i64 (comN (zs.drop p) ts : Nat)) ∧ ∃ k, w' = (W.drewN m).drewN k) := fun m => common_any (cutAt a p c) at' (l - p) (c - p) lt ct (zs.drop p) ts (W.drewN m) (by unfold maxLen; omega) (by unfold maxLen; omega) hdl hlt (show Row W .u8 _ _ from cut_row (by omega) hr) (show Row W .u8 _ _ from hrt)
  have HP : Hid (∀ e w', FnPost W zs ts p e w' ↔ (Below W.heap.size W w' ∧ (if comN (zs.drop p) ts < lt then e = fallen 62 ((p + comN (zs.drop p) ts : Nat) : Int) else if comN (zs.drop p) ts < l - p then e = fallen 63 ((p + comN (zs.drop p) ts : Nat) : Int) else ∃ v, e = .returned v))) := fun e w' => by unfold FnPost; rw [hlt, hdl]
  have hcle := comN_le (zs.drop p) ts
  rw [hdl] at hcle
  generalize comN (zs.drop p) ts = k at *
  generalize hL : l - p = L at *
  generalize cutAt a p c = ac at *
  clear h hr hrt hdl
  go_enter Try.func66, Try.ntmps66
  go_wp2_with fail
  go_quiet (fail)
  go_wp2_with fail
  refine (HCM.out _).mono ?_
  rintro e w1 ⟨rfl, m, hw1⟩
  have HB : Hid (Below W.heap.size W w1) := by rw [hw1]; exact below_of_drewN (below_of_drewN (Below.refl _ _) _) m
  have d1 : w1.cell? ⟨g, 1, none⟩ = some (.int .i64 (p : Int)) := by rw [hw1]; exact c1
  clear hw1 c0 c1 hsl
  by_cases h1 : k < lt
  · have i1 : (k : Int) < (lt : Int) := by omega
    have HF : Hid (FnPost W zs ts p (fallen 62 ((p : Int) + (k : Int))) w1) := (HP.out _ _).2 ⟨HB.out, by rw [if_pos h1]; rfl⟩
    go_wp2_with fail
    refine (giveUp_any 62 _ w1).mono ?_
    rintro e w2 ⟨rfl, rfl⟩
    exact ⟨rfl, HF.out⟩
  · have i1 : ¬ (k : Int) < (lt : Int) := by omega
    by_cases h2 : k < L
    · have i2 : (k : Int) < (L : Int) := by omega
      have HF : Hid (FnPost W zs ts p (fallen 63 ((p : Int) + (k : Int))) w1) := (HP.out _ _).2 ⟨HB.out, by rw [if_neg h1, if_pos h2]; rfl⟩
      go_wp2_with fail
      refine (giveUp_any 63 _ w1).mono ?_
      rintro e w2 ⟨rfl, rfl⟩
      exact ⟨rfl, HF.out⟩
    · have i2 : ¬ (k : Int) < (L : Int) := by omega
      go_wp2_with fail
      go_end0
      exact (HP.out _ _).2 ⟨HB.out, by rw [if_neg h1, if_neg h2]; exact ⟨_, rfl⟩⟩

/-- append of one entry where there is room. -/
theorem app_room {P : Program} {ops : Array Oper} {o : Oper} {rest : List Oper} {a : Act} {w : World} {Q : Exit → Act → World → Prop} (hgd : o.guard = none) (s x : Operand) (t : TypeId)
    (ho : o.op = .call { callee := .builtin .append, args := #[s, x], argTypes := #[t, t] })
    (e : TypeId) (i : TypeInfo) (ht : P.underlying t = some (.slice e)) (hi : P.info? e = some i) (hsize : i.size = 2)
    (b n cap : Nat) (hs : a.eval s = .slice (some ⟨b, 0, none⟩) n cap) (cur : Array Value) (T : TypeId) (hb : w.heap[b]? = some (.cells cur T (0, 0))) (hcur : cur.size = cap * 2) (hn : n < cap)
    (ad : Addr) (c : Nat) (k v : Value) (hx : a.eval x = .slice (some ad) 1 c) (h0 : w.cell? ad = some k) (h1 : w.cell? (ad.add 1) = some v) (hk : k.oneCell' = true) (hv : v.oneCell' = true)
    (h : wpList P ops Q rest (a.put o.dst (.slice (some ⟨b, 0, none⟩) (n + 1) cap)) ((w.setCell ⟨b, n * 2, none⟩ k).setCell ⟨b, n * 2 + 1, none⟩ v)) : wpList P ops Q (o :: rest) a w := by
  have hw : Region.wanted o (yielded ops a.tmps) = true := by simp [Region.wanted, hgd]
  have hcell : ∀ j, j < cur.size → (w.cell? ⟨b, j, none⟩).isSome = true := fun j hj => by
    rw [cell_of_row _ _ _ _ _ _ hb]
    simp [hj]
  have h0' := step_append_room (ops := ops) (K := wpList P ops Q rest) (Q := Q) (E := True) hgd s x t ho e i 2 ht hi hsize b 0 n cap hs ad 1 c [k, v] hx (by simp) (fun j u hj => by
    match j, hj with
    | 0, hj => simp at hj; subst hj; simpa [Addr.add] using h0
    | 1, hj => simp at hj; subst hj; exact h1) (fun u hu => by simp at hu; rcases hu with rfl | rfl <;> assumption) (by omega) (fun j hj => ⟨hcell _ (by simp at hj; omega), by simp [World.frozen?, hb]⟩) (by simpa [World.setCells] using h)
  rw [if_pos hw] at h0'
  rw [wpList, if_pos hw]
  exact .inl h0'

end Go.Proofs.Ythloaabdlciefaa

namespace Go.Proofs.Ythloaabdlciefaa
open Go.RowKit

/-- A list of entries in new memory: the rows; and each key, each value in a row of its own. -/
structure ElOk (W : World) (N ga : Nat) (Es : List Ent) : Prop where
  eb : ∃ cur, W.heap[ga]? = some (.cells cur 25 (0, 0)) ∧ cur.size = Es.length * 2 ∧ ∀ i (h : i < Es.length), cur[i * 2]? = some Es[i].kv ∧ cur[i * 2 + 1]? = some Es[i].vv
  ok : ∀ i (h : i < Es.length), OwnB W N 5 Es[i].kv Es[i].ks ∧ OwnB W N 5 Es[i].vv Es[i].vs
  sep : ∀ i (h : i < Es.length) b, (Es[i].kv.ownBlock = some b ∨ Es[i].vv.ownBlock = some b) → b ≠ ga
  gN : N ≤ ga
/-- What readWhole tells. -/
def RwPost (w : World) (zs : List Int) (e : Ending) (w' : World) : Prop :=
  Below w.heap.size w w' ∧ (((bRes zs).2.1 = 0 ∧ ∃ ga Es, e = .returned (.slice (some ⟨ga, 0, none⟩) Es.length Es.length) ∧ ElOk w' w.heap.size ga Es ∧ kvs Es = (bRes zs).1) ∨ ((bRes zs).2.1 ≠ 0 ∧ e = fallen (bRes zs).2.1 ((bRes zs).2.2 : Nat)))

/-- Between two rounds. -/
structure RwI (w wr : World) (g ga : Nat) (a : Option Addr) (l c n k : Nat) (s : RS) (Es : List Ent) (va vt : Value) : Prop where
  wk : WkR wr w.heap.size g a l c s.p n k (ahd s.l) va
  eb : ∃ cur, wr.heap[ga]? = some (.cells cur 25 (0, 0)) ∧ cur.size = n * 2 ∧ ∀ i (h : i < Es.length), cur[i * 2]? = some Es[i].kv ∧ cur[i * 2 + 1]? = some Es[i].vv
  ot : wr.ownsRow w.heap.size 5 1 vt (tabP s.ps k).length ((tabP s.ps k).map (Value.int .u8))
  kv : kvs Es = s.l
  ok : ∀ i (h : i < Es.length), OwnB wr w.heap.size 5 Es[i].kv Es[i].ks ∧ OwnB wr w.heap.size 5 Es[i].vv Es[i].vs
  sep : ∀ i (h : i < Es.length) b, (Es[i].kv.ownBlock = some b ∨ Es[i].vv.ownBlock = some b) → ¬ WkM g va b ∧ b ≠ ga ∧ vt.ownBlock ≠ some b
  dt : ∀ b, vt.ownBlock = some b → ¬ WkM g va b ∧ b ≠ ga
  dg : ¬ WkM g va ga
  gN : w.heap.size ≤ ga
  bel : Below w.heap.size w wr

theorem RwI.ga_lt {w wr : World} {g ga : Nat} {a : Option Addr} {l c n k : Nat} {s : RS} {Es : List Ent} {va vt : Value} (h : RwI w wr g ga a l c n k s Es va vt) : ga < wr.heap.size := by
  obtain ⟨cur, hb, _⟩ := h.eb
  exact lt_of_block hb
/-- The world moves on below. -/
theorem RwI.below {w wr wr' : World} {g ga : Nat} {a : Option Addr} {l c n k : Nat} {s : RS} {Es : List Ent} {va vt : Value} (h : RwI w wr g ga a l c n k s Es va vt) (hb : Below wr.heap.size wr wr') : RwI w wr' g ga a l c n k s Es va vt := by
  have hu := Upd.of_below hb Noth
  obtain ⟨cur, h1, h2, h3⟩ := h.eb
  exact ⟨h.wk.upd hu (fun _ _ e => e), ⟨cur, hu.heap h1 (fun e => e), h2, h3⟩, owns_upd h.ot hu (fun _ _ e => e), h.kv, fun i hi => ⟨(h.ok i hi).1.below hb, (h.ok i hi).2.below hb⟩, h.sep, h.dt, h.dg, h.gN, h.bel.trans (hb.mono h.bel.size)⟩
/-- The table has grown. -/
theorem RwI.table {w wr w3 : World} {g ga : Nat} {a : Option Addr} {l c n k : Nat} {s : RS} {Es : List Ent} {va vt v' : Value} (h : RwI w wr g ga a l c n k s Es va vt) (hg : wr.grownBy w3 vt.ownBlock) (hk : ∀ k, v'.ownBlock = some k → vt.ownBlock = some k ∨ wr.heap.size ≤ k) :
    WkR w3 w.heap.size g a l c s.p n k (ahd s.l) va ∧ (∃ cur, w3.heap[ga]? = some (.cells cur 25 (0, 0)) ∧ cur.size = n * 2 ∧ ∀ i (h : i < Es.length), cur[i * 2]? = some Es[i].kv ∧ cur[i * 2 + 1]? = some Es[i].vv) ∧ (∀ i (h : i < Es.length), OwnB w3 w.heap.size 5 Es[i].kv Es[i].ks ∧ OwnB w3 w.heap.size 5 Es[i].vv Es[i].vs) ∧
      (∀ i (h : i < Es.length) b, (Es[i].kv.ownBlock = some b ∨ Es[i].vv.ownBlock = some b) → ¬ WkM g va b ∧ b ≠ ga ∧ v'.ownBlock ≠ some b) ∧ (∀ b, v'.ownBlock = some b → ¬ WkM g va b ∧ b ≠ ga) ∧ Below w.heap.size w w3 := by
  have hu : Upd (fun i => vt.ownBlock = some i) wr w3 := Upd.of_grown hg (fun k hk _ => hk)
  obtain ⟨cur, h1, h2, h3⟩ := h.eb
  have hgl := h.ga_lt
  refine ⟨h.wk.upd hu (fun i hi e => (h.dt i e).1 hi), ⟨cur, hu.heap h1 (fun e => (h.dt ga e).2 rfl), h2, h3⟩, fun i hi => ⟨(h.ok i hi).1.upd hu (fun b hb => (h.sep i hi b (.inl hb)).2.2), (h.ok i hi).2.upd hu (fun b hb => (h.sep i hi b (.inr hb)).2.2)⟩, fun i hi b hb => ?_, fun b hb => ?_, h.bel.grown hg h.bel.size (fun k hk => (h.ot.lt k hk).1)⟩
  · refine ⟨(h.sep i hi b hb).1, (h.sep i hi b hb).2.1, fun e => ?_⟩
    rcases hk b e with h4 | h4
    · exact (h.sep i hi b hb).2.2 h4
    · rcases hb with hb | hb
      · have := ((h.ok i hi).1.owns.lt b hb).2; omega
      · have := ((h.ok i hi).2.owns.lt b hb).2; omega
  · rcases hk b hb with h4 | h4
    · exact h.dt b h4
    · exact ⟨fun e => by have := (h.wk.lt b e).2; omega, fun e => by omega⟩

theorem bRes_at {zs : List Int} (h : stE zs = 0) : bRes zs = bFin zs (rrun zs (nx zs 0) (nm zs 0)) ∧ 1 ≤ nm zs 0 ∧ nm zs 0 ≤ 64 := by
  unfold stE at h
  by_cases h1 : er zs 0 = 0
  · rw [if_neg (by rw [h1]; simp)] at h
    by_cases h2 : nm zs 0 < 1 ∨ 64 < nm zs 0
    · rw [if_pos h2] at h; exact absurd h (by decide)
    · unfold bRes
      rw [if_neg (by rw [h1]; simp), if_neg h2]
      exact ⟨rfl, by omega, by omega⟩
  · rw [if_pos h1] at h; exact absurd h h1
theorem bRes_st {zs : List Int} (h : stE zs ≠ 0) : bRes zs = ([], stE zs, stP zs) := by
  unfold stE at h ⊢
  unfold stP bRes
  by_cases h1 : er zs 0 = 0
  · simp only [if_neg (show ¬ er zs 0 ≠ 0 by rw [h1]; simp)] at h ⊢
    by_cases h2 : nm zs 0 < 1 ∨ 64 < nm zs 0
    · simp only [if_pos h2]
    · rw [if_neg h2] at h; exact absurd rfl h
  · simp only [if_pos h1]
theorem bFin_fail {zs : List Int} {p0 k n : Nat} (h : (rrun zs p0 (k + 1)).e ≠ 0) (hk : k < n) : bFin zs (rrun zs p0 n) = ([], (rrun zs p0 (k + 1)).e, (rrun zs p0 (k + 1)).q) := by
  obtain ⟨j, rfl⟩ : ∃ j, n = k + 1 + j := ⟨n - (k + 1), by omega⟩
  rw [rrun_stays zs p0 (k + 1) h j]
  unfold bFin
  rw [if_pos h]
/-- One step, as the walker tells it. -/
theorem step_e {zs : List Int} {s : RS} (he : s.e = 0) (hp : s.p ≤ zs.length) : eE (pvS s.l) (ahd s.l) zs s.p = (rstp zs s).e ∧ (eE (pvS s.l) (ahd s.l) zs s.p ≠ 0 → eP (pvS s.l) zs s.p = (rstp zs s).q) ∧ (eE (pvS s.l) (ahd s.l) zs s.p = 0 → rstp zs s = ⟨s.l ++ [(xKy (pvS s.l) zs s.p, xVl (pvS s.l) zs s.p)], s.ps ++ [s.p], xPl (pvS s.l) zs s.p, 0, 0⟩) := by
  unfold eE eP xEr xPl xKy xVl
  simp only [if_pos hp]
  by_cases hr : rEr (pvS s.l) zs s.p = 0
  · rw [if_neg (by rw [hr]; simp)]
    by_cases hc : cmpI (ahd s.l) (rKy (pvS s.l) zs s.p) < 0
    · rw [if_pos hc, rstp_ok he hr hc]
      exact ⟨rfl, fun h => absurd rfl h, fun _ => rfl⟩
    · rw [if_neg hc, rstp_ord he hr hc]
      refine ⟨rfl, fun _ => ?_, fun h => absurd h (by decide)⟩
      rw [if_neg (by rw [hr]; simp)]
  · rw [if_pos hr, rstp_bad he hr]
    refine ⟨rfl, fun _ => ?_, fun h => absurd h hr⟩
    rw [if_pos hr]

/-- An entry is put behind the others. -/
theorem RwI.next {w w4 W5 : World} {g ga : Nat} {a : Option Addr} {l c n k : Nat} {s : RS} {Es : List Ent} {va vt : Value} {ts K V : List Int} {p' : Nat}
    (wk : WkR w4 w.heap.size g a l c s.p n k (ahd s.l) va) (eb : ∃ cur, w4.heap[ga]? = some (.cells cur 25 (0, 0)) ∧ cur.size = n * 2 ∧ ∀ i (h : i < Es.length), cur[i * 2]? = some Es[i].kv ∧ cur[i * 2 + 1]? = some Es[i].vv)
    (ot : w4.ownsRow w.heap.size 5 1 vt ts.length (ts.map (Value.int .u8))) (kv : kvs Es = s.l) (hlen : Es.length = k) (ok : ∀ i (h : i < Es.length), OwnB w4 w.heap.size 5 Es[i].kv Es[i].ks ∧ OwnB w4 w.heap.size 5 Es[i].vv Es[i].vs)
    (sep : ∀ i (h : i < Es.length) b, (Es[i].kv.ownBlock = some b ∨ Es[i].vv.ownBlock = some b) → ¬ WkM g va b ∧ b ≠ ga ∧ vt.ownBlock ≠ some b) (dt : ∀ b, vt.ownBlock = some b → ¬ WkM g va b ∧ b ≠ ga) (dg : ¬ WkM g va ga) (gN : w.heap.size ≤ ga) (bel : Below w.heap.size w w4)
    (ka : Option Addr) (kc : Nat) (v2 : Option Addr) (vc N : Nat) (vn : Value) (hk5 : OwnB W5 w4.heap.size 5 (.slice ka K.length kc) K) (hv5 : OwnB W5 N 5 (.slice v2 V.length vc) V) (hN : w4.heap.size ≤ N) (wk5 : WkR W5 w.heap.size g a l c p' n (k + 1) K vn) (hu5 : Upd (WkM g va) w4 W5) (fp5 : ∀ i, WkM g vn i → WkM g va i ∨ w4.heap.size ≤ i) (sp5 : ∀ i, WkM g vn i → (Value.slice ka K.length kc).ownBlock ≠ some i ∧ (Value.slice v2 V.length vc).ownBlock ≠ some i)
    (hkn : k < n) (hts : ts = tabP (s.ps ++ [s.p]) (k + 1)) (W6 : World) (hw6 : W6 = ((W5.alloc (.cells #[.slice ka K.length kc, .slice v2 V.length vc] 25)).setCell ⟨ga, k * 2, none⟩ (.slice ka K.length kc)).setCell ⟨ga, k * 2 + 1, none⟩ (.slice v2 V.length vc)) :
    RwI w W6 g ga a l c n (k + 1) ⟨s.l ++ [(K, V)], s.ps ++ [s.p], p', 0, 0⟩ (Es ++ [⟨ka, kc, K, v2, vc, V⟩]) vn vt := by
  have hu6 : Upd (fun i => i = ga) W5 W6 := by rw [hw6]; exact (((Upd.refl _ W5).alloc _).trans (set_upd _ ga _ _)).trans (set_upd _ ga _ _)
  obtain ⟨cur, h1, h2, h3⟩ := eb
  have hgal : ga < w4.heap.size := lt_of_block h1
  have hga5 : W5.heap[ga]? = some (.cells cur 25 (0, 0)) := hu5.heap h1 dg
  have hgn : ∀ i, WkM g vn i → i ≠ ga := fun i hi e => by
    rcases fp5 i hi with h | h
    · exact dg (e ▸ h)
    · omega
  have hkl : ∀ b, (Value.slice ka K.length kc).ownBlock = some b ∨ (Value.slice v2 V.length vc).ownBlock = some b → w4.heap.size ≤ b ∧ b < W5.heap.size := fun b hb => by
    rcases hb with hb | hb
    · exact hk5.owns.lt b hb
    · have := hv5.owns.lt b hb; omega
  have hlen2 : (Es ++ [(⟨ka, kc, K, v2, vc, V⟩ : Ent)]).length = k + 1 := by rw [List.length_append, hlen]; rfl
  have hlast : ∀ i (h : i < (Es ++ [(⟨ka, kc, K, v2, vc, V⟩ : Ent)]).length), (∃ h' : i < Es.length, (Es ++ [(⟨ka, kc, K, v2, vc, V⟩ : Ent)])[i] = Es[i]) ∨ (i = k ∧ (Es ++ [(⟨ka, kc, K, v2, vc, V⟩ : Ent)])[i] = ⟨ka, kc, K, v2, vc, V⟩) := fun i h => by
    by_cases h' : i < Es.length
    · exact .inl ⟨h', List.getElem_append_left h'⟩
    · refine .inr ⟨by omega, ?_⟩
      rw [List.getElem_append_right (by omega)]
      simp
  refine ⟨?_, ?_, ?_, ?_, ?_, ?_, ?_, fun h => hgn ga h rfl, gN, ?_⟩
  · rw [ahd_snoc]
    exact wk5.upd hu6 hgn
  · refine ⟨(cur.setIfInBounds (k * 2) (.slice ka K.length kc)).setIfInBounds (k * 2 + 1) (.slice v2 V.length vc), ?_, by simp [h2], fun i hi => ?_⟩
    · rw [hw6]
      exact block_setCell (block_setCell ((Below.heap_alloc _ _ _ (lt_of_block hga5)).trans hga5) _ _) _ _
    · rcases hlast i hi with ⟨h', e⟩ | ⟨rfl, e⟩
      · rw [e]
        have q := h3 i h'
        rw [Array.getElem?_setIfInBounds_ne (by omega), Array.getElem?_setIfInBounds_ne (by omega), Array.getElem?_setIfInBounds_ne (by omega), Array.getElem?_setIfInBounds_ne (by omega)]
        exact q
      · rw [e]
        refine ⟨?_, ?_⟩
        · rw [Array.getElem?_setIfInBounds_ne (by omega), Array.getElem?_setIfInBounds_self_of_lt (by omega)]; rfl
        · rw [Array.getElem?_setIfInBounds_self_of_lt (by simp; omega)]; rfl
  · simp only
    rw [← hts]
    exact owns_upd (owns_upd ot hu5 (fun b hb => (dt b hb).1)) hu6 (fun b hb => (dt b hb).2)
  · simp only [kvs, List.map_append, List.map_cons, List.map_nil]
    rw [← kv]; rfl
  · intro i hi
    rcases hlast i hi with ⟨h', e⟩ | ⟨rfl, e⟩
    · rw [e]
      exact ⟨((ok i h').1.upd hu5 (fun b hb => (sep i h' b (.inl hb)).1)).upd hu6 (fun b hb => (sep i h' b (.inl hb)).2.1), ((ok i h').2.upd hu5 (fun b hb => (sep i h' b (.inr hb)).1)).upd hu6 (fun b hb => (sep i h' b (.inr hb)).2.1)⟩
    · rw [e]
      have := bel.size
      exact ⟨(hk5.mono (by omega)).upd hu6 (fun b hb e => by have := hkl b (.inl hb); omega), (hv5.mono (by omega)).upd hu6 (fun b hb e => by have := hkl b (.inr hb); omega)⟩
  · intro i hi b hb
    rcases hlast i hi with ⟨h', e⟩ | ⟨rfl, e⟩
    · rw [e] at hb
      refine ⟨fun hm => ?_, (sep i h' b hb).2⟩
      rcases fp5 b hm with h | h
      · exact (sep i h' b hb).1 h
      · rcases hb with hb | hb
        · have := ((ok i h').1.owns.lt b hb).2; omega
        · have := ((ok i h').2.owns.lt b hb).2; omega
    · rw [e] at hb
      have hl := hkl b hb
      refine ⟨fun hm => ?_, by omega, fun e2 => by have := (ot.lt b e2).2; omega⟩
      rcases hb with hb | hb
      · exact (sp5 b hm).1 hb
      · exact (sp5 b hm).2 hb
  · intro b hb
    refine ⟨fun hm => ?_, (dt b hb).2⟩
    rcases fp5 b hm with h | h
    · exact (dt b hb).1 h
    · have := (ot.lt b hb).2; omega
  · have hb5 : Below w.heap.size w W5 := bel.trans (hu5.below bel.size (fun i hi hm => by have := (wk.lt i hm).1; omega))
    exact hb5.trans (hu6.below hb5.size (fun i hi e => by omega))

end Go.Proofs.Ythloaabdlciefaa
