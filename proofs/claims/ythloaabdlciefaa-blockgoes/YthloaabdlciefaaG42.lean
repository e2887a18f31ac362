/- block: All as a range goes through it. -/
import Derived.Test.YthloaabdlciefaaG41
import Derived.Test.YthloaabdlciefaaG40
import Derived.Test.YthloaabdlciefaaG17
import Derived.RangeFuncBox
import Derived.Shelf.Abstract
import Derived.Shelf.RegionOpen
import Derived.WalkKit
import Derived.OwnWalkIn
import Derived.TacticsInMore
import Derived.LoopNIn
import Derived.LoopIn
import Derived.Laws.EntriesVeiled
import Derived.Test.YthloaabdlciefaaG24
import Derived.Test.YthloaabdlciefaaG6
import Derived.Test.YthloaabdlciefaaG16
import Derived.Test.YthloaabdlciefaaG10
namespace Go.Proofs.Ythloaabdlciefaa
open Go.RowKit Go.Shelf
attribute [local go_sem] Oper.semAt_some

theorem gleast_ex {p : Nat → Prop} : ∀ n, p n → ∃ n, p n ∧ ∀ k, p k → n ≤ k := by
  intro n
  induction n using Nat.strongRecOn with
  | ind n ih =>
    intro h
    by_cases h2 : ∃ k, k < n ∧ p k
    · obtain ⟨k, hk, hp⟩ := h2
      exact ih k hk hp
    · exact ⟨n, h, fun k hk => Nat.le_of_not_lt (fun hlt => h2 ⟨k, hlt, hk⟩)⟩
theorem gleast_spec {p : Nat → Prop} (h : ∃ n, p n) : p (Classical.epsilon fun n => p n ∧ ∀ k, p k → n ≤ k) ∧ ∀ k, p k → (Classical.epsilon fun n => p n ∧ ∀ k, p k → n ≤ k) ≤ k := by
  obtain ⟨n, hn⟩ := h
  exact Classical.epsilon_spec (gleast_ex n hn)
theorem gleast_get {p : Nat → Prop} (h : ∃ n, p n) : ∃ fu, fu = (Classical.epsilon fun n => p n ∧ ∀ k, p k → n ≤ k) ∧ p fu := ⟨_, rfl, (gleast_spec h).1⟩
theorem gleast_lt {p q : Nat → Prop} {fu k : Nat} (hfu : fu = (Classical.epsilon fun n => p n ∧ ∀ k, p k → n ≤ k)) (hq : q k) (hk : k < fu) : (Classical.epsilon fun n => q n ∧ ∀ k, q k → n ≤ k) < (Classical.epsilon fun n => p n ∧ ∀ k, p k → n ≤ k) := by
  rw [← hfu]
  exact Nat.lt_of_le_of_lt ((gleast_spec ⟨k, hq⟩).2 k hq) hk

/-- What is yielded. -/
structure GX where
  kv : Value
  vv : Value
  ks : List Int
  vs : List Int
def GX.enc (x : GX) : Array Value := #[x.kv, x.vv]
def GX.kvp (x : GX) : KV := (x.ks, x.vs)
/-- What a round may change. -/
def GR (Rl : Nat → Prop) (x : GX) (k : Nat) : Prop := x.kv.ownBlock = some k ∨ x.vv.ownBlock = some k ∨ Rl k
def GD (zs : List Int) (B : Nat) (pre : List GX) (x : GX) (W : World) : Prop :=
  (∃ rest, (entS zs).l = (pre ++ [x]).map GX.kvp ++ rest) ∧ OwnB W B 5 x.kv x.ks ∧ OwnB W B 5 x.vv x.vs ∧ ∀ i, x.kv.ownBlock = some i → x.vv.ownBlock ≠ some i
def GS (zs : List Int) (xs : List GX) (_ : World) : Prop := xs.map GX.kvp = (entS zs).l
theorem GD.upd {zs : List Int} {B : Nat} {pre : List GX} {x : GX} {W W' : World} {S : Nat → Prop} (h : GD zs B pre x W) (hu : Upd S W W') (hs : ∀ k, S k → k < B) : GD zs B pre x W' :=
  ⟨h.1, h.2.1.upd hu (fun k hk e => by have := (h.2.1.owns.lt k hk).1; have := hs k e; omega), h.2.2.1.upd hu (fun k hk e => by have := (h.2.2.1.owns.lt k hk).1; have := hs k e; omega), h.2.2.2⟩

theorem rrun_pre (zs : List Int) (p0 k : Nat) : ∀ j, ∃ rest, (rrun zs p0 (k + j)).l = (rrun zs p0 k).l ++ rest
  | 0 => ⟨[], by simp⟩
  | j + 1 => by
    obtain ⟨rest, h⟩ := rrun_pre zs p0 k j
    rw [← Nat.add_assoc, rrun]
    generalize rrun zs p0 (k + j) = s at *
    by_cases he : s.e = 0
    · by_cases hr : rEr (pvS s.l) zs s.p = 0
      · by_cases hc : cmpI (ahd s.l) (rKy (pvS s.l) zs s.p) < 0
        · rw [rstp_ok he hr hc]; exact ⟨rest ++ [(rKy (pvS s.l) zs s.p, rVl (pvS s.l) zs s.p)], by simp only []; rw [← List.append_assoc, ← h]⟩
        · rw [rstp_ord he hr hc]; exact ⟨rest, h⟩
      · rw [rstp_bad he hr]; exact ⟨rest, h⟩
    · rw [rstp_err he]; exact ⟨rest, h⟩
theorem entS_st {zs : List Int} (h : stE zs ≠ 0) : (entS zs).l = [] := by
  unfold stE at h
  unfold entS
  by_cases h1 : er zs 0 ≠ 0
  · rw [if_pos h1]
  · rw [if_neg h1] at h ⊢
    by_cases h2 : nm zs 0 < 1 ∨ 64 < nm zs 0
    · rw [if_pos h2]
    · rw [if_neg h2] at h; exact absurd rfl h
theorem entS_at {zs : List Int} (h : stE zs = 0) : entS zs = rrun zs (nx zs 0) (nm zs 0) ∧ nm zs 0 ≤ 64 := by
  unfold stE at h
  unfold entS
  by_cases h1 : er zs 0 ≠ 0
  · rw [if_pos h1] at h; exact absurd h h1
  · rw [if_neg h1] at h ⊢
    by_cases h2 : nm zs 0 < 1 ∨ 64 < nm zs 0
    · rw [if_pos h2] at h; exact absurd h (by decide)
    · rw [if_neg h2]; exact ⟨rfl, by omega⟩
theorem rrun_fail {zs : List Int} {p0 k n : Nat} (h : (rrun zs p0 (k + 1)).e ≠ 0) (h0 : (rrun zs p0 k).e = 0) (hk : k < n) : (rrun zs p0 n).l = (rrun zs p0 k).l := by
  obtain ⟨j, rfl⟩ : ∃ j, n = k + 1 + j := ⟨n - (k + 1), by omega⟩
  rw [rrun_stays zs p0 (k + 1) h j]
  rw [rrun] at h ⊢
  generalize rrun zs p0 k = s at *
  by_cases hr : rEr (pvS s.l) zs s.p = 0
  · by_cases hc : cmpI (ahd s.l) (rKy (pvS s.l) zs s.p) < 0
    · rw [rstp_ok h0 hr hc] at h; exact absurd rfl h
    · rw [rstp_ord h0 hr hc]
  · rw [rstp_bad h0 hr]

/-- At the head of a round of All's loop. -/
structure GI (zs : List Int) (a : Option Addr) (l c x0 n gw N : Nat) (J : List GX → World → Prop) (wr : World) (k : Nat) (pre : List GX) (W0 : World) (g : Nat) (va : Value) : Prop where
  j : J pre W0
  up : Upd (fun i => N ≤ i) W0 wr
  nw : N ≤ W0.heap.size
  wk : WkR wr N g a l c (rrun zs x0 k).p n k (ahd (rrun zs x0 k).l) va
  one : One wr gw 72 (.pointer (some ⟨g, 0, none⟩))
  gne : ¬ WkM g va gw
  e0 : (rrun zs x0 k).e = 0
  pl : pre.map GX.kvp = (rrun zs x0 k).l
  row : Row wr .u8 a zs
  kn : k ≤ n
def GAt (zs : List Int) (a : Option Addr) (l c x0 n gw N : Nat) (J : List GX → World → Prop) (wr : World) (fu : Nat) : Prop :=
  ∃ k pre W0 g va, fu = n - k ∧ GI zs a l c x0 n gw N J wr k pre W0 g va

theorem WkR.mono {W : World} {B B' g : Nat} {a : Option Addr} {l c p n num : Nat} {ls : List Int} {va : Value} (h : WkR W B g a l c p n num ls va) (hb : B' ≤ B) : WkR W B' g a l c p n num ls va :=
  ⟨h.blk, owns_mono h.own hb, h.dva, Nat.le_trans hb h.gB⟩

theorem GI.still {zs : List Int} {a : Option Addr} {l c x0 n gw N : Nat} {J : List GX → World → Prop} {wr wr' : World} {k : Nat} {pre : List GX} {W0 : World} {g : Nat} {va : Value} (h : GI zs a l c x0 n gw N J wr k pre W0 g va) (hu : Upd Noth wr wr') : GI zs a l c x0 n gw N J wr' k pre W0 g va :=
  ⟨h.j, h.up.trans hu.noth, h.nw, h.wk.upd hu (fun _ _ e => e), hu.heap h.one (fun e => e), h.gne, h.e0, h.pl, h.row.upd hu (fun _ _ _ e => e), h.kn⟩

/-- Behind a round: the walker stands at the next entry. -/
theorem GI.next {zs : List Int} {a : Option Addr} {l c x0 n N l0 z ge : Nat} {J : List GX → World → Prop} {wr w4 w5 w6 W3 : World} {k p' : Nat} {ps' : List Nat} {pre : List GX} {W0 : World} {g : Nat} {va vn : Value} {x : GX} {Rl : Nat → Prop}
    (h : GI zs a l c x0 n N N J wr k pre W0 g va) (h4 : Upd Noth wr w4) (hu5 : Upd (fun i => WkM g va i ∨ i = ge) w4 w5) (h6 : Upd Noth w5 w6) (hge : N < ge) (hz4 : ge < w4.heap.size)
    (wk5 : WkR w5 N g a l c p' n (k + 1) x.ks vn) (fp5 : ∀ i, WkM g vn i → WkM g va i ∨ w4.heap.size < i) (sp5 : ∀ i, WkM g vn i → x.kv.ownBlock ≠ some i ∧ x.vv.ownBlock ≠ some i)
    (hk : ∀ i, x.kv.ownBlock = some i ∨ x.vv.ownBlock = some i → w4.heap.size < i)
    (hRR : rrun zs x0 (k + 1) = ⟨(rrun zs x0 k).l ++ [(x.ks, x.vs)], ps', p', 0, 0⟩) (hkn : k < n)
    (hJ : J (pre ++ [x]) W3) (hk3 : Upd (fun i => GR Rl x i ∨ i = l0) w6 W3) (hRl : ∀ k, Rl k → k < z) (hRa : ∀ x, a = some x → 0 < l → ¬ Rl x.block) (hra : ∀ x, a = some x → 0 < l → x.block < z) (hzl : z ≤ l0) (hl1 : l0 < N) (hl : zs.length = l) :
    GI zs a l c x0 n N N J W3 (k + 1) (pre ++ [x]) W3 g vn := by
  have hNwr : N < wr.heap.size := lt_of_block h.one
  have hs4 := h4.size
  have hNge : ∀ i, WkM g va i → N ≤ i ∧ i < wr.heap.size := h.wk.lt
  have hn5 : ∀ i, WkM g vn i → N ≤ i := fun i hi => (fp5 i hi).elim (fun e => (hNge i e).1) (fun e => by omega)
  have hz : ∀ i, i < z → ¬ (WkM g va i ∨ i = ge) := fun i hi e => e.elim (fun e => by have := (hNge i e).1; omega) (fun e => by omega)
  have hz3 : ∀ i, i < z → ¬ Rl i → ¬ (GR Rl x i ∨ i = l0) := fun i hi hr e => by
    rcases e with (e | e | e) | e
    · have := hk i (.inl e); omega
    · have := hk i (.inr e); omega
    · exact hr e
    · omega
  refine ⟨hJ, Upd.refl _ _, ?_, ?_, ?_, ?_, by rw [hRR], ?_, ?_, hkn⟩
  · have := hk3.size; have := h6.size; have := hu5.size; omega
  · rw [hRR]
    simp only []
    rw [ahd_snoc]
    refine (wk5.upd h6 (fun _ _ e => e)).upd hk3 (fun i hi e => ?_)
    have h0 := hn5 i hi
    rcases e with (e | e | e) | e
    · exact (sp5 i hi).1 e
    · exact (sp5 i hi).2 e
    · have := hRl i e; omega
    · omega
  · refine hk3.heap (h6.heap (hu5.heap (h4.heap h.one (fun e => e)) (fun e => e.elim h.gne (fun e => by omega))) (fun e => e)) (fun e => ?_)
    rcases e with (e | e | e) | e
    · have := hk _ (.inl e); omega
    · have := hk _ (.inr e); omega
    · have := hRl _ e; omega
    · omega
  · exact fun e => (fp5 _ e).elim h.gne (fun e => by omega)
  · rw [hRR, List.map_append, h.pl]; rfl
  · refine (((h.row.upd h4 (fun _ _ _ e => e)).upd hu5 (fun y hy h0 => hz _ (hra y hy (by omega)))).upd h6 (fun _ _ _ e => e)).upd hk3 (fun y hy h0 => hz3 _ (hra y hy (by omega)) (hRa y hy (by omega)))

set_option maxRecDepth 100000 in
set_option maxHeartbeats 1600000 in
theorem all1_seq (n : Nat) (hn : 5 ≤ n) (a : Option Addr) (l c gb : Nat) (zs : List Int) (w : World) (hl : zs.length = l) (hm : l ≤ 140737488351232) (hcl : l ≤ c) (na : a = none → l = 0 ∧ c = 0) (hr : Row w .u8 a zs) (z8 : B8 zs) (h1 : One w gb 23 (.slice a l c)) (Rl : Nat → Prop) (hRg : ¬ Rl gb) (hRa : ∀ x, a = some x → 0 < l → ¬ Rl x.block) (hRl : ∀ k, Rl k → k < w.heap.size) :
    SeqR Fence.wide n Try.prog 50 #[.pointer (some ⟨gb, 0, none⟩)] GX.enc (GR Rl) (GD zs) (GS zs) w := by
  intro l0 J Jx W hW hl0 hl1 hY hJ
  have hgb : gb < w.heap.size := lt_of_block h1
  have hra : Hid (∀ x, a = some x → 0 < l → x.block < w.heap.size) := fun x hx h0 => row_lt hr hx (by omega)
  have hrW : Row W .u8 a zs := hr.upd hW (fun _ _ _ e => e)
  have hoW : One W gb 23 (.slice a l c) := hW.heap h1 (fun e => e)
  have hzW := hW.size
  obtain ⟨N, hN⟩ : ∃ N, N = W.heap.size := ⟨_, rfl⟩
  have hbA : Below W.heap.size W (W.alloc (.cells #[.pointer none] 72)) := (Below.refl _ _).alloc (Nat.le_refl _) _
  have HT1 := hide (tstart_any a l c gb N zs (W.alloc (.cells #[.pointer none] 72)) hl hm (hrW.below2 hbA) z8 ((hbA.block _ (by omega)).trans hoW) (by rw [hN]; exact heap_alloc_new W _))
  have hszA : (W.alloc (.cells #[.pointer none] 72)).heap.size = N + 1 := by rw [World.size_alloc, hN]
  have HUA : Hid (Upd Noth W (W.alloc (.cells #[.pointer none] 72))) := (Upd.refl _ _).alloc _
  have HRW := hide hrW
  have HY := hide hY
  have HJ := hide hJ
  have HNA := hide na
  have HRG := hide hRg
  have HRA := hide hRa
  have HRL := hide hRl
  have HN := hide hN
  have hn1 : 1 ≤ n := by omega
  rw [← hN]  at hl1
  have hmf : ∀ (fn : Fn) (first cap : Array Value) (w : World), (Instr.makeFunc fn first cap).run Try.prog w = .ok (.func fn first cap) w := fun _ _ _ _ => rfl
  clear hW hY hJ na hRg hRa hRl hr h1 hrW hoW hbA
  refine callsIn_of_wp Try.func50 rfl trivial ?_ rfl
  simp only [Try.ntmps50, List.size_toArray, List.length_cons, List.length_nil, Nat.reduceAdd, Nat.reduceSub, Array.replicate_succ, Array.replicate_zero, List.push_toArray, List.append_toArray, List.nil_append, List.cons_append]
  rw [hN] at HT1
  gi_wp2
  rw [← hN] at HT1 ⊢
  clear hN
  generalize W.alloc (.cells #[.pointer none] 72) = wA at *
  refine ⟨trivial, ((callsIn_wide (n := n - 1)).2 HT1.out).mono ?_⟩
  rintro e w2 ⟨hu2, ⟨hst, rfl, g, hg, o2, wk2⟩ | ⟨hst, er, q, her, rfl⟩⟩
  · obtain ⟨hent, hn64⟩ := entS_at hst
    have hx0 := (rd_at zs 0 z8 (Nat.zero_le _)).2.2.2.1
    obtain ⟨x0, hx0'⟩ : ∃ x0, x0 = nx zs 0 := ⟨_, rfl⟩
    obtain ⟨n', hn'⟩ : ∃ n', n' = nm zs 0 := ⟨_, rfl⟩
    rw [← hx0'] at hent wk2 hx0
    rw [← hn'] at hent wk2 hn64
    have HINV := hide (fun k (hk : k ≤ 64) => rinv z8 hx0 k hk)
    have HENT := hide hent
    have hfin : ∀ (w3 W0 : World) (pre : List GX) (k : Nat), J pre W0 → Upd (fun i => N ≤ i) W0 w3 → pre.map GX.kvp = (rrun zs x0 k).l → (rrun zs x0 n').l = (rrun zs x0 k).l → ∃ xs W0, J xs W0 ∧ Upd (fun k => W.heap.size ≤ k) W0 w3 ∧ GS zs xs w3 := fun w3 W0 pre k q1 q2 q3 q4 => ⟨pre, W0, q1, by rw [← HN.out]; exact q2, by unfold GS; rw [HENT.out, q4]; exact q3⟩
    have HFIN := hide hfin
    have HG0 : Hid (GI zs a l c x0 n' N N J (w2.alloc (.cells #[.int .i64 0, .int .i64 0] 69)) 0 [] W g (.slice none 0 0)) := by
      have u3 : Upd Noth w2 (w2.alloc (.cells #[.int .i64 0, .int .i64 0] 69)) := (Upd.refl _ _).alloc _
      have hNN := HN.out
      refine ⟨HJ.out, (HUA.out.noth.trans (hu2.mono (fun k _ e => by omega))).trans u3.noth, by omega, (wk2.mono (by omega)).upd u3 (fun _ _ e => e), u3.heap o2 (fun e => e), ?_, rfl, rfl, ((HRW.out.upd HUA.out (fun _ _ _ e => e)).upd hu2 (fun y hy h0 e => ?_)).upd u3 (fun _ _ _ e => e), Nat.zero_le _⟩
      · rintro (e | e)
        · omega
        · cases e
      · have := hra.out y hy (by omega)
        have e' : y.block = N := e
        omega
    clear hu2 o2 wk2 hent hfin hx0' hn' hst HT1 hszA
    gi_wp2
    gi_loopw [] (fun wr => ∃ fu, GAt zs a l c x0 n' N N J wr fu) (fun wr => Classical.epsilon fun n => GAt zs a l c x0 n' N N J wr n ∧ ∀ k, GAt zs a l c x0 n' N N J wr k → n ≤ k)
    case atStart => exact ⟨_, 0, [], W, g, _, rfl, HG0.out⟩
    case round =>
      clear HG0
      obtain ⟨fu, hfu, k, pre, W0, g1, va, hfk, hI⟩ := gleast_get hrel
      clear hrel
      replace hfu := hide hfu
      replace hfk := hide hfk
      have c1 := hI.one.cell
      have HLF := hide (left_any hI.wk)
      have HI := hide hI
      clear hI
      gi_wp2
      refine ⟨trivial, ((callsIn_wide (n := n - 1)).2 HLF.out).mono ?_⟩
      rintro e w3 ⟨rfl, m, hw3⟩
      have HU3 : Hid (Upd Noth wr w3) := by rw [hw3]; exact Upd.of_below (below_of_drewN (Below.refl _ _) m) _
      have HI3 := hide (HI.out.still HU3.out)
      clear hw3 HLF c1
      by_cases hlt : k < n'
      · rw [decide_eq_true hlt]
        obtain ⟨hinv, hlk, _⟩ := HINV.out k (by omega)
        have hlk' := hlk HI3.out.e0
        have hpz := hinv.p
        have hgood := hinv.good (by omega)
        have u4 : Upd Noth w3 (w3.alloc (.cells #[.slice none 0 0, .slice none 0 0] 25)) := (Upd.refl _ _).alloc _
        have hI4 := HI3.out.still u4
        have hlt3 := HI3.out.wk.lt
        have hNlt : N < w3.heap.size := lt_of_block HI3.out.one
        have HTE := hide (tentry_any (gw := N) (ge := w3.heap.size) hI4.wk hl hm hcl HNA.out hI4.row (fun y hy h0 e => by have := (hlt3 _ e).1; have := hra.out y hy h0; omega) z8 hgood.ahd8 hgood.ahdl (by omega) hI4.one (.slice none 0 0) (.slice none 0 0) (heap_alloc_new w3 _) (fun e => by have := (hlt3 _ e).2; omega))
        have hpv : (if k % 8 = 0 then [] else ahd (rrun zs x0 k).l) = pvS (rrun zs x0 k).l := by unfold pvS; rw [hlk']
        rw [hpv] at HTE
        obtain ⟨se1, se2, se3⟩ := step_e (zs := zs) HI3.out.e0 hpz
        have SE1 := hide se1
        have SE3 := hide se3
        have U4 := hide u4
        have H34 : Hid (Upd Noth wr (w3.alloc (.cells #[.slice none 0 0, .slice none 0 0] 25))) := HU3.out.trans u4
        have hz4 : Hid (w3.heap.size < (w3.alloc (.cells #[.slice none 0 0, .slice none 0 0] 25)).heap.size) := by show _ < _; rw [World.size_alloc]; omega
        have c1 := hI4.one.cell
        clear hpv se1 se2 se3 hinv hlk hlk' hgood hpz hI4 u4 hlt3
        gi_wp2
        generalize hge : w3.heap.size = ge at *
        generalize w3.alloc (.cells #[.slice none 0 0, .slice none 0 0] 25) = w4 at *
        replace hge := hide hge
        refine ⟨trivial, ((callsIn_wide (n := n - 1)).2 HTE.out).mono ?_⟩
        rintro e w5 ⟨hu5, ⟨he, rfl, ka, kc, va', vc, Nv, vn, e5, ok5, ov5, hN5, hkN5, wk5, fp5, sp5⟩ | ⟨he, er, q, her, rfl⟩⟩
        · have hRR := SE3.out he
          obtain ⟨rest, hrest⟩ := rrun_pre zs x0 (k + 1) (n' - (k + 1))
          rw [show k + 1 + (n' - (k + 1)) = n' by omega] at hrest
          have hRR' : rrun zs x0 (k + 1) = ⟨(rrun zs x0 k).l ++ [(xKy (pvS (rrun zs x0 k).l) zs (rrun zs x0 k).p, xVl (pvS (rrun zs x0 k).l) zs (rrun zs x0 k).p)], (rrun zs x0 k).ps ++ [(rrun zs x0 k).p], xPl (pvS (rrun zs x0 k).l) zs (rrun zs x0 k).p, 0, 0⟩ := hRR
          clear hRR
          generalize xKy (pvS (rrun zs x0 k).l) zs (rrun zs x0 k).p = K at *
          generalize xVl (pvS (rrun zs x0 k).l) zs (rrun zs x0 k).p = V at *
          generalize xPl (pvS (rrun zs x0 k).l) zs (rrun zs x0 k).p = p' at *
          have u6 : Upd Noth w5 (w5.alloc (.cells #[.int .i64 0, .int .i64 0] 69)) := (Upd.refl _ _).alloc _
          have hbk : ∀ i, (Value.slice ka K.length kc).ownBlock = some i ∨ (Value.slice va' V.length vc).ownBlock = some i → w4.heap.size < i := fun i hi => by
            rcases hi with hi | hi
            · have := (ok5.owns.lt i hi).1; omega
            · have := (ov5.owns.lt i hi).1; omega
          have hWN := HN.out
          have hgw : N ≤ w4.heap.size := by have := hz4.out; omega
          have hup6 : Upd (fun k => W.heap.size ≤ k) W0 (w5.alloc (.cells #[.int .i64 0, .int .i64 0] 69)) := by
            rw [← hWN]
            refine (((HI3.out.up.trans U4.out.noth).trans (hu5.mono (fun i _ e => ?_))).trans u6.noth)
            rcases e with e | e
            · exact (HI3.out.wk.lt i e).1
            · omega
          obtain ⟨fn, tmps, assign, body, hy, hRd⟩ := HY.out pre ⟨.slice ka K.length kc, .slice va' V.length vc, K, V⟩ W0 (w5.alloc (.cells #[.int .i64 0, .int .i64 0] 69)) HI3.out.j hup6
            ⟨⟨rest, by rw [HENT.out, hrest, hRR', List.map_append, HI3.out.pl]; rfl⟩, (ok5.upd u6 (fun _ _ e => e)).mono (by omega), (ov5.upd u6 (fun _ _ e => e)).mono (by omega), fun i h1 h2 => by have := hkN5 i h1; have := (ov5.owns.lt i h2).1; omega⟩
          have HNX : Hid (∀ W3, J (pre ++ [⟨.slice ka K.length kc, .slice va' V.length vc, K, V⟩]) W3 → Upd (fun i => GR Rl ⟨.slice ka K.length kc, .slice va' V.length vc, K, V⟩ i ∨ i = l0) (w5.alloc (.cells #[.int .i64 0, .int .i64 0] 69)) W3 → GAt zs a l c x0 n' N N J W3 (n' - (k + 1))) := fun W3 hJ3 hk3 =>
            ⟨k + 1, _, W3, g1, vn, rfl, HI.out.next (ge := ge) (z := w.heap.size) (Rl := Rl) (l0 := l0) (ps' := (rrun zs x0 k).ps ++ [(rrun zs x0 k).p]) (p' := p') H34.out hu5 u6 hNlt hz4.out wk5 fp5 sp5 hbk hRR' hlt hJ3 hk3 HRL.out HRA.out hra.out hl0 hl1 hl⟩
          simp only [GX.enc] at hy
          obtain ⟨q0, q1⟩ := (show E2 (w5.alloc (.cells #[.int .i64 0, .int .i64 0] 69)) ge _ _ from u6.heap e5 (fun e => e)).cells
          replace hRd := hide hRd
          clear hu5 e5 ok5 ov5 hN5 hkN5 wk5 fp5 sp5 hRR' hrest u6 hbk hup6 hWN SE1 SE3 HTE c1
          obtain ⟨nK, hnK⟩ : ∃ x, K.length = x := ⟨_, rfl⟩
          obtain ⟨nV, hnV⟩ : ∃ x, V.length = x := ⟨_, rfl⟩
          rw [hnK, hnV] at hy
          rw [hnK] at q0
          rw [hnV] at q1
          replace hnK := hide hnK
          replace hnV := hide hnV
          gi_wp2
          refine hRd.out.mono ?_
          rintro e W3 (⟨rfl, hJ3, hk3⟩ | ⟨rfl, hJx3⟩)
          · have HN2 := hide (HNX.out W3 hJ3 hk3)
            clear hk3 hJ3
            gi_wp2
            go_roundw
            case rel => exact ⟨_, HN2.out⟩
            case measure => exact gleast_lt hfu.out HN2.out (by have := hfk.out; omega)
          · gi_wp2
            refine bodyPost_ret (results_none rfl _ _ _) rfl ?_
            exact ⟨⟨_, rfl⟩, .inr ⟨_, hJx3⟩⟩
        · have hne : (er != 0) = true := by simp [her]
          have hse : (rrun zs x0 (k + 1)).e ≠ 0 := by rw [rrun, ← SE1.out]; exact he
          have HF : Hid (∀ w6, Upd Noth w5 w6 → ∃ xs W0, J xs W0 ∧ Upd (fun k => W.heap.size ≤ k) W0 w6 ∧ GS zs xs w6) := fun w6 hu6 => by
            refine HFIN.out w6 W0 pre k HI3.out.j (((HI3.out.up.trans U4.out.noth).trans (hu5.mono (fun i _ e => ?_))).trans hu6.noth) HI3.out.pl (rrun_fail hse HI3.out.e0 hlt)
            rcases e with e | e
            · exact (HI3.out.wk.lt i e).1
            · omega
          clear hu5 SE1 SE3 HTE c1 hse
          gi_wp2
          refine ⟨fun f hf => by (cases hf), ?_⟩
          gi_wp2
          refine bodyPost_ret (results_none rfl _ _ _) rfl ?_
          exact ⟨⟨_, rfl⟩, .inl (HF.out _ ((Upd.refl _ _).alloc _))⟩
      · rw [decide_eq_false hlt]
        have hkn := HI3.out.kn
        obtain rfl : k = n' := by omega
        gi_wp2
        refine bodyPost_end (results_none rfl _ _ _) rfl ?_
        exact ⟨⟨_, rfl⟩, .inl (HFIN.out _ W0 pre k HI3.out.j HI3.out.up HI3.out.pl rfl)⟩
  · have hne : (er != 0) = true := by simp [her]
    have HF : Hid (∀ w3, Upd Noth w2 w3 → ∃ xs W0, J xs W0 ∧ Upd (fun k => W.heap.size ≤ k) W0 w3 ∧ GS zs xs w3) := fun w3 hu3 => ⟨[], W, HJ.out, (HUA.out.noth.trans (hu2.mono (fun k _ e => by have := HN.out; omega))).trans hu3.noth, by unfold GS; rw [entS_st hst]; rfl⟩
    clear hu2
    gi_wp2
    refine bodyPost_ret (results_none rfl _ _ _) rfl ?_
    exact ⟨⟨_, rfl⟩, .inl (HF.out _ ((Upd.refl _ _).alloc _))⟩

end Go.Proofs.Ythloaabdlciefaa

namespace Go.Proofs.Ythloaabdlciefaa
open Go.RowKit Go.Shelf
attribute [local go_sem] Oper.semAt_some

/-- block.All. -/
theorem ball_any (a : Option Addr) (len cap : Nat) (w : World) :
    Calls Try.prog 25 #[.slice a len cap] w fun e w' => e = .returned (.func (.func 50) #[] #[.pointer (some ⟨w.heap.size, 0, none⟩)]) ∧ w' = w.alloc (.cells #[.slice a len cap] 23) := by
  have hmf : ∀ (fn : Fn) (first cap : Array Value) (w : World), (Instr.makeFunc fn first cap).run Try.prog w = .ok (.func fn first cap) w := fun _ _ _ _ => rfl
  go_enter Try.func25, Try.ntmps25
  go_wp2
  go_ret
  exact ⟨rfl, rfl⟩

/-- What holds where the turns begin. -/
structure GW (w X0 : World) (len : Nat) (zs : List Int) (most : Int) (g gb B3 B4 B7 B12 : Nat) (Es : List Ent) (aw : Option Addr) (bw cw : Nat) : Prop where
  bel : Below w.heap.size w X0
  lent : Lent X0 g zs
  b3 : Boxed X0 B3 3 (.int .i64 most)
  b4 : Boxed X0 B4 4 (.bool false)
  b7 : Boxed X0 B7 26 (.slice aw Es.length cw)
  b12 : Boxed X0 B12 50 (.func (.func 50) #[] #[.pointer (some ⟨gb, 0, none⟩)])
  one : One X0 gb 23 (.slice (some ⟨g, 0, none⟩) len (len + 2))
  ens : Ens X0 bw 0 Es
  haw : 0 < Es.length → aw = some ⟨bw, 0, none⟩
  kv : kvs Es = (entS zs).l
theorem GW.still {w X0 X : World} {len : Nat} {zs : List Int} {most : Int} {g gb B3 B4 B7 B12 : Nat} {Es : List Ent} {aw : Option Addr} {bw cw : Nat} (h : GW w X0 len zs most g gb B3 B4 B7 B12 Es aw bw cw) (hu : Upd (fun k => X0.heap.size ≤ k) X0 X) : GW w X len zs most g gb B3 B4 B7 B12 Es aw bw cw := by
  have hb : Below X0.heap.size X0 X := hu.below (Nat.le_refl _) (fun k hk e => by omega)
  exact ⟨h.bel.trans (hb.mono h.bel.size), fun i hi => (hb.cell (p := ⟨g, i, none⟩) h.lent.lt).trans (h.lent i hi), boxed_below h.b3 hb, boxed_below h.b4 hb, boxed_below h.b7 hb, boxed_below h.b12 hb, (hb.block _ (lt_of_block h.one)).trans h.one, h.ens.below hb, h.haw, h.kv⟩

set_option maxRecDepth 100000 in
theorem gframe_list (f : Nat → Value) : (#[f 0, f 1, f 2, f 3, f 4, f 5, f 6, f 7, f 8, f 9, f 10, f 11, f 12, f 13, f 14, f 15, f 16, f 17, f 18, f 19, f 20, f 21, f 22, f 23, f 24, f 25, f 26, f 27, f 28, f 29, f 30, f 31, f 32, f 33, f 34, f 35, f 36, f 37, f 38, f 39, f 40, f 41, f 42, f 43, f 44, f 45, f 46, f 47, f 48, f 49, f 50, f 51, f 52, f 53, f 54, f 55, f 56, f 57, f 58, f 59, f 60, f 61, f 62, f 63, f 64, f 65, f 66, f 67, f 68, f 69, f 70, f 71, f 72, f 73, f 74, f 75, f 76, f 77, f 78, f 79, f 80, f 81, f 82, f 83, f 84, f 85, f 86, f 87, f 88, f 89, f 90, f 91, f 92, f 93, f 94, f 95, f 96, f 97, f 98, f 99, f 100, f 101, f 102, f 103, f 104, f 105, f 106, f 107] : Array Value) = ((List.range 108).map f).toArray := rfl
theorem gframe_of (t : Array Value) (hs : t.size = 108) : t = ((List.range 108).map fun i => t.getD i undef).toArray := by
  refine Array.ext (by simp [hs]) (fun i h1 h2 => ?_)
  simp [Array.getD, h1]

/-- Ahead of a turn. -/
def GTA (w X0 : World) (a : Option Addr) (len cap g B3 B4 B7 B12 : Nat) (turn : Nat) (act : Act) (X : World) : Prop :=
  ∃ (f : Nat → Value) (ds : List Deferred) (Bt : Nat), act = { tmps := #[.slice a len cap, f 1, f 2, .pointer (some ⟨B3, 0, none⟩), .pointer (some ⟨B4, 0, none⟩), f 5, .slice (some ⟨g, 0, none⟩) len (len + 2), .pointer (some ⟨B7, 0, none⟩), f 8, f 9, f 10, f 11, .pointer (some ⟨B12, 0, none⟩), .pointer (some ⟨Bt, 0, none⟩), f 14, f 15, f 16, f 17, f 18, f 19, f 20, f 21, f 22, f 23, f 24, f 25, f 26, f 27, f 28, f 29, f 30, f 31, f 32, f 33, f 34, f 35, f 36, f 37, f 38, f 39, f 40, f 41, f 42, f 43, f 44, f 45, f 46, f 47, f 48, f 49, f 50, f 51, f 52, f 53, f 54, f 55, f 56, f 57, f 58, f 59, f 60, f 61, f 62, f 63, f 64, f 65, f 66, f 67, f 68, f 69, f 70, f 71, f 72, f 73, f 74, f 75, f 76, f 77, f 78, f 79, f 80, f 81, f 82, f 83, f 84, f 85, f 86, f 87, f 88, f 89, f 90, f 91, f 92, f 93, f 94, f 95, f 96, f 97, f 98, f 99, f 100, f 101, f 102, f 103, f 104, f 105, f 106, f 107], defers := ds } ∧ Upd (fun k => X0.heap.size ≤ k) X0 X ∧ Boxed X Bt 3 (.int .i64 (turn : Int)) ∧ X0.heap.size ≤ Bt ∧ Marks w.heap.size ds X
/-- Behind them. -/
def GTE (w X0 : World) (a : Option Addr) (len cap g B3 B4 B7 B12 : Nat) (act : Act) (X : World) : Prop :=
  ∃ (f : Nat → Value) (ds : List Deferred), act = { tmps := #[.slice a len cap, f 1, f 2, .pointer (some ⟨B3, 0, none⟩), .pointer (some ⟨B4, 0, none⟩), f 5, .slice (some ⟨g, 0, none⟩) len (len + 2), .pointer (some ⟨B7, 0, none⟩), f 8, f 9, f 10, f 11, .pointer (some ⟨B12, 0, none⟩), f 13, f 14, f 15, f 16, f 17, f 18, f 19, f 20, f 21, f 22, f 23, f 24, f 25, f 26, f 27, f 28, f 29, f 30, f 31, f 32, f 33, f 34, f 35, f 36, f 37, f 38, f 39, f 40, f 41, f 42, f 43, f 44, f 45, f 46, f 47, f 48, f 49, f 50, f 51, f 52, f 53, f 54, f 55, f 56, f 57, f 58, f 59, f 60, f 61, f 62, f 63, f 64, f 65, f 66, f 67, f 68, f 69, f 70, f 71, f 72, f 73, f 74, f 75, f 76, f 77, f 78, f 79, f 80, f 81, f 82, f 83, f 84, f 85, f 86, f 87, f 88, f 89, f 90, f 91, f 92, f 93, f 94, f 95, f 96, f 97, f 98, f 99, f 100, f 101, f 102, f 103, f 104, f 105, f 106, f 107], defers := ds } ∧ Upd (fun k => X0.heap.size ≤ k) X0 X ∧ Marks w.heap.size ds X
theorem GTA.mk {w X0 : World} {a : Option Addr} {len cap g B3 B4 B7 B12 turn : Nat} {t : Array Value} {ds : List Deferred} {X : World} {Bt : Nat} (hs : t.size = 108)
    (h0 : t[0]? = some (.slice a len cap)) (h3 : t[3]? = some (.pointer (some ⟨B3, 0, none⟩))) (h4 : t[4]? = some (.pointer (some ⟨B4, 0, none⟩))) (h6 : t[6]? = some (.slice (some ⟨g, 0, none⟩) len (len + 2))) (h7 : t[7]? = some (.pointer (some ⟨B7, 0, none⟩))) (h12 : t[12]? = some (.pointer (some ⟨B12, 0, none⟩))) (h13 : t[13]? = some (.pointer (some ⟨Bt, 0, none⟩)))
    (hu : Upd (fun k => X0.heap.size ≤ k) X0 X) (hb : Boxed X Bt 3 (.int .i64 (turn : Int))) (hBt : X0.heap.size ≤ Bt) (hm : Marks w.heap.size ds X) : GTA w X0 a len cap g B3 B4 B7 B12 turn { tmps := t, defers := ds } X := by
  refine ⟨fun i => t.getD i undef, ds, Bt, ?_, hu, hb, hBt, hm⟩
  rw [Act.mk.injEq]
  refine ⟨(gframe_of t hs).trans ((gframe_list fun i => t.getD i undef).symm.trans ?_), rfl⟩
  rw [getD_of h0, getD_of h3, getD_of h4, getD_of h6, getD_of h7, getD_of h12, getD_of h13]
theorem GTE.mk {w X0 : World} {a : Option Addr} {len cap g B3 B4 B7 B12 : Nat} {t : Array Value} {ds : List Deferred} {X : World} (hs : t.size = 108)
    (h0 : t[0]? = some (.slice a len cap)) (h3 : t[3]? = some (.pointer (some ⟨B3, 0, none⟩))) (h4 : t[4]? = some (.pointer (some ⟨B4, 0, none⟩))) (h6 : t[6]? = some (.slice (some ⟨g, 0, none⟩) len (len + 2))) (h7 : t[7]? = some (.pointer (some ⟨B7, 0, none⟩))) (h12 : t[12]? = some (.pointer (some ⟨B12, 0, none⟩)))
    (hu : Upd (fun k => X0.heap.size ≤ k) X0 X) (hm : Marks w.heap.size ds X) : GTE w X0 a len cap g B3 B4 B7 B12 { tmps := t, defers := ds } X := by
  refine ⟨fun i => t.getD i undef, ds, ?_, hu, hm⟩
  rw [Act.mk.injEq]
  refine ⟨(gframe_of t hs).trans ((gframe_list fun i => t.getD i undef).symm.trans ?_), rfl⟩
  rw [getD_of h0, getD_of h3, getD_of h4, getD_of h6, getD_of h7, getD_of h12]

theorem entS_len {zs : List Int} (z8 : B8 zs) : (entS zs).l.length ≤ 64 := by
  by_cases h : stE zs = 0
  · obtain ⟨e, h64⟩ := entS_at h
    rw [e]
    have := (rinv z8 (rd_at zs 0 z8 (Nat.zero_le _)).2.2.2.1 (nm zs 0) h64).2.2
    omega
  · rw [entS_st h]; simp
theorem kvs_at (Es : List Ent) (i : Nat) (h : i < Es.length) : (kvs Es)[i]? = some (Es[i].ks, Es[i].vs) := by
  unfold kvs
  rw [List.getElem?_map, List.getElem?_eq_getElem h]
  rfl

/-- Most of a frame is let go. -/
theorem nest_frame {c : Code} {F : Fence} {n : Nat} {P : Program} {Q : Exit → Act → World → Prop} {ds : List Deferred} {W : World} {t : Array Value} {B3 B4 B7 B14 Bt B18 : Nat} {v : Value} (hs : t.size = 108)
    (h3 : t[3]? = some (.pointer (some ⟨B3, 0, none⟩))) (h4 : t[4]? = some (.pointer (some ⟨B4, 0, none⟩))) (h7 : t[7]? = some (.pointer (some ⟨B7, 0, none⟩))) (h13 : t[13]? = some (.pointer (some ⟨Bt, 0, none⟩))) (h14 : t[14]? = some (.pointer (some ⟨B14, 0, none⟩))) (h18 : t[18]? = some (.pointer (some ⟨B18, 0, none⟩))) (h73 : t[73]? = some v)
    (h : ∀ f : Nat → Value, c.wpIn F n P Q { tmps := #[f 0, f 1, f 2, .pointer (some ⟨B3, 0, none⟩), .pointer (some ⟨B4, 0, none⟩), f 5, f 6, .pointer (some ⟨B7, 0, none⟩), f 8, f 9, f 10, f 11, f 12, .pointer (some ⟨Bt, 0, none⟩), .pointer (some ⟨B14, 0, none⟩), f 15, f 16, f 17, .pointer (some ⟨B18, 0, none⟩), f 19, f 20, f 21, f 22, f 23, f 24, f 25, f 26, f 27, f 28, f 29, f 30, f 31, f 32, f 33, f 34, f 35, f 36, f 37, f 38, f 39, f 40, f 41, f 42, f 43, f 44, f 45, f 46, f 47, f 48, f 49, f 50, f 51, f 52, f 53, f 54, f 55, f 56, f 57, f 58, f 59, f 60, f 61, f 62, f 63, f 64, f 65, f 66, f 67, f 68, f 69, f 70, f 71, f 72, v, f 74, f 75, f 76, f 77, f 78, f 79, f 80, f 81, f 82, f 83, f 84, f 85, f 86, f 87, f 88, f 89, f 90, f 91, f 92, f 93, f 94, f 95, f 96, f 97, f 98, f 99, f 100, f 101, f 102, f 103, f 104, f 105, f 106, f 107], defers := ds } W) : c.wpIn F n P Q { tmps := t, defers := ds } W := by
  have e := (gframe_of t hs).trans (gframe_list fun i => t.getD i undef).symm
  rw [getD_of h3, getD_of h4, getD_of h7, getD_of h13, getD_of h14, getD_of h18, getD_of h73] at e
  rw [e]
  exact h (fun i => t.getD i undef)

set_option maxRecDepth 100000 in
set_option maxHeartbeats 2000000 in
theorem goes_round (n : Nat) (hn : 12 ≤ n) (a : Option Addr) (len cap : Nat) (zs : List Int) (most : Int) (w X0 : World) (g gb B3 B4 B7 B12 : Nat) (Es : List Ent) (aw : Option Addr) (bw cw : Nat) (hl : zs.length = len) (hm : len ≤ 140737488351232) (z8 : B8 zs)
    (hG : GW w X0 len zs most g gb B3 B4 B7 B12 Es aw bw cw) (turn : Nat) (ht : turn ≤ 2) (act : Act) (X : World) (Q : Exit → Act → World → Prop) (hat : GTA w X0 a len cap g B3 B4 B7 B12 turn act X) (hQ : ∀ act X', GTE w X0 a len cap g B3 B4 B7 B12 act X' → Q (.exit 0) act X') :
    (loopOf (firstOf (partOf 6 (Try.f7.body.getD .skip)))).wpIn Fence.wide n Try.prog (Exit.then (fun act' X' => turn < 2 ∧ GTA w X0 a len cap g B3 B4 B7 B12 (turn + 1) act' X') Q) act X := by
  obtain ⟨f, ds, Bt, rfl, hu, hbt, hBt, hmk⟩ := hat
  have h1 : 1 ≤ n := by omega
  have G9 := hG.still hu
  have HQ := hide hQ
  have HM := hide hmk
  have HU := hide hu
  have HG := hide hG
  have ct := hbt.cell
  have c12 := G9.b12.cell
  clear hQ hmk hu hG
  conv => arg 4; whnf
  by_cases ht2 : turn = 2
  · subst ht2
    rw [show ((2 : Nat) : Int) = 2 from rfl] at ct
    gi_wp2
    exact HQ.out _ _ (GTE.mk rfl rfl rfl rfl rfl rfl rfl HU.out HM.out)
  · have htl : (turn : Int) < 2 := by omega
    have c12' := (G9.b12.alloc (.cells #[.int .i64 0] 3)).cell
    gi_wp2
    rename_i K2 hK2 K1 hK1
    obtain ⟨W1, hW1⟩ : ∃ W1, X.alloc (.cells #[.int .i64 0] 3) = W1 := ⟨_, rfl⟩
    obtain ⟨B14, hB14⟩ : ∃ B14, B14 = X.heap.size := ⟨_, rfl⟩
    have b14 : Boxed W1 B14 3 (.int .i64 ((0 : Nat) : Int)) := by rw [← hW1, hB14]; exact Boxed.new X _ _
    have u1 : Upd Noth X W1 := by rw [← hW1]; exact (Upd.refl _ _).alloc _
    have s1 : W1.heap.size = B14 + 1 := by rw [← hW1, hB14]; simp
    have hX0 : X0.heap.size ≤ B14 := by rw [hB14]; exact HU.out.size
    have hbtl : Bt < B14 := by rw [hB14]; exact hbt.lt
    have hU1 : Upd (fun k => X0.heap.size ≤ k) X0 W1 := HU.out.trans u1.noth
    have G1 := HG.out.still hU1
    have lgb : gb < X0.heap.size := lt_of_block HG.out.one
    have lg : g < X0.heap.size := HG.out.lent.lt
    have HBX := hide hB14
    rw [hW1]
    rw [← hB14]
    replace hW1 := hide hW1
    have HS1 := hide s1
    clear hB14 s1
    have HB0 : Hid (∀ Wc, Upd (fun k => B14 ≤ k) X Wc → GW w Wc len zs most g gb B3 B4 B7 B12 Es aw bw cw ∧ Upd (fun k => X0.heap.size ≤ k) X0 Wc ∧ Boxed Wc Bt 3 (.int .i64 (turn : Int)) ∧ Marks w.heap.size ds Wc) := fun Wc hc => by
      have hb : Below X.heap.size X Wc := hc.below (Nat.le_refl _) (fun k hk e => by have := HBX.out; omega)
      have hu' : Upd (fun k => X0.heap.size ≤ k) X0 Wc := HU.out.then hc (fun k hk e => by omega)
      exact ⟨HG.out.still hu', hu', boxed_below hbt hb, HM.out.below hb⟩
    have HCONT : Hid (∀ (D kk : Nat) (Wc : World), Boxed Wc B14 3 (.int .i64 (kk : Int)) → Upd (fun k => B14 ≤ k) X Wc → (kk = Es.length ∨ (turn = 0 ∧ (kk : Int) = most)) → B14 < D → Wc.heap[D]? = some (.deferred (some [])) →
        K1 { tmps := #[.slice a len cap, f 1, f 2, .pointer (some ⟨B3, 0, none⟩), .pointer (some ⟨B4, 0, none⟩), f 5, .slice (some ⟨g, 0, none⟩) len (len + 2), .pointer (some ⟨B7, 0, none⟩), f 8, f 9, f 10, f 11, .pointer (some ⟨B12, 0, none⟩), .pointer (some ⟨Bt, 0, none⟩), .pointer (some ⟨B14, 0, none⟩), f 15, f 16, f 17, f 18, f 19, f 20, f 21, f 22, f 23, f 24, f 25, f 26, f 27, f 28, f 29, f 30, f 31, f 32, f 33, .int .i64 (turn : Int), .bool true, f 36, f 37, .func (.func 50) #[] #[.pointer (some ⟨gb, 0, none⟩)], f 39, f 40, f 41, f 42, f 43, f 44, f 45, f 46, f 47, f 48, f 49, f 50, f 51, f 52, f 53, f 54, f 55, f 56, f 57, f 58, f 59, f 60, f 61, f 62, f 63, f 64, f 65, f 66, f 67, f 68, f 69, f 70, f 71, f 72, f 73, f 74, f 75, f 76, f 77, f 78, f 79, f 80, f 81, f 82, f 83, f 84, f 85, f 86, f 87, f 88, f 89, f 90, f 91, f 92, f 93, f 94, f 95, f 96, f 97, f 98, f 99, f 100, f 101, f 102, f 103, f 104, f 105, f 106, f 107], defers := { target := .collected D, args := #[] } :: ds } Wc) := by
      intro D kk Wc hkb hcc hcase hDl hDD
      obtain ⟨gw, hux, hbtc, hmk⟩ := HB0.out Wc hcc
      have c14 := hkb.cell
      have c7 := gw.b7.cell
      have c3 := gw.b3.cell
      have c13 := hbtc.cell
      have hsz := hcc.size
      have HMK : Hid (Marks w.heap.size ({ target := .collected D, args := #[] } :: ds) Wc) := HM.out.push hmk (by have := HBX.out; omega) (by have := HG.out.bel.size; have := HU.out.size; omega) hDD
      have HUX := hide hux
      refine hK1 _ _ ?_
      have HFIN : Hid (∀ z : Int, z = (turn : Int) + 1 → Upd (fun k => X0.heap.size ≤ k) X0 (Wc.alloc (.cells #[.int .i64 z] 3)) ∧ Boxed (Wc.alloc (.cells #[.int .i64 z] 3)) Wc.heap.size 3 (.int .i64 ((turn + 1 : Nat) : Int)) ∧ Marks w.heap.size ({ target := .collected D, args := #[] } :: ds) (Wc.alloc (.cells #[.int .i64 z] 3))) := fun z hz => by
        have hb : Below Wc.heap.size Wc (Wc.alloc (.cells #[.int .i64 z] 3)) := (Below.refl _ _).alloc (Nat.le_refl _) _
        refine ⟨HUX.out.then (Upd.of_below hb (fun _ => False)) (fun _ _ e => e.elim), ?_, HMK.out.below hb⟩
        rw [show ((turn + 1 : Nat) : Int) = z by omega]
        exact Boxed.new Wc 3 _
      clear hux hmk hDD gw hcc hkb hbtc
      have hlX : X0.heap.size ≤ Wc.heap.size := HUX.out.size
      dsimp only
      by_cases hke : kk = Es.length
      · subst hke
        gi_wp2
        obtain ⟨r1, r2, r3⟩ := HFIN.out _ (by first | rfl | omega)
        exact ⟨by omega, GTA.mk rfl rfl rfl rfl rfl rfl rfl rfl r1 r2 hlX r3⟩
      · obtain ⟨rfl, hkm⟩ : turn = 0 ∧ (kk : Int) = most := hcase.resolve_left hke
        have t94 : ((kk : Int) != (Es.length : Int)) = true := by rw [bne_iff_ne]; omega
        have t101 : ((kk : Int) != most) = false := by rw [hkm]; simp
        rw [show ((0 : Nat) : Int) = 0 from rfl] at c13
        clear hkm hcase
        gi_wp2
        obtain ⟨r1, r2, r3⟩ := HFIN.out _ (by first | rfl | omega)
        exact ⟨by omega, GTA.mk rfl rfl rfl rfl rfl rfl rfl rfl r1 r2 hlX r3⟩
    refine wpIn_range_r rfl h1 (gf := 50) (lb := #[.pointer (some ⟨gb, 0, none⟩)]) rfl trivial (enters_of Try.func50 (by kernel_rfl) rfl)
      (all1_seq (n - 1) (by omega) (some ⟨g, 0, none⟩) len (len + 2) gb zs W1 hl (by omega) (by omega) (fun h => by cases h) G1.lent.row z8 G1.one (fun k => k = B14) (fun e => by omega) (fun y hy _ e => by cases hy; simp only at e; omega) (fun k e => by have := HS1.out; omega))
      (fun _ => rfl) (fun pre x W1 W2 hd hu => hd.upd hu (fun k e => by omega))
      (fun pre W' => Boxed W' B14 3 (.int .i64 (pre.length : Int)) ∧ Upd (fun k => B14 ≤ k) X W')
      (fun c pre W' => (c = .exit 2 ∧ turn = 0 ∧ (pre.length : Int) = most) ∧ Boxed W' B14 3 (.int .i64 (pre.length : Int)) ∧ Upd (fun k => B14 ≤ k) X W')
      (fun s A B ⟨h1, h2⟩ hu => ⟨boxed_upd h1 hu (by have := HS1.out; omega), h2.trans (hu.mono (fun k _ e => by have := HS1.out; omega))⟩)
      (fun c s A B ⟨h0, h1, h2⟩ hu => ⟨h0, boxed_upd h1 hu (by have := HS1.out; omega), h2.trans (hu.mono (fun k _ e => by have := HS1.out; omega))⟩)
      ⟨b14, u1.noth⟩
      (fun x => { tmps := #[.slice a len cap, f 1, f 2, .pointer (some ⟨B3, 0, none⟩), .pointer (some ⟨B4, 0, none⟩), f 5, .slice (some ⟨g, 0, none⟩) len (len + 2), .pointer (some ⟨B7, 0, none⟩), f 8, f 9, f 10, f 11, .pointer (some ⟨B12, 0, none⟩), .pointer (some ⟨Bt, 0, none⟩), .pointer (some ⟨B14, 0, none⟩), x.kv, x.vv, f 17, f 18, f 19, f 20, f 21, f 22, f 23, f 24, f 25, f 26, f 27, f 28, f 29, f 30, f 31, f 32, f 33, .int .i64 (turn : Int), .bool true, f 36, f 37, .func (.func 50) #[] #[.pointer (some ⟨gb, 0, none⟩)], x.kv, x.vv, f 41, f 42, f 43, f 44, f 45, f 46, f 47, f 48, f 49, f 50, f 51, f 52, f 53, f 54, f 55, f 56, f 57, f 58, f 59, f 60, f 61, f 62, f 63, f 64, f 65, f 66, f 67, f 68, f 69, f 70, f 71, f 72, f 73, f 74, f 75, f 76, f 77, f 78, f 79, f 80, f 81, f 82, f 83, f 84, f 85, f 86, f 87, f 88, f 89, f 90, f 91, f 92, f 93, f 94, f 95, f 96, f 97, f 98, f 99, f 100, f 101, f 102, f 103, f 104, f 105, f 106, f 107], defers := [] }) ?assign ?body ?done ?stop
    case assign =>
      intro l x W' K hK
      simp only [GX.enc]
      gi_wp2
      exact hK
    case body =>
      rintro l pre ⟨kv, vv, ks, vs⟩ W0 W hlq ⟨r, hlr⟩ ⟨hk0, hu0⟩ hu ⟨⟨rest, hrest⟩, okv, ovv, hsep⟩ hlt0
      change OwnB W (W1.heap.size + 2) 5 kv ks at okv
      change OwnB W (W1.heap.size + 2) 5 vv vs at ovv
      change ∀ i, kv.ownBlock = some i → vv.ownBlock ≠ some i at hsep
      have hs1 := HS1.out
      have hkb := boxed_upd hk0 hu (by omega)
      have hUX : Upd (fun k => B14 ≤ k) X W := hu0.trans (hu.mono (fun k _ e => by omega))
      obtain ⟨gw, hux, hbtc, _⟩ := HB0.out W hUX
      have hkl : pre.length < Es.length := by
        have q := congrArg List.length hrest
        rw [← gw.kv, kvs_len] at q
        simp only [List.length_append, List.length_map, List.length_cons, List.length_nil] at q
        omega
      have hget := kvs_at Es pre.length hkl
      rw [gw.kv, hrest, List.map_append, List.append_assoc, List.getElem?_append_right (by simp)] at hget
      simp only [List.length_map, Nat.sub_self, List.map_cons, List.map_nil, List.cons_append, List.nil_append, List.getElem?_cons_zero, Option.some.injEq, GX.kvp, Prod.mk.injEq] at hget
      obtain ⟨e1, e2⟩ := hget
      have d0 := gw.ens.at0 pre.length hkl
      have d1 := gw.ens.at1 pre.length hkl
      have eok := gw.ens.ok pre.length hkl
      unfold Ent.kv at d0
      unfold Ent.vv at d1
      rw [Nat.zero_add] at d0 d1
      rw [← e1] at d0
      rw [← e2] at d1
      have rk := eok.k
      have rv := eok.v
      rw [← e1] at rk
      rw [← e2] at rv
      have zk := eok.zk
      have zv := eok.zv
      rw [← e1] at zk
      rw [← e2] at zv
      generalize Es[pre.length] = en at *
      obtain ⟨ka, kc, rfl, _, _, _⟩ := okv.sliceN rfl
      obtain ⟨va, vc, rfl, _, _, _⟩ := ovv.sliceN rfl
      have haw := gw.haw (by omega)
      have c7 := gw.b7.cell
      have c13 := hbtc.cell
      have c3 := gw.b3.cell
      have c14 := hkb.cell
      have HS := hide (sameq ka en.ka ks.length kc en.kc ks W (by unfold maxLen; omega) rfl okv.row rk)
      have HV : Hid (∀ m, Calls Try.prog 11 #[.slice va vs.length vc, .slice en.va vs.length en.vc] (W.drewN m) fun e w' => e = .returned (.bool true) ∧ ∃ k, w' = (W.drewN m).drewN k) := fun m => sameq va en.va vs.length vc en.vc vs (W.drewN m) (by unfold maxLen; omega) rfl (show Row W .u8 _ _ from ovv.row) (show Row W .u8 _ _ from rv)
      have HOK := hide okv
      have HOV := hide ovv
      have HSEP := hide hsep
      have HUX := hide hUX
      have HKB := hide hkb
      have HLR := hide hlr
      have hlow : ∀ k, k < B14 + 3 → ¬ ((Value.slice ka ks.length kc).ownBlock = some k ∨ (Value.slice va vs.length vc).ownBlock = some k) := fun k hk e => by
        rcases e with e | e
        · have := (okv.owns.lt k e).1; omega
        · have := (ovv.owns.lt k e).1; omega
      have HLOW := hide hlow
      have lt3 : Hid (B3 < B14 + 3 ∧ B7 < B14 + 3 ∧ Bt < B14 + 3 ∧ B4 < B14 + 3) := by
        have q3 := HG.out.b3.lt
        have q7 := HG.out.b7.lt
        have q4 := HG.out.b4.lt
        exact ⟨by omega, by omega, by omega, by omega⟩
      have j1 : (0 : Int) ≤ (pre.length : Int) := by omega
      have j2 : (pre.length : Int) < (Es.length : Int) := by omega
      have j3 : ¬ (Es.length : Int) ≤ (pre.length : Int) := by omega
      subst haw
      have HQ5 : Hid (∀ wz : World, Upd (fun k => (Value.slice ka ks.length kc).ownBlock = some k ∨ (Value.slice va vs.length vc).ownBlock = some k) W wz → Boxed wz B14 3 (.int .i64 (pre.length : Int)) ∧ Boxed wz Bt 3 (.int .i64 (turn : Int)) ∧ Boxed wz B3 3 (.int .i64 most) ∧ Boxed wz B7 26 (.slice (some ⟨bw, 0, none⟩) Es.length cw) ∧ Boxed wz B12 50 (.func (.func 50) #[] #[.pointer (some ⟨gb, 0, none⟩)]) ∧ wz.heap[l]? = some (.loop r) ∧ GW w wz len zs most g gb B3 B4 B7 B12 Es (some ⟨bw, 0, none⟩) bw cw) := fun wz hz => by
        have hs1 := HS1.out
        have l12 := HG.out.b12.lt
        have gz : GW w wz len zs most g gb B3 B4 B7 B12 Es (some ⟨bw, 0, none⟩) bw cw := (HB0.out wz (HUX.out.trans (hz.mono (fun k _ e => by
          by_cases hk : k < B14 + 3
          · exact absurd e (HLOW.out k hk)
          · omega)))).1
        exact ⟨boxed_upd HKB.out hz (HLOW.out _ (by omega)), boxed_upd hbtc hz (HLOW.out _ lt3.out.2.2.1), gz.b3, gz.b7, gz.b12, hz.heap HLR.out (HLOW.out _ (by omega)), gz⟩
      have HTN : Hid (∀ wz : World, Upd (fun k => (Value.slice ka ks.length kc).ownBlock = some k ∨ (Value.slice va vs.length vc).ownBlock = some k) W wz → ∀ z : Int, z = (pre.length : Int) + 1 → Upd (fun k => GR (fun k => k = B14) ⟨.slice ka ks.length kc, .slice va vs.length vc, ks, vs⟩ k ∧ k ≠ W1.heap.size ∧ k ≠ W1.heap.size + 1) W (wz.setCell ⟨B14, 0, none⟩ (.int .i64 z)) ∧ Boxed (wz.setCell ⟨B14, 0, none⟩ (.int .i64 z)) B14 3 (.int .i64 (((pre ++ [(⟨.slice ka ks.length kc, .slice va vs.length vc, ks, vs⟩ : GX)]).length : Nat) : Int)) ∧ Upd (fun k => B14 ≤ k) X (wz.setCell ⟨B14, 0, none⟩ (.int .i64 z))) := fun wz hz z hzz => by
        have hs1 := HS1.out
        have hz' : Upd (fun k => B14 < k) W wz := hz.mono (fun k _ e => by
          by_cases hk : k < B14 + 3
          · exact absurd e (HLOW.out k hk)
          · omega)
        refine ⟨(hz.mono (fun k _ e => ?_)).setCell _ _ (fun _ => ⟨.inr (.inr rfl), by show B14 ≠ _; omega, by show B14 ≠ _; omega⟩), ?_, (HUX.out.trans (hz'.mono (fun k _ e => by omega))).setCell _ _ (fun _ => Nat.le_refl _)⟩
        · by_cases hk : k < B14 + 3
          · exact absurd e (HLOW.out k hk)
          · exact ⟨e.elim .inl (fun e => .inr (.inl e)), by omega, by omega⟩
        · rw [List.length_append, List.length_singleton, show ((pre.length + 1 : Nat) : Int) = z by omega]
          exact (boxed_upd HKB.out hz (HLOW.out _ (by omega))).set _
      have hlB : Hid (l = B14 + 2) := by show _ = _; omega
      clear okv ovv hsep hUX hkb hlr hlow gw hux hu hu0 hk0 hrest e1 e2 rk rv eok hs1 hlq
      have hkmx : pre.length ≤ 64 := by have q := entS_len z8; rw [← HG.out.kv, kvs_len] at q; omega
      gi_wp2
      refine ⟨trivial, fun _ => by omega, (CallsIn.inRound l ((callsIn_wide (n := n - 1 - 1 - 1)).2 HS.out)).mono ?_⟩
      rintro e w2 ⟨rfl, m, hw2⟩
      have c7b : w2.cell? ⟨B7, 0, none⟩ = some (.slice (some ⟨bw, 0, none⟩) Es.length cw) := by rw [hw2]; exact c7
      have c14b : w2.cell? ⟨B14, 0, none⟩ = some (.int .i64 (pre.length : Int)) := by rw [hw2]; exact c14
      have d1b : w2.cell? ⟨bw, pre.length * 2 + 1, none⟩ = some (.slice en.va vs.length en.vc) := by rw [hw2]; exact d1
      have HV2 := hide (HV.out m)
      rw [← hw2] at HV2
      have U2 : Hid (Upd Noth W w2) := by rw [hw2]; exact Upd.of_below (below_of_drewN (Below.refl _ _) m) _
      clear hw2 HS HV c7 c14 d0 d1
      gi_wp2
      refine ⟨trivial, fun _ => by omega, (CallsIn.inRound l ((callsIn_wide (n := n - 1 - 1 - 1)).2 HV2.out)).mono ?_⟩
      rintro e w3 ⟨rfl, m3, hw3⟩
      have U3 : Hid (Upd Noth W w3) := by rw [hw3]; exact U2.out.trans (Upd.of_below (below_of_drewN (Below.refl _ _) m3) _)
      have HSP := hide (spoil_any (HOK.out.upd U3.out (fun _ _ e => e)))
      clear hw3 HV2 c7b c14b d1b
      gi_wp2
      refine ⟨trivial, fun _ => by omega, (CallsIn.inRound l ((callsIn_wide (n := n - 1 - 1 - 1)).2 HSP.out)).mono ?_⟩
      rintro e w4 ⟨rfl, hg4⟩
      have U4 : Hid (Upd (fun k => (Value.slice ka ks.length kc).ownBlock = some k) W w4) := U3.out.noth.trans (Upd.of_grown hg4 (fun k hk _ => hk))
      have HSV := hide (spoil_any (HOV.out.upd U4.out (fun k hk e => HSEP.out k e hk)))
      clear hg4 HSP
      gi_wp2
      refine ⟨trivial, fun _ => by omega, (CallsIn.inRound l ((callsIn_wide (n := n - 1 - 1 - 1)).2 HSV.out)).mono ?_⟩
      rintro e w5 ⟨rfl, hg5⟩
      have U5 : Hid (Upd (fun k => (Value.slice ka ks.length kc).ownBlock = some k ∨ (Value.slice va vs.length vc).ownBlock = some k) W w5) := (U4.out.mono (fun k _ e => .inl e)).trans (Upd.of_grown hg5 (fun k hk _ => .inr hk))
      obtain ⟨p14, p13, p3, p7, p12, pl, pg⟩ := HQ5.out w5 U5.out
      have c14 := p14.cell
      have f14 := p14.frozen
      have c13 := p13.cell
      have c3 := p3.cell
      have c7 := p7.cell
      clear hg5 HSV
      have HPL : Hid ((pre ++ [(⟨.slice ka ks.length kc, .slice va vs.length vc, ks, vs⟩ : GX)]).length = pre.length + 1) := by show _ = _; rw [List.length_append, List.length_singleton]
      by_cases hcase : pre.length = 0 ∧ turn = 0
      · obtain ⟨hp0, rfl⟩ := hcase
        have HP0 := hide hp0
        have hpn : ((pre.length : Nat) : Int) = 0 := by omega
        rw [hpn] at c14
        have c13' : w5.cell? ⟨Bt, 0, none⟩ = some (.int .i64 0) := c13
        have c12 := (p12.alloc (.cells #[.int .i64 0] 3)).cell
        have PG := hide pg
        have PL := hide pl
        clear pg pl c13 p14 p13 p3 p7 p12 c3 c7 f14 hp0 hpn
        gi_wp2
        rename_i Ka hKa Kb hKb
        obtain ⟨w6, hw6⟩ : ∃ w6, w5.alloc (.cells #[.int .i64 0] 3) = w6 := ⟨_, rfl⟩
        rw [hw6]
        obtain ⟨B18, hB18⟩ : ∃ B18, B18 = w5.heap.size := ⟨_, rfl⟩
        rw [← hB18]
        have u6 : Upd Noth w5 w6 := by rw [← hw6]; exact (Upd.refl _ _).alloc _
        have s6 : w6.heap.size = B18 + 1 := by rw [← hw6, hB18]; simp
        have b18 : Boxed w6 B18 3 (.int .i64 ((0 : Nat) : Int)) := by rw [← hw6, hB18]; exact Boxed.new w5 _ _
        have g6 : GW w w6 len zs most g gb B3 B4 B7 B12 Es (some ⟨bw, 0, none⟩) bw cw := PG.out.still (u6.mono (fun _ _ e => e.elim))
        have l6 : w6.heap[l]? = some (.loop r) := u6.heap PL.out (fun e => e)
        have hz5 : B14 < B18 := by rw [hB18]; exact World.block_lt_of_cell? w5 ⟨B14, 0, none⟩ c14
        have HS6 := hide s6
        have HB18 := hide hB18
        have HU6 := hide u6
        have lgb6 : gb < B18 := by omega
        have lg6 : g < B18 := by omega
        clear hw6 hB18 s6 c14 c13' c12
        refine nest_frame rfl rfl rfl rfl rfl rfl rfl rfl ?_
        intro f2
        refine wpIn_range_rn (l₀ := l) (r₀ := r) rfl l6 (by omega) (gf := 50) (lb := #[.pointer (some ⟨gb, 0, none⟩)]) rfl trivial (enters_of Try.func50 (by kernel_rfl) rfl)
          (SeqR.inRound l (all1_seq (n - 1 - 1 - 1) (by omega) (some ⟨g, 0, none⟩) len (len + 2) gb zs w6 hl (by omega) (by omega) (fun h => by cases h) g6.lent.row z8 g6.one (fun k => k = B18) (fun e => by omega) (fun y hy _ e => by cases hy; simp only at e; omega) (fun k e => by have := HS6.out; omega)))
          (fun _ => rfl) (fun pre x W1 W2 hd hu => hd.upd hu (fun k e => by omega))
          (fun pre W' => Boxed W' B18 3 (.int .i64 (pre.length : Int)) ∧ Upd (fun k => B18 ≤ k) w5 W')
          (fun c pre W' => False)
          (fun s A B ⟨h1, h2⟩ hu => ⟨boxed_upd h1 hu (by have := HS6.out; omega), h2.trans (hu.mono (fun k _ e => by have := HS6.out; omega))⟩)
          (fun c s A B h0 hu => h0)
          ⟨b18, u6.noth⟩
          (fun x => { tmps := #[f2 0, f2 1, f2 2, .pointer (some ⟨B3, 0, none⟩), .pointer (some ⟨B4, 0, none⟩), f2 5, f2 6, .pointer (some ⟨B7, 0, none⟩), f2 8, f2 9, f2 10, f2 11, f2 12, .pointer (some ⟨Bt, 0, none⟩), .pointer (some ⟨B14, 0, none⟩), f2 15, f2 16, f2 17, .pointer (some ⟨B18, 0, none⟩), f2 19, f2 20, f2 21, f2 22, f2 23, f2 24, f2 25, f2 26, f2 27, f2 28, f2 29, f2 30, f2 31, f2 32, f2 33, f2 34, f2 35, f2 36, f2 37, f2 38, f2 39, f2 40, f2 41, f2 42, f2 43, f2 44, f2 45, f2 46, f2 47, f2 48, f2 49, f2 50, f2 51, f2 52, f2 53, f2 54, f2 55, f2 56, f2 57, f2 58, f2 59, f2 60, f2 61, f2 62, f2 63, f2 64, f2 65, f2 66, f2 67, f2 68, f2 69, f2 70, f2 71, f2 72, .func (.func 50) #[] #[.pointer (some ⟨gb, 0, none⟩)], x.kv, x.vv, f2 76, f2 77, f2 78, f2 79, f2 80, f2 81, f2 82, f2 83, f2 84, f2 85, f2 86, f2 87, f2 88, f2 89, f2 90, f2 91, f2 92, f2 93, f2 94, f2 95, f2 96, f2 97, f2 98, f2 99, f2 100, f2 101, f2 102, f2 103, f2 104, f2 105, f2 106, f2 107], defers := [] }) ?nassign ?nbody ?ndone ?nstop
        case nassign =>
          intro l x W' K hK
          simp only [GX.enc]
          gi_wp2
          exact hK
        case nbody =>
          rintro l2 pre2 x2 V0 V hl2 hlr2 ⟨hk2, hu2⟩ hv2 ⟨⟨rest2, hrest2⟩, _, _, _⟩ hlt2
          have hs6 := HS6.out
          have hkb2 := boxed_upd hk2 hv2 (by omega)
          have c18 := hkb2.cell
          have f18 := hkb2.frozen
          have hp2 : pre2.length ≤ 64 := by
            have q := congrArg List.length hrest2
            have q2 := entS_len z8
            simp only [List.length_append, List.length_map, List.length_cons, List.length_nil] at q
            omega
          have HF : Hid (∀ z : Int, z = (pre2.length : Int) + 1 → Upd (fun k => GR (fun k => k = B18) x2 k ∧ k ≠ w6.heap.size) V (V.setCell ⟨B18, 0, none⟩ (.int .i64 z)) ∧ Boxed (V.setCell ⟨B18, 0, none⟩ (.int .i64 z)) B18 3 (.int .i64 ((pre2 ++ [x2]).length : Int)) ∧ Upd (fun k => B18 ≤ k) w5 (V.setCell ⟨B18, 0, none⟩ (.int .i64 z))) := fun z hz => by
            have hs6 := HS6.out
            refine ⟨(Upd.refl _ _).setCell _ _ (fun _ => ⟨.inr (.inr rfl), by show B18 ≠ _; omega⟩), ?_, (hu2.trans (hv2.mono (fun k _ e => by omega))).setCell _ _ (fun _ => Nat.le_refl _)⟩
            rw [List.length_append, List.length_singleton, show ((pre2.length + 1 : Nat) : Int) = z by omega]
            exact hkb2.set _
          clear hrest2 hs6 hl2 hlr2 hk2 hu2 hv2 hkb2
          gi_wp2
          exact HF.out _ rfl
        case ndone =>
          rintro xs V0 V1 V ⟨hk2, hu2⟩ hv1 hS hv2 hlt2
          have hs6 := HS6.out
          have hlen : xs.length = Es.length := by
            have q := congrArg List.length (show xs.map GX.kvp = (entS zs).l from hS)
            rw [← HG.out.kv, kvs_len, List.length_map] at q
            exact q
          have hkb2 := boxed_upd (boxed_upd hk2 hv1 (by omega)) hv2 (by omega)
          have hu5 : Upd (fun k => B18 ≤ k) w5 V := (hu2.trans (hv1.mono (fun k _ e => by omega))).trans (hv2.mono (fun k _ e => by omega))
          rw [hlen] at hkb2
          have U9 : Hid (Upd (fun k => (Value.slice ka ks.length kc).ownBlock = some k ∨ (Value.slice va vs.length vc).ownBlock = some k) W V) := U5.out.then hu5 (fun k hk e => by have := U5.out.size; have := HB18.out; omega)
          obtain ⟨p14, p13, p3, p7, p12, pl, pg⟩ := HQ5.out V U9.out
          have c18 := hkb2.cell
          have c7 := p7.cell
          have c14 := p14.cell
          have f14 := p14.frozen
          have hp0 := HP0.out
          rw [hp0, show ((0 : Nat) : Int) = 0 from rfl] at c14
          have c13 := p13.cell
          rw [show ((0 : Nat) : Int) = 0 from rfl] at c13
          have c3 := p3.cell
          have c14n := World.cell?_setCell_same V ⟨B14, 0, none⟩ (.int .i64 1) c14
          have c13n : (V.setCell ⟨B14, 0, none⟩ (.int .i64 1)).cell? ⟨Bt, 0, none⟩ = some (.int .i64 0) := (World.cell?_setCell_other _ _ _ _ (by intro h; have := congrArg Addr.block h; simp at this; omega)).trans c13
          have c3n : (V.setCell ⟨B14, 0, none⟩ (.int .i64 1)).cell? ⟨B3, 0, none⟩ = some (.int .i64 most) := (World.cell?_setCell_other _ _ _ _ (by intro h; have := congrArg Addr.block h; simp at this; have := HG.out.b3.lt; omega)).trans c3
          have HN := hide (HTN.out V U9.out 1 (by omega))
          clear hs6 hlen hkb2 hu5 p14 p13 p3 p7 p12 pl pg hp0 hk2 hu2 hv1 hS hv2 u6 g6 l6 b18
          refine hKb _ _ ?_
          dsimp only
          by_cases hmo : (1 : Int) = most
          · have t89 : ((1 : Int) == most) = true := by simp [hmo]
            have HMO := hide hmo
            clear hmo
            gi_wp2
            obtain ⟨q1, q2, q3⟩ := HN.out
            have hx : (((pre ++ [(⟨.slice ka ks.length kc, .slice va vs.length vc, ks, vs⟩ : GX)]).length : Nat) : Int) = most := by rw [HPL.out, HP0.out]; exact HMO.out
            refine ⟨q1.mono (fun _ _ e => e.2), ?_, q2, q3⟩
            exact ⟨rfl, hx⟩
          · have t89 : ((1 : Int) == most) = false := by simp [hmo]
            clear hmo
            gi_wp2
            exact HN.out
        case nstop =>
          rintro c pre2 V h
          exact h.elim
      · have HN := hide (HTN.out w5 U5.out _ rfl)
        clear p14 p13 p3 p7 p12 pl pg
        have c14n := World.cell?_setCell_same w5 ⟨B14, 0, none⟩ (.int .i64 ((pre.length : Int) + 1)) c14
        have c13n : (w5.setCell ⟨B14, 0, none⟩ (.int .i64 ((pre.length : Int) + 1))).cell? ⟨Bt, 0, none⟩ = some (.int .i64 (turn : Int)) := (World.cell?_setCell_other _ _ _ _ (by intro h; have := congrArg Addr.block h; simp at this; omega)).trans c13
        have c3n : (w5.setCell ⟨B14, 0, none⟩ (.int .i64 ((pre.length : Int) + 1))).cell? ⟨B3, 0, none⟩ = some (.int .i64 most) := (World.cell?_setCell_other _ _ _ _ (by intro h; have := congrArg Addr.block h; simp at this; have := HG.out.b3.lt; omega)).trans c3
        by_cases ht0 : turn = 0
        · subst ht0
          have hpp : pre.length ≠ 0 := fun e => hcase ⟨e, rfl⟩
          have t72 : ((pre.length : Int) == 0) = false := by rw [beq_eq_false_iff_ne]; omega
          rw [show ((0 : Nat) : Int) = 0 from rfl] at c13 c13n
          clear hcase hpp
          by_cases hmo : (pre.length : Int) + 1 = most
          · have t89 : ((pre.length : Int) + 1 == most) = true := by simp [hmo]
            have HMO := hide hmo
            clear hmo
            gi_wp2
            obtain ⟨q1, q2, q3⟩ := HN.out
            have hx : (((pre ++ [(⟨.slice ka ks.length kc, .slice va vs.length vc, ks, vs⟩ : GX)]).length : Nat) : Int) = most := by rw [HPL.out]; exact HMO.out
            refine ⟨q1.mono (fun _ _ e => e.2), ?_, q2, q3⟩
            exact ⟨rfl, hx⟩
          · have t89 : ((pre.length : Int) + 1 == most) = false := by simp [hmo]
            clear hmo
            gi_wp2
            exact HN.out
        · have t85 : ((turn : Int) == 0) = false := by rw [beq_eq_false_iff_ne]; omega
          clear hcase ht0
          by_cases hpp : pre.length = 0
          · have t72 : ((pre.length : Int) == 0) = true := by simp [hpp]
            clear hpp
            gi_wp2
            exact HN.out
          · have t72 : ((pre.length : Int) == 0) = false := by rw [beq_eq_false_iff_ne]; omega
            clear hpp
            gi_wp2
            exact HN.out
    case done =>
      rintro D xs W0 Wa Wb rfl ⟨hk, hu0⟩ hu1 hS hu2 hlt0 hDD
      have hs1 := HS1.out
      have hlen : xs.length = Es.length := by
        have q := congrArg List.length (show xs.map GX.kvp = (entS zs).l from hS)
        rw [← HG.out.kv, kvs_len, List.length_map] at q
        exact q
      exact HCONT.out _ xs.length Wb (boxed_upd (boxed_upd hk hu1 (by omega)) hu2 (by omega)) ((hu0.trans (hu1.mono (fun k _ e => by omega))).trans (hu2.mono (fun k _ e => by omega))) (.inl hlen) (by omega) hDD
    case stop =>
      rintro D c pre Wb rfl ⟨⟨rfl, h0, hm'⟩, hk, hu0⟩ hDD
      have hs1 := HS1.out
      exact wpIn_exit (inBlock_exit (HCONT.out _ pre.length Wb hk hu0 (.inr ⟨h0, hm'⟩) (by omega) hDD))

end Go.Proofs.Ythloaabdlciefaa
