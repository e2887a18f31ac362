/- Texts of one's own. -/
import Derived.Test.YtealejbfloacpaaGreatM25
import Derived.Test.YtealejbfloacpaaGreatM30
namespace Go.Proofs.YtealejbfloacpaaGreat
open Go.RowKit
set_option maxRecDepth 100000
def AS.unw (s : AS) : AS := ⟨s.nodes, s.root, s.sl.map fun x => (0, x.2)⟩
section
variable {s t : AS}
theorem unw_n (id : Int) : s.unw.n id = s.n id := by
 unfold AS.n AS.unw
 simp only
 generalize (id - 1).toNat = i
 rw [List.getD_eq_getElem?_getD, List.getD_eq_getElem?_getD, List.getElem?_map]
 cases s.sl[i]? <;> rfl
theorem unw_len : s.unw.sl.length = s.sl.length := by unfold AS.unw; simp
theorem unw_inn (id : Int) : s.unw.inn id ↔ s.inn id := AS.inn_of_len unw_len id
theorem unw_map : s.unw.map = s.map := by
 have h : ∀ (f : Nat) (met : List Int) (leaf : Bool) (id : Int) (acc : List (List Int × List Int)), s.unw.mapF f met leaf id acc = s.mapF f met leaf id acc := by
  intro f
  induction f with
  | zero => intros; rfl
  | succ f ih =>
   intro met leaf id acc
   rw [AS.mapF, AS.mapF, unw_n]
   simp only [unw_inn, ih]
 unfold AS.map
 rw [h, unw_len]
 rfl
theorem Gr.unw (h : Gr s t) : Gr s.unw t.unw :=
 ⟨h.root, by rw [unw_len, unw_len]; exact h.len, fun id hi => by rw [unw_n, unw_n]; exact h.lv id ((unw_inn id).1 hi), fun id hi hl => by rw [unw_n] at hl; rw [unw_n, unw_n]; exact h.cs id ((unw_inn id).1 hi) hl, fun id hi => by simp only [unw_n]; exact h.ri id ((unw_inn id).1 hi)⟩
theorem lk_gr (h : Gr s t) : ∀ (c : Chn) (id : Int) (low : List Int) (c' : Chn), Lk s id low c → (∀ x ∈ c, s.inn x.1) → Lk t id low c' → ∀ x ∈ c, x ∈ c'
 | [], _, _, _, hk, _, _ => hk.elim
 | y :: c, id, low, c', hk, hin, hk' => by
  obtain ⟨r', rfl⟩ := hk'.head
  obtain ⟨rfl, h2⟩ := hk
  intro x hx
  rcases List.mem_cons.1 hx with rfl | hx
  ·exact List.mem_cons_self
  refine List.mem_cons_of_mem _ ?_
  rcases h2 with ⟨_, rfl⟩ | ⟨hri, h3⟩
  ·cases hx
  have hid := hin _ List.mem_cons_self
  have hin' : ∀ x ∈ c, s.inn x.1 := fun x hx => hin x (List.mem_cons_of_mem _ hx)
  rcases h.ri id hid with ⟨e1, e2⟩ | ⟨e0, e1, e2⟩
  ·rcases hk'.2 with ⟨e3, _⟩ | ⟨_, h4⟩
   ·rw [e2] at e3; exact absurd e3 hri
   ·rw [e1, e2] at h4
    exact lk_gr h c _ _ _ h3 hin' h4 x hx
  ·rcases hk'.2 with ⟨e3, _⟩ | ⟨_, h4⟩
   ·exact absurd e3 e0
   ·obtain ⟨r2, rfl⟩ := h4.head
    refine List.mem_cons_of_mem _ ?_
    rcases h4.2 with ⟨e3, _⟩ | ⟨_, h5⟩
    ·rw [e2] at e3; exact absurd e3 hri
    ·rw [e1, e2] at h5
     exact lk_gr h c _ _ _ h3 hin' h5 x hx
theorem lv_gr (h : Gr s t) {ck : NP → Int} : ∀ (ls : List Chn) (lev id : Int) (up up' : Chn) (ls' : List Chn), Lv s ck lev id up ls → (∀ c ∈ ls, ∀ x ∈ c, s.inn x.1) → Lv t ck lev id up' ls' → ∀ c ∈ ls, ∀ x ∈ c, ∃ c' ∈ ls', x ∈ c'
 | [], _, _, _, _, _, hl, _, _ => hl.elim
 | c :: r, lev, id, up, up', ls', hl, hin, hl' => by
  cases ls' with
  | nil => exact hl'.elim
  | cons c' r' =>
   obtain ⟨g1, g2, _, g4⟩ := hl
   obtain ⟨k1, k2, _, k4⟩ := hl'
   intro d hd x hx
   rcases List.mem_cons.1 hd with rfl | hd2
   ·exact ⟨c', List.mem_cons_self, lk_gr h _ _ _ _ g1 (hin _ List.mem_cons_self) k1 x hx⟩
   ·rcases g4 with ⟨_, rfl⟩ | ⟨hlev, h5⟩
    ·cases hd2
    ·rcases k4 with ⟨e, _⟩ | ⟨_, k5⟩
     ·exact absurd e hlev
     ·obtain ⟨q, rfl⟩ := g1.head
      obtain ⟨q', rfl⟩ := k1.head
      have hid : s.inn id := hin _ List.mem_cons_self _ List.mem_cons_self
      have hlv := g2.lv _ List.mem_cons_self
      have e : t.first ((id, []) :: q') = s.first ((id, []) :: q) := by
       unfold AS.first
       exact h.cs id hid (by rw [hlv]; exact hlev)
      rw [e] at k5
      obtain ⟨c2, h6, h7⟩ := lv_gr h r _ _ _ _ r' h5 (fun c hc => hin c (List.mem_cons_of_mem _ hc)) k5 d hd2 x hx
      exact ⟨c2, List.mem_cons_of_mem _ h6, h7⟩
def On (s : AS) (key : List Int) (id : Int) : Prop := ∃ ls, Snd s 60 64 64 1 1 ls ∧ ∃ c ∈ ls, ∃ low, (id, low) ∈ c ∧ 0 ≤ cmpI key low
theorem On.gr (h : Gr s t) {key : List Int} {id : Int} (ho : On s key id) {ls' : List Chn} (hs : Snd t 60 64 64 1 1 ls') : On t key id := by
 obtain ⟨ls, h1, c, hc, low, hm, hlow⟩ := ho
 have hr : s.inn s.root := by
  have hl := h1.lv
  have hi := h1.in_
  cases ls with
  | nil => exact hl.elim
  | cons c r =>
   obtain ⟨q, rfl⟩ := hl.1.head
   exact hi _ List.mem_cons_self _ List.mem_cons_self
 have hr' : t.inn t.root := by
  have hl := hs.lv
  have hi := hs.in_
  cases ls' with
  | nil => exact hl.elim
  | cons c r =>
   obtain ⟨q, rfl⟩ := hl.1.head
   exact hi _ List.mem_cons_self _ List.mem_cons_self
 have hl' := hs.lv
 have e1 : (t.rd t.root).lv = (s.rd s.root).lv := by
  rw [show t.rd t.root = t.n t.root from if_pos hr', show s.rd s.root = s.n s.root from if_pos hr, h.root]
  exact h.lv _ hr
 rw [e1, h.root] at hl'
 obtain ⟨c', h2, h3⟩ := lv_gr h ls _ _ _ _ ls' h1.lv h1.in_ hl' c hc _ hm
 exact ⟨ls', hs, c', h2, low, h3, hlow⟩
theorem On.root {key : List Int} {ls : List Chn} (hs : Snd s 60 64 64 1 1 ls) : On s key s.root := by
 have hl := hs.lv
 cases ls with
 | nil => exact hl.elim
 | cons c r =>
  obtain ⟨q, rfl⟩ := hl.1.head
  exact ⟨_, hs, _, List.mem_cons_self, [], List.mem_cons_self, cmp_nil_le key⟩
theorem Lv.at_ {ck : NP → Int} : ∀ (ls : List Chn) (lev id : Int) (up : Chn), Lv s ck lev id up ls → ∀ c ∈ ls, ∃ i l, Lk s i [] c ∧ ChnOk s ck l c ∧ ((l = 0 ∧ c = ls.getLastD []) ∨ (l ≠ 0 ∧ ∃ d ∈ ls, ∀ x ∈ c, s.kidsOk d x))
 | [], _, _, _, h => h.elim
 | c :: r, lev, id, up, h => by
  obtain ⟨g1, g2, _, g4⟩ := h
  intro d hd
  rcases g4 with ⟨rfl, rfl⟩ | ⟨hlev, h5⟩
  ·rcases List.mem_cons.1 hd with rfl | hd
   ·exact ⟨id, 0, g1, g2, .inl ⟨rfl, rfl⟩⟩
   ·cases hd
  ·rcases List.mem_cons.1 hd with rfl | hd
   ·refine ⟨id, lev, g1, g2, .inr ⟨hlev, ?_⟩⟩
    cases r with
    | nil => exact h5.elim
    | cons e r => exact ⟨e, List.mem_cons_of_mem _ List.mem_cons_self, h5.2.2.1⟩
   ·obtain ⟨i, l, h1, h2, h3⟩ := Lv.at_ r _ _ _ h5 d hd
    refine ⟨i, l, h1, h2, ?_⟩
    have e : (c :: r).getLastD [] = r.getLastD [] := by
     cases r with
     | nil => exact h5.elim
     | cons d r => simp [List.getLastD_eq_getLast?]
    rcases h3 with ⟨h4, h6⟩ | ⟨h4, d', h6, h7⟩
    ·exact .inl ⟨h4, by rw [e]; exact h6⟩
    ·exact .inr ⟨h4, d', List.mem_cons_of_mem _ h6, h7⟩
theorem On.right {key : List Int} {id : Int} (ho : On s key id) (hb : beyB (s.n id).hi key = true) : On s key (s.n id).ri := by
 obtain ⟨ls, h1, c, hc, low, hm, hlow⟩ := ho
 obtain ⟨i, l, k1, k2, _⟩ := Lv.at_ _ _ _ _ h1.lv c hc
 obtain ⟨a, r, e, hk⟩ := Lk.suf c _ _ k1 _ hm
 simp only at hk
 obtain ⟨r2, rfl⟩ := hk.head
 unfold beyB at hb
 simp only [Bool.and_eq_true, decide_eq_true_eq] at hb
 have f1 := (nchk_more (k2.ck _ hm)).1
 simp only at f1
 have hri : (s.n id).ri ≠ 0 := fun e => by have := f1.2 e; omega
 rcases hk.2 with h | h
 ·exact absurd h.1 hri
 ·obtain ⟨r3, rfl⟩ := h.2.head
  exact ⟨ls, h1, c, hc, (s.n id).hi, by rw [e]; simp, hb.2⟩
theorem On.down {key : List Int} {id : Int} (ho : On s key id) (hl : (s.n id).lv ≠ 0) : On s key (chiN (s.n id).ks (s.n id).cs key) := by
 obtain ⟨ls, h1, c, hc, low, hm, hlow⟩ := ho
 obtain ⟨i, l, k1, k2, k3⟩ := Lv.at_ _ _ _ _ h1.lv c hc
 have hlv := k2.lv _ hm
 obtain ⟨f1, f2, f3, f4, f5⟩ := nchk_more (k2.ck _ hm)
 simp only at hlv f1 f2 f3 f4 f5
 rcases k3 with ⟨h0, _⟩ | ⟨h0, d, hd, hk⟩
 ·rw [h0] at hlv; exact absurd hlv hl
 have hcs := f3 hl
 have hcl := cntL_le (s.n id).ks key
 have hj : min (cntL (s.n id).ks key) ((s.n id).cs.length - 1) = cntL (s.n id).ks key := by omega
 have hy := hk _ hm (cntL (s.n id).ks key) (by simp only; omega)
 have hch : chiN (s.n id).ks (s.n id).cs key = (s.kidAt (id, low) (cntL (s.n id).ks key)).1 := by
  unfold chiN AS.kidAt
  rw [if_neg (by omega), hj]
 have hlo2 : 0 ≤ cmpI key (s.kidAt (id, low) (cntL (s.n id).ks key)).2 := by
  unfold AS.kidAt
  simp only
  by_cases hz : cntL (s.n id).ks key = 0
  ·rw [if_pos hz]; exact hlow
  ·rw [if_neg hz]
   exact cntL_at f5.rs (by omega)
 rw [hch]
 exact ⟨ls, h1, d, hd, (s.kidAt (id, low) (cntL (s.n id).ks key)).2, hy, hlo2⟩
theorem On.val {key : List Int} {id : Int} (ho : On s key id) (hl : (s.n id).lv = 0) (hb : beyB (s.n id).hi key = false) : mapV s.map key = if isIn (s.n id).ks key = true then some (gVal (s.n id) key) else none := by
 obtain ⟨ls, h1, c, hc, low, hm, hlow⟩ := ho
 obtain ⟨i, l, k1, k2, k3⟩ := Lv.at_ _ _ _ _ h1.lv c hc
 have hlv := k2.lv _ hm
 simp only at hlv
 rcases k3 with ⟨_, e⟩ | ⟨h0, _⟩
 ·rw [e] at hm
  exact map_val h1 (x := (id, low)) hm hb hlow
 ·omega
end
structure GI (s : AS) (g : GS) (M : Nat) : Prop where
 ti : TI s g.m M
 on : 1 ≤ g.m.nx → g.m.nx ≤ 4 → On s.unw g.m.key g.m.id
 op : g.thr = false → g.err = 0 ∧ g.m.nx ≤ 4
 lev : g.m.lev = 0
section
variable {s t : AS} {g : GS} {M : Nat}
theorem GI.new (s : AS) (key : List Int) (M : Nat) : GI s (GS.new key) M := ⟨TI.new s key 0 M, fun h => absurd h (by simp [GS.new, MS.new]), fun _ => ⟨rfl, by simp [GS.new, MS.new]⟩, rfl⟩
theorem GI.mono {M' : Nat} (h : GI s g M) (hM : M ≤ M') : GI s g M' := ⟨h.ti.mono hM, h.on, h.op, h.lev⟩
theorem GI.turn {kd : Int} {ls : List Chn} (h : GI s g M) (hx : TX kd true s t) (h1 : 1 ≤ kd) (h5 : kd ≤ 5) (hs : Snd t.unw 60 64 64 1 1 ls) : GI t g (M + 4) := by
 refine ⟨⟨h.ti.le, fun e => ?_, fun e => ?_, fun e => ?_, h.ti.e, h.ti.f⟩, fun a b => (h.on a b).gr (hx.gr h1 h5).unw hs, h.op, h.lev⟩
 ·obtain ⟨n0, a1, a2, a3⟩ := h.ti.a e; exact ⟨n0, hx.sn rfl _ _ _ _ _ a2 a3 a1, a2, a3⟩
 ·obtain ⟨n0, a1, a2, a3⟩ := h.ti.b e; exact ⟨n0, hx.sn rfl _ _ _ _ _ a2 a3 a1, a2, a3⟩
 ·obtain ⟨n0, a1, a2, a3⟩ := h.ti.c e; exact ⟨n0, hx.sn rfl _ _ _ _ _ a2 a3 a1, a2, a3⟩
theorem on_step {m : MS} {ls : List Chn} (hti : TI s m M) (hlev : m.lev = 0) (hle : m.nx ≤ 4) (hon : 1 ≤ m.nx → m.nx ≤ 4 → On s.unw m.key m.id) (hs : Snd s.unw 60 64 64 1 1 ls) (hM : M < 18446744073709551616) : (1 ≤ (m.step s).nx → (m.step s).nx ≤ 5 → On s.unw m.key (m.step s).id) := by
 obtain ⟨key, lev, nx, id, wd, nd, an, mo⟩ := m
 simp only at hlev hle hon
 match nx, hle with
 | 0, _ =>
  intro _ _
  have : (MS.step ⟨key, lev, 0, id, wd, nd, an, mo⟩ s).id = s.root := rfl
  rw [this]
  exact On.root hs
 | 1, _ =>
  have h := hon (Nat.le_refl _) (by omega)
  intro _ h2
  have : (MS.step ⟨key, lev, 1, id, wd, nd, an, mo⟩ s).id = id := by
   revert h2
   simp only [MS.step, MS.fail]
   simp
   repeat' split
   all_goals simp
  rw [this]; exact h
 | 2, _ =>
  have h := hon (by omega) (by omega)
  intro _ h2
  have : (MS.step ⟨key, lev, 2, id, wd, nd, an, mo⟩ s).id = id := by
   revert h2
   simp only [MS.step, MS.fail]
   simp
   repeat' split
   all_goals simp
  rw [this]; exact h
 | 3, _ =>
  have h := hon (by omega) (by omega)
  intro _ h2
  have : (MS.step ⟨key, lev, 3, id, wd, nd, an, mo⟩ s).id = id := by
   revert h2
   simp only [MS.step, MS.fail]
   simp
   repeat' split
   all_goals simp
  rw [this]; exact h
 | 4, _ =>
  have h := hon (by omega) (by omega)
  obtain ⟨n0, g1, g2, g3⟩ := hti.c rfl
  simp only at g1 g2 g3
  have hin := g1.inn
  intro h1 h2
  revert h1 h2
  simp only [MS.step]
  simp
  simp only [hin, if_true]
  unfold MS.valid
  simp only
  by_cases hq : s.w id = wd
  ·rw [if_pos hq]
   obtain ⟨e1, e2⟩ := g1.now hM g3 hq
   have e3 : nd = s.unw.n id := by rw [unw_n, e2, e1]
   unfold MS.choose
   simp only
   by_cases c1 : nd.lv < lev
   ·rw [if_pos c1]; simp [MS.fail]
   rw [if_neg c1]
   by_cases c2 : beyB nd.hi key = true
   ·rw [if_pos c2]
    intro _ _
    rw [e3] at c2 ⊢
    exact h.right c2
   rw [if_neg c2]
   by_cases c3 : nd.lv = lev
   ·rw [if_pos c3]
    intro _ _
    exact h
   ·rw [if_neg c3]
    intro _ _
    rw [hlev, e3] at c3
    simp only [MS.goTo, e3]
    exact h.down c3
  ·rw [if_neg hq]; simp
theorem GI.step {ls : List Chn} (h : GI s g M) (hw : ∀ k, s.inn k → s.w k < 18446744073709551616) (hM : M < 18446744073709551616) (hs : Snd s.unw 60 64 64 1 1 ls) :
  GI s (g.step s) M ∧ (g.took s = true → (kOk g.m.key → (g.step s).err = 0 ∧ (g.step s).the = (mapV s.map g.m.key).isSome ∧ (g.step s).val = (mapV s.map g.m.key).getD []) ∧ (¬ kOk g.m.key → (g.step s).err = 3 ∧ (g.step s).the = g.the)) ∧ (g.step s).m.key = g.m.key := by
 by_cases hth : g.thr = true
 ·have e1 : g.step s = g := by unfold GS.step; rw [if_pos hth]
  have e2 : g.took s = false := by unfold GS.took; rw [if_pos hth]
  rw [e1, e2]
  exact ⟨h, (fun e => by cases e), rfl⟩
 have hth' : g.thr = false := by simpa using hth
 obtain ⟨hop1, hop2⟩ := h.op hth'
 by_cases hk : kOk g.m.key
 case neg =>
  have e1 : g.step s = ⟨g.m, true, g.val, g.the, 3⟩ := by unfold GS.step; rw [if_neg hth, if_pos hk]
  rw [e1]
  exact ⟨⟨h.ti, h.on, (fun e => by cases e), h.lev⟩, fun _ => ⟨fun e => absurd e hk, fun _ => ⟨rfl, rfl⟩⟩, rfl⟩
 obtain ⟨t1, t2, t3, t4⟩ := h.ti.step hw hM
 have hon := on_step h.ti h.lev hop2 h.on hs hM
 by_cases hnx : 5 ≤ (g.m.step s).nx
 case neg =>
  have e1 : g.step s = ⟨g.m.step s, false, g.val, g.the, g.err⟩ := by unfold GS.step; rw [if_neg hth, if_neg (fun e => e hk), if_pos hnx]
  have e2 : g.took s = false := by unfold GS.took; rw [if_neg hth, if_neg (fun e => e hk), if_pos hnx]
  rw [e1, e2]
  exact ⟨⟨t1, fun a b => by simp only; rw [t3]; exact hon a (by omega), fun _ => ⟨hop1, by simp only; omega⟩, t4.trans h.lev⟩, (fun e => by cases e), t3⟩
 by_cases hid : (g.m.step s).id = 0
 ·have e1 : g.step s = ⟨g.m.step s, true, g.val, g.the, 101⟩ := by unfold GS.step; rw [if_neg hth, if_neg (fun e => e hk), if_neg (fun e => e hnx), if_pos hid]
  have e2 : g.took s = false := by unfold GS.took; rw [if_neg hth, if_neg (fun e => e hk), if_neg (fun e => e hnx), hid]; rfl
  rw [e1, e2]
  exact ⟨⟨t1, fun a b => absurd hnx (by simp only at b; omega), fun e => (by cases e), t4.trans h.lev⟩, (fun e => by cases e), t3⟩
 ·have e1 : g.step s = ⟨g.m.step s, true, gVal (g.m.step s).nd g.m.key, isIn (g.m.step s).nd.ks g.m.key, g.err⟩ := by unfold GS.step; rw [if_neg hth, if_neg (fun e => e hk), if_neg (fun e => e hnx), if_neg hid]
  have h5 : (g.m.step s).nx = 5 := by
   have := t1.le
   by_cases e : (g.m.step s).nx = 6
   ·exact absurd (t1.f e) hid
   ·omega
  have hnow := t2 (by omega) h5
  have hv := (hon (by omega) (by omega)).val (by rw [unw_n, ← hnow.n, hnow.lv, t4, h.lev]) (by rw [unw_n, ← hnow.n, ← t3]; exact hnow.bey)
  rw [unw_map, unw_n, ← hnow.n] at hv
  rw [e1]
  refine ⟨⟨t1, fun a b => absurd hnx (by simp only at b; omega), fun e => (by cases e), t4.trans h.lev⟩, fun _ => ⟨fun _ => ?_, fun e => absurd hk e⟩, t3⟩
  rw [hv]
  by_cases hi : isIn (g.m.step s).nd.ks g.m.key = true
  ·rw [if_pos hi]
   exact ⟨hop1, hi, rfl⟩
  ·rw [if_neg hi]
   refine ⟨hop1, by simpa using hi, ?_⟩
   show gVal (g.m.step s).nd g.m.key = []
   unfold gVal
   rw [if_neg hi]
end
end Go.Proofs.YtealejbfloacpaaGreat
namespace Go.Proofs.YtealejbfloacpaaGreat
open Go.RowKit
set_option maxRecDepth 100000
def gptV (p : Nat) : Value := .pointer (some ⟨p, 0, none⟩)
def pqT (x : Nat × Tx) : List Value := [gptV x.1, .pointer none, x.2.v]
theorem gown_upd {S : Nat → Prop} {w w' : World} {base size : Nat} {e : TypeId} {v : Value} {n : Nat} {xs : List Value} (h : w.ownsRow base e size v n xs) (hu : Upd S w w') (hs : ∀ k, v.ownBlock = some k → ¬ S k) : w'.ownsRow base e size v n xs :=
 owns_blkN h (fun k hk => hu.block k (h.lt k hk).2 (hs k hk))
theorem AW.turnG {K K' S : Nat → Prop} {W W' : World} {P AX AY : Nat} {s t : AS} (h : AW K W P AX AY s t) (hu : Upd S W W') (hs : ∀ k, S k → K k) (hp : ¬ S P) (h1 : ∀ k, K' k → K k ∨ (W.heap.size ≤ k ∧ k < W'.heap.size)) (h2 : K' P) : AW K' W' P AX AY s t := by
 obtain ⟨FX, FY, a1, a2, a3, a4, a5, a6, a7⟩ := h
 refine ⟨FX, FY, hu.heap a1 hp, a2.upd hu (fun k hk e => a5 k (.inl hk) (hs k e)), a3.upd hu (fun k hk e => a5 k (.inr hk) (hs k e)), a4, fun k hk hk' => ?_, h2, fun k hk => ?_⟩
 ·rcases h1 k hk' with h | h
  ·exact a5 k hk h
  ·rcases hk with hk | hk
   ·have := a2.lt k hk; omega
   ·have := a3.lt k hk; omega
 ·rcases h1 k hk with h | h
  ·exact Nat.lt_of_lt_of_le (a7 k h) hu.size
  ·exact h.2
def labG (lab : Nat → Nat) (W W' : World) (t : Nat) (k : Nat) : Nat := if W.heap.size ≤ k ∧ k < W'.heap.size then t else lab k
theorem labG_old {lab : Nat → Nat} {W W' : World} {t x : Nat} (h : x < W.heap.size) : labG lab W W' t x = lab x := if_neg (by omega)
theorem labG_new {lab : Nat → Nat} {W W' : World} {t x : Nat} (h : W.heap.size ≤ x) (h' : x < W'.heap.size) : labG lab W W' t x = t := if_pos ⟨h, h'⟩
def MchG (W : World) (AX : Nat) (lab : Nat → Nat) (t P : Nat) (g : GS) : Prop := ∃ p kt vt D, GP W P AX p kt vt D g ∧ lab P = t ∧ ∀ x, D x → lab x = t
theorem MchG.upd {S : Nat → Prop} {W W' : World} {AX : Nat} {lab lab' : Nat → Nat} {t P : Nat} {g : GS} (h : MchG W AX lab t P g) (hu : Upd S W W') (hs : ∀ x, x < W.heap.size → lab x = t → ¬ S x) (hl : ∀ x, x < W.heap.size → lab' x = lab x) : MchG W' AX lab' t P g := by
 obtain ⟨p, kt, vt, D, h1, h2, h3⟩ := h
 have hP := lt_of_block h1.c
 refine ⟨p, kt, vt, D, h1.upd hu (fun x hx => ?_), by rw [hl P hP]; exact h2, fun x hx => by rw [hl x (h1.lt x hx)]; exact h3 x hx⟩
 rcases hx with rfl | hx
 ·exact hs _ hP h2
 ·exact hs x (h1.lt x hx) (h3 x hx)
structure GT (w0 : World) (K : Nat → Prop) (lab : Nat → Nat) (c : Nat) (W : World) (P AX AY : Nat) (s : AS) (L : List (Nat × GS)) (v6 : Value) (Q : List (Nat × Tx)) : Prop where
 aw : AW K W P AX AY s s
 bw : Below w0.heap.size w0 W
 kb : ∀ k, k < w0.heap.size → K k
 lz : ∀ k, W.heap.size ≤ k → lab k = 0
 lk : ∀ k, lab k ≠ 0 → K k
 lb : ∀ k, lab k ≠ 0 → w0.heap.size ≤ k
 lp : lab P = 0
 r6 : W.ownsRow w0.heap.size 67 3 v6 Q.length (Q.flatMap pqT)
 l6 : ∀ k, v6.ownBlock = some k → lab k = 1
 mx : ∀ i (h : i < L.length), MchG W AX lab (i + 4) L[i].1 L[i].2
 cn : ∀ x ∈ L, x.2.m.an ≤ c ∧ x.2.m.mo ≤ c
section
variable {w0 : World} {K : Nat → Prop} {lab : Nat → Nat} {c : Nat} {W W' : World} {P AX AY : Nat} {s s' : AS} {L : List (Nat × GS)} {v6 : Value} {Q : List (Nat × Tx)}
theorem GT.plt (h : GT w0 K lab c W P AX AY s L v6 Q) : P < W.heap.size := h.aw.klt P h.aw.kp
theorem GT.llt (h : GT w0 K lab c W P AX AY s L v6 Q) {k : Nat} (hk : lab k ≠ 0) : k < W.heap.size := Decidable.byContradiction fun hc => hk (h.lz k (by omega))
theorem GT.raw (h : GT w0 K lab c W P AX AY s L v6 Q) (ha : AW K W' P AX AY s' s') (hu : Upd (fun k => ¬ K k) W W') : GT w0 K lab c W' P AX AY s' L v6 Q := by
 have hne : ∀ t, t ≠ 0 → ∀ x, x < W.heap.size → lab x = t → ¬ ¬ K x := fun t ht x _ e hn => hn (h.lk x (by omega))
 exact ⟨ha, h.bw.trans (hu.below h.bw.size (fun k hk e => e (h.kb k hk))), h.kb, fun k hk => h.lz k (Nat.le_trans hu.size hk), h.lk, h.lb, h.lp, gown_upd h.r6 hu (fun k hk e => e (h.lk k (by rw [h.l6 k hk]; decide))), h.l6, fun i hi => (h.mx i hi).upd hu (hne _ (by omega)) (fun _ _ => rfl), h.cn⟩
theorem GT.below (h : GT w0 K lab c W P AX AY s L v6 Q) (hb : Below W.heap.size W W') : GT w0 K lab c W' P AX AY s L v6 Q := by
 have hu : Upd Noth W W' := Upd.of_below hb _
 exact ⟨h.aw.below hb, h.bw.trans (hb.mono h.bw.size), h.kb, fun k hk => h.lz k (Nat.le_trans hb.size hk), h.lk, h.lb, h.lp, gown_upd h.r6 hu (fun _ _ e => e), h.l6, fun i hi => (h.mx i hi).upd hu (fun _ _ _ e => e) (fun _ _ => rfl), h.cn⟩
theorem GT.less {c' : Nat} (h : GT w0 K lab c W P AX AY s L v6 Q) (hc : c ≤ c') : GT w0 K lab c' W P AX AY s L v6 Q :=
 ⟨h.aw, h.bw, h.kb, h.lz, h.lk, h.lb, h.lp, h.r6, h.l6, h.mx, fun x hx => by have := h.cn x hx; omega⟩
theorem GT.turn {t c' : Nat} {L' : List (Nat × GS)} {v6' : Value} {Q' : List (Nat × Tx)} (h : GT w0 K lab c W P AX AY s L v6 Q) (hu : Upd (fun k => lab k = t) W W') (ht : t ≠ 0)
  (r6 : W'.ownsRow w0.heap.size 67 3 v6' Q'.length (Q'.flatMap pqT)) (l6 : ∀ k, v6'.ownBlock = some k → labG lab W W' t k = 1)
  (mx : ∀ i (h : i < L'.length), MchG W' AX (labG lab W W' t) (i + 4) L'[i].1 L'[i].2) (hcn : ∀ x ∈ L', x.2.m.an ≤ c' ∧ x.2.m.mo ≤ c') :
  GT w0 (fun k => K k ∨ (W.heap.size ≤ k ∧ k < W'.heap.size)) (labG lab W W' t) c' W' P AX AY s L' v6' Q' := by
 have hb0 := h.bw.size
 refine ⟨h.aw.turnG hu (fun k e => h.lk k (by omega)) (fun e => ht (by rw [← e]; exact h.lp)) (fun _ hk => hk) (.inl h.aw.kp), h.bw.trans (hu.below h.bw.size (fun k hk e => by have := h.lb k (by omega); omega)), fun k hk => .inl (h.kb k hk), ?_, ?_, ?_, ?_, r6, l6, mx, hcn⟩
 ·intro k hk
  unfold labG
  rw [if_neg (by omega)]
  exact h.lz k (Nat.le_trans hu.size hk)
 ·intro k hk
  unfold labG at hk
  by_cases hn : W.heap.size ≤ k ∧ k < W'.heap.size
  ·exact .inr hn
  ·rw [if_neg hn] at hk; exact .inl (h.lk k hk)
 ·intro k hk
  unfold labG at hk
  by_cases hn : W.heap.size ≤ k ∧ k < W'.heap.size
  ·omega
  ·rw [if_neg hn] at hk; exact h.lb k hk
 ·rw [labG_old h.plt]; exact h.lp
theorem GT.old6 (h : GT w0 K lab c W P AX AY s L v6 Q) {t : Nat} : ∀ k, v6.ownBlock = some k → labG lab W W' t k = 1 := fun k hk => by
 have := h.l6 k hk
 rw [labG_old (h.llt (by omega))]; exact this
theorem GT.oldM (h : GT w0 K lab c W P AX AY s L v6 Q) {t : Nat} (hu : Upd (fun k => lab k = t) W W') (i : Nat) (hi : i < L.length) (hne : i + 4 ≠ t) : MchG W' AX (labG lab W W' t) (i + 4) L[i].1 L[i].2 :=
 (h.mx i hi).upd hu (fun x _ hx e => by omega) (fun x hx => labG_old hx)
def StpG (w0 : World) (c P AX AY : Nat) (s : AS) (L : List (Nat × GS)) (v6 : Value) (Q : List (Nat × Tx)) (w' : World) : Prop := ∃ K' lab', GT w0 K' lab' c w' P AX AY s L v6 Q
theorem GT.push {g cap : Nat} (h : GT w0 K lab c W P AX AY s L v6 Q) (x : Nat × Tx) (ho : W'.ownsRow w0.heap.size 67 3 (.slice (some ⟨g, 0, none⟩) (Q.length + 1) cap) (Q.length + 1) (Q.flatMap pqT ++ pqT x)) (hg : W.grownBy W' v6.ownBlock) (hor : v6.ownBlock = some g ∨ W.heap.size ≤ g) : StpG w0 c P AX AY s L (.slice (some ⟨g, 0, none⟩) (Q.length + 1) cap) (Q ++ [x]) W' := by
 have hu : Upd (fun k => lab k = 1) W W' := Upd.of_grown hg (fun k hk _ => h.l6 k hk)
 refine ⟨_, _, h.turn hu (by decide) (by rw [List.length_append, List.flatMap_append, List.flatMap_singleton]; exact ho) (fun k hk => ?_) (fun i hi => h.oldM hu i hi (by omega)) h.cn⟩
 have e : g = k := by simpa [Value.ownBlock] using hk
 subst e
 rcases hor with h1 | h1
 ·rw [labG_old (h.llt (by rw [h.l6 g h1]; decide))]; exact h.l6 g h1
 ·exact labG_new h1 (ho.lt g rfl).2
theorem GT.add {P' p : Nat} {kt vt : Tx} {D : Nat → Prop} {g : GS} (h : GT w0 K lab c W P AX AY s L v6 Q) (hb : Below W.heap.size W W') (hm : GP W' P' AX p kt vt D g) (hp : W.heap.size ≤ P') (hD : ∀ x, D x → W.heap.size ≤ x) (hc : g.m.an ≤ c ∧ g.m.mo ≤ c) : StpG w0 c P AX AY s (L ++ [(P', g)]) v6 Q W' := by
 have hu : Upd (fun k => lab k = L.length + 4) W W' := Upd.of_below hb _
 refine ⟨_, _, h.turn hu (by omega) (gown_upd h.r6 hu (fun k hk e => by have := h.l6 k hk; omega)) h.old6 (fun i hi => ?_) (fun x hx => ?_)⟩
 ·rw [List.length_append, List.length_singleton] at hi
  by_cases e : i < L.length
  ·rw [List.getElem_append_left e]
   exact h.oldM hu i e (by omega)
  ·obtain rfl : i = L.length := by omega
   rw [List.getElem_append_right (Nat.le_refl _)]
   simp only [Nat.sub_self, List.getElem_cons_zero]
   exact ⟨p, kt, vt, D, hm, labG_new hp (lt_of_block hm.c), fun x hx => labG_new (hD x hx) (hm.lt x hx)⟩
 ·rcases List.mem_append.1 hx with hx | hx
  ·exact h.cn x hx
  ·rw [List.mem_singleton] at hx
   subst hx
   exact hc
theorem gs_cnt (g : GS) (s : AS) : (g.step s).m.an ≤ g.m.an + 1 ∧ (g.step s).m.mo ≤ g.m.mo + 1 := by
 have h2 := MS.step_cnt g.m s
 unfold GS.step
 repeat' split
 all_goals first | omega | (simp only; omega)
theorem gt_step (h : GT w0 K lab c W P AX AY s L v6 Q) (i : Nat) (hi : i < L.length) (hc : c < 4611686018427387904) :
  Calls Tryz.prog 18 #[.pointer (some ⟨L[i].1, 0, none⟩)] W fun e w' => e = .returned (.tuple #[.bool (L[i].2.step s).thr, .bool (L[i].2.took s)]) ∧ StpG w0 (c + 1) P AX AY s (L.set i (L[i].1, L[i].2.step s)) v6 Q w' ∧ Upd (fun k => lab k ≠ 0) W w' := by
 obtain ⟨p, kt, vt, D, hm, hp, hD⟩ := h.mx i hi
 obtain ⟨F, hF⟩ := h.aw.px
 have hcn := h.cn L[i] (List.getElem_mem hi)
 refine (gstep_any hm hF (by omega) (by omega)).mono ?_
 rintro e w' ⟨rfl, vt', D', h1, h2, h3⟩
 have hu : Upd (fun k => lab k = i + 4) W w' := h3.mono (fun k _ e => by
  rcases e with e | e
  ·rw [e]; exact hp
  ·rw [e]; exact hD p hm.dp)
 refine ⟨rfl, ⟨_, _, h.turn (c' := c + 1) hu (by omega) (gown_upd h.r6 hu (fun k hk e => by have := h.l6 k hk; omega)) h.old6 (fun j hj => ?_) (fun x hx => ?_)⟩, hu.mono (fun k _ e => by omega)⟩
 ·rw [List.length_set] at hj
  by_cases e : i = j
  ·subst e
   rw [List.getElem_set_self]
   refine ⟨p, kt, vt', D', h1, by rw [labG_old (lt_of_block hm.c)]; exact hp, fun x hx => ?_⟩
   by_cases hxn : W.heap.size ≤ x
   ·exact labG_new hxn (h1.lt x hx)
   ·rw [labG_old (by omega)]
    rcases h2 x hx with hd | hd
    ·exact hD x hd
    ·omega
  ·rw [List.getElem_set_ne e]
   exact h.oldM hu j hj (by omega)
 ·rcases List.mem_or_eq_of_mem_set hx with h4 | h4
  ·have := h.cn x h4; omega
  ·subst h4
   have := gs_cnt L[i].2 s
   simp only
   omega
end
end Go.Proofs.YtealejbfloacpaaGreat
