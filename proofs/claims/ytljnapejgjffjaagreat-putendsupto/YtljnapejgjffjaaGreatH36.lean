/- Texts of one's own. -/
import Derived.Test.YtljnapejgjffjaaGreatH32
import Derived.Test.YtljnapejgjffjaaGreatH26
import Derived.Test.YtljnapejgjffjaaGreatH24
namespace Go.Proofs.YtljnapejgjffjaaGreat
end Go.Proofs.YtljnapejgjffjaaGreat
namespace Go.Proofs.YtljnapejgjffjaaGreat
open Go.RowKit
set_option maxRecDepth 100000
def gVal (p : NP) (key : List Int) : List Int := if isIn p.ks key = true then p.vs.getD (p.ks.idxOf key) [] else []
end Go.Proofs.YtljnapejgjffjaaGreat
namespace Go.Proofs.YtljnapejgjffjaaGreat
end Go.Proofs.YtljnapejgjffjaaGreat
namespace Go.Proofs.YtljnapejgjffjaaGreat
open Go.RowKit
set_option maxRecDepth 100000
theorem tx_c (w : World) (z : Int) (hz : 0 ≤ z ∧ z ≤ 255) : (⟨some ⟨w.heap.size,0,none⟩,1,[z]⟩ : Tx).Ok (w.alloc (.cells #[.int .u8 z] 5 (1,2))) := by
 refine ⟨fun i hi => ?_,(fun e => by cases e),(by simp),fun c hc => ?_,(by simp)⟩
 ·obtain rfl : i = 0 := by simp at hi; omega
  exact ⟨w.heap.size,0,rfl,by rw [cell_of_row _ _ _ _ _ _ (heap_alloc_new w _)]; rfl⟩
 ·simp only [List.mem_singleton] at hc; omega
def Lk (s : AS) : Int → List Int → Chn → Prop
 | _,_,[] => False
 | id,low,x :: r => x = (id,low) ∧ (((s.n id).ri = 0 ∧ r = []) ∨ ((s.n id).ri ≠ 0 ∧ Lk s (s.n id).ri (s.n id).hi r))
theorem Lk.ne {s : AS} {id : Int} {low : List Int} {c : Chn} (h : Lk s id low c) : c ≠ [] := by
 rintro rfl; exact h
theorem Lk.head {s : AS} {id : Int} {low : List Int} {c : Chn} (h : Lk s id low c) : ∃ r,c = (id,low) :: r := by
 cases c with
 | nil => exact h.elim
 | cons x r => exact ⟨r,by rw [h.1]⟩
theorem Lk.suf {s : AS} : ∀ (c : Chn) (id : Int) (low : List Int),Lk s id low c → ∀ x ∈ c,∃ a r,c = a ++ r ∧ Lk s x.1 x.2 r
 | [],_,_,h,_,_ => h.elim
 | y :: c,id,low,h,x,hx => by
  obtain ⟨rfl,h2⟩ := h
  rcases List.mem_cons.1 hx with rfl | hx
  ·exact ⟨[],(id,low) :: c,rfl,rfl,h2⟩
  ·rcases h2 with ⟨_,rfl⟩ | ⟨_,h3⟩
   ·cases hx
   ·obtain ⟨a,r,rfl,hr⟩ := Lk.suf c _ _ h3 x hx
    exact ⟨(id,low) :: a,r,rfl,hr⟩
def Lv (s : AS) (ck : NP → Int) : Int → Int → Chn → List Chn → Prop
 | _,_,_,[] => False
 | lev,id,up,c :: r => Lk s id [] c ∧ ChnOk s ck lev c ∧ (∀ x ∈ up,s.kidsOk c x) ∧ ((lev = 0 ∧ r = []) ∨ (lev ≠ 0 ∧ Lv s ck (lev - 1) (s.first c) c r))
theorem Lv.len {s : AS} {ck : NP → Int} : ∀ (ls : List Chn) (lev id : Int) (up : Chn),Lv s ck lev id up ls → (ls.length : Int) = lev + 1
 | [],_,_,_,h => h.elim
 | c :: r,lev,id,up,h => by
  obtain ⟨_,_,_,h4⟩ := h
  rcases h4 with ⟨rfl,rfl⟩ | ⟨_,h5⟩
  ·rfl
  ·have := Lv.len r _ _ _ h5
   rw [List.length_cons]; omega
structure Snd (s : AS) (nd lf inn fl bk : Int) (ls : List Chn) : Prop where
 cfg : cfgOk nd lf inn fl bk
 ev : ∀ id,s.inn id → s.w id % 2 = 0
 lv : Lv s (fun p => nchkE p nd lf inn fl bk) (s.rd s.root).lv s.root [] ls
 met : Met s (idsOf ls)
theorem held_even {s : AS} (h : s.held = []) : ∀ id,s.inn id → s.w id % 2 = 0 := by
 intro id hi
 unfold AS.held heldL heldN at h
 rw [List.map_eq_nil_iff,List.filter_eq_nil_iff] at h
 unfold AS.inn at hi
 have h1 := h (id - 1).toNat (by rw [List.mem_range,List.length_map]; omega)
 have e : ((s.sl.map (·.1)).getD (id - 1).toNat 0) = s.w id := by
  unfold AS.w
  generalize (id - 1).toNat = i
  rw [List.getD_eq_getElem?_getD,List.getD_eq_getElem?_getD,List.getElem?_map]
  cases s.sl[i]? <;> rfl
 rw [e] at h1
 simp only [decide_eq_true_eq] at h1
 omega
theorem nchk_more {p : NP} {nd lf inn fl bk : Int} (h : nchkE p nd lf inn fl bk = 0) : (p.hi.length = 0 ↔ p.ri = 0) ∧ 0 ≤ p.lv ∧ (p.lv ≠ 0 → p.cs.length = p.ks.length + 1) ∧ (p.lv = 0 → p.vs.length = p.ks.length) ∧ KyP p.hi p.ks := by
 unfold nchkE at h
 split at h
 ·split at h
  ·rename_i h2
   obtain ⟨⟨⟨h3,_⟩,h6,_⟩,h4,_,h5⟩ := h2
   refine ⟨h6,h3.1,fun hp => ?_,fun hp => ?_,h4⟩
   ·rw [if_neg hp] at h5
    exact h5.1.2
   ·rw [if_pos hp] at h5
    exact h5.1.2
  ·omega
 ·omega
theorem cntL_at {ks : List (List Int)} {key : List Int} (h : Rs ks) {j : Nat} (hj : cntL ks key = j + 1) : 0 ≤ cmpI key (ks.getD j []) := by
 refine Decidable.byContradiction fun hc => ?_
 have hlt : cmpI key (ks.getD j []) < 0 := by omega
 have hle := cntL_le ks key
 have hjl : j < ks.length := by omega
 have e : cntL ks key = cntL (ks.take j) key + cntL (ks.drop j) key := by
  unfold cntL
  rw [← List.countP_append,List.take_append_drop]
 have h0 : cntL (ks.drop j) key = 0 := by
  unfold cntL
  rw [List.countP_eq_zero]
  intro x hx
  simp only [decide_eq_true_eq]
  obtain ⟨i,hi,rfl⟩ := List.getElem_of_mem hx
  rw [List.getElem_drop]
  rw [List.length_drop] at hi
  have hg : ks.getD (j + i) [] = ks[j + i]'(by omega) := by simp [show j + i < ks.length by omega]
  rw [← hg]
  rcases Nat.eq_zero_or_pos i with rfl | hi0
  ·rw [Nat.add_zero]; omega
  ·have := h.far (i - 1) j (by omega)
   rw [show j + (i - 1) + 1 = j + i by omega] at this
   have := cmp_lt_trans hlt this
   omega
 have h1 := cntL_le (ks.take j) key
 rw [List.length_take] at h1
 omega
def MS.run (m : MS) (s : AS) : Nat → MS
 | 0 => m
 | n + 1 => (m.run s n).step s
theorem MS.run_add (m : MS) (s : AS) (a : Nat) : ∀ b,m.run s (a + b) = (m.run s a).run s b
 | 0 => rfl
 | b + 1 => by
  show (m.run s (a + b)).step s = ((m.run s a).run s b).step s
  rw [MS.run_add m s a b]
theorem ms_four {s : AS} {key : List Int} {lev id : Int} {wd : Nat} {nd : NP} {an mo : Nat} (hin : s.inn id) (he : s.w id % 2 = 0) : (⟨key,lev,1,id,wd,nd,an,mo⟩ : MS).run s 4 = (⟨key,lev,4,id,s.w id,s.n id,an,mo⟩ : MS).choose := by
 have e1 : (⟨key,lev,1,id,wd,nd,an,mo⟩ : MS).step s = ⟨key,lev,2,id,s.w id,nd,an,mo⟩ := by
  simp only [MS.step,hin,he]; simp
 have e2 : (⟨key,lev,2,id,s.w id,nd,an,mo⟩ : MS).step s = ⟨key,lev,3,id,s.w id,nd.setH (s.n id).lv (s.n id).hi (s.n id).ri,an,mo⟩ := by
  simp only [MS.step,hin]; simp
 have e3 : (⟨key,lev,3,id,s.w id,nd.setH (s.n id).lv (s.n id).hi (s.n id).ri,an,mo⟩ : MS).step s = ⟨key,lev,4,id,s.w id,s.n id,an,mo⟩ := by
  simp only [MS.step,hin,NP.setH,NP.setB]; simp
 have e4 : (⟨key,lev,4,id,s.w id,s.n id,an,mo⟩ : MS).step s = (⟨key,lev,4,id,s.w id,s.n id,an,mo⟩ : MS).choose := by
  simp only [MS.step,hin,MS.valid]; simp
 show (((((⟨key,lev,1,id,wd,nd,an,mo⟩ : MS).step s).step s).step s).step s) = _
 rw [e1,e2,e3,e4]
theorem ms_run4 (m : MS) (s : AS) (k : Nat) : m.run s (4 + k) = (m.run s 4).run s k := m.run_add s 4 k
def cntC (ls : List Chn) : Nat := (idsOf ls).length
theorem cntC_cons (c : Chn) (r : List Chn) : cntC (c :: r) = c.length + cntC r := by simp [cntC,idsOf]
theorem way {s : AS} {nd lf inn fl bk : Int} {key : List Int} {lev : Int} (hev : ∀ id,s.inn id → s.w id % 2 = 0) (hlev : 0 ≤ lev) :
  ∀ (n : Nat) (l id : Int) (low : List Int) (rest up : Chn) (below : List Chn) (wd : Nat) (nd0 : NP) (an mo : Nat),rest.length + cntC below ≤ n → Lk s id low rest → (∀ x ∈ rest,x ∈ up) → ChnOk s (fun p => nchkE p nd lf inn fl bk) l up → (∀ x ∈ up,s.inn x.1) → (∀ c ∈ below,∀ x ∈ c,s.inn x.1) →
   ((l = 0 ∧ below = []) ∨ (l ≠ 0 ∧ Lv s (fun p => nchkE p nd lf inn fl bk) (l - 1) (s.first up) up below)) → 0 ≤ cmpI key low → lev ≤ l →
   ∃ k,k ≤ 4 * n ∧ ∃ x ∈ (up :: below).getD (l - lev).toNat [],∃ mo',(⟨key,lev,1,id,wd,nd0,an,mo⟩ : MS).run s k = ⟨key,lev,5,x.1,s.w x.1,s.n x.1,an,mo'⟩ ∧ beyB (s.n x.1).hi key = false ∧ 0 ≤ cmpI key x.2
 | 0,l,id,low,rest,up,below,wd,nd0,an,mo,hn,hk,_,_,_,_,_,_,_ => by
  have := List.length_pos_iff.2 hk.ne; omega
 | n + 1,l,id,low,rest,up,below,wd,nd0,an,mo,hn,hk,hsub,hco,hin,hinb,hb,hlow,hl => by
  obtain ⟨r,rfl⟩ := hk.head
  have hmem : (id,low) ∈ up := hsub _ List.mem_cons_self
  have hi := hin _ hmem
  have hlv := hco.lv _ hmem
  obtain ⟨f1,f2,f3,f4,f5⟩ := nchk_more (hco.ck _ hmem)
  simp only at hi hlv f1 f2 f3 f4 f5
  have h4 := ms_four (key := key) (lev := lev) (wd := wd) (nd := nd0) (an := an) (mo := mo) hi (hev _ hi)
  rw [MS.choose,if_neg (by simp only; omega)] at h4
  simp only at h4
  rw [List.length_cons] at hn
  by_cases hbey : beyB (s.n id).hi key = true
  ·rw [if_pos hbey] at h4
   unfold beyB at hbey
   simp only [Bool.and_eq_true,decide_eq_true_eq] at hbey
   have hri : (s.n id).ri ≠ 0 := fun e => by have := f1.2 e; omega
   have hk2 : Lk s (s.n id).ri (s.n id).hi r := by
    rcases hk.2 with h | h
    ·exact absurd h.1 hri
    ·exact h.2
   obtain ⟨k,hk3,x,hx,mo',e1,e2,e3⟩ := way hev hlev n l _ _ r up below 0 NP.zero an (mo + 1) (by omega) hk2 (fun x hx => hsub x (List.mem_cons_of_mem _ hx)) hco hin hinb hb hbey.2 hl
   exact ⟨4 + k,by omega,x,hx,mo',by rw [ms_run4,h4]; exact e1,e2,e3⟩
  ·rw [if_neg hbey] at h4
   have hbey' : beyB (s.n id).hi key = false := by simpa using hbey
   by_cases hll : (s.n id).lv = lev
   ·rw [if_pos hll] at h4
    refine ⟨4,by omega,(id,low),?_,mo,h4,hbey',hlow⟩
    rw [show (l - lev).toNat = 0 by omega]
    exact hmem
   ·rw [if_neg hll] at h4
    rcases hb with ⟨h0,_⟩ | ⟨h0,hL⟩
    ·omega
    ·cases below with
     | nil => exact hL.elim
     | cons c b2 =>
      obtain ⟨g1,g2,g3,g4⟩ := hL
      have hkid := g3 _ hmem
      have hcs := f3 (by omega)
      have hcl := cntL_le (s.n id).ks key
      have hj : min (cntL (s.n id).ks key) ((s.n id).cs.length - 1) = cntL (s.n id).ks key := by omega
      have hy := hkid (cntL (s.n id).ks key) (by simp only; omega)
      have hch : chiN (s.n id).ks (s.n id).cs key = (s.kidAt (id,low) (cntL (s.n id).ks key)).1 := by
       unfold chiN AS.kidAt
       rw [if_neg (by omega),hj]
      have hlo2 : 0 ≤ cmpI key (s.kidAt (id,low) (cntL (s.n id).ks key)).2 := by
       unfold AS.kidAt
       simp only
       by_cases hz : cntL (s.n id).ks key = 0
       ·rw [if_pos hz]; exact hlow
       ·rw [if_neg hz]
        exact cntL_at f5.rs (by omega)
      generalize s.kidAt (id,low) (cntL (s.n id).ks key) = y at *
      obtain ⟨a,r2,e2,hk4⟩ := Lk.suf c _ _ g1 y hy
      rw [cntC_cons,e2,List.length_append] at hn
      obtain ⟨k,hk3,x,hx,mo',e1,e3,e4⟩ := way hev hlev n (l - 1) _ _ r2 c b2 0 NP.zero an mo (by omega) hk4 (fun x hx => by rw [e2]; exact List.mem_append_right _ hx) g2 (hinb c List.mem_cons_self) (fun d hd => hinb d (List.mem_cons_of_mem _ hd)) g4 hlo2 (by omega)
      refine ⟨4 + k,by omega,x,?_,mo',?_,e3,e4⟩
      ·rw [show (l - lev).toNat = (l - 1 - lev).toNat + 1 by omega]
       exact hx
      ·rw [ms_run4,h4,hch]; exact e1
theorem Snd.in_ {s : AS} {nd lf inn fl bk : Int} {ls : List Chn} (h : Snd s nd lf inn fl bk ls) : ∀ c ∈ ls,∀ x ∈ c,s.inn x.1 := fun c hc x hx =>
 h.met.inn _ (List.mem_flatMap.2 ⟨c,hc,List.mem_map.2 ⟨x,hx,rfl⟩⟩)
theorem Snd.cnt {s : AS} {nd lf inn fl bk : Int} {ls : List Chn} (h : Snd s nd lf inn fl bk ls) : cntC ls ≤ s.sl.length := h.met.len
theorem MS.step_cnt (m : MS) (s : AS) : (m.step s).an ≤ m.an + 1 ∧ (m.step s).mo ≤ m.mo + 1 := by
 unfold MS.step MS.valid MS.choose MS.goTo MS.fail
 repeat' split
 all_goals first | omega | (simp only; omega)
theorem cmp_ge_trans {a b c : List Int} (h1 : 0 ≤ cmpI a b) (h2 : 0 ≤ cmpI b c) : 0 ≤ cmpI a c := by
 have e1 := cmpI_swap a b
 have e2 := cmpI_swap b c
 have e3 := cmpI_swap a c
 have := (cmpI_trans c b a (by omega) (by omega)).1
 omega
theorem cmp_lt_ge {a b c : List Int} (h1 : cmpI a b < 0) (h2 : 0 ≤ cmpI c b) : cmpI a c < 0 := by
 have e1 := cmpI_swap c b
 exact (cmpI_trans a b c (by omega) (by omega)).2 h1
theorem ChnOk.lies {s : AS} {nd lf inn fl bk l : Int} {c : Chn} (h : ChnOk s (fun p => nchkE p nd lf inn fl bk) l c) {x : Int × List Int} (hx : x ∈ c) : liesP x.2 (s.n x.1) :=
 (lies_iff (nchk_more (h.ck x hx)).2.2.2.2).2 (h.ab x hx)
theorem ChnOk.tail {s : AS} {ck : NP → Int} {l : Int} {x : Int × List Int} {c : Chn} (h : ChnOk s ck l (x :: c)) : ChnOk s ck l c :=
 ⟨fun y hy => h.lv y (.tail _ hy),fun y hy => h.ck y (.tail _ hy),fun y hy => h.ab y (.tail _ hy)⟩
theorem Lk.lows {s : AS} {nd lf inn fl bk l : Int} : ∀ (c : Chn) (id : Int) (low : List Int),Lk s id low c → ChnOk s (fun p => nchkE p nd lf inn fl bk) l c → ∀ y ∈ c,0 ≤ cmpI y.2 low
 | [],_,_,h,_,_,_ => h.elim
 | x :: c,id,low,h,hc,y,hy => by
  obtain ⟨rfl,h2⟩ := h
  rcases List.mem_cons.1 hy with rfl | hy
  ·simp only [cmpI_refl]; decide
  ·rcases h2 with ⟨_,rfl⟩ | ⟨hri,h3⟩
   ·cases hy
   ·have h4 := Lk.lows c _ _ h3 hc.tail y hy
    have h5 := (hc.lies List.mem_cons_self).2
    have h6 := (nchk_more (hc.ck _ List.mem_cons_self)).1
    simp only at h5 h6
    have h7 : 0 < cmpI (s.n id).hi low := by
     rcases h5 with h5 | h5
     ·exact absurd (h6.1 h5) hri
     ·exact h5
    exact cmp_ge_trans h4 (by omega)
theorem ky_mem {hi : List Int} {ks : List (List Int)} (h : KyP hi ks) {k : List Int} (hk : k ∈ ks) : beyB hi k = false := by
 obtain ⟨i,hi',rfl⟩ := List.getElem_of_mem hk
 have := (h i hi').1.2
 simpa [hi'] using this
theorem lies_mem {low : List Int} {p : NP} (h : liesP low p) {k : List Int} (hk : k ∈ p.ks) : 0 ≤ cmpI k low := by
 obtain ⟨i,hi',rfl⟩ := List.getElem_of_mem hk
 have := h.1 i hi'
 simpa [hi'] using this
theorem map_leaves {s : AS} {ck : NP → Int} : ∀ (rest : Chn) (id : Int) (low : List Int) (f : Nat) (met : List Int) (leaf : Bool) (acc : List (List Int × List Int)),Lk s id low rest → ChnOk s ck 0 rest → (∀ x ∈ rest,s.inn x.1) → (met ++ rest.map (·.1)).Nodup → rest.length ≤ f → s.mapF f met leaf id acc = acc ++ rest.flatMap fun x => (s.n x.1).ents
 | [],_,_,_,_,_,_,h,_,_,_,_ => h.elim
 | x :: r,id,low,f,met,leaf,acc,h,hc,hin,hnd,hf => by
  obtain ⟨f,rfl⟩ : ∃ g,f = g + 1 := ⟨f - 1,by rw [List.length_cons] at hf; omega⟩
  obtain ⟨rfl,h2⟩ := h
  have hnm : id ∉ met := fun hm => by
   rw [List.map_cons] at hnd
   exact (List.nodup_append.1 hnd).2.2 id hm id List.mem_cons_self rfl
  have hlv := hc.lv _ List.mem_cons_self
  simp only at hlv
  have hi : s.inn id := hin _ List.mem_cons_self
  rw [mapF_leaf ⟨hi,hnm⟩ (by omega),List.flatMap_cons]
  rcases h2 with ⟨h0,rfl⟩ | ⟨_,h3⟩
  ·rw [h0,List.flatMap_nil,List.append_nil]
   cases f with
   | zero => rfl
   | succ f => exact mapF_stop (fun hh => by have := hh.1.1; omega)
  ·rw [map_leaves r _ _ f (met ++ [id]) true (acc ++ (s.n id).ents) h3 hc.tail (fun y hy => hin y (.tail _ hy)) (by rw [List.append_assoc]; exact hnd) (by rw [List.length_cons] at hf; omega),List.append_assoc]
theorem map_down {s : AS} {nd lf inn fl bk : Int} : ∀ (ls : List Chn) (lev id : Int) (up : Chn) (f : Nat) (met : List Int),Lv s (fun p => nchkE p nd lf inn fl bk) lev id up ls → (∀ c ∈ ls,∀ x ∈ c,s.inn x.1) → (met ++ idsOf ls).Nodup → cntC ls ≤ f → s.mapF f met false id [] = (ls.getLastD []).flatMap fun x => (s.n x.1).ents
 | [],_,_,_,_,_,h,_,_,_ => h.elim
 | c :: r,lev,id,up,f,met,h,hin,hnd,hf => by
  obtain ⟨g1,g2,_,g4⟩ := h
  have e1 : idsOf (c :: r) = c.map (·.1) ++ idsOf r := by simp [idsOf]
  rw [cntC_cons] at hf
  rw [e1,← List.append_assoc] at hnd
  rcases g4 with ⟨rfl,rfl⟩ | ⟨h0,h5⟩
  ·rw [map_leaves c _ _ f met false [] g1 g2 (hin c List.mem_cons_self) ((List.nodup_append.1 hnd).1) (by omega)]
   rfl
  ·obtain ⟨q,rfl⟩ := g1.head
   rw [List.length_cons] at hf
   obtain ⟨f,rfl⟩ : ∃ g,f = g + 1 := ⟨f - 1,by omega⟩
   have hi := hin _ List.mem_cons_self _ List.mem_cons_self
   have hnm : id ∉ met := fun hm => by
    have := (List.nodup_append.1 (List.nodup_append.1 hnd).1).2.2 id hm id (by simp)
    exact this rfl
   have hlv := g2.lv _ List.mem_cons_self
   obtain ⟨_,f2,f3,_⟩ := nchk_more (g2.ck _ List.mem_cons_self)
   simp only at hlv f2 f3 hi
   have hcs : (s.n id).cs ≠ [] := fun e => by have := f3 (by omega); rw [e] at this; simp at this
   rw [mapF_down ⟨hi,hnm⟩ (by omega) (fun e => e.elim (fun e => by cases e) hcs)]
   have e2 : (s.n id).cs.getD 0 0 = s.first ((id,[]) :: q) := rfl
   rw [e2,map_down r _ _ _ f (met ++ [id]) h5 (fun d hd => hin d (.tail _ hd)) ?_ (by omega)]
   ·cases r with
    | nil => exact h5.elim
    | cons d r => simp [List.getLastD_eq_getLast?]
   ·refine hnd.sublist ?_
    refine List.Sublist.append ?_ (List.Sublist.refl _)
    refine List.Sublist.append (List.Sublist.refl _) ?_
    exact List.Sublist.cons_cons _ (List.nil_sublist _)
theorem map_snd {s : AS} {nd lf inn fl bk : Int} {ls : List Chn} (h : Snd s nd lf inn fl bk ls) : s.map = (ls.getLastD []).flatMap fun x => (s.n x.1).ents :=
 map_down ls _ _ _ _ [] h.lv h.in_ (by rw [List.nil_append]; exact h.met.nd) (by have := h.cnt; omega)
theorem ents_fst (p : NP) : p.ents.map (·.1) = p.ks := by
 refine List.ext_getElem (by simp [NP.ents]) fun i h1 h2 => ?_
 simp [NP.ents,h2]
def insA (y : Int × List Int) (j : Int) : Chn → Chn
 | [] => []
 | x :: r => if x.1 = j then x :: y :: r else x :: insA y j r
section
variable {y : Int × List Int} {j : Int}
theorem insA_sub : ∀ {c : Chn} {x : Int × List Int},x ∈ c → x ∈ insA y j c
 | [],_,h => h
 | z :: r,x,h => by
  rw [insA]
  rcases List.mem_cons.1 h with rfl | h
  ·split <;> exact List.mem_cons_self
  ·split
   ·exact List.mem_cons_of_mem _ (List.mem_cons_of_mem _ h)
   ·exact List.mem_cons_of_mem _ (insA_sub h)
theorem insA_mem : ∀ {c : Chn} {x : Int × List Int},x ∈ insA y j c → x = y ∨ x ∈ c
 | [],_,h => .inr h
 | z :: r,x,h => by
  rw [insA] at h
  split at h
  ·rcases List.mem_cons.1 h with rfl | h
   ·exact .inr List.mem_cons_self
   ·rcases List.mem_cons.1 h with rfl | h
    ·exact .inl rfl
    ·exact .inr (List.mem_cons_of_mem _ h)
  ·rcases List.mem_cons.1 h with rfl | h
   ·exact .inr List.mem_cons_self
   ·exact (insA_mem h).imp id (List.mem_cons_of_mem _)
theorem insA_has : ∀ {c : Chn} {low : List Int},(j,low) ∈ c → y ∈ insA y j c
 | [],_,h => nomatch h
 | z :: r,low,h => by
  rw [insA]
  split
  ·exact List.mem_cons_of_mem _ List.mem_cons_self
  ·rename_i hn
   rcases List.mem_cons.1 h with rfl | h
   ·exact absurd rfl hn
   ·exact List.mem_cons_of_mem _ (insA_has h)
theorem insA_nd : ∀ {c : Chn},(c.map (·.1)).Nodup → y.1 ∉ c.map (·.1) → ((insA y j c).map (·.1)).Nodup
 | [],h,_ => h
 | z :: r,h,hy => by
  rw [List.map_cons,List.nodup_cons] at h
  rw [List.map_cons,List.mem_cons,not_or] at hy
  rw [insA]
  split
  ·rw [List.map_cons,List.map_cons,List.nodup_cons,List.nodup_cons]
   refine ⟨fun hm => ?_,hy.2,h.2⟩
   rcases List.mem_cons.1 hm with e | hm
   ·exact hy.1 e.symm
   ·exact h.1 hm
  ·rw [List.map_cons,List.nodup_cons]
   refine ⟨fun hm => ?_,insA_nd h.2 hy.2⟩
   obtain ⟨x,hx,e⟩ := List.mem_map.1 hm
   rcases insA_mem hx with rfl | hx
   ·exact hy.1 e
   ·exact h.1 (List.mem_map.2 ⟨x,hx,e⟩)
theorem insA_len : ∀ (c : Chn),c.length ≤ (insA y j c).length
 | [] => Nat.le_refl _
 | z :: r => by
  rw [insA]
  split
  ·simp
  ·simp only [List.length_cons]; exact Nat.succ_le_succ (insA_len r)
end
theorem low_uniq : ∀ {c : Chn} {j : Int} {a b : List Int},(c.map (·.1)).Nodup → (j,a) ∈ c → (j,b) ∈ c → a = b
 | [],_,_,_,_,h,_ => nomatch h
 | z :: r,j,a,b,h,ha,hb => by
  rw [List.map_cons,List.nodup_cons] at h
  rcases List.mem_cons.1 ha with e1 | ha'
  ·rcases List.mem_cons.1 hb with e2 | hb'
   ·have := e1.trans e2.symm
    cases this; rfl
   ·exact (h.1 (List.mem_map.2 ⟨(j,b),hb',by rw [← e1]⟩)).elim
  ·rcases List.mem_cons.1 hb with e2 | hb'
   ·exact (h.1 (List.mem_map.2 ⟨(j,a),ha',by rw [← e2]⟩)).elim
   ·exact low_uniq h.2 ha' hb'
section
variable {s t : AS}
theorem lk_congr : ∀ (c : Chn) (id : Int) (low : List Int),Lk s id low c → (∀ x ∈ c,(t.n x.1).ri = (s.n x.1).ri ∧ (t.n x.1).hi = (s.n x.1).hi) → Lk t id low c
 | [],_,_,h,_ => h
 | x :: r,id,low,h,hs => by
  obtain ⟨rfl,h2⟩ := h
  obtain ⟨e1,e2⟩ := hs _ List.mem_cons_self
  simp only at e1 e2
  refine ⟨rfl,?_⟩
  rw [e1,e2]
  exact h2.imp (fun h => h) fun h3 => ⟨h3.1,lk_congr r _ _ h3.2 (fun x hx => hs x (List.mem_cons_of_mem _ hx))⟩
theorem lk_ins {j S : Int} {K : List Int} (hj : (t.n j).ri = S ∧ (t.n j).hi = K) (hS0 : S ≠ 0) (hS : (t.n S).ri = (s.n j).ri ∧ (t.n S).hi = (s.n j).hi) :
  ∀ (c : Chn) (id : Int) (low : List Int),Lk s id low c → (c.map (·.1)).Nodup → S ∉ c.map (·.1) → (∀ x ∈ c,x.1 ≠ j → (t.n x.1).ri = (s.n x.1).ri ∧ (t.n x.1).hi = (s.n x.1).hi) → Lk t id low (insA (S,K) j c)
 | [],_,_,h,_,_,_ => h.elim
 | x :: r,id,low,h,hnd,hSn,ho => by
  obtain ⟨rfl,h2⟩ := h
  rw [List.map_cons,List.nodup_cons] at hnd
  rw [List.map_cons,List.mem_cons,not_or] at hSn
  rw [insA]
  split
  ·rename_i e
   simp only at e
   subst e
   refine ⟨rfl,.inr ⟨by rw [hj.1]; exact hS0,?_⟩⟩
   rw [hj.1,hj.2]
   refine ⟨rfl,?_⟩
   rw [hS.1,hS.2]
   refine h2.imp (fun h => h) fun h3 => ⟨h3.1,lk_congr r _ _ h3.2 (fun x hx => ho x (List.mem_cons_of_mem _ hx) (fun e => hnd.1 (List.mem_map.2 ⟨x,hx,e⟩)))⟩
  ·rename_i hne
   obtain ⟨e1,e2⟩ := ho _ List.mem_cons_self hne
   simp only at e1 e2
   refine ⟨rfl,?_⟩
   rw [e1,e2]
   rcases h2 with ⟨h3,rfl⟩ | ⟨h3,h4⟩
   ·exact .inl ⟨h3,rfl⟩
   ·exact .inr ⟨h3,lk_ins hj hS0 hS r _ _ h4 hnd.2 hSn.2 (fun x hx => ho x (List.mem_cons_of_mem _ hx))⟩
theorem kids_congr {c : Chn} {x : Int × List Int} (h : s.kidsOk c x) (e : t.n x.1 = s.n x.1) : t.kidsOk c x := by
 intro k hk
 have := h k (by rw [← e]; exact hk)
 unfold AS.kidAt at this ⊢
 rw [e]; exact this
theorem kids_mono {c d : Chn} {x : Int × List Int} (h : s.kidsOk c x) (hs : ∀ y ∈ c,y ∈ d) : s.kidsOk d x := fun k hk => hs _ (h k hk)
end
abbrev ckI (nd lf inn fl bk : Int) : NP → Int := fun p => nchkE p nd lf inn fl bk
structure Tre (s : AS) (nd lf inn fl bk : Int) (cs : List Chn) : Prop where
 ne : 0 < cs.length
 lk : ∀ (l : Nat) (c : Chn),cs[l]? = some c → ∃ i,Lk s i [] c
 ok : ∀ (l : Nat) (c : Chn),cs[l]? = some c → ChnOk s (ckI nd lf inn fl bk) (l : Nat) c
 kid : ∀ (l : Nat) (c d : Chn),cs[l]? = some c → cs[l + 1]? = some d → ∀ x ∈ d,s.kidsOk c x
 rt : ∀ (d : Chn),cs[cs.length - 1]? = some d → Lk s s.root [] d
 nd : ∀ (l : Nat) (c : Chn),cs[l]? = some c → (c.map (·.1)).Nodup
 inn : ∀ (l : Nat) (c : Chn),cs[l]? = some c → ∀ x ∈ c,s.inn x.1
 two : ∀ (l : Nat) (c d : Chn),cs[l]? = some c → cs[l + 1]? = some d → 2 ≤ c.length
def memL (cs : List Chn) (l : Nat) (x : Int × List Int) : Prop := ∃ c,cs[l]? = some c ∧ x ∈ c
def Ext (cs cs' : List Chn) : Prop := ∀ (l : Nat) (x : Int × List Int),memL cs l x → memL cs' l x
theorem Ext.refl (cs : List Chn) : Ext cs cs := fun _ _ h => h
theorem Ext.trans {a b c : List Chn} (h1 : Ext a b) (h2 : Ext b c) : Ext a c := fun l x h => h2 l x (h1 l x h)
section
variable {s t : AS} {nd lf inn fl bk : Int} {cs : List Chn}
theorem Tre.lev (h : Tre s nd lf inn fl bk cs) {l : Nat} {x : Int × List Int} (hm : memL cs l x) : (s.n x.1).lv = (l : Nat) := by
 obtain ⟨c,h1,h2⟩ := hm
 exact (h.ok l c h1).lv x h2
theorem Tre.ckk (h : Tre s nd lf inn fl bk cs) {l : Nat} {x : Int × List Int} (hm : memL cs l x) : nchkE (s.n x.1) nd lf inn fl bk = 0 ∧ ¬ notAb x.2 (s.n x.1) ∧ s.inn x.1 := by
 obtain ⟨c,h1,h2⟩ := hm
 exact ⟨(h.ok l c h1).ck x h2,(h.ok l c h1).ab x h2,h.inn l c h1 x h2⟩
theorem Tre.uniq (h : Tre s nd lf inn fl bk cs) {l l' : Nat} {j : Int} {a b : List Int} (h1 : memL cs l (j,a)) (h2 : memL cs l' (j,b)) : l = l' ∧ a = b := by
 have e1 := h.lev h1
 have e2 := h.lev h2
 simp only at e1 e2
 have e : l = l' := by omega
 subst e
 obtain ⟨c,g1,g2⟩ := h1
 obtain ⟨d,k1,k2⟩ := h2
 rw [g1] at k1
 cases k1
 exact ⟨rfl,low_uniq (h.nd l c g1) g2 k2⟩
theorem Tre.lowU (h : Tre s nd lf inn fl bk cs) {l : Nat} {i j : Int} {a : List Int} (h1 : memL cs l (i,a)) (h2 : memL cs l (j,a)) : i = j := by
 obtain ⟨c,g1,g2⟩ := h1
 obtain ⟨d,k1,k2⟩ := h2
 rw [g1] at k1
 cases k1
 have hck := h.ok l c g1
 obtain ⟨r,hr⟩ := h.lk l c g1
 have key : ∀ (c : Chn) (id : Int) (low : List Int),Lk s id low c → ChnOk s (ckI nd lf inn fl bk) (l : Nat) c → ∀ i j a,(i,a) ∈ c → (j,a) ∈ c → i = j := by
  intro c
  induction c with
  | nil => intro id low hk; exact hk.elim
  | cons x r ih =>
   intro id low hk hc i j a hi hj
   have hlow := Lk.lows _ _ _ hk hc
   obtain ⟨rfl,h2⟩ := hk
   have strict : ∀ y ∈ r,0 < cmpI y.2 low := fun y hy => by
    rcases h2 with ⟨_,rfl⟩ | ⟨hri,h3⟩
    ·cases hy
    ·have h4 := Lk.lows _ _ _ h3 hc.tail y hy
     have h5 := (hc.lies List.mem_cons_self).2
     have h6 := (nchk_more (hc.ck _ List.mem_cons_self)).1
     simp only at h5 h6
     rcases h5 with h5 | h5
     ·exact absurd (h6.1 h5) hri
     ·have e1 := cmpI_swap (s.n id).hi low
      have := cmp_lt_ge (a := low) (b := (s.n id).hi) (c := y.2) (by omega) h4
      have e2 := cmpI_swap y.2 low
      omega
   rcases List.mem_cons.1 hi with e | hi
   ·cases e
    rcases List.mem_cons.1 hj with e | hj
    ·cases e; rfl
    ·have := strict _ hj
     rw [cmpI_refl] at this
     omega
   ·rcases List.mem_cons.1 hj with e | hj
    ·cases e
     have := strict _ hi
     rw [cmpI_refl] at this
     omega
    ·rcases h2 with ⟨_,rfl⟩ | ⟨_,h3⟩
     ·cases hi
     ·exact ih _ _ h3 hc.tail i j a hi hj
 exact key c r [] hr hck i j a g2 k2
theorem Tre.same (h : Tre s nd lf inn fl bk cs) (hr : t.root = s.root) (hin : ∀ k,s.inn k → t.inn k) (hn : ∀ (l : Nat) (x : Int × List Int),memL cs l x → t.n x.1 = s.n x.1) : Tre t nd lf inn fl bk cs := by
 have hm : ∀ (l : Nat) (c : Chn),cs[l]? = some c → ∀ x ∈ c,t.n x.1 = s.n x.1 := fun l c hl x hx => hn l x ⟨c,hl,hx⟩
 refine ⟨h.ne,fun l c hl => ?_,fun l c hl => ⟨fun x hx => ?_,fun x hx => ?_,fun x hx => ?_⟩,fun l c d hl hd x hx => ?_,fun d hd => ?_,h.nd,fun l c hl x hx => hin _ (h.inn l c hl x hx),h.two⟩
 ·obtain ⟨i,hi⟩ := h.lk l c hl
  exact ⟨i,lk_congr c i [] hi (fun x hx => by rw [hm l c hl x hx]; exact ⟨rfl,rfl⟩)⟩
 ·rw [hm l c hl x hx]; exact (h.ok l c hl).lv x hx
 ·rw [hm l c hl x hx]; exact (h.ok l c hl).ck x hx
 ·rw [hm l c hl x hx]; exact (h.ok l c hl).ab x hx
 ·exact kids_congr (h.kid l c d hl hd x hx) (hm _ d hd x hx)
 ·rw [hr]
  exact lk_congr d _ [] (h.rt d hd) (fun x hx => by rw [hm _ d hd x hx]; exact ⟨rfl,rfl⟩)
theorem Tre.body {j : Int} {l0 : Nat} {low0 : List Int} (h : Tre s nd lf inn fl bk cs) (hj : memL cs l0 (j,low0)) (hr : t.root = s.root) (hin : ∀ k,s.inn k → t.inn k) (hn : ∀ (l : Nat) (x : Int × List Int),memL cs l x → x.1 ≠ j → t.n x.1 = s.n x.1) (hh : (t.n j).ri = (s.n j).ri ∧ (t.n j).hi = (s.n j).hi ∧ (t.n j).lv = (s.n j).lv) (hc : nchkE (t.n j) nd lf inn fl bk = 0 ∧ ¬ notAb low0 (t.n j)) (hk : ∀ (b : Nat) (e : Chn),l0 = b + 1 → cs[b]? = some e → t.kidsOk e (j,low0)) : Tre t nd lf inn fl bk cs := by
 have hm : ∀ (l : Nat) (c : Chn),cs[l]? = some c → ∀ x ∈ c,x.1 ≠ j → t.n x.1 = s.n x.1 := fun l c hl x hx => hn l x ⟨c,hl,hx⟩
 have hlw : ∀ (l : Nat) (c : Chn),cs[l]? = some c → ∀ x ∈ c,x.1 = j → l = l0 ∧ x.2 = low0 := fun l c hl x hx e => by
  subst e
  exact h.uniq ⟨c,hl,hx⟩ hj
 have hhi : ∀ (l : Nat) (c : Chn),cs[l]? = some c → ∀ x ∈ c,(t.n x.1).ri = (s.n x.1).ri ∧ (t.n x.1).hi = (s.n x.1).hi := fun l c hl x hx => by
  by_cases e : x.1 = j
  ·rw [e]; exact ⟨hh.1,hh.2.1⟩
  ·rw [hm l c hl x hx e]; exact ⟨rfl,rfl⟩
 refine ⟨h.ne,fun l c hl => ?_,fun l c hl => ⟨fun x hx => ?_,fun x hx => ?_,fun x hx => ?_⟩,fun l c d hl hd x hx => ?_,fun d hd => ?_,h.nd,fun l c hl x hx => hin _ (h.inn l c hl x hx),h.two⟩
 ·obtain ⟨i,hi⟩ := h.lk l c hl
  exact ⟨i,lk_congr c i [] hi (hhi l c hl)⟩
 ·by_cases e : x.1 = j
  ·rw [e,hh.2.2,← e]; exact (h.ok l c hl).lv x hx
  ·rw [hm l c hl x hx e]; exact (h.ok l c hl).lv x hx
 ·by_cases e : x.1 = j
  ·rw [e]; exact hc.1
  ·rw [hm l c hl x hx e]; exact (h.ok l c hl).ck x hx
 ·by_cases e : x.1 = j
  ·rw [e,(hlw l c hl x hx e).2]; exact hc.2
  ·rw [hm l c hl x hx e]; exact (h.ok l c hl).ab x hx
 ·by_cases e : x.1 = j
  ·obtain ⟨e1,e2⟩ := hlw _ d hd x hx e
   have := hk l c e1.symm hl
   obtain ⟨x1,x2⟩ := x
   simp only at e e2
   subst e e2
   exact this
  ·exact kids_congr (h.kid l c d hl hd x hx) (hm _ d hd x hx e)
 ·rw [hr]
  exact lk_congr d _ [] (h.rt d hd) (hhi _ d hd)
theorem set_get (cs : List Chn) (l k : Nat) (c' : Chn) {c : Chn} (hl : cs[l]? = some c) : (cs.set l c')[k]? = if l = k then some c' else cs[k]? := by
 have hlt : l < cs.length := (List.getElem?_eq_some_iff.1 hl).1
 by_cases e : l = k
 ·subst e; rw [if_pos rfl,List.getElem?_set_self hlt]
 ·rw [if_neg e,List.getElem?_set_ne e]
theorem Tre.split {j S : Int} {K low : List Int} {l0 : Nat} {c0 : Chn} (h : Tre s nd lf inn fl bk cs) (hl0 : cs[l0]? = some c0) (hm0 : (j,low) ∈ c0) (hS : ∀ (l : Nat) (x : Int × List Int),memL cs l x → x.1 ≠ S) (hS0 : S ≠ 0) (hr : t.root = s.root) (hin : ∀ k,s.inn k → t.inn k) (hSi : t.inn S) (hn : ∀ (l : Nat) (x : Int × List Int),memL cs l x → x.1 ≠ j → t.n x.1 = s.n x.1)
  (h1 : (t.n j).ri = S ∧ (t.n j).hi = K ∧ (t.n j).lv = (s.n j).lv) (h2 : (t.n S).ri = (s.n j).ri ∧ (t.n S).hi = (s.n j).hi ∧ (t.n S).lv = (s.n j).lv) (hc1 : nchkE (t.n j) nd lf inn fl bk = 0 ∧ ¬ notAb low (t.n j)) (hc2 : nchkE (t.n S) nd lf inn fl bk = 0 ∧ ¬ notAb K (t.n S)) (hk : ∀ (b : Nat) (e : Chn),l0 = b + 1 → cs[b]? = some e → t.kidsOk e (j,low) ∧ t.kidsOk e (S,K)) :
  Tre t nd lf inn fl bk (cs.set l0 (insA (S,K) j c0)) ∧ Ext cs (cs.set l0 (insA (S,K) j c0)) ∧ memL (cs.set l0 (insA (S,K) j c0)) l0 (S,K) := by
 have hjm : memL cs l0 (j,low) := ⟨c0,hl0,hm0⟩
 have hsg := set_get cs l0 (c' := insA (S,K) j c0) (hl := hl0)
 have hm : ∀ (l : Nat) (c : Chn),cs[l]? = some c → ∀ x ∈ c,x.1 ≠ j → t.n x.1 = s.n x.1 := fun l c hl x hx => hn l x ⟨c,hl,hx⟩
 have hjl : ∀ (l : Nat) (c : Chn),cs[l]? = some c → ∀ x ∈ c,x.1 = j → l = l0 ∧ x.2 = low := fun l c hl x hx e => by
  subst e
  exact h.uniq ⟨c,hl,hx⟩ hjm
 have hSn : S ∉ c0.map (·.1) := fun hx => by
  obtain ⟨x,hx,e⟩ := List.mem_map.1 hx
  exact hS l0 x ⟨c0,hl0,hx⟩ e
 have hjlv := h.lev hjm
 simp only at hjlv
 have hext : Ext cs (cs.set l0 (insA (S,K) j c0)) := fun l x hx => by
  obtain ⟨c,hl,hx⟩ := hx
  by_cases e : l0 = l
  ·subst e
   rw [hl0] at hl
   cases hl
   exact ⟨_,by rw [hsg,if_pos rfl],insA_sub hx⟩
  ·exact ⟨c,by rw [hsg,if_neg e]; exact hl,hx⟩
 have hlkN : ∀ i,Lk s i [] c0 → Lk t i [] (insA (S,K) j c0) := fun i hi => lk_ins ⟨h1.1,h1.2.1⟩ hS0 ⟨h2.1,h2.2.1⟩ c0 i [] hi (h.nd l0 c0 hl0) hSn (fun x hx e => by rw [hm l0 c0 hl0 x hx e]; exact ⟨rfl,rfl⟩)
 have hlkO : ∀ (l : Nat) (c : Chn) (i : Int),cs[l]? = some c → l0 ≠ l → Lk s i [] c → Lk t i [] c := fun l c i hl e hi => lk_congr c i [] hi (fun x hx => by
  rw [hm l c hl x hx (fun e2 => e (hjl l c hl x hx e2).1.symm)]; exact ⟨rfl,rfl⟩)
 refine ⟨⟨by rw [List.length_set]; exact h.ne,fun l c hl => ?_,fun l c hl => ?_,fun l c d hl hd x hx => ?_,fun d hd => ?_,fun l c hl => ?_,fun l c hl x hx => ?_,fun l c d hl hd => ?_⟩,hext,⟨_,by rw [hsg,if_pos rfl],insA_has hm0⟩⟩
 ·rw [hsg] at hl
  split at hl
  ·cases hl
   obtain ⟨i,hi⟩ := h.lk l0 c0 hl0
   exact ⟨i,hlkN i hi⟩
  ·rename_i e
   obtain ⟨i,hi⟩ := h.lk l c hl
   exact ⟨i,hlkO l c i hl e hi⟩
 ·rw [hsg] at hl
  split at hl
  ·rename_i e
   subst e
   cases hl
   have hok := h.ok l0 c0 hl0
   refine ⟨fun x hx => ?_,fun x hx => ?_,fun x hx => ?_⟩
   ·rcases insA_mem hx with rfl | hx
    ·show (t.n S).lv = _; rw [h2.2.2,hjlv]
    ·by_cases e : x.1 = j
     ·rw [e,h1.2.2,hjlv]
     ·rw [hm l0 c0 hl0 x hx e]; exact hok.lv x hx
   ·rcases insA_mem hx with rfl | hx
    ·exact hc2.1
    ·by_cases e : x.1 = j
     ·show nchkE _ _ _ _ _ _ = 0; rw [e]; exact hc1.1
     ·rw [hm l0 c0 hl0 x hx e]; exact hok.ck x hx
   ·rcases insA_mem hx with rfl | hx
    ·exact hc2.2
    ·by_cases e : x.1 = j
     ·rw [e,(hjl l0 c0 hl0 x hx e).2]; exact hc1.2
     ·rw [hm l0 c0 hl0 x hx e]; exact hok.ab x hx
  ·rename_i e
   have hok := h.ok l c hl
   have hnj : ∀ x ∈ c,t.n x.1 = s.n x.1 := fun x hx => hm l c hl x hx (fun e2 => e (hjl l c hl x hx e2).1.symm)
   exact ⟨fun x hx => by rw [hnj x hx]; exact hok.lv x hx,fun x hx => by rw [hnj x hx]; exact hok.ck x hx,fun x hx => by rw [hnj x hx]; exact hok.ab x hx⟩
 ·-- kids
  have old : ∀ (c1 d1 : Chn),cs[l]? = some c1 → cs[l + 1]? = some d1 → x ∈ d1 → x.1 ≠ j → t.kidsOk c1 x := fun c1 d1 g1 g2 g3 g4 => kids_congr (h.kid l c1 d1 g1 g2 x g3) (hm _ d1 g2 x g3 g4)
  rw [hsg] at hl hd
  by_cases e1 : l0 = l
  ·subst e1
   rw [if_pos rfl] at hl
   cases hl
   rw [if_neg (by omega)] at hd
   have hxj : x.1 ≠ j := fun e2 => by have := (hjl _ d hd x hx e2).1; omega
   exact kids_mono (old c0 d hl0 hd hx hxj) (fun y hy => insA_sub hy)
  ·rw [if_neg e1] at hl
   by_cases e2 : l0 = l + 1
   ·rw [if_pos e2] at hd
    cases hd
    obtain ⟨g1,g2⟩ := hk l c e2 hl
    rcases insA_mem hx with rfl | hx
    ·exact g2
    ·by_cases e : x.1 = j
     ·have e3 := (hjl l0 c0 hl0 x hx e).2
      obtain ⟨x1,x2⟩ := x
      simp only at e e3
      subst e e3
      exact g1
     ·exact old c c0 hl (by rw [← e2]; exact hl0) hx e
   ·rw [if_neg e2] at hd
    exact old c d hl hd hx (fun e => e2 (hjl _ d hd x hx e).1.symm)
 ·rw [List.length_set,hsg] at hd
  rw [hr]
  split at hd
  ·rename_i e
   cases hd
   exact hlkN _ (h.rt c0 (by rw [← e]; exact hl0))
  ·rename_i e
   exact hlkO _ d _ hd e (h.rt d hd)
 ·rw [hsg] at hl
  split at hl
  ·cases hl
   exact insA_nd (h.nd l0 c0 hl0) hSn
  ·exact h.nd l c hl
 ·rw [hsg] at hl
  split at hl
  ·cases hl
   rcases insA_mem hx with rfl | hx
   ·exact hSi
   ·exact hin _ (h.inn l0 c0 hl0 x hx)
  ·exact hin _ (h.inn l c hl x hx)
 ·have hd' : ∃ d',cs[l + 1]? = some d' := by
   rw [hsg] at hd
   split at hd
   ·rename_i e; exact ⟨c0,by rw [← e]; exact hl0⟩
   ·exact ⟨d,hd⟩
  obtain ⟨d',hd'⟩ := hd'
  rw [hsg] at hl
  split at hl
  ·rename_i e
   subst e
   cases hl
   exact Nat.le_trans (h.two l0 c0 d' hl0 hd') (insA_len c0)
  ·exact h.two l c d' hl hd'
theorem Tre.grow {T L R : Int} {sep : List Int} {c0 : Chn} (h : Tre s nd lf inn fl bk cs) (hl0 : cs[cs.length - 1]? = some c0) (hL : (L,[]) ∈ c0) (hR : (R,sep) ∈ c0) (hLR : L ≠ R) (hr : t.root = T) (hin : ∀ k,s.inn k → t.inn k) (hTi : t.inn T) (hn : ∀ (l : Nat) (x : Int × List Int),memL cs l x → t.n x.1 = s.n x.1) (hTn : t.n T = ⟨(cs.length : Nat),[],0,[sep],[],[L,R]⟩) (hck : nchkE (t.n T) nd lf inn fl bk = 0) :
  Tre t nd lf inn fl bk (cs ++ [[(T,[])]]) ∧ Ext cs (cs ++ [[(T,[])]]) := by
 have hne := h.ne
 have hm : ∀ (l : Nat) (c : Chn),cs[l]? = some c → ∀ x ∈ c,t.n x.1 = s.n x.1 := fun l c hl x hx => hn l x ⟨c,hl,hx⟩
 have hg : ∀ (l : Nat),(cs ++ [[(T,[])]])[l]? = if l < cs.length then cs[l]? else if l = cs.length then some [(T,[])] else none := fun l => by
  by_cases e : l < cs.length
  ·rw [if_pos e,List.getElem?_append_left e]
  ·rw [if_neg e,List.getElem?_append_right (by omega)]
   by_cases e2 : l = cs.length
   ·rw [if_pos e2,e2,Nat.sub_self]; rfl
   ·rw [if_neg e2,List.getElem?_eq_none (by simp; omega)]
 have hlt : ∀ {l : Nat} {c : Chn},cs[l]? = some c → l < cs.length := fun hl => (List.getElem?_eq_some_iff.1 hl).1
 have hch : ∀ (l : Nat) (c : Chn),(cs ++ [[(T,[])]])[l]? = some c → (l < cs.length ∧ cs[l]? = some c) ∨ (l = cs.length ∧ c = [(T,[])]) := fun l c hl => by
  rw [hg] at hl
  split at hl
  ·rename_i e; exact .inl ⟨e,hl⟩
  ·split at hl
   ·rename_i e; cases hl; exact .inr ⟨e,rfl⟩
   ·cases hl
 have hT1 : Lk t T [] [(T,[])] := ⟨rfl,.inl ⟨by rw [hTn],rfl⟩⟩
 refine ⟨⟨by simp,fun l c hl => ?_,fun l c hl => ?_,fun l c d hl hd x hx => ?_,fun d hd => ?_,fun l c hl => ?_,fun l c hl x hx => ?_,fun l c d hl hd => ?_⟩,fun l x hx => ?_⟩
 ·rcases hch l c hl with ⟨_,hl⟩ | ⟨_,rfl⟩
  ·obtain ⟨i,hi⟩ := h.lk l c hl
   exact ⟨i,lk_congr c i [] hi (fun x hx => by rw [hm l c hl x hx]; exact ⟨rfl,rfl⟩)⟩
  ·exact ⟨T,hT1⟩
 ·rcases hch l c hl with ⟨_,hl⟩ | ⟨rfl,rfl⟩
  ·have hok := h.ok l c hl
   exact ⟨fun x hx => by rw [hm l c hl x hx]; exact hok.lv x hx,fun x hx => by rw [hm l c hl x hx]; exact hok.ck x hx,fun x hx => by rw [hm l c hl x hx]; exact hok.ab x hx⟩
  ·refine ⟨fun x hx => ?_,fun x hx => ?_,fun x hx => ?_⟩ <;> rw [List.mem_singleton] at hx <;> subst hx
   ·show (t.n T).lv = _; rw [hTn]
   ·exact hck
   ·rintro ⟨h1,_⟩; simp at h1
 ·rcases hch _ d hd with ⟨e,hd⟩ | ⟨e,rfl⟩
  ·rcases hch _ c hl with ⟨_,hl⟩ | ⟨e2,_⟩
   ·exact kids_congr (h.kid l c d hl hd x hx) (hm _ d hd x hx)
   ·omega
  ·rcases hch _ c hl with ⟨_,hl⟩ | ⟨e2,_⟩
   ·rw [show l = cs.length - 1 by omega,hl0] at hl
    cases hl
    rw [List.mem_singleton] at hx
    subst hx
    intro k hk
    unfold AS.kidAt
    simp only [hTn] at hk ⊢
    match k,hk with
    | 0,_ => exact hL
    | 1,_ => exact hR
   ·omega
 ·rw [List.length_append,List.length_singleton,Nat.add_sub_cancel] at hd
  rcases hch _ d hd with ⟨e,_⟩ | ⟨_,rfl⟩
  ·omega
  ·rw [hr]; exact hT1
 ·rcases hch l c hl with ⟨_,hl⟩ | ⟨_,rfl⟩
  ·exact h.nd l c hl
  ·simp
 ·rcases hch l c hl with ⟨_,hl⟩ | ⟨_,rfl⟩
  ·exact hin _ (h.inn l c hl x hx)
  ·rw [List.mem_singleton] at hx; subst hx; exact hTi
 ·rcases hch _ d hd with ⟨e,hd⟩ | ⟨e,rfl⟩
  ·rcases hch _ c hl with ⟨_,hl⟩ | ⟨e2,_⟩
   ·exact h.two l c d hl hd
   ·omega
  ·rcases hch _ c hl with ⟨_,hl⟩ | ⟨e2,_⟩
   ·rw [show l = cs.length - 1 by omega,hl0] at hl
    cases hl
    rcases Nat.lt_or_ge 1 c0.length with h2 | h2
    ·exact h2
    ·exfalso
     match c0,hL,hR,h2 with
     | [z],hL,hR,_ =>
      rw [List.mem_singleton] at hL hR
      rw [← hL] at hR
      cases hR
      exact hLR rfl
   ·omega
 ·obtain ⟨c,hl,hx⟩ := hx
  exact ⟨c,by rw [hg,if_pos (hlt hl)]; exact hl,hx⟩
end
section
variable {s : AS} {nd lf inn fl bk : Int} {cs : List Chn}
theorem lk_first {l : Int} {id : Int} {c : Chn} (h : Lk s id [] c) (hc : ChnOk s (ckI nd lf inn fl bk) l c) {x : Int} (hx : (x,[]) ∈ c) : x = id := by
 have key : ∀ (c : Chn) (id : Int) (low : List Int),Lk s id low c → ChnOk s (ckI nd lf inn fl bk) l c → low ≠ [] → (x,[]) ∉ c := by
  intro c
  induction c with
  | nil => intro id low h; exact h.elim
  | cons z r ih =>
   intro id low h hc hl hm
   obtain ⟨rfl,h2⟩ := h
   rcases List.mem_cons.1 hm with e | hm
   ·cases e; exact hl rfl
   ·rcases h2 with ⟨_,rfl⟩ | ⟨hri,h3⟩
    ·cases hm
    ·exact ih _ _ h3 hc.tail (fun e => hri ((nchk_more (hc.ck _ List.mem_cons_self)).1.1 (by simp only; rw [e]; rfl))) hm
 cases c with
 | nil => exact h.elim
 | cons z r =>
  obtain ⟨rfl,h2⟩ := h
  rcases List.mem_cons.1 hx with e | hm
  ·cases e; rfl
  ·rcases h2 with ⟨_,rfl⟩ | ⟨hri,h3⟩
   ·cases hm
   ·exact absurd hm (key r _ _ h3 hc.tail (fun e => hri ((nchk_more (hc.ck _ List.mem_cons_self)).1.1 (by simp only; rw [e]; rfl))))
theorem Tre.down (h : Tre s nd lf inn fl bk cs) : ∀ (k : Nat) (c : Chn),cs[k]? = some c → ∀ (i : Int),Lk s i [] c → ∀ (up : Chn),(∀ x ∈ up,s.kidsOk c x) → Lv s (ckI nd lf inn fl bk) (k : Nat) i up ((cs.take (k + 1)).reverse)
 | 0,c,hc,i,hi,up,hup => by
  have e : (cs.take (0 + 1)).reverse = [c] := by
   rw [List.take_add_one,hc]; rfl
  rw [e]
  exact ⟨hi,h.ok 0 c hc,hup,.inl ⟨rfl,rfl⟩⟩
 | k + 1,c,hc,i,hi,up,hup => by
  have hlt : k + 1 < cs.length := (List.getElem?_eq_some_iff.1 hc).1
  obtain ⟨b,hb⟩ : ∃ b,cs[k]? = some b := ⟨_,List.getElem?_eq_getElem (by omega)⟩
  have e : (cs.take (k + 1 + 1)).reverse = c :: (cs.take (k + 1)).reverse := by
   rw [List.take_add_one,hc]; simp
  rw [e]
  have hkid := h.kid k b c hb hc
  refine ⟨hi,h.ok _ c hc,hup,.inr ⟨by omega,?_⟩⟩
  rw [show ((k + 1 : Nat) : Int) - 1 = (k : Nat) by omega]
  obtain ⟨r,rfl⟩ := hi.head
  obtain ⟨ib,hib⟩ := h.lk k b hb
  have hlv := (h.ok _ _ hc).lv _ List.mem_cons_self
  have hcs := (nchk_more ((h.ok _ _ hc).ck _ List.mem_cons_self)).2.2.1 (by rw [hlv]; omega)
  have h0 := hkid _ List.mem_cons_self 0 (by simp only at hcs ⊢; omega)
  unfold AS.kidAt at h0
  simp only [if_true] at h0
  have e2 := lk_first hib (h.ok k b hb) h0
  have e3 : s.first ((i,[]) :: r) = ib := e2
  rw [e3]
  exact Tre.down h k b hb ib hib _ hkid
theorem Tre.met (h : Tre s nd lf inn fl bk cs) : ∀ (k : Nat),k ≤ cs.length → (idsOf ((cs.take k).reverse)).Nodup ∧ ∀ x ∈ idsOf ((cs.take k).reverse),s.inn x ∧ (s.n x).lv < (k : Nat)
 | 0,_ => by
  rw [List.take_zero]
  exact ⟨List.Pairwise.nil,fun x hx => (by cases hx)⟩
 | k + 1,hk => by
  obtain ⟨c,hc⟩ : ∃ c,cs[k]? = some c := ⟨_,List.getElem?_eq_getElem (by omega)⟩
  have e : (cs.take (k + 1)).reverse = c :: (cs.take k).reverse := by
   rw [List.take_add_one,hc]; simp
  have e1 : idsOf (c :: (cs.take k).reverse) = c.map (·.1) ++ idsOf ((cs.take k).reverse) := by simp [idsOf]
  obtain ⟨h1,h2⟩ := Tre.met h k (by omega)
  rw [e,e1]
  refine ⟨List.nodup_append.2 ⟨h.nd k c hc,h1,fun a ha b hb e => ?_⟩,fun x hx => ?_⟩
  ·obtain ⟨y,hy,rfl⟩ := List.mem_map.1 ha
   subst e
   have := (h2 _ hb).2
   have := (h.ok k c hc).lv y hy
   omega
  ·rcases List.mem_append.1 hx with hx | hx
   ·obtain ⟨y,hy,rfl⟩ := List.mem_map.1 hx
    have := (h.ok k c hc).lv y hy
    exact ⟨h.inn k c hc y hy,by omega⟩
   ·have := h2 x hx
    exact ⟨this.1,by omega⟩
theorem Tre.snd (h : Tre s nd lf inn fl bk cs) (hc : cfgOk nd lf inn fl bk) (hev : ∀ id,s.inn id → s.w id % 2 = 0) : Snd s nd lf inn fl bk cs.reverse := by
 have hne := h.ne
 obtain ⟨d,hd⟩ : ∃ d,cs[cs.length - 1]? = some d := ⟨_,List.getElem?_eq_getElem (by omega)⟩
 have hrt := h.rt d hd
 have h1 := Tre.down h _ d hd _ hrt [] (fun x hx => (by cases hx))
 rw [show cs.length - 1 + 1 = cs.length by omega,List.take_length] at h1
 obtain ⟨r,hr⟩ := hrt.head
 have hroot := h.inn _ d hd (s.root,[]) (by rw [hr]; exact List.mem_cons_self)
 have hlv := (h.ok _ d hd).lv (s.root,[]) (by rw [hr]; exact List.mem_cons_self)
 simp only at hroot hlv
 have hm := Tre.met h cs.length (Nat.le_refl _)
 rw [List.take_length] at hm
 refine ⟨hc,hev,?_,⟨hm.1,fun x hx => (hm.2 x hx).1⟩⟩
 rw [show s.rd s.root = s.n s.root from if_pos hroot,hlv]
 exact h1
end
section
variable {s : AS} {nd lf inn fl bk : Int} {cs : List Chn}
theorem chn_of {ck : NP → Int} {lev : Int} {old : List Int} : ∀ (r : Chn) (f : Nat) (id : Int) (low : List Int) (cur : Chn),Lk s id low r → r.length ≤ f → (∀ x ∈ r,s.inn x.1) → ChnOk s ck lev r → (old ++ cur.map (·.1) ++ r.map (·.1)).Nodup → s.chn ck lev old f id low cur = .inr (cur ++ r)
 | [],_,_,_,_,h,_,_,_,_ => h.elim
 | x :: r,f,id,low,cur,h,hf,hin,hok,hnd => by
  obtain ⟨f,rfl⟩ : ∃ g,f = g + 1 := ⟨f - 1,by rw [List.length_cons] at hf; omega⟩
  obtain ⟨rfl,h2⟩ := h
  have h3 := hin _ List.mem_cons_self
  have h4 := hok.lv _ List.mem_cons_self
  have h5 := hok.ck _ List.mem_cons_self
  have h6 := hok.ab _ List.mem_cons_self
  simp only at h3 h4 h5 h6
  have hno : id ∉ old ++ cur.map (·.1) := fun hm => by
   have := (List.nodup_append.1 hnd).2.2 id hm id (by simp)
   exact this rfl
  have he : s.metE ck lev low (old ++ cur.map (·.1)) id = 0 := by
   unfold AS.metE
   rw [if_pos h3,if_neg hno,if_neg (fun hn => hn h4),if_neg (fun hn => hn h5),if_neg h6]
  rw [AS.chn,if_neg (fun hn => hn he)]
  rcases h2 with ⟨h7,rfl⟩ | ⟨h7,h8⟩
  ·rw [if_pos h7]
  ·rw [if_neg h7]
   have e1 : cur ++ (id,low) :: r = (cur ++ [(id,low)]) ++ r := by simp
   rw [e1]
   refine chn_of r f _ _ _ h8 (by rw [List.length_cons] at hf; omega) (fun y hy => hin y (List.mem_cons_of_mem _ hy)) ⟨fun y hy => hok.lv y (List.mem_cons_of_mem _ hy),fun y hy => hok.ck y (List.mem_cons_of_mem _ hy),fun y hy => hok.ab y (List.mem_cons_of_mem _ hy)⟩ ?_
   have e2 : old ++ cur.map (·.1) ++ ((id,low) :: r).map (·.1) = old ++ (cur ++ [(id,low)]).map (·.1) ++ r.map (·.1) := by simp
   rw [← e2]; exact hnd
theorem lvs_of {ck : NP → Int} : ∀ (ls : List Chn) (f : Nat) (lev id : Int) (outs : List Chn),Lv s ck lev id (outs.getLastD []) ls → ls.length ≤ f → Met s (idsOf outs ++ idsOf ls) → s.lvs ck f lev id outs = .inr (outs ++ ls)
 | [],_,_,_,_,h,_,_ => h.elim
 | c :: r,f,lev,id,outs,h,hf,hm => by
  obtain ⟨f,rfl⟩ : ∃ g,f = g + 1 := ⟨f - 1,by rw [List.length_cons] at hf; omega⟩
  obtain ⟨h1,h2,h3,h4⟩ := h
  have e0 : idsOf (c :: r) = c.map (·.1) ++ idsOf r := by simp [idsOf]
  have hm2 := hm
  rw [e0] at hm
  have hmc : Met s (idsOf outs ++ c.map (·.1)) := ⟨by have := hm.nd; rw [← List.append_assoc] at this; exact (List.nodup_append.1 this).1,fun x hx => hm.inn x (by rw [← List.append_assoc]; exact List.mem_append_left _ hx)⟩
  have hl := hmc.len
  rw [List.length_append,List.length_map] at hl
  have hc : s.chn ck lev (idsOf outs) (s.sl.length + 1 - (idsOf outs).length) id [] [] = .inr c := by
   have := chn_of (ck := ck) (lev := lev) (old := idsOf outs) c (s.sl.length + 1 - (idsOf outs).length) id [] [] h1 (by omega) (fun x hx => hmc.inn _ (List.mem_append_right _ (List.mem_map.2 ⟨x,hx,rfl⟩))) h2 (by simpa using hmc.nd)
   rw [this]; rfl
  have hs : s.stray (outs.getLastD []) c = none := by
   unfold AS.stray
   rw [Option.map_eq_none_iff,List.find?_eq_none]
   intro x hx
   simpa using h3 x hx
  rw [AS.lvs]
  simp only [hc,hs]
  rcases h4 with ⟨h5,rfl⟩ | ⟨h5,h6⟩
  ·rw [if_pos h5]
  ·rw [if_neg h5]
   have e1 : outs ++ c :: r = (outs ++ [c]) ++ r := by simp
   rw [e1]
   refine lvs_of r f _ _ _ ?_ (by rw [List.length_cons] at hf; omega) ?_
   ·have e : (outs ++ [c]).getLastD [] = c := by simp [List.getLastD_eq_getLast?]
    rw [e]; exact h6
   ·rw [ids_snoc,List.append_assoc]; exact hm
theorem snd_look {ls : List Chn} (h : Snd s nd lf inn fl bk ls) (hh : s.held = []) : s.look nd lf inn fl bk = .inr ls := by
 unfold AS.look
 rw [if_pos h.cfg,hh]
 simp only
 have h1 := lvs_of (ck := ckI nd lf inn fl bk) ls (s.sl.length + 1) (s.rd s.root).lv s.root [] h.lv ?_ (by simpa [idsOf] using h.met)
 ·rw [List.nil_append] at h1; exact h1
 ·have h2 := h.cnt
  have : ls.length ≤ cntC ls := by
   have hl := h.lv
   clear h2
   have : ∀ (ls : List Chn) (lev id : Int) (up : Chn),Lv s (ckI nd lf inn fl bk) lev id up ls → ls.length ≤ cntC ls := by
    intro ls
    induction ls with
    | nil => intro _ _ _ h; exact h.elim
    | cons c r ih =>
     intro lev id up h
     rw [cntC_cons,List.length_cons]
     have hc := List.length_pos_iff.2 h.1.ne
     rcases h.2.2.2 with ⟨_,rfl⟩ | ⟨_,h5⟩
     ·simp only [List.length_nil]; omega
     ·have := ih _ _ _ h5; omega
   exact this ls _ _ _ hl
  omega
end
section
variable {s : AS} {nd lf inn fl bk : Int} {cs : List Chn}
def OnT (cs : List Chn) (key : List Int) (id : Int) : Prop := ∃ l low,memL cs l (id,low) ∧ 0 ≤ cmpI key low
theorem OnT.ext {cs' : List Chn} {key : List Int} {id : Int} (h : OnT cs key id) (he : Ext cs cs') : OnT cs' key id := by
 obtain ⟨l,low,h1,h2⟩ := h
 exact ⟨l,low,he _ _ h1,h2⟩
theorem Tre.onRoot (h : Tre s nd lf inn fl bk cs) (key : List Int) : OnT cs key s.root := by
 have hne := h.ne
 obtain ⟨d,hd⟩ : ∃ d,cs[cs.length - 1]? = some d := ⟨_,List.getElem?_eq_getElem (by omega)⟩
 obtain ⟨r,hr⟩ := (h.rt d hd).head
 exact ⟨_,[],⟨d,hd,by rw [hr]; exact List.mem_cons_self⟩,cmp_nil_le key⟩
theorem Tre.right {l : Nat} {id : Int} {low : List Int} (h : Tre s nd lf inn fl bk cs) (hm : memL cs l (id,low)) (hri : (s.n id).ri ≠ 0) : memL cs l ((s.n id).ri,(s.n id).hi) := by
 obtain ⟨c,h1,h2⟩ := hm
 obtain ⟨i,hi⟩ := h.lk l c h1
 obtain ⟨a,r,e,hk⟩ := Lk.suf c _ _ hi _ h2
 simp only at hk
 obtain ⟨r2,rfl⟩ := hk.head
 rcases hk.2 with h3 | h3
 ·exact absurd h3.1 hri
 ·obtain ⟨r3,rfl⟩ := h3.2.head
  exact ⟨c,h1,by rw [e]; simp⟩
theorem Tre.onRight {key : List Int} {id : Int} (h : Tre s nd lf inn fl bk cs) (ho : OnT cs key id) (hb : beyB (s.n id).hi key = true) : OnT cs key (s.n id).ri := by
 obtain ⟨l,low,hm,hlow⟩ := ho
 unfold beyB at hb
 simp only [Bool.and_eq_true,decide_eq_true_eq] at hb
 have f1 := (nchk_more (h.ckk hm).1).1
 simp only at f1
 exact ⟨l,_,h.right hm (fun e => by have := f1.2 e; omega),hb.2⟩
theorem Tre.onDown {key : List Int} {id : Int} (h : Tre s nd lf inn fl bk cs) (ho : OnT cs key id) (hl : (s.n id).lv ≠ 0) : OnT cs key (chiN (s.n id).ks (s.n id).cs key) := by
 obtain ⟨l,low,hm,hlow⟩ := ho
 have hlv := h.lev hm
 obtain ⟨f1,f2,f3,f4,f5⟩ := nchk_more (h.ckk hm).1
 simp only at hlv f1 f2 f3 f4 f5
 obtain ⟨c,h1,h2⟩ := hm
 obtain ⟨b,rfl⟩ : ∃ b,l = b + 1 := ⟨l - 1,by omega⟩
 have hlt : b + 1 < cs.length := (List.getElem?_eq_some_iff.1 h1).1
 obtain ⟨e,he⟩ : ∃ e,cs[b]? = some e := ⟨_,List.getElem?_eq_getElem (by omega)⟩
 have hcs := f3 hl
 have hcl := cntL_le (s.n id).ks key
 have hj : min (cntL (s.n id).ks key) ((s.n id).cs.length - 1) = cntL (s.n id).ks key := by omega
 have hy := h.kid b e c he h1 _ h2 (cntL (s.n id).ks key) (by simp only; omega)
 have hch : chiN (s.n id).ks (s.n id).cs key = (s.kidAt (id,low) (cntL (s.n id).ks key)).1 := by
  unfold chiN AS.kidAt
  rw [if_neg (by omega),hj]
 have hlo2 : 0 ≤ cmpI key (s.kidAt (id,low) (cntL (s.n id).ks key)).2 := by
  unfold AS.kidAt
  simp only
  by_cases hz : cntL (s.n id).ks key = 0
  ·rw [if_pos hz]; exact hlow
  ·rw [if_neg hz]
   exact cntL_at f5.rs (by omega)
 rw [hch]
 exact ⟨b,_,⟨e,he,hy⟩,hlo2⟩
theorem Tre.root_low (h : Tre s nd lf inn fl bk cs) : memL cs (cs.length - 1) (s.root,[]) := by
 have hne := h.ne
 obtain ⟨d,hd⟩ : ∃ d,cs[cs.length - 1]? = some d := ⟨_,List.getElem?_eq_getElem (by omega)⟩
 obtain ⟨r,hr⟩ := (h.rt d hd).head
 exact ⟨d,hd,by rw [hr]; exact List.mem_cons_self⟩
end
def NP.kid (p : NP) (low : List Int) (k : Nat) : Int × List Int := (p.cs.getD k 0,if k = 0 then low else p.ks.getD (k - 1) [])
theorem kidAt_eq (s : AS) (x : Int × List Int) (k : Nat) : s.kidAt x k = (s.n x.1).kid x.2 k := rfl
theorem gdl {α : Type} {A B : List α} {i : Nat} (d : α) (h : i < A.length) : (A ++ B).getD i d = A.getD i d := by
 rw [List.getD_eq_getElem?_getD,List.getD_eq_getElem?_getD,List.getElem?_append_left h]
theorem gdr {α : Type} {A B : List α} {i : Nat} (d : α) (h : A.length ≤ i) : (A ++ B).getD i d = B.getD (i - A.length) d := by
 rw [List.getD_eq_getElem?_getD,List.getD_eq_getElem?_getD,List.getElem?_append_right h]
theorem gdt {α : Type} {A : List α} {i n : Nat} (d : α) (h : i < n) : (A.take n).getD i d = A.getD i d := by
 rw [List.getD_eq_getElem?_getD,List.getD_eq_getElem?_getD,List.getElem?_take_of_lt h]
theorem gdd {α : Type} {A : List α} {i n : Nat} (d : α) : (A.drop n).getD i d = A.getD (n + i) d := by
 rw [List.getD_eq_getElem?_getD,List.getD_eq_getElem?_getD,List.getElem?_drop]
section
variable {p : NP} {nd lf inn fl bk : Int} {low : List Int}
theorem nab_of (hk : ∀ k ∈ p.ks,0 ≤ cmpI k low) (hh : p.hi.length = 0 ∨ 0 < cmpI p.hi low) : ¬ notAb low p := by
 rintro ⟨_,h2 | h2⟩
 ·have := hk _ (getD_mem' [] h2.1)
  omega
 ·rcases hh with h | h <;> omega
theorem nab_to (h : ¬ notAb low p) (hm : MayB p nd) : (∀ k ∈ p.ks,0 ≤ cmpI k low) ∧ (p.hi.length = 0 ∨ 0 < cmpI p.hi low) := by
 obtain ⟨h1,h2⟩ := (lies_iff (kyp_iff.2 ⟨hm.kg,hm.rs⟩)).2 h
 refine ⟨fun k hk => ?_,h2⟩
 obtain ⟨i,hi,rfl⟩ := List.getElem_of_mem hk
 have := h1 i hi
 simpa [hi] using this
theorem insL_in {α : Type} {l : List α} {i : Nat} {x y : α} (h : y ∈ insL l i x) : y = x ∨ y ∈ l := by
 unfold insL at h
 rcases List.mem_append.1 h with h | h
 ·exact .inr (List.mem_of_mem_take h)
 ·rcases List.mem_cons.1 h with h | h
  ·exact .inl h
  ·exact .inr (List.mem_of_mem_drop h)
theorem with_head (key val : List Int) : (p.with_ key val).lv = p.lv ∧ (p.with_ key val).hi = p.hi ∧ (p.with_ key val).ri = p.ri ∧ (p.with_ key val).cs = p.cs := by
 unfold NP.with_; split <;> exact ⟨rfl,rfl,rfl,rfl⟩
theorem joined_head (key : List Int) (kid : Int) : (p.joined key kid).lv = p.lv ∧ (p.joined key kid).hi = p.hi ∧ (p.joined key kid).ri = p.ri := by
 unfold NP.joined; split <;> exact ⟨rfl,rfl,rfl⟩
theorem with_mem {key val k : List Int} (h : k ∈ (p.with_ key val).ks) : k = key ∨ k ∈ p.ks := by
 unfold NP.with_ at h
 split at h
 ·exact .inr h
 ·exact insL_in h
theorem joined_mem {key k : List Int} {kid : Int} (h : k ∈ (p.joined key kid).ks) : k = key ∨ k ∈ p.ks := by
 unfold NP.joined at h
 split at h
 ·exact .inr h
 ·exact insL_in h
theorem leaf_fate {key val : List Int} (h : nchkE p nd lf inn fl bk = 0) (h0 : p.lv = 0) (hk : 1 ≤ key.length ∧ key.length ≤ 64) (hb : beyB p.hi key = false) (hv : val.length ≤ 256) (hlow : 0 ≤ cmpI key low) (hn : ¬ notAb low p) :
  MayB (p.with_ key val) nd ∧ ¬ notAb low (p.with_ key val) ∧ ((p.with_ key val).ks.length : Int) ≤ lf + 1 := by
 obtain ⟨_,hm,ho⟩ := may_of h
 obtain ⟨h1,h2,h3⟩ := hm.with_ (value := val) h0 hk hb hv
 obtain ⟨n1,n2⟩ := nab_to hn hm
 have hh := with_head (p := p) key val
 refine ⟨h1,nab_of (fun k hk => ?_) (by rw [hh.2.1]; exact n2),?_⟩
 ·rcases with_mem hk with rfl | hk
  ·exact hlow
  ·exact n1 k hk
 ·unfold OvP at ho
  rw [if_pos h0] at ho
  omega
theorem inner_fate {key : List Int} {kid : Int} (h : nchkE p nd lf inn fl bk = 0) (h0 : p.lv ≠ 0) (hk : 1 ≤ key.length ∧ key.length ≤ 64) (hb : beyB p.hi key = false) (hc : 1 ≤ kid ∧ kid ≤ nd) (hnk : kid ∉ p.cs) (hlow : 0 ≤ cmpI key low) (hn : ¬ notAb low p) :
  MayB (p.joined key kid) nd ∧ ¬ notAb low (p.joined key kid) ∧ ((p.joined key kid).cs.length : Int) ≤ inn + 1 := by
 obtain ⟨_,hm,ho⟩ := may_of h
 obtain ⟨h1,h2,h3⟩ := hm.joined h0 hk hb hc hnk
 obtain ⟨n1,n2⟩ := nab_to hn hm
 have hh := joined_head (p := p) key kid
 refine ⟨h1,nab_of (fun k hk => ?_) (by rw [hh.2.1]; exact n2),?_⟩
 ·rcases joined_mem hk with rfl | hk
  ·exact hlow
  ·exact n1 k hk
 ·unfold OvP at ho
  rw [if_neg h0] at ho
  omega
theorem joined_kids {key : List Int} {kid : Int} (hm : MayB p nd) (h0 : p.lv ≠ 0) (hi : isIn p.ks key = false) (k : Nat) (hk : k < (p.joined key kid).cs.length) : (p.joined key kid).kid low k = (kid,key) ∨ ∃ k',k' < p.cs.length ∧ (p.joined key kid).kid low k = p.kid low k' := by
 obtain ⟨A,B,hA,hB,hc,hor⟩ := parts p.ks key hm.rs
 rcases hm.bd with h1 | h1
 ·exact absurd h1.1 h0
 rcases hor with ⟨hin,_⟩ | ⟨_,hks⟩
 ·rw [hi] at hin; cases hin
 have e1 : p.joined key kid = { p with ks := insL p.ks (cntB p.ks key) key,cs := insL p.cs (cntB p.ks key + 1) kid } := by unfold NP.joined; rw [hi]; rfl
 have hiv : cntB p.ks key + 1 ≤ p.cs.length := by rw [h1.2.2.1,hc,hks]; simp
 obtain ⟨C,D,hcs,hC⟩ := split_at hiv
 have e2 : insL p.cs (cntB p.ks key + 1) kid = C ++ kid :: D := by rw [hcs,← hC,insL_at]
 have e3 : insL p.ks (cntB p.ks key) key = A ++ key :: B := by rw [hc,hks,insL_at]
 rw [hc] at hC
 have hlen : p.cs.length = C.length + D.length := by rw [hcs]; simp
 rw [e1,e2,e3] at hk ⊢
 simp only [List.length_append,List.length_cons] at hk
 unfold NP.kid
 simp only
 rw [hcs,hks]
 rcases Nat.lt_trichotomy k (A.length + 1) with hlt | heq | hgt
 ·refine .inr ⟨k,by simp only [List.length_append]; omega,?_⟩
  rw [gdl (A := C) (B := kid :: D) 0 (by omega),gdl (A := C) (B := D) 0 (by omega)]
  by_cases hk0 : k = 0
  ·rw [if_pos hk0,if_pos hk0]
  ·rw [if_neg hk0,if_neg hk0,gdl (A := A) (B := key :: B) [] (by omega),gdl (A := A) (B := B) [] (by omega)]
 ·left
  rw [gdr (A := C) (B := kid :: D) 0 (by omega),if_neg (by omega),gdr (A := A) (B := key :: B) [] (by omega),show k - C.length = 0 by omega,show k - 1 - A.length = 0 by omega]
  rfl
 ·refine .inr ⟨k - 1,by simp only [List.length_append]; omega,?_⟩
  rw [gdr (A := C) (B := kid :: D) 0 (by omega),gdr (A := C) (B := D) 0 (by omega),if_neg (by omega),if_neg (by omega),gdr (A := A) (B := key :: B) [] (by omega),gdr (A := A) (B := B) [] (by omega)]
  rw [show k - C.length = (k - 1 - C.length) + 1 by omega,show k - 1 - A.length = (k - 1 - 1 - A.length) + 1 by omega]
  rfl
theorem one_kids {r : Int} (h0 : p.lv ≠ 0) (k : Nat) (hk : k < (p.one r).cs.length) : k < p.cs.length ∧ (p.one r).kid low k = p.kid low k := by
 unfold NP.one NP.kid at *
 simp only [List.length_take] at hk ⊢
 have e : p.cutK = p.half - 1 := if_neg h0
 refine ⟨by omega,?_⟩
 rw [gdt (A := p.cs) (n := p.half) 0 (by omega)]
 by_cases hk0 : k = 0
 ·rw [if_pos hk0,if_pos hk0]
 ·rw [if_neg hk0,if_neg hk0,gdt (A := p.ks) (n := p.cutK) [] (by omega)]
theorem two_kids (h0 : p.lv ≠ 0) (hw : 2 ≤ p.wd) (k : Nat) (hk : k < p.two.cs.length) : p.half + k < p.cs.length ∧ p.two.kid p.bet k = p.kid low (p.half + k) := by
 have hh : 1 ≤ p.half := by unfold NP.half; omega
 have e : p.cutK = p.half - 1 := if_neg h0
 have er : p.restK = (p.ks.drop p.cutK).drop 1 := if_neg h0
 have hb := p.bet_at
 unfold NP.two NP.kid at *
 simp only [List.length_drop] at hk ⊢
 refine ⟨by omega,?_⟩
 have c1 : (p.cs.drop p.half).getD k 0 = p.cs.getD (p.half + k) 0 := gdd 0
 rw [c1,if_neg (show ¬ p.half + k = 0 by omega)]
 by_cases hk0 : k = 0
 ·rw [if_pos hk0,hb,e]
  simp only [hk0,Nat.add_zero]
 ·have c2 : ((p.ks.drop p.cutK).drop 1).getD (k - 1) [] = p.ks.getD (p.cutK + (1 + (k - 1))) [] := by rw [gdd,gdd]
  rw [if_neg hk0,er,c2,e,show p.half - 1 + (1 + (k - 1)) = p.half + k - 1 by omega]
theorem halves_ok {r : Int} (hc : cfgOk nd lf inn fl bk) (hm : MayB p nd) (ho : OvP p.lv p.ks.length p.cs.length lf inn) (hr : 1 ≤ r ∧ r ≤ nd) (hn : ¬ notAb low p) (h1 : p.lv = 0 → (p.ks.length : Int) ≤ lf + 1) (h2 : p.lv ≠ 0 → (p.cs.length : Int) ≤ inn + 1) :
  nchkE (p.one r) nd lf inn fl bk = 0 ∧ nchkE p.two nd lf inn fl bk = 0 ∧ ¬ notAb low (p.one r) ∧ ¬ notAb p.bet p.two ∧ (1 ≤ p.bet.length ∧ p.bet.length ≤ 64) ∧ 2 ≤ p.wd ∧ 0 < cmpI p.bet low := by
 have hlf := hc.2.1.1
 have hin := hc.2.2.1.1
 have hw := over_wd ho hm hlf hin
 obtain ⟨g1,g2⟩ := hm.halves hw hc.1.1
 obtain ⟨f1,f2⟩ := halves_few hm hw hlf hin h1 h2
 obtain ⟨n1,n2⟩ := nab_to hn hm
 have hbm := bet_mem hm hw
 have hbk := (hm.kg _ hbm)
 have hrt := hm.rt
 have hct := cutK_lt hrt hw
 have hcut : 1 ≤ p.cutK := by
  unfold NP.cutK NP.half
  unfold OvP at ho
  by_cases h0 : p.lv = 0
  ·rw [if_pos h0]; omega
  ·rw [if_neg h0] at ho ⊢
   have : p.wd = p.cs.length := if_neg h0
   omega
 have g1' : MayB (p.one r) nd := ⟨⟨⟨g1.hd.1.1,(by show 0 ≤ r ∧ r ≤ nd; omega)⟩,(by show p.bet.length = 0 ↔ r = 0; omega),g1.hd.2.2⟩,g1.kg,g1.rs,g1.bd⟩
 have hbl : 0 < cmpI p.bet low := by
  have h3 := hrt.1.pair
  have hx : cmpI (p.ks.getD 0 []) p.bet < 0 := by
   rw [p.bet_at]
   exact hrt.1.at_lt (by omega) hct
  have hy := n1 (p.ks.getD 0 []) (getD_mem' [] (by omega))
  have e1 := cmpI_swap (p.ks.getD 0 []) p.bet
  have e2 := cmpI_swap (p.ks.getD 0 []) low
  refine Decidable.byContradiction fun hc => ?_
  have := (cmpI_trans p.bet low (p.ks.getD 0 []) (by omega) (by omega)).1
  omega
 refine ⟨may_to hc g1' f1,may_to hc g2 f2,nab_of (fun k hk => n1 k (List.mem_of_mem_take hk)) (.inr hbl),nab_of (fun k hk => ?_) ?_,hbk.1,hw,hbl⟩
 ·obtain ⟨i,hi,rfl⟩ := List.getElem_of_mem hk
  have := keys_r hrt hw i hi
  show 0 ≤ cmpI (p.restK[i]) p.bet
  omega
 ·by_cases hz : p.hi.length = 0
  ·exact .inl hz
  ·right
   have h4 := hbk.2
   unfold beyB at h4
   simp only [Bool.and_eq_false_iff,decide_eq_false_iff_not] at h4
   have h5 : ¬ 0 ≤ cmpI p.bet p.hi := by
    rcases h4 with h4 | h4
    ·omega
    ·exact h4
   have e := cmpI_swap p.bet p.hi
   show 0 < cmpI p.hi p.bet
   omega
end
def mset (key val : List Int) : List (List Int × List Int) → List (List Int × List Int)
 | [] => [(key,val)]
 | x :: r => if cmpI x.1 key < 0 then x :: mset key val r else if x.1 = key then (key,val) :: r else (key,val) :: x :: r
section
variable {key val : List Int}
theorem mset_app : ∀ {A B : List (List Int × List Int)},(∀ x ∈ A,cmpI x.1 key < 0) → mset key val (A ++ B) = A ++ mset key val B
 | [],_,_ => rfl
 | a :: A,B,h => by
  rw [List.cons_append,mset,if_pos (h a List.mem_cons_self),mset_app (fun x hx => h x (List.mem_cons_of_mem _ hx))]
  rfl
theorem mset_nil : ∀ {B : List (List Int × List Int)},(∀ x ∈ B,cmpI key x.1 < 0) → mset key val B = (key,val) :: B
 | [],_ => rfl
 | b :: B,h => by
  have h1 := h b List.mem_cons_self
  rw [mset,if_neg (cmp_gt h1),if_neg (fun e => cmp_ne h1 e.symm)]
theorem mset_top : ∀ {A B : List (List Int × List Int)},(∀ x ∈ B,cmpI key x.1 < 0) → mset key val (A ++ B) = mset key val A ++ B
 | [],B,h => by rw [List.nil_append,mset_nil h]; rfl
 | a :: A,B,h => by
  rw [List.cons_append,mset,mset]
  split
  ·rw [mset_top h]; rfl
  ·split <;> rfl
end
section
variable {p : NP} {nd : Int}
theorem ents_zip (h : p.vs.length = p.ks.length) : p.ents = p.ks.zip p.vs := by
 refine List.ext_getElem (by simp [NP.ents,h]) fun i h1 h2 => ?_
 simp only [NP.ents,List.length_map,List.length_range] at h1
 simp [NP.ents,h1,h]
theorem with_ents {key val : List Int} (hm : MayB p nd) (h0 : p.lv = 0) : (p.with_ key val).ents = mset key val p.ents := by
 obtain ⟨A,B,hA,hB,hc,hor⟩ := parts p.ks key hm.rs
 rcases hm.bd with h1 | h1
 case inr => exact absurd h0 h1.1
 have hvl := h1.2.2.1
 have zA : ∀ (E : List (List Int)),∀ x ∈ A.zip E,cmpI x.1 key < 0 := fun E x hx => hA _ (List.of_mem_zip (a := x.1) (b := x.2) hx).1
 have zB : ∀ (E : List (List Int)),∀ x ∈ B.zip E,cmpI key x.1 < 0 := fun E x hx => hB _ (List.of_mem_zip (a := x.1) (b := x.2) hx).1
 rcases hor with ⟨hin,hks⟩ | ⟨hin,hks⟩
 ·have e1 : p.with_ key val = { p with vs := insL (remL p.vs (cntB p.ks key)) (cntB p.ks key) val } := by unfold NP.with_; rw [hin]; rfl
  have hiv : cntB p.ks key < p.vs.length := by rw [hvl,hc,hks]; simp
  obtain ⟨E,x,F,hvs,hE⟩ := split_at1 hiv
  have e2 : insL (remL p.vs (cntB p.ks key)) (cntB p.ks key) val = E ++ val :: F := by rw [hvs,← hE,remL_at,insL_at]
  rw [hc] at hE
  rw [e1,e2,ents_zip (by simp only; rw [hks]; rw [hvs,hks] at hvl; simpa using hvl),ents_zip hvl]
  simp only
  rw [hks,hvs,List.zip_append hE.symm,List.zip_append hE.symm,mset_app (zA E)]
  rw [List.zip_cons_cons,List.zip_cons_cons,mset,if_neg (by simp only [cmpI_refl]; decide),if_pos rfl]
 ·have e1 : p.with_ key val = { p with ks := insL p.ks (cntB p.ks key) key,vs := insL p.vs (cntB p.ks key) val } := by unfold NP.with_; rw [hin]; rfl
  have hiv : cntB p.ks key ≤ p.vs.length := by rw [hvl,hc,hks]; simp
  obtain ⟨E,F,hvs,hE⟩ := split_at hiv
  have e2 : insL p.vs (cntB p.ks key) val = E ++ val :: F := by rw [hvs,← hE,insL_at]
  have e3 : insL p.ks (cntB p.ks key) key = A ++ key :: B := by rw [hc,hks,insL_at]
  rw [hc] at hE
  have hl : (E ++ F).length = (A ++ B).length := by rw [← hvs,← hks]; exact hvl
  rw [e1,e2,e3,ents_zip (by simp only [List.length_append,List.length_cons] at hl ⊢; omega),ents_zip hvl]
  simp only
  rw [hks,hvs,List.zip_append hE.symm,List.zip_append hE.symm,mset_app (zA E),List.zip_cons_cons,mset_nil (zB F)]
theorem halves_ents {r : Int} (h0 : p.lv = 0) (hv : p.vs.length = p.ks.length) : (p.one r).ents ++ p.two.ents = p.ents := by
 have e1 : p.cutK = p.half := if_pos h0
 have e2 : p.restK = p.ks.drop p.cutK := if_pos h0
 have l1 : (p.vs.take p.half).length = (p.ks.take p.half).length := by simp [hv]
 rw [ents_zip (p := p.one r) (by show (p.vs.take p.half).length = (p.ks.take p.cutK).length; rw [e1]; exact l1),ents_zip (p := p.two) (by show (p.vs.drop p.half).length = p.restK.length; rw [e2,e1]; simp [hv]),ents_zip hv]
 show (p.ks.take p.cutK).zip (p.vs.take p.half) ++ p.restK.zip (p.vs.drop p.half) = _
 rw [e2,e1,← List.zip_append l1.symm,List.take_append_drop,List.take_append_drop]
end
def entsC (s : AS) (c : Chn) : List (List Int × List Int) := c.flatMap fun x => (s.n x.1).ents
theorem entsC_app (s : AS) (a b : Chn) : entsC s (a ++ b) = entsC s a ++ entsC s b := by unfold entsC; rw [List.flatMap_append]
theorem entsC_cons (s : AS) (x : Int × List Int) (b : Chn) : entsC s (x :: b) = (s.n x.1).ents ++ entsC s b := by unfold entsC; rw [List.flatMap_cons]
theorem entsC_same {s t : AS} : ∀ {c : Chn},(∀ x ∈ c,t.n x.1 = s.n x.1) → entsC t c = entsC s c
 | [],_ => rfl
 | x :: r,h => by rw [entsC_cons,entsC_cons,h x List.mem_cons_self,entsC_same (fun y hy => h y (List.mem_cons_of_mem _ hy))]
theorem insA_at {y : Int × List Int} {j : Int} {low : List Int} {r : Chn} : ∀ {a : Chn},j ∉ a.map (·.1) → insA y j (a ++ (j,low) :: r) = a ++ (j,low) :: y :: r
 | [],_ => by rw [List.nil_append,insA,if_pos rfl]; rfl
 | x :: a,h => by
  rw [List.map_cons,List.mem_cons,not_or] at h
  rw [List.cons_append,insA,if_neg (fun e => h.1 e.symm),insA_at h.2]; rfl
section
variable {s t : AS} {nd lf inn fl bk : Int} {cs : List Chn}
theorem Tre.map (h : Tre s nd lf inn fl bk cs) (hc : cfgOk nd lf inn fl bk) (hev : ∀ id,s.inn id → s.w id % 2 = 0) {c : Chn} (h0 : cs[0]? = some c) : s.map = entsC s c := by
 rw [map_snd (h.snd hc hev)]
 have e : cs.reverse.getLastD [] = c := by
  rw [List.getLastD_eq_getLast?,List.getLast?_reverse,List.head?_eq_getElem?,h0]; rfl
 rw [e]; rfl
theorem lk_sep {l : Int} {x : Int × List Int} {r : Chn} : ∀ (a : Chn) (id : Int) (low : List Int),Lk s id low (a ++ x :: r) → ChnOk s (ckI nd lf inn fl bk) l (a ++ x :: r) → (∀ y ∈ a,∀ k ∈ (s.n y.1).ks,cmpI k x.2 < 0) ∧ (∀ y ∈ r,∀ k ∈ (s.n y.1).ks,(s.n x.1).hi ≠ [] ∧ 0 ≤ cmpI k (s.n x.1).hi)
 | [],id,low,h,hc => by
  rw [List.nil_append] at h hc
  obtain ⟨rfl,h2⟩ := h
  refine ⟨fun y hy => (by cases hy),fun y hy k hk => ?_⟩
  rcases h2 with ⟨_,rfl⟩ | ⟨hri,h3⟩
  ·cases hy
  ·have h4 := Lk.lows _ _ _ h3 hc.tail y hy
   have h5 := lies_mem (hc.tail.lies hy) hk
   exact ⟨fun e => hri ((nchk_more (hc.ck _ List.mem_cons_self)).1.1 (by simp only at e ⊢; rw [e]; rfl)),cmp_ge_trans h5 h4⟩
 | z :: a,id,low,h,hc => by
  rw [List.cons_append] at h hc
  obtain ⟨rfl,h2⟩ := h
  rcases h2 with ⟨_,e⟩ | ⟨hri,h3⟩
  ·simp at e
  ·obtain ⟨g1,g2⟩ := lk_sep a _ _ h3 hc.tail
   refine ⟨fun y hy k hk => ?_,g2⟩
   rcases List.mem_cons.1 hy with rfl | hy
   ·have h4 := Lk.lows _ _ _ h3 hc.tail x (by simp)
    obtain ⟨_,hm,_⟩ := may_of (hc.ck _ List.mem_cons_self)
    have h5 := (hm.kg k hk).2
    have h6 := (nchk_more (hc.ck _ List.mem_cons_self)).1
    simp only at h5 h6
    unfold beyB at h5
    simp only [Bool.and_eq_false_iff,decide_eq_false_iff_not] at h5
    have h7 : cmpI k (s.n id).hi < 0 := by
     rcases h5 with h5 | h5
     ·exact absurd (h6.1 (by omega)) hri
     ·omega
    exact cmp_lt_ge h7 h4
   ·exact g1 y hy k hk
theorem ents_key {p : NP} {x : List Int × List Int} (hx : x ∈ p.ents) : x.1 ∈ p.ks := by
 rw [← ents_fst p]; exact List.mem_map.2 ⟨x,hx,rfl⟩
theorem Tre.sepE (h : Tre s nd lf inn fl bk cs) {c : Chn} {l : Nat} (h0 : cs[l]? = some c) {j : Int} {low key : List Int} (hj : (j,low) ∈ c) (hl : 0 ≤ cmpI key low) (hb : beyB (s.n j).hi key = false) : ∃ a r,c = a ++ (j,low) :: r ∧ j ∉ a.map (·.1) ∧ j ∉ r.map (·.1) ∧ (∀ x ∈ entsC s a,cmpI x.1 key < 0) ∧ (∀ x ∈ entsC s r,cmpI key x.1 < 0) := by
 obtain ⟨a,r,e⟩ := List.append_of_mem hj
 obtain ⟨i,hi⟩ := h.lk l c h0
 have hok := h.ok l c h0
 have hnd := h.nd l c h0
 rw [e] at hi hok hnd
 obtain ⟨g1,g2⟩ := lk_sep a _ _ hi hok
 rw [List.map_append,List.map_cons] at hnd
 obtain ⟨_,n2,n3⟩ := List.nodup_append.1 hnd
 refine ⟨a,r,e,fun hm => n3 j hm j List.mem_cons_self rfl,(List.nodup_cons.1 n2).1,fun x hx => ?_,fun x hx => ?_⟩
 ·obtain ⟨y,hy,hx⟩ := List.mem_flatMap.1 hx
  exact cmp_lt_ge (g1 y hy _ (ents_key hx)) hl
 ·obtain ⟨y,hy,hx⟩ := List.mem_flatMap.1 hx
  obtain ⟨g3,g4⟩ := g2 y hy _ (ents_key hx)
  unfold beyB at hb
  simp only [Bool.and_eq_false_iff,decide_eq_false_iff_not] at hb
  have g5 : cmpI key (s.n j).hi < 0 := by
   rcases hb with hb | hb
   ·exact absurd (List.length_pos_iff.2 g3) hb
   ·omega
  exact cmp_lt_ge g5 g4
theorem Tre.mapWith (h : Tre s nd lf inn fl bk cs) {c : Chn} (h0 : cs[0]? = some c) {j : Int} {low key val : List Int} (hj : (j,low) ∈ c) (hl : 0 ≤ cmpI key low) (hb : beyB (s.n j).hi key = false) (hn : ∀ x ∈ c,x.1 ≠ j → t.n x.1 = s.n x.1) (he : (t.n j).ents = mset key val (s.n j).ents) : entsC t c = mset key val (entsC s c) := by
 obtain ⟨a,r,e,n1,n2,g1,g2⟩ := h.sepE h0 hj hl hb
 subst e
 have ea : entsC t a = entsC s a := entsC_same (fun x hx => hn x (List.mem_append_left _ hx) (fun e => n1 (List.mem_map.2 ⟨x,hx,e⟩)))
 have er : entsC t r = entsC s r := entsC_same (fun x hx => hn x (List.mem_append_right _ (List.mem_cons_of_mem _ hx)) (fun e => n2 (List.mem_map.2 ⟨x,hx,e⟩)))
 rw [entsC_app,entsC_cons,entsC_app,entsC_cons,ea,er]
 simp only
 rw [he,mset_app g1,mset_top g2]
theorem Tre.mapSplit (h : Tre s nd lf inn fl bk cs) {c : Chn} (h0 : cs[0]? = some c) {j S : Int} {low key val K : List Int} (hj : (j,low) ∈ c) (hl : 0 ≤ cmpI key low) (hb : beyB (s.n j).hi key = false) (hn : ∀ x ∈ c,x.1 ≠ j → t.n x.1 = s.n x.1) (he : (t.n j).ents ++ (t.n S).ents = mset key val (s.n j).ents) : entsC t (insA (S,K) j c) = mset key val (entsC s c) := by
 obtain ⟨a,r,e,n1,n2,g1,g2⟩ := h.sepE h0 hj hl hb
 subst e
 have ea : entsC t a = entsC s a := entsC_same (fun x hx => hn x (List.mem_append_left _ hx) (fun e => n1 (List.mem_map.2 ⟨x,hx,e⟩)))
 have er : entsC t r = entsC s r := entsC_same (fun x hx => hn x (List.mem_append_right _ (List.mem_cons_of_mem _ hx)) (fun e => n2 (List.mem_map.2 ⟨x,hx,e⟩)))
 rw [insA_at n1,entsC_app,entsC_cons,entsC_cons,entsC_app,entsC_cons,ea,er]
 simp only
 rw [mset_app g1,mset_top g2,← he,List.append_assoc]
end
def Am (t : AS) (cs : List Chn) : Prop := ∀ (l : Nat) (x : Int × List Int),memL cs (l + 1) x → 2 ≤ (t.n x.1).cs.length ∧ ∀ k ∈ (t.n x.1).ks,0 < cmpI k x.2
theorem Am.same {t t' : AS} {cs : List Chn} (h : Am t cs) (hn : ∀ (l : Nat) (x : Int × List Int),memL cs l x → t'.n x.1 = t.n x.1) : Am t' cs := fun l x hm => by
 rw [hn _ _ hm]; exact h l x hm
def Upl (cs cs' : List Chn) (l : Nat) : Prop := ∀ j,j ≠ l → cs'[j]? = cs[j]?
def kidC (t : AS) (c : Chn) : Nat := (c.flatMap fun x => (t.n x.1).cs).length
def kidN (t : AS) (cs : List Chn) : Nat := (cs.map (kidC t)).sum
def nodN (cs : List Chn) : Nat := (cs.map List.length).sum
theorem Upl.refl (cs : List Chn) (l : Nat) : Upl cs cs l := fun _ _ => rfl
theorem kidC_cons (t : AS) (x : Int × List Int) (c : Chn) : kidC t (x :: c) = (t.n x.1).cs.length + kidC t c := by unfold kidC; rw [List.flatMap_cons,List.length_append]
theorem kidC_same {t t' : AS} : ∀ {c : Chn},(∀ x ∈ c,t'.n x.1 = t.n x.1) → kidC t' c = kidC t c
 | [],_ => rfl
 | x :: c,h => by rw [kidC_cons,kidC_cons,h x (.head _),kidC_same (fun y hy => h y (.tail _ hy))]
theorem kidC_at {t t' : AS} {j : Int} : ∀ {c : Chn} {low : List Int},(c.map (·.1)).Nodup → (j,low) ∈ c → (∀ x ∈ c,x.1 ≠ j → t'.n x.1 = t.n x.1) → kidC t' c + (t.n j).cs.length = kidC t c + (t'.n j).cs.length
 | [],_,_,h,_ => by cases h
 | x :: c,low,hn,h,hs => by
  rw [List.map_cons,List.nodup_cons] at hn
  rw [kidC_cons,kidC_cons]
  by_cases e : x.1 = j
  ·have h1 := kidC_same (t := t) (t' := t') (c := c) (fun y hy => hs y (.tail _ hy) (fun e2 => hn.1 (List.mem_map.2 ⟨y,hy,by rw [e2,e]⟩)))
   rw [e,h1]
   omega
  ·have hm : (j,low) ∈ c := by
    rcases List.mem_cons.1 h with e2 | h
    ·exact absurd (by rw [← e2]) e
    ·exact h
   have h1 := kidC_at hn.2 hm (fun y hy => hs y (.tail _ hy))
   rw [hs x (.head _) e]
   omega
theorem kidC_ins {t t' : AS} {j : Int} {y : Int × List Int} : ∀ {c : Chn} {low : List Int},(c.map (·.1)).Nodup → (j,low) ∈ c → (∀ x ∈ c,x.1 ≠ j → t'.n x.1 = t.n x.1) → kidC t' (insA y j c) + (t.n j).cs.length = kidC t c + (t'.n j).cs.length + (t'.n y.1).cs.length
 | [],_,_,h,_ => by cases h
 | x :: c,low,hn,h,hs => by
  rw [List.map_cons,List.nodup_cons] at hn
  rw [insA]
  by_cases e : x.1 = j
  ·have h1 := kidC_same (t := t) (t' := t') (c := c) (fun y hy => hs y (.tail _ hy) (fun e2 => hn.1 (List.mem_map.2 ⟨y,hy,by rw [e2,e]⟩)))
   rw [if_pos e,kidC_cons,kidC_cons,kidC_cons,e,h1]
   omega
  ·have hm : (j,low) ∈ c := by
    rcases List.mem_cons.1 h with e2 | h
    ·exact absurd (by rw [← e2]) e
    ·exact h
   have h1 := kidC_ins (y := y) hn.2 hm (fun y hy => hs y (.tail _ hy))
   rw [if_neg e,kidC_cons,kidC_cons,hs x (.head _) e]
   omega
theorem insA_len1 {j : Int} {y : Int × List Int} : ∀ {c : Chn} {low : List Int},(j,low) ∈ c → (insA y j c).length = c.length + 1
 | [],_,h => by cases h
 | x :: c,low,h => by
  rw [insA]
  by_cases e : x.1 = j
  ·rw [if_pos e]; rfl
  ·have hm : (j,low) ∈ c := by
    rcases List.mem_cons.1 h with e2 | h
    ·exact absurd (by rw [← e2]) e
    ·exact h
   rw [if_neg e,List.length_cons,insA_len1 hm,List.length_cons]
theorem kidN_same {t t' : AS} {cs : List Chn} (h : ∀ (l : Nat) (x : Int × List Int),memL cs l x → t'.n x.1 = t.n x.1) : kidN t' cs = kidN t cs := by
 unfold kidN
 congr 1
 refine List.map_congr_left fun c hc => ?_
 obtain ⟨l,hl,e⟩ := List.getElem_of_mem hc
 exact kidC_same fun x hx => h l x ⟨c,by rw [List.getElem?_eq_getElem hl,e],hx⟩
theorem sum_set (f g : Chn → Nat) : ∀ (cs : List Chn) (l : Nat) (c c' : Chn),cs[l]? = some c → (∀ (k : Nat) (d : Chn),k ≠ l → cs[k]? = some d → g d = f d) → ((cs.set l c').map g).sum + f c = (cs.map f).sum + g c'
 | [],l,c,c',h,_ => by simp at h
 | d :: cs,0,c,c',h,hs => by
  have e : d = c := by simpa using h
  subst e
  have h1 : cs.map g = cs.map f := by
   refine List.map_congr_left fun x hx => ?_
   obtain ⟨k,hk,e⟩ := List.getElem_of_mem hx
   exact hs (k + 1) x (by omega) (by rw [List.getElem?_cons_succ,List.getElem?_eq_getElem hk,e])
  rw [List.set_cons_zero,List.map_cons,List.map_cons,List.sum_cons,List.sum_cons,h1]
  omega
 | d :: cs,l + 1,c,c',h,hs => by
  have h1 := sum_set f g cs l c c' (by simpa using h) (fun k d hk hd => hs (k + 1) d (by omega) (by simpa using hd))
  have h2 := hs 0 d (by omega) rfl
  rw [List.set_cons_succ,List.map_cons,List.map_cons,List.sum_cons,List.sum_cons,h2]
  omega
theorem set_same {cs : List Chn} {l : Nat} {c : Chn} (h : cs[l]? = some c) : cs.set l c = cs := by
 refine List.ext_getElem? fun k => ?_
 rw [set_get cs l k c h]
 split
 ·rename_i e; rw [← e,h]
 ·rfl
def Cn (u : US) (o : UO) (t : AS) (cs : List Chn) (t' : AS) (cs' : List Chn) : Prop :=
 (u.nx ≠ 4 → u.nx ≠ 8 → (u.nx = 14 → o.u.nx ≠ 15) → nodN cs' = nodN cs ∧ kidN t' cs' = kidN t cs) ∧
 (u.nx = 4 → nodN cs' = nodN cs ∧ kidN t' cs' = kidN t cs + if u.lev = 0 then 0 else 1) ∧
 (u.nx = 8 → nodN cs' = nodN cs + 1 ∧ kidN t' cs' = kidN t cs + if u.lev = 0 then 0 else 1) ∧
 (u.nx = 14 → o.u.nx = 15 → nodN cs' = nodN cs + 1 ∧ kidN t' cs' = kidN t cs + 2 ∧ Upl cs cs' u.lev.toNat)
theorem Cn.same {u : US} {o : UO} {t t' : AS} {cs : List Chn} (hnx : u.nx ≠ 4 ∧ u.nx ≠ 8 ∧ (u.nx = 14 → o.u.nx ≠ 15)) (h : ∀ (l : Nat) (x : Int × List Int),memL cs l x → t'.n x.1 = t.n x.1) : Cn u o t cs t' cs :=
 ⟨fun _ _ _ => ⟨rfl,kidN_same h⟩,fun e => absurd e hnx.1,fun e => absurd e hnx.2.1,fun e e2 => absurd e2 (hnx.2.2 e)⟩
structure Sw (s t : AS) (C : Int → Prop) (wd : Nat) (n0 : NP) (Y : Prop) (id : Int) (m : Nat) : Prop where
 inn : s.inn id
 d : ∃ d,d ≤ m ∧ s.w id = (wd + d) % 18446744073709551616 ∧ (d ≤ 1 → t.n id = n0) ∧ (d = 0 → Y) ∧ (d = 1 → C id → Y)
section
variable {s t s' t' : AS} {C C' : Int → Prop} {wd : Nat} {n0 : NP} {Y : Prop} {id : Int} {m : Nat}
theorem Sw.mono {m' : Nat} (h : Sw s t C wd n0 Y id m) (hm : m ≤ m') : Sw s t C wd n0 Y id m' := by
 obtain ⟨d,h1,h2⟩ := h.d
 exact ⟨h.inn,d,by omega,h2⟩
theorem Sw.same (h : Sw s t C wd n0 Y id m) (hi : s'.inn id) (hw : s'.w id = s.w id) (hv : t'.n id = t.n id) (hc : C' id → C id) : Sw s' t' C' wd n0 Y id (m + 1) := by
 obtain ⟨d,h1,h2,h3,h4,h5⟩ := h.d
 exact ⟨hi,d,by omega,by rw [hw]; exact h2,fun e => by rw [hv]; exact h3 e,h4,fun e c => h5 e (hc c)⟩
theorem Sw.lock (h : Sw s t C wd n0 Y id m) (he : wd % 2 = 0) (hi : s'.inn id) (ho : s.w id % 2 = 0) (hw : s'.w id = s.w id + 1) (hv : t'.n id = t.n id) : Sw s' t' C' wd n0 Y id (m + 1) := by
 obtain ⟨d,h1,h2,h3,h4,h5⟩ := h.d
 exact ⟨hi,d + 1,by omega,by rw [hw]; omega,fun e => by rw [hv]; exact h3 (by omega),fun e => by omega,fun e _ => h4 (by omega)⟩
theorem Sw.unlT (h : Sw s t C wd n0 Y id m) (he : wd % 2 = 0) (hi : s'.inn id) (ho : s.w id % 2 = 1) (hw : s'.w id = (s.w id + 1) % 18446744073709551616) : Sw s' t' C' wd n0 Y id (m + 1) := by
 obtain ⟨d,h1,h2,h3,h4,h5⟩ := h.d
 exact ⟨hi,d + 1,by omega,by rw [hw]; omega,fun e => by omega,fun e => by omega,fun e _ => by omega⟩
theorem Sw.unlF (h : Sw s t C wd n0 Y id m) (he : wd % 2 = 0) (hi : s'.inn id) (ho : s.w id % 2 = 1) (hw : s'.w id = s.w id - 1) (hv : t'.n id = t.n id) (hc : C id) : Sw s' t' C' wd n0 Y id (m + 1) := by
 obtain ⟨d,h1,h2,h3,h4,h5⟩ := h.d
 have hd : 1 ≤ d := by omega
 exact ⟨hi,d - 1,by omega,by rw [hw]; omega,fun e => by rw [hv]; exact h3 (by omega),fun e => h5 (by omega) hc,fun e _ => by omega⟩
theorem Sw.more {Y' : Prop} (h : Sw s t C wd n0 Y id m) (hy : (s.w id % 2 = 0 ∨ C id) → t.n id = n0 → Y → Y') (he : wd % 2 = 0) : Sw s t C wd n0 Y' id m := by
 obtain ⟨d,h1,h2,h3,h4,h5⟩ := h.d
 exact ⟨h.inn,d,h1,h2,h3,fun e => hy (.inl (by omega)) (h3 (by omega)) (h4 e),fun e c => hy (.inr c) (h3 (by omega)) (h5 e c)⟩
theorem Sw.now (h : Sw s t C wd n0 Y id m) (hm : m < 18446744073709551616) (hw : s.w id = wd) : t.n id = n0 ∧ Y := by
 obtain ⟨d,h1,h2,h3,h4,h5⟩ := h.d
 have : d = 0 := by rw [hw] at h2; omega
 exact ⟨h3 (by omega),h4 this⟩
end
structure DI (s t : AS) (C : Int → Prop) (cs : List Chn) (sep : List Int) (L : Int) (m : MS) (M : Nat) : Prop where
 key : m.key = sep
 lev : m.lev = L
 le : m.nx ≤ 4
 on : 1 ≤ m.nx → OnT cs sep m.id
 a : m.nx = 2 → ∃ n0,Sw s t C m.wd n0 True m.id M ∧ m.wd % 2 = 0 ∧ m.wd < 18446744073709551616
 b : m.nx = 3 → ∃ n0,Sw s t C m.wd n0 (m.nd.lv = n0.lv ∧ m.nd.hi = n0.hi ∧ m.nd.ri = n0.ri) m.id M ∧ m.wd % 2 = 0 ∧ m.wd < 18446744073709551616
 c : m.nx = 4 → ∃ n0,Sw s t C m.wd n0 (m.nd = n0) m.id M ∧ m.wd % 2 = 0 ∧ m.wd < 18446744073709551616
structure DA (s t : AS) (C : Int → Prop) (cs : List Chn) (sep : List Int) (L : Int) (m : MS) (M : Nat) : Prop where
 key : m.key = sep
 lev : m.lev = L
 nx : m.nx = 5
 on : ∃ low,memL cs L.toNat (m.id,low) ∧ 0 ≤ cmpI sep low
 sw : Sw s t C m.wd m.nd True m.id M
 ev : m.wd % 2 = 0
 lt : m.wd < 18446744073709551616
 bey : beyB m.nd.hi sep = false
 ndl : m.nd.lv = L
structure VT (s t : AS) (C : Int → Prop) (nd lf inn fl bk : Int) (cs : List Chn) : Prop where
 tre : Tre t nd lf inn fl bk cs
 root : t.root = s.root
 inn : ∀ k,t.inn k ↔ s.inn k
 rd : ∀ (l : Nat) (x : Int × List Int),memL cs l x → (s.w x.1 % 2 = 0 ∨ C x.1) → s.n x.1 = t.n x.1
section
variable {s t : AS} {C : Int → Prop} {nd lf inn fl bk : Int} {cs : List Chn} {sep : List Int} {lev : Int} {m : MS} {M : Nat}
theorem DI.new (sep : List Int) (lev : Int) : DI s t C cs sep lev (MS.new sep lev) M :=
 ⟨rfl,rfl,by simp [MS.new],by simp [MS.new],by simp [MS.new],by simp [MS.new],by simp [MS.new]⟩
theorem VT.onInn (h : VT s t C nd lf inn fl bk cs) {key : List Int} {id : Int} (ho : OnT cs key id) : s.inn id := by
 obtain ⟨l,low,hm,_⟩ := ho
 exact (h.inn _).1 (h.tre.ckk hm).2.2
theorem DI.step (h : DI s t C cs sep lev m M) (hv : VT s t C nd lf inn fl bk cs) (hl : 0 ≤ lev) (hw : ∀ k,s.inn k → s.w k < 18446744073709551616) (hM : M < 18446744073709551616) :
  ((m.step s).nx < 5 → DI s t C cs sep lev (m.step s) M) ∧ (¬ (m.step s).nx < 5 → (m.step s).id ≠ 0 → DA s t C cs sep lev (m.step s) M) ∧ (¬ (m.step s).nx < 5 → (m.step s).id = 0 → 0 < lev) := by
 obtain ⟨key,lv',nx,id,wd,nd',an,mo⟩ := m
 obtain ⟨k1,k2,h1,hon,ha,hb,hc⟩ := h
 simp only at k1 k2 h1 hon ha hb hc
 subst k1 k2
 match nx,h1 with
 | 0,_ =>
  have e : (MS.step ⟨key,lv',0,id,wd,nd',an,mo⟩ s) = ⟨key,lv',1,s.root,0,NP.zero,an,mo⟩ := rfl
  rw [e]
  refine ⟨fun _ => ⟨rfl,rfl,by simp,fun _ => ?_,by simp,by simp,by simp⟩,fun h => absurd (show (1 : Nat) < 5 by decide) h,fun h => absurd (show (1 : Nat) < 5 by decide) h⟩
  have := hv.tre.onRoot key
  rw [hv.root] at this
  exact this
 | 1,_ =>
  have ho := hon (Nat.le_refl _)
  have hin := hv.onInn ho
  by_cases hw2 : s.w id % 2 = 0
  ·have e : (MS.step ⟨key,lv',1,id,wd,nd',an,mo⟩ s) = ⟨key,lv',2,id,s.w id,nd',an,mo⟩ := by simp only [MS.step,hin,hw2]; simp
   rw [e]
   refine ⟨fun _ => ⟨rfl,rfl,by simp,fun _ => ho,fun _ => ⟨t.n id,⟨hin,0,Nat.zero_le _,by have := hw id hin; simp only; omega,fun _ => rfl,fun _ => trivial,fun _ _ => trivial⟩,hw2,hw id hin⟩,by simp,by simp⟩,fun h => absurd (show (2 : Nat) < 5 by decide) h,fun h => absurd (show (2 : Nat) < 5 by decide) h⟩
  ·have e : (MS.step ⟨key,lv',1,id,wd,nd',an,mo⟩ s) = ⟨key,lv',1,id,wd,nd',an,mo⟩ := by simp only [MS.step,hin,hw2]; simp
   rw [e]
   exact ⟨fun _ => ⟨rfl,rfl,by simp,fun _ => ho,by simp,by simp,by simp⟩,fun h => absurd (show (1 : Nat) < 5 by decide) h,fun h => absurd (show (1 : Nat) < 5 by decide) h⟩
 | 2,_ =>
  have ho := hon (by omega)
  have hin := hv.onInn ho
  obtain ⟨n0,g1,g2,g3⟩ := ha rfl
  have ho' := ho
  obtain ⟨l,low,hm,_⟩ := ho'
  have e : (MS.step ⟨key,lv',2,id,wd,nd',an,mo⟩ s) = ⟨key,lv',3,id,wd,nd'.setH (s.n id).lv (s.n id).hi (s.n id).ri,an,mo⟩ := by simp only [MS.step,hin]; simp
  rw [e]
  refine ⟨fun _ => ⟨rfl,rfl,by simp,fun _ => ho,by simp,fun _ => ⟨n0,g1.more (fun hc e0 _ => ?_) g2,g2,g3⟩,by simp⟩,fun h => absurd (show (3 : Nat) < 5 by decide) h,fun h => absurd (show (3 : Nat) < 5 by decide) h⟩
  have := hv.rd l _ hm hc
  simp only at this
  simp only [NP.setH,this,e0,and_self]
 | 3,_ =>
  have ho := hon (by omega)
  have hin := hv.onInn ho
  obtain ⟨n0,g1,g2,g3⟩ := hb rfl
  have ho' := ho
  obtain ⟨l,low,hm,_⟩ := ho'
  have e : (MS.step ⟨key,lv',3,id,wd,nd',an,mo⟩ s) = ⟨key,lv',4,id,wd,nd'.setB (s.n id).ks (s.n id).vs (s.n id).cs,an,mo⟩ := by simp only [MS.step,hin]; simp
  rw [e]
  refine ⟨fun _ => ⟨rfl,rfl,by simp,fun _ => ho,by simp,by simp,fun _ => ⟨n0,g1.more (fun hc e0 y => ?_) g2,g2,g3⟩⟩,fun h => absurd (show (4 : Nat) < 5 by decide) h,fun h => absurd (show (4 : Nat) < 5 by decide) h⟩
  have := hv.rd l _ hm hc
  simp only at this
  obtain ⟨y1,y2,y3⟩ := y
  simp only [NP.setB,this,e0,y1,y2,y3]
 | 4,_ =>
  have ho := hon (by omega)
  have hin := hv.onInn ho
  obtain ⟨n0,g1,g2,g3⟩ := hc rfl
  have e : (MS.step ⟨key,lv',4,id,wd,nd',an,mo⟩ s) = (⟨key,lv',4,id,wd,nd',an,mo⟩ : MS).valid (s.w id) := by simp only [MS.step,hin]; simp
  rw [e]
  unfold MS.valid
  simp only
  by_cases hq : s.w id = wd
  case neg =>
   rw [if_neg hq]
   exact ⟨fun _ => ⟨rfl,rfl,by simp,by simp,by simp,by simp,by simp⟩,fun h => absurd (show (0 : Nat) < 5 by decide) h,fun h => absurd (show (0 : Nat) < 5 by decide) h⟩
  rw [if_pos hq]
  obtain ⟨e1,e2⟩ := g1.now hM hq
  have e3 : nd' = t.n id := by rw [e2,e1]
  unfold MS.choose
  simp only
  by_cases c1 : nd'.lv < lv'
  ·rw [if_pos c1]
   refine ⟨fun h => absurd h (by simp [MS.fail]),fun _ h => absurd rfl h,fun _ _ => ?_⟩
   obtain ⟨l,low,hm,_⟩ := ho
   have := hv.tre.lev hm
   simp only at this
   rw [← e3] at this
   omega
  rw [if_neg c1]
  by_cases c2 : beyB nd'.hi key = true
  ·rw [if_pos c2]
   refine ⟨fun _ => ⟨rfl,rfl,by simp,fun _ => ?_,by simp,by simp,by simp⟩,fun h => absurd (show (1 : Nat) < 5 by decide) h,fun h => absurd (show (1 : Nat) < 5 by decide) h⟩
   rw [e3] at c2 ⊢
   exact hv.tre.onRight ho c2
  rw [if_neg c2]
  by_cases c3 : nd'.lv = lv'
  ·rw [if_pos c3]
   refine ⟨fun h => absurd h (by simp),fun _ _ => ⟨rfl,rfl,rfl,?_,?_,g2,g3,by simpa using c2,c3⟩,fun _ h => ?_⟩
   ·obtain ⟨l,low,hm,h2⟩ := ho
    have := hv.tre.lev hm
    simp only at this
    rw [← e3,c3] at this
    exact ⟨low,by rw [this,Int.toNat_natCast]; exact hm,h2⟩
   ·obtain ⟨d,q1,q2,q3,q4,q5⟩ := g1.d
    exact ⟨hin,d,q1,q2,fun e => by rw [q3 e,e2],fun _ => trivial,fun _ _ => trivial⟩
   ·simp only at h
    have := hin.1
    omega
  ·rw [if_neg c3]
   refine ⟨fun _ => ⟨rfl,rfl,by simp [MS.goTo],fun _ => ?_,by simp [MS.goTo],by simp [MS.goTo],by simp [MS.goTo]⟩,fun h => absurd (show (1 : Nat) < 5 by decide) h,fun h => absurd (show (1 : Nat) < 5 by decide) h⟩
   simp only [MS.goTo]
   have hne : (t.n id).lv ≠ 0 := by
    rw [← e3]
    obtain ⟨l,low,hm,_⟩ := ho
    have := hv.tre.lev hm
    simp only at this
    rw [← e3] at this
    omega
   rw [e3]
   exact hv.tre.onDown ho hne
end
def US.fat (u : US) (n : NP) : NP := if u.lev = 0 then n.with_ u.sep u.val else n.joined u.sep u.rgt
def US.hol (u : US) (k : Int) : Prop := (3 ≤ u.nx ∧ u.nx ≤ 8) ∧ k = u.hid
def US.prv (u : US) (k : Int) : Prop := ((u.nx = 7 ∨ u.nx = 8) ∧ k = u.fid) ∨ ((11 ≤ u.nx ∧ u.nx ≤ 14) ∧ k = u.top)
def US.own (u : US) (k : Int) : Prop := u.hol k ∨ u.prv k
def US.odd (u : US) (k : Int) : Prop := u.hol k ∨ (u.nx = 7 ∧ u.pc ≤ 2 ∧ k = u.fid) ∨ ((11 ≤ u.nx ∧ u.nx ≤ 13) ∧ k = u.top)
def US.cln (u : US) : Prop := u.nx = 3 ∨ u.nx = 5 ∨ u.nx = 6 ∨ (u.nx = 7 ∧ u.pc ≤ 3)
def US.que (u : US) (k : Int) : Prop := ((0 < u.lev ∧ u.nx ≤ 14) ∧ k = u.rgt) ∨ ((u.nx = 7 ∨ u.nx = 8) ∧ k = u.fid)
def Pend (cs : List Chn) (t : AS) (R : Int) : Prop := ∀ (l : Nat) (x : Int × List Int),memL cs l x → R ∉ (t.n x.1).cs
def Off (cs : List Chn) (k : Int) : Prop := ∀ (l : Nat) (x : Int × List Int),memL cs l x → x.1 ≠ k
structure Hd (s t : AS) (cs : List Chn) (u : US) (low : List Int) : Prop where
 m : memL cs u.lev.toNat (u.hid,low)
 lo : 0 ≤ cmpI u.sep low
 be : beyB (t.n u.hid).hi u.sep = false
 od : s.w u.hid % 2 = 1
 is : u.nx ≠ 5 → 0 < u.lev → isIn (t.n u.hid).ks u.sep = false
structure UI (c : Cfg) (s t : AS) (C : Int → Prop) (cs : List Chn) (u : US) (M : Nat) : Prop where
 cf : u.cf = c
 lev : 0 ≤ u.lev
 key : 1 ≤ u.nx → u.nx ≤ 14 → 1 ≤ u.sep.length ∧ u.sep.length ≤ 64
 val : u.val.length ≤ 256
 z : u.nx = 0 → u.lev = 0
 lk : 0 < u.lev → u.nx ≤ 14 → (∃ low,memL cs (u.lev.toNat - 1) (u.lft,low)) ∧ memL cs (u.lev.toNat - 1) (u.rgt,u.sep) ∧ Pend cs t u.rgt
 p1 : u.nx = 1 → ∃ ms,u.way = some ms ∧ DI s t C cs u.sep u.lev ms M
 p2 : u.nx = 2 → ∃ ms,u.way = some ms ∧ DA s t C cs u.sep u.lev ms M
 hd : 3 ≤ u.nx → u.nx ≤ 8 → ∃ low,Hd s t cs u low
 cl : u.cln → s.n u.hid = t.n u.hid
 p3 : u.nx = 3 ∨ u.nx = 4 ∨ u.nx = 6 → u.hn = u.fat (t.n u.hid)
 p4 : u.nx = 4 → s.n u.hid = u.hn
 no : u.nx = 3 ∨ u.nx = 4 → (u.fat (t.n u.hid)).over c = false
 ov : u.nx = 6 ∨ u.nx = 7 ∨ u.nx = 8 → (u.fat (t.n u.hid)).over c = true
 p7 : u.nx = 7 ∨ u.nx = 8 → u.hn = (u.fat (t.n u.hid)).one u.fid ∧ u.fn = (u.fat (t.n u.hid)).two ∧ u.bet = (u.fat (t.n u.hid)).bet
 fo : u.nx = 7 ∨ u.nx = 8 → s.inn u.fid ∧ Off cs u.fid
 pc : u.nx = 7 → 0 ≤ u.pc ∧ u.pc ≤ 4
 pa : u.nx = 7 → u.pc ≤ 2 → s.w u.fid % 2 = 1
 pb : u.nx = 7 → 1 ≤ u.pc → (s.n u.fid).lv = u.fn.lv ∧ (s.n u.fid).hi = u.fn.hi ∧ (s.n u.fid).ri = u.fn.ri
 pd : (u.nx = 7 ∧ 2 ≤ u.pc) ∨ u.nx = 8 → s.n u.fid = u.fn
 pe : u.nx = 7 → u.pc = 4 → (s.n u.hid).lv = u.hn.lv ∧ (s.n u.hid).hi = u.hn.hi ∧ (s.n u.hid).ri = u.hn.ri
 p8 : u.nx = 8 → s.n u.hid = u.hn
 up : 9 ≤ u.nx → u.nx ≤ 14 → 0 < u.lev
 tp : 11 ≤ u.nx → u.nx ≤ 14 → s.inn u.top ∧ Off cs u.top
 ta : 11 ≤ u.nx → u.nx ≤ 13 → s.w u.top % 2 = 1
 tb : u.nx = 12 → (s.n u.top).lv = u.lev ∧ (s.n u.top).hi = [] ∧ (s.n u.top).ri = 0
 tc : u.nx = 13 ∨ u.nx = 14 → s.n u.top = ⟨u.lev,[],0,[u.sep],[],[u.lft,u.rgt]⟩
structure Env (s t : AS) (C : Int → Prop) (cs : List Chn) (s' t' : AS) (C' : Int → Prop) (cs' : List Chn) (X Z : Int → Prop) : Prop where
 inn : ∀ k,s.inn k → s'.inn k
 ext : Ext cs cs'
 n : ∀ k,¬ X k → s.inn k → s'.n k = s.n k ∧ s'.w k = s.w k ∧ t'.n k = t.n k
 new : ∀ (l : Nat) (x : Int × List Int),memL cs' l x → memL cs l x ∨ X x.1
 sw : ∀ (wd : Nat) (n0 : NP) (Y : Prop) (id : Int) (m : Nat),(∃ l x,memL cs l x ∧ x.1 = id) → wd % 2 = 0 → Sw s t C wd n0 Y id m → Sw s' t' C' wd n0 Y id (m + 1)
 kid : ∀ R,¬ Z R → Pend cs t R → Pend cs' t' R
section
variable {c : Cfg} {s t s' t' : AS} {C C' : Int → Prop} {cs cs' : List Chn} {X Z : Int → Prop} {u : US} {M : Nat}
theorem DI.env {sep : List Int} {L : Int} {m : MS} (h : DI s t C cs sep L m M) (he : Env s t C cs s' t' C' cs' X Z) : DI s' t' C' cs' sep L m (M + 1) := by
 have hon : 1 ≤ m.nx → ∃ l x,memL cs l x ∧ x.1 = m.id := fun e => by
  obtain ⟨l,low,h1,_⟩ := h.on e
  exact ⟨l,_,h1,rfl⟩
 refine ⟨h.key,h.lev,h.le,fun e => (h.on e).ext he.ext,fun e => ?_,fun e => ?_,fun e => ?_⟩
 ·obtain ⟨n0,h1,h2,h3⟩ := h.a e
  exact ⟨n0,he.sw _ _ _ _ _ (hon (by omega)) h2 h1,h2,h3⟩
 ·obtain ⟨n0,h1,h2,h3⟩ := h.b e
  exact ⟨n0,he.sw _ _ _ _ _ (hon (by omega)) h2 h1,h2,h3⟩
 ·obtain ⟨n0,h1,h2,h3⟩ := h.c e
  exact ⟨n0,he.sw _ _ _ _ _ (hon (by omega)) h2 h1,h2,h3⟩
theorem DA.env {sep : List Int} {L : Int} {m : MS} (h : DA s t C cs sep L m M) (he : Env s t C cs s' t' C' cs' X Z) : DA s' t' C' cs' sep L m (M + 1) := by
 obtain ⟨low,h1,h2⟩ := h.on
 exact ⟨h.key,h.lev,h.nx,⟨low,he.ext _ _ h1,h2⟩,he.sw _ _ _ _ _ ⟨_,_,h1,rfl⟩ h.ev h.sw,h.ev,h.lt,h.bey,h.ndl⟩
theorem UI.env (h : UI c s t C cs u M) (hv : ∀ k,t.inn k ↔ s.inn k) (ht : ∀ l x,memL cs l x → t.inn x.1) (he : Env s t C cs s' t' C' cs' X Z) (hX : ∀ k,u.own k → ¬ X k) (hZ : 0 < u.lev → u.nx ≤ 14 → ¬ Z u.rgt) : UI c s' t' C' cs' u (M + 1) := by
 have hh : 3 ≤ u.nx → u.nx ≤ 8 → s'.n u.hid = s.n u.hid ∧ s'.w u.hid = s.w u.hid ∧ t'.n u.hid = t.n u.hid := fun a b => by
  obtain ⟨low,hd⟩ := h.hd a b
  exact he.n _ (hX _ (.inl ⟨⟨a,b⟩,rfl⟩)) ((hv _).1 (ht _ _ hd.m))
 have hf : u.nx = 7 ∨ u.nx = 8 → s'.n u.fid = s.n u.fid ∧ s'.w u.fid = s.w u.fid ∧ t'.n u.fid = t.n u.fid := fun a => he.n _ (hX _ (.inr (.inl ⟨a,rfl⟩))) (h.fo a).1
 have hp : 11 ≤ u.nx → u.nx ≤ 14 → s'.n u.top = s.n u.top ∧ s'.w u.top = s.w u.top ∧ t'.n u.top = t.n u.top := fun a b => he.n _ (hX _ (.inr (.inr ⟨⟨a,b⟩,rfl⟩))) (h.tp a b).1
 have off : ∀ k,u.own k → Off cs k → Off cs' k := fun k hk ho l x hx e => by
  rcases he.new l x hx with h1 | h1
  ·exact ho l x h1 e
  ·exact hX k hk (e ▸ h1)
 have hcl : u.cln → 3 ≤ u.nx ∧ u.nx ≤ 8 := fun a => by unfold US.cln at a; omega
 refine ⟨h.cf,h.lev,h.key,h.val,h.z,fun a b => ?_,fun a => ?_,fun a => ?_,fun a b => ?_,fun a => ?_,fun a => ?_,fun a => ?_,fun a => ?_,fun a => ?_,fun a => ?_,fun a => ?_,h.pc,fun a b => ?_,fun a b => ?_,fun a => ?_,fun a b => ?_,fun a => ?_,h.up,fun a b => ?_,fun a b => ?_,fun a => ?_,fun a => ?_⟩
 ·obtain ⟨⟨low,g1⟩,g2,g3⟩ := h.lk a b
  exact ⟨⟨low,he.ext _ _ g1⟩,he.ext _ _ g2,he.kid _ (hZ a b) g3⟩
 ·obtain ⟨ms,g1,g2⟩ := h.p1 a
  exact ⟨ms,g1,g2.env he⟩
 ·obtain ⟨ms,g1,g2⟩ := h.p2 a
  exact ⟨ms,g1,g2.env he⟩
 ·obtain ⟨low,g⟩ := h.hd a b
  obtain ⟨e1,e2,e3⟩ := hh a b
  exact ⟨low,he.ext _ _ g.m,g.lo,by rw [e3]; exact g.be,by rw [e2]; exact g.od,by rw [e3]; exact g.is⟩
 ·obtain ⟨a1,a2⟩ := hcl a
  obtain ⟨e1,e2,e3⟩ := hh a1 a2
  rw [e1,e3]; exact h.cl a
 ·obtain ⟨e1,e2,e3⟩ := hh (by omega) (by omega)
  rw [e3]; exact h.p3 a
 ·obtain ⟨e1,e2,e3⟩ := hh (by omega) (by omega)
  rw [e1]; exact h.p4 a
 ·obtain ⟨e1,e2,e3⟩ := hh (by omega) (by omega)
  rw [e3]; exact h.no a
 ·obtain ⟨e1,e2,e3⟩ := hh (by omega) (by omega)
  rw [e3]; exact h.ov a
 ·obtain ⟨e1,e2,e3⟩ := hh (by omega) (by omega)
  rw [e3]; exact h.p7 a
 ·obtain ⟨g1,g2⟩ := h.fo a
  exact ⟨he.inn _ g1,off _ (.inr (.inl ⟨a,rfl⟩)) g2⟩
 ·obtain ⟨e1,e2,e3⟩ := hf (.inl a)
  rw [e2]; exact h.pa a b
 ·obtain ⟨e1,e2,e3⟩ := hf (.inl a)
  rw [e1]; exact h.pb a b
 ·obtain ⟨e1,e2,e3⟩ := hf (by omega)
  rw [e1]; exact h.pd a
 ·obtain ⟨e1,e2,e3⟩ := hh (by omega) (by omega)
  rw [e1]; exact h.pe a b
 ·obtain ⟨e1,e2,e3⟩ := hh (by omega) (by omega)
  rw [e1]; exact h.p8 a
 ·obtain ⟨g1,g2⟩ := h.tp a b
  exact ⟨he.inn _ g1,off _ (.inr (.inr ⟨⟨a,b⟩,rfl⟩)) g2⟩
 ·obtain ⟨e1,e2,e3⟩ := hp a (by omega)
  rw [e2]; exact h.ta a b
 ·obtain ⟨e1,e2,e3⟩ := hp (by omega) (by omega)
  rw [e1]; exact h.tb a
 ·obtain ⟨e1,e2,e3⟩ := hp (by omega) (by omega)
  rw [e1]; exact h.tc a
end
def mp (t : AS) (cs : List Chn) : List (List Int × List Int) := entsC t (cs.headD [])
structure UStp (c : Cfg) (s t : AS) (C C' : Int → Prop) (cs : List Chn) (u : US) (M : Nat) (o : UO) : Prop where
 ex : ∃ t' cs' X Z,VT o.s t' C' c.nd c.lf c.inn c.fl c.bk cs' ∧ UI c o.s t' C' cs' o.u (M + 1) ∧ Env s t C cs o.s t' C' cs' X Z ∧ (∀ k,X k → u.own k ∨ o.u.own k) ∧ (∀ k,Z k → u.que k ∨ k = s.root) ∧ mp t' cs' = (if o.tk = true ∧ o.er = 0 then mset u.sep u.val (mp t cs) else mp t cs) ∧ (Am t cs → Am t' cs') ∧ (u.nx ≠ 14 → Upl cs cs' u.lev.toNat) ∧ Cn u o t cs t' cs'
 own : ∀ k,o.u.own k → u.own k ∨ (s.w k % 2 = 0 ∧ ∃ l x,memL cs l x ∧ x.1 = k) ∨ ¬ s.inn k
 que : ∀ k,o.u.que k → u.que k ∨ ¬ s.inn k
 odd : ∀ k,o.s.inn k → o.s.w k % 2 = 1 → o.u.odd k ∨ (s.inn k ∧ s.w k % 2 = 1 ∧ ¬ u.odd k)
 nod : o.s.nodes = s.nodes
 er : o.er = 0 ∨ (o.er = 3 ∧ u.nx = 0) ∨ (o.er = 2 ∧ u.nx = 5)
section
variable {c : Cfg} {s t : AS} {C C' : Int → Prop} {cs : List Chn} {u : US} {M : Nat}
theorem ustep_of {o : UO} (h15 : u.nx < 15) (ea : u.act s = o) (he : o.er = 0) : u.step s = o := by
 unfold US.step
 rw [if_neg (by omega),ea,if_pos he]
theorem ustep_er {o : UO} (h15 : u.nx < 15) (ea : u.act s = o) (he : o.er ≠ 0) : u.step s = ⟨{ o.u with nx := 15,err := o.er },o.s,o.tk,o.er⟩ := by
 unfold US.step
 rw [if_neg (by omega),ea,if_neg he]
theorem cmon {o : UO} (hC1 : ∀ k,u.hol k → (C k ↔ u.cln)) (hC2 : ∀ k,¬ u.hol k → ¬ o.u.hol k → (C' k ↔ C k)) (hC3 : ∀ k,o.u.hol k → (C' k ↔ o.u.cln)) (hh : ∀ k,o.u.hol k ↔ u.hol k) (hcl : o.u.cln → u.cln) : ∀ k,C' k → C k := fun k hk => by
 by_cases h : u.hol k
 ·exact (hC1 k h).2 (hcl ((hC3 k ((hh k).2 h)).1 hk))
 ·exact (hC2 k h (fun e => h ((hh k).1 e))).1 hk
theorem Env.refl (hvt : VT s t C c.nd c.lf c.inn c.fl c.bk cs) (hC : ∀ k,C' k → C k) : Env s t C cs s t C' cs (fun _ => False) (fun _ => False) :=
 ⟨fun _ h => h,Ext.refl _,fun _ _ _ => ⟨rfl,rfl,rfl⟩,fun _ _ h => .inl h,fun wd n0 Y id m hm _ h => by
  obtain ⟨l,x,h1,rfl⟩ := hm
  exact h.same ((hvt.inn _).1 (hvt.tre.ckk h1).2.2) rfl rfl (hC _),fun _ _ h => h⟩
theorem VT.mono (hvt : VT s t C c.nd c.lf c.inn c.fl c.bk cs) (hC : ∀ k,C' k → C k) : VT s t C' c.nd c.lf c.inn c.fl c.bk cs :=
 ⟨hvt.tre,hvt.root,hvt.inn,fun l x hm h => hvt.rd l x hm (h.imp (fun h => h) (hC _))⟩
theorem UStp.quiet {o : UO} (hvt : VT s t C c.nd c.lf c.inn c.fl c.bk cs) (hC : ∀ k,C' k → C k) (hs : o.s = s) (hui : UI c s t C' cs o.u (M + 1)) (hown : ∀ k,o.u.own k → u.own k) (hque : ∀ k,o.u.que k → u.que k) (hodd : ∀ k,u.odd k → o.u.odd k) (htk : ¬ (o.tk = true ∧ o.er = 0)) (her : o.er = 0 ∨ (o.er = 3 ∧ u.nx = 0) ∨ (o.er = 2 ∧ u.nx = 5)) (hnx : u.nx ≠ 4 ∧ u.nx ≠ 8 ∧ (u.nx = 14 → o.u.nx ≠ 15) := by omega) : UStp c s t C C' cs u M o := by
 refine ⟨⟨t,cs,fun _ => False,fun _ => False,?_,?_,?_,fun _ h => h.elim,fun _ h => h.elim,by rw [if_neg htk],fun h => h,fun _ => Upl.refl _ _,Cn.same hnx (fun _ _ _ => rfl)⟩,fun k h => .inl (hown k h),fun k h => .inl (hque k h),fun k h1 h2 => ?_,by rw [hs],her⟩
 ·rw [hs]; exact hvt.mono hC
 ·rw [hs]; exact hui
 ·rw [hs]; exact Env.refl hvt hC
 ·rw [hs] at h1 h2
  by_cases h : u.odd k
  ·exact .inl (hodd k h)
  ·exact .inr ⟨h1,h2,h⟩
theorem UStp.node {o : UO} {j : Int} {p : NP} (hvt : VT s t C c.nd c.lf c.inn c.fl c.bk cs) (hC : ∀ k,C' k → C k) (hj : s.inn j) (hjo : u.own j) (hs : o.s = s.setn j p) (hrd : ∀ (l : Nat) (x : Int × List Int),memL cs l x → x.1 = j → ¬ (s.w j % 2 = 0 ∨ C' j)) (hui : UI c (s.setn j p) t C' cs o.u (M + 1)) (hown : ∀ k,o.u.own k → u.own k) (hque : ∀ k,o.u.que k → u.que k) (hodd : ∀ k,u.odd k → o.u.odd k) (htk : ¬ (o.tk = true ∧ o.er = 0)) (her : o.er = 0) (hnx : u.nx ≠ 4 ∧ u.nx ≠ 8 ∧ (u.nx = 14 → o.u.nx ≠ 15) := by omega) : UStp c s t C C' cs u M o := by
 have hi : ∀ k,(s.setn j p).inn k ↔ s.inn k := AS.inn_of_len (AS.setn_len _ _ _)
 refine ⟨⟨t,cs,fun k => k = j,fun _ => False,?_,?_,?_,fun k h => .inl (h ▸ hjo),fun _ h => h.elim,by rw [if_neg htk],fun h => h,fun _ => Upl.refl _ _,Cn.same hnx (fun _ _ _ => rfl)⟩,fun k h => .inl (hown k h),fun k h => .inl (hque k h),fun k h1 h2 => ?_,by rw [hs]; rfl,.inl her⟩
 ·rw [hs]
  refine ⟨hvt.tre,hvt.root,fun k => (hvt.inn k).trans (hi k).symm,fun l x hm h => ?_⟩
  rw [AS.w_setn hj] at h
  by_cases e : x.1 = j
  ·rw [e] at h
   exact absurd h (hrd l x hm e)
  ·rw [AS.n_setn hj p ((hvt.inn _).1 (hvt.tre.ckk hm).2.2),if_neg e]
   exact hvt.rd l x hm (h.imp (fun h => h) (hC _))
 ·rw [hs]; exact hui
 ·rw [hs]
  refine ⟨fun k hk => (hi k).2 hk,Ext.refl _,fun k hk hin => ⟨by rw [AS.n_setn hj p hin,if_neg hk],AS.w_setn hj p k,rfl⟩,fun _ _ h => .inl h,fun wd n0 Y id m hm _ h => ?_,fun _ _ h => h⟩
  obtain ⟨l,x,h1,rfl⟩ := hm
  exact h.same ((hi _).2 ((hvt.inn _).1 (hvt.tre.ckk h1).2.2)) (AS.w_setn hj p _) rfl (hC _)
 ·rw [hs] at h1 h2
  rw [AS.w_setn hj] at h2
  by_cases h : u.odd k
  ·exact .inl (hodd k h)
  ·exact .inr ⟨(hi k).1 h1,h2,h⟩
theorem setn_self {j : Int} {p : NP} (hj : s.inn j) : (s.setn j p).n j = p := by rw [AS.n_setn hj p hj,if_pos rfl]
theorem sp_idle (hvt : VT s t C c.nd c.lf c.inn c.fl c.bk cs) (hu : UI c s t C cs u M) (hx : 15 ≤ u.nx) (hC1 : ∀ k,u.hol k → (C k ↔ u.cln)) (hC2 : ∀ k,¬ u.hol k → ¬ (u.step s).u.hol k → (C' k ↔ C k)) (hC3 : ∀ k,(u.step s).u.hol k → (C' k ↔ (u.step s).u.cln)) : UStp c s t C C' cs u M (u.step s) := by
 have e : u.step s = ⟨u,s,false,0⟩ := if_pos hx
 rw [e] at hC2 hC3 ⊢
 have hC := cmon (o := ⟨u,s,false,0⟩) hC1 hC2 hC3 (fun _ => Iff.rfl) (fun h => h)
 have hE := Env.refl hvt hC
 exact UStp.quiet hvt hC rfl (hu.env hvt.inn (fun l x hm => (hvt.tre.ckk hm).2.2) hE (fun _ _ h => h) (fun _ _ h => h)) (fun _ h => h) (fun _ h => h) (fun _ h => h) (fun h => by cases h.1) (.inl rfl)
theorem sp_refuse (hvt : VT s t C c.nd c.lf c.inn c.fl c.bk cs) (hu : UI c s t C cs u M) (hx : u.nx = 0) (hC1 : ∀ k,u.hol k → (C k ↔ u.cln)) (hC2 : ∀ k,¬ u.hol k → ¬ (u.step s).u.hol k → (C' k ↔ C k)) (hC3 : ∀ k,(u.step s).u.hol k → (C' k ↔ (u.step s).u.cln)) : UStp c s t C C' cs u M (u.step s) := by
 have e : u.step s = ⟨{ u with nx := 15,err := 3 },s,true,3⟩ := ustep_er (by omega) (show u.act s = ⟨u,s,true,3⟩ by unfold US.act; rw [hx]) (by simp)
 rw [e] at hC2 hC3 ⊢
 have hno : ∀ k,¬ u.hol k := fun k h => by have := h.1.1; omega
 have hC := cmon (o := ⟨{ u with nx := 15,err := 3 },s,true,3⟩) hC1 hC2 hC3 (fun k => ⟨fun h => by have := h.1.2; simp at this,fun h => absurd h (hno k)⟩) (fun h => by simp [US.cln] at h)
 refine UStp.quiet hvt hC rfl ⟨hu.cf,hu.lev,(fun a b => by simp at b),hu.val,(fun a => by simp at a),(fun a b => by simp at b),(fun a => by simp at a),(fun a => by simp at a),(fun a b => by simp at a b),(fun a => by simp [US.cln] at a),(fun a => by simp at a),(fun a => by simp at a),(fun a => by simp at a),(fun a => by simp at a),(fun a => by simp at a),(fun a => by simp at a),(fun a => by simp at a),(fun a b => by simp at a),(fun a b => by simp at a),(fun a => by simp at a),(fun a b => by simp at a),(fun a => by simp at a),(fun a b => by simp at a b),(fun a b => by simp at a b),(fun a b => by simp at a b),(fun a => by simp at a),(fun a => by simp at a)⟩ (fun k h => by simp [US.own,US.hol,US.prv] at h) (fun k h => by simp [US.que] at h) (fun k h => ?_) (fun h => by cases h.2) (.inr (.inl ⟨rfl,hx⟩))
 simp [US.odd,US.hol,hx] at h
theorem sp_goDown (hvt : VT s t C c.nd c.lf c.inn c.fl c.bk cs) (hu : UI c s t C cs u M) (hw : ∀ k,s.inn k → s.w k < 18446744073709551616) (hM : M < 18446744073709551616) (hx : u.nx = 1) (hC1 : ∀ k,u.hol k → (C k ↔ u.cln)) (hC2 : ∀ k,¬ u.hol k → ¬ (u.step s).u.hol k → (C' k ↔ C k)) (hC3 : ∀ k,(u.step s).u.hol k → (C' k ↔ (u.step s).u.cln)) : UStp c s t C C' cs u M (u.step s) := by
 obtain ⟨ms,hms,hdi⟩ := hu.p1 hx
 have em : u.m = ms := by unfold US.m; rw [hms]; rfl
 obtain ⟨g1,g2,g3⟩ := hdi.step hvt hu.lev hw hM
 have hno : ∀ k,¬ u.hol k := fun k h => by have := h.1.1; omega
 have hnod : ∀ k,¬ u.odd k := fun k h => by simp [US.odd,US.hol,hx] at h
 by_cases c1 : (ms.step s).nx < 5
 ·have e : u.step s = ⟨{ u with way := some (ms.step s) },s,false,0⟩ := ustep_of (by omega) (by unfold US.act; rw [hx]; simp only [em]; rw [if_pos c1]) rfl
  rw [e] at hC2 hC3 ⊢
  have hC := cmon (o := ⟨{ u with way := some (ms.step s) },s,false,0⟩) hC1 hC2 hC3 (fun _ => Iff.rfl) (fun h => h)
  have hE := Env.refl hvt hC
  have hu' := hu.env hvt.inn (fun l x hm => (hvt.tre.ckk hm).2.2) hE (fun _ _ h => h) (fun _ _ h => h)
  refine UStp.quiet hvt hC rfl ⟨hu'.cf,hu'.lev,hu'.key,hu'.val,hu'.z,hu'.lk,fun _ => ⟨_,rfl,(g1 c1).env hE⟩,fun a => by simp only at a; omega,fun a _ => by simp only at a; omega,hu'.cl,hu'.p3,hu'.p4,hu'.no,hu'.ov,hu'.p7,hu'.fo,hu'.pc,hu'.pa,hu'.pb,hu'.pd,hu'.pe,hu'.p8,hu'.up,hu'.tp,hu'.ta,hu'.tb,hu'.tc⟩ (fun _ h => h) (fun _ h => h) (fun _ h => h) (fun h => by cases h.1) (.inl rfl)
 by_cases c2 : (ms.step s).id ≠ 0
 ·have e : u.step s = ⟨{ u with way := some (ms.step s),nx := 2 },s,false,0⟩ := ustep_of (by omega) (by unfold US.act; rw [hx]; simp only [em]; rw [if_neg c1,if_pos c2]) rfl
  rw [e] at hC2 hC3 ⊢
  have hC := cmon (o := ⟨{ u with way := some (ms.step s),nx := 2 },s,false,0⟩) hC1 hC2 hC3 (fun k => ⟨fun h => by have := h.1.1; simp at this,fun h => absurd h (hno k)⟩) (fun h => by simp [US.cln] at h)
  have hE := Env.refl hvt hC
  refine UStp.quiet hvt hC rfl ⟨hu.cf,hu.lev,(fun _ _ => hu.key (by omega) (by omega)),hu.val,(fun a => by simp at a),(fun a _ => hu.lk a (by omega)),(fun a => by simp at a),(fun _ => ⟨_,rfl,(g2 c1 c2).env hE⟩),(fun a b => by simp at a b),(fun a => by simp [US.cln] at a),(fun a => by simp at a),(fun a => by simp at a),(fun a => by simp at a),(fun a => by simp at a),(fun a => by simp at a),(fun a => by simp at a),(fun a => by simp at a),(fun a b => by simp at a),(fun a b => by simp at a),(fun a => by simp at a),(fun a b => by simp at a),(fun a => by simp at a),(fun a b => by simp at a b),(fun a b => by simp at a b),(fun a b => by simp at a b),(fun a => by simp at a),(fun a => by simp at a)⟩ (fun k h => by simp [US.own,US.hol,US.prv] at h) (fun k h => ?_) (fun k h => absurd h (hnod k)) (fun h => by cases h.1) (.inl rfl)
  simp [US.que,hx] at h ⊢
  exact h
 ·have c2' : (ms.step s).id = 0 := Decidable.not_not.1 c2
  have hl := g3 c1 c2'
  have e : u.step s = ⟨{ u with way := some (ms.step s),nx := 9 },s,false,0⟩ := ustep_of (by omega) (by unfold US.act; rw [hx]; simp only [em]; rw [if_neg c1,if_neg c2,if_neg (by omega)]) rfl
  rw [e] at hC2 hC3 ⊢
  have hC := cmon (o := ⟨{ u with way := some (ms.step s),nx := 9 },s,false,0⟩) hC1 hC2 hC3 (fun k => ⟨fun h => by have := h.1.2; simp at this,fun h => absurd h (hno k)⟩) (fun h => by simp [US.cln] at h)
  refine UStp.quiet hvt hC rfl ⟨hu.cf,hu.lev,(fun _ _ => hu.key (by omega) (by omega)),hu.val,(fun a => by simp at a),(fun a _ => hu.lk a (by omega)),(fun a => by simp at a),(fun a => by simp at a),(fun a b => by simp at a b),(fun a => by simp [US.cln] at a),(fun a => by simp at a),(fun a => by simp at a),(fun a => by simp at a),(fun a => by simp at a),(fun a => by simp at a),(fun a => by simp at a),(fun a => by simp at a),(fun a b => by simp at a),(fun a b => by simp at a),(fun a => by simp at a),(fun a b => by simp at a),(fun a => by simp at a),(fun _ _ => hl),(fun a b => by simp at a b),(fun a b => by simp at a b),(fun a => by simp at a),(fun a => by simp at a)⟩ (fun k h => by simp [US.own,US.hol,US.prv] at h) (fun k h => ?_) (fun k h => absurd h (hnod k)) (fun h => by cases h.1) (.inl rfl)
  simp [US.que,hx] at h ⊢
  exact h
theorem sp_seeRoot (hvt : VT s t C c.nd c.lf c.inn c.fl c.bk cs) (hu : UI c s t C cs u M) (hx : u.nx = 9) (hC1 : ∀ k,u.hol k → (C k ↔ u.cln)) (hC2 : ∀ k,¬ u.hol k → ¬ (u.step s).u.hol k → (C' k ↔ C k)) (hC3 : ∀ k,(u.step s).u.hol k → (C' k ↔ (u.step s).u.cln)) : UStp c s t C C' cs u M (u.step s) := by
 have hno : ∀ k,¬ u.hol k := fun k h => by have := h.1.2; omega
 have hnod : ∀ k,¬ u.odd k := fun k h => by simp [US.odd,US.hol,hx] at h
 have hl := hu.up (by omega) (by omega)
 by_cases c1 : s.root = u.lft
 ·have e : u.step s = ⟨{ u with nx := 10 },s,false,0⟩ := ustep_of (by omega) (by unfold US.act; rw [hx]; simp only; rw [if_pos c1]) rfl
  rw [e] at hC2 hC3 ⊢
  have hC := cmon (o := ⟨{ u with nx := 10 },s,false,0⟩) hC1 hC2 hC3 (fun k => ⟨fun h => by have := h.1.2; simp at this,fun h => absurd h (hno k)⟩) (fun h => by simp [US.cln] at h)
  refine UStp.quiet hvt hC rfl ⟨hu.cf,hu.lev,(fun _ _ => hu.key (by omega) (by omega)),hu.val,(fun a => by simp at a),(fun a _ => hu.lk a (by omega)),(fun a => by simp at a),(fun a => by simp at a),(fun a b => by simp at a b),(fun a => by simp [US.cln] at a),(fun a => by simp at a),(fun a => by simp at a),(fun a => by simp at a),(fun a => by simp at a),(fun a => by simp at a),(fun a => by simp at a),(fun a => by simp at a),(fun a b => by simp at a),(fun a b => by simp at a),(fun a => by simp at a),(fun a b => by simp at a),(fun a => by simp at a),(fun _ _ => hl),(fun a b => by simp at a b),(fun a b => by simp at a b),(fun a => by simp at a),(fun a => by simp at a)⟩ (fun k h => by simp [US.own,US.hol,US.prv] at h) (fun k h => ?_) (fun k h => absurd h (hnod k)) (fun h => by cases h.1) (.inl rfl)
  simp [US.que,hx] at h ⊢
  exact h
 ·have e : u.step s = ⟨{ u with nx := 15 },s,false,0⟩ := ustep_of (by omega) (by unfold US.act; rw [hx]; simp only; rw [if_neg c1]) rfl
  rw [e] at hC2 hC3 ⊢
  have hC := cmon (o := ⟨{ u with nx := 15 },s,false,0⟩) hC1 hC2 hC3 (fun k => ⟨fun h => by have := h.1.2; simp at this,fun h => absurd h (hno k)⟩) (fun h => by simp [US.cln] at h)
  exact UStp.quiet hvt hC rfl ⟨hu.cf,hu.lev,(fun a b => by simp at b),hu.val,(fun a => by simp at a),(fun a b => by simp at b),(fun a => by simp at a),(fun a => by simp at a),(fun a b => by simp at a b),(fun a => by simp [US.cln] at a),(fun a => by simp at a),(fun a => by simp at a),(fun a => by simp at a),(fun a => by simp at a),(fun a => by simp at a),(fun a => by simp at a),(fun a => by simp at a),(fun a b => by simp at a),(fun a b => by simp at a),(fun a => by simp at a),(fun a b => by simp at a),(fun a => by simp at a),(fun a b => by simp at a b),(fun a b => by simp at a b),(fun a b => by simp at a b),(fun a => by simp at a),(fun a => by simp at a)⟩ (fun k h => by simp [US.own,US.hol,US.prv] at h) (fun k h => by simp [US.que] at h) (fun k h => absurd h (hnod k)) (fun h => by cases h.1) (.inl rfl)
end
def AS.app (s : AS) : AS := ⟨s.nodes,s.root,s.sl ++ [(1,NP.zero)]⟩
section
variable {c : Cfg} {s t : AS} {C C' : Int → Prop} {cs : List Chn} {u : US} {M : Nat}
theorem gda {α : Type} {l l' : List α} {i : Nat} {d : α} (h : i < l.length) : (l ++ l').getD i d = l.getD i d := by
 rw [List.getD_eq_getElem?_getD,List.getElem?_append_left h,← List.getD_eq_getElem?_getD]
theorem AS.wsetw {s : AS} {k : Int} (hk : s.inn k) (x : Nat) {j : Int} (hj : s.inn j) : (s.setw k x).w j = if j = k then x else s.w j := by
 by_cases h : j = k
 ·rw [if_pos h,h]; exact AS.setw_w hk
 ·rw [if_neg h]
  obtain ⟨i,hi,_,e⟩ := AS.idx hk
  have hne := AS.idx_ne hj hk h
  unfold AS.w AS.setw
  simp only [e]
  rw [e] at hne
  rw [List.getD_eq_getElem?_getD,List.getElem?_set_ne (fun e => hne e.symm),← List.getD_eq_getElem?_getD]
theorem app_old {j : Int} (hj : s.inn j) : s.app.inn j ∧ s.app.n j = s.n j ∧ s.app.w j = s.w j := by
 obtain ⟨i,hi,hid,e⟩ := AS.idx hj
 refine ⟨?_,by unfold AS.n AS.app; simp only [e]; rw [gda hi],by unfold AS.w AS.app; simp only [e]; rw [gda hi]⟩
 unfold AS.inn AS.app at *
 simp only [List.length_append,List.length_singleton]
 omega
theorem app_new : s.app.inn ((s.sl.length : Int) + 1) ∧ s.app.w ((s.sl.length : Int) + 1) = 1 ∧ s.app.n ((s.sl.length : Int) + 1) = NP.zero := by
 refine ⟨?_,?_,?_⟩
 ·unfold AS.inn AS.app
  simp only [List.length_append,List.length_singleton]
  omega
 ·unfold AS.w AS.app; simp
 ·unfold AS.n AS.app; simp
theorem app_inn (k : Int) : s.app.inn k ↔ s.inn k ∨ k = (s.sl.length : Int) + 1 := by
 unfold AS.inn AS.app
 simp only [List.length_append,List.length_singleton]
 omega
theorem app_fresh : ¬ s.inn ((s.sl.length : Int) + 1) := by unfold AS.inn; omega
theorem VT.len (hvt : VT s t C c.nd c.lf c.inn c.fl c.bk cs) : t.sl.length = s.sl.length := by
 have h1 := hvt.inn (t.sl.length : Nat)
 have h2 := hvt.inn (s.sl.length : Nat)
 unfold AS.inn at h1 h2
 omega
theorem UStp.take {o : UO} (hvt : VT s t C c.nd c.lf c.inn c.fl c.bk cs) (hC : ∀ k,C' k → C k) (hs : o.s = s.app) (hui : UI c s.app t.app C' cs o.u (M + 1)) (hown : ∀ k,o.u.own k → u.own k ∨ k = (s.sl.length : Int) + 1) (hnew : o.u.own ((s.sl.length : Int) + 1) ∧ o.u.odd ((s.sl.length : Int) + 1)) (hque : ∀ k,o.u.que k → u.que k ∨ k = (s.sl.length : Int) + 1) (hodd : ∀ k,u.odd k → o.u.odd k) (htk : ¬ (o.tk = true ∧ o.er = 0)) (her : o.er = 0) (hnx : u.nx ≠ 4 ∧ u.nx ≠ 8 ∧ (u.nx = 14 → o.u.nx ≠ 15) := by omega) : UStp c s t C C' cs u M o := by
 have hmi : ∀ (l : Nat) (x : Int × List Int),memL cs l x → s.inn x.1 ∧ t.inn x.1 := fun l x hm => ⟨(hvt.inn _).1 (hvt.tre.ckk hm).2.2,(hvt.tre.ckk hm).2.2⟩
 have hl := hvt.len
 refine ⟨⟨t.app,cs,fun k => k = (s.sl.length : Int) + 1,fun _ => False,?_,?_,?_,fun k h => .inr (h ▸ hnew.1),fun _ h => h.elim,?_,fun h => h.same (fun l x hm => (app_old (hmi l x hm).2).2.1),fun _ => Upl.refl _ _,Cn.same hnx (fun l x hm => (app_old (hmi l x hm).2).2.1)⟩,fun k h => ?_,fun k h => ?_,fun k h1 h2 => ?_,by rw [hs]; rfl,.inl her⟩
 ·rw [hs]
  refine ⟨hvt.tre.same rfl (fun k hk => (app_old hk).1) (fun l x hm => (app_old (hmi l x hm).2).2.1),hvt.root,fun k => ?_,fun l x hm h => ?_⟩
  ·rw [app_inn,app_inn,hl]
   exact or_congr (hvt.inn k) Iff.rfl
  ·obtain ⟨i1,i2⟩ := hmi l x hm
   rw [(app_old i1).2.1,(app_old i2).2.1]
   rw [(app_old i1).2.2] at h
   exact hvt.rd l x hm (h.imp (fun h => h) (hC _))
 ·rw [hs]; exact hui
 ·rw [hs]
  refine ⟨fun k hk => (app_old hk).1,Ext.refl _,fun k _ hin => ⟨(app_old hin).2.1,(app_old hin).2.2,(app_old ((hvt.inn k).2 hin)).2.1⟩,fun _ _ h => .inl h,fun wd n0 Y id m hm _ h => ?_,fun R _ h l x hm => ?_⟩
  ·obtain ⟨l,x,h1,rfl⟩ := hm
   obtain ⟨i1,i2⟩ := hmi l x h1
   exact h.same (app_old i1).1 (app_old i1).2.2 (app_old i2).2.1 (hC _)
  ·rw [(app_old (hmi l x hm).2).2.1]; exact h l x hm
 ·rw [if_neg htk]
  have h0 := hvt.tre.ne
  obtain ⟨d,r,e⟩ : ∃ d r,cs = d :: r := by
   cases cs with
   | nil => simp at h0
   | cons d r => exact ⟨d,r,rfl⟩
  unfold mp
  rw [e]
  refine entsC_same (fun x hx => ?_)
  exact (app_old (hmi 0 x ⟨d,by rw [e]; rfl,hx⟩).2).2.1
 ·rcases hown k h with h1 | h1
  ·exact .inl h1
  ·exact .inr (.inr (by rw [h1]; exact app_fresh))
 ·rcases hque k h with h1 | h1
  ·exact .inl h1
  ·exact .inr (by rw [h1]; exact app_fresh)
 ·rw [hs] at h1 h2
  rcases (app_inn k).1 h1 with h3 | h3
  ·rw [(app_old h3).2.2] at h2
   by_cases h : u.odd k
   ·exact .inl (hodd k h)
   ·exact .inr ⟨h3,h2,h⟩
  ·rw [h3]; exact .inl hnew.2
theorem UStp.loose {o : UO} {j : Int} {x : Nat} (hvt : VT s t C c.nd c.lf c.inn c.fl c.bk cs) (hC : ∀ k,C' k → C k) (hj : s.inn j) (hjo : u.own j) (hoff : Off cs j) (hs : o.s = s.setw j x) (hx : x % 2 = 0) (hui : UI c (s.setw j x) t C' cs o.u (M + 1)) (hown : ∀ k,o.u.own k → u.own k) (hque : ∀ k,o.u.que k → u.que k) (hodd : ∀ k,k ≠ j → u.odd k → o.u.odd k) (htk : ¬ (o.tk = true ∧ o.er = 0)) (her : o.er = 0) (hnx : u.nx ≠ 4 ∧ u.nx ≠ 8 ∧ (u.nx = 14 → o.u.nx ≠ 15) := by omega) : UStp c s t C C' cs u M o := by
 have hi : ∀ k,(s.setw j x).inn k ↔ s.inn k := AS.inn_of_len (AS.setw_len _ _ _)
 have hmi : ∀ (l : Nat) (y : Int × List Int),memL cs l y → s.inn y.1 ∧ (s.setw j x).w y.1 = s.w y.1 := fun l y hm => by
  have h1 := (hvt.inn _).1 (hvt.tre.ckk hm).2.2
  exact ⟨h1,by rw [AS.wsetw hj x h1,if_neg (hoff l y hm)]⟩
 refine ⟨⟨t,cs,fun k => k = j,fun _ => False,?_,?_,?_,fun k h => .inl (h ▸ hjo),fun _ h => h.elim,by rw [if_neg htk],fun h => h,fun _ => Upl.refl _ _,Cn.same hnx (fun _ _ _ => rfl)⟩,fun k h => .inl (hown k h),fun k h => .inl (hque k h),fun k h1 h2 => ?_,by rw [hs]; rfl,.inl her⟩
 ·rw [hs]
  refine ⟨hvt.tre,hvt.root,fun k => (hvt.inn k).trans (hi k).symm,fun l y hm h => ?_⟩
  rw [(hmi l y hm).2] at h
  rw [AS.n_setw hj]
  exact hvt.rd l y hm (h.imp (fun h => h) (hC _))
 ·rw [hs]; exact hui
 ·rw [hs]
  refine ⟨fun k hk => (hi k).2 hk,Ext.refl _,fun k hk hin => ⟨AS.n_setw hj x k,by rw [AS.wsetw hj x hin,if_neg hk],rfl⟩,fun _ _ h => .inl h,fun wd n0 Y id m hm _ h => ?_,fun _ _ h => h⟩
  obtain ⟨l,y,h1,rfl⟩ := hm
  exact h.same ((hi _).2 (hmi l y h1).1) (hmi l y h1).2 rfl (hC _)
 ·rw [hs] at h1 h2
  have h3 := (hi k).1 h1
  rw [AS.wsetw hj x h3] at h2
  by_cases e : k = j
  ·rw [if_pos e] at h2; omega
  ·rw [if_neg e] at h2
   by_cases h : u.odd k
   ·exact .inl (hodd k e h)
   ·exact .inr ⟨h3,h2,h⟩
theorem unl0 {k : Int} (h : s.inn k) (ho : s.w k % 2 = 1) : s.unlE k = 0 := by unfold AS.unlE; rw [if_pos h,if_neg (by omega)]
theorem free_even (y : Nat) (h : y % 2 = 1) : freeW y true % 2 = 0 := by unfold freeW; rw [if_pos rfl]; omega
theorem sp_layBody (hvt : VT s t C c.nd c.lf c.inn c.fl c.bk cs) (hu : UI c s t C cs u M) (hx : u.nx = 3) (hC1 : ∀ k,u.hol k → (C k ↔ u.cln)) (hC2 : ∀ k,¬ u.hol k → ¬ (u.step s).u.hol k → (C' k ↔ C k)) (hC3 : ∀ k,(u.step s).u.hol k → (C' k ↔ (u.step s).u.cln)) : UStp c s t C C' cs u M (u.step s) := by
 obtain ⟨low,g⟩ := hu.hd (by omega) (by omega)
 have hin : s.inn u.hid := (hvt.inn _).1 (hvt.tre.ckk g.m).2.2
 have hun := unl0 hin g.od
 have h3 := hu.p3 (.inl hx)
 have hcl := hu.cl (.inl hx)
 have ehd : u.hn.lv = (s.n u.hid).lv ∧ u.hn.hi = (s.n u.hid).hi ∧ u.hn.ri = (s.n u.hid).ri := by
  rw [h3,hcl]
  unfold US.fat
  split
  ·have := with_head (p := t.n u.hid) u.sep u.val; exact ⟨this.1,this.2.1,this.2.2.1⟩
  ·exact joined_head u.sep u.rgt
 have es : s.bodS u.hid u.hn.ks u.hn.vs u.hn.cs = s.setn u.hid u.hn := by
  unfold AS.bodS
  rw [if_pos hun]
  congr 1
  unfold NP.setB
  rw [← ehd.1,← ehd.2.1,← ehd.2.2]
 have e : u.step s = ⟨{ u with nx := 4 },s.setn u.hid u.hn,false,0⟩ := ustep_of (by omega) (by unfold US.act; rw [hx]; simp only [es,hun]) rfl
 rw [e] at hC2 hC3 ⊢
 have hC := cmon (o := ⟨{ u with nx := 4 },s.setn u.hid u.hn,false,0⟩) hC1 hC2 hC3 (fun k => ⟨fun h => ⟨by omega,h.2⟩,fun h => ⟨by simp,h.2⟩⟩) (fun h => by simp [US.cln] at h)
 refine UStp.node hvt hC hin (.inl ⟨by omega,rfl⟩) rfl (fun l x hm ex h => ?_) ⟨hu.cf,hu.lev,(fun _ _ => hu.key (by omega) (by omega)),hu.val,(fun a => by simp at a),(fun a _ => hu.lk a (by omega)),(fun a => by simp at a),(fun a => by simp at a),(fun _ _ => ⟨low,g.m,g.lo,g.be,by rw [AS.w_setn hin]; exact g.od,fun _ b => g.is (by omega) b⟩),(fun a => by simp [US.cln] at a),(fun _ => h3),(fun _ => setn_self hin),(fun _ => hu.no (.inl hx)),(fun a => by simp at a),(fun a => by simp at a),(fun a => by simp at a),(fun a => by simp at a),(fun a b => by simp at a),(fun a b => by simp at a),(fun a => by simp at a),(fun a b => by simp at a),(fun a => by simp at a),(fun a b => by simp at a b),(fun a b => by simp at a b),(fun a b => by simp at a b),(fun a => by simp at a),(fun a => by simp at a)⟩ (fun k h => ?_) (fun k h => ?_) (fun k h => ?_) (fun h => by cases h.1) rfl
 ·rcases h with h | h
  ·have := g.od; omega
  ·have := (hC3 u.hid ⟨by simp,rfl⟩).1 h
   simp [US.cln] at this
 ·simp [US.own,US.hol,US.prv] at h
  exact .inl ⟨by omega,h⟩
 ·simp [US.que,hx] at h ⊢
  exact h
 ·simp [US.odd,US.hol,hx] at h ⊢
  exact h
theorem sp_half0 (hvt : VT s t C c.nd c.lf c.inn c.fl c.bk cs) (hu : UI c s t C cs u M) (hx : u.nx = 7) (hpc : u.pc = 0) (hC1 : ∀ k,u.hol k → (C k ↔ u.cln)) (hC2 : ∀ k,¬ u.hol k → ¬ (u.step s).u.hol k → (C' k ↔ C k)) (hC3 : ∀ k,(u.step s).u.hol k → (C' k ↔ (u.step s).u.cln)) : UStp c s t C C' cs u M (u.step s) := by
 obtain ⟨low,g⟩ := hu.hd (by omega) (by omega)
 have hin : s.inn u.hid := (hvt.inn _).1 (hvt.tre.ckk g.m).2.2
 obtain ⟨hfi,hoff⟩ := hu.fo (.inl hx)
 have hne : u.hid ≠ u.fid := hoff _ _ g.m
 have hun := unl0 hfi (hu.pa hx (by omega))
 have es : s.hedS u.fid u.fn.lv u.fn.hi u.fn.ri = s.setn u.fid ((s.n u.fid).setH u.fn.lv u.fn.hi u.fn.ri) := if_pos hun
 have ew : ∀ k,(s.setn u.fid ((s.n u.fid).setH u.fn.lv u.fn.hi u.fn.ri)).w k = s.w k := AS.w_setn hfi _
 have en : (s.setn u.fid ((s.n u.fid).setH u.fn.lv u.fn.hi u.fn.ri)).n u.hid = s.n u.hid := by rw [AS.n_setn hfi _ hin,if_neg hne]
 have e : u.step s = ⟨{ u with pc := 1 },s.setn u.fid ((s.n u.fid).setH u.fn.lv u.fn.hi u.fn.ri),false,0⟩ := ustep_of (by omega) (by unfold US.act; rw [hx]; simp only [hpc]; rw [hun]; exact (by rw [← es]; rfl)) rfl
 rw [e] at hC2 hC3 ⊢
 have hC := cmon (o := ⟨{ u with pc := 1 },s.setn u.fid ((s.n u.fid).setH u.fn.lv u.fn.hi u.fn.ri),false,0⟩) hC1 hC2 hC3 (fun k => ⟨fun h => ⟨by omega,h.2⟩,fun h => ⟨by simp [hx],h.2⟩⟩) (fun h => by simp [US.cln,hx,hpc] at h ⊢)
 refine UStp.node hvt hC hfi (.inr (.inl ⟨.inl hx,rfl⟩)) rfl (fun l x hm ex _ => hoff l x hm ex) ⟨hu.cf,hu.lev,(fun _ _ => hu.key (by omega) (by omega)),hu.val,(fun a => by simp only at a; omega),(fun a _ => hu.lk a (by omega)),(fun a => by simp only at a; omega),(fun a => by simp only at a; omega),(fun _ _ => ⟨low,g.m,g.lo,g.be,by rw [ew]; exact g.od,fun _ b => g.is (by omega) b⟩),(fun _ => by rw [en]; exact hu.cl (.inr (.inr (.inr ⟨hx,by omega⟩)))),(fun a => by simp only at a; omega),(fun a => by simp only at a; omega),(fun a => by simp only at a; omega),(fun _ => hu.ov (.inr (.inl hx))),(fun _ => hu.p7 (.inl hx)),(fun _ => ⟨(AS.inn_of_len (AS.setn_len _ _ _) _).2 hfi,hoff⟩),(fun _ => by simp),(fun _ _ => by rw [ew]; exact hu.pa hx (by omega)),(fun _ _ => by rw [setn_self hfi]; exact ⟨rfl,rfl,rfl⟩),(fun a => by simp [hx] at a),(fun _ b => by simp at b),(fun a => by simp only at a; omega),(fun a b => by simp only at a b; omega),(fun a b => by simp only at a b; omega),(fun a b => by simp only at a b; omega),(fun a => by simp only at a; omega),(fun a => by simp only at a; omega)⟩ (fun k h => ?_) (fun k h => ?_) (fun k h => ?_) (fun h => by cases h.1) rfl
 ·simp [US.own,US.hol,US.prv,hx] at h ⊢
  exact h
 ·simp [US.que,hx] at h ⊢
  exact h
 ·simp [US.odd,US.hol,hx,hpc] at h ⊢
  exact h
theorem sp_half1 (hvt : VT s t C c.nd c.lf c.inn c.fl c.bk cs) (hu : UI c s t C cs u M) (hx : u.nx = 7) (hpc : u.pc = 1) (hC1 : ∀ k,u.hol k → (C k ↔ u.cln)) (hC2 : ∀ k,¬ u.hol k → ¬ (u.step s).u.hol k → (C' k ↔ C k)) (hC3 : ∀ k,(u.step s).u.hol k → (C' k ↔ (u.step s).u.cln)) : UStp c s t C C' cs u M (u.step s) := by
 obtain ⟨low,g⟩ := hu.hd (by omega) (by omega)
 have hin : s.inn u.hid := (hvt.inn _).1 (hvt.tre.ckk g.m).2.2
 obtain ⟨hfi,hoff⟩ := hu.fo (.inl hx)
 have hne : u.hid ≠ u.fid := hoff _ _ g.m
 have hun := unl0 hfi (hu.pa hx (by omega))
 obtain ⟨b1,b2,b3⟩ := hu.pb hx (by omega)
 have es : s.bodS u.fid u.fn.ks u.fn.vs u.fn.cs = s.setn u.fid u.fn := by
  unfold AS.bodS
  rw [if_pos hun]
  congr 1
  unfold NP.setB
  rw [b1,b2,b3]
 have ew : ∀ k,(s.setn u.fid u.fn).w k = s.w k := AS.w_setn hfi _
 have en : (s.setn u.fid u.fn).n u.hid = s.n u.hid := by rw [AS.n_setn hfi _ hin,if_neg hne]
 have e : u.step s = ⟨{ u with pc := 2 },s.setn u.fid u.fn,false,0⟩ := ustep_of (by omega) (by unfold US.act; rw [hx]; simp only [hpc]; rw [hun]; exact (by rw [← es]; rfl)) rfl
 rw [e] at hC2 hC3 ⊢
 have hC := cmon (o := ⟨{ u with pc := 2 },s.setn u.fid u.fn,false,0⟩) hC1 hC2 hC3 (fun k => ⟨fun h => ⟨by omega,h.2⟩,fun h => ⟨by simp [hx],h.2⟩⟩) (fun h => by simp [US.cln,hx,hpc] at h ⊢)
 refine UStp.node hvt hC hfi (.inr (.inl ⟨.inl hx,rfl⟩)) rfl (fun l x hm ex _ => hoff l x hm ex) ⟨hu.cf,hu.lev,(fun _ _ => hu.key (by omega) (by omega)),hu.val,(fun a => by simp only at a; omega),(fun a _ => hu.lk a (by omega)),(fun a => by simp only at a; omega),(fun a => by simp only at a; omega),(fun _ _ => ⟨low,g.m,g.lo,g.be,by rw [ew]; exact g.od,fun _ b => g.is (by omega) b⟩),(fun _ => by rw [en]; exact hu.cl (.inr (.inr (.inr ⟨hx,by omega⟩)))),(fun a => by simp only at a; omega),(fun a => by simp only at a; omega),(fun a => by simp only at a; omega),(fun _ => hu.ov (.inr (.inl hx))),(fun _ => hu.p7 (.inl hx)),(fun _ => ⟨(AS.inn_of_len (AS.setn_len _ _ _) _).2 hfi,hoff⟩),(fun _ => by simp),(fun _ _ => by rw [ew]; exact hu.pa hx (by omega)),(fun _ _ => by rw [setn_self hfi]; exact ⟨rfl,rfl,rfl⟩),(fun _ => setn_self hfi),(fun _ b => by simp at b),(fun a => by simp only at a; omega),(fun a b => by simp only at a b; omega),(fun a b => by simp only at a b; omega),(fun a b => by simp only at a b; omega),(fun a => by simp only at a; omega),(fun a => by simp only at a; omega)⟩ (fun k h => ?_) (fun k h => ?_) (fun k h => ?_) (fun h => by cases h.1) rfl
 ·simp [US.own,US.hol,US.prv,hx] at h ⊢
  exact h
 ·simp [US.que,hx] at h ⊢
  exact h
 ·simp [US.odd,US.hol,hx,hpc] at h ⊢
  exact h
theorem sp_half2 (hvt : VT s t C c.nd c.lf c.inn c.fl c.bk cs) (hu : UI c s t C cs u M) (hx : u.nx = 7) (hpc : u.pc = 2) (hC1 : ∀ k,u.hol k → (C k ↔ u.cln)) (hC2 : ∀ k,¬ u.hol k → ¬ (u.step s).u.hol k → (C' k ↔ C k)) (hC3 : ∀ k,(u.step s).u.hol k → (C' k ↔ (u.step s).u.cln)) : UStp c s t C C' cs u M (u.step s) := by
 obtain ⟨low,g⟩ := hu.hd (by omega) (by omega)
 have hin : s.inn u.hid := (hvt.inn _).1 (hvt.tre.ckk g.m).2.2
 obtain ⟨hfi,hoff⟩ := hu.fo (.inl hx)
 have hne : u.hid ≠ u.fid := hoff _ _ g.m
 have hun := unl0 hfi (hu.pa hx (by omega))
 have es : s.unlS u.fid true = s.setw u.fid (freeW (s.w u.fid) true) := if_pos hun
 have ew : (s.setw u.fid (freeW (s.w u.fid) true)).w u.hid = s.w u.hid := by rw [AS.wsetw hfi _ hin,if_neg hne]
 have en : ∀ k,(s.setw u.fid (freeW (s.w u.fid) true)).n k = s.n k := AS.n_setw hfi _
 have e : u.step s = ⟨{ u with pc := 3 },s.setw u.fid (freeW (s.w u.fid) true),false,0⟩ := ustep_of (by omega) (by unfold US.act; rw [hx]; simp only [hpc]; rw [hun]; exact (by rw [← es]; rfl)) rfl
 rw [e] at hC2 hC3 ⊢
 have hC := cmon (o := ⟨{ u with pc := 3 },s.setw u.fid (freeW (s.w u.fid) true),false,0⟩) hC1 hC2 hC3 (fun k => ⟨fun h => ⟨by omega,h.2⟩,fun h => ⟨by simp [hx],h.2⟩⟩) (fun h => by simp [US.cln,hx,hpc] at h ⊢)
 refine UStp.loose hvt hC hfi (.inr (.inl ⟨.inl hx,rfl⟩)) hoff rfl (free_even _ (hu.pa hx (by omega))) ⟨hu.cf,hu.lev,(fun _ _ => hu.key (by omega) (by omega)),hu.val,(fun a => by simp only at a; omega),(fun a _ => hu.lk a (by omega)),(fun a => by simp only at a; omega),(fun a => by simp only at a; omega),(fun _ _ => ⟨low,g.m,g.lo,g.be,by rw [ew]; exact g.od,fun _ b => g.is (by omega) b⟩),(fun _ => by rw [en]; exact hu.cl (.inr (.inr (.inr ⟨hx,by omega⟩)))),(fun a => by simp only at a; omega),(fun a => by simp only at a; omega),(fun a => by simp only at a; omega),(fun _ => hu.ov (.inr (.inl hx))),(fun _ => hu.p7 (.inl hx)),(fun _ => ⟨(AS.inn_of_len (AS.setw_len _ _ _) _).2 hfi,hoff⟩),(fun _ => by simp),(fun _ b => by simp at b),(fun _ _ => by rw [en]; exact hu.pb hx (by omega)),(fun _ => by rw [en]; exact hu.pd (.inl ⟨hx,by omega⟩)),(fun _ b => by simp at b),(fun a => by simp only at a; omega),(fun a b => by simp only at a b; omega),(fun a b => by simp only at a b; omega),(fun a b => by simp only at a b; omega),(fun a => by simp only at a; omega),(fun a => by simp only at a; omega)⟩ (fun k h => ?_) (fun k h => ?_) (fun k hk h => ?_) (fun h => by cases h.1) rfl
 ·simp [US.own,US.hol,US.prv,hx] at h ⊢
  exact h
 ·simp [US.que,hx] at h ⊢
  exact h
 ·simp [US.odd,US.hol,hx,hpc] at h ⊢
  rcases h with h | h
  ·exact h
  ·exact absurd h hk
theorem sp_half3 (hvt : VT s t C c.nd c.lf c.inn c.fl c.bk cs) (hu : UI c s t C cs u M) (hx : u.nx = 7) (hpc : u.pc = 3) (hC1 : ∀ k,u.hol k → (C k ↔ u.cln)) (hC2 : ∀ k,¬ u.hol k → ¬ (u.step s).u.hol k → (C' k ↔ C k)) (hC3 : ∀ k,(u.step s).u.hol k → (C' k ↔ (u.step s).u.cln)) : UStp c s t C C' cs u M (u.step s) := by
 obtain ⟨low,g⟩ := hu.hd (by omega) (by omega)
 have hin : s.inn u.hid := (hvt.inn _).1 (hvt.tre.ckk g.m).2.2
 obtain ⟨hfi,hoff⟩ := hu.fo (.inl hx)
 have hne : u.hid ≠ u.fid := hoff _ _ g.m
 have hun := unl0 hin g.od
 have es : s.hedS u.hid u.hn.lv u.hn.hi u.hn.ri = s.setn u.hid ((s.n u.hid).setH u.hn.lv u.hn.hi u.hn.ri) := if_pos hun
 have ew : ∀ k,(s.setn u.hid ((s.n u.hid).setH u.hn.lv u.hn.hi u.hn.ri)).w k = s.w k := AS.w_setn hin _
 have en : (s.setn u.hid ((s.n u.hid).setH u.hn.lv u.hn.hi u.hn.ri)).n u.fid = s.n u.fid := by rw [AS.n_setn hin _ hfi,if_neg (fun e => hne e.symm)]
 have e : u.step s = ⟨{ u with pc := 4 },s.setn u.hid ((s.n u.hid).setH u.hn.lv u.hn.hi u.hn.ri),false,0⟩ := ustep_of (by omega) (by unfold US.act; rw [hx]; simp only [hpc]; rw [hun]; exact (by rw [← es]; rfl)) rfl
 rw [e] at hC2 hC3 ⊢
 have hC := cmon (o := ⟨{ u with pc := 4 },s.setn u.hid ((s.n u.hid).setH u.hn.lv u.hn.hi u.hn.ri),false,0⟩) hC1 hC2 hC3 (fun k => ⟨fun h => ⟨by omega,h.2⟩,fun h => ⟨by simp [hx],h.2⟩⟩) (fun h => by simp [US.cln,hx] at h ⊢)
 refine UStp.node hvt hC hin (.inl ⟨by omega,rfl⟩) rfl (fun l x hm ex h => ?_) ⟨hu.cf,hu.lev,(fun _ _ => hu.key (by omega) (by omega)),hu.val,(fun a => by simp only at a; omega),(fun a _ => hu.lk a (by omega)),(fun a => by simp only at a; omega),(fun a => by simp only at a; omega),(fun _ _ => ⟨low,g.m,g.lo,g.be,by rw [ew]; exact g.od,fun _ b => g.is (by omega) b⟩),(fun a => by simp [US.cln,hx] at a),(fun a => by simp only at a; omega),(fun a => by simp only at a; omega),(fun a => by simp only at a; omega),(fun _ => hu.ov (.inr (.inl hx))),(fun _ => hu.p7 (.inl hx)),(fun _ => ⟨(AS.inn_of_len (AS.setn_len _ _ _) _).2 hfi,hoff⟩),(fun _ => by simp),(fun _ b => by simp at b),(fun _ _ => by rw [en]; exact hu.pb hx (by omega)),(fun _ => by rw [en]; exact hu.pd (.inl ⟨hx,by omega⟩)),(fun _ _ => by rw [setn_self hin]; exact ⟨rfl,rfl,rfl⟩),(fun a => by simp only at a; omega),(fun a b => by simp only at a b; omega),(fun a b => by simp only at a b; omega),(fun a b => by simp only at a b; omega),(fun a => by simp only at a; omega),(fun a => by simp only at a; omega)⟩ (fun k h => ?_) (fun k h => ?_) (fun k h => ?_) (fun h => by cases h.1) rfl
 ·rcases h with h | h
  ·have := g.od; omega
  ·have := (hC3 u.hid ⟨by simp [hx],rfl⟩).1 h
   simp [US.cln,hx] at this
 ·simp [US.own,US.hol,US.prv,hx] at h ⊢
  exact h
 ·simp [US.que,hx] at h ⊢
  exact h
 ·simp [US.odd,US.hol,hx,hpc] at h ⊢
  exact h
theorem sp_half4 (hvt : VT s t C c.nd c.lf c.inn c.fl c.bk cs) (hu : UI c s t C cs u M) (hx : u.nx = 7) (hpc : u.pc = 4) (hC1 : ∀ k,u.hol k → (C k ↔ u.cln)) (hC2 : ∀ k,¬ u.hol k → ¬ (u.step s).u.hol k → (C' k ↔ C k)) (hC3 : ∀ k,(u.step s).u.hol k → (C' k ↔ (u.step s).u.cln)) : UStp c s t C C' cs u M (u.step s) := by
 obtain ⟨low,g⟩ := hu.hd (by omega) (by omega)
 have hin : s.inn u.hid := (hvt.inn _).1 (hvt.tre.ckk g.m).2.2
 obtain ⟨hfi,hoff⟩ := hu.fo (.inl hx)
 have hne : u.hid ≠ u.fid := hoff _ _ g.m
 have hun := unl0 hin g.od
 obtain ⟨b1,b2,b3⟩ := hu.pe hx hpc
 have es : s.bodS u.hid u.hn.ks u.hn.vs u.hn.cs = s.setn u.hid u.hn := by
  unfold AS.bodS
  rw [if_pos hun]
  congr 1
  unfold NP.setB
  rw [b1,b2,b3]
 have ew : ∀ k,(s.setn u.hid u.hn).w k = s.w k := AS.w_setn hin _
 have en : (s.setn u.hid u.hn).n u.fid = s.n u.fid := by rw [AS.n_setn hin _ hfi,if_neg (fun e => hne e.symm)]
 have e : u.step s = ⟨{ u with pc := 5,nx := 8 },s.setn u.hid u.hn,false,0⟩ := ustep_of (by omega) (by unfold US.act; rw [hx]; simp only [hpc]; rw [hun]; exact (by rw [← es]; rfl)) rfl
 rw [e] at hC2 hC3 ⊢
 have hC := cmon (o := ⟨{ u with pc := 5,nx := 8 },s.setn u.hid u.hn,false,0⟩) hC1 hC2 hC3 (fun k => ⟨fun h => ⟨by omega,h.2⟩,fun h => ⟨by simp,h.2⟩⟩) (fun h => by simp [US.cln] at h ⊢)
 refine UStp.node hvt hC hin (.inl ⟨by omega,rfl⟩) rfl (fun l x hm ex h => ?_) ⟨hu.cf,hu.lev,(fun _ _ => hu.key (by omega) (by omega)),hu.val,(fun a => by simp at a),(fun a _ => hu.lk a (by omega)),(fun a => by simp at a),(fun a => by simp at a),(fun _ _ => ⟨low,g.m,g.lo,g.be,by rw [ew]; exact g.od,fun _ b => g.is (by omega) b⟩),(fun a => by simp [US.cln] at a),(fun a => by simp at a),(fun a => by simp at a),(fun a => by simp at a),(fun _ => hu.ov (.inr (.inl hx))),(fun _ => hu.p7 (.inl hx)),(fun _ => ⟨(AS.inn_of_len (AS.setn_len _ _ _) _).2 hfi,hoff⟩),(fun a => by simp at a),(fun a b => by simp at a),(fun a b => by simp at a),(fun _ => by rw [en]; exact hu.pd (.inl ⟨hx,by omega⟩)),(fun a b => by simp at a),(fun _ => setn_self hin),(fun a b => by simp at a b),(fun a b => by simp at a b),(fun a b => by simp at a b),(fun a => by simp at a),(fun a => by simp at a)⟩ (fun k h => ?_) (fun k h => ?_) (fun k h => ?_) (fun h => by cases h.1) rfl
 ·rcases h with h | h
  ·have := g.od; omega
  ·have := (hC3 u.hid ⟨by simp,rfl⟩).1 h
   simp [US.cln] at this
 ·simp [US.own,US.hol,US.prv,hx] at h ⊢
  exact h
 ·simp [US.que,hx] at h ⊢
  exact h
 ·simp [US.odd,US.hol,hx,hpc] at h ⊢
  exact h
end
end Go.Proofs.YtljnapejgjffjaaGreat
