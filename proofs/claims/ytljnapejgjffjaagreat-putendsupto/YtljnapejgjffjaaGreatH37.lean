/- Texts of one's own. -/
import Derived.Test.YtljnapejgjffjaaGreatH36
namespace Go.Proofs.YtljnapejgjffjaaGreat
open Go.RowKit
set_option maxRecDepth 100000
section
variable {c : Cfg} {s t : AS} {C C' : Int → Prop} {cs : List Chn} {u : US} {M : Nat}
theorem over_iff (p : NP) : p.over c = true ↔ OvP p.lv p.ks.length p.cs.length c.lf c.inn := by
 unfold NP.over OvP
 rw [decide_eq_true_iff]
theorem over_no (p : NP) : p.over c = false ↔ ¬ OvP p.lv p.ks.length p.cs.length c.lf c.inn := by
 rw [← over_iff,Bool.not_eq_true]
theorem fat_ok {low : List Int} (hvt : VT s t C c.nd c.lf c.inn c.fl c.bk cs) (hu : UI c s t C cs u M) (hnd : (s.sl.length : Int) ≤ c.nd) (h3 : 3 ≤ u.nx) (h8 : u.nx ≤ 8) (g : Hd s t cs u low) :
  MayB (u.fat (t.n u.hid)) c.nd ∧ ¬ notAb low (u.fat (t.n u.hid)) ∧ ((u.fat (t.n u.hid)).lv = 0 → ((u.fat (t.n u.hid)).ks.length : Int) ≤ c.lf + 1) ∧ ((u.fat (t.n u.hid)).lv ≠ 0 → ((u.fat (t.n u.hid)).cs.length : Int) ≤ c.inn + 1) ∧ (u.fat (t.n u.hid)).lv = u.lev ∧ (u.fat (t.n u.hid)).lv = (t.n u.hid).lv ∧ (u.fat (t.n u.hid)).hi = (t.n u.hid).hi ∧ (u.fat (t.n u.hid)).ri = (t.n u.hid).ri := by
 obtain ⟨k1,k2,k3⟩ := hvt.tre.ckk g.m
 have hlv := hvt.tre.lev g.m
 simp only at k1 k2 k3 hlv
 have hl := hu.lev
 have hkey := hu.key (by omega) (by omega)
 by_cases h0 : u.lev = 0
 ·have e : u.fat (t.n u.hid) = (t.n u.hid).with_ u.sep u.val := if_pos h0
  have h00 : (t.n u.hid).lv = 0 := by omega
  obtain ⟨f1,f2,f3⟩ := leaf_fate k1 h00 hkey g.be hu.val g.lo k2
  obtain ⟨w1,w2,w3,_⟩ := with_head (p := t.n u.hid) u.sep u.val
  rw [e]
  exact ⟨f1,f2,fun _ => f3,fun h => absurd (w1.trans h00) h,by rw [w1]; omega,w1,w2,w3⟩
 ·have e : u.fat (t.n u.hid) = (t.n u.hid).joined u.sep u.rgt := if_neg h0
  have hpos : 0 < u.lev := by omega
  have h00 : (t.n u.hid).lv ≠ 0 := by omega
  obtain ⟨_,q2,q3⟩ := hu.lk hpos (by omega)
  have hri := (hvt.inn _).1 (hvt.tre.ckk q2).2.2
  simp only at hri
  obtain ⟨f1,f2,f3⟩ := inner_fate (kid := u.rgt) k1 h00 hkey g.be (by unfold AS.inn at hri; omega) (q3 _ _ g.m) g.lo k2
  obtain ⟨w1,w2,w3⟩ := joined_head (p := t.n u.hid) u.sep u.rgt
  rw [e]
  exact ⟨f1,f2,fun h => absurd (w1.symm.trans h) h00,fun _ => f3,by rw [w1]; omega,w1,w2,w3⟩
theorem fate_cases (u : US) (n : NP) (id : Int) : ∃ u' : US,({ u with hid := id } : US).fate n = u' ∧ u'.cf = u.cf ∧ u'.val = u.val ∧ u'.lev = u.lev ∧ u'.sep = u.sep ∧ u'.hid = id ∧ u'.lft = u.lft ∧ u'.rgt = u.rgt ∧ ((u'.nx = 3 ∧ u'.hn = u.fat n ∧ (u.fat n).over u.cf = false ∧ (0 < u.lev → isIn n.ks u.sep = false)) ∨ (u'.nx = 6 ∧ u'.hn = u.fat n ∧ (u.fat n).over u.cf = true ∧ (0 < u.lev → isIn n.ks u.sep = false)) ∨ u'.nx = 5) := by
 unfold US.fate US.fat
 simp only
 by_cases h0 : u.lev = 0
 ·rw [if_pos h0,if_pos h0]
  refine ⟨_,rfl,rfl,rfl,rfl,rfl,rfl,rfl,rfl,?_⟩
  cases h1 : (n.with_ u.sep u.val).over u.cf with
  | false => exact .inl ⟨rfl,rfl,rfl,fun h => by omega⟩
  | true => exact .inr (.inl ⟨rfl,rfl,rfl,fun h => by omega⟩)
 ·rw [if_neg h0,if_neg h0]
  cases h2 : isIn n.ks u.sep with
  | true => exact ⟨_,rfl,rfl,rfl,rfl,rfl,rfl,rfl,rfl,.inr (.inr rfl)⟩
  | false =>
   refine ⟨_,rfl,rfl,rfl,rfl,rfl,rfl,rfl,rfl,?_⟩
   cases h1 : (n.joined u.sep u.rgt).over u.cf with
   | false => exact .inl ⟨rfl,rfl,rfl,fun _ => rfl⟩
   | true => exact .inr (.inl ⟨rfl,rfl,rfl,fun _ => rfl⟩)
theorem sp_lock (hvt : VT s t C c.nd c.lf c.inn c.fl c.bk cs) (hu : UI c s t C cs u M) (hM : M < 18446744073709551616) (hx : u.nx = 2) (hC1 : ∀ k,u.hol k → (C k ↔ u.cln)) (hC2 : ∀ k,¬ u.hol k → ¬ (u.step s).u.hol k → (C' k ↔ C k)) (hC3 : ∀ k,(u.step s).u.hol k → (C' k ↔ (u.step s).u.cln)) : UStp c s t C C' cs u M (u.step s) := by
 obtain ⟨ms,hms,hda⟩ := hu.p2 hx
 have em : u.m = ms := by unfold US.m; rw [hms]; rfl
 obtain ⟨low,hm,hlo⟩ := hda.on
 have hin := hda.sw.inn
 have hno : ∀ k,¬ u.hol k := fun k h => by have := h.1.1; omega
 have hnod : ∀ k,¬ u.odd k := fun k h => by simp [US.odd,US.hol,hx] at h
 by_cases hb : s.inn ms.id ∧ s.w ms.id = ms.wd ∧ ms.wd % 2 = 0
 case neg =>
  have hB : s.lockB ms.id ms.wd = false := decide_eq_false hb
  have hE : s.wordE ms.id = 0 := if_pos hin
  have e : u.step s = ⟨u.down,s,false,0⟩ := ustep_of (by omega) (by unfold US.act; rw [hx]; simp only [em]; rw [if_neg (by rw [hB]; decide),hE]) rfl
  rw [e] at hC2 hC3 ⊢
  have hC := cmon (o := ⟨u.down,s,false,0⟩) hC1 hC2 hC3 (fun k => ⟨fun h => by have := h.1.1; simp [US.down] at this,fun h => absurd h (hno k)⟩) (fun h => by simp [US.cln,US.down] at h)
  unfold US.down at *
  refine UStp.quiet hvt hC rfl ⟨hu.cf,hu.lev,(fun _ _ => hu.key (by omega) (by omega)),hu.val,(fun a => by simp at a),(fun a _ => hu.lk a (by omega)),(fun _ => ⟨_,rfl,DI.new _ _⟩),(fun a => by simp at a),(fun a b => by simp at a b),(fun a => by simp [US.cln] at a),(fun a => by simp at a),(fun a => by simp at a),(fun a => by simp at a),(fun a => by simp at a),(fun a => by simp at a),(fun a => by simp at a),(fun a => by simp at a),(fun a b => by simp at a),(fun a b => by simp at a),(fun a => by simp at a),(fun a b => by simp at a),(fun a => by simp at a),(fun a b => by simp at a b),(fun a b => by simp at a b),(fun a b => by simp at a b),(fun a => by simp at a),(fun a => by simp at a)⟩ (fun k h => by simp [US.own,US.hol,US.prv] at h) (fun k h => ?_) (fun k h => absurd h (hnod k)) (fun h => by cases h.1) (.inl rfl)
  simp [US.que,hx] at h ⊢
  exact h
 obtain ⟨_,hb2,hb3⟩ := hb
 have hB : s.lockB ms.id ms.wd = true := decide_eq_true ⟨hin,hb2,hb3⟩
 have hS : s.lockS ms.id ms.wd = s.setw ms.id (ms.wd + 1) := if_pos ⟨hin,hb2,hb3⟩
 obtain ⟨hnd,_⟩ := hda.sw.now hM hb2
 have hst := hvt.rd _ _ hm (.inl (by simp only; rw [hb2]; exact hb3))
 simp only at hst
 obtain ⟨u',hu',f1,f2,f3,f4,f5,f6,f7,f8⟩ := fate_cases u ms.nd ms.id
 have ea : u.act s = ⟨({ u with hid := ms.id } : US).fate ms.nd,s.lockS ms.id ms.wd,false,0⟩ := by unfold US.act; rw [hx]; simp only [em]; rw [if_pos hB]
 rw [hu',hS] at ea
 have e : u.step s = ⟨u',s.setw ms.id (ms.wd + 1),false,0⟩ := ustep_of (by omega) ea rfl
 rw [e] at hC2 hC3 ⊢
 have hnx : u'.nx = 3 ∨ u'.nx = 6 ∨ u'.nx = 5 := by rcases f8 with h | h | h; exact .inl h.1; exact .inr (.inl h.1); exact .inr (.inr h)
 have hhol : ∀ k,u'.hol k ↔ k = ms.id := fun k => ⟨fun h => by rw [← f5]; exact h.2,fun h => ⟨by omega,by rw [f5]; exact h⟩⟩
 have hown : ∀ k,u'.own k ↔ k = ms.id := fun k => ⟨fun h => by
  rcases h with h | h
  ·exact (hhol k).1 h
  ·rcases h with h | h <;> (have := h.1; omega),fun h => .inl ((hhol k).2 h)⟩
 have hC : ∀ k,k ≠ ms.id → C' k → C k := fun k hk h => (hC2 k (hno k) (fun h2 => hk ((hhol k).1 h2))).1 h
 have hi : ∀ k,(s.setw ms.id (ms.wd + 1)).inn k ↔ s.inn k := AS.inn_of_len (AS.setw_len _ _ _)
 have hmi : ∀ (l : Nat) (y : Int × List Int),memL cs l y → s.inn y.1 := fun l y hm => (hvt.inn _).1 (hvt.tre.ckk hm).2.2
 have hw1 : (s.setw ms.id (ms.wd + 1)).w ms.id = ms.wd + 1 := by rw [AS.wsetw hin _ hin,if_pos rfl]
 have hE : Env s t C cs (s.setw ms.id (ms.wd + 1)) t C' cs (fun k => k = ms.id) (fun _ => False) := by
  refine ⟨fun k hk => (hi k).2 hk,Ext.refl _,fun k hk hin2 => ⟨AS.n_setw hin _ k,by rw [AS.wsetw hin _ hin2,if_neg hk],rfl⟩,fun _ _ h => .inl h,fun wd n0 Y id m hm2 he h => ?_,fun _ _ h => h⟩
  obtain ⟨l,y,h1,rfl⟩ := hm2
  by_cases e1 : y.1 = ms.id
  ·rw [e1] at h ⊢
   exact h.lock he ((hi _).2 hin) (by rw [hb2]; exact hb3) (by rw [hw1,hb2]) rfl
  ·exact h.same ((hi _).2 (hmi l y h1)) (by rw [AS.wsetw hin _ (hmi l y h1),if_neg e1]) rfl (hC _ e1)
 refine ⟨⟨t,cs,_,_,?_,?_,hE,fun k h => .inr ((hown k).2 h),fun _ h => h.elim,by rw [if_neg (fun h => by cases h.1)],fun h => h,fun _ => Upl.refl _ _,Cn.same ⟨by omega,by omega,fun g => by omega⟩ (fun _ _ _ => rfl)⟩,fun k h => ?_,fun k h => ?_,fun k h1 h2 => ?_,rfl,.inl rfl⟩
 ·refine ⟨hvt.tre,hvt.root,fun k => (hvt.inn k).trans (hi k).symm,fun l y hm2 h => ?_⟩
  rw [AS.n_setw hin]
  by_cases e1 : y.1 = ms.id
  ·rw [e1]; exact hst
  ·rw [AS.wsetw hin _ (hmi l y hm2),if_neg e1] at h
   exact hvt.rd l y hm2 (h.imp (fun h => h) (hC _ e1))
 ·have hHd : Hd (s.setw ms.id (ms.wd + 1)) t cs u' low := by
   refine ⟨by rw [f3,f5]; exact hm,by rw [f4]; exact hlo,by rw [f5,f4,hnd]; exact hda.bey,by rw [f5,hw1]; omega,fun h5 h0 => ?_⟩
   rw [f5,f4,hnd]
   rw [f3] at h0
   rcases f8 with h | h | h
   ·exact h.2.2.2 h0
   ·exact h.2.2.2 h0
   ·exact absurd h h5
  have hfe : u'.fat (t.n u'.hid) = u.fat ms.nd := by unfold US.fat; rw [f3,f4,f2,f7,f5,hnd]
  have hcf := hu.cf
  show UI c (s.setw ms.id (ms.wd + 1)) t C' cs u' (M + 1)
  exact ⟨f1.trans hu.cf,(by rw [f3]; exact hu.lev),(fun _ _ => by rw [f4]; exact hu.key (by omega) (by omega)),(by rw [f2]; exact hu.val),(fun a => by omega),(fun a b => by rw [f3] at a; rw [f3,f4,f6,f7]; exact hu.lk a (by omega)),(fun a => by omega),(fun a => by omega),(fun _ _ => ⟨low,hHd⟩),(fun _ => by rw [f5,AS.n_setw hin]; exact hst),(fun _ => by rw [hfe]; rcases f8 with h | h | h; exact h.2.1; exact h.2.1; omega),(fun a => by omega),(fun _ => by rw [hfe,← hcf]; rcases f8 with h | h | h; exact h.2.2.1; omega; omega),(fun _ => by rw [hfe,← hcf]; rcases f8 with h | h | h; omega; exact h.2.2.1; omega),(fun a => by omega),(fun a => by omega),(fun a => by omega),(fun a b => by omega),(fun a b => by omega),(fun a => by omega),(fun a b => by omega),(fun a => by omega),(fun a b => by omega),(fun a b => by omega),(fun a b => by omega),(fun a => by omega),(fun a => by omega)⟩
 ·rw [hown] at h
  rw [h]
  exact .inr (.inl ⟨by rw [hb2]; exact hb3,_,_,hm,rfl⟩)
 ·left
  rcases h with h | h
  ·rw [f3,f7] at h; exact .inl ⟨⟨h.1.1,by omega⟩,h.2⟩
  ·have := h.1; simp only at this; omega
 ·by_cases e1 : k = ms.id
  ·exact .inl (.inl ((hhol k).2 e1))
  ·have h3 := (hi k).1 h1
   have h2' : (s.setw ms.id (ms.wd + 1)).w k % 2 = 1 := h2
   rw [AS.wsetw hin _ h3,if_neg e1] at h2'
   exact .inr ⟨h3,h2',hnod k⟩
theorem sp_takeHalf (hvt : VT s t C c.nd c.lf c.inn c.fl c.bk cs) (hu : UI c s t C cs u M) (hc : cfgOk c.nd c.lf c.inn c.fl c.bk) (hnd : (s.sl.length : Int) ≤ c.nd) (hx : u.nx = 6) (hC1 : ∀ k,u.hol k → (C k ↔ u.cln)) (hC2 : ∀ k,¬ u.hol k → ¬ (u.step s).u.hol k → (C' k ↔ C k)) (hC3 : ∀ k,(u.step s).u.hol k → (C' k ↔ (u.step s).u.cln)) : UStp c s t C C' cs u M (u.step s) := by
 obtain ⟨low,g⟩ := hu.hd (by omega) (by omega)
 have hin : s.inn u.hid := (hvt.inn _).1 (hvt.tre.ckk g.m).2.2
 have hit : t.inn u.hid := (hvt.tre.ckk g.m).2.2
 have h3 := hu.p3 (.inr (.inr hx))
 have hov := hu.ov (.inl hx)
 obtain ⟨f1,f2,f3,f4,f5,f6,f7,f8⟩ := fat_ok hvt hu hnd (by omega) (by omega) g
 have hwd : ¬ (u.fat (t.n u.hid)).wd < 2 := by
  have := over_wd ((over_iff _).1 hov) f1 hc.2.1.1 hc.2.2.1.1
  omega
 by_cases hroom : (s.sl.length : Int) < s.nodes
 case neg =>
  have e : u.step s = ⟨{ u with nx := 5 },s,false,0⟩ := ustep_of (by omega) (by unfold US.act; rw [hx]; simp only; rw [if_neg (by unfold AS.allE; rw [if_neg hroom]; decide)]; unfold AS.allS; rw [if_neg hroom]) rfl
  rw [e] at hC2 hC3 ⊢
  have hC := cmon (o := ⟨{ u with nx := 5 },s,false,0⟩) hC1 hC2 hC3 (fun k => ⟨fun h => ⟨by omega,h.2⟩,fun h => ⟨by simp,h.2⟩⟩) (fun _ => .inr (.inr (.inl hx)))
  refine UStp.quiet hvt hC rfl ⟨hu.cf,hu.lev,(fun _ _ => hu.key (by omega) (by omega)),hu.val,(fun a => by simp at a),(fun a _ => hu.lk a (by omega)),(fun a => by simp at a),(fun a => by simp at a),(fun _ _ => ⟨low,g.m,g.lo,g.be,g.od,fun a _ => absurd rfl a⟩),(fun _ => hu.cl (.inr (.inr (.inl hx)))),(fun a => by simp at a),(fun a => by simp at a),(fun a => by simp at a),(fun a => by simp at a),(fun a => by simp at a),(fun a => by simp at a),(fun a => by simp at a),(fun a b => by simp at a),(fun a b => by simp at a),(fun a => by simp at a),(fun a b => by simp at a),(fun a => by simp at a),(fun a b => by simp at a b),(fun a b => by simp at a b),(fun a b => by simp at a b),(fun a => by simp at a),(fun a => by simp at a)⟩ (fun k h => ?_) (fun k h => ?_) (fun k h => ?_) (fun h => by cases h.1) (.inl rfl)
  ·simp [US.own,US.hol,US.prv,hx] at h ⊢
   exact h
  ·simp [US.que,hx] at h ⊢
   exact h
  ·simp [US.odd,US.hol,hx] at h ⊢
   exact h
 have hS : s.allS = s.app := if_pos hroom
 have hI : s.allI = (s.sl.length : Int) + 1 := if_pos hroom
 have hE : s.allE = 0 := if_pos hroom
 have e : u.step s = ⟨{ u with hn := (u.fat (t.n u.hid)).one ((s.sl.length : Int) + 1),fid := (s.sl.length : Int) + 1,fn := (u.fat (t.n u.hid)).two,bet := (u.fat (t.n u.hid)).bet,pc := 0,nx := 7 },s.app,false,0⟩ := ustep_of (by omega) (by unfold US.act; rw [hx]; simp only; rw [if_pos hE,hS,hI,h3]; unfold NP.cut1 NP.cut2 NP.cut3; rw [if_neg hwd,if_neg hwd,if_neg hwd]) rfl
 rw [e] at hC2 hC3 ⊢
 obtain ⟨U2,hU2⟩ : ∃ U2,U2 = ({ u with hn := (u.fat (t.n u.hid)).one ((s.sl.length : Int) + 1),fid := (s.sl.length : Int) + 1,fn := (u.fat (t.n u.hid)).two,bet := (u.fat (t.n u.hid)).bet,pc := 0,nx := 7 } : US) := ⟨_,rfl⟩
 rw [← hU2] at hC2 hC3 ⊢
 have x1 : U2.nx = 7 ∧ U2.pc = 0 ∧ U2.hid = u.hid ∧ U2.fid = (s.sl.length : Int) + 1 ∧ U2.lev = u.lev ∧ U2.rgt = u.rgt := by rw [hU2]; exact ⟨rfl,rfl,rfl,rfl,rfl,rfl⟩
 have hC := cmon (o := ⟨U2,s.app,false,0⟩) hC1 hC2 hC3 (fun k => ⟨fun h => ⟨by omega,by rw [← x1.2.2.1]; exact h.2⟩,fun h => ⟨by simp only; omega,by rw [x1.2.2.1]; exact h.2⟩⟩) (fun _ => .inr (.inr (.inl hx)))
 have eS := app_old hin
 have eT := app_old hit
 have hm0 : ∀ (l : Nat) (x : Int × List Int),memL cs l x → x.1 ≠ (s.sl.length : Int) + 1 := fun l x hm e => app_fresh (s := s) (by rw [← e]; exact (hvt.inn _).1 (hvt.tre.ckk hm).2.2)
 refine UStp.take hvt hC rfl ?_ (fun k h => ?_) ⟨.inr (.inl ⟨.inl x1.1,x1.2.2.2.1.symm⟩),.inr (.inl ⟨x1.1,(by show U2.pc ≤ 2; omega),x1.2.2.2.1.symm⟩)⟩ (fun k h => ?_) (fun k h => ?_) (fun h => by cases h.1) rfl
 ·rw [hU2]
  exact ⟨hu.cf,hu.lev,(fun _ _ => hu.key (by omega) (by omega)),hu.val,(fun a => by simp at a),(fun a _ => by obtain ⟨q1,q2,q3⟩ := hu.lk a (by omega); exact ⟨q1,q2,fun l x hm => by rw [(app_old (hvt.tre.ckk hm).2.2).2.1]; exact q3 l x hm⟩),(fun a => by simp at a),(fun a => by simp at a),(fun _ _ => ⟨low,g.m,g.lo,by rw [eT.2.1]; exact g.be,by rw [eS.2.2]; exact g.od,fun _ b => by rw [eT.2.1]; exact g.is (by omega) b⟩),(fun _ => by rw [eS.2.1,eT.2.1]; exact hu.cl (.inr (.inr (.inl hx)))),(fun a => by simp at a),(fun a => by simp at a),(fun a => by simp at a),(fun _ => by rw [eT.2.1]; exact hov),(fun _ => by rw [eT.2.1]; exact ⟨rfl,rfl,rfl⟩),(fun _ => ⟨app_new.1,hm0⟩),(fun _ => ⟨Int.le_refl _,by simp⟩),(fun _ _ => by rw [app_new.2.1]),(fun _ b => by simp at b),(fun a => by simp at a),(fun _ b => by simp at b),(fun a => by simp at a),(fun a b => by simp at a b),(fun a b => by simp at a b),(fun a b => by simp at a b),(fun a => by simp at a),(fun a => by simp at a)⟩
 ·rcases h with h | h
  ·exact .inl (.inl ⟨by omega,by rw [← x1.2.2.1]; exact h.2⟩)
  ·rcases h with h | h
   ·exact .inr (by rw [← x1.2.2.2.1]; exact h.2)
   ·have := h.1; simp only at this; omega
 ·rcases h with h | h
  ·exact .inl (.inl ⟨⟨by rw [← x1.2.2.2.2.1]; exact h.1.1,by omega⟩,by rw [← x1.2.2.2.2.2]; exact h.2⟩)
  ·exact .inr (by rw [← x1.2.2.2.1]; exact h.2)
 ·simp [US.odd,US.hol,hx] at h
  exact .inl ⟨by simp only; omega,by rw [x1.2.2.1]; exact h⟩
theorem sp_takeTop (hvt : VT s t C c.nd c.lf c.inn c.fl c.bk cs) (hu : UI c s t C cs u M) (hx : u.nx = 10) (hC1 : ∀ k,u.hol k → (C k ↔ u.cln)) (hC2 : ∀ k,¬ u.hol k → ¬ (u.step s).u.hol k → (C' k ↔ C k)) (hC3 : ∀ k,(u.step s).u.hol k → (C' k ↔ (u.step s).u.cln)) : UStp c s t C C' cs u M (u.step s) := by
 have hno : ∀ k,¬ u.hol k := fun k h => by have := h.1.2; omega
 have hnod : ∀ k,¬ u.odd k := fun k h => by simp [US.odd,US.hol,hx] at h
 have hl := hu.up (by omega) (by omega)
 by_cases hroom : (s.sl.length : Int) < s.nodes
 case neg =>
  have e : u.step s = ⟨{ u with nx := 15 },s,false,0⟩ := ustep_of (by omega) (by unfold US.act; rw [hx]; simp only; rw [if_neg (by unfold AS.allE; rw [if_neg hroom]; decide)]; unfold AS.allS; rw [if_neg hroom]) rfl
  rw [e] at hC2 hC3 ⊢
  have hC := cmon (o := ⟨{ u with nx := 15 },s,false,0⟩) hC1 hC2 hC3 (fun k => ⟨fun h => by have := h.1.2; simp at this,fun h => absurd h (hno k)⟩) (fun h => by simp [US.cln] at h)
  exact UStp.quiet hvt hC rfl ⟨hu.cf,hu.lev,(fun a b => by simp at b),hu.val,(fun a => by simp at a),(fun a b => by simp at b),(fun a => by simp at a),(fun a => by simp at a),(fun a b => by simp at a b),(fun a => by simp [US.cln] at a),(fun a => by simp at a),(fun a => by simp at a),(fun a => by simp at a),(fun a => by simp at a),(fun a => by simp at a),(fun a => by simp at a),(fun a => by simp at a),(fun a b => by simp at a),(fun a b => by simp at a),(fun a => by simp at a),(fun a b => by simp at a),(fun a => by simp at a),(fun a b => by simp at a b),(fun a b => by simp at a b),(fun a b => by simp at a b),(fun a => by simp at a),(fun a => by simp at a)⟩ (fun k h => by simp [US.own,US.hol,US.prv] at h) (fun k h => by simp [US.que] at h) (fun k h => absurd h (hnod k)) (fun h => by cases h.1) (.inl rfl)
 have hS : s.allS = s.app := if_pos hroom
 have hI : s.allI = (s.sl.length : Int) + 1 := if_pos hroom
 have hE : s.allE = 0 := if_pos hroom
 have e : u.step s = ⟨{ u with top := (s.sl.length : Int) + 1,nx := 11 },s.app,false,0⟩ := ustep_of (by omega) (by unfold US.act; rw [hx]; simp only; rw [if_pos hE,hS,hI]) rfl
 rw [e] at hC2 hC3 ⊢
 have hC := cmon (o := ⟨{ u with top := (s.sl.length : Int) + 1,nx := 11 },s.app,false,0⟩) hC1 hC2 hC3 (fun k => ⟨fun h => by have := h.1.2; simp at this,fun h => absurd h (hno k)⟩) (fun h => by simp [US.cln] at h)
 have hm0 : ∀ (l : Nat) (x : Int × List Int),memL cs l x → x.1 ≠ (s.sl.length : Int) + 1 := fun l x hm e => app_fresh (s := s) (by rw [← e]; exact (hvt.inn _).1 (hvt.tre.ckk hm).2.2)
 refine UStp.take hvt hC rfl ⟨hu.cf,hu.lev,(fun _ _ => hu.key (by omega) (by omega)),hu.val,(fun a => by simp at a),(fun a _ => by obtain ⟨q1,q2,q3⟩ := hu.lk a (by omega); exact ⟨q1,q2,fun l x hm => by rw [(app_old (hvt.tre.ckk hm).2.2).2.1]; exact q3 l x hm⟩),(fun a => by simp at a),(fun a => by simp at a),(fun a b => by simp at a b),(fun a => by simp [US.cln] at a),(fun a => by simp at a),(fun a => by simp at a),(fun a => by simp at a),(fun a => by simp at a),(fun a => by simp at a),(fun a => by simp at a),(fun a => by simp at a),(fun a b => by simp at a),(fun a b => by simp at a),(fun a => by simp at a),(fun a b => by simp at a),(fun a => by simp at a),(fun _ _ => hl),(fun _ _ => ⟨app_new.1,hm0⟩),(fun _ _ => by rw [app_new.2.1]),(fun a => by simp at a),(fun a => by simp at a)⟩ (fun k h => ?_) ⟨.inr (.inr ⟨by simp,rfl⟩),.inr (.inr ⟨by simp,rfl⟩)⟩ (fun k h => ?_) (fun k h => absurd h (hnod k)) (fun h => by cases h.1) rfl
 ·simp [US.own,US.hol,US.prv] at h
  exact .inr h
 ·simp [US.que,hx] at h ⊢
  exact .inl h
theorem sp_topHead (hvt : VT s t C c.nd c.lf c.inn c.fl c.bk cs) (hu : UI c s t C cs u M) (hx : u.nx = 11) (hC1 : ∀ k,u.hol k → (C k ↔ u.cln)) (hC2 : ∀ k,¬ u.hol k → ¬ (u.step s).u.hol k → (C' k ↔ C k)) (hC3 : ∀ k,(u.step s).u.hol k → (C' k ↔ (u.step s).u.cln)) : UStp c s t C C' cs u M (u.step s) := by
 obtain ⟨hti,hoff⟩ := hu.tp (by omega) (by omega)
 have hl := hu.up (by omega) (by omega)
 have hod := hu.ta (by omega) (by omega)
 have hun := unl0 hti hod
 have hno : ∀ k,¬ u.hol k := fun k h => by have := h.1.2; omega
 have es : s.hedS u.top u.lev [] 0 = s.setn u.top ((s.n u.top).setH u.lev [] 0) := if_pos hun
 have ew : ∀ k,(s.setn u.top ((s.n u.top).setH u.lev [] 0)).w k = s.w k := AS.w_setn hti _
 have e : u.step s = ⟨{ u with nx := 12 },s.setn u.top ((s.n u.top).setH u.lev [] 0),false,0⟩ := ustep_of (by omega) (by unfold US.act; rw [hx]; simp only; rw [hun,es]) rfl
 rw [e] at hC2 hC3 ⊢
 have hC := cmon (o := ⟨{ u with nx := 12 },s.setn u.top ((s.n u.top).setH u.lev [] 0),false,0⟩) hC1 hC2 hC3 (fun k => ⟨fun h => by have := h.1.2; simp at this,fun h => absurd h (hno k)⟩) (fun h => by simp [US.cln] at h)
 refine UStp.node hvt hC hti (.inr (.inr ⟨by omega,rfl⟩)) rfl (fun l x hm ex _ => hoff l x hm ex) ⟨hu.cf,hu.lev,(fun _ _ => hu.key (by omega) (by omega)),hu.val,(fun a => by simp at a),(fun a _ => hu.lk a (by omega)),(fun a => by simp at a),(fun a => by simp at a),(fun a b => by simp at a b),(fun a => by simp [US.cln] at a),(fun a => by simp at a),(fun a => by simp at a),(fun a => by simp at a),(fun a => by simp at a),(fun a => by simp at a),(fun a => by simp at a),(fun a => by simp at a),(fun a b => by simp at a),(fun a b => by simp at a),(fun a => by simp at a),(fun a b => by simp at a),(fun a => by simp at a),(fun _ _ => hl),(fun _ _ => ⟨(AS.inn_of_len (AS.setn_len _ _ _) _).2 hti,hoff⟩),(fun _ _ => by rw [ew]; exact hod),(fun _ => by rw [setn_self hti]; exact ⟨rfl,rfl,rfl⟩),(fun a => by simp at a)⟩ (fun k h => ?_) (fun k h => ?_) (fun k h => ?_) (fun h => by cases h.1) rfl
 ·simp [US.own,US.hol,US.prv,hx] at h ⊢
  exact h
 ·simp [US.que,hx] at h ⊢
  exact h
 ·simp [US.odd,US.hol,hx] at h ⊢
  exact h
theorem sp_topBody (hvt : VT s t C c.nd c.lf c.inn c.fl c.bk cs) (hu : UI c s t C cs u M) (hx : u.nx = 12) (hC1 : ∀ k,u.hol k → (C k ↔ u.cln)) (hC2 : ∀ k,¬ u.hol k → ¬ (u.step s).u.hol k → (C' k ↔ C k)) (hC3 : ∀ k,(u.step s).u.hol k → (C' k ↔ (u.step s).u.cln)) : UStp c s t C C' cs u M (u.step s) := by
 obtain ⟨hti,hoff⟩ := hu.tp (by omega) (by omega)
 have hl := hu.up (by omega) (by omega)
 have hod := hu.ta (by omega) (by omega)
 have hun := unl0 hti hod
 have hno : ∀ k,¬ u.hol k := fun k h => by have := h.1.2; omega
 obtain ⟨b1,b2,b3⟩ := hu.tb hx
 have es : s.bodS u.top [u.sep] [] [u.lft,u.rgt] = s.setn u.top (⟨u.lev,[],0,[u.sep],[],[u.lft,u.rgt]⟩ : NP) := by
  unfold AS.bodS
  rw [if_pos hun]
  congr 1
  unfold NP.setB
  rw [b1,b2,b3]
 have ew : ∀ k,(s.setn u.top (⟨u.lev,[],0,[u.sep],[],[u.lft,u.rgt]⟩ : NP)).w k = s.w k := AS.w_setn hti _
 have e : u.step s = ⟨{ u with nx := 13 },s.setn u.top (⟨u.lev,[],0,[u.sep],[],[u.lft,u.rgt]⟩ : NP),false,0⟩ := ustep_of (by omega) (by unfold US.act; rw [hx]; simp only; rw [hun,es]) rfl
 rw [e] at hC2 hC3 ⊢
 have hC := cmon (o := ⟨{ u with nx := 13 },s.setn u.top (⟨u.lev,[],0,[u.sep],[],[u.lft,u.rgt]⟩ : NP),false,0⟩) hC1 hC2 hC3 (fun k => ⟨fun h => by have := h.1.2; simp at this,fun h => absurd h (hno k)⟩) (fun h => by simp [US.cln] at h)
 refine UStp.node hvt hC hti (.inr (.inr ⟨by omega,rfl⟩)) rfl (fun l x hm ex _ => hoff l x hm ex) ⟨hu.cf,hu.lev,(fun _ _ => hu.key (by omega) (by omega)),hu.val,(fun a => by simp at a),(fun a _ => hu.lk a (by omega)),(fun a => by simp at a),(fun a => by simp at a),(fun a b => by simp at a b),(fun a => by simp [US.cln] at a),(fun a => by simp at a),(fun a => by simp at a),(fun a => by simp at a),(fun a => by simp at a),(fun a => by simp at a),(fun a => by simp at a),(fun a => by simp at a),(fun a b => by simp at a),(fun a b => by simp at a),(fun a => by simp at a),(fun a b => by simp at a),(fun a => by simp at a),(fun _ _ => hl),(fun _ _ => ⟨(AS.inn_of_len (AS.setn_len _ _ _) _).2 hti,hoff⟩),(fun _ _ => by rw [ew]; exact hod),(fun a => by simp at a),(fun _ => setn_self hti)⟩ (fun k h => ?_) (fun k h => ?_) (fun k h => ?_) (fun h => by cases h.1) rfl
 ·simp [US.own,US.hol,US.prv,hx] at h ⊢
  exact h
 ·simp [US.que,hx] at h ⊢
  exact h
 ·simp [US.odd,US.hol,hx] at h ⊢
  exact h
theorem sp_topFree (hvt : VT s t C c.nd c.lf c.inn c.fl c.bk cs) (hu : UI c s t C cs u M) (hx : u.nx = 13) (hC1 : ∀ k,u.hol k → (C k ↔ u.cln)) (hC2 : ∀ k,¬ u.hol k → ¬ (u.step s).u.hol k → (C' k ↔ C k)) (hC3 : ∀ k,(u.step s).u.hol k → (C' k ↔ (u.step s).u.cln)) : UStp c s t C C' cs u M (u.step s) := by
 obtain ⟨hti,hoff⟩ := hu.tp (by omega) (by omega)
 have hl := hu.up (by omega) (by omega)
 have hod := hu.ta (by omega) (by omega)
 have hun := unl0 hti hod
 have hno : ∀ k,¬ u.hol k := fun k h => by have := h.1.2; omega
 have es : s.unlS u.top true = s.setw u.top (freeW (s.w u.top) true) := if_pos hun
 have en : ∀ k,(s.setw u.top (freeW (s.w u.top) true)).n k = s.n k := AS.n_setw hti _
 have e : u.step s = ⟨{ u with nx := 14 },s.setw u.top (freeW (s.w u.top) true),false,0⟩ := ustep_of (by omega) (by unfold US.act; rw [hx]; simp only; rw [hun,es]) rfl
 rw [e] at hC2 hC3 ⊢
 have hC := cmon (o := ⟨{ u with nx := 14 },s.setw u.top (freeW (s.w u.top) true),false,0⟩) hC1 hC2 hC3 (fun k => ⟨fun h => by have := h.1.2; simp at this,fun h => absurd h (hno k)⟩) (fun h => by simp [US.cln] at h)
 refine UStp.loose hvt hC hti (.inr (.inr ⟨by omega,rfl⟩)) hoff rfl (free_even _ hod) ⟨hu.cf,hu.lev,(fun _ _ => hu.key (by omega) (by omega)),hu.val,(fun a => by simp at a),(fun a _ => hu.lk a (by omega)),(fun a => by simp at a),(fun a => by simp at a),(fun a b => by simp at a b),(fun a => by simp [US.cln] at a),(fun a => by simp at a),(fun a => by simp at a),(fun a => by simp at a),(fun a => by simp at a),(fun a => by simp at a),(fun a => by simp at a),(fun a => by simp at a),(fun a b => by simp at a),(fun a b => by simp at a),(fun a => by simp at a),(fun a b => by simp at a),(fun a => by simp at a),(fun _ _ => hl),(fun _ _ => ⟨(AS.inn_of_len (AS.setw_len _ _ _) _).2 hti,hoff⟩),(fun a b => by simp at a b),(fun a => by simp at a),(fun _ => by rw [en]; exact hu.tc (.inl hx))⟩ (fun k h => ?_) (fun k h => ?_) (fun k hk h => ?_) (fun h => by cases h.1) rfl
 ·simp [US.own,US.hol,US.prv,hx] at h ⊢
  exact h
 ·simp [US.que,hx] at h ⊢
  exact h
 ·simp [US.odd,US.hol,hx] at h ⊢
  exact absurd h hk
theorem sp_giveBack (hvt : VT s t C c.nd c.lf c.inn c.fl c.bk cs) (hu : UI c s t C cs u M) (hx : u.nx = 5) (hC1 : ∀ k,u.hol k → (C k ↔ u.cln)) (hC2 : ∀ k,¬ u.hol k → ¬ (u.step s).u.hol k → (C' k ↔ C k)) : UStp c s t C C' cs u M (u.step s) := by
 obtain ⟨low,g⟩ := hu.hd (by omega) (by omega)
 have hin : s.inn u.hid := (hvt.inn _).1 (hvt.tre.ckk g.m).2.2
 have hun := unl0 hin g.od
 have hcl := hu.cl (.inr (.inl hx))
 have es : s.unlS u.hid false = s.setw u.hid (s.w u.hid - 1) := if_pos hun
 obtain ⟨u',o,hs,e,hnx,ecf,elev,eval⟩ : ∃ (u' : US) (o : UO),u.step s = o ∧ o.u = u' ∧ u'.nx = 15 ∧ u'.cf = u.cf ∧ u'.lev = u.lev ∧ u'.val = u.val ∧ o.s = s.setw u.hid (s.w u.hid - 1) ∧ ¬ (o.tk = true ∧ o.er = 0) ∧ (o.er = 0 ∨ o.er = 2) := by
  by_cases h0 : u.lev = 0
  ·refine ⟨{ u with nx := 15,err := 2 },⟨{ u with nx := 15,err := 2 },s.setw u.hid (s.w u.hid - 1),true,2⟩,ustep_er (by omega) (show u.act s = ⟨{ u with nx := 15 },s.setw u.hid (s.w u.hid - 1),true,2⟩ by unfold US.act; rw [hx]; simp only; rw [if_pos ⟨hun,h0⟩,es]) (by simp),rfl,rfl,rfl,rfl,rfl,rfl,(fun h => by simp at h),.inr rfl⟩
  ·refine ⟨{ u with nx := 15 },⟨{ u with nx := 15 },s.setw u.hid (s.w u.hid - 1),false,0⟩,ustep_of (by omega) (show u.act s = ⟨{ u with nx := 15 },s.setw u.hid (s.w u.hid - 1),false,0⟩ by unfold US.act; rw [hx]; simp only; rw [if_neg (fun h => h0 h.2),es,hun]) rfl,rfl,rfl,rfl,rfl,rfl,rfl,(fun h => by simp at h),.inl rfl⟩
 obtain ⟨eos,etk,eer⟩ := eval.2
 have eval := eval.1
 rw [hs] at hC2 ⊢
 rw [e] at hC2
 have hno : ∀ k,¬ u'.hol k := fun k h => by have := h.1.2; omega
 have hCh : C u.hid := (hC1 _ ⟨by omega,rfl⟩).2 (.inr (.inl hx))
 have hC : ∀ k,k ≠ u.hid → C' k → C k := fun k hk h => (hC2 k (fun h2 => hk h2.2) (hno k)).1 h
 have hi : ∀ k,(s.setw u.hid (s.w u.hid - 1)).inn k ↔ s.inn k := AS.inn_of_len (AS.setw_len _ _ _)
 have hmi : ∀ (l : Nat) (y : Int × List Int),memL cs l y → s.inn y.1 := fun l y hm => (hvt.inn _).1 (hvt.tre.ckk hm).2.2
 have hw1 : (s.setw u.hid (s.w u.hid - 1)).w u.hid = s.w u.hid - 1 := by rw [AS.wsetw hin _ hin,if_pos rfl]
 have hod := g.od
 refine ⟨⟨t,cs,fun k => k = u.hid,fun _ => False,?_,?_,?_,fun k h => .inl (.inl ⟨by omega,h⟩),fun _ h => h.elim,by rw [if_neg etk],fun h => h,fun _ => Upl.refl _ _,Cn.same ⟨by omega,by omega,fun g => by omega⟩ (fun _ _ _ => rfl)⟩,fun k h => ?_,fun k h => ?_,fun k h1 h2 => ?_,by rw [eos]; rfl,?_⟩
 ·rw [eos]
  refine ⟨hvt.tre,hvt.root,fun k => (hvt.inn k).trans (hi k).symm,fun l y hm h => ?_⟩
  rw [AS.n_setw hin]
  by_cases e1 : y.1 = u.hid
  ·rw [e1]; exact hcl
  ·rw [AS.wsetw hin _ (hmi l y hm),if_neg e1] at h
   exact hvt.rd l y hm (h.imp (fun h => h) (hC _ e1))
 ·rw [eos,e]
  exact ⟨ecf.trans hu.cf,(by rw [elev]; exact hu.lev),(fun a b => by omega),(by rw [eval]; exact hu.val),(fun a => by omega),(fun a b => by omega),(fun a => by omega),(fun a => by omega),(fun a b => by omega),(fun a => by unfold US.cln at a; omega),(fun a => by omega),(fun a => by omega),(fun a => by omega),(fun a => by omega),(fun a => by omega),(fun a => by omega),(fun a => by omega),(fun a b => by omega),(fun a b => by omega),(fun a => by omega),(fun a b => by omega),(fun a => by omega),(fun a b => by omega),(fun a b => by omega),(fun a b => by omega),(fun a => by omega),(fun a => by omega)⟩
 ·rw [eos]
  refine ⟨fun k hk => (hi k).2 hk,Ext.refl _,fun k hk hin2 => ⟨AS.n_setw hin _ k,by rw [AS.wsetw hin _ hin2,if_neg hk],rfl⟩,fun _ _ h => .inl h,fun wd n0 Y id m hm2 he h => ?_,fun _ _ h => h⟩
  obtain ⟨l,y,h1,rfl⟩ := hm2
  by_cases e1 : y.1 = u.hid
  ·rw [e1] at h ⊢
   exact h.unlF he ((hi _).2 hin) hod hw1 rfl hCh
  ·exact h.same ((hi _).2 (hmi l y h1)) (by rw [AS.wsetw hin _ (hmi l y h1),if_neg e1]) rfl (hC _ e1)
 ·rw [e] at h
  rcases h with h | h | h <;> (have := h.1; omega)
 ·rw [e] at h
  rcases h with h | h <;> (have := h.1; omega)
 ·rw [eos] at h1 h2
  have h3 := (hi k).1 h1
  rw [AS.wsetw hin _ h3] at h2
  by_cases e1 : k = u.hid
  ·rw [if_pos e1] at h2; omega
  ·rw [if_neg e1] at h2
   exact .inr ⟨h3,h2,fun h => by simp [US.odd,US.hol,hx] at h; exact e1 h⟩
 ·rcases eer with h | h
  ·exact .inl h
  ·exact .inr (.inr ⟨h,hx⟩)
end
section
variable {c : Cfg} {s t : AS} {C C' : Int → Prop} {cs : List Chn} {u : US} {M : Nat}
theorem kid_mem {nd lf inn fl bk : Int} (h : Tre t nd lf inn fl bk cs) {l : Nat} {x : Int × List Int} (hm : memL cs l x) {k : Int} (hk : k ∈ (t.n x.1).cs) : ∃ l' y,memL cs l' y ∧ y.1 = k := by
 have hlv := h.lev hm
 obtain ⟨_,hmb,_⟩ := may_of (h.ckk hm).1
 obtain ⟨d,h1,h2⟩ := hm
 obtain ⟨i,hi,rfl⟩ := List.getElem_of_mem hk
 rcases hmb.bd with hb | hb
 ·have := hb.2.1; omega
 ·obtain ⟨b,rfl⟩ : ∃ b,l = b + 1 := ⟨l - 1,by omega⟩
  have hlt : b + 1 < cs.length := (List.getElem?_eq_some_iff.1 h1).1
  obtain ⟨e,he⟩ : ∃ e,cs[b]? = some e := ⟨_,List.getElem?_eq_getElem (by omega)⟩
  have := h.kid b e d he h1 x h2 i hi
  refine ⟨b,_,⟨e,he,this⟩,?_⟩
  unfold AS.kidAt
  simp [hi]
theorem fat_cs (u : US) (n : NP) {k : Int} (h : k ∈ (u.fat n).cs) : k ∈ n.cs ∨ (u.lev ≠ 0 ∧ k = u.rgt) := by
 unfold US.fat at h
 split at h
 ·rw [(with_head (p := n) u.sep u.val).2.2.2] at h; exact .inl h
 ·rename_i h0
  unfold NP.joined at h
  split at h
  ·exact .inl h
  ·rcases insL_in h with h1 | h1
   ·exact .inr ⟨h0,h1⟩
   ·exact .inl h1
theorem fat_kids {low : List Int} (hvt : VT s t C c.nd c.lf c.inn c.fl c.bk cs) (hu : UI c s t C cs u M) (h3 : 3 ≤ u.nx) (h8 : u.nx ≤ 8) (h5 : u.nx ≠ 5) (g : Hd s t cs u low) {b : Nat} {e : Chn} (hb : u.lev.toNat = b + 1) (he : cs[b]? = some e) : ∀ k,k < (u.fat (t.n u.hid)).cs.length → (u.fat (t.n u.hid)).kid low k ∈ e := by
 have hl := hu.lev
 have h0 : u.lev ≠ 0 := by omega
 have hlv := hvt.tre.lev g.m
 simp only at hlv
 obtain ⟨_,hmb,_⟩ := may_of (hvt.tre.ckk g.m).1
 have ef : u.fat (t.n u.hid) = (t.n u.hid).joined u.sep u.rgt := if_neg h0
 obtain ⟨d,h1,h2⟩ := g.m
 rw [hb] at h1
 intro k hk
 rw [ef] at hk ⊢
 rcases joined_kids (low := low) hmb (by simp only; omega) (g.is h5 (by omega)) k hk with h | ⟨k',hk',h⟩
 ·rw [h]
  obtain ⟨_,⟨e',he',hm'⟩,_⟩ := hu.lk (by omega) (by omega)
  rw [hb,Nat.add_sub_cancel,he] at he'
  cases he'
  exact hm'
 ·rw [h]
  exact hvt.tre.kid b e d he h1 _ h2 k' hk'
theorem fat_am {low : List Int} (hvt : VT s t C c.nd c.lf c.inn c.fl c.bk cs) (hu : UI c s t C cs u M) (h3 : 3 ≤ u.nx) (h8 : u.nx ≤ 8) (g : Hd s t cs u low) (ha : Am t cs) (h0 : u.lev ≠ 0) : 2 ≤ (u.fat (t.n u.hid)).cs.length ∧ ∀ k ∈ (u.fat (t.n u.hid)).ks,0 < cmpI k low := by
 have hl := hu.lev
 obtain ⟨b,hb⟩ : ∃ b,u.lev.toNat = b + 1 := ⟨u.lev.toNat - 1,by omega⟩
 have hm := g.m
 rw [hb] at hm
 obtain ⟨a1,a2⟩ := ha b _ hm
 simp only at a1 a2
 have ef : u.fat (t.n u.hid) = (t.n u.hid).joined u.sep u.rgt := if_neg h0
 have hsep : 0 < cmpI u.sep low := by
  have h1 := g.lo
  refine Decidable.byContradiction fun hc => ?_
  have h2 : u.sep = low := cmpI_zero _ _ (by omega)
  obtain ⟨_,q2,q3⟩ := hu.lk (by omega) (by omega)
  obtain ⟨d,hd,hx⟩ := hm
  have hlt : b + 1 < cs.length := (List.getElem?_eq_some_iff.1 hd).1
  obtain ⟨e,he⟩ : ∃ e,cs[b]? = some e := ⟨_,List.getElem?_eq_getElem (by omega)⟩
  have h4 := hvt.tre.kid b e d he hd _ hx 0 (by simp only; omega)
  rw [hb,Nat.add_sub_cancel,h2] at q2
  have h5 := hvt.tre.lowU (i := u.rgt) (j := (t.n u.hid).cs.getD 0 0) (a := low) q2 ⟨e,he,by simpa [AS.kidAt] using h4⟩
  refine q3 _ _ g.m ?_
  rw [h5]
  have h6 : 0 < (t.n u.hid).cs.length := by omega
  simp [h6]
 rw [ef]
 unfold NP.joined
 split
 ·exact ⟨a1,a2⟩
 ·refine ⟨by simp only [insL_len]; omega,fun k hk => ?_⟩
  rcases insL_in hk with h1 | h1
  ·rw [h1]; exact hsep
  ·exact a2 k h1
theorem half_am {p : NP} {low : List Int} {r : Int} (h0 : p.lv ≠ 0) (hp : p.cs.length = p.ks.length + 1) (h4 : 4 ≤ p.cs.length) (hr : p.ks.Pairwise fun a b => cmpI a b < 0) (hl : ∀ k ∈ p.ks,0 < cmpI k low) : (2 ≤ (p.one r).cs.length ∧ ∀ k ∈ (p.one r).ks,0 < cmpI k low) ∧ 2 ≤ p.two.cs.length ∧ ∀ k ∈ p.two.ks,0 < cmpI k p.bet := by
 have hw : p.wd = p.cs.length := if_neg h0
 have hh : p.half = (p.cs.length + 1) / 2 := by unfold NP.half; rw [hw]
 have hk : p.cutK = p.half - 1 := if_neg h0
 refine ⟨⟨by simp only [NP.one,List.length_take]; omega,fun k hm => hl k (List.mem_of_mem_take hm)⟩,by simp only [NP.two,List.length_drop]; omega,fun k hm => ?_⟩
 have e : p.two.ks = (p.ks.drop p.cutK).drop 1 := by simp only [NP.two,NP.restK]; rw [if_neg h0]
 rw [e] at hm
 have hd : (p.ks.drop p.cutK).Pairwise fun a b => cmpI a b < 0 := hr.sublist (List.drop_sublist _ _)
 unfold NP.bet
 cases hq : p.ks.drop p.cutK with
 | nil => rw [hq] at hm; simp at hm
 | cons a q =>
  rw [hq] at hm hd
  have := (List.pairwise_cons.1 hd).1 k (by simpa using hm)
  rw [List.headD_cons,cmpI_swap]
  omega
theorem fat_len {low : List Int} (hu : UI c s t C cs u M) (h5 : u.nx ≠ 5) (g : Hd s t cs u low) : (u.fat (t.n u.hid)).cs.length = (t.n u.hid).cs.length + if u.lev = 0 then 0 else 1 := by
 have hl := hu.lev
 unfold US.fat
 by_cases h0 : u.lev = 0
 ·rw [if_pos h0,if_pos h0,(with_head (p := t.n u.hid) u.sep u.val).2.2.2]
  rfl
 ·rw [if_neg h0,if_neg h0]
  unfold NP.joined
  rw [g.is h5 (by omega)]
  simp only [Bool.false_eq_true,if_false]
  exact insL_len _ _ _
theorem half_len (p : NP) (r : Int) : (p.one r).cs.length + p.two.cs.length = p.cs.length := by
 simp only [NP.one,NP.two,List.length_take,List.length_drop]
 omega
theorem mp_of {c0 : Chn} (h0 : cs[0]? = some c0) : mp t cs = entsC t c0 := by
 cases cs with
 | nil => simp at h0
 | cons d r => simp at h0; unfold mp; rw [h0]; rfl
theorem sp_free (hvt : VT s t C c.nd c.lf c.inn c.fl c.bk cs) (hu : UI c s t C cs u M) (hc : cfgOk c.nd c.lf c.inn c.fl c.bk) (hnd : (s.sl.length : Int) ≤ c.nd) (hx : u.nx = 4) (hC2 : ∀ k,¬ u.hol k → ¬ (u.step s).u.hol k → (C' k ↔ C k)) : UStp c s t C C' cs u M (u.step s) := by
 obtain ⟨low,g⟩ := hu.hd (by omega) (by omega)
 have hin : s.inn u.hid := (hvt.inn _).1 (hvt.tre.ckk g.m).2.2
 have hit : t.inn u.hid := (hvt.tre.ckk g.m).2.2
 have hod := g.od
 have hun := unl0 hin hod
 have hl := hu.lev
 have h3 := hu.p3 (.inr (.inl hx))
 have h4 := hu.p4 hx
 obtain ⟨f1,f2,f3,f4,f5,f6,f7,f8⟩ := fat_ok hvt hu hnd (by omega) (by omega) g
 have hno := (over_no _).1 (hu.no (.inr hx))
 have es : s.unlS u.hid true = s.setw u.hid (freeW (s.w u.hid) true) := if_pos hun
 have e : u.step s = ⟨{ u with nx := 15 },s.setw u.hid (freeW (s.w u.hid) true),decide (u.lev = 0),0⟩ := ustep_of (by omega) (by unfold US.act; rw [hx]; simp only; rw [hun,es]; simp) rfl
 rw [e] at hC2 ⊢
 have hnh : ∀ k,¬ ({ u with nx := 15 } : US).hol k := fun k h => by have := h.1.2; simp at this
 have hC : ∀ k,k ≠ u.hid → C' k → C k := fun k hk h => (hC2 k (fun h2 => hk h2.2) (hnh k)).1 h
 have hi : ∀ k,(s.setw u.hid (freeW (s.w u.hid) true)).inn k ↔ s.inn k := AS.inn_of_len (AS.setw_len _ _ _)
 have hti : ∀ k,(t.setn u.hid u.hn).inn k ↔ t.inn k := AS.inn_of_len (AS.setn_len _ _ _)
 have hmi : ∀ (l : Nat) (y : Int × List Int),memL cs l y → s.inn y.1 ∧ t.inn y.1 := fun l y hm => ⟨(hvt.inn _).1 (hvt.tre.ckk hm).2.2,(hvt.tre.ckk hm).2.2⟩
 have hts : (t.setn u.hid u.hn).n u.hid = u.hn := setn_self hit
 have hto : ∀ (l : Nat) (y : Int × List Int),memL cs l y → y.1 ≠ u.hid → (t.setn u.hid u.hn).n y.1 = t.n y.1 := fun l y hm hne => by rw [AS.n_setn hit _ (hmi l y hm).2,if_neg hne]
 have hw1 : (s.setw u.hid (freeW (s.w u.hid) true)).w u.hid = (s.w u.hid + 1) % 18446744073709551616 := by rw [AS.wsetw hin _ hin,if_pos rfl]; rfl
 have hT : Tre (t.setn u.hid u.hn) c.nd c.lf c.inn c.fl c.bk cs := by
  refine hvt.tre.body g.m rfl (fun k hk => (hti k).2 hk) hto (by rw [hts,h3]; exact ⟨f8,f7,f6⟩) (by rw [hts,h3]; exact ⟨may_to hc f1 hno,f2⟩) (fun b e hb he k hk => ?_)
  rw [kidAt_eq]
  simp only [hts] at hk ⊢
  rw [h3] at hk ⊢
  exact fat_kids hvt hu (by omega) (by omega) (by omega) g hb he k hk
 refine ⟨⟨t.setn u.hid u.hn,cs,fun k => k = u.hid,fun k => u.lev ≠ 0 ∧ k = u.rgt,?_,?_,?_,fun k h => .inl (.inl ⟨by omega,h⟩),fun k h => .inl (.inl ⟨⟨by have := h.1; omega,by omega⟩,h.2⟩),?_,fun ha l y hm => ?_,fun _ => Upl.refl _ _,⟨fun e => absurd hx e,fun _ => ⟨rfl,?_⟩,fun e => by omega,fun e => by omega⟩⟩,fun k h => ?_,fun k h => ?_,fun k h1 h2 => ?_,rfl,.inl rfl⟩
 ·refine ⟨hT,hvt.root,fun k => (hti k).trans ((hvt.inn k).trans (hi k).symm),fun l y hm h => ?_⟩
  show (s.setw u.hid (freeW (s.w u.hid) true)).n y.1 = _
  rw [AS.n_setw hin]
  by_cases e1 : y.1 = u.hid
  ·rw [e1,hts]; exact h4
  ·have h' : (s.setw u.hid (freeW (s.w u.hid) true)).w y.1 % 2 = 0 ∨ C' y.1 := h
   rw [AS.wsetw hin _ (hmi l y hm).1,if_neg e1] at h'
   rw [hto l y hm e1]
   exact hvt.rd l y hm (h'.imp (fun h => h) (hC _ e1))
 ·exact ⟨hu.cf,hu.lev,(fun a b => by simp at b),hu.val,(fun a => by simp at a),(fun a b => by simp at b),(fun a => by simp at a),(fun a => by simp at a),(fun a b => by simp at a b),(fun a => by simp [US.cln] at a),(fun a => by simp at a),(fun a => by simp at a),(fun a => by simp at a),(fun a => by simp at a),(fun a => by simp at a),(fun a => by simp at a),(fun a => by simp at a),(fun a b => by simp at a),(fun a b => by simp at a),(fun a => by simp at a),(fun a b => by simp at a),(fun a => by simp at a),(fun a b => by simp at a b),(fun a b => by simp at a b),(fun a b => by simp at a b),(fun a => by simp at a),(fun a => by simp at a)⟩
 ·refine ⟨fun k hk => (hi k).2 hk,Ext.refl _,fun k hk hin2 => ⟨AS.n_setw hin _ k,by rw [AS.wsetw hin _ hin2,if_neg hk],by rw [AS.n_setn hit _ ((hvt.inn k).2 hin2),if_neg hk]⟩,fun _ _ h => .inl h,fun wd n0 Y id m hm2 he h => ?_,fun R hR h l y hm hk => ?_⟩
  ·obtain ⟨l,y,h1,rfl⟩ := hm2
   by_cases e1 : y.1 = u.hid
   ·rw [e1] at h ⊢
    exact h.unlT he ((hi _).2 hin) hod hw1
   ·exact h.same ((hi _).2 (hmi l y h1).1) (by rw [AS.wsetw hin _ (hmi l y h1).1,if_neg e1]) (hto l y h1 e1) (hC _ e1)
  ·by_cases e1 : y.1 = u.hid
   ·rw [e1,hts,h3] at hk
    rcases fat_cs u _ hk with h1 | h1
    ·exact h _ _ g.m h1
    ·exact hR h1
   ·rw [hto l y hm e1] at hk
    exact h l y hm hk
 ·-- the map
  obtain ⟨c0,hc0⟩ : ∃ c0,cs[0]? = some c0 := ⟨_,List.getElem?_eq_getElem hvt.tre.ne⟩
  rw [mp_of hc0,mp_of hc0]
  by_cases h0 : u.lev = 0
  ·rw [if_pos ⟨decide_eq_true h0,rfl⟩]
   obtain ⟨d,h1,h2⟩ := g.m
   rw [h0] at h1
   rw [show (0 : Int).toNat = 0 from rfl,hc0] at h1
   cases h1
   refine hvt.tre.mapWith hc0 h2 g.lo g.be (fun x hx hne => hto 0 x ⟨_,hc0,hx⟩ hne) ?_
   obtain ⟨_,hmb,_⟩ := may_of (hvt.tre.ckk g.m).1
   have hlv := hvt.tre.lev g.m
   rw [hts,h3,show u.fat (t.n u.hid) = (t.n u.hid).with_ u.sep u.val from if_pos h0]
   exact with_ents hmb (by simp only at hlv ⊢; omega)
  ·rw [if_neg (fun h => h0 (of_decide_eq_true h.1))]
   refine entsC_same (fun x hx => hto 0 x ⟨_,hc0,hx⟩ (fun e1 => ?_))
   have h1 := hvt.tre.lev ⟨_,hc0,hx⟩
   have h2 := hvt.tre.lev g.m
   simp only at h2
   rw [e1,h2] at h1
   omega
 ·by_cases e1 : y.1 = u.hid
  ·obtain ⟨e2,e3⟩ := hvt.tre.uniq (j := u.hid) (a := y.2) (b := low) (by rw [← e1]; exact hm) g.m
   rw [e1,hts,h3,e3]
   exact fat_am hvt hu (by omega) (by omega) g ha (by omega)
  ·rw [hto _ y hm e1]
   exact ha l y hm
 ·obtain ⟨d,h1,h2⟩ := g.m
  have h3' := kidC_at (t := t) (t' := t.setn u.hid u.hn) (hvt.tre.nd _ d h1) h2 (fun x hx2 hne => hto _ x ⟨d,h1,hx2⟩ hne)
  have h4' := sum_set (kidC t) (kidC (t.setn u.hid u.hn)) cs _ d d h1 (fun k e hk he => kidC_same fun x hx2 => hto k x ⟨e,he,hx2⟩ (fun e2 => by
   have q1 := hvt.tre.lev ⟨e,he,hx2⟩
   have q2 := hvt.tre.lev g.m
   simp only at q2
   rw [e2,q2] at q1
   omega))
  rw [set_same h1] at h4'
  have h5 := fat_len hu (by omega) g
  have h6 : ((t.setn u.hid u.hn).n u.hid).cs.length = (t.n u.hid).cs.length + if u.lev = 0 then 0 else 1 := by rw [hts,h3,h5]
  rw [h6] at h3'
  unfold kidN
  omega
 ·rcases h with h | h | h <;> (have := h.1; simp at this)
 ·rcases h with h | h <;> (have := h.1; simp at this)
 ·have h5 := (hi k).1 h1
  have h2' : (s.setw u.hid (freeW (s.w u.hid) true)).w k % 2 = 1 := h2
  by_cases e1 : k = u.hid
  ·rw [e1,hw1] at h2'
   have := hod
   omega
  ·rw [AS.wsetw hin _ h5,if_neg e1] at h2'
   exact .inr ⟨h5,h2',fun h => by simp [US.odd,US.hol,hx] at h; exact e1 h⟩
theorem sp_rise (hvt : VT s t C c.nd c.lf c.inn c.fl c.bk cs) (hu : UI c s t C cs u M) (hc : cfgOk c.nd c.lf c.inn c.fl c.bk) (hnd : (s.sl.length : Int) ≤ c.nd) (hx : u.nx = 8) (hC2 : ∀ k,¬ u.hol k → ¬ (u.step s).u.hol k → (C' k ↔ C k)) : UStp c s t C C' cs u M (u.step s) := by
 obtain ⟨low,g⟩ := hu.hd (by omega) (by omega)
 have hin : s.inn u.hid := (hvt.inn _).1 (hvt.tre.ckk g.m).2.2
 have hit : t.inn u.hid := (hvt.tre.ckk g.m).2.2
 obtain ⟨hfi,hoff⟩ := hu.fo (.inr hx)
 have hft : t.inn u.fid := (hvt.inn _).2 hfi
 have hne : u.hid ≠ u.fid := hoff _ _ g.m
 have hod := g.od
 have hun := unl0 hin hod
 have hl := hu.lev
 obtain ⟨f1,f2,f3,f4,f5,f6,f7,f8⟩ := fat_ok hvt hu hnd (by omega) (by omega) g
 have hov := (over_iff _).1 (hu.ov (.inr (.inr hx)))
 obtain ⟨p1,p2,p3⟩ := hu.p7 (.inr hx)
 have hsh := hu.p8 hx
 have hsf := hu.pd (.inr hx)
 have hfr : 1 ≤ u.fid ∧ u.fid ≤ c.nd := by unfold AS.inn at hfi; omega
 obtain ⟨g1,g2,g3,g4,g5,g6,g7⟩ := halves_ok hc f1 hov hfr f2 f3 f4
 obtain ⟨p,hp⟩ : ∃ p,u.fat (t.n u.hid) = p := ⟨_,rfl⟩
 have hpk := fun (b : Nat) (e : Chn) hb he => fat_kids hvt hu (by omega) (by omega) (by omega) g (b := b) (e := e) hb he
 have hpc : ∀ {k : Int},k ∈ p.cs → k ∈ (t.n u.hid).cs ∨ (u.lev ≠ 0 ∧ k = u.rgt) := fun h => fat_cs u _ (by rw [hp]; exact h)
 have hpe : u.lev = 0 → (t.n u.hid).with_ u.sep u.val = p := fun h0 => by rw [← hp]; exact (if_pos h0).symm
 rw [hp] at f1 f2 f5 f6 f7 f8 p1 p2 p3 g1 g2 g3 g4 g5 g6 g7 hpk
 have es : s.unlS u.hid true = s.setw u.hid (freeW (s.w u.hid) true) := if_pos hun
 have e : u.step s = ⟨({ u with lft := u.hid,rgt := u.fid,sep := u.bet,lev := u.lev + 1 } : US).down,s.setw u.hid (freeW (s.w u.hid) true),decide (u.lev = 0),0⟩ := ustep_of (by omega) (by unfold US.act; rw [hx]; simp only; rw [hun,es]; simp) rfl
 rw [e] at hC2 ⊢
 unfold US.down at hC2 ⊢
 have hnh : ∀ k,¬ ({ u with lft := u.hid,rgt := u.fid,sep := u.bet,lev := u.lev + 1,way := some (MS.new u.bet (u.lev + 1)),nx := 1 } : US).hol k := fun k h => by have := h.1.1; simp at this
 have hC : ∀ k,k ≠ u.hid → C' k → C k := fun k hk h => (hC2 k (fun h2 => hk h2.2) (hnh k)).1 h
 have hi : ∀ k,(s.setw u.hid (freeW (s.w u.hid) true)).inn k ↔ s.inn k := AS.inn_of_len (AS.setw_len _ _ _)
 obtain ⟨t',ht'⟩ : ∃ t',t' = (t.setn u.hid u.hn).setn u.fid u.fn := ⟨_,rfl⟩
 have hti : ∀ k,t'.inn k ↔ t.inn k := fun k => by rw [ht']; exact (AS.inn_of_len (AS.setn_len _ _ _) k).trans (AS.inn_of_len (AS.setn_len _ _ _) k)
 have hft2 : (t.setn u.hid u.hn).inn u.fid := (AS.inn_of_len (AS.setn_len _ _ _) _).2 hft
 have hmi : ∀ (l : Nat) (y : Int × List Int),memL cs l y → s.inn y.1 ∧ t.inn y.1 := fun l y hm => ⟨(hvt.inn _).1 (hvt.tre.ckk hm).2.2,(hvt.tre.ckk hm).2.2⟩
 have htf : t'.n u.fid = p.two := by rw [ht',setn_self hft2,p2]
 have hth : t'.n u.hid = p.one u.fid := by rw [ht',AS.n_setn hft2 _ ((AS.inn_of_len (AS.setn_len _ _ _) _).2 hit),if_neg hne,setn_self hit,p1]
 have hto2 : ∀ k,t.inn k → k ≠ u.hid → k ≠ u.fid → t'.n k = t.n k := fun k hk h1 h2 => by rw [ht',AS.n_setn hft2 _ ((AS.inn_of_len (AS.setn_len _ _ _) _).2 hk),if_neg h2,AS.n_setn hit _ hk,if_neg h1]
 have hto : ∀ (l : Nat) (y : Int × List Int),memL cs l y → y.1 ≠ u.hid → t'.n y.1 = t.n y.1 := fun l y hm h1 => hto2 _ (hmi l y hm).2 h1 (hoff l y hm)
 have hroot : t'.root = t.root := by rw [ht']; rfl
 have hw1 : (s.setw u.hid (freeW (s.w u.hid) true)).w u.hid = (s.w u.hid + 1) % 18446744073709551616 := by rw [AS.wsetw hin _ hin,if_pos rfl]; rfl
 obtain ⟨c1,hc1,hmc⟩ := g.m
 have hk0 : ∀ (b : Nat) (e : Chn),u.lev.toNat = b + 1 → cs[b]? = some e → t'.kidsOk e (u.hid,low) ∧ t'.kidsOk e (u.fid,p.bet) := fun b e hb he => by
  have hp0 : p.lv ≠ 0 := by rw [f5]; omega
  refine ⟨fun k hk => ?_,fun k hk => ?_⟩
  ·rw [kidAt_eq]
   simp only [hth] at hk ⊢
   obtain ⟨k1,k2⟩ := one_kids (low := low) (r := u.fid) hp0 k hk
   rw [k2]
   exact hpk b e hb he k k1
  ·rw [kidAt_eq]
   simp only [htf] at hk ⊢
   obtain ⟨k1,k2⟩ := two_kids (low := low) hp0 g6 k hk
   rw [k2]
   exact hpk b e hb he _ k1
 obtain ⟨hT,hX,hF⟩ := hvt.tre.split (t := t') (S := u.fid) (K := p.bet) hc1 hmc hoff (by omega) hroot (fun k hk => (hti k).2 hk) ((hti _).2 hft) hto (by rw [hth]; exact ⟨rfl,rfl,f6⟩) (by rw [htf]; exact ⟨f8,f7,f6⟩) (by rw [hth]; exact ⟨g1,g3⟩) (by rw [htf]; exact ⟨g2,g4⟩) hk0
 obtain ⟨cs',hcs'⟩ : ∃ x,x = cs.set u.lev.toNat (insA (u.fid,p.bet) u.hid c1) := ⟨_,rfl⟩
 rw [← hcs'] at hT hX hF
 have hsg := set_get cs u.lev.toNat (c' := insA (u.fid,p.bet) u.hid c1) (hl := hc1)
 have hnew : ∀ (l : Nat) (x : Int × List Int),memL cs' l x → memL cs l x ∨ (l = u.lev.toNat ∧ x = (u.fid,p.bet)) := fun l x hm => by
  obtain ⟨d,h1,h2⟩ := hm
  rw [hcs',hsg] at h1
  split at h1
  ·rename_i e1
   cases h1
   rcases insA_mem h2 with h3 | h3
   ·exact .inr ⟨e1.symm,h3⟩
   ·exact .inl ⟨c1,by rw [← e1]; exact hc1,h3⟩
  ·exact .inl ⟨d,h1,h2⟩
 have hkid : ∀ (l : Nat) (y : Int × List Int),memL cs' l y → ∀ R,R ∈ (t'.n y.1).cs → (∃ l' x,memL cs l' x ∧ R ∈ (t.n x.1).cs) ∨ (u.lev ≠ 0 ∧ R = u.rgt) := fun l y hm R hR => by
  have hpR : R ∈ p.cs → (∃ l' x,memL cs l' x ∧ R ∈ (t.n x.1).cs) ∨ (u.lev ≠ 0 ∧ R = u.rgt) := fun h => by
   rcases hpc h with h1 | h1
   ·exact .inl ⟨_,_,g.m,h1⟩
   ·exact .inr h1
  rcases hnew l y hm with h1 | ⟨_,h1⟩
  ·by_cases e1 : y.1 = u.hid
   ·rw [e1,hth] at hR
    exact hpR (List.mem_of_mem_take hR)
   ·rw [hto l y h1 e1] at hR
    exact .inl ⟨l,y,h1,hR⟩
  ·subst h1
   simp only [htf] at hR
   exact hpR (List.mem_of_mem_drop hR)
 refine ⟨⟨t',cs',fun k => k = u.hid ∨ k = u.fid,fun k => u.lev ≠ 0 ∧ k = u.rgt,?_,?_,?_,fun k h => .inl ?_,fun k h => .inl (.inl ⟨⟨by have := h.1; omega,by omega⟩,h.2⟩),?_,fun ha l y hm => ?_,fun _ j hj => by rw [hcs',hsg,if_neg (fun e => hj e.symm)],⟨fun _ e => absurd hx e,fun e => by omega,fun _ => ⟨?_,?_⟩,fun e => by omega⟩⟩,fun k h => ?_,fun k h => ?_,fun k h1 h2 => ?_,rfl,.inl rfl⟩
 ·refine ⟨hT,hroot.trans hvt.root,fun k => (hti k).trans ((hvt.inn k).trans (hi k).symm),fun l y hm h => ?_⟩
  show (s.setw u.hid (freeW (s.w u.hid) true)).n y.1 = _
  rw [AS.n_setw hin]
  rcases hnew l y hm with h1 | ⟨_,h1⟩
  ·by_cases e1 : y.1 = u.hid
   ·rw [e1,hth,hsh,p1]
   ·have h' : (s.setw u.hid (freeW (s.w u.hid) true)).w y.1 % 2 = 0 ∨ C' y.1 := h
    rw [AS.wsetw hin _ (hmi l y h1).1,if_neg e1] at h'
    rw [hto l y h1 e1]
    exact hvt.rd l y h1 (h'.imp (fun h => h) (hC _ e1))
  ·subst h1
   simp only [htf]
   rw [hsf,p2]
 ·have hlt : (u.lev + 1).toNat - 1 = u.lev.toNat := by omega
  exact ⟨hu.cf,(by show 0 ≤ u.lev + 1; omega),(fun _ _ => by rw [p3]; exact g5),hu.val,(fun a => by simp at a),(fun _ _ => by simp only [hlt]; rw [p3]; exact ⟨⟨low,hX _ _ g.m⟩,hF,fun l y hm hR => by rcases hkid l y hm _ hR with ⟨l2,x,h1,h2⟩ | ⟨h1,h2⟩; (obtain ⟨l3,z,h3,h4⟩ := kid_mem hvt.tre h1 h2; exact hoff l3 z h3 h4); exact hoff _ _ (hu.lk (by omega) (by omega)).2.1 h2.symm⟩),(fun _ => ⟨_,rfl,DI.new _ _⟩),(fun a => by simp at a),(fun a b => by simp at a b),(fun a => by simp [US.cln] at a),(fun a => by simp at a),(fun a => by simp at a),(fun a => by simp at a),(fun a => by simp at a),(fun a => by simp at a),(fun a => by simp at a),(fun a => by simp at a),(fun a b => by simp at a),(fun a b => by simp at a),(fun a => by simp at a),(fun a b => by simp at a),(fun a => by simp at a),(fun a b => by simp at a b),(fun a b => by simp at a b),(fun a b => by simp at a b),(fun a => by simp at a),(fun a => by simp at a)⟩
 ·refine ⟨fun k hk => (hi k).2 hk,hX,fun k hk hin2 => ⟨AS.n_setw hin _ k,by rw [AS.wsetw hin _ hin2,if_neg (fun e => hk (.inl e))],hto2 k ((hvt.inn k).2 hin2) (fun e => hk (.inl e)) (fun e => hk (.inr e))⟩,fun l x hm => ?_,fun wd n0 Y id m hm2 he h => ?_,fun R hR h l y hm hk => ?_⟩
  ·rcases hnew l x hm with h1 | ⟨_,h1⟩
   ·exact .inl h1
   ·exact .inr (.inr (by rw [h1]))
  ·obtain ⟨l,y,h1,rfl⟩ := hm2
   by_cases e1 : y.1 = u.hid
   ·rw [e1] at h ⊢
    exact h.unlT he ((hi _).2 hin) hod hw1
   ·exact h.same ((hi _).2 (hmi l y h1).1) (by rw [AS.wsetw hin _ (hmi l y h1).1,if_neg e1]) (hto l y h1 e1) (hC _ e1)
  ·rcases hkid l y hm R hk with ⟨l2,x,h1,h2⟩ | h1
   ·exact h l2 x h1 h2
   ·exact hR h1
 ·rcases h with h | h
  ·exact .inl ⟨by omega,h⟩
  ·exact .inr (.inl ⟨.inr hx,h⟩)
 ·-- the map
  obtain ⟨c0,hc0⟩ : ∃ c0,cs[0]? = some c0 := ⟨_,List.getElem?_eq_getElem hvt.tre.ne⟩
  rw [mp_of hc0]
  by_cases h0 : u.lev = 0
  ·rw [if_pos ⟨decide_eq_true h0,rfl⟩]
   have e0 : u.lev.toNat = 0 := by omega
   rw [e0,hc0] at hc1
   cases hc1
   have hc0' : cs'[0]? = some (insA (u.fid,p.bet) u.hid c1) := by rw [hcs',hsg,if_pos e0]
   rw [mp_of hc0']
   refine hvt.tre.mapSplit hc0 hmc g.lo g.be (fun x hx hne => hto 0 x ⟨_,hc0,hx⟩ hne) ?_
   have hp0 : p.lv = 0 := by rw [f5,h0]
   have hpv : p.vs.length = p.ks.length := by
    rcases f1.bd with h1 | h1
    ·exact h1.2.2.1
    ·exact absurd hp0 h1.1
   rw [hth,htf,halves_ents hp0 hpv,← hpe h0]
   obtain ⟨_,hmb,_⟩ := may_of (hvt.tre.ckk g.m).1
   have hlv := hvt.tre.lev g.m
   exact with_ents hmb (by simp only at hlv ⊢; omega)
  ·rw [if_neg (fun h => h0 (of_decide_eq_true h.1))]
   have hc0' : cs'[0]? = some c0 := by rw [hcs',hsg,if_neg (by omega)]; exact hc0
   rw [mp_of hc0']
   refine entsC_same (fun x hx => hto 0 x ⟨_,hc0,hx⟩ (fun e1 => ?_))
   have h1 := hvt.tre.lev ⟨_,hc0,hx⟩
   have h2 := hvt.tre.lev g.m
   simp only at h2
   rw [e1,h2] at h1
   omega
 ·have hla : (l + 1 = u.lev.toNat) → (2 ≤ (p.one u.fid).cs.length ∧ ∀ k ∈ (p.one u.fid).ks,0 < cmpI k low) ∧ 2 ≤ p.two.cs.length ∧ ∀ k ∈ p.two.ks,0 < cmpI k p.bet := fun e0 => by
   have hp0 : p.lv ≠ 0 := by rw [f5]; omega
   have hpa := fat_am hvt hu (by omega) (by omega) g ha (by omega)
   rw [hp] at hpa
   have hpl : p.cs.length = p.ks.length + 1 := by
    rcases f1.bd with h1 | h1
    ·exact absurd h1.1 hp0
    ·exact h1.2.2.1
   have hp4 : 4 ≤ p.cs.length := by
    have h1 := hov
    rw [hp] at h1
    unfold OvP at h1
    rw [if_neg hp0] at h1
    have := hc.2.2.1.1
    omega
   exact half_am hp0 hpl hp4 f1.rs hpa.2
  rcases hnew _ y hm with h1 | ⟨e0,h1⟩
  ·by_cases e1 : y.1 = u.hid
   ·obtain ⟨e2,e3⟩ := hvt.tre.uniq (j := u.hid) (a := y.2) (b := low) (by rw [← e1]; exact h1) g.m
    rw [e1,hth,e3]
    exact (hla e2).1
   ·rw [hto _ y h1 e1]
    exact ha l y h1
  ·rw [h1]
   simp only
   rw [htf]
   exact (hla e0).2
 ·have h4' := sum_set List.length List.length cs _ c1 (insA (u.fid,p.bet) u.hid c1) hc1 (fun _ _ _ _ => rfl)
  rw [← hcs',insA_len1 hmc] at h4'
  unfold nodN
  omega
 ·have h3' := kidC_ins (t := t) (t' := t') (y := (u.fid,p.bet)) (hvt.tre.nd _ c1 hc1) hmc (fun x hx2 hne => hto _ x ⟨c1,hc1,hx2⟩ hne)
  have h4' := sum_set (kidC t) (kidC t') cs _ c1 (insA (u.fid,p.bet) u.hid c1) hc1 (fun k e hk he => kidC_same fun x hx2 => hto k x ⟨e,he,hx2⟩ (fun e2 => by
   have q1 := hvt.tre.lev ⟨e,he,hx2⟩
   have q2 := hvt.tre.lev g.m
   simp only at q2
   rw [e2,q2] at q1
   omega))
  rw [← hcs'] at h4'
  have h5 := fat_len hu (by omega) g
  rw [hp] at h5
  have h6 := half_len p u.fid
  simp only at h3'
  rw [hth,htf] at h3'
  unfold kidN
  omega
 ·rcases h with h | h | h <;> (have := h.1; simp at this)
 ·rcases h with h | h
  ·exact .inl (.inr ⟨.inr hx,h.2⟩)
  ·have := h.1; simp at this
 ·have h5 := (hi k).1 h1
  have h2' : (s.setw u.hid (freeW (s.w u.hid) true)).w k % 2 = 1 := h2
  by_cases e1 : k = u.hid
  ·rw [e1,hw1] at h2'
   have := hod
   omega
  ·rw [AS.wsetw hin _ h5,if_neg e1] at h2'
   exact .inr ⟨h5,h2',fun h => by simp [US.odd,US.hol,hx] at h; exact e1 h⟩
theorem Tre.high {nd lf inn fl bk : Int} (h : Tre t nd lf inn fl bk cs) : 2 * cs.length ≤ t.sl.length + 1 := by
 have hm := Tre.met h cs.length (Nat.le_refl _)
 rw [List.take_length] at hm
 have hl := (Met.len ⟨hm.1,fun x hx => (hm.2 x hx).1⟩ : (idsOf cs.reverse).length ≤ t.sl.length)
 have key : ∀ (n : Nat),n ≤ cs.length → (n < cs.length → 2 * n ≤ (idsOf ((cs.take n).reverse)).length) ∧ (n = cs.length → 2 * n ≤ (idsOf ((cs.take n).reverse)).length + 1) := by
  intro n
  induction n with
  | zero => intro _; simp
  | succ n ih =>
   intro hn
   obtain ⟨d,hd⟩ : ∃ d,cs[n]? = some d := ⟨_,List.getElem?_eq_getElem (by omega)⟩
   have e : (cs.take (n + 1)).reverse = d :: (cs.take n).reverse := by
    rw [List.take_add_one,hd]; simp
   have e1 : (idsOf (d :: (cs.take n).reverse)).length = d.length + (idsOf ((cs.take n).reverse)).length := by simp [idsOf]
   rw [e,e1]
   have h1 := (ih (by omega)).1 (by omega)
   refine ⟨fun h2 => ?_,fun _ => ?_⟩
   ·obtain ⟨d2,hd2⟩ : ∃ d2,cs[n + 1]? = some d2 := ⟨_,List.getElem?_eq_getElem h2⟩
    have := h.two n d d2 hd hd2
    omega
   ·obtain ⟨i,hi⟩ := h.lk n d hd
    have := List.length_pos_iff.2 hi.ne
    omega
 have := (key cs.length (Nat.le_refl _)).2 rfl
 rw [List.take_length] at this
 omega
theorem sp_grow (hvt : VT s t C c.nd c.lf c.inn c.fl c.bk cs) (hu : UI c s t C cs u M) (hc : cfgOk c.nd c.lf c.inn c.fl c.bk) (hnd : (s.sl.length : Int) ≤ c.nd) (hsm : cs.length ≤ 31) (hx : u.nx = 14) (hC1 : ∀ k,u.hol k → (C k ↔ u.cln)) (hC2 : ∀ k,¬ u.hol k → ¬ (u.step s).u.hol k → (C' k ↔ C k)) (hC3 : ∀ k,(u.step s).u.hol k → (C' k ↔ (u.step s).u.cln)) : UStp c s t C C' cs u M (u.step s) := by
 obtain ⟨hti,hoff⟩ := hu.tp (by omega) (by omega)
 have htt : t.inn u.top := (hvt.inn _).2 hti
 have hl := hu.up (by omega) (by omega)
 have htn := hu.tc (.inr hx)
 have hE : s.wordE u.top = 0 := if_pos hti
 have hno : ∀ k,¬ u.hol k := fun k h => by have := h.1.2; omega
 have hnod : ∀ k,¬ u.odd k := fun k h => by simp [US.odd,US.hol,hx] at h
 by_cases hr : s.root = u.lft
 case neg =>
  have hB : s.groB u.lft u.top = false := decide_eq_false (fun h => hr h.2)
  have e : u.step s = ⟨u.down,s,false,0⟩ := ustep_of (by omega) (by unfold US.act; rw [hx]; simp only; rw [if_neg (by rw [hB]; decide),hE]) rfl
  rw [e] at hC2 hC3 ⊢
  unfold US.down at *
  have hC := cmon (o := ⟨{ u with way := some (MS.new u.sep u.lev),nx := 1 },s,false,0⟩) hC1 hC2 hC3 (fun k => ⟨fun h => by have := h.1.1; simp at this,fun h => absurd h (hno k)⟩) (fun h => by simp [US.cln] at h)
  refine UStp.quiet hvt hC rfl ⟨hu.cf,hu.lev,(fun _ _ => hu.key (by omega) (by omega)),hu.val,(fun a => by simp at a),(fun a _ => hu.lk a (by omega)),(fun _ => ⟨_,rfl,DI.new _ _⟩),(fun a => by simp at a),(fun a b => by simp at a b),(fun a => by simp [US.cln] at a),(fun a => by simp at a),(fun a => by simp at a),(fun a => by simp at a),(fun a => by simp at a),(fun a => by simp at a),(fun a => by simp at a),(fun a => by simp at a),(fun a b => by simp at a),(fun a b => by simp at a),(fun a => by simp at a),(fun a b => by simp at a),(fun a => by simp at a),(fun a b => by simp at a b),(fun a b => by simp at a b),(fun a b => by simp at a b),(fun a => by simp at a),(fun a => by simp at a)⟩ (fun k h => by simp [US.own,US.hol,US.prv] at h) (fun k h => ?_) (fun k h => absurd h (hnod k)) (fun h => by cases h.1) (.inl rfl) ⟨by omega,by omega,fun _ => by simp⟩
  simp [US.que,hx] at h ⊢
  exact h
 have hB : s.groB u.lft u.top = true := decide_eq_true ⟨hti,hr⟩
 have hS : s.groS u.lft u.top = ⟨s.nodes,u.top,s.sl⟩ := if_pos ⟨hti,hr⟩
 have e : u.step s = ⟨{ u with nx := 15 },⟨s.nodes,u.top,s.sl⟩,false,0⟩ := ustep_of (by omega) (by unfold US.act; rw [hx]; simp only; rw [if_pos hB,hS,hE]) rfl
 rw [e] at hC2 hC3 ⊢
 have hC := cmon (o := ⟨{ u with nx := 15 },⟨s.nodes,u.top,s.sl⟩,false,0⟩) hC1 hC2 hC3 (fun k => ⟨fun h => by have := h.1.2; simp at this,fun h => absurd h (hno k)⟩) (fun h => by simp [US.cln] at h)
 obtain ⟨⟨lowL,q1⟩,q2,q3⟩ := hu.lk hl (by omega)
 have hkey := hu.key (by omega) (by omega)
 have hrl := hvt.tre.root_low
 rw [hvt.root,hr] at hrl
 obtain ⟨eL,eLow⟩ := hvt.tre.uniq q1 hrl
 subst eLow
 have hne := hvt.tre.ne
 have hlen : u.lev.toNat = cs.length := by omega
 have hLR : u.lft ≠ u.rgt := fun h => by
  rw [← h] at q2
  have := (hvt.tre.uniq q1 q2).2
  rw [← this] at hkey
  simp at hkey
 obtain ⟨c0,hc0,hL0⟩ := hrl
 obtain ⟨c0',hc0',hR0⟩ := q2
 rw [eL,hc0] at hc0'
 cases hc0'
 obtain ⟨t',ht'⟩ : ∃ t' : AS,t' = ⟨t.nodes,u.top,(t.setn u.top (s.n u.top)).sl⟩ := ⟨_,rfl⟩
 have hmi : ∀ (l : Nat) (y : Int × List Int),memL cs l y → s.inn y.1 ∧ t.inn y.1 := fun l y hm => ⟨(hvt.inn _).1 (hvt.tre.ckk hm).2.2,(hvt.tre.ckk hm).2.2⟩
 have hin2 : ∀ k,t'.inn k ↔ t.inn k := fun k => by rw [ht']; exact AS.inn_of_len (AS.setn_len _ _ _) k
 have hn2 : ∀ k,t'.n k = (t.setn u.top (s.n u.top)).n k := fun k => by rw [ht']; rfl
 have htop : t'.n u.top = ⟨u.lev,[],0,[u.sep],[],[u.lft,u.rgt]⟩ := by rw [hn2,setn_self htt,htn]
 have hto : ∀ k,t.inn k → k ≠ u.top → t'.n k = t.n k := fun k hk h => by rw [hn2,AS.n_setn htt _ hk,if_neg h]
 have hhi := hvt.tre.high
 have hlt := hvt.len
 have hLi := (hmi _ _ ⟨c0,hc0,hL0⟩).1
 have hRi := (hmi _ _ ⟨c0,hc0,hR0⟩).1
 have hck : nchkE (t'.n u.top) c.nd c.lf c.inn c.fl c.bk = 0 := by
  rw [htop]
  refine may_to hc ⟨⟨⟨⟨by simp only; omega,by simp only; omega⟩,⟨Int.le_refl _,by have := hc.1.1; simp only; omega⟩⟩,by simp,by simp⟩,fun k hk => ?_,List.pairwise_singleton _ _,.inr ⟨by simp only; omega,rfl,rfl,fun k hk => ?_,?_⟩⟩ (fun h => ?_)
  ·rw [List.mem_singleton] at hk
   subst hk
   exact ⟨hkey,by simp [beyB]⟩
  ·simp only [List.mem_cons,List.not_mem_nil,or_false] at hk
   rcases hk with rfl | rfl
   ·unfold AS.inn at hLi; simp only at hLi; omega
   ·unfold AS.inn at hRi; simp only at hRi; omega
  ·simp [hLR]
  ·unfold OvP at h
   simp only at h
   rw [if_neg (by omega)] at h
   have := hc.2.2.1.1
   simp at h
   omega
 obtain ⟨hT,hX⟩ := hvt.tre.grow (t := t') (T := u.top) hc0 hL0 hR0 hLR (by rw [ht']) (fun k hk => (hin2 k).2 hk) ((hin2 _).2 htt) (fun l y hm => hto _ (hmi l y hm).2 (hoff l y hm)) (by rw [htop,← hlen,Int.toNat_of_nonneg hu.lev]) hck
 have hnew : ∀ (l : Nat) (y : Int × List Int),memL (cs ++ [[(u.top,[])]]) l y → memL cs l y ∨ y = (u.top,[]) := fun l y hm => by
  obtain ⟨d,h1,h2⟩ := hm
  by_cases h3 : l < cs.length
  ·rw [List.getElem?_append_left h3] at h1
   exact .inl ⟨d,h1,h2⟩
  ·rw [List.getElem?_append_right (by omega)] at h1
   have h4 : l - cs.length = 0 := by
    have := (List.getElem?_eq_some_iff.1 h1).1
    simp at this
    omega
   rw [h4] at h1
   simp at h1
   rw [← h1] at h2
   exact .inr (List.mem_singleton.1 h2)
 refine ⟨⟨t',cs ++ [[(u.top,[])]],fun k => k = u.top,fun k => k = u.lft ∨ k = u.rgt,?_,?_,?_,fun k h => .inl (.inr (.inr ⟨by omega,h⟩)),fun k h => ?_,?_,fun ha l y hm => ?_,fun h => absurd hx h,⟨fun _ _ e => absurd rfl (e hx),fun e => by omega,fun e => by omega,fun _ _ => ⟨?_,?_,fun j hj => ?_⟩⟩⟩,fun k h => ?_,fun k h => ?_,fun k h1 h2 => ?_,rfl,.inl rfl⟩
 ·refine ⟨hT,by rw [ht'],fun k => (hin2 k).trans (hvt.inn k),fun l y hm h => ?_⟩
  rcases hnew l y hm with h1 | h1
  ·rw [hto _ (hmi l y h1).2 (hoff l y h1)]
   exact hvt.rd l y h1 (h.imp (fun h => h) (hC _))
  ·subst h1
   simp only
   rw [htop]; exact htn
 ·exact ⟨hu.cf,hu.lev,(fun a b => by simp at b),hu.val,(fun a => by simp at a),(fun a b => by simp at b),(fun a => by simp at a),(fun a => by simp at a),(fun a b => by simp at a b),(fun a => by simp [US.cln] at a),(fun a => by simp at a),(fun a => by simp at a),(fun a => by simp at a),(fun a => by simp at a),(fun a => by simp at a),(fun a => by simp at a),(fun a => by simp at a),(fun a b => by simp at a),(fun a b => by simp at a),(fun a => by simp at a),(fun a b => by simp at a),(fun a => by simp at a),(fun a b => by simp at a b),(fun a b => by simp at a b),(fun a b => by simp at a b),(fun a => by simp at a),(fun a => by simp at a)⟩
 ·refine ⟨fun k hk => hk,hX,fun k hk hin3 => ⟨rfl,rfl,hto k ((hvt.inn k).2 hin3) hk⟩,fun l y hm => ?_,fun wd n0 Y id m hm2 he h => ?_,fun R hR h l y hm hk => ?_⟩
  ·rcases hnew l y hm with h1 | h1
   ·exact .inl h1
   ·exact .inr (by rw [h1])
  ·obtain ⟨l,y,h1,rfl⟩ := hm2
   exact h.same (hmi l y h1).1 rfl (hto _ (hmi l y h1).2 (hoff l y h1)) (hC _)
  ·rcases hnew l y hm with h1 | h1
   ·rw [hto _ (hmi l y h1).2 (hoff l y h1)] at hk
    exact h l y h1 hk
   ·subst h1
    simp only [htop,List.mem_cons,List.not_mem_nil,or_false] at hk
    exact hR hk
 ·rcases h with h | h
  ·exact .inr (by rw [h,hr])
  ·exact .inl (.inl ⟨⟨hl,by omega⟩,h⟩)
 ·rw [if_neg (fun h => by cases h.1)]
  obtain ⟨d,hd⟩ : ∃ d,cs[0]? = some d := ⟨_,List.getElem?_eq_getElem hne⟩
  rw [mp_of hd,mp_of (c0 := d) (by rw [List.getElem?_append_left hne]; exact hd)]
  exact entsC_same (fun x hx => hto _ (hmi 0 x ⟨d,hd,hx⟩).2 (hoff 0 x ⟨d,hd,hx⟩))
 ·rcases hnew _ y hm with h1 | h1
  ·rw [hto _ (hmi _ y h1).2 (hoff _ y h1)]
   exact ha l y h1
  ·rw [h1]
   simp only
   rw [htop]
   refine ⟨Nat.le_refl 2,fun k hk => ?_⟩
   simp only [List.mem_singleton] at hk
   rw [hk]
   exact cmp_nil_lt (fun e => by rw [e] at hkey; simp at hkey)
 ·unfold nodN
  rw [List.map_append,List.sum_append]
  rfl
 ·have h1 : kidN t' (cs ++ [[(u.top,[])]]) = kidN t' cs + kidC t' [(u.top,[])] := by
   unfold kidN
   rw [List.map_append,List.sum_append]
   simp
  rw [h1,kidN_same (t := t) (t' := t') (fun l y hm => hto _ (hmi l y hm).2 (hoff l y hm)),kidC_cons]
  simp only
  rw [htop]
  rfl
 ·by_cases h3 : j < cs.length
  ·rw [List.getElem?_append_left h3]
  ·rw [List.getElem?_eq_none (by rw [List.length_append,List.length_singleton]; omega),List.getElem?_eq_none (by omega)]
 ·rcases h with h | h | h <;> (have := h.1; simp at this)
 ·rcases h with h | h <;> (have := h.1; simp at this)
 ·exact .inr ⟨h1,h2,hnod k⟩
end
section
variable {c : Cfg} {s t : AS} {C C' : Int → Prop} {cs : List Chn} {u : US} {M : Nat}
theorem sp_all (hvt : VT s t C c.nd c.lf c.inn c.fl c.bk cs) (hu : UI c s t C cs u M) (hc : cfgOk c.nd c.lf c.inn c.fl c.bk) (hw : ∀ k,s.inn k → s.w k < 18446744073709551616) (hM : M < 18446744073709551616) (hnd : (s.sl.length : Int) ≤ c.nd) (hsm : cs.length ≤ 31) (hC1 : ∀ k,u.hol k → (C k ↔ u.cln)) (hC2 : ∀ k,¬ u.hol k → ¬ (u.step s).u.hol k → (C' k ↔ C k)) (hC3 : ∀ k,(u.step s).u.hol k → (C' k ↔ (u.step s).u.cln)) : UStp c s t C C' cs u M (u.step s) := by
 have h : u.nx = 0 ∨ u.nx = 1 ∨ u.nx = 2 ∨ u.nx = 3 ∨ u.nx = 4 ∨ u.nx = 5 ∨ u.nx = 6 ∨ u.nx = 7 ∨ u.nx = 8 ∨ u.nx = 9 ∨ u.nx = 10 ∨ u.nx = 11 ∨ u.nx = 12 ∨ u.nx = 13 ∨ u.nx = 14 ∨ 15 ≤ u.nx := by omega
 rcases h with h | h | h | h | h | h | h | h | h | h | h | h | h | h | h | h
 ·exact sp_refuse hvt hu h hC1 hC2 hC3
 ·exact sp_goDown hvt hu hw hM h hC1 hC2 hC3
 ·exact sp_lock hvt hu hM h hC1 hC2 hC3
 ·exact sp_layBody hvt hu h hC1 hC2 hC3
 ·exact sp_free hvt hu hc hnd h hC2
 ·exact sp_giveBack hvt hu h hC1 hC2
 ·exact sp_takeHalf hvt hu hc hnd h hC1 hC2 hC3
 ·obtain ⟨p1,p2⟩ := hu.pc h
  have hp : u.pc = 0 ∨ u.pc = 1 ∨ u.pc = 2 ∨ u.pc = 3 ∨ u.pc = 4 := by omega
  rcases hp with hp | hp | hp | hp | hp
  ·exact sp_half0 hvt hu h hp hC1 hC2 hC3
  ·exact sp_half1 hvt hu h hp hC1 hC2 hC3
  ·exact sp_half2 hvt hu h hp hC1 hC2 hC3
  ·exact sp_half3 hvt hu h hp hC1 hC2 hC3
  ·exact sp_half4 hvt hu h hp hC1 hC2 hC3
 ·exact sp_rise hvt hu hc hnd h hC2
 ·exact sp_seeRoot hvt hu h hC1 hC2 hC3
 ·exact sp_takeTop hvt hu h hC1 hC2 hC3
 ·exact sp_topHead hvt hu h hC1 hC2 hC3
 ·exact sp_topBody hvt hu h hC1 hC2 hC3
 ·exact sp_topFree hvt hu h hC1 hC2 hC3
 ·exact sp_grow hvt hu hc hnd hsm h hC1 hC2 hC3
 ·exact sp_idle hvt hu h hC1 hC2 hC3
end
def CU (us : List US) (k : Int) : Prop := ∃ (i : Nat) (u : US),us[i]? = some u ∧ u.hol k ∧ u.cln
structure WG (c : Cfg) (s t : AS) (cs : List Chn) (us : List US) (M : Nat) : Prop where
 vt : VT s t (CU us) c.nd c.lf c.inn c.fl c.bk cs
 ui : ∀ (i : Nat) (u : US),us[i]? = some u → UI c s t (CU us) cs u M
 own : ∀ (i j : Nat) (u v : US),us[i]? = some u → us[j]? = some v → i ≠ j → ∀ k,u.own k → ¬ v.own k
 que : ∀ (i j : Nat) (u v : US),us[i]? = some u → us[j]? = some v → i ≠ j → ∀ k,u.que k → ¬ v.que k
 odd : ∀ k,s.inn k → s.w k % 2 = 1 → ∃ (i : Nat) (u : US),us[i]? = some u ∧ u.odd k
section
variable {c : Cfg} {s t : AS} {cs : List Chn} {us : List US} {u : US} {M i : Nat}
theorem UI.ownIn {C : Int → Prop} (hvt : VT s t C c.nd c.lf c.inn c.fl c.bk cs) (h : UI c s t C cs u M) {k : Int} (ho : u.own k) : s.inn k := by
 rcases ho with ⟨⟨a,b⟩,rfl⟩ | ⟨a,rfl⟩ | ⟨⟨a,b⟩,rfl⟩
 ·obtain ⟨low,g⟩ := h.hd a b
  exact (hvt.inn _).1 (hvt.tre.ckk g.m).2.2
 ·exact (h.fo a).1
 ·exact (h.tp a b).1
theorem UI.ownOdd {C : Int → Prop} (h : UI c s t C cs u M) {k : Int} (ho : u.own k) : s.w k % 2 = 1 ∨ Off cs k := by
 rcases ho with ⟨⟨a,b⟩,rfl⟩ | ⟨a,rfl⟩ | ⟨⟨a,b⟩,rfl⟩
 ·obtain ⟨low,g⟩ := h.hd a b
  exact .inl g.od
 ·exact .inr (h.fo a).2
 ·exact .inr (h.tp a b).2
theorem UI.queIn {C : Int → Prop} (hvt : VT s t C c.nd c.lf c.inn c.fl c.bk cs) (h : UI c s t C cs u M) {k : Int} (ho : u.que k) : s.inn k := by
 rcases ho with ⟨⟨a,b⟩,rfl⟩ | ⟨a,rfl⟩
 ·exact (hvt.inn _).1 (hvt.tre.ckk (h.lk a b).2.1).2.2
 ·exact (h.fo a).1
theorem UI.rgtRoot {C : Int → Prop} (hvt : VT s t C c.nd c.lf c.inn c.fl c.bk cs) (h : UI c s t C cs u M) (hl : 0 < u.lev) (hx : u.nx ≤ 14) : u.rgt ≠ s.root := by
 intro e
 have h1 : 1 ≤ u.nx := by
  rcases Nat.eq_zero_or_pos u.nx with g | g
  ·have := h.z g; omega
  ·exact g
 obtain ⟨_,g2,_⟩ := h.lk hl hx
 rw [e,← hvt.root] at g2
 have := (hvt.tre.uniq g2 hvt.tre.root_low).2
 have hk := (h.key h1 hx).1
 rw [this] at hk
 simp at hk
theorem WG.stepX (h : WG c s t cs us M) (hi : us[i]? = some u) (hc : cfgOk c.nd c.lf c.inn c.fl c.bk) (hw : ∀ k,s.inn k → s.w k < 18446744073709551616) (hM : M < 18446744073709551616) (hnd : (s.sl.length : Int) ≤ c.nd) (hsm : cs.length ≤ 31) :
  ∃ t' cs',WG c (u.step s).s t' cs' (us.set i (u.step s).u) (M + 1) ∧ mp t' cs' = (if (u.step s).tk = true ∧ (u.step s).er = 0 then mset u.sep u.val (mp t cs) else mp t cs) ∧ (u.step s).s.nodes = s.nodes ∧ ((u.step s).er = 0 ∨ ((u.step s).er = 3 ∧ u.nx = 0) ∨ ((u.step s).er = 2 ∧ u.nx = 5)) ∧ (Am t cs → Am t' cs') ∧ (u.nx ≠ 14 → Upl cs cs' u.lev.toNat) ∧ Cn u (u.step s) t cs t' cs' ∧ Ext cs cs' := by
 generalize ho : u.step s = o
 have hlt : i < us.length := (List.getElem?_eq_some_iff.1 hi).1
 have hat : ∀ (j : Nat),(us.set i o.u)[j]? = if i = j then some o.u else us[j]? := fun j => by
  rw [List.getElem?_set]
  by_cases e : i = j
  ·subst e; rw [if_pos rfl,if_pos rfl,if_pos hlt]
  ·rw [if_neg e,if_neg e]
 let C' : Int → Prop := fun k => (∃ (j : Nat) (v : US),us[j]? = some v ∧ j ≠ i ∧ v.hol k ∧ v.cln) ∧ ¬ o.u.hol k ∨ (o.u.hol k ∧ o.u.cln)
 have hui := h.ui i u hi
 have C1 : ∀ k,u.hol k → (CU us k ↔ u.cln) := fun k hk => by
  refine ⟨fun ⟨j,v,g1,g2,g3⟩ => ?_,fun g => ⟨i,u,hi,hk,g⟩⟩
  by_cases e : j = i
  ·subst e
   rw [hi] at g1
   obtain rfl := Option.some.inj g1
   exact g3
  ·exact absurd (.inl g2) (h.own i j u v hi g1 (fun x => e x.symm) k (.inl hk))
 have C2 : ∀ k,¬ u.hol k → ¬ o.u.hol k → (C' k ↔ CU us k) := fun k h1 h2 => by
  refine ⟨fun g => ?_,fun ⟨j,v,g1,g2,g3⟩ => .inl ⟨⟨j,v,g1,fun e => ?_,g2,g3⟩,h2⟩⟩
  ·rcases g with ⟨⟨j,v,g1,_,g2,g3⟩,_⟩ | ⟨g,_⟩
   ·exact ⟨j,v,g1,g2,g3⟩
   ·exact absurd g h2
  ·subst e
   rw [hi] at g1
   obtain rfl := Option.some.inj g1
   exact h1 g2
 have C3 : ∀ k,o.u.hol k → (C' k ↔ o.u.cln) := fun k hk => ⟨fun g => by
  rcases g with ⟨_,g⟩ | ⟨_,g⟩
  ·exact absurd hk g
  ·exact g,fun g => .inr ⟨hk,g⟩⟩
 have hsp := sp_all (C' := C') h.vt hui hc hw hM hnd hsm C1 (by rw [ho]; exact C2) (by rw [ho]; exact C3)
 rw [ho] at hsp
 have hother : ∀ (j : Nat) (v : US),us[j]? = some v → j ≠ i → ∀ k,v.own k → ¬ o.u.own k := fun j v hv e k hk hk' => by
  rcases hsp.own k hk' with g | ⟨g1,l,x,g2,g3⟩ | g
  ·exact h.own j i v u hv hi e k hk g
  ·rcases (h.ui j v hv).ownOdd hk with q | q
   ·omega
   ·exact q l x g2 g3
  ·exact g ((h.ui j v hv).ownIn h.vt hk)
 have hqueo : ∀ (j : Nat) (v : US),us[j]? = some v → j ≠ i → ∀ k,v.que k → ¬ o.u.que k := fun j v hv e k hk hk' => by
  rcases hsp.que k hk' with g | g
  ·exact h.que j i v u hv hi e k hk g
  ·exact g ((h.ui j v hv).queIn h.vt hk)
 have hCC : C' = CU (us.set i o.u) := by
  funext k
  refine propext ⟨fun g => ?_,fun ⟨j,v,g1,g2,g3⟩ => ?_⟩
  ·rcases g with ⟨⟨j,v,g1,e,g2,g3⟩,_⟩ | ⟨g1,g2⟩
   ·exact ⟨j,v,by rw [hat,if_neg (fun x => e x.symm)]; exact g1,g2,g3⟩
   ·exact ⟨i,o.u,by rw [hat,if_pos rfl],g1,g2⟩
  ·rw [hat] at g1
   by_cases e : i = j
   ·rw [if_pos e] at g1
    obtain rfl := Option.some.inj g1
    exact .inr ⟨g2,g3⟩
   ·rw [if_neg e] at g1
    exact .inl ⟨⟨j,v,g1,fun x => e x.symm,g2,g3⟩,fun q => hother j v g1 (fun x => e x.symm) k (.inl g2) (.inl q)⟩
 obtain ⟨⟨t',cs',X,Z,a1,a2,a3,a4,a5,a6,a7,a8,a9⟩,b1,b2,b3,b4,b5⟩ := hsp
 rw [hCC] at a1 a2 a3
 refine ⟨t',cs',⟨a1,fun j v hv => ?_,fun j l v w hv hl' e k => ?_,fun j l v w hv hl' e k => ?_,fun k h1 h2 => ?_⟩,a6,b4,b5,a7,a8,a9,a3.ext⟩
 ·rw [hat] at hv
  by_cases e : i = j
  ·rw [if_pos e] at hv
   obtain rfl := Option.some.inj hv
   exact a2
  ·rw [if_neg e] at hv
   have e' : j ≠ i := fun x => e x.symm
   have hv' := h.ui j v hv
   refine hv'.env h.vt.inn (fun l x hm => (h.vt.tre.ckk hm).2.2) a3 (fun k hk hx => ?_) (fun g1 g2 gz => ?_)
   ·rcases a4 k hx with g | g
    ·exact h.own j i v u hv hi e' k hk g
    ·exact hother j v hv e' k hk g
   ·rcases a5 _ gz with g | g
    ·exact h.que j i v u hv hi e' _ (.inl ⟨⟨g1,g2⟩,rfl⟩) g
    ·exact hv'.rgtRoot h.vt g1 g2 g
 ·rw [hat] at hv hl'
  by_cases e1 : i = j
  ·rw [if_pos e1] at hv
   obtain rfl := Option.some.inj hv
   rw [if_neg (fun x => e (e1.symm.trans x))] at hl'
   exact fun hk hk' => hother l w hl' (fun x => e (e1.symm.trans x.symm)) k hk' hk
  ·rw [if_neg e1] at hv
   by_cases e2 : i = l
   ·rw [if_pos e2] at hl'
    obtain rfl := Option.some.inj hl'
    exact hother j v hv (fun x => e1 x.symm) k
   ·rw [if_neg e2] at hl'
    exact h.own j l v w hv hl' e k
 ·rw [hat] at hv hl'
  by_cases e1 : i = j
  ·rw [if_pos e1] at hv
   obtain rfl := Option.some.inj hv
   rw [if_neg (fun x => e (e1.symm.trans x))] at hl'
   exact fun hk hk' => hqueo l w hl' (fun x => e (e1.symm.trans x.symm)) k hk' hk
  ·rw [if_neg e1] at hv
   by_cases e2 : i = l
   ·rw [if_pos e2] at hl'
    obtain rfl := Option.some.inj hl'
    exact hqueo j v hv (fun x => e1 x.symm) k
   ·rw [if_neg e2] at hl'
    exact h.que j l v w hv hl' e k
 ·rcases b3 k h1 h2 with g | ⟨g1,g2,g3⟩
  ·exact ⟨i,o.u,by rw [hat,if_pos rfl],g⟩
  ·obtain ⟨j,v,q1,q2⟩ := h.odd k g1 g2
   refine ⟨j,v,?_,q2⟩
   rw [hat,if_neg (fun x => ?_)]
   ·exact q1
   ·subst x
    rw [hi] at q1
    obtain rfl := Option.some.inj q1
    exact g3 q2
theorem WG.step (h : WG c s t cs us M) (hi : us[i]? = some u) (hc : cfgOk c.nd c.lf c.inn c.fl c.bk) (hw : ∀ k,s.inn k → s.w k < 18446744073709551616) (hM : M < 18446744073709551616) (hnd : (s.sl.length : Int) ≤ c.nd) (hsm : cs.length ≤ 31) :
  ∃ t' cs',WG c (u.step s).s t' cs' (us.set i (u.step s).u) (M + 1) ∧ mp t' cs' = (if (u.step s).tk = true ∧ (u.step s).er = 0 then mset u.sep u.val (mp t cs) else mp t cs) ∧ (u.step s).s.nodes = s.nodes ∧ ((u.step s).er = 0 ∨ ((u.step s).er = 3 ∧ u.nx = 0) ∨ ((u.step s).er = 2 ∧ u.nx = 5)) ∧ (Am t cs → Am t' cs') ∧ (u.nx ≠ 14 → Upl cs cs' u.lev.toNat) ∧ Cn u (u.step s) t cs t' cs' := by
 obtain ⟨t',cs',h1,h2,h3,h4,h5,h6,h7,_⟩ := h.stepX hi hc hw hM hnd hsm
 exact ⟨t',cs',h1,h2,h3,h4,h5,h6,h7⟩
theorem UI.new {C : Int → Prop} {key value : List Int} : UI c s t C cs (US.new c key value) M := by
 unfold US.new
 by_cases h : 1 ≤ key.length ∧ key.length ≤ 64 ∧ value.length ≤ 256
 ·rw [if_pos h]
  refine ⟨rfl,by simp,fun _ _ => ⟨h.1,h.2.1⟩,h.2.2,(fun a => by simp at a),(fun a _ => by simp at a),(fun _ => ⟨_,rfl,DI.new _ _⟩),(fun a => by simp at a),(fun a b => by simp at a),(fun a => by simp [US.cln] at a),(fun a => by simp at a),(fun a => by simp at a),(fun a => by simp at a),(fun a => by simp at a),(fun a => by simp at a),(fun a => by simp at a),(fun a => by simp at a),(fun a b => by simp at a),(fun a b => by simp at a),(fun a => by simp at a),(fun a b => by simp at a),(fun a => by simp at a),(fun a b => by simp at a),(fun a b => by simp at a),(fun a b => by simp at a),(fun a => by simp at a),(fun a => by simp at a)⟩
 ·rw [if_neg h]
  refine ⟨rfl,by simp,(fun a => by simp at a),by simp,fun _ => rfl,(fun a _ => by simp at a),(fun a => by simp at a),(fun a => by simp at a),(fun a b => by simp at a),(fun a => by simp [US.cln] at a),(fun a => by simp at a),(fun a => by simp at a),(fun a => by simp at a),(fun a => by simp at a),(fun a => by simp at a),(fun a => by simp at a),(fun a => by simp at a),(fun a b => by simp at a),(fun a b => by simp at a),(fun a => by simp at a),(fun a b => by simp at a),(fun a => by simp at a),(fun a b => by simp at a),(fun a b => by simp at a),(fun a b => by simp at a),(fun a => by simp at a),(fun a => by simp at a)⟩
theorem WG.more {key value : List Int} (h : WG c s t cs us M) : WG c s t cs (us ++ [US.new c key value]) M := by
 have hnx : (US.new c key value).nx = 0 ∨ (US.new c key value).nx = 1 := by
  unfold US.new
  split
  ·exact .inr rfl
  ·exact .inl rfl
 have hlev : (US.new c key value).lev = 0 := by
  unfold US.new
  split <;> rfl
 have hno : ∀ k,¬ (US.new c key value).own k := fun k hk => by
  rcases hk with ⟨⟨a,b⟩,_⟩ | ⟨a,_⟩ | ⟨⟨a,b⟩,_⟩ <;> omega
 have hnq : ∀ k,¬ (US.new c key value).que k := fun k hk => by
  rcases hk with ⟨⟨a,b⟩,_⟩ | ⟨a,_⟩ <;> omega
 have hat : ∀ (j : Nat) (v : US),(us ++ [US.new c key value])[j]? = some v → us[j]? = some v ∨ v = US.new c key value := fun j v hv => by
  rw [List.getElem?_append] at hv
  split at hv
  ·exact .inl hv
  ·rename_i g
   rcases Nat.eq_zero_or_pos (j - us.length) with e | e
   ·rw [e] at hv
    exact .inr (Option.some.inj hv).symm
   ·rw [List.getElem?_eq_none (by simp; omega)] at hv
    cases hv
 have hat' : ∀ (j : Nat) (v : US),us[j]? = some v → (us ++ [US.new c key value])[j]? = some v := fun j v hv => by
  rw [List.getElem?_append_left (List.getElem?_eq_some_iff.1 hv).1]
  exact hv
 have hC : CU (us ++ [US.new c key value]) = CU us := by
  funext k
  refine propext ⟨fun ⟨j,v,g1,g2,g3⟩ => ?_,fun ⟨j,v,g1,g2,g3⟩ => ⟨j,v,hat' j v g1,g2,g3⟩⟩
  rcases hat j v g1 with g | rfl
  ·exact ⟨j,v,g,g2,g3⟩
  ·exact absurd (.inl g2) (hno k)
 refine ⟨by rw [hC]; exact h.vt,fun j v hv => ?_,fun j l v w hv hl' e k => ?_,fun j l v w hv hl' e k => ?_,fun k h1 h2 => ?_⟩
 ·rw [hC]
  rcases hat j v hv with g | rfl
  ·exact h.ui j v g
  ·exact UI.new
 ·rcases hat j v hv with g | rfl
  ·rcases hat l w hl' with g' | rfl
   ·exact h.own j l v w g g' e k
   ·exact fun _ => hno k
  ·exact fun g => absurd g (hno k)
 ·rcases hat j v hv with g | rfl
  ·rcases hat l w hl' with g' | rfl
   ·exact h.que j l v w g g' e k
   ·exact fun _ => hnq k
  ·exact fun g => absurd g (hnq k)
 ·obtain ⟨j,v,q1,q2⟩ := h.odd k h1 h2
  exact ⟨j,v,hat' j v q1,q2⟩
end
theorem countP_strict {p q : Nat → Bool} : ∀ (l : List Nat),(∀ x ∈ l,p x = true → q x = true) → (∃ a ∈ l,p a = false ∧ q a = true) → l.countP p < l.countP q
 | [],_,⟨a,h,_⟩ => by cases h
 | x :: r,h,⟨a,ha,h1,h2⟩ => by
  rw [List.countP_cons,List.countP_cons]
  have hm : r.countP p ≤ r.countP q := List.countP_mono_left (fun y hy => h y (List.mem_cons_of_mem _ hy))
  rcases List.mem_cons.1 ha with e | ha
  ·subst e
   rw [h1,h2]
   simp
   omega
  ·have := countP_strict r (fun y hy => h y (List.mem_cons_of_mem _ hy)) ⟨a,ha,h1,h2⟩
   have hx := h x List.mem_cons_self
   by_cases g : p x = true
   ·rw [g,hx g]; simp; omega
   ·rw [if_neg g]; omega
def behB (cs : List Chn) (id k : Int) : Bool :=
 cs.zipIdx.any fun a => a.1.any fun x => x.1 == id && cs.zipIdx.any fun b => b.1.any fun y => y.1 == k && (decide (a.2 < b.2) || (a.2 == b.2 && decide (cmpI y.2 x.2 < 0)))
theorem beh_iff {cs : List Chn} {id k : Int} : behB cs id k = true ↔ ∃ l low l' low',memL cs l (id,low) ∧ memL cs l' (k,low') ∧ (l < l' ∨ (l = l' ∧ cmpI low' low < 0)) := by
 unfold behB memL
 simp only [List.any_eq_true,Bool.and_eq_true,Bool.or_eq_true,decide_eq_true_eq,beq_iff_eq]
 constructor
 ·rintro ⟨⟨c,l⟩,hc,⟨xi,low⟩,hx,e,⟨d,l'⟩,hd,⟨yi,low'⟩,hy,e',g⟩
  simp only at e e' g hx hy
  subst e e'
  exact ⟨l,low,l',low',⟨c,List.mem_zipIdx_iff_getElem?.1 hc,hx⟩,⟨d,List.mem_zipIdx_iff_getElem?.1 hd,hy⟩,g⟩
 ·rintro ⟨l,low,l',low',⟨c,h1,h2⟩,⟨d,h3,h4⟩,g⟩
  exact ⟨(c,l),List.mem_zipIdx_iff_getElem?.2 h1,(id,low),h2,rfl,(d,l'),List.mem_zipIdx_iff_getElem?.2 h3,(k,low'),h4,rfl,g⟩
def beh (cs : List Chn) (id : Int) : Nat := (List.range 60).countP (fun n => behB cs id ((n : Nat) + 1))
section
variable {s t : AS} {nd lf inn fl bk : Int} {cs cs' : List Chn} {id : Int}
theorem beh_mono (he : Ext cs cs') (id : Int) : beh cs id ≤ beh cs' id := List.countP_mono_left fun n _ h => by
 obtain ⟨l,low,l',low',h1,h2,h3⟩ := beh_iff.1 h
 exact beh_iff.2 ⟨l,low,l',low',he _ _ h1,he _ _ h2,h3⟩
theorem Tre.notSelf (h : Tre t nd lf inn fl bk cs) : behB cs id id = false := by
 cases e : behB cs id id with
 | false => rfl
 | true =>
  obtain ⟨l,low,l',low',h1,h2,h3⟩ := beh_iff.1 e
  obtain ⟨rfl,rfl⟩ := h.uniq h1 h2
  rcases h3 with h3 | ⟨_,h3⟩
  ·omega
  ·rw [cmpI_refl] at h3; omega
theorem Tre.behLt (h : Tre t nd lf inn fl bk cs) (h1 : 1 ≤ id) (h60 : id ≤ 60) : beh cs id < 60 := by
 have := countP_strict (p := fun n => behB cs id ((n : Nat) + 1)) (q := fun _ => true) (List.range 60) (fun _ _ _ => rfl) ⟨(id - 1).toNat,List.mem_range.2 (by omega),by
  show behB cs id (((id - 1).toNat : Nat) + 1) = false
  rw [show (((id - 1).toNat : Nat) + 1 : Int) = id by omega]
  exact h.notSelf,rfl⟩
 rw [List.countP_true,List.length_range] at this
 exact this
theorem Tre.behStep (h : Tre t nd lf inn fl bk cs) {l l' : Nat} {low low' : List Int} {id' : Int} (h1 : 1 ≤ id) (h60 : id ≤ 60) (hm : memL cs l (id,low)) (hm' : memL cs l' (id',low')) (hl : l' < l ∨ (l' = l ∧ cmpI low low' < 0)) : beh cs id < beh cs id' := by
 refine countP_strict _ (fun n _ hn => ?_) ⟨(id - 1).toNat,List.mem_range.2 (by omega),?_,?_⟩
 ·obtain ⟨a,alow,b,blow,g1,g2,g3⟩ := beh_iff.1 hn
  obtain ⟨rfl,rfl⟩ := h.uniq g1 hm
  refine beh_iff.2 ⟨l',low',b,blow,hm',g2,?_⟩
  rcases hl with hl | ⟨rfl,hl⟩
  ·rcases g3 with g3 | ⟨rfl,g3⟩
   ·exact .inl (by omega)
   ·exact .inl hl
  ·rcases g3 with g3 | ⟨rfl,g3⟩
   ·exact .inl g3
   ·exact .inr ⟨rfl,cmp_lt_trans g3 hl⟩
 ·rw [show (((id - 1).toNat : Nat) + 1 : Int) = id by omega]
  exact h.notSelf
 ·rw [show (((id - 1).toNat : Nat) + 1 : Int) = id by omega]
  refine beh_iff.2 ⟨l',low',l,low,hm',hm,?_⟩
  rcases hl with hl | ⟨rfl,hl⟩
  ·exact .inl hl
  ·exact .inr ⟨rfl,hl⟩
theorem Tre.rightW {key low : List Int} {l : Nat} (h : Tre t nd lf inn fl bk cs) (hm : memL cs l (id,low)) (hb : beyB (t.n id).hi key = true) : memL cs l ((t.n id).ri,(t.n id).hi) ∧ cmpI low (t.n id).hi < 0 := by
 unfold beyB at hb
 simp only [Bool.and_eq_true,decide_eq_true_eq] at hb
 obtain ⟨k1,k2,k3⟩ := h.ckk hm
 have f1 := (nchk_more k1).1
 simp only at f1 k2
 have f2 := (nab_to k2 (may_of k1).2.1).2
 have e := cmpI_swap low (t.n id).hi
 refine ⟨h.right hm (fun e => by have := f1.2 e; omega),?_⟩
 rcases f2 with f2 | f2
 ·omega
 ·omega
theorem Tre.downW {key low : List Int} {l : Nat} (h : Tre t nd lf inn fl bk cs) (hm : memL cs l (id,low)) (hl : (t.n id).lv ≠ 0) : ∃ b low',b < l ∧ memL cs b (chiN (t.n id).ks (t.n id).cs key,low') := by
 have hlv := h.lev hm
 obtain ⟨f1,f2,f3,f4,f5⟩ := nchk_more (h.ckk hm).1
 simp only at hlv f1 f2 f3 f4 f5
 obtain ⟨c,h1,h2⟩ := hm
 obtain ⟨b,rfl⟩ : ∃ b,l = b + 1 := ⟨l - 1,by omega⟩
 have hlt : b + 1 < cs.length := (List.getElem?_eq_some_iff.1 h1).1
 obtain ⟨e,he⟩ : ∃ e,cs[b]? = some e := ⟨_,List.getElem?_eq_getElem (by omega)⟩
 have hcs := f3 hl
 have hcl := cntL_le (t.n id).ks key
 have hj : min (cntL (t.n id).ks key) ((t.n id).cs.length - 1) = cntL (t.n id).ks key := by omega
 have hy := h.kid b e c he h1 _ h2 (cntL (t.n id).ks key) (by simp only; omega)
 have hch : chiN (t.n id).ks (t.n id).cs key = (t.kidAt (id,low) (cntL (t.n id).ks key)).1 := by
  unfold chiN AS.kidAt
  rw [if_neg (by omega),hj]
 rw [hch]
 exact ⟨b,_,by omega,⟨e,he,hy⟩⟩
end
def msN (s : AS) (cs : List Chn) (m : MS) : Nat :=
 if m.nx = 0 then 241
 else if m.nx = 1 then 4 * (60 - beh cs m.id)
 else if m.nx ≤ 4 then (if s.w m.id = m.wd then 4 * (60 - beh cs m.id) + 1 - m.nx else 246 - m.nx)
 else 0
section
variable {s t : AS} {C : Int → Prop} {nd lf inn fl bk : Int} {cs : List Chn} {sep : List Int} {lev : Int} {m : MS} {M : Nat}
theorem msN_step (h : DI s t C cs sep lev m M) (hv : VT s t C nd lf inn fl bk cs) (hl : 0 ≤ lev) (hM : M < 18446744073709551616) (h60 : ∀ k,s.inn k → 1 ≤ k ∧ k ≤ 60) :
  1 ≤ msN s cs m ∧ ((m.step s).nx < 5 → msN s cs (m.step s) < msN s cs m ∨ (m.step s = m ∧ m.nx = 1 ∧ s.w m.id % 2 = 1)) ∧ (¬ (m.step s).nx < 5 → (m.step s).id ≠ 0 → s.w (m.step s).id = (m.step s).wd) := by
 obtain ⟨key,lv',nx,id,wd,nd',an,mo⟩ := m
 obtain ⟨k1,k2,h1,hon,ha,hb,hc⟩ := h
 simp only at k1 k2 h1 hon ha hb hc
 subst k1 k2
 have hon2 : ∀ id,OnT cs key id → 1 ≤ id ∧ id ≤ 60 ∧ beh cs id < 60 := fun id ho => by
  have g := h60 id (hv.onInn ho)
  exact ⟨g.1,g.2,hv.tre.behLt g.1 g.2⟩
 match nx,h1 with
 | 0,_ =>
  have e : (MS.step ⟨key,lv',0,id,wd,nd',an,mo⟩ s) = ⟨key,lv',1,s.root,0,NP.zero,an,mo⟩ := rfl
  rw [e]
  refine ⟨by simp [msN],fun _ => .inl ?_,fun h => absurd (show (1 : Nat) < 5 by decide) h⟩
  simp only [msN]
  simp
  omega
 | 1,_ =>
  have ho := hon (Nat.le_refl _)
  have hin := hv.onInn ho
  obtain ⟨_,_,hlt⟩ := hon2 id ho
  refine ⟨by simp only [msN]; simp; omega,?_⟩
  by_cases hw2 : s.w id % 2 = 0
  ·have e : (MS.step ⟨key,lv',1,id,wd,nd',an,mo⟩ s) = ⟨key,lv',2,id,s.w id,nd',an,mo⟩ := by simp only [MS.step,hin,hw2]; simp
   rw [e]
   refine ⟨fun _ => .inl ?_,fun h => absurd (show (2 : Nat) < 5 by decide) h⟩
   simp only [msN]
   simp
   omega
  ·have e : (MS.step ⟨key,lv',1,id,wd,nd',an,mo⟩ s) = ⟨key,lv',1,id,wd,nd',an,mo⟩ := by simp only [MS.step,hin,hw2]; simp
   rw [e]
   exact ⟨fun _ => .inr ⟨rfl,rfl,by simp only; omega⟩,fun h => absurd (show (1 : Nat) < 5 by decide) h⟩
 | 2,_ =>
  have ho := hon (by omega)
  have hin := hv.onInn ho
  obtain ⟨_,_,hlt⟩ := hon2 id ho
  have e : (MS.step ⟨key,lv',2,id,wd,nd',an,mo⟩ s) = ⟨key,lv',3,id,wd,nd'.setH (s.n id).lv (s.n id).hi (s.n id).ri,an,mo⟩ := by simp only [MS.step,hin]; simp
  rw [e]
  refine ⟨?_,fun _ => .inl ?_,fun h => absurd (show (3 : Nat) < 5 by decide) h⟩
  ·simp only [msN]
   simp
   split <;> omega
  ·simp only [msN]
   simp
   split <;> omega
 | 3,_ =>
  have ho := hon (by omega)
  have hin := hv.onInn ho
  obtain ⟨_,_,hlt⟩ := hon2 id ho
  have e : (MS.step ⟨key,lv',3,id,wd,nd',an,mo⟩ s) = ⟨key,lv',4,id,wd,nd'.setB (s.n id).ks (s.n id).vs (s.n id).cs,an,mo⟩ := by simp only [MS.step,hin]; simp
  rw [e]
  refine ⟨?_,fun _ => .inl ?_,fun h => absurd (show (4 : Nat) < 5 by decide) h⟩
  ·simp only [msN]
   simp
   split <;> omega
  ·simp only [msN]
   simp
   split <;> omega
 | 4,_ =>
  have ho := hon (by omega)
  have hin := hv.onInn ho
  obtain ⟨hi1,hi2,hlt⟩ := hon2 id ho
  obtain ⟨n0,g1,g2,g3⟩ := hc rfl
  have hpos : msN s cs ⟨key,lv',4,id,wd,nd',an,mo⟩ = if s.w id = wd then 4 * (60 - beh cs id) - 3 else 242 := by
   simp only [msN]
   simp
  have e : (MS.step ⟨key,lv',4,id,wd,nd',an,mo⟩ s) = (⟨key,lv',4,id,wd,nd',an,mo⟩ : MS).valid (s.w id) := by simp only [MS.step,hin]; simp
  rw [e,hpos]
  refine ⟨by split <;> omega,?_⟩
  unfold MS.valid
  simp only
  by_cases hq : s.w id = wd
  case neg =>
   rw [if_neg hq,if_neg hq]
   exact ⟨fun _ => .inl (by simp [msN]),fun h => absurd (show (0 : Nat) < 5 by decide) h⟩
  rw [if_pos hq,if_pos hq]
  obtain ⟨e1,e2⟩ := g1.now hM hq
  have e3 : nd' = t.n id := by rw [e2,e1]
  obtain ⟨l,low,hm,hlow⟩ := ho
  unfold MS.choose
  simp only
  by_cases c1 : nd'.lv < lv'
  ·rw [if_pos c1]
   exact ⟨fun h => absurd h (by simp [MS.fail]),fun _ h => absurd rfl h⟩
  rw [if_neg c1]
  by_cases c2 : beyB nd'.hi key = true
  ·rw [if_pos c2]
   refine ⟨fun _ => .inl ?_,fun h => absurd (show (1 : Nat) < 5 by decide) h⟩
   rw [e3] at c2
   obtain ⟨q1,q2⟩ := hv.tre.rightW hm c2
   have := hv.tre.behStep hi1 hi2 hm q1 (.inr ⟨rfl,q2⟩)
   rw [← e3] at this
   simp only [msN]
   simp
   omega
  rw [if_neg c2]
  by_cases c3 : nd'.lv = lv'
  ·rw [if_pos c3]
   exact ⟨fun h => absurd h (by simp),fun _ _ => hq⟩
  ·rw [if_neg c3]
   refine ⟨fun _ => .inl ?_,fun h => absurd (show (1 : Nat) < 5 by decide) h⟩
   have hne : (t.n id).lv ≠ 0 := by
    rw [← e3]
    have := hv.tre.lev hm
    simp only at this
    rw [← e3] at this
    omega
   obtain ⟨b,low',q1,q2⟩ := hv.tre.downW (key := key) hm hne
   have := hv.tre.behStep hi1 hi2 hm q2 (.inl q1)
   rw [← e3] at this
   simp only [MS.goTo,msN]
   simp
   omega
end
section
variable {key val : List Int} {A E : List (List Int × List Int)} {x : List Int × List Int}
def Rise (E : List (List Int × List Int)) : Prop := E.Pairwise fun a b => cmpI a.1 b.1 < 0
theorem cmp_tr {a b c : List Int} (h1 : cmpI a b < 0) (h2 : cmpI b c ≤ 0) : cmpI a c < 0 := (cmpI_trans a b c (by omega) h2).2 h1
theorem cmp_tr' {a b c : List Int} (h1 : cmpI a b ≤ 0) (h2 : cmpI b c < 0) : cmpI a c < 0 := by
 rcases Int.lt_or_eq_of_le h1 with g | g
 ·exact cmp_tr g (by omega)
 ·rw [cmpI_zero _ _ g]; exact h2
theorem cmp_sw {a b : List Int} (h : 0 < cmpI a b) : cmpI b a < 0 := by rw [cmpI_swap]; omega
theorem mset_mem : ∀ {E : List (List Int × List Int)},x ∈ mset key val E → x = (key,val) ∨ x ∈ E
 | [],h => .inl (List.mem_singleton.1 h)
 | y :: E,h => by
  rw [mset] at h
  split at h
  ·rcases List.mem_cons.1 h with g | g
   ·exact .inr (by rw [g]; exact List.mem_cons_self)
   ·rcases mset_mem g with g | g
    ·exact .inl g
    ·exact .inr (List.mem_cons_of_mem _ g)
  ·split at h
   ·rcases List.mem_cons.1 h with g | g
    ·exact .inl g
    ·exact .inr (List.mem_cons_of_mem _ g)
   ·rcases List.mem_cons.1 h with g | g
    ·exact .inl g
    ·exact .inr g
theorem mset_rise : ∀ {E : List (List Int × List Int)},Rise E → Rise (mset key val E)
 | [],_ => List.pairwise_singleton _ _
 | y :: E,h => by
  obtain ⟨h1,h2⟩ := List.pairwise_cons.1 h
  rw [mset]
  split
  ·rename_i g
   refine List.pairwise_cons.2 ⟨fun z hz => ?_,mset_rise h2⟩
   rcases mset_mem hz with e | e
   ·rw [e]; exact g
   ·exact h1 z e
  ·rename_i g
   split
   ·rename_i e
    refine List.pairwise_cons.2 ⟨fun z hz => ?_,h2⟩
    show cmpI key z.1 < 0
    rw [← e]; exact h1 z hz
   ·rename_i e
    have hc : cmpI key y.1 < 0 := cmp_sw (by
     have : cmpI y.1 key ≠ 0 := fun q => e (cmpI_zero _ _ q)
     omega)
    refine List.pairwise_cons.2 ⟨fun z hz => ?_,h⟩
    rcases List.mem_cons.1 hz with q | q
    ·rw [q]; exact hc
    ·exact cmp_tr hc (by have := h1 z q; omega)
def hitE (key : List Int) (A : List (List Int × List Int)) : Bool := A.any fun y => decide (0 ≤ cmpI y.1 key)
def outE (key val : List Int) (A : List (List Int × List Int)) : List (List Int × List Int) := if hitE key A = true then mset key val A else A
theorem hit_no (h : hitE key A = false) : ∀ y ∈ A,cmpI y.1 key < 0 := fun y hy => by
 unfold hitE at h
 rw [List.any_eq_false] at h
 have := h y hy
 simp only [decide_eq_true_eq] at this
 omega
theorem hit_snoc : hitE key (A ++ [x]) = (hitE key A || decide (0 ≤ cmpI x.1 key)) := by
 unfold hitE
 rw [List.any_append]
 simp
theorem out_snoc (h : Rise (A ++ [x])) : outE key val (A ++ [x]) = (if 0 ≤ cmpI x.1 key ∧ hitE key A = false then outE key val A ++ [(key,val)] else outE key val A) ++ (if cmpI x.1 key ≠ 0 then [x] else []) := by
 have hA : ∀ y ∈ A,cmpI y.1 x.1 < 0 := fun y hy => (List.pairwise_append.1 h).2.2 y hy x (List.mem_singleton.2 rfl)
 unfold outE
 rw [hit_snoc]
 cases hh : hitE key A with
 | true =>
  rw [if_pos (show (true || decide (0 ≤ cmpI x.1 key)) = true from rfl),if_neg (fun e => by simp at e),if_pos rfl]
  have hx : cmpI key x.1 < 0 := by
   unfold hitE at hh
   obtain ⟨y,hy,g⟩ := List.any_eq_true.1 hh
   have g1 := of_decide_eq_true g
   exact cmp_tr' (by rw [cmpI_swap]; omega) (hA y hy)
  rw [if_pos (by rw [cmpI_swap]; omega)]
  exact mset_top fun z hz => by rw [List.mem_singleton.1 hz]; exact hx
 | false =>
  have hb := hit_no hh
  by_cases hc : 0 ≤ cmpI x.1 key
  ·rw [if_pos (by simp [hc]),if_pos ⟨hc,rfl⟩,if_neg (by simp),mset_app hb,List.append_assoc]
   congr 1
   rw [mset,if_neg (by omega)]
   by_cases e : cmpI x.1 key = 0
   ·rw [if_pos (cmpI_zero _ _ e),if_neg (fun q => q e)]; rfl
   ·rw [if_neg (fun q => e (by rw [q]; exact cmpI_refl _)),if_pos e]; rfl
  ·rw [if_neg (by simp; omega),if_neg (fun q => hc q.1),if_neg (by simp),if_pos (by omega)]
theorem out_end : (if hitE key A = false then outE key val A ++ [(key,val)] else outE key val A) = mset key val A := by
 unfold outE
 cases hh : hitE key A with
 | true => rw [if_neg (by simp),if_pos rfl]
 | false =>
  rw [if_pos rfl,if_neg (by simp)]
  have := mset_app (key := key) (val := val) (B := []) (hit_no hh)
  rw [List.append_nil] at this
  rw [this]; rfl
end
def klow (t : AS) (c : Chn) : List (List Int) := c.flatMap fun x => x.2 :: (t.n x.1).ks
section
variable {s t : AS} {nd lf inn fl bk : Int} {cs : List Chn}
theorem Lk.klow {l : Int} : ∀ (c : Chn) (id : Int) (low : List Int),Lk s id low c → ChnOk s (ckI nd lf inn fl bk) l c → (∀ x ∈ c,∀ k ∈ (s.n x.1).ks,0 < cmpI k x.2) → (klow s c).Pairwise (fun a b => cmpI a b < 0) ∧ ∀ k ∈ klow s c,0 ≤ cmpI k low
 | [],_,_,h,_,_ => h.elim
 | z :: c,id,low,h,hc,ha => by
  have h6 := nchk_more (hc.ck _ List.mem_cons_self)
  have h7 := hc.lies List.mem_cons_self
  have hz := ha _ List.mem_cons_self
  obtain ⟨rfl,h2⟩ := h
  simp only at h6 h7 hz
  have hp : (low :: (s.n id).ks).Pairwise (fun a b => cmpI a b < 0) := List.pairwise_cons.2 ⟨fun k hk => by have := hz k hk; rw [cmpI_swap]; omega,h6.2.2.2.2.rs.pair⟩
  have hlo : ∀ k ∈ low :: (s.n id).ks,0 ≤ cmpI k low := fun k hk => by
   rcases List.mem_cons.1 hk with rfl | hk
   ·rw [cmpI_refl]; decide
   ·have := hz k hk; omega
  unfold Go.Proofs.YtljnapejgjffjaaGreat.klow
  rw [List.flatMap_cons]
  rcases h2 with ⟨_,rfl⟩ | ⟨hri,h4⟩
  ·rw [List.flatMap_nil,List.append_nil]
   exact ⟨hp,hlo⟩
  ·obtain ⟨r1,r2⟩ := Lk.klow c _ _ h4 hc.tail (fun x hx => ha x (.tail _ hx))
   have h8 : 0 < (s.n id).hi.length := Nat.pos_of_ne_zero fun e => hri (h6.1.1 e)
   have h10 : 0 < cmpI (s.n id).hi low := by
    rcases h7.2 with h9 | h9
    ·omega
    ·omega
   refine ⟨List.pairwise_append.2 ⟨hp,r1,fun a ha' b hb => ?_⟩,fun k hk => ?_⟩
   ·have hah : cmpI a (s.n id).hi < 0 := by
     rcases List.mem_cons.1 ha' with rfl | ha'
     ·rw [cmpI_swap]; omega
     ·have h9 := ky_mem h6.2.2.2.2 ha'
      unfold beyB at h9
      simp only [h8,decide_true,Bool.true_and,decide_eq_false_iff_not] at h9
      omega
    exact cmp_lt_ge hah (r2 b hb)
   ·rcases List.mem_append.1 hk with hk | hk
    ·exact hlo k hk
    ·exact cmp_ge_trans (r2 k hk) (by omega)
theorem nodup_sub {α : Type} [DecidableEq α] : ∀ (a b : List α),a.Nodup → (∀ x ∈ a,x ∈ b) → a.length ≤ b.length
 | [],_,_,_ => Nat.zero_le _
 | x :: a,b,hn,hs => by
  rw [List.nodup_cons] at hn
  have h1 := nodup_sub a (b.erase x) hn.2 (fun y hy => (List.mem_erase_of_ne (fun e : y = x => hn.1 (e ▸ hy))).2 (hs y (.tail _ hy)))
  have hx := hs x (.head _)
  have h2 := List.length_pos_of_mem hx
  rw [List.length_erase_of_mem hx] at h1
  rw [List.length_cons]
  omega
theorem Am.half (h : Tre s nd lf inn fl bk cs) (ha : Am s cs) {l : Nat} {c d : Chn} (hc : cs[l]? = some c) (hd : cs[l + 1]? = some d) : 2 * d.length ≤ c.length := by
 obtain ⟨i,hl⟩ := h.lk _ d hd
 have hok := h.ok _ d hd
 have ha' : ∀ x ∈ d,2 ≤ (s.n x.1).cs.length ∧ ∀ k ∈ (s.n x.1).ks,0 < cmpI k x.2 := fun x hx => ha l x ⟨d,hd,hx⟩
 have h1 := (Lk.klow d i [] hl hok (fun x hx => (ha' x hx).2)).1
 have hcs : ∀ x ∈ d,(s.n x.1).cs.length = (s.n x.1).ks.length + 1 := fun x hx => (nchk_more (hok.ck x hx)).2.2.1 (by have := hok.lv x hx; omega)
 have h2 : 2 * d.length ≤ (klow s d).length := by
  unfold klow
  clear h1 hl hok hd
  revert ha' hcs
  induction d with
  | nil => intro _ _; simp
  | cons x d ih =>
   intro ha' hcs
   rw [List.flatMap_cons,List.length_append,List.length_cons,List.length_cons]
   have := ih (fun x hx => ha' x (.tail _ hx)) (fun x hx => hcs x (.tail _ hx))
   have e1 := hcs x (.head _)
   have e2 := (ha' x (.head _)).1
   omega
 have h3 := nodup_sub (klow s d) (c.map (·.2)) (h1.imp (fun hab => cmp_ne hab)) (fun a hm => by
  unfold klow at hm
  obtain ⟨x,hx,hm⟩ := List.mem_flatMap.1 hm
  have hk := h.kid l c d hc hd x hx
  have e1 := hcs x hx
  have e2 := (ha' x hx).1
  rcases List.mem_cons.1 hm with e | hm
  ·rw [e]
   exact List.mem_map.2 ⟨_,hk 0 (by omega),rfl⟩
  ·obtain ⟨j,hj,rfl⟩ := List.getElem_of_mem hm
   refine List.mem_map.2 ⟨_,hk (j + 1) (by omega),?_⟩
   unfold AS.kidAt
   simp [hj])
 rw [List.length_map] at h3
 omega
theorem cntC_app (a b : List Chn) : cntC (a ++ b) = cntC a + cntC b := by
 induction a with
 | nil => simp [cntC,idsOf]
 | cons c a ih => rw [List.cons_append,cntC_cons,cntC_cons,ih,Nat.add_assoc]
theorem cntC_rev (a : List Chn) : cntC a.reverse = cntC a := by
 induction a with
 | nil => rfl
 | cons c a ih =>
  rw [List.reverse_cons,cntC_app,ih,cntC_cons,cntC_cons]
  simp [cntC,idsOf]
  omega
theorem Am.pow (h : Tre s nd lf inn fl bk cs) (ha : Am s cs) : ∀ (n l : Nat) (c : Chn),cs.length = l + n + 1 → cs[l]? = some c → 2 ^ n ≤ c.length
 | 0,l,c,_,hc => by
  obtain ⟨i,hi⟩ := h.lk l c hc
  exact List.length_pos_iff.2 hi.ne
 | n + 1,l,c,hn,hc => by
  have hl : l + 1 < cs.length := by omega
  have hd : cs[l + 1]? = some cs[l + 1] := List.getElem?_eq_getElem hl
  have h1 := ha.half h hc hd
  have h2 := Am.pow h ha n (l + 1) _ (by omega) hd
  rw [Nat.pow_succ]
  omega
theorem Tre.cnt (h : Tre s nd lf inn fl bk cs) : cntC cs ≤ s.sl.length := by
 have hm := Tre.met h cs.length (Nat.le_refl _)
 rw [List.take_length] at hm
 have hl := (Met.len ⟨hm.1,fun x hx => (hm.2 x hx).1⟩ : (idsOf cs.reverse).length ≤ s.sl.length)
 rw [← cntC_rev]
 exact hl
theorem Am.few (h : Tre s nd lf inn fl bk cs) (ha : Am s cs) (hs : s.sl.length ≤ 1000) : cs.length ≤ 10 := by
 refine Nat.le_of_not_lt fun hc => ?_
 obtain ⟨n,hn⟩ : ∃ n,cs.length = 0 + n + 1 := ⟨cs.length - 1,by omega⟩
 have h0 : cs[0]? = some cs[0] := List.getElem?_eq_getElem (by omega)
 have h1 := Am.pow h ha n 0 _ hn h0
 have h2 := h.cnt
 have h3 : cs[0].length ≤ cntC cs := by
  have : cs = cs[0] :: cs.drop 1 := by
   have := List.drop_eq_getElem_cons (l := cs) (i := 0) (by omega)
   rwa [List.drop_zero] at this
  have e := congrArg cntC this
  rw [cntC_cons] at e
  omega
 have h4 : 2 ^ 10 ≤ 2 ^ n := Nat.pow_le_pow_right (by decide) (by omega)
 have h5 : (2 : Nat) ^ 10 = 1024 := by decide
 omega
end
end Go.Proofs.YtljnapejgjffjaaGreat
