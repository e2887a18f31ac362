/- Texts of one's own. -/
import Derived.Test.YtggaipeojncipaaGreatJ38
namespace Go.Proofs.YtggaipeojncipaaGreat
open Go.RowKit
set_option maxRecDepth 100000
section
variable {c : Cfg} {s s0 t : AS} {cs : List Chn} {u : US} {key val : List Int} {k : List Int × List Int} {E E0 : List (List Int × List Int)} {M n : Nat}
theorem no_odd (h : ¬ (3 ≤ u.nx ∧ u.nx ≤ 8)) (h2 : ¬ (11 ≤ u.nx ∧ u.nx ≤ 13)) : ∀ k,¬ u.odd k := fun k ho => by
 rcases ho with ⟨a,_⟩ | ⟨a,_⟩ | ⟨a,_⟩ <;> omega
theorem WA.und8 (h : WA c s t cs u k E M) : u.und ≤ 8 := by
 by_cases g : u.nx = 7
 ·have := h.ui.pc g
  rw [show u.und = undN 7 u.pc from by unfold US.und; rw [g]]
  show 2 + u.pc.toNat ≤ 8
  omega
 ·unfold US.und undN
  split
  case h_5 e => exact absurd e g
  all_goals omega
theorem und_eq {v : US} {x : Nat} (h : v.nx = x) : v.und = undN x v.pc := by
 unfold US.und
 rw [h]
theorem WA.und (h : WA c s t cs u k E M) (hM : M < 4611686018427387904) (h15 : u.nx < 15) : (∀ k,¬ (u.step s).u.odd k) ∨ u.und + 1 ≤ (u.step s).u.und := by
 have hpc := h.ui.pc
 by_cases g0 : u.nx = 0
 ·have : (u.step s).u.nx = 15 := (us_facts u s h15).2.2.2.2.2.1 g0
  exact .inl (no_odd (by omega) (by omega))
 by_cases g5 : u.nx = 5
 ·have := step_five (s := s) g5
  exact .inl (no_odd (by omega) (by omega))
 obtain ⟨es,er⟩ := h.stepE hM g0 g5 h15
 rw [es]
 have hcase : u.nx = 1 ∨ u.nx = 2 ∨ u.nx = 3 ∨ u.nx = 4 ∨ u.nx = 6 ∨ u.nx = 7 ∨ u.nx = 8 ∨ u.nx = 9 ∨ u.nx = 10 ∨ u.nx = 11 ∨ u.nx = 12 ∨ u.nx = 13 ∨ u.nx = 14 := by omega
 rcases hcase with g | g | g | g | g | g | g | g | g | g | g | g | g
 ·left
  have ea := act_one (s := s) g
  rw [ea]
  repeat' split
  all_goals exact no_odd (by simp only; omega) (by simp only; omega)
 ·have ea := act_twoS (s := s) g
  rw [ea]
  split
  ·right
   have := (fate_nx ({ u with hid := u.m.id } : US) u.m.nd).2
   rw [und_eq g]
   rcases this with e | e | e <;> (rw [und_eq e]; simp only [undN]; omega)
  ·exact .inl (no_odd (by unfold US.down; simp only; omega) (by unfold US.down; simp only; omega))
 ·right
  rw [act_three g,und_eq g]
  exact Nat.le_refl 2
 ·left
  rw [act_four g]
  exact no_odd (by simp only; omega) (by simp only; omega)
 ·right
  rcases (act_six (s := s) g).2 with ⟨e,e2⟩ | e
  ·rw [und_eq g,und_eq e,e2]; exact Nat.le_refl 2
  ·rw [und_eq g,und_eq e]; simp only [undN]; omega
 ·right
  have hp := hpc g
  rw [und_eq g]
  by_cases h4 : u.pc = 4
  ·rw [(act_seven (s := s) g).2 h4]
   show 2 + u.pc.toNat + 1 ≤ 7
   omega
  ·rw [(act_seven (s := s) g).1 h4]
   have e : ({ u with pc := u.pc + 1 } : US).nx = 7 := g
   rw [und_eq e]
   show 2 + u.pc.toNat + 1 ≤ 2 + (u.pc + 1).toNat
   omega
 ·left
  rw [act_eight g]
  exact no_odd (by unfold US.down; simp only; omega) (by unfold US.down; simp only; omega)
 ·left
  rw [act_nine g]
  exact no_odd (by simp only; split <;> omega) (by simp only; split <;> omega)
 ·rcases (act_ten (s := s) g).2 with ⟨e,_⟩ | e
  ·right
   rw [und_eq g,und_eq e]; simp only [undN]; omega
  ·exact .inl (no_odd (by omega) (by omega))
 ·right
  rw [(act_e (s := s) g).1,und_eq g]
  exact Nat.le_refl 2
 ·right
  rw [(act_t (s := s) g).1,und_eq g]
  exact Nat.le_refl 3
 ·left
  rw [(act_f (s := s) g).1]
  exact no_odd (by simp only; omega) (by simp only; omega)
 ·left
  unfold US.act
  rw [g]
  simp only
  split
  ·exact no_odd (by simp only; omega) (by simp only; omega)
  ·exact no_odd (by unfold US.down; simp only; omega) (by unfold US.down; simp only; omega)
def WB (c : Cfg) (s : AS) (E : List (List Int × List Int)) (M : Nat) : Prop := ∃ t cs,WG c s t cs [] M ∧ mp t cs = E ∧ Am t cs ∧ SB s ∧ WL s ∧ s.nodes = c.nd ∧ cfgOk c.nd c.lf c.inn c.fl c.bk ∧ c.nd ≤ 60
theorem WB.new (hc : cfgOk c.nd c.lf c.inn c.fl c.bk ∧ c.nd ≤ 60) : WB c (AS.new c.nd) [] 0 := by
 refine ⟨_,_,wg_new hc.1,rfl,fun l x hm => ?_,SB.new hc.1.1.1,fun x hx => ?_,rfl,hc⟩
 ·obtain ⟨d,h1,_⟩ := hm
  simp at h1
 ·have : x = (0,NP.zero) := by simpa [AS.new] using hx
  rw [this]; decide
theorem WB.put (h : WB c s E M) (key val : List Int) : ∃ t cs,WA c s t cs (US.new c key val) (key,val) E M := by
 obtain ⟨t,cs,h1,h2,h3,h4,h5,h6,h7⟩ := h
 exact ⟨t,cs,h1.more,h2,h3,h4,h5,UB.new,KV.new,h6,h7⟩
theorem WB.even (h : WB c s E M) : s.held = [] := by
 obtain ⟨t,cs,h1,_⟩ := h
 refine even_held fun id hi => Decidable.byContradiction fun hc => ?_
 obtain ⟨i,v,h2,_⟩ := h1.odd id hi (by omega)
 simp at h2
theorem WB.look (h : WB c s E M) : (∃ ls,s.look c.nd c.lf c.inn c.fl c.bk = .inr ls) ∧ s.map = E := by
 have hh := h.even
 obtain ⟨t,cs,h1,h2,h3,h4,h5,h6,h7⟩ := h
 obtain ⟨a,b⟩ := h1.vt.look h7.1 hh
 exact ⟨⟨_,a⟩,b.trans h2⟩
theorem WA.done (h : WA c s t cs u k E M) (hx : 15 ≤ u.nx) : WB c s E M := by
 have hno : ∀ k,¬ u.hol k := fun k g => by have := g.1; omega
 have hC : (CU [u]) = (CU []) := by
  funext k
  refine propext ⟨fun g => ?_,fun g => ?_⟩
  ·obtain ⟨i,v,h1,h2,_⟩ := g
   cases i with
   | zero =>
    obtain rfl := Option.some.inj h1
    exact absurd h2 (hno k)
   | succ i => simp at h1
  ·obtain ⟨i,v,h1,_⟩ := g
   simp at h1
 refine ⟨t,cs,⟨by rw [← hC]; exact h.g.vt,fun i v hv => by simp at hv,fun i j v w hv => by simp at hv,fun i j v w hv => by simp at hv,fun k h1 h2 => ?_⟩,h.mp,h.am,h.sb,h.wl,h.nod,h.cfg⟩
 have := h.even (no_odd (by omega) (by omega)) k h1
 omega
end
end Go.Proofs.YtggaipeojncipaaGreat
