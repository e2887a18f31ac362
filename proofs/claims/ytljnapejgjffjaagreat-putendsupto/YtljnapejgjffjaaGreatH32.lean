/- Texts of one's own. -/
import Derived.Test.YtljnapejgjffjaaGreatH31
import Derived.Test.YtljnapejgjffjaaGreatH30
import Derived.Test.YtljnapejgjffjaaGreatH19
namespace Go.Proofs.YtljnapejgjffjaaGreat
open Go.RowKit
set_option maxRecDepth 100000
structure RMS where
 key : List Int
 lev : Int
 nx : Nat
 id : Int
 wd : Nat
 nd : NP
 th : Bool
 an : Nat
 mo : Nat
def RMS.new (key : List Int) (lev : Int) : RMS := ⟨key,lev,0,0,0,NP.zero,false,0,0⟩
def RMS.decide (m : RMS) (x : Nat) : RMS :=
 if ¬ x = m.wd then ⟨m.key,m.lev,0,m.id,m.wd,m.nd,m.th,m.an + 1,m.mo⟩
 else if m.nd.lv < m.lev then ⟨m.key,m.lev,5,m.id,m.wd,m.nd,m.th,m.an,m.mo⟩
 else if beyB m.nd.hi m.key = true then ⟨m.key,m.lev,1,m.nd.ri,m.wd,m.nd,m.th,m.an,m.mo + 1⟩
 else if m.nd.lv = m.lev then ⟨m.key,m.lev,5,m.id,m.wd,m.nd,true,m.an,m.mo⟩
 else ⟨m.key,m.lev,1,chiN m.nd.ks m.nd.cs m.key,m.wd,m.nd,m.th,m.an,m.mo⟩
def RMS.step (m : RMS) (s : AS) : RMS :=
 if m.nx = 0 then ⟨m.key,m.lev,1,s.root,m.wd,m.nd,m.th,m.an,m.mo⟩
 else if m.nx = 1 then
  if ¬ s.inn m.id then ⟨m.key,m.lev,5,m.id,0,m.nd,m.th,m.an,m.mo⟩
  else if s.w m.id % 2 = 0 then ⟨m.key,m.lev,2,m.id,s.w m.id,m.nd,m.th,m.an,m.mo⟩ else ⟨m.key,m.lev,1,m.id,s.w m.id,m.nd,m.th,m.an,m.mo⟩
 else if m.nx = 2 then
  if ¬ s.inn m.id then ⟨m.key,m.lev,5,m.id,m.wd,m.nd.setH (s.rd m.id).lv (s.rd m.id).hi (s.rd m.id).ri,m.th,m.an,m.mo⟩ else ⟨m.key,m.lev,3,m.id,m.wd,m.nd.setH (s.rd m.id).lv (s.rd m.id).hi (s.rd m.id).ri,m.th,m.an,m.mo⟩
 else if m.nx = 3 then
  if ¬ s.inn m.id then ⟨m.key,m.lev,5,m.id,m.wd,m.nd.setB (s.rd m.id).ks (s.rd m.id).vs (s.rd m.id).cs,m.th,m.an,m.mo⟩ else ⟨m.key,m.lev,4,m.id,m.wd,m.nd.setB (s.rd m.id).ks (s.rd m.id).vs (s.rd m.id).cs,m.th,m.an,m.mo⟩
 else if m.nx = 4 then
  if ¬ s.inn m.id then ⟨m.key,m.lev,5,m.id,m.wd,m.nd,m.th,m.an,m.mo⟩ else m.decide (s.w m.id)
 else m
def rcel (A : Nat) (k : Tx) (n : Nd) (m : RMS) : Array Value :=
 #[.pointer (some ⟨A,0,none⟩),k.v,.int .i64 m.lev,.int .i64 (m.nx : Nat),.int .i64 m.id,.int .u64 (m.wd : Nat),.int .i64 n.lv,n.hi.v,.int .i64 n.ri,n.ks.v,n.vs.v,n.cs.v,.bool m.th,.int .i64 (m.an : Nat),.int .i64 (m.mo : Nat)]
structure RM (W : World) (P A : Nat) (k : Tx) (n : Nd) (D : Nat → Prop) (m : RMS) : Prop where
 c : W.heap[P]? = some (.cells (rcel A k n m) 184 (0,0))
 np : n.p = m.nd
 no : n.Ok W
 ni : n.In D
 ko : k.Ok W
 ks : k.s = m.key
 ki : ∀ x,k.a = some x → 0 < k.s.length → D x.block
 pd : ¬ D P
 lt : ∀ x,D x → x < W.heap.size
 nx : m.nx ≤ 5
section
variable {W w' : World} {P A : Nat} {k : Tx} {n n' : Nd} {D F : Nat → Prop} {m m' : RMS} {s : AS}
theorem RM.upd {S : Nat → Prop} (h : RM W P A k n D m) (hu : Upd S W w') (hs : ∀ x,x = P ∨ D x → ¬ S x) : RM w' P A k n D m :=
 ⟨hu.heap h.c (hs P (.inl rfl)),h.np,h.no.upd h.ni hu (fun x hx => hs x (.inr hx)),h.ni,h.ko.updL hu (fun x e l => hs _ (.inr (h.ki x e l))),h.ks,h.ki,h.pd,fun x hx => Nat.lt_of_lt_of_le (h.lt x hx) hu.size,h.nx⟩
end
section
variable {W w' : World} {P A : Nat} {k : Tx} {n : Nd} {D F : Nat → Prop} {m : RMS} {s : AS}
end
structure Sim (m : MS) (r : RMS) : Prop where
 key : r.key = m.key
 lev : r.lev = m.lev
 an : r.an = m.an
 mo : r.mo = m.mo
 nx : r.nx = min m.nx 5
 le : m.nx ≤ 6
 th : r.th = decide (m.nx = 5)
 id : 1 ≤ m.nx → m.nx ≤ 5 → r.id = m.id
 wd : 2 ≤ m.nx → m.nx ≤ 5 → r.wd = m.wd
 hd : m.nx = 3 → r.nd.lv = m.nd.lv ∧ r.nd.hi = m.nd.hi ∧ r.nd.ri = m.nd.ri
 nd : 4 ≤ m.nx → m.nx ≤ 5 → r.nd = m.nd
 no : m.nx = 6 → m.id = 0 ∧ m.wd = 0 ∧ m.nd = NP.zero
theorem Sim.new (key : List Int) (lev : Int) : Sim (MS.new key lev) (RMS.new key lev) :=
 ⟨rfl,rfl,rfl,rfl,rfl,by simp [MS.new],rfl,by simp [MS.new],by simp [MS.new],by simp [MS.new],by simp [MS.new],by simp [MS.new]⟩
theorem Sim.step {m : MS} {r : RMS} (h : Sim m r) (s : AS) : Sim (m.step s) (r.step s) := by
 obtain ⟨key,lev,nx,id,wd,nd,an,mo⟩ := m
 obtain ⟨key',lev',nx',id',wd',nd',th',an',mo'⟩ := r
 obtain ⟨h1,h2,h3,h4,h5,h6,h7,h8,h9,h10,h11,h12⟩ := h
 simp only at h1 h2 h3 h4 h5 h6 h7 h8 h9 h10 h11 h12
 subst h1 h2 h3 h4 h5 h7
 match nx,h6 with
 | 0,_ => exact ⟨rfl,rfl,rfl,rfl,rfl,by simp [MS.step,MS.goTo],rfl,fun _ _ => rfl,by simp [MS.step,MS.goTo],by simp [MS.step,MS.goTo],by simp [MS.step,MS.goTo],by simp [MS.step,MS.goTo]⟩
 | 5,_ => simp only [MS.step,RMS.step]; simp; exact ⟨rfl,rfl,rfl,rfl,rfl,by simp,rfl,h8,h9,h10,h11,h12⟩
 | 6,_ => simp only [MS.step,RMS.step]; simp; exact ⟨rfl,rfl,rfl,rfl,rfl,by simp,rfl,by simp,by simp,by simp,by simp,h12⟩
 | 1,_ =>
  obtain rfl := h8 (by omega) (by omega)
  simp only [MS.step,RMS.step]
  simp
  by_cases hin : s.inn id'
  ·simp only [hin,if_true]
   by_cases ho : s.w id' % 2 = 0
   ·simp only [ho,if_true]
    exact ⟨rfl,rfl,rfl,rfl,rfl,by simp,rfl,fun _ _ => rfl,fun _ _ => rfl,by simp,by simp,by simp⟩
   ·simp only [ho,if_false]
    exact ⟨rfl,rfl,rfl,rfl,rfl,by simp,rfl,fun _ _ => rfl,by simp,by simp,by simp,by simp⟩
  ·simp only [hin,if_false]
   exact ⟨rfl,rfl,rfl,rfl,rfl,by simp [MS.fail],rfl,by simp [MS.fail],by simp [MS.fail],by simp [MS.fail],by simp [MS.fail],fun _ => ⟨rfl,rfl,rfl⟩⟩
 | 2,_ =>
  obtain rfl := h8 (by omega) (by omega)
  obtain rfl := h9 (by omega) (by omega)
  simp only [MS.step,RMS.step]
  simp
  by_cases hin : s.inn id'
  ·simp only [hin,if_true,show s.rd id' = s.n id' from if_pos hin]
   exact ⟨rfl,rfl,rfl,rfl,rfl,by simp,rfl,fun _ _ => rfl,fun _ _ => rfl,fun _ => ⟨rfl,rfl,rfl⟩,by simp,by simp⟩
  ·simp only [hin,if_false]
   exact ⟨rfl,rfl,rfl,rfl,rfl,by simp [MS.fail],rfl,by simp [MS.fail],by simp [MS.fail],by simp [MS.fail],by simp [MS.fail],fun _ => ⟨rfl,rfl,rfl⟩⟩
 | 3,_ =>
  obtain rfl := h8 (by omega) (by omega)
  obtain rfl := h9 (by omega) (by omega)
  obtain ⟨g1,g2,g3⟩ := h10 rfl
  simp only [MS.step,RMS.step]
  simp
  by_cases hin : s.inn id'
  ·simp only [hin,if_true,show s.rd id' = s.n id' from if_pos hin]
   refine ⟨rfl,rfl,rfl,rfl,rfl,by simp,rfl,fun _ _ => rfl,fun _ _ => rfl,by simp,fun _ _ => ?_,by simp⟩
   simp only [NP.setB,g1,g2,g3]
  ·simp only [hin,if_false]
   exact ⟨rfl,rfl,rfl,rfl,rfl,by simp [MS.fail],rfl,by simp [MS.fail],by simp [MS.fail],by simp [MS.fail],by simp [MS.fail],fun _ => ⟨rfl,rfl,rfl⟩⟩
 | 4,_ =>
  obtain rfl := h8 (by omega) (by omega)
  obtain rfl := h9 (by omega) (by omega)
  obtain rfl := h11 (by omega) (by omega)
  simp only [MS.step,RMS.step]
  simp
  by_cases hin : s.inn id'
  ·simp only [hin,if_true]
   unfold MS.valid RMS.decide
   simp only
   by_cases hw : s.w id' = wd'
   ·rw [if_pos hw,if_neg (fun e => e hw)]
    unfold MS.choose
    simp only
    by_cases c1 : nd'.lv < lev'
    ·rw [if_pos c1,if_pos c1]
     exact ⟨rfl,rfl,rfl,rfl,rfl,by simp [MS.fail],rfl,by simp [MS.fail],by simp [MS.fail],by simp [MS.fail],by simp [MS.fail],fun _ => ⟨rfl,rfl,rfl⟩⟩
    rw [if_neg c1,if_neg c1]
    by_cases c2 : beyB nd'.hi key' = true
    ·rw [if_pos c2,if_pos c2]
     exact ⟨rfl,rfl,rfl,rfl,rfl,by simp,rfl,fun _ _ => rfl,by simp,by simp,by simp,by simp⟩
    rw [if_neg c2,if_neg c2]
    by_cases c3 : nd'.lv = lev'
    ·rw [if_pos c3,if_pos c3]
     exact ⟨rfl,rfl,rfl,rfl,rfl,by simp,rfl,fun _ _ => rfl,fun _ _ => rfl,by simp,fun _ _ => rfl,by simp⟩
    ·rw [if_neg c3,if_neg c3]
     exact ⟨rfl,rfl,rfl,rfl,rfl,by simp [MS.goTo],rfl,fun _ _ => rfl,by simp [MS.goTo],by simp [MS.goTo],by simp [MS.goTo],by simp [MS.goTo]⟩
   ·rw [if_neg hw,if_pos hw]
    exact ⟨rfl,rfl,rfl,rfl,rfl,by simp,rfl,by simp,by simp,by simp,by simp,by simp⟩
  ·simp only [hin,if_false]
   exact ⟨rfl,rfl,rfl,rfl,rfl,by simp [MS.fail],rfl,by simp [MS.fail],by simp [MS.fail],by simp [MS.fail],by simp [MS.fail],fun _ => ⟨rfl,rfl,rfl⟩⟩
structure Cfg where
 nd : Int
 lf : Int
 inn : Int
 fl : Int
 bk : Int
def Cfg.v (c : Cfg) : Value := .agg #[.int .i64 c.nd,.int .i64 c.lf,.int .i64 c.inn,.int .i64 c.fl,.int .i64 c.bk]
structure US where
 cf : Cfg
 val : List Int
 nx : Nat
 lev : Int
 sep : List Int
 way : Option MS
 hid : Int
 hn : NP
 fid : Int
 fn : NP
 bet : List Int
 pc : Int
 lft : Int
 rgt : Int
 top : Int
 had : Bool
 err : Int
structure UO where
 u : US
 s : AS
 tk : Bool
 er : Int
def NP.over (p : NP) (c : Cfg) : Bool := decide (if p.lv = 0 then c.lf < (p.ks.length : Int) else c.inn < (p.cs.length : Int))
def NP.cut1 (p : NP) (r : Int) : NP := if p.wd < 2 then p else p.one r
def NP.cut2 (p : NP) : NP := if p.wd < 2 then NP.zero else p.two
def NP.cut3 (p : NP) : List Int := if p.wd < 2 then [] else p.bet
def US.down (u : US) : US := { u with way := some (MS.new u.sep u.lev),nx := 1 }
def US.m (u : US) : MS := u.way.getD (MS.new [] 0)
def US.fate (u : US) (n : NP) : US :=
 if u.lev = 0 then { u with had := isIn n.ks u.sep,hn := n.with_ u.sep u.val,nx := if (n.with_ u.sep u.val).over u.cf then 6 else 3 }
 else if isIn n.ks u.sep then { u with nx := 5 }
 else { u with hn := n.joined u.sep u.rgt,nx := if (n.joined u.sep u.rgt).over u.cf then 6 else 3 }
def US.act (u : US) (s : AS) : UO :=
 match u.nx with
 | 0 => ⟨u,s,true,3⟩
 | 1 =>
  let m' := u.m.step s
  let u1 := { u with way := some m' }
  if m'.nx < 5 then ⟨u1,s,false,0⟩
  else if m'.id ≠ 0 then ⟨{ u1 with nx := 2 },s,false,0⟩
  else if u.lev = 0 then ⟨u1,s,false,101⟩
  else ⟨{ u1 with nx := 9 },s,false,0⟩
 | 2 =>
  if s.lockB u.m.id u.m.wd then ⟨{ u with hid := u.m.id }.fate u.m.nd,s.lockS u.m.id u.m.wd,false,0⟩
  else ⟨u.down,s,false,s.wordE u.m.id⟩
 | 3 => ⟨{ u with nx := 4 },s.bodS u.hid u.hn.ks u.hn.vs u.hn.cs,false,s.unlE u.hid⟩
 | 4 => ⟨{ u with nx := 15 },s.unlS u.hid true,decide (s.unlE u.hid = 0 ∧ u.lev = 0),s.unlE u.hid⟩
 | 5 =>
  if s.unlE u.hid = 0 ∧ u.lev = 0 then ⟨{ u with nx := 15 },s.unlS u.hid false,true,2⟩
  else ⟨{ u with nx := 15 },s.unlS u.hid false,false,s.unlE u.hid⟩
 | 6 =>
  if s.allE = 0 then ⟨{ u with hn := u.hn.cut1 s.allI,fid := s.allI,fn := u.hn.cut2,bet := u.hn.cut3,pc := 0,nx := 7 },s.allS,false,0⟩
  else ⟨{ u with nx := 5 },s.allS,false,0⟩
 | 7 =>
  let u1 := { u with pc := u.pc + 1 }
  if u.pc = 0 then ⟨u1,s.hedS u.fid u.fn.lv u.fn.hi u.fn.ri,false,s.unlE u.fid⟩
  else if u.pc = 1 then ⟨u1,s.bodS u.fid u.fn.ks u.fn.vs u.fn.cs,false,s.unlE u.fid⟩
  else if u.pc = 3 then ⟨u1,s.hedS u.hid u.hn.lv u.hn.hi u.hn.ri,false,s.unlE u.hid⟩
  else if u.pc = 4 then ⟨{ u1 with nx := 8 },s.bodS u.hid u.hn.ks u.hn.vs u.hn.cs,false,s.unlE u.hid⟩
  else ⟨u1,s.unlS u.fid true,false,s.unlE u.fid⟩
 | 8 => ⟨{ u with lft := u.hid,rgt := u.fid,sep := u.bet,lev := u.lev + 1 }.down,s.unlS u.hid true,decide (s.unlE u.hid = 0 ∧ u.lev = 0),s.unlE u.hid⟩
 | 9 => ⟨{ u with nx := if s.root = u.lft then 10 else 15 },s,false,0⟩
 | 10 => if s.allE = 0 then ⟨{ u with top := s.allI,nx := 11 },s.allS,false,0⟩ else ⟨{ u with nx := 15 },s.allS,false,0⟩
 | 11 => ⟨{ u with nx := 12 },s.hedS u.top u.lev [] 0,false,s.unlE u.top⟩
 | 12 => ⟨{ u with nx := 13 },s.bodS u.top [u.sep] [] [u.lft,u.rgt],false,s.unlE u.top⟩
 | 13 => ⟨{ u with nx := 14 },s.unlS u.top true,false,s.unlE u.top⟩
 | 14 => if s.groB u.lft u.top then ⟨{ u with nx := 15 },s.groS u.lft u.top,false,s.wordE u.top⟩ else ⟨u.down,s,false,s.wordE u.top⟩
 | _ + 15 => ⟨u,s,false,0⟩
def US.step (u : US) (s : AS) : UO :=
 if 15 ≤ u.nx then ⟨u,s,false,0⟩
 else if (u.act s).er = 0 then u.act s
 else ⟨{ (u.act s).u with nx := 15,err := (u.act s).er },(u.act s).s,(u.act s).tk,(u.act s).er⟩
def US.new (c : Cfg) (key value : List Int) : US :=
 if 1 ≤ key.length ∧ key.length ≤ 64 ∧ value.length ≤ 256 then ⟨c,value,1,0,key,some (MS.new key 0),0,NP.zero,0,NP.zero,[],0,0,0,0,false,0⟩
 else ⟨c,[],0,0,[],none,0,NP.zero,0,NP.zero,[],0,0,0,0,false,0⟩
def uxV (P : Nat) : Nat → Value
 | 0 => .func (.func 49) #[.pointer (some ⟨P,0,none⟩)] #[]
 | 1 => .func (.func 87) #[.pointer (some ⟨P,0,none⟩)] #[]
 | 2 => .func (.func 117) #[.pointer (some ⟨P,0,none⟩)] #[]
 | 3 => .func (.func 168) #[.pointer (some ⟨P,0,none⟩)] #[]
 | 4 => .func (.func 189) #[.pointer (some ⟨P,0,none⟩)] #[]
 | 5 => .func (.func 166) #[.pointer (some ⟨P,0,none⟩)] #[]
 | 6 => .func (.func 169) #[.pointer (some ⟨P,0,none⟩)] #[]
 | 7 => .func (.func 191) #[.pointer (some ⟨P,0,none⟩)] #[]
 | 8 => .func (.func 205) #[.pointer (some ⟨P,0,none⟩)] #[]
 | 9 => .func (.func 118) #[.pointer (some ⟨P,0,none⟩)] #[]
 | 10 => .func (.func 144) #[.pointer (some ⟨P,0,none⟩)] #[]
 | 11 => .func (.func 171) #[.pointer (some ⟨P,0,none⟩)] #[]
 | 12 => .func (.func 192) #[.pointer (some ⟨P,0,none⟩)] #[]
 | 13 => .func (.func 206) #[.pointer (some ⟨P,0,none⟩)] #[]
 | 14 => .func (.func 210) #[.pointer (some ⟨P,0,none⟩)] #[]
 | _ + 15 => .nilFunc
structure UM where
 vt : Tx
 st : Tx
 bt : Tx
 hn : Nd
 fn : Nd
 pw : Option Nat
def pwV : Option Nat → Value
 | none => .pointer none
 | some p => .pointer (some ⟨p,0,none⟩)
def ucel (P A : Nat) (m : UM) (u : US) : Array Value :=
 #[.pointer (some ⟨A,0,none⟩),.int .i64 u.cf.nd,.int .i64 u.cf.lf,.int .i64 u.cf.inn,.int .i64 u.cf.fl,.int .i64 u.cf.bk,m.vt.v,uxV P u.nx,.int .i64 u.lev,m.st.v,pwV m.pw,
  .int .i64 u.hid,.int .i64 m.hn.lv,m.hn.hi.v,.int .i64 m.hn.ri,m.hn.ks.v,m.hn.vs.v,m.hn.cs.v,
  .int .i64 u.fid,.int .i64 m.fn.lv,m.fn.hi.v,.int .i64 m.fn.ri,m.fn.ks.v,m.fn.vs.v,m.fn.cs.v,
  m.bt.v,.int .i64 u.pc,.int .i64 u.lft,.int .i64 u.rgt,.int .i64 u.top,.bool u.had,.int .i64 u.err]
structure TxU (W : World) (D : Nat → Prop) (pw : Option Nat) (t : Tx) (s : List Int) : Prop where
 ok : t.Ok W
 s : t.s = s
 i : ∀ x,t.a = some x → 0 < t.s.length → D x.block ∧ pw ≠ some x.block
structure NdU (W : World) (D : Nat → Prop) (pw : Option Nat) (n : Nd) (p : NP) : Prop where
 ok : n.Ok W
 p : n.p = p
 i : n.In (fun x => D x ∧ pw ≠ some x)
structure UP (W : World) (P A : Nat) (D : Nat → Prop) (m : UM) (u : US) : Prop where
 c : W.heap[P]? = some (.cells (ucel P A m u) 121 (0,0))
 v : TxU W D m.pw m.vt u.val
 s : TxU W D m.pw m.st u.sep
 b : TxU W D m.pw m.bt u.bet
 h : NdU W D m.pw m.hn u.hn
 f : NdU W D m.pw m.fn u.fn
 w : (m.pw = none ∧ u.way = none) ∨ ∃ p ms k n Dm,m.pw = some p ∧ u.way = some ms ∧ D p ∧ PM W p A k n Dm ms ∧ ∀ x,Dm x → D x
 pd : ¬ D P
 lt : ∀ x,D x → x < W.heap.size
structure UQ (W : World) (P A : Nat) (D F : Nat → Prop) (m : UM) (m' : UM) (D' F' : Nat → Prop) (u' : US) (s' : AS) (w' : World) : Prop where
 up : UP w' P A D' m' u'
 px : PX w' A F' s'
 d : ∀ x,D' x → D x ∨ W.heap.size ≤ x
 f : ∀ x,F' x → F x ∨ W.heap.size ≤ x
 ap : ∀ x,F' x → ¬ D' x ∧ x ≠ P
 u : Upd (fun k => k = P ∨ m.pw = some k ∨ F k) W w'
def UNx (W : World) (P A : Nat) (D F : Nat → Prop) (m : UM) (u' : US) (s' : AS) (w' : World) : Prop := ∃ m' D' F',UQ W P A D F m m' D' F' u' s' w'
section
variable {W w' : World} {P A : Nat} {D D' F S : Nat → Prop} {m m' : UM} {u u' : US} {s s' : AS} {pw pw' : Option Nat}
theorem TxU.keep {t : Tx} {z : List Int} (h : TxU W D pw t z) (hu : Upd S W w') (hs : ∀ x,D x → pw ≠ some x → ¬ S x) (hd : ∀ x,D x → D' x) (hp : ∀ x,D x → pw ≠ some x → pw' ≠ some x) : TxU w' D' pw' t z :=
 ⟨h.ok.updL hu (fun x e l => hs _ (h.i x e l).1 (h.i x e l).2),h.s,fun x e l => ⟨hd _ (h.i x e l).1,hp _ (h.i x e l).1 (h.i x e l).2⟩⟩
theorem NdU.keep {n : Nd} {z : NP} (h : NdU W D pw n z) (hu : Upd S W w') (hs : ∀ x,D x → pw ≠ some x → ¬ S x) (hd : ∀ x,D x → D' x) (hp : ∀ x,D x → pw ≠ some x → pw' ≠ some x) : NdU w' D' pw' n z :=
 ⟨h.ok.upd h.i hu (fun x hx => hs x hx.1 hx.2),h.p,h.i.mono (fun x hx => ⟨hd x hx.1,hp x hx.1 hx.2⟩)⟩
theorem UP.ne (h : UP W P A D m u) {p : Nat} (hp : m.pw = some p) : p ≠ P := fun e => by
 rcases h.w with ⟨h1,_⟩ | ⟨q,_,_,_,_,h1,_,h2,_⟩
 ·rw [hp] at h1; cases h1
 ·rw [hp] at h1; cases h1; exact h.pd (e ▸ h2)
theorem UP.upd (h : UP W P A D m u) (hu : Upd S W w') (hs : ∀ x,x = P ∨ D x → ¬ S x) : UP w' P A D m u := by
 refine ⟨hu.heap h.c (hs P (.inl rfl)),h.v.keep hu (fun x hx _ => hs x (.inr hx)) (fun _ hx => hx) (fun _ _ hx => hx),h.s.keep hu (fun x hx _ => hs x (.inr hx)) (fun _ hx => hx) (fun _ _ hx => hx),h.b.keep hu (fun x hx _ => hs x (.inr hx)) (fun _ hx => hx) (fun _ _ hx => hx),h.h.keep hu (fun x hx _ => hs x (.inr hx)) (fun _ hx => hx) (fun _ _ hx => hx),h.f.keep hu (fun x hx _ => hs x (.inr hx)) (fun _ hx => hx) (fun _ _ hx => hx),?_,h.pd,fun x hx => Nat.lt_of_lt_of_le (h.lt x hx) hu.size⟩
 rcases h.w with h1 | ⟨p,ms,k,n,Dm,h1,h2,h3,h4,h5⟩
 ·exact .inl h1
 ·refine .inr ⟨p,ms,k,n,Dm,h1,h2,h3,h4.upd hu (fun x hx => ?_),h5⟩
  rcases hx with rfl | hx
  ·exact hs _ (.inr h3)
  ·exact hs x (.inr (h5 x hx))
def US.alike (u u' : US) : Prop := u'.val = u.val ∧ u'.sep = u.sep ∧ u'.bet = u.bet ∧ u'.hn = u.hn ∧ u'.fn = u.fn ∧ u'.way = u.way
theorem UP.own (h : UP W P A D m u) (hu : Upd (fun k => k = P) W w') (hc : w'.heap[P]? = some (.cells (ucel P A m u') 121 (0,0))) (ha : u.alike u') : UP w' P A D m u' := by
 obtain ⟨a1,a2,a3,a4,a5,a6⟩ := ha
 have hs : ∀ x,D x → m.pw ≠ some x → ¬ x = P := fun x hx _ e => h.pd (e ▸ hx)
 refine ⟨hc,by rw [a1]; exact h.v.keep hu hs (fun _ hx => hx) (fun _ _ hx => hx),by rw [a2]; exact h.s.keep hu hs (fun _ hx => hx) (fun _ _ hx => hx),by rw [a3]; exact h.b.keep hu hs (fun _ hx => hx) (fun _ _ hx => hx),by rw [a4]; exact h.h.keep hu hs (fun _ hx => hx) (fun _ _ hx => hx),by rw [a5]; exact h.f.keep hu hs (fun _ hx => hx) (fun _ _ hx => hx),?_,h.pd,fun x hx => Nat.lt_of_lt_of_le (h.lt x hx) hu.size⟩
 rw [a6]
 rcases h.w with h1 | ⟨p,ms,k,n,Dm,h1,h2,h3,h4,h5⟩
 ·exact .inl h1
 ·refine .inr ⟨p,ms,k,n,Dm,h1,h2,h3,h4.upd hu (fun x hx e => ?_),h5⟩
  rcases hx with rfl | hx
  ·exact h.pd (e ▸ h3)
  ·exact h.pd (e ▸ h5 x hx)
theorem Upd.transN {S T : Nat → Prop} {X Y Z : World} (h1 : Upd S X Y) (h2 : Upd T Y Z) (h : ∀ k,k < X.heap.size → T k → S k) : Upd S X Z :=
 ⟨h2.os.trans h1.os,h2.tape.trans h1.tape,h2.output.trans h1.output,Nat.le_trans h1.size h2.size,fun k hk hn => (h2.block k (Nat.lt_of_lt_of_le hk h1.size) (fun t => hn (h k hk t))).trans (h1.block k hk hn)⟩
theorem UQ.begin (h : UP W P A D m u) (hp : PX W A F s) (hF : ∀ x,F x → ¬ D x ∧ x ≠ P) : UQ W P A D F m m D F u s W := ⟨h,hp,fun _ hx => .inl hx,fun _ hx => .inl hx,hF,Upd.refl _ _⟩
variable {D1 F1 : Nat → Prop} {w1 w2 Y : World} {m1 : UM} {u1 u2 : US} {s1 : AS}
theorem UQ.own (h : UQ W P A D F m m1 D1 F1 u1 s1 w1) (hu : Upd (fun k => k = P) w1 w2) (hc : w2.heap[P]? = some (.cells (ucel P A m1 u2) 121 (0,0))) (ha : u1.alike u2) : UQ W P A D F m m1 D1 F1 u2 s1 w2 :=
 ⟨h.up.own hu hc ha,h.px.upd hu (fun k hk => (h.ap k hk).2),h.d,h.f,h.ap,h.u.trans (hu.mono (fun _ _ e => .inl e))⟩
theorem UQ.below (h : UQ W P A D F m m1 D1 F1 u1 s1 w1) (hb : Below w1.heap.size w1 w2) : UQ W P A D F m m1 D1 F1 u1 s1 w2 :=
 ⟨h.up.upd (S := Noth) (Upd.of_below hb _) (fun _ _ e => e),h.px.upd (S := Noth) (Upd.of_below hb _) (fun _ _ e => e),h.d,h.f,h.ap,h.u.trans (Upd.of_below hb _)⟩
theorem UQ.arena {s2 : AS} (h : UQ W P A D F m m1 D1 F1 u1 s1 w1) (hn : PNext w1 A F1 s2 w2) : ∃ F2,UQ W P A D F m m1 D1 F2 u1 s2 w2 := by
 obtain ⟨F2,hp,hf,hu⟩ := hn
 have hsz := h.u.size
 refine ⟨F2,h.up.upd hu (fun x hx e => ?_),hp,h.d,fun x hx => ?_,fun x hx => ?_,h.u.transN hu (fun k hk e => ?_)⟩
 ·rcases hx with rfl | hx
  ·exact (h.ap _ e).2 rfl
  ·exact (h.ap x e).1 hx
 ·rcases hf x hx with h1 | h1
  ·exact h.f x h1
  ·exact .inr (Nat.le_trans hsz h1)
 ·rcases hf x hx with h1 | h1
  ·exact h.ap x h1
  ·exact ⟨fun h2 => by have := h.up.lt x h2; omega,fun e => by have := lt_of_block h.up.c; omega⟩
 ·rcases h.f k e with h1 | h1
  ·exact .inr (.inr h1)
  ·exact absurd hk (by omega)
theorem UQ.fresh {w3 : World} {p : Nat} {k : Tx} {n : Nd} {Dm : Nat → Prop} {ms : MS} (h : UQ W P A D F m m1 D1 F1 u1 s1 w1) (hb : Below w1.heap.size w1 w2) (hpm : PM w2 p A k n Dm ms) (hp : w1.heap.size ≤ p) (hD : ∀ x,Dm x → w1.heap.size ≤ x) (hu : Upd (fun k => k = P) w2 w3) (hc : w3.heap[P]? = some (.cells (ucel P A { m1 with pw := some p } u2) 121 (0,0))) (ha : ({ u1 with way := some ms } : US).alike u2) : ∃ D2,UQ W P A D F m { m1 with pw := some p } D2 F1 u2 s1 w3 := by
 obtain ⟨a1,a2,a3,a4,a5,a6⟩ := ha
 simp only at a1 a2 a3 a4 a5 a6
 have h2 := h.below hb
 have hP := lt_of_block h.up.c
 have hs : ∀ x,D1 x → m1.pw ≠ some x → ¬ x = P := fun x hx _ e => h.up.pd (e ▸ hx)
 have hk : ∀ x,D1 x → m1.pw ≠ some x → some p ≠ some x := fun x hx _ e => by have := h.up.lt x hx; cases e; omega
 have hsz := h.u.size
 refine ⟨fun x => D1 x ∨ (w1.heap.size ≤ x ∧ x < w2.heap.size),⟨⟨hc,by rw [a1]; exact h2.up.v.keep hu hs (fun _ hx => .inl hx) hk,by rw [a2]; exact h2.up.s.keep hu hs (fun _ hx => .inl hx) hk,by rw [a3]; exact h2.up.b.keep hu hs (fun _ hx => .inl hx) hk,by rw [a4]; exact h2.up.h.keep hu hs (fun _ hx => .inl hx) hk,by rw [a5]; exact h2.up.f.keep hu hs (fun _ hx => .inl hx) hk,?_,?_,?_⟩,h2.px.upd hu (fun k hk => (h.ap k hk).2),?_,h.f,?_,h2.u.trans (hu.mono (fun _ _ e => .inl e))⟩⟩
 ·rw [a6]
  refine .inr ⟨p,ms,k,n,Dm,rfl,rfl,.inr ⟨hp,lt_of_block hpm.c⟩,hpm.upd hu (fun x hx e => ?_),fun x hx => .inr ⟨hD x hx,hpm.lt x hx⟩⟩
  rcases hx with rfl | hx
  ·omega
  ·have := hD x hx; omega
 ·rintro (h1 | h1)
  ·exact h.up.pd h1
  ·omega
 ·rintro x (h1 | h1)
  ·exact Nat.lt_of_lt_of_le (h.up.lt x h1) (Nat.le_trans hb.size hu.size)
  ·exact Nat.lt_of_lt_of_le h1.2 hu.size
 ·rintro x (h1 | h1)
  ·exact h.d x h1
  ·exact .inr (Nat.le_trans hsz h1.1)
 ·intro x hx
  refine ⟨?_,(h.ap x hx).2⟩
  rintro (h1 | h1)
  ·exact (h.ap x hx).1 h1
  ·have := h.px.lt x hx; omega
theorem UQ.nx (h : UQ W P A D F m m1 D1 F1 u1 s1 w1) : UNx W P A D F m u1 s1 w1 := ⟨m1,D1,F1,h⟩
theorem UP.cell (h : UP W P A D m u) (j : Nat) (v : Value) (hj : (ucel P A m u)[j]? = some v) : W.cell? ⟨P,j,none⟩ = some v := by rw [cell_of_row _ _ _ _ _ _ h.c]; exact hj
end
def fitC (c : Cfg) : Cfg := ⟨1 + (pickN c.nd 60 : Nat),2 + (pickN c.lf 5 : Nat),3 + (pickN c.inn 4 : Nat),1 + (pickN c.fl 2 : Nat),1 + (pickN c.bk 8 : Nat)⟩
theorem fit_ok (c : Cfg) : cfgOk (fitC c).nd (fitC c).lf (fitC c).inn (fitC c).fl (fitC c).bk ∧ (fitC c).nd ≤ 60 := by
 have h1 := pickN_lt c.nd 60 (by decide)
 have h2 := pickN_lt c.lf 5 (by decide)
 have h3 := pickN_lt c.inn 4 (by decide)
 have h4 := pickN_lt c.fl 2 (by decide)
 have h5 := pickN_lt c.bk 8 (by decide)
 simp only [fitC,cfgOk]
 omega
def CfgI (c : Cfg) : Prop := ∀ x ∈ [c.nd,c.lf,c.inn,c.fl,c.bk],-9223372036854775808 ≤ x ∧ x ≤ 9223372036854775807
set_option maxHeartbeats 1600000 in
theorem ufit_any (c : Cfg) (hc : CfgI c) (W : World) : Calls Tryz.prog 12 #[c.v] W fun e w' => e = .returned (fitC c).v ∧ Below W.heap.size W w' := by
 obtain ⟨nd,lf,inn,fl,bk⟩ := c
 have hp : ∀ (x : Int) (n : Nat) (w : World),x ∈ [nd,lf,inn,fl,bk] → 0 < n → n < 9223372036854775807 → Calls Tryz.prog 20 #[.int .i64 x,.int .i64 (n : Nat)] w fun e w' => e = .returned (.int .i64 (pickN x n : Nat)) ∧ w' = w := fun x n w hx h0 h1 => upick_any x n w h0 h1 (hc x hx).1 (hc x hx).2
 have k1 : pickN nd 60 < 60 := pickN_lt nd 60 (by decide)
 have k2 : pickN lf 5 < 5 := pickN_lt lf 5 (by decide)
 have k3 : pickN inn 4 < 4 := pickN_lt inn 4 (by decide)
 have k4 : pickN fl 2 < 2 := pickN_lt fl 2 (by decide)
 have k5 : pickN bk 8 < 8 := pickN_lt bk 8 (by decide)
 obtain ⟨x1,e1⟩ : ∃ x : Int,x = (pickN nd 60 : Nat) := ⟨_,rfl⟩
 obtain ⟨x2,e2⟩ : ∃ x : Int,x = (pickN lf 5 : Nat) := ⟨_,rfl⟩
 obtain ⟨x3,e3⟩ : ∃ x : Int,x = (pickN inn 4 : Nat) := ⟨_,rfl⟩
 obtain ⟨x4,e4⟩ : ∃ x : Int,x = (pickN fl 2 : Nat) := ⟨_,rfl⟩
 obtain ⟨x5,e5⟩ : ∃ x : Int,x = (pickN bk 8 : Nat) := ⟨_,rfl⟩
 have H1 : Hid (∀ w,Calls Tryz.prog 20 #[.int .i64 nd,.int .i64 60] w fun e w' => e = .returned (.int .i64 x1) ∧ w' = w) := fun w => by rw [e1]; exact hp nd 60 w (by simp) (by decide) (by decide)
 have H2 : Hid (∀ w,Calls Tryz.prog 20 #[.int .i64 lf,.int .i64 5] w fun e w' => e = .returned (.int .i64 x2) ∧ w' = w) := fun w => by rw [e2]; exact hp lf 5 w (by simp) (by decide) (by decide)
 have H3 : Hid (∀ w,Calls Tryz.prog 20 #[.int .i64 inn,.int .i64 4] w fun e w' => e = .returned (.int .i64 x3) ∧ w' = w) := fun w => by rw [e3]; exact hp inn 4 w (by simp) (by decide) (by decide)
 have H4 : Hid (∀ w,Calls Tryz.prog 20 #[.int .i64 fl,.int .i64 2] w fun e w' => e = .returned (.int .i64 x4) ∧ w' = w) := fun w => by rw [e4]; exact hp fl 2 w (by simp) (by decide) (by decide)
 have H5 : Hid (∀ w,Calls Tryz.prog 20 #[.int .i64 bk,.int .i64 8] w fun e w' => e = .returned (.int .i64 x5) ∧ w' = w) := fun w => by rw [e5]; exact hp bk 8 w (by simp) (by decide) (by decide)
 have j1 : 0 ≤ x1 ∧ x1 < 60 := by omega
 have j2 : 0 ≤ x2 ∧ x2 < 5 := by omega
 have j3 : 0 ≤ x3 ∧ x3 < 4 := by omega
 have j4 : 0 ≤ x4 ∧ x4 < 2 := by omega
 have j5 : 0 ≤ x5 ∧ x5 < 8 := by omega
 have HE : Hid (fitC ⟨nd,lf,inn,fl,bk⟩ = ⟨1 + x1,2 + x2,3 + x3,1 + x4,1 + x5⟩) := by show _ = _; rw [e1,e2,e3,e4,e5]; rfl
 rw [HE.out]
 have q1 : IntKind.i64.wrap (1 + x1) = 1 + x1 := by
  rw [IntKind.wrap_i64]; omega
 have q2 : IntKind.i64.wrap (2 + x2) = 2 + x2 := by
  rw [IntKind.wrap_i64]; omega
 have q3 : IntKind.i64.wrap (3 + x3) = 3 + x3 := by
  rw [IntKind.wrap_i64]; omega
 have q4 : IntKind.i64.wrap (1 + x4) = 1 + x4 := by
  rw [IntKind.wrap_i64]; omega
 have q5 : IntKind.i64.wrap (1 + x5) = 1 + x5 := by
  rw [IntKind.wrap_i64]; omega
 obtain ⟨wb,hwb⟩ : ∃ wb,wb = (W.alloc (.cells #[.int .i64 nd,.int .i64 lf,.int .i64 inn,.int .i64 fl,.int .i64 bk] 23)).alloc (.cells #[.int .i64 0,.int .i64 0,.int .i64 0,.int .i64 0,.int .i64 0] 23) := ⟨_,rfl⟩
 have bb : Below W.heap.size W wb := by rw [hwb]; exact ((Below.refl _ _).alloc (Nat.le_refl _) _).alloc (by simp) _
 have ga : wb.heap[W.heap.size]? = some (.cells #[.int .i64 nd,.int .i64 lf,.int .i64 inn,.int .i64 fl,.int .i64 bk] 23 (0,0)) := by
  rw [hwb,heap_alloc_old _ _ (by simp)]; exact heap_alloc_new W _
 have gb : wb.heap[W.heap.size + 1]? = some (.cells #[.int .i64 0,.int .i64 0,.int .i64 0,.int .i64 0,.int .i64 0] 23 (0,0)) := by
  have := heap_alloc_new (W.alloc (.cells #[.int .i64 nd,.int .i64 lf,.int .i64 inn,.int .i64 fl,.int .i64 bk] 23)) (.cells #[.int .i64 0,.int .i64 0,.int .i64 0,.int .i64 0,.int .i64 0] 23)
  rw [hwb]
  simpa using this
 have y0 : wb.cell? ⟨W.heap.size,0,none⟩ = some (.int .i64 nd) := by rw [cell_of_row _ _ _ _ _ _ ga]; rfl
 have y1 : wb.cell? ⟨W.heap.size,1,none⟩ = some (.int .i64 lf) := by rw [cell_of_row _ _ _ _ _ _ ga]; rfl
 have y2 : wb.cell? ⟨W.heap.size,2,none⟩ = some (.int .i64 inn) := by rw [cell_of_row _ _ _ _ _ _ ga]; rfl
 have y3 : wb.cell? ⟨W.heap.size,3,none⟩ = some (.int .i64 fl) := by rw [cell_of_row _ _ _ _ _ _ ga]; rfl
 have y4 : wb.cell? ⟨W.heap.size,4,none⟩ = some (.int .i64 bk) := by rw [cell_of_row _ _ _ _ _ _ ga]; rfl
 have z0 : wb.cell? ⟨W.heap.size + 1,0,none⟩ = some (.int .i64 0) := by rw [cell_of_row _ _ _ _ _ _ gb]; rfl
 have z1 : wb.cell? ⟨W.heap.size + 1,1,none⟩ = some (.int .i64 0) := by rw [cell_of_row _ _ _ _ _ _ gb]; rfl
 have z2 : wb.cell? ⟨W.heap.size + 1,2,none⟩ = some (.int .i64 0) := by rw [cell_of_row _ _ _ _ _ _ gb]; rfl
 have z3 : wb.cell? ⟨W.heap.size + 1,3,none⟩ = some (.int .i64 0) := by rw [cell_of_row _ _ _ _ _ _ gb]; rfl
 have z4 : wb.cell? ⟨W.heap.size + 1,4,none⟩ = some (.int .i64 0) := by rw [cell_of_row _ _ _ _ _ _ gb]; rfl
 have fz0 := frozen_of gb 0
 have fz1 := frozen_of gb 1
 have fz2 := frozen_of gb 2
 have fz3 := frozen_of gb 3
 have fz4 := frozen_of gb 4
 have HWB := hide hwb
 have HBB := hide bb
 have HGB := hide gb
 have HGA := hide ga
 clear hp hc k1 k2 k3 k4 k5 e1 e2 e3 e4 e5 HE hwb bb ga gb
 simp only [Cfg.v]
 go_enter Tryz.func12,Tryz.ntmps12
 go_upto_region 1 with fail
 rw [← HWB.out]
 go_region_held3 (fun Y => Y.cell? ⟨W.heap.size,0,none⟩ = some (.int .i64 nd) ∧ Y.cell? ⟨W.heap.size,1,none⟩ = some (.int .i64 lf) ∧ Y.cell? ⟨W.heap.size,2,none⟩ = some (.int .i64 inn) ∧ Y.cell? ⟨W.heap.size,3,none⟩ = some (.int .i64 fl) ∧ Y.cell? ⟨W.heap.size,4,none⟩ = some (.int .i64 bk)) (go_keep) (first
  | (go_at_call 20; with_reducible refine (H1.out _).mono ?_; rintro e w2 ⟨rfl,rfl⟩)
  | (go_at_call 20; with_reducible refine (H2.out _).mono ?_; rintro e w2 ⟨rfl,rfl⟩)
  | (go_at_call 20; with_reducible refine (H3.out _).mono ?_; rintro e w2 ⟨rfl,rfl⟩)
  | (go_at_call 20; with_reducible refine (H4.out _).mono ?_; rintro e w2 ⟨rfl,rfl⟩)
  | (go_at_call 20; with_reducible refine (H5.out _).mono ?_; rintro e w2 ⟨rfl,rfl⟩)
  | fail)
 go_wp2_with fail
 have g5 := block_setCell (block_setCell (block_setCell (block_setCell (block_setCell HGB.out 0 (.int .i64 (1 + x1))) 1 (.int .i64 (2 + x2))) 2 (.int .i64 (3 + x3))) 3 (.int .i64 (1 + x4))) 4 (.int .i64 (1 + x5))
 have u5 := updP (updP (updP (updP (updP (Upd.refl (fun k => k = W.heap.size + 1) wb) 0 (.int .i64 (1 + x1))) 1 (.int .i64 (2 + x2))) 2 (.int .i64 (3 + x3))) 3 (.int .i64 (1 + x4))) 4 (.int .i64 (1 + x5))
 (try simp only [Exit.inBlock,Exit.then])
 generalize (((((wb.setCell ⟨W.heap.size + 1,0,none⟩ (.int .i64 (1 + x1))).setCell ⟨W.heap.size + 1,1,none⟩ (.int .i64 (2 + x2))).setCell ⟨W.heap.size + 1,2,none⟩ (.int .i64 (3 + x3))).setCell ⟨W.heap.size + 1,3,none⟩ (.int .i64 (1 + x4))).setCell ⟨W.heap.size + 1,4,none⟩ (.int .i64 (1 + x5))) = wf at *
 have g6 : wf.drew.heap[W.heap.size + 1]? = some (.cells #[.int .i64 (1 + x1),.int .i64 (2 + x2),.int .i64 (3 + x3),.int .i64 (1 + x4),.int .i64 (1 + x5)] 23 (0,0)) := g5
 have hb6 : Below W.heap.size W wf.drew := below_drew (HBB.out.trans (u5.below HBB.out.size (fun k hk e => by omega)))
 generalize wf.drew = wg at *
 have r0 : wg.cell? ⟨W.heap.size + 1,0,none⟩ = some (.int .i64 (1 + x1)) := by rw [cell_of_row _ _ _ _ _ _ g6]; rfl
 have r1 : wg.cell? ⟨W.heap.size + 1,1,none⟩ = some (.int .i64 (2 + x2)) := by rw [cell_of_row _ _ _ _ _ _ g6]; rfl
 have r2 : wg.cell? ⟨W.heap.size + 1,2,none⟩ = some (.int .i64 (3 + x3)) := by rw [cell_of_row _ _ _ _ _ _ g6]; rfl
 have r3 : wg.cell? ⟨W.heap.size + 1,3,none⟩ = some (.int .i64 (1 + x4)) := by rw [cell_of_row _ _ _ _ _ _ g6]; rfl
 have r4 : wg.cell? ⟨W.heap.size + 1,4,none⟩ = some (.int .i64 (1 + x5)) := by rw [cell_of_row _ _ _ _ _ _ g6]; rfl
 exact bodyPost_ret (v := .agg #[.int .i64 (1 + x1),.int .i64 (2 + x2),.int .i64 (3 + x3),.int .i64 (1 + x4),.int .i64 (1 + x5)]) (by simp [results,Tryz.results12,go_sem,r0,r1,r2,r3,r4]) rfl ⟨rfl,hb6⟩
end Go.Proofs.YtljnapejgjffjaaGreat
