/- Texts of one's own. -/
import Derived.Test.YtljnapejgjffjaaGreatH29
namespace Go.Proofs.YtljnapejgjffjaaGreat
open Go.RowKit
set_option maxRecDepth 100000
def nxV (P : Nat) : Nat → Value
 | 0 => .func (.func 115) #[.pointer (some ⟨P,0,none⟩)] #[]
 | 1 => .func (.func 161) #[.pointer (some ⟨P,0,none⟩)] #[]
 | 2 => .func (.func 181) #[.pointer (some ⟨P,0,none⟩)] #[]
 | 3 => .func (.func 199) #[.pointer (some ⟨P,0,none⟩)] #[]
 | 4 => .func (.func 208) #[.pointer (some ⟨P,0,none⟩)] #[]
 | _ + 5 => .nilFunc
def mcel (P A : Nat) (k : Tx) (n : Nd) (m : MS) : Array Value :=
 #[.pointer (some ⟨A,0,none⟩),k.v,.int .i64 m.lev,nxV P m.nx,.int .i64 m.id,.int .u64 (m.wd : Nat),.int .i64 n.lv,n.hi.v,.int .i64 n.ri,n.ks.v,n.vs.v,n.cs.v,.int .i64 (m.an : Nat),.int .i64 (m.mo : Nat)]
structure PM (W : World) (P A : Nat) (k : Tx) (n : Nd) (D : Nat → Prop) (m : MS) : Prop where
 c : W.heap[P]? = some (.cells (mcel P A k n m) 195 (0,0))
 np : n.p = m.nd
 no : n.Ok W
 ni : n.In D
 ko : k.Ok W
 ks : k.s = m.key
 ki : ∀ x,k.a = some x → 0 < k.s.length → D x.block
 pd : ¬ D P
 lt : ∀ x,D x → x < W.heap.size
def MNx (W : World) (P A : Nat) (k : Tx) (D : Nat → Prop) (m : MS) (w' : World) : Prop := ∃ n D',PM w' P A k n D' m ∧ (∀ x,D' x → D x ∨ W.heap.size ≤ x) ∧ Upd (fun k => k = P) W w'
section
variable {W w' : World} {P A : Nat} {k : Tx} {n n' : Nd} {D F : Nat → Prop} {m m' : MS} {s : AS}
theorem PM.upd {S : Nat → Prop} (h : PM W P A k n D m) (hu : Upd S W w') (hs : ∀ x,x = P ∨ D x → ¬ S x) : PM w' P A k n D m :=
 ⟨hu.heap h.c (hs P (.inl rfl)),h.np,h.no.upd h.ni hu (fun x hx => hs x (.inr hx)),h.ni,h.ko.updL hu (fun x e l => hs _ (.inr (h.ki x e l))),h.ks,h.ki,h.pd,fun x hx => Nat.lt_of_lt_of_le (h.lt x hx) hu.size⟩
theorem PM.next (h : PM W P A k n D m) (hc : w'.heap[P]? = some (.cells (mcel P A k n' m') 195 (0,0))) (hu : Upd (fun k => k = P) W w') (hk : m'.key = m.key) (hp : n'.p = m'.nd) (hn : n'.Ok w') (hi : n'.In (fun x => D x ∨ (W.heap.size ≤ x ∧ x < w'.heap.size))) : MNx W P A k D m' w' := by
 have hl := lt_of_block h.c
 refine ⟨n',fun x => D x ∨ (W.heap.size ≤ x ∧ x < w'.heap.size),⟨hc,hp,hn,hi,h.ko.updL hu (fun x e l e' => h.pd (e' ▸ h.ki x e l)),by rw [hk]; exact h.ks,fun x e l => .inl (h.ki x e l),?_,?_⟩,?_,hu⟩
 ·rintro (h1 | h1)
  ·exact h.pd h1
  ·omega
 ·rintro x (h1 | h1)
  ·exact Nat.lt_of_lt_of_le (h.lt x h1) hu.size
  ·exact h1.2
 ·rintro x (h1 | h1)
  ·exact .inl h1
  ·exact .inr h1.1
theorem PM.keepN (h : PM W P A k n D m) (hc : w'.heap[P]? = some (.cells (mcel P A k n m') 195 (0,0))) (hu : Upd (fun k => k = P) W w') (hk : m'.key = m.key) (hp : m'.nd = m.nd) : MNx W P A k D m' w' :=
 h.next hc hu hk (by rw [hp]; exact h.np) (h.no.upd h.ni hu (fun x hx e => h.pd (e ▸ hx))) (h.ni.mono fun x hx => .inl hx)
theorem PM.zeroN (h : PM W P A k n D m) (hc : w'.heap[P]? = some (.cells (mcel P A k Nd.zero m') 195 (0,0))) (hu : Upd (fun k => k = P) W w') (hk : m'.key = m.key) (hp : m'.nd = NP.zero) : MNx W P A k D m' w' :=
 h.next hc hu hk (by rw [hp]; rfl) (Nd.zero_ok _) (Nd.zero_in _)
theorem PM.headN (h : PM W P A k n D m) {lv ri : Int} {t : Tx} (hc : w'.heap[P]? = some (.cells (mcel P A k ⟨lv,t,ri,n.ks,n.vs,n.cs⟩ m') 195 (0,0))) (hu : Upd (fun k => k = P) W w') (hk : m'.key = m.key) (hp : m'.nd = m.nd.setH lv t.s ri) (ho : OwnB w' W.heap.size 5 t.v t.s) (h8 : B8 t.s) (hz : t.s.length ≤ 140737488351232) : MNx W P A k D m' w' := by
 have hn := h.no.upd h.ni hu (fun x hx e => h.pd (e ▸ hx))
 refine h.next hc hu hk ?_ ⟨ownB_ok ho h8 hz,hn.k,hn.v,hn.c,hn.kz,hn.vz,hn.cz⟩ ⟨fun x e _ => .inr (ownB_in ho x e),fun x e l => .inl (h.ni.k x e l),fun y hy x e l => .inl (h.ni.ke y hy x e l),fun x e l => .inl (h.ni.v x e l),fun y hy x e l => .inl (h.ni.ve y hy x e l),fun x e l => .inl (h.ni.c x e l)⟩
 rw [hp,← h.np]
 rfl
theorem PM.bodyN (h : PM W P A k n D m) {ks vs : TL} {cs : IL} (hc : w'.heap[P]? = some (.cells (mcel P A k ⟨n.lv,n.hi,n.ri,ks,vs,cs⟩ m') 195 (0,0))) (hu : Upd (fun k => k = P) W w') (hk : m'.key = m.key) (hp : m'.nd = m.nd.setB ks.p vs.p cs.s) (h1 : ks.Own w' W.heap.size) (h2 : vs.Own w' W.heap.size) (h3 : w'.ownsRow W.heap.size 3 1 cs.v cs.s.length (cs.s.map (Value.int .i64))) (hz : ks.L.length * 24 ≤ 140737488352000 ∧ vs.L.length * 24 ≤ 140737488352000 ∧ cs.s.length * 8 ≤ 140737488352000) : MNx W P A k D m' w' := by
 have hn := h.no.upd h.ni hu (fun x hx e => h.pd (e ▸ hx))
 refine h.next hc hu hk ?_ ⟨hn.h,h1.ok,h2.ok,il_of_owns h3,hz.1,hz.2.1,hz.2.2⟩ ⟨fun x e l => .inl (h.ni.h x e l),fun x e _ => .inr (owns_in h1.row x e),fun t ht x e _ => .inr (ownB_in (h1.each t ht) x e),fun x e _ => .inr (owns_in h2.row x e),fun t ht x e _ => .inr (ownB_in (h2.each t ht) x e),fun x e _ => .inr (owns_in h3 x e)⟩
 rw [hp,← h.np]
 rfl
theorem calls3 {f : FuncId} {args : Array Value} {cs : Array Value} {r : Value} (h : Calls Tryz.prog f args W (MbP W P cs r)) : Calls Tryz.prog f args W fun e w' => e = .returned r ∧ (w'.heap[P]? = some (.cells cs 195 (0,0)) ∧ Upd (fun k => k = P) W w') := h.mono fun _ _ h => ⟨h.1,h.2.1,h.2.2⟩
theorem cell3 {W : World} {P : Nat} {T : TypeId} {a0 a1 a2 a3 a4 a5 a6 a7 a8 a9 a10 a11 a12 a13 : Value} (h : W.heap[P]? = some (.cells #[a0,a1,a2,a3,a4,a5,a6,a7,a8,a9,a10,a11,a12,a13] T (0,0))) : W.cell? ⟨P,3,none⟩ = some a3 := by rw [cell_of_row _ _ _ _ _ _ h]; rfl
def SpP (W : World) (P A : Nat) (k : Tx) (D : Nat → Prop) (m : MS) (e : Ending) (w' : World) : Prop := e = .returned (.bool (decide (5 ≤ m.nx))) ∧ MNx W P A k D m w'
theorem step_any (h : PM W P A k n D m) (hp : PX W A F s) (han : m.an < 4611686018427387904) (hmo : m.mo < 4611686018427387904) : Calls Tryz.prog 110 #[.pointer (some ⟨P,0,none⟩)] W (SpP W P A k D (m.step s)) := by
 obtain ⟨key,lev,nx,id,wd,nd,an,mo⟩ := m
 simp only at han hmo
 unfold MS.step
 simp only
 match nx,h with
 | 0,h =>
  rw [if_pos rfl]
  refine (step_go_readRoot h.c rfl _ (calls3 (readRoot_any h.c rfl hp)) (fun w' hq => ⟨_,cell3 hq.1⟩)).mono ?_
  rintro e w' ⟨rfl,h1,h2⟩
  exact ⟨rfl,h.zeroN h1 h2 rfl rfl⟩
 | nx + 5,h =>
  rw [if_neg (by omega),if_pos (by omega)]
  refine (step_idle h.c rfl).mono ?_
  rintro e w' ⟨rfl,rfl⟩
  exact ⟨by simp,h.keepN h.c (Upd.refl _ _) rfl rfl⟩
 | 1,h =>
  rw [if_neg (by omega),if_neg (by omega)]
  by_cases hin : s.inn id
  ·rw [if_neg (fun e => e hin),if_pos rfl]
   by_cases ho : s.w id % 2 = 0
   ·rw [if_pos ho]
    refine (step_go_readWord h.c rfl _ (calls3 (readWord_even h.c rfl rfl hp hin ho)) (fun w' hq => ⟨_,cell3 hq.1⟩)).mono ?_
    rintro e w' ⟨rfl,h1,h2⟩
    exact ⟨rfl,h.keepN h1 h2 rfl rfl⟩
   ·rw [if_neg ho]
    refine (step_go_readWord h.c rfl _ (calls3 (readWord_odd h.c rfl rfl hp hin ho)) (fun w' hq => ⟨_,cell3 hq.1⟩)).mono ?_
    rintro e w' ⟨rfl,h1,h2⟩
    exact ⟨rfl,h.keepN h1 h2 rfl rfl⟩
  ·rw [if_pos hin]
   refine (step_not_readWord h.c rfl ((readWord_not h.c rfl rfl hp hin).mono fun _ _ h => ⟨h.1,⟨_,_,_,_,_,_,_,_,_,h.2.1⟩,h.2.2⟩)).mono ?_
   rintro e w' ⟨rfl,h1,h2⟩
   exact ⟨rfl,h.zeroN h1 h2 rfl rfl⟩
 | 2,h =>
  rw [if_neg (by omega),if_neg (by omega)]
  by_cases hin : s.inn id
  ·rw [if_neg (fun e => e hin),if_neg (by omega),if_pos rfl]
   have hc := readHead_any h.c rfl rfl hp (id := id)
   rw [decide_eq_true hin,show s.rd id = s.n id from if_pos hin] at hc
   refine (step_go_readHead h.c rfl (fun w' => ∃ t : Tx,_ ∧ _) (hc.mono fun e w' h => by obtain ⟨t,h1,h2⟩ := h; exact ⟨h1.1,t,h1.2,h2⟩) (fun w' hq => by obtain ⟨t,h1,_⟩ := hq; exact ⟨_,cell3 h1.1⟩)).mono ?_
   rintro e w' ⟨rfl,t,⟨h1,h2⟩,h3,h4,h5,h6⟩
   refine ⟨rfl,h.headN h1 h2 rfl (by rw [← h3]) h4 h5 h6⟩
  ·rw [if_pos hin]
   have hc := readHead_any h.c rfl rfl hp (id := id)
   rw [decide_eq_false hin] at hc
   refine (step_not_readHead h.c rfl (hc.mono fun _ _ h => by obtain ⟨t,h1,h2⟩ := h; exact ⟨h1.1,⟨_,_,_,_,_,_,_,_,_,h1.2.1⟩,h1.2.2⟩)).mono ?_
   rintro e w' ⟨rfl,h1,h2⟩
   exact ⟨rfl,h.zeroN h1 h2 rfl rfl⟩
 | 3,h =>
  rw [if_neg (by omega),if_neg (by omega)]
  by_cases hin : s.inn id
  ·rw [if_neg (fun e => e hin),if_neg (by omega),if_neg (by omega),if_pos rfl]
   have hc := readBody_any h.c rfl rfl hp (id := id)
   rw [decide_eq_true hin,show s.rd id = s.n id from if_pos hin] at hc
   refine (step_go_readBody h.c rfl (fun w' => ∃ (x y : TL) (z : IL),_ ∧ _) (hc.mono fun e w' h => by obtain ⟨x,y,z,h1,h2⟩ := h; exact ⟨h1.1,x,y,z,h1.2,h2⟩) (fun w' hq => by obtain ⟨_,_,_,h1,_⟩ := hq; exact ⟨_,cell3 h1.1⟩)).mono ?_
   rintro e w' ⟨rfl,x,y,z,⟨h1,h2⟩,h3,h4,h5,h6,h7,h8,h9⟩
   refine ⟨rfl,h.bodyN (ks := x) (vs := y) (cs := z) h1 h2 rfl (by rw [← h3,← h4,← h5]) h6 h7 h8 h9⟩
  ·rw [if_pos hin]
   have hc := readBody_any h.c rfl rfl hp (id := id)
   rw [decide_eq_false hin] at hc
   refine (step_not_readBody h.c rfl (hc.mono fun _ _ h => by obtain ⟨x,y,z,h1,h2⟩ := h; exact ⟨h1.1,⟨_,_,_,_,_,_,_,_,_,h1.2.1⟩,h1.2.2⟩)).mono ?_
   rintro e w' ⟨rfl,h1,h2⟩
   exact ⟨rfl,h.zeroN h1 h2 rfl rfl⟩
 | 4,h =>
  rw [if_neg (by omega),if_neg (by omega)]
  by_cases hin : s.inn id
  ·rw [if_neg (fun e => e hin),if_neg (by omega),if_neg (by omega),if_neg (by omega)]
   unfold MS.valid
   simp only
   by_cases hw : s.w id = wd
   ·rw [if_pos hw]
    unfold MS.choose
    simp only
    have hnp : n.p = nd := h.np
    have hks : k.s = key := h.ks
    have e1 : n.lv = nd.lv := by rw [← hnp]; rfl
    have e2 : n.hi.s = nd.hi := by rw [← hnp]; rfl
    have e3 : n.ri = nd.ri := by rw [← hnp]; rfl
    have e4 : n.ks.p = nd.ks := by rw [← hnp]; rfl
    have e5 : n.cs.s = nd.cs := by rw [← hnp]; rfl
    have HQ : ∀ q,PM (W.drewN q) P A k n D ⟨key,lev,4,id,wd,nd,an,mo⟩ := fun q => h.upd (S := Noth) (upd_drewN _ _ _) (fun _ _ e => e)
    by_cases h1 : nd.lv < lev
    ·rw [if_pos h1]
     have hc := readAgain_same h.c rfl rfl hp rfl hin hw (fun q => choose_low n k (HQ q).c (HQ q).no (HQ q).ko (by rw [e1]; exact h1))
     refine (step_not_readWordAgain h.c rfl (hc.mono fun _ _ h => ⟨h.1,⟨_,_,_,_,_,_,_,_,_,h.2.1⟩,h.2.2⟩)).mono ?_
     rintro e w' ⟨rfl,h1,h2⟩
     exact ⟨rfl,h.zeroN h1 h2 rfl rfl⟩
    rw [if_neg h1]
    by_cases h2 : beyB nd.hi key = true
    ·rw [if_pos h2]
     have hc := readAgain_same h.c rfl rfl hp rfl hin hw (fun q => choose_right n k (HQ q).c (HQ q).no (HQ q).ko hmo (by rw [e1]; exact h1) (by rw [e2,hks]; exact h2))
     refine (step_go_readWordAgain h.c rfl _ (calls3 hc) (fun w' hq => ⟨_,cell3 hq.1⟩)).mono ?_
     rintro e w' ⟨rfl,h1,h2⟩
     rw [e3] at h1
     exact ⟨rfl,h.zeroN h1 h2 rfl rfl⟩
    rw [if_neg h2]
    have h2' : beyB nd.hi key = false := by simpa using h2
    by_cases h3 : nd.lv = lev
    ·rw [if_pos h3]
     have hc := readAgain_same h.c rfl rfl hp rfl hin hw (fun q => choose_here n k (HQ q).c (HQ q).no (HQ q).ko (by rw [e1]; exact h1) (by rw [e2,hks]; exact h2') (by rw [e1]; exact h3))
     refine (step_end_readWordAgain h.c rfl _ (calls3 hc) (fun w' hq => cell3 hq.1)).mono ?_
     rintro e w' ⟨rfl,h1,h2⟩
     exact ⟨rfl,h.keepN h1 h2 rfl rfl⟩
    ·rw [if_neg h3]
     have hc := readAgain_same h.c rfl rfl hp rfl hin hw (fun q => choose_child n k (HQ q).c (HQ q).no (HQ q).ko (by rw [e1]; exact h1) (by rw [e2,hks]; exact h2') (by rw [e1]; exact h3))
     refine (step_go_readWordAgain h.c rfl _ (calls3 hc) (fun w' hq => ⟨_,cell3 hq.1⟩)).mono ?_
     rintro e w' ⟨rfl,h1,h2⟩
     rw [e4,e5,hks] at h1
     exact ⟨rfl,h.zeroN h1 h2 rfl rfl⟩
   ·rw [if_neg hw]
    refine (step_go_readWordAgain h.c rfl _ (calls3 (readAgain_anew h.c rfl rfl hp rfl rfl han hin hw)) (fun w' hq => ⟨_,cell3 hq.1⟩)).mono ?_
    rintro e w' ⟨rfl,h1,h2⟩
    exact ⟨rfl,h.zeroN h1 h2 rfl rfl⟩
  ·rw [if_pos hin]
   refine (step_not_readWordAgain h.c rfl ((readAgain_not h.c rfl rfl hp hin).mono fun _ _ h => ⟨h.1,⟨_,_,_,_,_,_,_,_,_,h.2.1⟩,h.2.2⟩)).mono ?_
   rintro e w' ⟨rfl,h1,h2⟩
   exact ⟨rfl,h.zeroN h1 h2 rfl rfl⟩
end
theorem Nd.zero_own (W : World) (N : Nat) : Nd.zero.Own W N := ⟨OwnB.nil _ _ _,⟨B8.nil,Nat.zero_le _⟩,tl_own_nil _ _,tl_own_nil _ _,World.ownsRow_nil _ _ _ _,Nat.zero_le _,Nat.zero_le _,Nat.zero_le _⟩
def DNewP (W : World) (A : Nat) (key : List Int) (lev : Int) (e : Ending) (w' : World) : Prop := ∃ P k n D,e = .returned (.pointer (some ⟨P,0,none⟩)) ∧ PM w' P A k n D (MS.new key lev) ∧ W.heap.size ≤ P ∧ (∀ x,D x → W.heap.size ≤ x) ∧ Below W.heap.size W w'
section
variable {W w' : World} {P A : Nat} {k : Tx} {n : Nd} {D F : Nat → Prop} {m : MS} {s : AS}
set_option maxHeartbeats 1600000 in
theorem dnew_any (k : Tx) (lev : Int) (hk : k.Ok W) : Calls Tryz.prog 86 #[.pointer (some ⟨A,0,none⟩),k.v,.int .i64 lev] W (DNewP W A k.s lev) := by
 have HC := hide (bclone_any k.a k.s.length k.c k.s W rfl (by have := hk.z; omega) hk.n hk.r)
 have H8 : Hid (B8 k.s ∧ k.s.length ≤ 140737488351232) := ⟨hk.b8,hk.z⟩
 clear hk
 obtain ⟨xa,xc,xs⟩ := k
 simp only [Tx.v] at HC H8 ⊢
 generalize xs.length = lx at HC ⊢
 go_enter Tryz.func86,Tryz.ntmps86
 go_wp2_with fail
 refine HC.out.mono ?_
 rintro e w1 ⟨v,rfl,ho,hb⟩
 obtain ⟨na,nc,rfl,_,_⟩ := ho.slice
 have HO := hide ho
 have HB := hide hb
 clear ho hb HC
 obtain ⟨l2,hl2⟩ : ∃ l2,xs.length = l2 := ⟨_,rfl⟩
 rw [hl2] at HO
 try rw [hl2]
 replace hl2 := hide hl2
 go_wp2_with fail
 go_ret
 have b2 : Below w1.heap.size w1 (w1.alloc (.cells #[.pointer (some ⟨A,0,none⟩),.slice na l2 nc,.int .i64 lev,.func (.func 115) #[.pointer (some ⟨w1.heap.size,0,none⟩)] #[],.int .i64 0,.int .u64 0,.int .i64 0,.slice none 0 0,.int .i64 0,.slice none 0 0,.slice none 0 0,.slice none 0 0,.int .i64 0,.int .i64 0] 195)) := (Below.refl _ _).alloc (Nat.le_refl _) _
 have g2 := heap_alloc_new w1 (.cells #[.pointer (some ⟨A,0,none⟩),.slice na l2 nc,.int .i64 lev,.func (.func 115) #[.pointer (some ⟨w1.heap.size,0,none⟩)] #[],.int .i64 0,.int .u64 0,.int .i64 0,.slice none 0 0,.int .i64 0,.slice none 0 0,.slice none 0 0,.slice none 0 0,.int .i64 0,.int .i64 0] 195)
 have ho : OwnB w1 W.heap.size 5 (⟨na,nc,xs⟩ : Tx).v xs := by simp only [Tx.v,hl2.out]; exact HO.out
 have hin := ownB_in (x := ⟨na,nc,xs⟩) ho
 refine ⟨w1.heap.size,⟨na,nc,xs⟩,Nd.zero,fun x => W.heap.size ≤ x ∧ x < w1.heap.size,rfl,⟨?_,rfl,Nd.zero_ok _,Nd.zero_in _,(ownB_ok (x := ⟨na,nc,xs⟩) ho H8.out.1 H8.out.2).below b2,rfl,fun x e _ => hin x e,fun h => Nat.lt_irrefl _ h.2,fun x h => Nat.lt_of_lt_of_le h.2 b2.size⟩,HB.out.size,fun x h => h.1,HB.out.trans (b2.mono HB.out.size)⟩
 rw [← hl2.out] at g2 ⊢
 exact g2
def AtP (W : World) (id : Int) (wd : Nat) (p : NP) (e : Ending) (w' : World) : Prop := ∃ n : Nd,e = .returned (.tuple #[.int .i64 id,.int .u64 (wd : Nat),n.v]) ∧ n.p = p ∧ n.Own w' W.heap.size ∧ Below W.heap.size W w'
set_option maxHeartbeats 3200000 in
theorem dat_any (h : PM W P A k n D m) (hx : 5 ≤ m.nx) : Calls Tryz.prog 116 #[.pointer (some ⟨P,0,none⟩)] W (AtP W m.id m.wd m.nd) := by
 have hl := lt_of_block h.c
 have hf : nxV P m.nx = .nilFunc := by obtain ⟨q,hq⟩ : ∃ q,m.nx = q + 5 := ⟨m.nx - 5,by omega⟩; rw [hq]; rfl
 have h0 := h.c
 unfold mcel at h0
 rw [hf] at h0
 have HCL : Hid (∀ W',Below W.heap.size W W' → Calls Tryz.prog 141 #[n.v] W' (ClPost W' n)) := fun W' hb => clone_any n W' (h.no.below hb)
 have HNP := hide h.np
 generalize m.id = id at *
 generalize m.wd = wd at *
 generalize m.nd = nd at *
 generalize m.an = an at *
 generalize m.mo = mo at *
 generalize m.lev = lev at *
 generalize k.v = kv at *
 clear h hf hx
 obtain ⟨w1,hw1⟩ : ∃ w1,w1 = W.alloc (.cells #[.int .i64 0,.slice none 0 0,.int .i64 0,.slice none 0 0,.slice none 0 0,.slice none 0 0] 110) := ⟨_,rfl⟩
 have b1 : Below W.heap.size W w1 := by rw [hw1]; exact (Below.refl _ _).alloc (Nat.le_refl _) _
 have h1 := (b1.block P hl).trans h0
 have HNN : Hid (n.v = .agg #[.int .i64 n.lv,n.hi.v,.int .i64 n.ri,n.ks.v,n.vs.v,n.cs.v]) := rfl
 rw [HNN.out] at HCL
 clear HNN
 have HN : Hid (∃ nn,nn = n) := ⟨n,rfl⟩
 obtain ⟨lv,⟨ha,hc,hs⟩,ri,⟨ka,kc,K⟩,⟨va,vc,V⟩,⟨ca,cc,C⟩⟩ := n
 simp only [Tx.v,TL.v,IL.v] at h1 HCL
 generalize hs.length = lh at *
 generalize K.length = lk at *
 generalize V.length = lw at *
 generalize C.length = lc at *
 have G1 : Hid (w1.heap[W.heap.size]? = some (.cells #[.int .i64 0,.slice none 0 0,.int .i64 0,.slice none 0 0,.slice none 0 0,.slice none 0 0] 110 (0,0))) := by show _ = _; rw [hw1]; exact heap_alloc_new W _
 have c3 : w1.cell? ⟨P,3,none⟩ = some .nilFunc := by rw [cell_of_row _ _ _ _ _ _ h1]; rfl
 have c4 : w1.cell? ⟨P,4,none⟩ = some (.int .i64 id) := by rw [cell_of_row _ _ _ _ _ _ h1]; rfl
 have c5 : w1.cell? ⟨P,5,none⟩ = some (.int .u64 (wd : Nat)) := by rw [cell_of_row _ _ _ _ _ _ h1]; rfl
 have c6 : w1.cell? ⟨P,6,none⟩ = some (.int .i64 lv) := by rw [cell_of_row _ _ _ _ _ _ h1]; rfl
 have c7 : w1.cell? ⟨P,7,none⟩ = some (.slice ha lh hc) := by rw [cell_of_row _ _ _ _ _ _ h1]; rfl
 have c8 : w1.cell? ⟨P,8,none⟩ = some (.int .i64 ri) := by rw [cell_of_row _ _ _ _ _ _ h1]; rfl
 have c9 : w1.cell? ⟨P,9,none⟩ = some (.slice ka lk kc) := by rw [cell_of_row _ _ _ _ _ _ h1]; rfl
 have c10 : w1.cell? ⟨P,10,none⟩ = some (.slice va lw vc) := by rw [cell_of_row _ _ _ _ _ _ h1]; rfl
 have c11 : w1.cell? ⟨P,11,none⟩ = some (.slice ca lc cc) := by rw [cell_of_row _ _ _ _ _ _ h1]; rfl
 have q1 := fneq0 w1
 have hne : ¬ P = W.heap.size := by omega
 have hne2 : ¬ W.heap.size = P := by omega
 have hl1 := lt_of_block h1
 have hl2 := lt_of_block G1.out
 have HW := hide hw1
 have B1 := hide b1
 clear h0 h1 hw1 b1 HN
 go_enter Tryz.func116,Tryz.ntmps116
 go_upto_region 1 with fail
 rw [← HW.out]
 clear HW
 go_wp2_with fail
 go_region_held3 (fun W' => W'.cell? ⟨P,4,none⟩ = some (.int .i64 id) ∧ W'.cell? ⟨P,5,none⟩ = some (.int .u64 (wd : Nat)) ∧ W'.cell? ⟨P,6,none⟩ = some (.int .i64 lv) ∧ W'.cell? ⟨P,7,none⟩ = some (.slice ha lh hc) ∧ W'.cell? ⟨P,8,none⟩ = some (.int .i64 ri) ∧ W'.cell? ⟨P,9,none⟩ = some (.slice ka lk kc) ∧ W'.cell? ⟨P,10,none⟩ = some (.slice va lw vc) ∧ W'.cell? ⟨P,11,none⟩ = some (.slice ca lc cc)) (go_keep) (first
  | (go_at_call 141; refine (HCL.out _ (below_drew B1.out)).mono ?_; rintro e w2 ⟨⟨nlv,⟨nha,nhc,nhs⟩,nri,⟨nka,nkc,NK⟩,⟨nva,nvc,NV⟩,⟨nca,ncc,NC⟩⟩,rfl,hp2,ho2,hb2⟩; have g2 := (hb2.block _ hl2).trans G1.out; have F5 := (fun j => frozen_of g2 j); obtain ⟨y0,y1,y2,y3,y4,y5⟩ := Six.of g2; have z4 := (hb2.cell (p := ⟨P,4,none⟩) hl1).trans c4; have z5 := (hb2.cell (p := ⟨P,5,none⟩) hl1).trans c5; have z6 := (hb2.cell (p := ⟨P,6,none⟩) hl1).trans c6; have z7 := (hb2.cell (p := ⟨P,7,none⟩) hl1).trans c7; have z8 := (hb2.cell (p := ⟨P,8,none⟩) hl1).trans c8; have z9 := (hb2.cell (p := ⟨P,9,none⟩) hl1).trans c9; have z10 := (hb2.cell (p := ⟨P,10,none⟩) hl1).trans c10; have z11 := (hb2.cell (p := ⟨P,11,none⟩) hl1).trans c11; have HT := hide (And.intro hp2 (And.intro ho2 (And.intro hb2 g2))); clear hp2 ho2 hb2 g2; simp only [Nd.v,Tx.v,TL.v,IL.v]; obtain ⟨nlh,hq1⟩ : ∃ x,nhs.length = x := ⟨_,rfl⟩; obtain ⟨nlk,hq2⟩ : ∃ x,NK.length = x := ⟨_,rfl⟩; obtain ⟨nlw,hq3⟩ : ∃ x,NV.length = x := ⟨_,rfl⟩; obtain ⟨nlc,hq4⟩ : ∃ x,NC.length = x := ⟨_,rfl⟩; rw [hq1,hq2,hq3,hq4]; have HQ := hide (And.intro hq1 (And.intro hq2 (And.intro hq3 hq4))); clear hq1 hq2 hq3 hq4)
  | fail)
 go_wp2_with fail
 have G6 := six_block HT.out.2.2.2 (.int .i64 nlv) (.slice nha nlh nhc) (.int .i64 nri) (.slice nka nlk nkc) (.slice nva nlw nvc) (.slice nca nlc ncc)
 have U6 : Upd (fun b => b = W.heap.size) w2 (six6 w2 W.heap.size (.int .i64 nlv) (.slice nha nlh nhc) (.int .i64 nri) (.slice nka nlk nkc) (.slice nva nlw nvc) (.slice nca nlc ncc)) := six_upd _ _ _ _ _ _ _ _ _ rfl
 obtain ⟨q0,q1,q2,q3,q4,q5⟩ := Six.of G6
 show bodyPost _ _ _ _ _ (six6 w2 W.heap.size (.int .i64 nlv) (.slice nha nlh nhc) (.int .i64 nri) (.slice nka nlk nkc) (.slice nva nlw nvc) (.slice nca nlc ncc))
 generalize six6 w2 W.heap.size (.int .i64 nlv) (.slice nha nlh nhc) (.int .i64 nri) (.slice nka nlk nkc) (.slice nva nlw nvc) (.slice nca nlc ncc) = w6 at *
 have hB2 : Below W.heap.size W w2 := (below_drew B1.out).trans (HT.out.2.2.1.mono B1.out.size)
 refine bodyPost_ret (v := .tuple #[.int .i64 id,.int .u64 (wd : Nat),.agg #[.int .i64 nlv,.slice nha nlh nhc,.int .i64 nri,.slice nka nlk nkc,.slice nva nlw nvc,.slice nca nlc ncc]]) (by simp [results,Tryz.results116,go_sem,q0,q1,q2,q3,q4,q5]) rfl ⟨⟨nlv,⟨nha,nhc,nhs⟩,nri,⟨nka,nkc,NK⟩,⟨nva,nvc,NV⟩,⟨nca,ncc,NC⟩⟩,?_,HT.out.1.trans HNP.out,?_,?_⟩
 ·simp only [Nd.v,Tx.v,TL.v,IL.v,HQ.out.1,HQ.out.2.1,HQ.out.2.2.1,HQ.out.2.2.2]
 ·exact (HT.out.2.1.upd U6 (fun b h1 _ e => by have : w1.drew.heap.size = w1.heap.size := rfl; omega)).mono B1.out.size
 ·exact hB2.trans (U6.below hB2.size (fun k hk e => by omega))
end
end Go.Proofs.YtljnapejgjffjaaGreat
