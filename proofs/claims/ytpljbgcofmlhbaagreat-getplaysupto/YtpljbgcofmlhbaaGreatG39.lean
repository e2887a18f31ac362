/- A descent: the document's VALID, and Step of any machine. -/
import Derived.Test.YtpljbgcofmlhbaaGreatG38
import Derived.Test.YtpljbgcofmlhbaaGreatG35
namespace Go.Proofs.YtpljbgcofmlhbaaGreat
open Go.RowKit
set_option maxRecDepth 100000
section
variable {W : World} {P A : Nat} {F : Nat → Prop} {s : AS} {id : Int} {a0 a1 a2 a3 a4 a5 a6 a7 a8 a9 a10 a11 a12 a13 a14 : Value} {b0 b1 b2 b3 b4 b5 b6 b7 b8 b9 b10 b11 b12 b13 b14 : Value}
theorem rwordQ (hp : RX W A F s) (id : Int) (q : Nat) : Calls Tryz.prog 98 #[.pointer (some ⟨A, 0, none⟩), .int .i64 id] (W.drewN q) fun e w' => e = .returned (.tuple #[.int .u64 (s.wordW id : Nat), .int .i64 (s.wordE id)]) ∧ ∃ m, w' = W.drewN m :=
 (rx_word (hp.drewN q) id).mono fun _ _ ⟨h1, h2⟩ => ⟨h1, q, h2⟩
set_option maxHeartbeats 1600000 in
theorem rstep_valid_not (h : W.heap[P]? = some (.cells #[a0, a1, a2, a3, a4, a5, a6, a7, a8, a9, a10, a11, a12, a13, a14] 196 (0, 0))) (ha : a0 = .pointer (some ⟨A, 0, none⟩)) (h3 : a3 = .int .i64 4) (hi : a4 = .int .i64 id) (hp : RX W A F s) (hin : ¬ s.inn id) : Calls Tryz.prog 66 #[.pointer (some ⟨P, 0, none⟩)] W (MrP W P #[a0, a1, a2, .int .i64 5, a4, a5, a6, a7, a8, a9, a10, a11, a12, a13, a14] (.bool true)) := by
 have HQ := hide (rwordQ hp id)
 rw [show s.wordE id = 101 from if_neg hin, show s.wordW id = 0 from if_neg hin] at HQ
 subst ha
 subst h3
 subst hi
 have c0 : W.cell? ⟨P, 0, none⟩ = some (.pointer (some ⟨A, 0, none⟩)) := by rw [cell_of_row _ _ _ _ _ _ h]; rfl
 have c3 : W.cell? ⟨P, 3, none⟩ = some (.int .i64 4) := by rw [cell_of_row _ _ _ _ _ _ h]; rfl
 have c4 : W.cell? ⟨P, 4, none⟩ = some (.int .i64 id) := by rw [cell_of_row _ _ _ _ _ _ h]; rfl
 have F0 := fun j => frozen_of h j
 have HH := hide h
 clear h hp
 go_enter Tryz.func66, Tryz.ntmps66
 go_wp2_with fail
 go_quiet ((go_at_call 98; with_reducible exact HQ.out _))
 clear HQ
 go_wp2_with fail
 go_ret
 exact ⟨rfl, (m15_3 HH.out _), (updP (upd_drewN _ _ _) _ _)⟩
set_option maxHeartbeats 1600000 in
theorem rstep_valid_go (h : W.heap[P]? = some (.cells #[a0, a1, a2, a3, a4, a5, a6, a7, a8, a9, a10, a11, a12, a13, a14] 196 (0, 0))) (ha : a0 = .pointer (some ⟨A, 0, none⟩)) (h3 : a3 = .int .i64 4) (hi : a4 = .int .i64 id) (hp : RX W A F s) (hin : s.inn id) {nx : Nat} (hnx : nx < 5) (hb : b3 = .int .i64 (nx : Nat)) (hc : ∀ q, Calls Tryz.prog 117 #[.pointer (some ⟨P, 0, none⟩), .int .u64 (s.w id : Nat)] (W.drewN q) (MrP (W.drewN q) P #[b0, b1, b2, b3, b4, b5, b6, b7, b8, b9, b10, b11, b12, b13, b14] (.tuple #[]))) : Calls Tryz.prog 66 #[.pointer (some ⟨P, 0, none⟩)] W (MrP W P #[b0, b1, b2, b3, b4, b5, b6, b7, b8, b9, b10, b11, b12, b13, b14] (.bool false)) := by
 have HQ := hide (rwordQ hp id)
 have HC := hide hc
 rw [show s.wordE id = 0 from if_pos hin, show s.wordW id = s.w id from if_pos hin] at HQ
 generalize s.w id = x at *
 clear hc
 subst hb
 subst ha
 subst h3
 subst hi
 have c0 : W.cell? ⟨P, 0, none⟩ = some (.pointer (some ⟨A, 0, none⟩)) := by rw [cell_of_row _ _ _ _ _ _ h]; rfl
 have c3 : W.cell? ⟨P, 3, none⟩ = some (.int .i64 4) := by rw [cell_of_row _ _ _ _ _ _ h]; rfl
 have c4 : W.cell? ⟨P, 4, none⟩ = some (.int .i64 id) := by rw [cell_of_row _ _ _ _ _ _ h]; rfl
 have F0 := fun j => frozen_of h j
 have HH := hide h
 clear h hp
 have j9 : ¬ ((nx : Int) = 5) := by omega
 clear hnx
 go_enter Tryz.func66, Tryz.ntmps66
 go_wp2_with fail
 go_quiet ((go_at_call 98; with_reducible exact HQ.out _))
 clear HQ
 go_wp2_with fail
 refine (HC.out _).mono ?_
 rintro e w9 ⟨rfl, g9, u9⟩
 have d3 : w9.cell? ⟨P, 3, none⟩ = some (.int .i64 (nx : Nat)) := by rw [cell_of_row _ _ _ _ _ _ g9]; rfl
 have HG := hide g9
 have HU : Hid (Upd (fun k => k = P) W w9) := (upd_drewN _ _ _).trans u9
 clear g9 u9 HC
 go_wp2_with fail
 go_ret
 exact ⟨by simp [j9], HG.out, HU.out⟩
set_option maxHeartbeats 1600000 in
theorem rstep_valid_end (h : W.heap[P]? = some (.cells #[a0, a1, a2, a3, a4, a5, a6, a7, a8, a9, a10, a11, a12, a13, a14] 196 (0, 0))) (ha : a0 = .pointer (some ⟨A, 0, none⟩)) (h3 : a3 = .int .i64 4) (hi : a4 = .int .i64 id) (hp : RX W A F s) (hin : s.inn id) (hb : b3 = .int .i64 5) (hc : ∀ q, Calls Tryz.prog 117 #[.pointer (some ⟨P, 0, none⟩), .int .u64 (s.w id : Nat)] (W.drewN q) (MrP (W.drewN q) P #[b0, b1, b2, b3, b4, b5, b6, b7, b8, b9, b10, b11, b12, b13, b14] (.tuple #[]))) : Calls Tryz.prog 66 #[.pointer (some ⟨P, 0, none⟩)] W (MrP W P #[b0, b1, b2, b3, b4, b5, b6, b7, b8, b9, b10, b11, b12, b13, b14] (.bool true)) := by
 have HQ := hide (rwordQ hp id)
 have HC := hide hc
 rw [show s.wordE id = 0 from if_pos hin, show s.wordW id = s.w id from if_pos hin] at HQ
 generalize s.w id = x at *
 clear hc
 subst hb
 subst ha
 subst h3
 subst hi
 have c0 : W.cell? ⟨P, 0, none⟩ = some (.pointer (some ⟨A, 0, none⟩)) := by rw [cell_of_row _ _ _ _ _ _ h]; rfl
 have c3 : W.cell? ⟨P, 3, none⟩ = some (.int .i64 4) := by rw [cell_of_row _ _ _ _ _ _ h]; rfl
 have c4 : W.cell? ⟨P, 4, none⟩ = some (.int .i64 id) := by rw [cell_of_row _ _ _ _ _ _ h]; rfl
 have F0 := fun j => frozen_of h j
 have HH := hide h
 clear h hp
 go_enter Tryz.func66, Tryz.ntmps66
 go_wp2_with fail
 go_quiet ((go_at_call 98; with_reducible exact HQ.out _))
 clear HQ
 go_wp2_with fail
 refine (HC.out _).mono ?_
 rintro e w9 ⟨rfl, g9, u9⟩
 have d3 : w9.cell? ⟨P, 3, none⟩ = some (.int .i64 5) := by rw [cell_of_row _ _ _ _ _ _ g9]; rfl
 have HG := hide g9
 have HU : Hid (Upd (fun k => k = P) W w9) := (upd_drewN _ _ _).trans u9
 clear g9 u9 HC
 go_wp2_with fail
 go_ret
 exact ⟨rfl, HG.out, HU.out⟩
end
end Go.Proofs.YtpljbgcofmlhbaaGreat
namespace Go.Proofs.YtpljbgcofmlhbaaGreat
open Go.RowKit
set_option maxRecDepth 100000
structure RMS where
 key : List Int
 lev : Int
 nx : Nat
 id : Int
 wd : Nat
 nd : NP
 th : Bool
 an : Nat
 mo : Nat
def RMS.new (key : List Int) (lev : Int) : RMS := ⟨key, lev, 0, 0, 0, NP.zero, false, 0, 0⟩
def RMS.decide (m : RMS) (x : Nat) : RMS :=
 if ¬ x = m.wd then ⟨m.key, m.lev, 0, m.id, m.wd, m.nd, m.th, m.an + 1, m.mo⟩
 else if m.nd.lv < m.lev then ⟨m.key, m.lev, 5, m.id, m.wd, m.nd, m.th, m.an, m.mo⟩
 else if beyB m.nd.hi m.key = true then ⟨m.key, m.lev, 1, m.nd.ri, m.wd, m.nd, m.th, m.an, m.mo + 1⟩
 else if m.nd.lv = m.lev then ⟨m.key, m.lev, 5, m.id, m.wd, m.nd, true, m.an, m.mo⟩
 else ⟨m.key, m.lev, 1, chiN m.nd.ks m.nd.cs m.key, m.wd, m.nd, m.th, m.an, m.mo⟩
def RMS.step (m : RMS) (s : AS) : RMS :=
 if m.nx = 0 then ⟨m.key, m.lev, 1, s.root, m.wd, m.nd, m.th, m.an, m.mo⟩
 else if m.nx = 1 then
  if ¬ s.inn m.id then ⟨m.key, m.lev, 5, m.id, 0, m.nd, m.th, m.an, m.mo⟩
  else if s.w m.id % 2 = 0 then ⟨m.key, m.lev, 2, m.id, s.w m.id, m.nd, m.th, m.an, m.mo⟩ else ⟨m.key, m.lev, 1, m.id, s.w m.id, m.nd, m.th, m.an, m.mo⟩
 else if m.nx = 2 then
  if ¬ s.inn m.id then ⟨m.key, m.lev, 5, m.id, m.wd, m.nd.setH (s.rd m.id).lv (s.rd m.id).hi (s.rd m.id).ri, m.th, m.an, m.mo⟩ else ⟨m.key, m.lev, 3, m.id, m.wd, m.nd.setH (s.rd m.id).lv (s.rd m.id).hi (s.rd m.id).ri, m.th, m.an, m.mo⟩
 else if m.nx = 3 then
  if ¬ s.inn m.id then ⟨m.key, m.lev, 5, m.id, m.wd, m.nd.setB (s.rd m.id).ks (s.rd m.id).vs (s.rd m.id).cs, m.th, m.an, m.mo⟩ else ⟨m.key, m.lev, 4, m.id, m.wd, m.nd.setB (s.rd m.id).ks (s.rd m.id).vs (s.rd m.id).cs, m.th, m.an, m.mo⟩
 else if m.nx = 4 then
  if ¬ s.inn m.id then ⟨m.key, m.lev, 5, m.id, m.wd, m.nd, m.th, m.an, m.mo⟩ else m.decide (s.w m.id)
 else m
def rcel (A : Nat) (k : Tx) (n : Nd) (m : RMS) : Array Value :=
 #[.pointer (some ⟨A, 0, none⟩), k.v, .int .i64 m.lev, .int .i64 (m.nx : Nat), .int .i64 m.id, .int .u64 (m.wd : Nat), .int .i64 n.lv, n.hi.v, .int .i64 n.ri, n.ks.v, n.vs.v, n.cs.v, .bool m.th, .int .i64 (m.an : Nat), .int .i64 (m.mo : Nat)]
structure RM (W : World) (P A : Nat) (k : Tx) (n : Nd) (D : Nat → Prop) (m : RMS) : Prop where
 c : W.heap[P]? = some (.cells (rcel A k n m) 196 (0, 0))
 np : n.p = m.nd
 no : n.Ok W
 ni : n.In D
 ko : k.Ok W
 ks : k.s = m.key
 ki : ∀ x, k.a = some x → 0 < k.s.length → D x.block
 pd : ¬ D P
 lt : ∀ x, D x → x < W.heap.size
 nx : m.nx ≤ 5
def RNx (W : World) (P A : Nat) (k : Tx) (D : Nat → Prop) (m : RMS) (w' : World) : Prop := ∃ n D', RM w' P A k n D' m ∧ (∀ x, D' x → D x ∨ W.heap.size ≤ x) ∧ Upd (fun k => k = P) W w'
section
variable {W w' : World} {P A : Nat} {k : Tx} {n n' : Nd} {D F : Nat → Prop} {m m' : RMS} {s : AS}
theorem RM.upd {S : Nat → Prop} (h : RM W P A k n D m) (hu : Upd S W w') (hs : ∀ x, x = P ∨ D x → ¬ S x) : RM w' P A k n D m :=
 ⟨hu.heap h.c (hs P (.inl rfl)), h.np, h.no.upd h.ni hu (fun x hx => hs x (.inr hx)), h.ni, h.ko.updL hu (fun x e l => hs _ (.inr (h.ki x e l))), h.ks, h.ki, h.pd, fun x hx => Nat.lt_of_lt_of_le (h.lt x hx) hu.size, h.nx⟩
theorem RM.next (h : RM W P A k n D m) (hc : w'.heap[P]? = some (.cells (rcel A k n' m') 196 (0, 0))) (hu : Upd (fun k => k = P) W w') (hk : m'.key = m.key) (hp : n'.p = m'.nd) (hn : n'.Ok w') (hi : n'.In (fun x => D x ∨ (W.heap.size ≤ x ∧ x < w'.heap.size))) (hx : m'.nx ≤ 5) : RNx W P A k D m' w' := by
 have hl := lt_of_block h.c
 refine ⟨n', fun x => D x ∨ (W.heap.size ≤ x ∧ x < w'.heap.size), ⟨hc, hp, hn, hi, h.ko.updL hu (fun x e l e' => h.pd (e' ▸ h.ki x e l)), by rw [hk]; exact h.ks, fun x e l => .inl (h.ki x e l), ?_, ?_, hx⟩, ?_, hu⟩
 ·rintro (h1 | h1)
  ·exact h.pd h1
  ·omega
 ·rintro x (h1 | h1)
  ·exact Nat.lt_of_lt_of_le (h.lt x h1) hu.size
  ·exact h1.2
 ·rintro x (h1 | h1)
  ·exact .inl h1
  ·exact .inr h1.1
theorem RM.keepN (h : RM W P A k n D m) (hc : w'.heap[P]? = some (.cells (rcel A k n m') 196 (0, 0))) (hu : Upd (fun k => k = P) W w') (hk : m'.key = m.key) (hp : m'.nd = m.nd) (hx : m'.nx ≤ 5) : RNx W P A k D m' w' :=
 h.next hc hu hk (by rw [hp]; exact h.np) (h.no.upd h.ni hu (fun x hx e => h.pd (e ▸ hx))) (h.ni.mono fun x hx => .inl hx) hx
theorem RM.headN (h : RM W P A k n D m) {lv ri : Int} {t : Tx} (hc : w'.heap[P]? = some (.cells (rcel A k ⟨lv, t, ri, n.ks, n.vs, n.cs⟩ m') 196 (0, 0))) (hu : Upd (fun k => k = P) W w') (hk : m'.key = m.key) (hp : m'.nd = m.nd.setH lv t.s ri) (ho : OwnB w' W.heap.size 5 t.v t.s) (h8 : B8 t.s) (hz : t.s.length ≤ 140737488351232) (hx : m'.nx ≤ 5) : RNx W P A k D m' w' := by
 have hn := h.no.upd h.ni hu (fun x hx e => h.pd (e ▸ hx))
 refine h.next hc hu hk ?_ ⟨ownB_ok ho h8 hz, hn.k, hn.v, hn.c, hn.kz, hn.vz, hn.cz⟩ ⟨fun x e _ => .inr (ownB_in ho x e), fun x e l => .inl (h.ni.k x e l), fun y hy x e l => .inl (h.ni.ke y hy x e l), fun x e l => .inl (h.ni.v x e l), fun y hy x e l => .inl (h.ni.ve y hy x e l), fun x e l => .inl (h.ni.c x e l)⟩ hx
 rw [hp, ← h.np]
 rfl
theorem RM.bodyN (h : RM W P A k n D m) {ks vs : TL} {cs : IL} (hc : w'.heap[P]? = some (.cells (rcel A k ⟨n.lv, n.hi, n.ri, ks, vs, cs⟩ m') 196 (0, 0))) (hu : Upd (fun k => k = P) W w') (hk : m'.key = m.key) (hp : m'.nd = m.nd.setB ks.p vs.p cs.s) (h1 : ks.Own w' W.heap.size) (h2 : vs.Own w' W.heap.size) (h3 : w'.ownsRow W.heap.size 3 1 cs.v cs.s.length (cs.s.map (Value.int .i64))) (hz : ks.L.length * 24 ≤ 140737488352000 ∧ vs.L.length * 24 ≤ 140737488352000 ∧ cs.s.length * 8 ≤ 140737488352000) (hx : m'.nx ≤ 5) : RNx W P A k D m' w' := by
 have hn := h.no.upd h.ni hu (fun x hx e => h.pd (e ▸ hx))
 refine h.next hc hu hk ?_ ⟨hn.h, h1.ok, h2.ok, il_of_owns h3, hz.1, hz.2.1, hz.2.2⟩ ⟨fun x e l => .inl (h.ni.h x e l), fun x e _ => .inr (owns_in h1.row x e), fun t ht x e _ => .inr (ownB_in (h1.each t ht) x e), fun x e _ => .inr (owns_in h2.row x e), fun t ht x e _ => .inr (ownB_in (h2.each t ht) x e), fun x e _ => .inr (owns_in h3 x e)⟩ hx
 rw [hp, ← h.np]
 rfl
def RSpP (W : World) (P A : Nat) (k : Tx) (D : Nat → Prop) (m : RMS) (e : Ending) (w' : World) : Prop := e = .returned (.bool (decide (m.nx = 5))) ∧ RNx W P A k D m w'
theorem rdstep_any (h : RM W P A k n D m) (hp : RX W A F s) (han : m.an < 4611686018427387904) (hmo : m.mo < 4611686018427387904) : Calls Tryz.prog 66 #[.pointer (some ⟨P, 0, none⟩)] W (RSpP W P A k D (m.step s)) := by
 obtain ⟨key, lev, nx, id, wd, nd, th, an, mo⟩ := m
 simp only at han hmo
 have hx : nx ≤ 5 := h.nx
 unfold RMS.step
 simp only
 match nx, h, hx with
 | 0, h, _ =>
  rw [if_pos rfl]
  refine (rstep_root h.c rfl rfl hp).mono ?_
  rintro e w' ⟨rfl, h1, h2⟩
  exact ⟨rfl, h.keepN h1 h2 rfl rfl (by simp)⟩
 | 5, h, _ =>
  rw [if_neg (by omega), if_neg (by omega), if_neg (by omega), if_neg (by omega), if_neg (by omega)]
  refine (rstep_idle h.c rfl).mono ?_
  rintro e w' ⟨rfl, rfl⟩
  exact ⟨rfl, h.keepN h.c (Upd.refl _ _) rfl rfl (by simp)⟩
 | 1, h, _ =>
  rw [if_neg (by omega), if_pos rfl]
  by_cases hin : s.inn id
  ·rw [if_neg (fun e => e hin)]
   by_cases ho : s.w id % 2 = 0
   ·rw [if_pos ho]
    refine (rstep_word_even h.c rfl rfl rfl hp hin ho).mono ?_
    rintro e w' ⟨rfl, h1, h2⟩
    exact ⟨rfl, h.keepN h1 h2 rfl rfl (by simp)⟩
   ·rw [if_neg ho]
    refine (rstep_word_odd h.c rfl rfl rfl hp hin ho).mono ?_
    rintro e w' ⟨rfl, h1, h2⟩
    exact ⟨rfl, h.keepN h1 h2 rfl rfl (by simp)⟩
  ·rw [if_pos hin]
   refine (rstep_word_not h.c rfl rfl rfl hp hin).mono ?_
   rintro e w' ⟨rfl, h1, h2⟩
   exact ⟨rfl, h.keepN h1 h2 rfl rfl (by simp)⟩
 | 2, h, _ =>
  rw [if_neg (by omega), if_neg (by omega), if_pos rfl]
  by_cases hin : s.inn id
  ·rw [if_neg (fun e => e hin)]
   refine (rstep_head_go h.c rfl rfl rfl hp hin).mono ?_
   rintro e w' ⟨t, ⟨rfl, h1, h2⟩, h3, h4, h5, h6⟩
   exact ⟨rfl, h.headN (t := t) h1 h2 rfl (by rw [← h3]) h4 h5 h6 (by simp)⟩
  ·rw [if_pos hin]
   refine (rstep_head_not h.c rfl rfl rfl hp hin).mono ?_
   rintro e w' ⟨t, ⟨rfl, h1, h2⟩, h3, h4, h5, h6⟩
   exact ⟨rfl, h.headN (t := t) h1 h2 rfl (by rw [← h3]) h4 h5 h6 (by simp)⟩
 | 3, h, _ =>
  rw [if_neg (by omega), if_neg (by omega), if_neg (by omega), if_pos rfl]
  by_cases hin : s.inn id
  ·rw [if_neg (fun e => e hin)]
   refine (rstep_body_go h.c rfl rfl rfl hp hin).mono ?_
   rintro e w' ⟨x, y, z, ⟨rfl, h1, h2⟩, h3, h4, h5, h6, h7, h8, h9⟩
   exact ⟨rfl, h.bodyN (ks := x) (vs := y) (cs := z) h1 h2 rfl (by rw [← h3, ← h4, ← h5]) h6 h7 h8 h9 (by simp)⟩
  ·rw [if_pos hin]
   refine (rstep_body_not h.c rfl rfl rfl hp hin).mono ?_
   rintro e w' ⟨x, y, z, ⟨rfl, h1, h2⟩, h3, h4, h5, h6, h7, h8, h9⟩
   exact ⟨rfl, h.bodyN (ks := x) (vs := y) (cs := z) h1 h2 rfl (by rw [← h3, ← h4, ← h5]) h6 h7 h8 h9 (by simp)⟩
 | 4, h, _ =>
  rw [if_neg (by omega), if_neg (by omega), if_neg (by omega), if_neg (by omega), if_pos rfl]
  by_cases hin : s.inn id
  ·rw [if_neg (fun e => e hin)]
   unfold RMS.decide
   simp only
   have hnp : n.p = nd := h.np
   have hks : k.s = key := h.ks
   have e1 : n.lv = nd.lv := by rw [← hnp]; rfl
   have e2 : n.hi.s = nd.hi := by rw [← hnp]; rfl
   have e3 : n.ri = nd.ri := by rw [← hnp]; rfl
   have e4 : n.ks.p = nd.ks := by rw [← hnp]; rfl
   have e5 : n.cs.s = nd.cs := by rw [← hnp]; rfl
   have HQ : ∀ q, RM (W.drewN q) P A k n D ⟨key, lev, 4, id, wd, nd, th, an, mo⟩ := fun q => h.upd (S := Noth) (upd_drewN _ _ _) (fun _ _ e => e)
   by_cases hw : s.w id = wd
   ·rw [if_neg (fun e => e hw)]
    by_cases h1 : nd.lv < lev
    ·rw [if_pos h1]
     refine (rstep_valid_end h.c rfl rfl rfl hp hin rfl (fun q => by rw [hw]; exact decide_low n k (HQ q).c (HQ q).no (HQ q).ko (by rw [e1]; exact h1))).mono ?_
     rintro e w' ⟨rfl, h1, h2⟩
     exact ⟨rfl, h.keepN h1 h2 rfl rfl (by simp)⟩
    rw [if_neg h1]
    by_cases h2 : beyB nd.hi key = true
    ·rw [if_pos h2]
     refine (rstep_valid_go h.c rfl rfl rfl hp hin (nx := 1) (by omega) rfl (fun q => by rw [hw]; exact decide_right n k (HQ q).c (HQ q).no (HQ q).ko hmo (by rw [e1]; exact h1) (by rw [e2, hks]; exact h2))).mono ?_
     rintro e w' ⟨rfl, h1, h2⟩
     refine ⟨rfl, ?_⟩
     rw [← e3]
     exact h.keepN h1 h2 rfl rfl (by simp)
    rw [if_neg h2]
    have h2' : beyB nd.hi key = false := by simpa using h2
    by_cases h3 : nd.lv = lev
    ·rw [if_pos h3]
     refine (rstep_valid_end h.c rfl rfl rfl hp hin rfl (fun q => by rw [hw]; exact decide_here n k (HQ q).c (HQ q).no (HQ q).ko (by rw [e1]; exact h1) (by rw [e2, hks]; exact h2') (by rw [e1]; exact h3))).mono ?_
     rintro e w' ⟨rfl, h1, h2⟩
     exact ⟨rfl, h.keepN h1 h2 rfl rfl (by simp)⟩
    ·rw [if_neg h3]
     refine (rstep_valid_go h.c rfl rfl rfl hp hin (nx := 1) (by omega) rfl (fun q => by rw [hw]; exact decide_child n k (HQ q).c (HQ q).no (HQ q).ko (by rw [e1]; exact h1) (by rw [e2, hks]; exact h2') (by rw [e1]; exact h3))).mono ?_
     rintro e w' ⟨rfl, h1, h2⟩
     rw [e4, e5, hks] at h1
     exact ⟨rfl, h.keepN h1 h2 rfl rfl (by simp)⟩
   ·rw [if_pos hw]
    refine (rstep_valid_go h.c rfl rfl rfl hp hin (nx := 0) (by omega) rfl (fun q => decide_anew n k (HQ q).c (HQ q).no (HQ q).ko han hw)).mono ?_
    rintro e w' ⟨rfl, h1, h2⟩
    exact ⟨rfl, h.keepN h1 h2 rfl rfl (by simp)⟩
  ·rw [if_pos hin]
   refine (rstep_valid_not h.c rfl rfl rfl hp hin).mono ?_
   rintro e w' ⟨rfl, h1, h2⟩
   exact ⟨rfl, h.keepN h1 h2 rfl rfl (by simp)⟩
end
end Go.Proofs.YtpljbgcofmlhbaaGreat
namespace Go.Proofs.YtpljbgcofmlhbaaGreat
open Go.RowKit
set_option maxRecDepth 100000
def RNewP (W : World) (A : Nat) (key : List Int) (lev : Int) (e : Ending) (w' : World) : Prop := ∃ P k n D, e = .returned (.pointer (some ⟨P, 0, none⟩)) ∧ RM w' P A k n D (RMS.new key lev) ∧ W.heap.size ≤ P ∧ (∀ x, D x → W.heap.size ≤ x) ∧ Below W.heap.size W w'
section
variable {W w' : World} {P A : Nat} {k : Tx} {n : Nd} {D F : Nat → Prop} {m : RMS} {s : AS}
set_option maxHeartbeats 1600000 in
theorem rdnew_any (k : Tx) (lev : Int) (hk : k.Ok W) : Calls Tryz.prog 62 #[.pointer (some ⟨A, 0, none⟩), k.v, .int .i64 lev] W (RNewP W A k.s lev) := by
 obtain ⟨i0, hi, hz0, hz1, hz2⟩ := info_parts infoByte'
 have HR := hide hk.r
 have HN := hide hk.n
 have hlz : k.s.length ≤ 140737488351232 := hk.z
 have H8 : Hid (B8 k.s ∧ k.s.length ≤ 140737488351232) := ⟨hk.b8, hk.z⟩
 clear hk
 obtain ⟨xa, xc, xs⟩ := k
 simp only [Tx.v] at HR HN H8 hlz ⊢
 obtain ⟨lx, hlx⟩ : ∃ lx, xs.length = lx := ⟨_, rfl⟩
 rw [hlx] at HN hlz ⊢
 replace hlx := hide hlx
 go_enter Tryz.func62, Tryz.ntmps62
 go_wp2_with (first
  | (at_builtin; refine append_b rfl (.tmp 8) (.tmp 9) 28 rfl W.heap.size 5 i0 Tryz.underlying28 hi hz0 hz1 hz2 (.slice (some ⟨W.heap.size, 0, none⟩) 0 0) [] rfl (OwnB.made #[] 0 (Nat.le_refl _) (by unfold maxLen; omega) rfl (by intro u hu; cases hu)) xa lx xc xs rfl hlx.out HN.out (HR.out.alloc _) (by simp; omega) (by simp) ?_; intro v4 w1 hown4 hg4; simp only [List.nil_append] at hown4; obtain ⟨na, nc, rfl, _, _⟩ := hown4.slice; have HO := hide hown4; have HG := hide hg4; clear hown4 hg4; obtain ⟨l2, hl2⟩ : ∃ l2, xs.length = l2 := ⟨_, rfl⟩; rw [hl2] at HO; try rw [hl2]; replace hl2 := hide hl2)
  | fail)
 go_ret
 have HB : Below W.heap.size W w1 := ((Below.refl _ _).alloc (Nat.le_refl _) _).grown HG.out (by simp) (fun k h => by cases h; exact Nat.le_refl _)
 have b2 : Below w1.heap.size w1 (w1.alloc (.cells #[.pointer (some ⟨A, 0, none⟩), .slice na l2 nc, .int .i64 lev, .int .i64 0, .int .i64 0, .int .u64 0, .int .i64 0, .slice none 0 0, .int .i64 0, .slice none 0 0, .slice none 0 0, .slice none 0 0, .bool false, .int .i64 0, .int .i64 0] 196)) := (Below.refl _ _).alloc (Nat.le_refl _) _
 have g2 := heap_alloc_new w1 (.cells #[.pointer (some ⟨A, 0, none⟩), .slice na l2 nc, .int .i64 lev, .int .i64 0, .int .i64 0, .int .u64 0, .int .i64 0, .slice none 0 0, .int .i64 0, .slice none 0 0, .slice none 0 0, .slice none 0 0, .bool false, .int .i64 0, .int .i64 0] 196)
 have ho : OwnB w1 W.heap.size 5 (⟨na, nc, xs⟩ : Tx).v xs := by simp only [Tx.v, hl2.out]; exact HO.out
 have hin := ownB_in (x := ⟨na, nc, xs⟩) ho
 refine ⟨w1.heap.size, ⟨na, nc, xs⟩, Nd.zero, fun x => W.heap.size ≤ x ∧ x < w1.heap.size, rfl, ⟨?_, rfl, Nd.zero_ok _, Nd.zero_in _, (ownB_ok (x := ⟨na, nc, xs⟩) ho H8.out.1 H8.out.2).below b2, rfl, fun x e _ => hin x e, fun h => Nat.lt_irrefl _ h.2, fun x h => Nat.lt_of_lt_of_le h.2 b2.size, Nat.zero_le _⟩, HB.size, fun x h => h.1, HB.trans (b2.mono HB.size)⟩
 rw [← hl2.out] at g2 ⊢
 exact g2
set_option maxHeartbeats 1600000 in
theorem rdat_not (h : RM W P A k n D m) (hx : m.th = false) : Calls Tryz.prog 67 #[.pointer (some ⟨P, 0, none⟩)] W (AtP W 0 0 NP.zero) := by
 have hl := lt_of_block h.c
 have h0 := h.c
 unfold rcel at h0
 rw [hx] at h0
 obtain ⟨w1, hw1⟩ : ∃ w1, w1 = W.alloc (.cells #[.int .i64 0, .slice none 0 0, .int .i64 0, .slice none 0 0, .slice none 0 0, .slice none 0 0] 36) := ⟨_, rfl⟩
 have b1 : Below W.heap.size W w1 := by rw [hw1]; exact (Below.refl _ _).alloc (Nat.le_refl _) _
 have c12 : w1.cell? ⟨P, 12, none⟩ = some (.bool false) := (b1.cell (p := ⟨P, 12, none⟩) hl).trans (by rw [cell_of_row _ _ _ _ _ _ h0]; rfl)
 have G1 : Hid (w1.heap[W.heap.size]? = some (.cells #[.int .i64 0, .slice none 0 0, .int .i64 0, .slice none 0 0, .slice none 0 0, .slice none 0 0] 36 (0, 0))) := by show _ = _; rw [hw1]; exact heap_alloc_new W _
 obtain ⟨y0, y1, y2, y3, y4, y5⟩ := Six.of G1.out
 have F5 := fun j => frozen_of G1.out j
 have HW := hide hw1
 have B1 := hide b1
 clear h h0 hw1 b1 hx hl
 go_enter Tryz.func67, Tryz.ntmps67
 go_upto_region 1 with fail
 rw [← HW.out]
 go_wp2_with fail
 have G6 := six_block G1.out (.int .i64 0) (.slice none 0 0) (.int .i64 0) (.slice none 0 0) (.slice none 0 0) (.slice none 0 0)
 have U6 : Upd (fun b => b = W.heap.size) w1 (six6 w1 W.heap.size (.int .i64 0) (.slice none 0 0) (.int .i64 0) (.slice none 0 0) (.slice none 0 0) (.slice none 0 0)) := six_upd _ _ _ _ _ _ _ _ _ rfl
 obtain ⟨q0, q1, q2, q3, q4, q5⟩ := Six.of G6
 show bodyPost _ _ _ _ _ (six6 w1 W.heap.size (.int .i64 0) (.slice none 0 0) (.int .i64 0) (.slice none 0 0) (.slice none 0 0) (.slice none 0 0))
 generalize six6 w1 W.heap.size (.int .i64 0) (.slice none 0 0) (.int .i64 0) (.slice none 0 0) (.slice none 0 0) (.slice none 0 0) = w6 at *
 refine bodyPost_ret (v := .tuple #[.int .i64 0, .int .u64 0, .agg #[.int .i64 0, .slice none 0 0, .int .i64 0, .slice none 0 0, .slice none 0 0, .slice none 0 0]]) (by simp [results, Tryz.results67, go_sem, q0, q1, q2, q3, q4, q5]) rfl ⟨Nd.zero, rfl, rfl, Nd.zero_own _ _, ?_⟩
 exact B1.out.trans (U6.below B1.out.size (fun k hk e => by omega))
set_option maxRecDepth 100000 in
set_option maxHeartbeats 3200000 in
theorem rdat_any (h : RM W P A k n D m) (hx : m.th = true) : Calls Tryz.prog 67 #[.pointer (some ⟨P, 0, none⟩)] W (AtP W m.id m.wd m.nd) := by
 have hl := lt_of_block h.c
 have h0 := h.c
 unfold rcel at h0
 rw [hx] at h0
 have HCL : Hid (∀ W', Below W.heap.size W W' → Calls Tryz.prog 107 #[n.v] W' (ClPost W' n)) := fun W' hb => (rclone_any n W' (h.no.below hb)).mono fun _ _ h => by obtain ⟨m, _, _, h1, h2, h3, h4, _⟩ := h; exact ⟨m, h1, h2, h3, h4⟩
 have HNP := hide h.np
 generalize m.id = id at *
 generalize m.wd = wd at *
 generalize m.nd = nd at *
 generalize m.an = an at *
 generalize m.mo = mo at *
 generalize m.lev = lev at *
 generalize m.nx = nx at *
 generalize k.v = kv at *
 clear h hx
 obtain ⟨w1, hw1⟩ : ∃ w1, w1 = W.alloc (.cells #[.int .i64 0, .slice none 0 0, .int .i64 0, .slice none 0 0, .slice none 0 0, .slice none 0 0] 36) := ⟨_, rfl⟩
 have b1 : Below W.heap.size W w1 := by rw [hw1]; exact (Below.refl _ _).alloc (Nat.le_refl _) _
 have h1 := (b1.block P hl).trans h0
 have HNN : Hid (n.v = .agg #[.int .i64 n.lv, n.hi.v, .int .i64 n.ri, n.ks.v, n.vs.v, n.cs.v]) := rfl
 rw [HNN.out] at HCL
 clear HNN
 obtain ⟨lv, ⟨ha, hc, hs⟩, ri, ⟨ka, kc, K⟩, ⟨va, vc, V⟩, ⟨ca, cc, C⟩⟩ := n
 simp only [Tx.v, TL.v, IL.v] at h1 HCL
 generalize hs.length = lh at *
 generalize K.length = lk at *
 generalize V.length = lw at *
 generalize C.length = lc at *
 have G1 : Hid (w1.heap[W.heap.size]? = some (.cells #[.int .i64 0, .slice none 0 0, .int .i64 0, .slice none 0 0, .slice none 0 0, .slice none 0 0] 36 (0, 0))) := by show _ = _; rw [hw1]; exact heap_alloc_new W _
 have c12 : w1.cell? ⟨P, 12, none⟩ = some (.bool true) := by rw [cell_of_row _ _ _ _ _ _ h1]; rfl
 have c4 : w1.cell? ⟨P, 4, none⟩ = some (.int .i64 id) := by rw [cell_of_row _ _ _ _ _ _ h1]; rfl
 have c5 : w1.cell? ⟨P, 5, none⟩ = some (.int .u64 (wd : Nat)) := by rw [cell_of_row _ _ _ _ _ _ h1]; rfl
 have c6 : w1.cell? ⟨P, 6, none⟩ = some (.int .i64 lv) := by rw [cell_of_row _ _ _ _ _ _ h1]; rfl
 have c7 : w1.cell? ⟨P, 7, none⟩ = some (.slice ha lh hc) := by rw [cell_of_row _ _ _ _ _ _ h1]; rfl
 have c8 : w1.cell? ⟨P, 8, none⟩ = some (.int .i64 ri) := by rw [cell_of_row _ _ _ _ _ _ h1]; rfl
 have c9 : w1.cell? ⟨P, 9, none⟩ = some (.slice ka lk kc) := by rw [cell_of_row _ _ _ _ _ _ h1]; rfl
 have c10 : w1.cell? ⟨P, 10, none⟩ = some (.slice va lw vc) := by rw [cell_of_row _ _ _ _ _ _ h1]; rfl
 have c11 : w1.cell? ⟨P, 11, none⟩ = some (.slice ca lc cc) := by rw [cell_of_row _ _ _ _ _ _ h1]; rfl
 have hne : ¬ P = W.heap.size := by omega
 have hne2 : ¬ W.heap.size = P := by omega
 have hl1 := lt_of_block h1
 have hl2 := lt_of_block G1.out
 have HW := hide hw1
 have B1 := hide b1
 clear h0 h1 hw1 b1
 go_enter Tryz.func67, Tryz.ntmps67
 go_upto_region 1 with fail
 rw [← HW.out]
 clear HW
 go_wp2_with fail
 go_region_held3 (fun W' => W'.cell? ⟨P, 4, none⟩ = some (.int .i64 id) ∧ W'.cell? ⟨P, 5, none⟩ = some (.int .u64 (wd : Nat)) ∧ W'.cell? ⟨P, 6, none⟩ = some (.int .i64 lv) ∧ W'.cell? ⟨P, 7, none⟩ = some (.slice ha lh hc) ∧ W'.cell? ⟨P, 8, none⟩ = some (.int .i64 ri) ∧ W'.cell? ⟨P, 9, none⟩ = some (.slice ka lk kc) ∧ W'.cell? ⟨P, 10, none⟩ = some (.slice va lw vc) ∧ W'.cell? ⟨P, 11, none⟩ = some (.slice ca lc cc)) (go_keep) (first
  | (go_at_call 107; refine (HCL.out _ (below_drew B1.out)).mono ?_; rintro e w2 ⟨⟨nlv, ⟨nha, nhc, nhs⟩, nri, ⟨nka, nkc, NK⟩, ⟨nva, nvc, NV⟩, ⟨nca, ncc, NC⟩⟩, rfl, hp2, ho2, hb2⟩; have g2 := (hb2.block _ hl2).trans G1.out; have F5 := (fun j => frozen_of g2 j); obtain ⟨y0, y1, y2, y3, y4, y5⟩ := Six.of g2; have z4 := (hb2.cell (p := ⟨P, 4, none⟩) hl1).trans c4; have z5 := (hb2.cell (p := ⟨P, 5, none⟩) hl1).trans c5; have z6 := (hb2.cell (p := ⟨P, 6, none⟩) hl1).trans c6; have z7 := (hb2.cell (p := ⟨P, 7, none⟩) hl1).trans c7; have z8 := (hb2.cell (p := ⟨P, 8, none⟩) hl1).trans c8; have z9 := (hb2.cell (p := ⟨P, 9, none⟩) hl1).trans c9; have z10 := (hb2.cell (p := ⟨P, 10, none⟩) hl1).trans c10; have z11 := (hb2.cell (p := ⟨P, 11, none⟩) hl1).trans c11; have HT := hide (And.intro hp2 (And.intro ho2 (And.intro hb2 g2))); clear hp2 ho2 hb2 g2; simp only [Nd.v, Tx.v, TL.v, IL.v]; obtain ⟨nlh, hq1⟩ : ∃ x, nhs.length = x := ⟨_, rfl⟩; obtain ⟨nlk, hq2⟩ : ∃ x, NK.length = x := ⟨_, rfl⟩; obtain ⟨nlw, hq3⟩ : ∃ x, NV.length = x := ⟨_, rfl⟩; obtain ⟨nlc, hq4⟩ : ∃ x, NC.length = x := ⟨_, rfl⟩; rw [hq1, hq2, hq3, hq4]; have HQ := hide (And.intro hq1 (And.intro hq2 (And.intro hq3 hq4))); clear hq1 hq2 hq3 hq4)
  | fail)
 go_wp2_with fail
 have G6 := six_block HT.out.2.2.2 (.int .i64 nlv) (.slice nha nlh nhc) (.int .i64 nri) (.slice nka nlk nkc) (.slice nva nlw nvc) (.slice nca nlc ncc)
 have U6 : Upd (fun b => b = W.heap.size) w2 (six6 w2 W.heap.size (.int .i64 nlv) (.slice nha nlh nhc) (.int .i64 nri) (.slice nka nlk nkc) (.slice nva nlw nvc) (.slice nca nlc ncc)) := six_upd _ _ _ _ _ _ _ _ _ rfl
 obtain ⟨q0, q1, q2, q3, q4, q5⟩ := Six.of G6
 show bodyPost _ _ _ _ _ (six6 w2 W.heap.size (.int .i64 nlv) (.slice nha nlh nhc) (.int .i64 nri) (.slice nka nlk nkc) (.slice nva nlw nvc) (.slice nca nlc ncc))
 generalize six6 w2 W.heap.size (.int .i64 nlv) (.slice nha nlh nhc) (.int .i64 nri) (.slice nka nlk nkc) (.slice nva nlw nvc) (.slice nca nlc ncc) = w6 at *
 have hB2 : Below W.heap.size W w2 := (below_drew B1.out).trans (HT.out.2.2.1.mono B1.out.size)
 refine bodyPost_ret (v := .tuple #[.int .i64 id, .int .u64 (wd : Nat), .agg #[.int .i64 nlv, .slice nha nlh nhc, .int .i64 nri, .slice nka nlk nkc, .slice nva nlw nvc, .slice nca nlc ncc]]) (by simp [results, Tryz.results67, go_sem, q0, q1, q2, q3, q4, q5]) rfl ⟨⟨nlv, ⟨nha, nhc, nhs⟩, nri, ⟨nka, nkc, NK⟩, ⟨nva, nvc, NV⟩, ⟨nca, ncc, NC⟩⟩, ?_, HT.out.1.trans HNP.out, ?_, ?_⟩
 ·simp only [Nd.v, Tx.v, TL.v, IL.v, HQ.out.1, HQ.out.2.1, HQ.out.2.2.1, HQ.out.2.2.2]
 ·exact (HT.out.2.1.upd U6 (fun b h1 _ e => by have : w1.drew.heap.size = w1.heap.size := rfl; omega)).mono B1.out.size
 ·exact hB2.trans (U6.below hB2.size (fun k hk e => by omega))
end
/-! ### Both machines go alike -/
structure Sim (m : MS) (r : RMS) : Prop where
 key : r.key = m.key
 lev : r.lev = m.lev
 an : r.an = m.an
 mo : r.mo = m.mo
 nx : r.nx = min m.nx 5
 le : m.nx ≤ 6
 th : r.th = decide (m.nx = 5)
 id : 1 ≤ m.nx → m.nx ≤ 5 → r.id = m.id
 wd : 2 ≤ m.nx → m.nx ≤ 5 → r.wd = m.wd
 hd : m.nx = 3 → r.nd.lv = m.nd.lv ∧ r.nd.hi = m.nd.hi ∧ r.nd.ri = m.nd.ri
 nd : 4 ≤ m.nx → m.nx ≤ 5 → r.nd = m.nd
 no : m.nx = 6 → m.id = 0 ∧ m.wd = 0 ∧ m.nd = NP.zero
theorem Sim.new (key : List Int) (lev : Int) : Sim (MS.new key lev) (RMS.new key lev) :=
 ⟨rfl, rfl, rfl, rfl, rfl, by simp [MS.new], rfl, by simp [MS.new], by simp [MS.new], by simp [MS.new], by simp [MS.new], by simp [MS.new]⟩
theorem Sim.step {m : MS} {r : RMS} (h : Sim m r) (s : AS) : Sim (m.step s) (r.step s) := by
 obtain ⟨key, lev, nx, id, wd, nd, an, mo⟩ := m
 obtain ⟨key', lev', nx', id', wd', nd', th', an', mo'⟩ := r
 obtain ⟨h1, h2, h3, h4, h5, h6, h7, h8, h9, h10, h11, h12⟩ := h
 simp only at h1 h2 h3 h4 h5 h6 h7 h8 h9 h10 h11 h12
 subst h1 h2 h3 h4 h5 h7
 match nx, h6 with
 | 0, _ => exact ⟨rfl, rfl, rfl, rfl, rfl, by simp [MS.step, MS.goTo], rfl, fun _ _ => rfl, by simp [MS.step, MS.goTo], by simp [MS.step, MS.goTo], by simp [MS.step, MS.goTo], by simp [MS.step, MS.goTo]⟩
 | 5, _ => simp only [MS.step, RMS.step]; simp; exact ⟨rfl, rfl, rfl, rfl, rfl, by simp, rfl, h8, h9, h10, h11, h12⟩
 | 6, _ => simp only [MS.step, RMS.step]; simp; exact ⟨rfl, rfl, rfl, rfl, rfl, by simp, rfl, by simp, by simp, by simp, by simp, h12⟩
 | 1, _ =>
  obtain rfl := h8 (by omega) (by omega)
  simp only [MS.step, RMS.step]
  simp
  by_cases hin : s.inn id'
  ·simp only [hin, if_true]
   by_cases ho : s.w id' % 2 = 0
   ·simp only [ho, if_true]
    exact ⟨rfl, rfl, rfl, rfl, rfl, by simp, rfl, fun _ _ => rfl, fun _ _ => rfl, by simp, by simp, by simp⟩
   ·simp only [ho, if_false]
    exact ⟨rfl, rfl, rfl, rfl, rfl, by simp, rfl, fun _ _ => rfl, by simp, by simp, by simp, by simp⟩
  ·simp only [hin, if_false]
   exact ⟨rfl, rfl, rfl, rfl, rfl, by simp [MS.fail], rfl, by simp [MS.fail], by simp [MS.fail], by simp [MS.fail], by simp [MS.fail], fun _ => ⟨rfl, rfl, rfl⟩⟩
 | 2, _ =>
  obtain rfl := h8 (by omega) (by omega)
  obtain rfl := h9 (by omega) (by omega)
  simp only [MS.step, RMS.step]
  simp
  by_cases hin : s.inn id'
  ·simp only [hin, if_true, show s.rd id' = s.n id' from if_pos hin]
   exact ⟨rfl, rfl, rfl, rfl, rfl, by simp, rfl, fun _ _ => rfl, fun _ _ => rfl, fun _ => ⟨rfl, rfl, rfl⟩, by simp, by simp⟩
  ·simp only [hin, if_false]
   exact ⟨rfl, rfl, rfl, rfl, rfl, by simp [MS.fail], rfl, by simp [MS.fail], by simp [MS.fail], by simp [MS.fail], by simp [MS.fail], fun _ => ⟨rfl, rfl, rfl⟩⟩
 | 3, _ =>
  obtain rfl := h8 (by omega) (by omega)
  obtain rfl := h9 (by omega) (by omega)
  obtain ⟨g1, g2, g3⟩ := h10 rfl
  simp only [MS.step, RMS.step]
  simp
  by_cases hin : s.inn id'
  ·simp only [hin, if_true, show s.rd id' = s.n id' from if_pos hin]
   refine ⟨rfl, rfl, rfl, rfl, rfl, by simp, rfl, fun _ _ => rfl, fun _ _ => rfl, by simp, fun _ _ => ?_, by simp⟩
   simp only [NP.setB, g1, g2, g3]
  ·simp only [hin, if_false]
   exact ⟨rfl, rfl, rfl, rfl, rfl, by simp [MS.fail], rfl, by simp [MS.fail], by simp [MS.fail], by simp [MS.fail], by simp [MS.fail], fun _ => ⟨rfl, rfl, rfl⟩⟩
 | 4, _ =>
  obtain rfl := h8 (by omega) (by omega)
  obtain rfl := h9 (by omega) (by omega)
  obtain rfl := h11 (by omega) (by omega)
  simp only [MS.step, RMS.step]
  simp
  by_cases hin : s.inn id'
  ·simp only [hin, if_true]
   unfold MS.valid RMS.decide
   simp only
   by_cases hw : s.w id' = wd'
   ·rw [if_pos hw, if_neg (fun e => e hw)]
    unfold MS.choose
    simp only
    by_cases c1 : nd'.lv < lev'
    ·rw [if_pos c1, if_pos c1]
     exact ⟨rfl, rfl, rfl, rfl, rfl, by simp [MS.fail], rfl, by simp [MS.fail], by simp [MS.fail], by simp [MS.fail], by simp [MS.fail], fun _ => ⟨rfl, rfl, rfl⟩⟩
    rw [if_neg c1, if_neg c1]
    by_cases c2 : beyB nd'.hi key' = true
    ·rw [if_pos c2, if_pos c2]
     exact ⟨rfl, rfl, rfl, rfl, rfl, by simp, rfl, fun _ _ => rfl, by simp, by simp, by simp, by simp⟩
    rw [if_neg c2, if_neg c2]
    by_cases c3 : nd'.lv = lev'
    ·rw [if_pos c3, if_pos c3]
     exact ⟨rfl, rfl, rfl, rfl, rfl, by simp, rfl, fun _ _ => rfl, fun _ _ => rfl, by simp, fun _ _ => rfl, by simp⟩
    ·rw [if_neg c3, if_neg c3]
     exact ⟨rfl, rfl, rfl, rfl, rfl, by simp [MS.goTo], rfl, fun _ _ => rfl, by simp [MS.goTo], by simp [MS.goTo], by simp [MS.goTo], by simp [MS.goTo]⟩
   ·rw [if_neg hw, if_pos hw]
    exact ⟨rfl, rfl, rfl, rfl, rfl, by simp, rfl, by simp, by simp, by simp, by simp, by simp⟩
  ·simp only [hin, if_false]
   exact ⟨rfl, rfl, rfl, rfl, rfl, by simp [MS.fail], rfl, by simp [MS.fail], by simp [MS.fail], by simp [MS.fail], by simp [MS.fail], fun _ => ⟨rfl, rfl, rfl⟩⟩
def MS.atI (m : MS) : Int := if 5 ≤ m.nx then m.id else 0
def MS.atW (m : MS) : Nat := if 5 ≤ m.nx then m.wd else 0
def MS.atN (m : MS) : NP := if 5 ≤ m.nx then m.nd else NP.zero
theorem dat_all {W : World} {P A : Nat} {k : Tx} {n : Nd} {D : Nat → Prop} {m : MS} (h : PM W P A k n D m) : Calls Tryz.prog 113 #[.pointer (some ⟨P, 0, none⟩)] W (AtP W m.atI m.atW m.atN) := by
 unfold MS.atI MS.atW MS.atN
 by_cases hx : 5 ≤ m.nx
 ·rw [if_pos hx, if_pos hx, if_pos hx]; exact dat_any h hx
 ·rw [if_neg hx, if_neg hx, if_neg hx]; exact dat_not h (by omega)
theorem rdat_all {W : World} {P A : Nat} {k : Tx} {n : Nd} {D : Nat → Prop} {r : RMS} (h : RM W P A k n D r) {m : MS} (hs : Sim m r) : Calls Tryz.prog 67 #[.pointer (some ⟨P, 0, none⟩)] W (AtP W m.atI m.atW m.atN) := by
 unfold MS.atI MS.atW MS.atN
 by_cases hx : m.nx = 5
 ·have := rdat_any h (by rw [hs.th, decide_eq_true hx])
  rw [hs.id (by omega) (by omega), hs.wd (by omega) (by omega), hs.nd (by omega) (by omega)] at this
  rw [if_pos (by omega), if_pos (by omega), if_pos (by omega)]
  exact this
 ·have := rdat_not h (by rw [hs.th, decide_eq_false hx])
  by_cases h6 : m.nx = 6
  ·obtain ⟨g1, g2, g3⟩ := hs.no h6
   rw [if_pos (by omega), if_pos (by omega), if_pos (by omega), g1, g2, g3]
   exact this
  ·have := hs.le
   rw [if_neg (by omega), if_neg (by omega), if_neg (by omega)]
   assumption
end Go.Proofs.YtpljbgcofmlhbaaGreat
