/- block: the walker reads an entry. -/
import Derived.Test.YtepjblmjjegpgaaGreatW37
import Derived.Test.YtepjblmjjegpgaaGreatW39
import Derived.Deep.RegionLaw
namespace Go.Proofs.YtepjblmjjegpgaaGreat
open Go.RowKit
set_option maxRecDepth 100000

def xEr (pv zs : List Int) (p : Nat) : Int := if p ≤ zs.length then rEr pv zs p else 1
def xPl (pv zs : List Int) (p : Nat) : Nat := if p ≤ zs.length then rPl pv zs p else 0
def xKy (pv zs : List Int) (p : Nat) : List Int := if p ≤ zs.length then rKy pv zs p else []
def xVl (pv zs : List Int) (p : Nat) : List Int := if p ≤ zs.length then rVl pv zs p else []
/-- pair.Read at any place. -/
theorem read_all (a b : Option Addr) (la ca lb cb p : Nat) (xs zs : List Int) (w : World) (h1 : xs.length = la) (h2 : zs.length = lb) (m1 : la ≤ 140737488351232) (m2 : lb ≤ 140737488400000) (hca : la ≤ ca) (hcb : lb ≤ cb) (r1 : Row w .u8 a xs) (r2 : Row w .u8 b zs) (x8 : B8 xs) (z8 : B8 zs) (nb : b = none → lb = 0 ∧ cb = 0) :
    Calls Tryz.prog 185 #[.slice a la ca, .slice b lb cb, .int .i64 (p : Int)] w (RdPost w (xKy xs zs p) (xVl xs zs p) (xPl xs zs p) (xEr xs zs p)) := by
  unfold xKy xVl xPl xEr
  by_cases hp : p ≤ zs.length
  · simp only [if_pos hp]
    exact read_in a b la ca lb cb p xs zs w h1 h2 m1 m2 hca hcb (by omega) r1 r2 x8 z8 nb
  · simp only [if_neg hp]
    exact read_out a b la ca lb cb (p : Int) w (.inr (by omega))
def eE (pv ls zs : List Int) (p : Nat) : Int := if xEr pv zs p ≠ 0 then xEr pv zs p else if cmpI ls (xKy pv zs p) < 0 then 0 else 51
def eP (pv zs : List Int) (p : Nat) : Nat := if xEr pv zs p ≠ 0 then xPl pv zs p else p
theorem x_back (pv zs : List Int) (p : Nat) (z8 : B8 zs) (h : xEr pv zs p = 0) : 1 ≤ (xKy pv zs p).length ∧ (xKy pv zs p).length ≤ 64 ∧ (xVl pv zs p).length ≤ 256 ∧ xPl pv zs p ≤ zs.length ∧ p ≤ xPl pv zs p := by
  unfold xEr at h
  by_cases hp : p ≤ zs.length
  · rw [if_pos hp] at h
    unfold xKy xVl xPl
    simp only [if_pos hp]
    obtain ⟨h1, h2, h3, h4, h5, _⟩ := trip_back zs pv p z8 hp h
    exact ⟨h1, h2, h3, h4, h5⟩
  · rw [if_neg hp] at h; exact absurd h (by decide)
theorem xKy_b8 (pv zs : List Int) (p : Nat) (p8 : B8 pv) (z8 : B8 zs) : B8 (xKy pv zs p) := by
  unfold xKy
  split
  · exact rKy_b8 _ _ _ p8 z8
  · exact B8.nil
theorem xVl_b8 (pv zs : List Int) (p : Nat) (z8 : B8 zs) : B8 (xVl pv zs p) := by
  unfold xVl
  split
  · exact rVl_b8 _ _ _ z8
  · exact B8.nil

theorem grown_ofDrew {A B : World} {row : Option Nat} (h : A.drew.grownBy B row) : A.grownBy B row := ⟨h.os, h.tape, h.output, h.size, h.block⟩
theorem owns_cut0 {W : World} {B nl cl : Nat} {al : Option Addr} {xs : List Value} (h : W.ownsRow B 5 1 (.slice al nl cl) nl xs) : W.ownsRow B 5 1 (.slice al 0 cl) ([] : List Int).length (([] : List Int).map (Value.int .u8)) := by
  refine ⟨rfl, ?_⟩
  rcases h.2 with ⟨hv, hn⟩ | ⟨g, cap, cur, hv, h1, h2, h3, h4, h5, h6⟩
  · cases hv
    exact .inl ⟨rfl, rfl⟩
  · cases hv
    exact .inr ⟨g, _, cur, rfl, h1, h2, Nat.zero_le _, h4, h5, by simp⟩
/-- The place and the number are laid; then the key ahead. -/
theorem WkR.steps {W w8 : World} {B g : Nat} {a : Option Addr} {l c p n num p' num' : Nat} {ls ls' : List Int} {al : Option Addr} {nl cl : Nat} {v' : Value} (h : WkR W B g a l c p n num ls (.slice al nl cl))
    (ho : w8.ownsRow B 5 1 v' ls'.length (ls'.map (Value.int .u8))) (hg : ((W.setCell ⟨g, 1, none⟩ (.int .i64 (p' : Int))).setCell ⟨g, 3, none⟩ (.int .i64 (num' : Int))).grownBy w8 (Value.slice al 0 cl).ownBlock) (hk : ∀ k, v'.ownBlock = some k → (Value.slice al 0 cl).ownBlock = some k ∨ W.heap.size ≤ k) :
    WkR (w8.setCell ⟨g, 4, none⟩ v') B g a l c p' n num' ls' v' ∧ Upd (WkM g (.slice al nl cl)) W (w8.setCell ⟨g, 4, none⟩ v') ∧ ∀ i, WkM g v' i → WkM g (.slice al nl cl) i ∨ W.heap.size ≤ i := by
  have hu2 : Upd (fun i => i = g) W ((W.setCell ⟨g, 1, none⟩ (.int .i64 (p' : Int))).setCell ⟨g, 3, none⟩ (.int .i64 (num' : Int))) := (set_upd _ g 1 _).trans (set_upd _ g 3 _)
  have hu3 : Upd (fun i => (Value.slice al nl cl).ownBlock = some i) ((W.setCell ⟨g, 1, none⟩ (.int .i64 (p' : Int))).setCell ⟨g, 3, none⟩ (.int .i64 (num' : Int))) w8 := Upd.of_grown hg (fun k hk _ => by cases al <;> exact hk)
  have hu4 := set_upd w8 g 4 v'
  have hlt := h.lt
  have hob : (Value.slice al 0 cl).ownBlock = (Value.slice al nl cl).ownBlock := by cases al <;> rfl
  rw [hob] at hk
  have hne : ∀ i, v'.ownBlock = some i → i ≠ g := fun i hi => by
    rcases hk i hi with h1 | h1
    · exact h.dva i h1
    · exact fun e => by have := hlt i (.inl e); omega
  refine ⟨⟨block_setCell (hu3.heap (block_setCell (block_setCell h.blk 1 _) 3 _) (fun e => h.dva g e rfl)) 4 _, owns_upd ho hu4 hne, hne, h.gB⟩, ((hu2.mono (fun i _ e => .inl e)).trans (hu3.mono (fun i _ e => .inr e))).trans (hu4.mono (fun i _ e => .inl e)), ?_⟩
  rintro i (h1 | h1)
  · exact .inl (.inl h1)
  · exact (hk i h1).imp (fun e => .inr e) id

/-- An entry that was read: in new memory, and apart; the walker goes on. -/
structure EnOk (W : World) (B g : Nat) (a : Option Addr) (l c p n num : Nat) (K V : List Int) (M : Nat → Prop) (e : Ending) (W' : World) : Prop where
  ex : ∃ ka kc va vc N vn, e = .returned (.agg #[.slice ka K.length kc, .slice va V.length vc]) ∧ OwnB W' W.heap.size 5 (.slice ka K.length kc) K ∧ OwnB W' N 5 (.slice va V.length vc) V ∧ W.heap.size ≤ N ∧ (∀ i, (Value.slice ka K.length kc).ownBlock = some i → i < N) ∧
    WkR W' B g a l c p n num K vn ∧ Upd M W W' ∧ (∀ i, WkM g vn i → M i ∨ W.heap.size ≤ i) ∧ (∀ i, WkM g vn i → (Value.slice ka K.length kc).ownBlock ≠ some i ∧ (Value.slice va V.length vc).ownBlock ≠ some i)
def EnPost (W : World) (B g : Nat) (a : Option Addr) (l c p n num : Nat) (ls zs pv : List Int) (M : Nat → Prop) (e : Ending) (W' : World) : Prop :=
  (eE pv ls zs p = 0 ∧ EnOk W B g a l c (xPl pv zs p) n (num + 1) (xKy pv zs p) (xVl pv zs p) M e W') ∨ (eE pv ls zs p ≠ 0 ∧ e = fallen (eE pv ls zs p) (eP pv zs p : Nat) ∧ Below W.heap.size W W')
theorem en_end {W' : World} {act : Act} {N : Nat} {k v : Value} {R : Ending → World → Prop} (hE : E2 W' N k v) (h2 : act.tmps[2]?.getD undef = .pointer (some ⟨N, 0, none⟩)) (hd : act.defers = []) (hR : R (.returned (.agg #[k, v])) W') :
    bodyPost Tryz.prog Tryz.f178 R Exit.ret act W' := by
  obtain ⟨q0, q1⟩ := hE.cells
  obtain ⟨tm, df⟩ := act
  simp only at h2 hd
  subst hd
  exact bodyPost_ret (v := .agg #[k, v]) (by simp [results, Tryz.results178, go_sem, h2, q0, q1]) rfl hR

set_option maxRecDepth 100000 in
set_option maxHeartbeats 3200000 in
theorem entry_any {W : World} {B g : Nat} {a : Option Addr} {l c p n num : Nat} {ls zs : List Int} {va : Value} (h : WkR W B g a l c p n num ls va) (hl : zs.length = l) (hm : l ≤ 140737488400000) (hcl : l ≤ c) (na : a = none → l = 0 ∧ c = 0) (hr : Row W .u8 a zs) (hra : ∀ x, a = some x → 0 < l → ¬ WkM g va x.block) (z8 : B8 zs) (l8 : B8 ls) (hls : ls.length ≤ 64) (hnum : num ≤ 1000000) :
    Calls Tryz.prog 178 #[.pointer (some ⟨g, 0, none⟩)] W (EnPost W B g a l c p n num ls zs (if num % 8 = 0 then [] else ls) (WkM g va)) := by
  obtain ⟨i0, hi0, hz0, hz1, hz2⟩ := info_parts infoByte'
  obtain ⟨al, cl, rfl, hrl, hnl, hcl2⟩ := owns_open h.own
  have hlt := h.lt
  obtain ⟨nl, hnl'⟩ : ∃ nl, ls.length = nl := ⟨_, rfl⟩
  rw [hnl'] at h hlt hnl hcl2 hra hls ⊢
  obtain ⟨M, hM⟩ : ∃ M, M = WkM g (.slice al nl cl) := ⟨_, rfl⟩
  rw [← hM] at hra ⊢
  have hgl := (hlt g (.inl rfl)).2
  obtain ⟨px, hpx⟩ : ∃ px, px = if num % 8 = 0 then [] else ls := ⟨_, rfl⟩
  rw [← hpx]
  have hpl : px.length ≤ 64 := by rw [hpx]; split
                                  · simp
                                  · omega
  have p8 : B8 px := by rw [hpx]; split
                        · exact B8.nil
                        · exact l8
  replace hpx := hide hpx
  obtain ⟨npx, hnpx⟩ : ∃ k, px.length = k := ⟨_, rfl⟩
  rw [hnpx] at hpl
  replace hnpx := hide hnpx
  have HX := hide (x_back px zs p z8)
  have HK8 := hide (xKy_b8 px zs p p8 z8)
  -- the result's block
  have hb1 : Below W.heap.size W (W.alloc (.cells #[.slice none 0 0, .slice none 0 0] 38)) := (Below.refl _ _).alloc (Nat.le_refl _) _
  have E1 := hide (show E2 (W.alloc (.cells #[.slice none 0 0, .slice none 0 0] 38)) W.heap.size (.slice none 0 0) (.slice none 0 0) from heap_alloc_new W _)
  have HSZ := hide (show (W.alloc (.cells #[.slice none 0 0, .slice none 0 0] 38)).heap.size = W.heap.size + 1 by simp)
  have H1 := hide (h.upd (Upd.of_below hb1 Noth) (fun _ _ e => e))
  have HR1 := hide (hr.below2 hb1)
  have B1 := hide hb1
  have HM := hide hM
  have HLT := hide hlt
  have HRA := hide hra
  have HNA := hide na
  clear h hr hb1 hM hlt hrl hra na
  go_enter Tryz.func178, Tryz.ntmps178
  go_upto_region 1 with fail
  generalize W.alloc (.cells #[.slice none 0 0, .slice none 0 0] 38) = w1 at *
  have c0 := H1.out.cells.1
  have c1 := H1.out.cells.2.1
  have c3 := H1.out.cells.2.2.2.1
  have c4 := H1.out.cells.2.2.2.2.1
  have HRS := hide (restart_any num w1 (by omega))
  go_wp2_with fail
  refine keep HRS.out ?_
  obtain ⟨b8, hb8⟩ : ∃ b8, b8 = decide (num % 8 = 0) := ⟨_, rfl⟩
  rw [← hb8]
  replace hb8 := hide hb8
  go_upto_if 15 with fail
  go_cut [3] (fun s3 wx => ∃ (pa : Option Addr) (pc : Nat), s3 = .slice pa npx pc ∧ npx ≤ pc ∧ Hid (Row w1 .u8 pa px) ∧ Hid (wx = w1))
  case first =>
    by_cases h8 : num % 8 = 0
    · obtain rfl : b8 = true := by rw [hb8.out, decide_eq_true h8]
      obtain rfl : px = [] := by rw [hpx.out, if_pos h8]
      obtain rfl : npx = 0 := hnpx.out.symm
      go_wp2_with fail
      go_meet
      exact ⟨none, 0, rfl, Nat.le_refl _, row_nil _ _ _, rfl⟩
    · obtain rfl : b8 = false := by rw [hb8.out, decide_eq_false h8]
      obtain rfl : px = ls := by rw [hpx.out, if_neg h8]
      obtain rfl : npx = nl := by rw [← hnpx.out, hnl']
      go_wp2_with fail
      go_meet
      exact ⟨al, cl, rfl, hcl2, row_of_owns2 (n := npx) (by have := H1.out.own; rw [hnl'] at this; exact this), rfl⟩
  case rest =>
  obtain ⟨pa, pc, rfl, hpc, HPR, hwc⟩ := hcut
  have hwc' := hwc.out.symm
  subst hwc'
  clear HRS hwc
  obtain ⟨K, hK⟩ : ∃ K, K = xKy px zs p := ⟨_, rfl⟩
  obtain ⟨V, hV⟩ : ∃ V, V = xVl px zs p := ⟨_, rfl⟩
  obtain ⟨pl, hpl'⟩ : ∃ pl, pl = xPl px zs p := ⟨_, rfl⟩
  obtain ⟨er, her⟩ : ∃ er, er = xEr px zs p := ⟨_, rfl⟩
  obtain ⟨nK, hnK⟩ : ∃ k, K.length = k := ⟨_, rfl⟩
  obtain ⟨nV, hnV⟩ : ∃ k, V.length = k := ⟨_, rfl⟩
  have HEN : Hid (∀ e w', EnPost W B g a l c p n num ls zs px M e w' ↔ (((if er ≠ 0 then er else if cmpI ls K < 0 then 0 else 51) = 0 ∧ EnOk W B g a l c pl n (num + 1) K V M e w') ∨ ((if er ≠ 0 then er else if cmpI ls K < 0 then 0 else 51) ≠ 0 ∧ e = fallen (if er ≠ 0 then er else if cmpI ls K < 0 then 0 else 51) ((if er ≠ 0 then pl else p : Nat) : Int) ∧ Below W.heap.size W w'))) := by
    intro e w'
    unfold EnPost eE eP
    rw [hK, hV, hpl', her]
  have HRD : Hid (∀ W', Below w1.heap.size w1 W' → Calls Tryz.prog 185 #[.slice pa npx pc, .slice a l c, .int .i64 (p : Int)] W' fun e w2 => ∃ ka kc va vc N, e = .returned (.tuple #[.agg #[.slice ka nK kc, .slice va nV vc], .int .i64 (pl : Int), .int .i64 er]) ∧ OwnB w2 W'.heap.size 5 (.slice ka nK kc) K ∧ OwnB w2 N 5 (.slice va nV vc) V ∧ W'.heap.size ≤ N ∧ (∀ i, (Value.slice ka nK kc).ownBlock = some i → i < N) ∧ Below W'.heap.size W' w2 ∧ Below w1.heap.size w1 w2 ∧ w2.cell? ⟨g, 0, none⟩ = some (.slice a l c) ∧ w2.cell? ⟨g, 1, none⟩ = some (.int .i64 (p : Int)) ∧ ∀ gx x y, E2 W' gx x y → E2 w2 gx x y) := fun W' hB => by
    refine (read_all pa a npx pc l c p px zs W' hnpx.out hl (by omega) hm hpc hcl (HPR.out.below2 hB) (HR1.out.below2 hB) p8 z8 HNA.out).mono ?_
    rintro e w2 ⟨ka, kc, va, vc, N, rfl, h1, h2, h3, h4, h5, h6⟩
    rw [← hK, ← hV, ← hpl', ← her] at *
    rw [hnK, hnV] at *
    have h7 := hB.trans (h6.mono hB.size)
    have hg1 : g < w1.heap.size := by have := HSZ.out; omega
    exact ⟨ka, kc, va, vc, N, rfl, h1, h2, h3, h5, h6, h7, (h7.cell (p := ⟨g, 0, none⟩) hg1).trans c0, (h7.cell (p := ⟨g, 1, none⟩) hg1).trans c1, fun gx x y hE => hE.below h6⟩
  rw [← hK, ← hV, ← hpl', ← her] at HX
  rw [← hK] at HK8
  rw [hnK, hnV] at HX
  replace hnK := hide hnK
  replace hnV := hide hnV
  clear hK hV hpl' her
  have hg1 : g < w1.heap.size := by have := HSZ.out; omega
  have hx1 : W.heap.size < w1.heap.size := by have := HSZ.out; omega
  have HC := hide (And.intro c3 c4)
  have hn0 := World.new_ne w1 ⟨g, 0, none⟩ c0
  have hn1 := World.new_ne w1 ⟨g, 1, none⟩ c1
  go_upto_region 4 with fail
  go_cut [4, 5, 6] (fun s4 s5 s6 wx => ∃ (ka : Option Addr) (kc : Nat) (va : Option Addr) (vc N gx : Nat), s4 = .pointer (some ⟨gx, 0, none⟩) ∧ s5 = .int .i64 (pl : Int) ∧ s6 = .int .i64 er ∧ w1.heap.size ≤ gx ∧ Hid (E2 wx gx (.slice ka nK kc) (.slice va nV vc)) ∧ Hid (OwnB wx w1.heap.size 5 (.slice ka nK kc) K) ∧ Hid (OwnB wx N 5 (.slice va nV vc) V) ∧ Hid (w1.heap.size ≤ N ∧ (∀ i, (Value.slice ka nK kc).ownBlock = some i → i < N ∧ i ≠ gx) ∧ (∀ i, (Value.slice va nV vc).ownBlock = some i → i ≠ gx)) ∧ Hid (Below w1.heap.size w1 wx))
  case first =>
    have HB1 : Hid (Below w1.heap.size w1 w1.drew) := (Below.refl _ _).drew
    have HB2 : Hid (Below w1.heap.size w1 (w1.alloc (.cells #[.slice none 0 0, .slice none 0 0] 38)).drew) := ((Below.refl _ _).alloc (Nat.le_refl _) _).drew
    have HE0 : Hid (E2 (w1.alloc (.cells #[.slice none 0 0, .slice none 0 0] 38)).drew w1.heap.size (.slice none 0 0) (.slice none 0 0)) := heap_alloc_new w1 _
    go_region_held3 (fun w => w.cell? ⟨g, 0, none⟩ = some (.slice a l c) ∧ w.cell? ⟨g, 1, none⟩ = some (.int .i64 (p : Int))) (go_keep) (first
      | (go_at_call 185; with_reducible refine (HRD.out w1.drew HB1.out).mono ?_; rintro e w2 ⟨ka, kc, va, vc, N, rfl, hk2, hv2, hN1, hkN, hb2, hb3, f0, f1, hEE⟩; have hnn0 := World.new_ne w2 ⟨g, 0, none⟩ f0; have hnn1 := World.new_ne w2 ⟨g, 1, none⟩ f1; have HK2 := hide hk2; have HV2 := hide hv2; have HN := hide (And.intro hN1 hkN); have B2 := hide hb2; have B3 := hide hb3; clear hk2 hv2 hN1 hkN hb2 hb3 hEE)
      | (go_at_call 185; with_reducible refine (HRD.out (w1.alloc (.cells #[.slice none 0 0, .slice none 0 0] 38)).drew HB2.out).mono ?_; rintro e w2 ⟨ka, kc, va, vc, N, rfl, hk2, hv2, hN1, hkN, hb2, hb3, f0, f1, hEE⟩; have hE2 := hEE _ _ _ HE0.out; have y0 := hE2.cells.1; have y1 := hE2.cells.2; have y2 := hE2.fr 0; have y3 := hE2.fr 1; have HE2 := hide hE2; have HK2 := hide hk2; have HV2 := hide hv2; have HN := hide (And.intro hN1 hkN); have B2 := hide hb2; have B3 := hide hb3; clear hk2 hv2 hN1 hkN hb2 hb3 hE2 hEE)
      | fail)
    · have HBA : Hid (Below w2.heap.size w2 (w2.alloc (.cells #[.slice ka nK kc, .slice va nV vc] 38))) := (Below.refl _ _).alloc (Nat.le_refl _) _
      go_wp2_with fail
      go_meet
      exact ⟨ka, kc, va, vc, N, w2.heap.size, rfl, rfl, rfl, B3.out.size, heap_alloc_new w2 _, HK2.out.below HBA.out, HV2.out.below HBA.out, ⟨HN.out.1, fun i hi => ⟨HN.out.2 i hi, fun e => by have := (HK2.out.owns.lt i hi).2; omega⟩, fun i hi e => by have := (HV2.out.owns.lt i hi).2; omega⟩, B3.out.trans (HBA.out.mono B3.out.size)⟩
    · have HUA : Hid (Upd (fun i => i = w1.heap.size) w2 ((w2.setCell ⟨w1.heap.size, 0, none⟩ (.slice ka nK kc)).setCell ⟨w1.heap.size, 1, none⟩ (.slice va nV vc))) := (set_upd _ w1.heap.size 0 _).trans (set_upd _ w1.heap.size 1 _)
      have hks : ∀ i, (Value.slice ka nK kc).ownBlock = some i → w1.heap.size + 1 ≤ i := fun i hi => by have := (HK2.out.owns.lt i hi).1; simpa using this
      have h1N : w1.heap.size + 1 ≤ N := by simpa using HN.out.1
      have hvs : ∀ i, (Value.slice va nV vc).ownBlock = some i → w1.heap.size + 1 ≤ i := fun i hi => by have := (HV2.out.owns.lt i hi).1; omega
      have HKS := hide hks
      have HVS := hide hvs
      clear hks hvs
      go_wp2_with fail
      go_meet
      exact ⟨ka, kc, va, vc, N, w1.heap.size, rfl, rfl, rfl, Nat.le_refl _, HE2.out.set _ _, (HK2.out.mono (by simp)).upd HUA.out (fun i hi e => by have := HKS.out i hi; omega), HV2.out.upd HUA.out (fun i hi e => by have := HVS.out i hi; omega), ⟨by omega, fun i hi => ⟨HN.out.2 i hi, fun e => by have := HKS.out i hi; omega⟩, fun i hi e => by have := HVS.out i hi; omega⟩, B3.out.trans (HUA.out.below B3.out.size (fun k hk e => by omega))⟩
  case rest =>
  obtain ⟨ka, kc, va, vc, N, gx, rfl, rfl, rfl, hgx, EX, HK4, HV4, HN4, B4⟩ := hcut
  rename World => w4
  have hgl4 : g < w4.heap.size := Nat.lt_of_lt_of_le hg1 B4.out.size
  have H4 := hide (H1.out.upd (Upd.of_below B4.out Noth) (fun _ _ e => e))
  have HB4 : Hid (Below W.heap.size W w4) := B1.out.trans (B4.out.mono (Nat.le_of_lt hx1))
  clear HRD c0 c1 c3 c4 HC hn0 hn1
  by_cases he : er = 0
  · subst he
    obtain ⟨hk1, hk2, hv1, hpl1, hpl2⟩ := HX.out rfl
    obtain ⟨cv, hcv⟩ : ∃ cv, cv = cmpI ls K := ⟨_, rfl⟩
    rw [← hcv] at HEN
    have d1 := H4.out.cells.2.1
    have d3 := H4.out.cells.2.2.2.1
    have d4 := H4.out.cells.2.2.2.2.1
    have x0 := EX.out.cells.1
    have hgx4 : gx < w4.heap.size := lt_of_block EX.out
    have RC : Hid (Calls Tryz.prog 89 #[.slice al nl cl, .slice ka nK kc] w4.drew fun r w' => r = .returned (.int .i64 cv) ∧ Below w4.heap.size w4 w') := by
      rw [hcv]
      exact (compare_any al ka nl cl nK kc ls K w4.drew hnl' hnK.out (show Row w4 .u8 _ _ from row_of_owns2 (n := nl) (by have := H4.out.own; rw [hnl'] at this; exact this)) (show Row w4 .u8 _ _ from HK4.out.row) l8 HK8.out).mono fun r w' ⟨h1, h2⟩ => ⟨h1, by subst h2; exact ⟨rfl, rfl, rfl, Nat.le_refl _, fun _ _ => rfl⟩⟩
    replace hcv := hide hcv
    go_wp2_with fail
    go_region_held3 (fun w => w.cell? ⟨g, 4, none⟩ = some (.slice al nl cl) ∧ w.cell? ⟨gx, 0, none⟩ = some (.slice ka nK kc)) (go_keep) (first
      | (go_at_call 89; refine RC.out.mono ?_; rintro r w5 ⟨rfl, hw5⟩; have B5 : Hid (Below w4.heap.size w4 w5) := hw5; have f0 : w5.cell? ⟨g, 4, none⟩ = some (.slice al nl cl) := (B5.out.cell (p := ⟨g, 4, none⟩) hgl4).trans d4; have f1 : w5.cell? ⟨gx, 0, none⟩ = some (.slice ka nK kc) := (B5.out.cell (p := ⟨gx, 0, none⟩) hgx4).trans x0; clear hw5)
      | fail)
    have H5 := hide (H4.out.upd (Upd.of_below B5.out Noth) (fun _ _ e => e))
    have HB5 : Hid (Below W.heap.size W w5) := HB4.out.trans (B5.out.mono HB4.out.size)
    clear d1 d3 d4 x0 RC
    by_cases hcm : cv < 0
    · have hHEN : Hid (∀ e w', EnOk W B g a l c pl n (num + 1) K V M e w' → EnPost W B g a l c p n num ls zs px M e w') := fun e w' h => (HEN.out e w').2 (.inl ⟨by rw [if_neg (by simp), if_pos hcm], h⟩)
      clear HEN
      have e1 := H5.out.cells.2.1
      have e3 := H5.out.cells.2.2.2.1
      have e4 := H5.out.cells.2.2.2.2.1
      have q1 := H5.out.cells.2.2.2.2.2 1
      have q3 := H5.out.cells.2.2.2.2.2 3
      have q4 := H5.out.cells.2.2.2.2.2 4
      have hsl : ∀ W : World, (Instr.slice 23 (.slice al nl cl) none (some (.int .i64 0)) none).run Tryz.prog W = .ok (.slice al 0 cl) W := fun W => by
        have := run_upto al nl cl 0 (Nat.zero_le _) .i64 W
        simpa using this
      obtain ⟨w6, hw6⟩ : ∃ w6, w6 = (w5.setCell ⟨g, 1, none⟩ (.int .i64 (pl : Int))).setCell ⟨g, 3, none⟩ (.int .i64 ((num : Int) + 1)) := ⟨_, rfl⟩
      have hw6' : w6 = (w5.setCell ⟨g, 1, none⟩ (.int .i64 (pl : Int))).setCell ⟨g, 3, none⟩ (.int .i64 ((num + 1 : Nat) : Int)) := by rw [hw6]; rfl
      have hu6 : Upd (fun i => i = g) w5 w6 := by rw [hw6]; exact (set_upd _ g 1 _).trans (set_upd _ g 3 _)
      have hge : gx ≠ g := by omega
      have b6 : w6.heap[g]? = some (.cells #[.slice a l c, .int .i64 (pl : Int), .int .i64 (n : Int), .int .i64 ((num : Int) + 1), .slice al nl cl] 208 (0, 0)) := by rw [hw6]; exact block_setCell (block_setCell H5.out.blk 1 _) 3 _
      have r4 : w6.cell? ⟨g, 4, none⟩ = some (.slice al nl cl) := by rw [cell_of_row _ _ _ _ _ _ b6]; rfl
      have EX5 := hide (EX.out.below B5.out)
      have EX6 := hide (show E2 w6 gx (.slice ka nK kc) (.slice va nV vc) from hu6.heap EX5.out hge)
      have x6 := EX6.out.cells.1
      have O6 : Hid (w6.ownsRow B 5 1 (.slice al 0 cl) ([] : List Int).length (([] : List Int).map (Value.int .u8))) := owns_cut0 (owns_upd (v := .slice al nl cl) (n := nl) (xs := ls.map (Value.int .u8)) (by have := H5.out.own; rw [hnl'] at this; exact this) hu6 (fun i hi => H5.out.dva i hi))
      have hk5 : Hid (OwnB w5 w1.heap.size 5 (.slice ka nK kc) K) := HK4.out.below B5.out
      have hv5 : Hid (OwnB w5 N 5 (.slice va nV vc) V) := HV4.out.below B5.out
      have hkb : ∀ i, (Value.slice ka nK kc).ownBlock = some i → w1.heap.size ≤ i ∧ i < w5.heap.size := fun i hi => hk5.out.owns.lt i hi
      have hvb : ∀ i, (Value.slice va nV vc).ownBlock = some i → w1.heap.size ≤ i ∧ i < w5.heap.size := fun i hi => by have h1 := hv5.out.owns.lt i hi; have := HN4.out.1; omega
      have HKB := hide hkb
      have HVB := hide hvb
      have RK : Hid (Row w6 .u8 ka K) := hk5.out.row.upd hu6 (fun x hx h0 e => by have h1 := hkb x.block (by rw [hx]; rfl); have e' : x.block = g := e; omega)
      have NK : Hid (ka = none → nK = 0 ∧ kc = 0) := by
        obtain ⟨a', c', h1, h2, _⟩ := hk5.out.sliceN hnK.out
        cases h1
        exact h2
      have hz6 : Hid (B ≤ w6.heap.size) := by have h1 := hu6.size; have h2 := (H5.out.lt g (.inl rfl)); show _ ≤ _; omega
      have ZB : Hid (([] : List Int).length + nK ≤ 140737488355328) := by show _ ≤ _; simp; omega
      have hs5 : w5.heap.size = w6.heap.size := by rw [hw6]; simp
      have W6 := hide hw6'
      have S6 := hide hs5
      have U6 := hide hu6
      have B6 := hide b6
      have HM5 : Hid (∀ i, M i → i < W.heap.size) := fun i hi => by rw [HM.out] at hi; exact (HLT.out i hi).2
      have hMe : Hid (WkM g (.slice al nl cl) = M) := HM.out.symm
      clear hkb hvb hw6' hs5 hu6 b6
      go_upto_region 11 with fail
      rw [← hw6]
      replace hw6 := hide hw6
      go_region_law (first
        | (refine step_app rfl (.tmp 64) (.tmp 66) 23 rfl B 5 i0 Tryz.underlying23 hi0 hz0 hz1 hz2 (.slice al 0 cl) [] (by simp [Act.eval, Act.put]) O6.out ka nK kc K (by simp [Act.eval, Act.put]) hnK.out NK.out RK.out ZB.out hz6.out ?_; intro v8 w8 hv8 hg8 hk8; simp only [List.nil_append] at hv8; have hu8 : Upd (fun i => (Value.slice al 0 cl).ownBlock = some i) w6 w8 := Upd.of_grown (grown_ofDrew hg8) (fun k hk _ => hk); have R8 := hide (H5.out.steps hv8 (W6.out ▸ grown_ofDrew hg8) (fun k hk => (hk8 k hk).imp id (fun h => by have h' : w6.heap.size ≤ k := h; have := S6.out; omega))); obtain ⟨a8, c8, rfl, _⟩ := owns_openN hv8 hnK.out; have hnb : ¬ (Value.slice al 0 cl).ownBlock = some g := fun e => H5.out.dva g (by cases al <;> exact e) rfl; have k1 : w8.cell? ⟨g, 4, none⟩ = some (.slice al nl cl) := hu8.cell r4 hnb; have k2 : w8.frozen? ⟨g, 4, none⟩ = false := frozen_blk (hu8.heap B6.out hnb) 4; have U8 := hide hu8; clear hv8 hg8 hk8 hu8))
      all_goals
        have h9 := R8.out
        rw [hMe.out] at h9
        have U9 := hide h9.2.1
        have R9 := hide h9.1
        have F9 := hide h9.2.2
        have EX9 : Hid (E2 (w8.setCell ⟨g, 4, none⟩ (.slice a8 nK c8)) gx (.slice ka nK kc) (.slice va nV vc)) := U9.out.heap EX5.out (fun hm => by have := HM5.out _ hm; omega)
        have ER9 : Hid (E2 (w8.setCell ⟨g, 4, none⟩ (.slice a8 nK c8)) W.heap.size (.slice none 0 0) (.slice none 0 0)) := U9.out.heap (((E1.out.below B4.out).below B5.out)) (fun hm => by have := HM5.out _ hm; omega)
        have hK9 : Hid (OwnB (w8.setCell ⟨g, 4, none⟩ (.slice a8 nK c8)) w1.heap.size 5 (.slice ka nK kc) K) := hk5.out.upd U9.out (fun i hi hm => by have := HM5.out _ hm; have := HKB.out i hi; omega)
        have hV9 : Hid (OwnB (w8.setCell ⟨g, 4, none⟩ (.slice a8 nK c8)) N 5 (.slice va nV vc) V) := hv5.out.upd U9.out (fun i hi hm => by have := HM5.out _ hm; have := HVB.out i hi; omega)
        have F9' : Hid (∀ i, WkM g (.slice a8 nK c8) i → M i ∨ w5.heap.size ≤ i) := F9.out
        clear h9 R8 k1 k2 hnb U8 F9
        generalize w8.setCell ⟨g, 4, none⟩ (.slice a8 nK c8) = w9 at *
        have m0 := EX9.out.cells.1
        have m1 := EX9.out.cells.2
        have n0 := ER9.out.cells.1
        have n1 := ER9.out.cells.2
        have n2 := ER9.out.fr 0
        have n3 := ER9.out.fr 1
        have HZ : Hid (E2 ((w9.setCell ⟨W.heap.size, 0, none⟩ (.slice ka nK kc)).setCell ⟨W.heap.size, 1, none⟩ (.slice va nV vc)) W.heap.size (.slice ka nK kc) (.slice va nV vc)) := ER9.out.set _ _
        have HU : Hid (Upd (fun i => i = W.heap.size) w9 ((w9.setCell ⟨W.heap.size, 0, none⟩ (.slice ka nK kc)).setCell ⟨W.heap.size, 1, none⟩ (.slice va nV vc))) := (set_upd _ W.heap.size 0 _).trans (set_upd _ W.heap.size 1 _)
        have HFF : Hid (EnPost W B g a l c p n num ls zs px M (.returned (.agg #[.slice ka nK kc, .slice va nV vc])) ((w9.setCell ⟨W.heap.size, 0, none⟩ (.slice ka nK kc)).setCell ⟨W.heap.size, 1, none⟩ (.slice va nV vc))) := by
          have hz5 : w1.heap.size ≤ w5.heap.size := Nat.le_trans B4.out.size B5.out.size
          have hfp : ∀ i, WkM g (.slice a8 nK c8) i → i ≠ W.heap.size ∧ (Value.slice ka nK kc).ownBlock ≠ some i ∧ (Value.slice va nV vc).ownBlock ≠ some i := fun i hi => by
            rcases F9'.out i hi with h1 | h1
            · have h2 := HM5.out i h1
              exact ⟨by omega, fun e => by have := HKB.out i e; omega, fun e => by have := HVB.out i e; omega⟩
            · exact ⟨by omega, fun e => by have := HKB.out i e; omega, fun e => by have := HVB.out i e; omega⟩
          refine hHEN.out _ _ ⟨ka, kc, va, vc, N, .slice a8 nK c8, ?_, ?_, ?_, ?_, ?_, R9.out.upd HU.out (fun i hi e => (hfp i hi).1 e), ?_, ?_, ?_⟩
          · rw [hnK.out, hnV.out]
          · rw [hnK.out]; exact (hK9.out.mono (by omega)).upd HU.out (fun i hi e => by have := HKB.out i hi; omega)
          · rw [hnV.out]; exact hV9.out.upd HU.out (fun i hi e => by have := HVB.out i hi; omega)
          · have := HN4.out.1; omega
          · rw [hnK.out]; exact fun i hi => (HN4.out.2.1 i hi).1
          · exact ((Upd.of_below HB5.out M).trans U9.out).then HU.out (fun i hi e => by omega)
          · exact fun i hi => (F9'.out i hi).imp id (fun h => by omega)
          · rw [hnK.out, hnV.out]; exact fun i hi => (hfp i hi).2
        clear hHEN hk5 hv5 O6 RK EX5 EX6 H5 H4 EX HK4 HV4
        go_wp2_with fail
        exact en_end HZ.out rfl rfl HFF.out
    · have hcm' : 0 ≤ cv := by omega
      have d1 := H5.out.cells.2.1
      have HF : Hid (EnPost W B g a l c p n num ls zs px M (fallen 51 p) w5) := (HEN.out _ _).2 (.inr ⟨by rw [if_neg (by simp), if_neg hcm]; decide, by rw [if_neg (by simp), if_neg hcm, if_neg (by simp)], HB5.out⟩)
      go_wp2_with fail
      refine (giveUp_any 51 p w5).mono ?_
      rintro e w6 ⟨rfl, rfl⟩
      exact ⟨rfl, HF.out⟩
  · have hne : (er != 0) = true := by simp [he]
    have HF : Hid (EnPost W B g a l c p n num ls zs px M (fallen er pl) w4) := (HEN.out _ _).2 (.inr ⟨by rw [if_pos he]; exact he, by rw [if_pos he, if_pos he], HB4.out⟩)
    go_wp2_with fail
    refine (giveUp_any er pl w4).mono ?_
    rintro e w6 ⟨rfl, rfl⟩
    exact ⟨rfl, HF.out⟩

end Go.Proofs.YtepjblmjjegpgaaGreat
