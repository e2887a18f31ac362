/- StreamWrites: both Writers side by side. -/
import Derived.Test.YtepjblmjjegpgaaGreatW47
import Derived.Test.YtepjblmjjegpgaaGreatW45
import Derived.Test.YtepjblmjjegpgaaGreatW44
namespace Go.Proofs.YtepjblmjjegpgaaGreat
open Go.RowKit
set_option maxRecDepth 100000

/-- The program's Writer and the document's. -/
structure W2 (w W : World) (B g gr N : Nat) (s : St) (sh : Bool) (zs : List Int) (M : Nat → Prop) (s' : St) (sh' : Bool) (told : Nat) (Mr : Nat → Prop) : Prop where
  wt : WtAt W B M g N s sh zs
  rt : RtAt W B Mr gr N s' sh' told
  dj : ∀ i, M i → ¬ Mr i
  bel : Below w.heap.size w W
  Bw : w.heap.size ≤ B
  BW : B ≤ W.heap.size
section
variable {w W W' : World} {B g gr N told : Nat} {s s' : St} {sh sh' : Bool} {zs : List Int} {M Mr : Nat → Prop}
theorem W2.upd {S : Nat → Prop} (h : W2 w W B g gr N s sh zs M s' sh' told Mr) (hu : Upd S W W') (h1 : ∀ i, S i → B ≤ i ∧ ¬ M i ∧ ¬ Mr i) : W2 w W' B g gr N s sh zs M s' sh' told Mr :=
  ⟨h.wt.upd hu (fun i q r => (h1 i r).2.1 q), h.rt.upd hu (fun i q r => (h1 i r).2.2 q) (fun i r => (h1 i r).1), h.dj, h.bel.trans (hu.below h.bel.size (fun i hi r => by have := (h1 i r).1; have := h.Bw; omega)), h.Bw, by have := hu.size; have := h.BW; omega⟩
theorem W2.below (h : W2 w W B g gr N s sh zs M s' sh' told Mr) (hb : Below W.heap.size W W') : W2 w W' B g gr N s sh zs M s' sh' told Mr := h.upd (Upd.of_below hb Noth) (fun _ e => e.elim)
theorem W2.young (h : W2 w W B g gr N s sh zs M s' sh' told Mr) : ∀ i, W.heap.size ≤ i → B ≤ i ∧ ¬ M i ∧ ¬ Mr i := fun i hi => ⟨by have := h.BW; omega, fun q => by have := (h.wt.lt i q).2; omega, fun q => by have := (h.rt.lt i q).2; omega⟩
theorem W2.prog {t : St} {th : Bool} {ys : List Int} (h : W2 w W B g gr N s sh zs M s' sh' told Mr) (q : WtUp W B g M N t th ys W') : ∃ M', W2 w W' B g gr N t th ys M' s' sh' told Mr ∧ Upd M W W' ∧ ∀ i, M' i → M i ∨ W.heap.size ≤ i := by
  obtain ⟨M', h1, h2, h3⟩ := q
  exact ⟨M', ⟨h1, h.rt.upd h2 (fun i q r => h.dj i r q) (fun i r => (h.wt.lt i r).1), fun i q r => (h3 i q).elim (fun x => h.dj i x r) (fun x => by have := (h.rt.lt i r).2; omega), h.bel.trans (h2.below h.bel.size (fun i hi r => by have := (h.wt.lt i r).1; have := h.Bw; omega)), h.Bw, by have := h2.size; have := h.BW; omega⟩, h2, h3⟩
theorem W2.doc {t : St} {th : Bool} {told' : Nat} (h : W2 w W B g gr N s sh zs M s' sh' told Mr) (q : RtUp W B Mr gr N t th told' W') : ∃ Mr', W2 w W' B g gr N s sh zs M t th told' Mr' ∧ Upd Mr W W' ∧ ∀ i, Mr' i → Mr i ∨ W.heap.size ≤ i := by
  obtain ⟨M', h1, h2, h3⟩ := q
  exact ⟨M', ⟨h.wt.upd h2 (fun i q r => h.dj i q r), h1, fun i q r => (h3 i r).elim (fun x => h.dj i q x) (fun x => by have := (h.wt.lt i q).2; omega), h.bel.trans (h2.below h.bel.size (fun i hi r => by have := (h.rt.lt i r).1; have := h.Bw; omega)), h.Bw, by have := h2.size; have := h.BW; omega⟩, h2, h3⟩
end

/-- What a step makes of a Writer. -/
def aE (sh : Bool) (s : St) (k v : List Int) : Int := if sh then 87 else sErr s k v
def aS (N : Nat) (sh : Bool) (s : St) (k v : List Int) : St := if sh then s else sAdd N s k v
def aZ (N : Nat) (sh : Bool) (s : St) (zs k v : List Int) : List Int := if sh then zs else zs ++ sOut N s k v
def cE (sh : Bool) : Int := if sh then 87 else 0
def cS (sh : Bool) (s : St) : St := if sh then s else sCut s
def cZ (sh : Bool) (s : St) (zs : List Int) : List Int := if sh then zs else zs ++ sFr s
def dZ (sh : Bool) (s : St) (zs : List Int) : List Int := if sh then zs else zs ++ sFr s ++ endB (sCut s).L
theorem drop_keep {a b c : List Int} {n : Nat} (hn : n ≤ a.length) (he : a ++ b = c) : a.drop n ++ b = c.drop n ∧ n ≤ c.length := by
  subst he
  exact ⟨(List.drop_append_of_le_length hn).symm, by rw [List.length_append]; omega⟩
theorem fullB_f (s : St) : fullB s false = hd8 ++ byts s.L := by unfold fullB; simp
theorem fullB_t (s : St) : fullB s true = hd8 ++ byts s.L ++ endB s.L := by unfold fullB; simp
/-- Between two steps. -/
structure WI (w W : World) (B g gr N : Nat) (s : St) (sh : Bool) (told : Nat) (M Mr : Nat → Prop) : Prop where
  h : W2 w W B g gr N s sh ((fullB s sh).drop told) M s sh told Mr
  lt : s.now.length < N
  tl : told ≤ (fullB s sh).length
  n1 : 1 ≤ N
theorem WI.add {w W W' : World} {B g gr N told : Nat} {s : St} {sh : Bool} {M Mr M1 Mr1 : Nat → Prop} (h : WI w W B g gr N s sh told M Mr) {k v : List Int} (h2 : W2 w W' B g gr N (aS N sh s k v) sh (aZ N sh s ((fullB s sh).drop told) k v) M1 (aS N sh s k v) sh told Mr1) : WI w W' B g gr N (aS N sh s k v) sh told M1 Mr1 := by
  cases sh
  · have q := h.tl
    rw [fullB_f] at q
    obtain ⟨q1, q2⟩ := drop_keep q (sure_add (N := N) (s := s) (k := k) (v := v))
    simp only [aS, aZ, Bool.false_eq_true, if_false] at h2 ⊢
    rw [fullB_f, q1] at h2
    exact ⟨by rw [fullB_f]; exact h2, sAdd_lt h.n1 h.lt, by rw [fullB_f]; exact q2, h.n1⟩
  · simp only [aS, aZ, if_true] at h2 ⊢
    exact ⟨h2, h.lt, h.tl, h.n1⟩
theorem sCut_lt {N : Nat} {s : St} (hN : 1 ≤ N) (h : s.now.length < N) : (sCut s).now.length < N := by
  unfold sCut
  split
  · exact h
  · exact hN
theorem WI.cut {w W W' : World} {B g gr N told : Nat} {s : St} {sh : Bool} {M Mr M1 Mr1 : Nat → Prop} (h : WI w W B g gr N s sh told M Mr) (h2 : W2 w W' B g gr N (cS sh s) sh (cZ sh s ((fullB s sh).drop told)) M1 (cS sh s) sh told Mr1) : WI w W' B g gr N (cS sh s) sh told M1 Mr1 := by
  cases sh
  · have q := h.tl
    rw [fullB_f] at q
    obtain ⟨q1, q2⟩ := drop_keep q (sure_cut s)
    simp only [cS, cZ, Bool.false_eq_true, if_false] at h2 ⊢
    rw [fullB_f, q1] at h2
    exact ⟨by rw [fullB_f]; exact h2, sCut_lt h.n1 h.lt, by rw [fullB_f]; exact q2, h.n1⟩
  · simp only [cS, cZ, if_true] at h2 ⊢
    exact ⟨h2, h.lt, h.tl, h.n1⟩
theorem WI.shut {w W W' : World} {B g gr N told : Nat} {s : St} {sh : Bool} {M Mr M1 Mr1 : Nat → Prop} (h : WI w W B g gr N s sh told M Mr) (h2 : W2 w W' B g gr N (cS sh s) true (dZ sh s ((fullB s sh).drop told)) M1 (cS sh s) true told Mr1) : WI w W' B g gr N (cS sh s) true told M1 Mr1 := by
  cases sh
  · have q := h.tl
    rw [fullB_f] at q
    obtain ⟨q1, q2⟩ := drop_keep q (sure_cut s)
    obtain ⟨q3, q4⟩ := drop_keep (b := endB (sCut s).L) q2 rfl
    simp only [cS, dZ, Bool.false_eq_true, if_false] at h2 ⊢
    rw [fullB_f, q1, q3] at h2
    exact ⟨by rw [fullB_t]; exact h2, sCut_lt h.n1 h.lt, by rw [fullB_t]; exact q4, h.n1⟩
  · simp only [cS, dZ, if_true] at h2 ⊢
    exact ⟨h2, h.lt, h.tl, h.n1⟩
theorem WI.told {w W W' : World} {B g gr N told : Nat} {s : St} {sh : Bool} {M Mr M1 Mr1 : Nat → Prop} (h : WI w W B g gr N s sh told M Mr) (h2 : W2 w W' B g gr N s sh [] M1 s sh (fullB s sh).length Mr1) : WI w W' B g gr N s sh (fullB s sh).length M1 Mr1 :=
  ⟨by rw [List.drop_length]; exact h2, h.lt, Nat.le_refl _, h.n1⟩

section
variable {w w1 w2 W W' : World} {B g gr N told : Nat} {s s' : St} {sh sh' : Bool} {zs : List Int} {M Mr : Nat → Prop}
def A8Post (w W : World) (B g gr N : Nat) (t : St) (th : Bool) (ys : List Int) (M : Nat → Prop) (s' : St) (sh' : Bool) (told : Nat) (Mr : Nat → Prop) (x : Int) (e : Ending) (W' : World) : Prop := e = .returned (.int .i64 x) ∧ ∃ M1, W2 w W' B g gr N t th ys M1 s' sh' told Mr ∧ Upd M W W' ∧ ∀ i, M1 i → M i ∨ W.heap.size ≤ i
def R8Post (w W : World) (B g gr N : Nat) (s : St) (sh : Bool) (zs : List Int) (M : Nat → Prop) (t : St) (th : Bool) (told : Nat) (Mr : Nat → Prop) (x : Int) (e : Ending) (W' : World) : Prop := e = .returned (.int .i64 x) ∧ ∃ M1, W2 w W' B g gr N s sh zs M t th told M1 ∧ Upd Mr W W' ∧ ∀ i, M1 i → Mr i ∨ W.heap.size ≤ i
theorem W2.stay (h : W2 w W B g gr N s sh zs M s' sh' told Mr) (hb : Below W.heap.size W W') : ∃ M', W2 w W' B g gr N s sh zs M' s' sh' told Mr ∧ Upd M W W' ∧ ∀ i, M' i → M i ∨ W.heap.size ≤ i := ⟨M, h.below hb, Upd.of_below hb M, fun _ q => .inl q⟩
theorem W2.stayR (h : W2 w W B g gr N s sh zs M s' sh' told Mr) (hb : Below W.heap.size W W') : ∃ M', W2 w W' B g gr N s sh zs M s' sh' told M' ∧ Upd Mr W W' ∧ ∀ i, M' i → Mr i ∨ W.heap.size ≤ i := ⟨Mr, h.below hb, Upd.of_below hb Mr, fun _ q => .inl q⟩
theorem wadd8 {en : Ent} {gk gv gm nk nv : Nat} (h : W2 w w2 B g gr N s sh zs M s' sh' told Mr) (hlt : s.now.length < N) (h1 : W2 w w1 B g gr N s sh zs M s' sh' told Mr) (hel : ElOk w2 w1.heap.size w1.heap.size [cpE en gk gv, mkE gm]) (ok : en.Ok w1) (hnk : en.ks.length = nk) (hnv : en.vs.length = nv) :
    Calls Tryz.prog 15 #[.pointer (some ⟨g, 0, none⟩), .agg #[.slice (some ⟨gk, 0, none⟩) nk (nk + 1), .slice (some ⟨gv, 0, none⟩) nv (nv + 1)]] w2 (A8Post w w2 B g gr N (aS N sh s en.ks en.vs) sh (aZ N sh s zs en.ks en.vs) M s' sh' told Mr (aE sh s en.ks en.vs)) := by
  subst hnk hnv
  have y := cp1_young hel
  cases sh
  · refine (wadd_any h.wt hlt (cpE en gk gv) (cp1_ok hel ok) (fun x hx _ => by cases hx; exact (h1.young gk y.1).2.1) (fun x hx _ => by cases hx; exact (h1.young gv y.2).2.1)).mono ?_
    rintro e W' ⟨rfl, hu⟩
    exact ⟨rfl, h.prog hu⟩
  · refine (wadd_shut h.wt (cpE en gk gv) (cp1_ok hel ok)).mono ?_
    rintro e W' ⟨rfl, hb⟩
    exact ⟨rfl, h.stay hb⟩
theorem radd8 {en : Ent} {nk nv : Nat} (h : W2 w W B g gr N s sh zs M s' sh' told Mr) (hlt : s'.now.length < N) (ok : en.Ok W) (hx : EsB B en) (hnk : en.ks.length = nk) (hnv : en.vs.length = nv) :
    Calls Tryz.prog 18 #[.pointer (some ⟨gr, 0, none⟩), .agg #[.slice en.ka nk en.kc, .slice en.va nv en.vc]] W (R8Post w W B g gr N s sh zs M (aS N sh' s' en.ks en.vs) sh' told Mr (aE sh' s' en.ks en.vs)) := by
  subst hnk hnv
  cases sh'
  · refine (radd_any h.rt hlt en ok hx).mono ?_
    rintro e W' ⟨rfl, hu⟩
    exact ⟨rfl, h.doc hu⟩
  · refine (radd_shut h.rt en).mono ?_
    rintro e W' ⟨rfl, hb⟩
    exact ⟨rfl, h.stayR hb⟩
theorem wcut8 (h : W2 w W B g gr N s sh zs M s' sh' told Mr) :
    Calls Tryz.prog 20 #[.pointer (some ⟨g, 0, none⟩)] W (A8Post w W B g gr N (cS sh s) sh (cZ sh s zs) M s' sh' told Mr (cE sh)) := by
  cases sh
  · refine (wcut_any h.wt).mono ?_
    rintro e W' ⟨rfl, hu⟩
    exact ⟨rfl, h.prog hu⟩
  · refine (wcut_shut h.wt).mono ?_
    rintro e W' ⟨rfl, rfl⟩
    exact ⟨rfl, h.stay (Below.refl _ _)⟩
theorem rcut8 (h : W2 w W B g gr N s sh zs M s' sh' told Mr) :
    Calls Tryz.prog 21 #[.pointer (some ⟨gr, 0, none⟩)] W (R8Post w W B g gr N s sh zs M (cS sh' s') sh' told Mr (cE sh')) := by
  cases sh'
  · refine (rcut_any h.rt).mono ?_
    rintro e W' ⟨rfl, hu⟩
    exact ⟨rfl, h.doc hu⟩
  · refine (rcut_shut h.rt).mono ?_
    rintro e W' ⟨rfl, rfl⟩
    exact ⟨rfl, h.stayR (Below.refl _ _)⟩
theorem wclose8 (h : W2 w W B g gr N s sh zs M s' sh' told Mr) :
    Calls Tryz.prog 14 #[.pointer (some ⟨g, 0, none⟩)] W (A8Post w W B g gr N (cS sh s) true (dZ sh s zs) M s' sh' told Mr (cE sh)) := by
  cases sh
  · refine (wclose_any h.wt).mono ?_
    rintro e W' ⟨rfl, hu⟩
    exact ⟨rfl, h.prog hu⟩
  · refine (wclose_shut h.wt).mono ?_
    rintro e W' ⟨rfl, rfl⟩
    exact ⟨rfl, h.stay (Below.refl _ _)⟩
theorem rclose8 (h : W2 w W B g gr N s sh zs M s' sh' told Mr) :
    Calls Tryz.prog 22 #[.pointer (some ⟨gr, 0, none⟩)] W (R8Post w W B g gr N s sh zs M (cS sh' s') true told Mr (cE sh')) := by
  cases sh'
  · refine (rclose_any h.rt).mono ?_
    rintro e W' ⟨rfl, hu⟩
    exact ⟨rfl, h.doc hu⟩
  · refine (rclose_shut h.rt).mono ?_
    rintro e W' ⟨rfl, hu⟩
    exact ⟨rfl, h.doc hu⟩
end
theorem RwO.sps {W : World} {B : Nat} {v : Value} {C : List Spn} {L : List (List KV)} (h : RwO W B v C L) : ∃ a b cap, v = .slice a C.length cap ∧ (0 < C.length → a = some ⟨b, 0, none⟩) ∧ Sps W b 0 C := by
  obtain ⟨a, b, cap, h1, h2, h3⟩ := h.o.slice
  exact ⟨a, b, cap, h1, h2, fun i hi => by rw [Nat.zero_add]; exact h3 i hi, h.ok⟩

end Go.Proofs.YtepjblmjjegpgaaGreat
