/- foot: readRow. -/
import Derived.Test.YtlachimmfjagbaaFKey
namespace Go.Proofs.Ytlachimmfjagbaa
open Go.RowKit

def set4 (W : World) (g : Nat) (v : Value) (a b c : Int) : World := (((W.setCell ⟨g, 0, none⟩ v).setCell ⟨g, 1, none⟩ (.int .i64 a)).setCell ⟨g, 2, none⟩ (.int .i64 b)).setCell ⟨g, 3, none⟩ (.int .i64 c)
theorem set4_blk {W : World} {g : Nat} {v : Value} {a b c : Int} {x0 x1 x2 x3 : Value} {T : TypeId} (h : W.heap[g]? = some (.cells #[x0, x1, x2, x3] T (0, 0))) : (set4 W g v a b c).heap[g]? = some (.cells #[v, .int .i64 a, .int .i64 b, .int .i64 c] T (0, 0)) :=
  block_setCell (block_setCell (block_setCell (block_setCell h 0 _) 1 _) 2 _) 3 _
theorem set4_upd (W : World) (g : Nat) (v : Value) (a b c : Int) : Upd (fun k => k = g) W (set4 W g v a b c) :=
  (((((Upd.refl (fun k => k = g) W).setCell ⟨g, 0, none⟩ v (fun _ => rfl)).setCell ⟨g, 1, none⟩ (.int .i64 a) (fun _ => rfl)).setCell ⟨g, 2, none⟩ (.int .i64 b) (fun _ => rfl)).setCell ⟨g, 3, none⟩ (.int .i64 c) (fun _ => rfl))

/-- While a row's numbers are read. -/
structure RrI (w wr : World) (g5 g8 g14 gt g2 g3 : Nat) (aa : Option Addr) (la ca p' q' : Nat) (z : Int) (v : Value) (K : List Int) (f0 f1 f2 : Int) : Prop where
  bel : Below w.heap.size w wr
  tab : Tab wr gt g2 g3
  b5 : wr.heap[g5]? = some (.cells #[.slice aa la ca, .int .i64 (p' : Int), .int .i64 (q' : Int), .int .i64 z] 33 (0, 0))
  b8 : wr.heap[g8]? = some (.cells #[.slice none 0 0, .int .i64 0, .int .i64 0, .int .i64 0] 33 (0, 0))
  b14 : wr.heap[g14]? = some (.cells #[v, .int .i64 f0, .int .i64 f1, .int .i64 f2] 33 (0, 0))
  o : OwnB wr w.heap.size 5 v K
  dv : ∀ i, v.ownBlock = some i → i ≠ g8 ∧ i ≠ g14
  n : w.heap.size ≤ g8 ∧ w.heap.size ≤ g14
  d : g8 ≠ g14 ∧ g5 ≠ g8 ∧ g5 ≠ g14
  dt : (gt ≠ g8 ∧ gt ≠ g14) ∧ (g2 ≠ g8 ∧ g2 ≠ g14) ∧ (g3 ≠ g8 ∧ g3 ≠ g14)
section
variable {w wr W' : World} {g5 g8 g14 gt g2 g3 : Nat} {aa : Option Addr} {la ca p' q' : Nat} {z : Int} {v : Value} {K : List Int} {f0 f1 f2 : Int}
theorem RrI.below (h : RrI w wr g5 g8 g14 gt g2 g3 aa la ca p' q' z v K f0 f1 f2) (hb : Below wr.heap.size wr W') : RrI w W' g5 g8 g14 gt g2 g3 aa la ca p' q' z v K f0 f1 f2 :=
  ⟨h.bel.trans (hb.mono h.bel.size), h.tab.below hb, (hb.block _ (lt_of_block h.b5)).trans h.b5, (hb.block _ (lt_of_block h.b8)).trans h.b8, (hb.block _ (lt_of_block h.b14)).trans h.b14, h.o.below hb, h.dv, h.n, h.d, h.dt⟩
theorem RrI.cells8 (h : RrI w wr g5 g8 g14 gt g2 g3 aa la ca p' q' z v K f0 f1 f2) : wr.cell? ⟨g8, 0, none⟩ = some (.slice none 0 0) ∧ wr.cell? ⟨g8, 1, none⟩ = some (.int .i64 0) ∧ wr.cell? ⟨g8, 2, none⟩ = some (.int .i64 0) ∧ wr.cell? ⟨g8, 3, none⟩ = some (.int .i64 0) ∧ wr.frozen? ⟨g8, 0, none⟩ = false ∧ wr.frozen? ⟨g8, 1, none⟩ = false ∧ wr.frozen? ⟨g8, 2, none⟩ = false ∧ wr.frozen? ⟨g8, 3, none⟩ = false :=
  ⟨by rw [cell_of_row _ _ _ _ _ _ h.b8]; rfl, by rw [cell_of_row _ _ _ _ _ _ h.b8]; rfl, by rw [cell_of_row _ _ _ _ _ _ h.b8]; rfl, by rw [cell_of_row _ _ _ _ _ _ h.b8]; rfl, by simp [World.frozen?, h.b8], by simp [World.frozen?, h.b8], by simp [World.frozen?, h.b8], by simp [World.frozen?, h.b8]⟩
theorem RrI.set8 (h : RrI w wr g5 g8 g14 gt g2 g3 aa la ca p' q' z v K f0 f1 f2) (x : Value) (a b c : Int) : Below w.heap.size w (set4 wr g8 x a b c) :=
  h.bel.trans ((set4_upd wr g8 x a b c).below h.bel.size (fun k hk e => by have := h.n.1; omega))
theorem RrI.zeroed (h : RrI w wr g5 g8 g14 gt g2 g3 aa la ca p' q' z v K f0 f1 f2) : Below w.heap.size w (set4 wr g8 (.slice none 0 0) 0 0 0) := h.set8 _ _ _ _
theorem RrI.put (h : RrI w wr g5 g8 g14 gt g2 g3 aa la ca p' q' z v K f0 f1 f2) (j : Nat) (x : Int) {e0 e1 e2 : Int} (he : (#[v, .int .i64 f0, .int .i64 f1, .int .i64 f2] : Array Value).setIfInBounds j (.int .i64 x) = #[v, .int .i64 e0, .int .i64 e1, .int .i64 e2]) : RrI w (wr.setCell ⟨g14, j, none⟩ (.int .i64 x)) g5 g8 g14 gt g2 g3 aa la ca p' q' z v K e0 e1 e2 := by
  have hu : Upd (fun k => k = g14) wr (wr.setCell ⟨g14, j, none⟩ (.int .i64 x)) := (Upd.refl (fun k => k = g14) wr).setCell ⟨g14, j, none⟩ _ (fun _ => rfl)
  refine ⟨h.bel.trans (hu.below h.bel.size (fun k hk e => by have := h.n.2; omega)), h.tab.upd hu h.dt.1.2 h.dt.2.1.2 h.dt.2.2.2, hu.heap h.b5 h.d.2.2, hu.heap h.b8 h.d.1, ?_, h.o.upd hu (fun k hk => (h.dv k hk).2), h.dv, h.n, h.d, h.dt⟩
  rw [← he]
  exact block_setCell h.b14 j _
end

def fv (zs : List Int) (k1 k j : Nat) : Int := if j < k then ((nm zs (kK zs k1 j) : Nat) : Int) else 0
def RrPost (w : World) (pk : List Int) (pos : Nat) (zs : List Int) (p : Nat) (e : Ending) (w' : World) : Prop :=
  Below w.heap.size w w' ∧ (((rowR pk pos zs p).1 ≠ 0 ∧ e = .returned (.tuple #[.agg #[.slice none 0 0, .int .i64 0, .int .i64 0, .int .i64 0], .int .i64 ((rowR pk pos zs p).2 : Nat), .int .i64 (rowR pk pos zs p).1])) ∨
    ((rowR pk pos zs p).1 = 0 ∧ ∃ v, e = .returned (.tuple #[.agg #[v, .int .i64 (rowV zs p).p, .int .i64 (rowV zs p).l, .int .i64 (rowV zs p).n], .int .i64 ((rowR pk pos zs p).2 : Nat), .int .i64 0]) ∧ OwnB w' w.heap.size 5 v (ky zs p)))
theorem rr_end {W' : World} {act : Act} {g : Nat} {v : Value} {a b c P E : Int} {R : Ending → World → Prop} (hE : W'.heap[g]? = some (.cells #[v, .int .i64 a, .int .i64 b, .int .i64 c] 33 (0, 0))) (h8 : act.tmps[8]?.getD undef = .pointer (some ⟨g, 0, none⟩)) (h9 : act.tmps[9]?.getD undef = .int .i64 P) (h10 : act.tmps[10]?.getD undef = .int .i64 E) (hd : act.defers = []) (hR : R (.returned (.tuple #[.agg #[v, .int .i64 a, .int .i64 b, .int .i64 c], .int .i64 P, .int .i64 E])) W') :
    bodyPost Try.prog Try.f32 R Exit.ret act W' := by
  have q0 : W'.cell? ⟨g, 0, none⟩ = some v := by rw [cell_of_row _ _ _ _ _ _ hE]; rfl
  have q1 : W'.cell? ⟨g, 1, none⟩ = some (.int .i64 a) := by rw [cell_of_row _ _ _ _ _ _ hE]; rfl
  have q2 : W'.cell? ⟨g, 2, none⟩ = some (.int .i64 b) := by rw [cell_of_row _ _ _ _ _ _ hE]; rfl
  have q3 : W'.cell? ⟨g, 3, none⟩ = some (.int .i64 c) := by rw [cell_of_row _ _ _ _ _ _ hE]; rfl
  obtain ⟨tm, df⟩ := act
  simp only at h8 h9 h10 hd
  subst hd
  exact bodyPost_ret (v := .tuple #[.agg #[v, .int .i64 a, .int .i64 b, .int .i64 c], .int .i64 P, .int .i64 E]) (by simp [results, Try.results32, go_sem, h8, h9, h10, q0, q1, q2, q3]) rfl hR

set_option maxRecDepth 100000 in
set_option maxHeartbeats 3200000 in
theorem readrow_any {w : World} {gt g2 g3 : Nat} (T : Tab w gt g2 g3) (aa : Option Addr) (la ca p' q' : Nat) (z : Int) (pk : List Int) (a : Option Addr) (l c p : Nat) (zs : List Int) (hpk : pk.length = la) (hr0 : Row w .u8 aa pk) (p8 : B8 pk) (hp' : p' ≤ 2199023255552) (hq' : q' ≤ 2199023255552) (hl : zs.length = l) (hm : l ≤ 140739000000000) (hlc : l ≤ c) (hna : a = none → l = 0 ∧ c = 0) (hr : Row w .u8 a zs) (z8 : B8 zs) (hp : p ≤ l) :
    Calls Try.prog 32 #[.slice (some ⟨gt, 0, none⟩) 3 3, .agg #[.slice aa la ca, .int .i64 (p' : Int), .int .i64 (q' : Int), .int .i64 z], .slice a l c, .int .i64 (p : Int)] w (RrPost w pk (p' + q') zs p) := by
  have HP : Hid (∀ e w', RrPost w pk (p' + q') zs p e w' ↔ (Below w.heap.size w w' ∧ (((rowR pk (p' + q') zs p).1 ≠ 0 ∧ e = .returned (.tuple #[.agg #[.slice none 0 0, .int .i64 0, .int .i64 0, .int .i64 0], .int .i64 ((rowR pk (p' + q') zs p).2 : Nat), .int .i64 (rowR pk (p' + q') zs p).1])) ∨
    ((rowR pk (p' + q') zs p).1 = 0 ∧ ∃ v, e = .returned (.tuple #[.agg #[v, .int .i64 (rowV zs p).p, .int .i64 (rowV zs p).l, .int .i64 (rowV zs p).n], .int .i64 ((rowR pk (p' + q') zs p).2 : Nat), .int .i64 0]) ∧ OwnB w' w.heap.size 5 v (ky zs p))))) := fun _ _ => Iff.rfl
  obtain ⟨w1, hw1⟩ : ∃ w1, w1 = w.alloc (.cells #[.slice aa la ca, .int .i64 (p' : Int), .int .i64 (q' : Int), .int .i64 z] 33) := ⟨_, rfl⟩
  obtain ⟨w2, hw2⟩ : ∃ w2, w2 = w1.alloc (.cells #[.slice none 0 0, .int .i64 0, .int .i64 0, .int .i64 0] 33) := ⟨_, rfl⟩
  have b1 : Below w.heap.size w w1 := by rw [hw1]; exact (Below.refl _ _).alloc (Nat.le_refl _) _
  have b2 : Below w1.heap.size w1 w2 := by rw [hw2]; exact (Below.refl _ _).alloc (Nat.le_refl _) _
  have z1 : w1.heap.size = w.heap.size + 1 := by rw [hw1]; simp
  have z2 : w2.heap.size = w.heap.size + 2 := by rw [hw2]; simp; omega
  have hb5 : w2.heap[w.heap.size]? = some (.cells #[.slice aa la ca, .int .i64 (p' : Int), .int .i64 (q' : Int), .int .i64 z] 33 (0, 0)) := (b2.block w.heap.size (by omega)).trans (by rw [hw1]; exact heap_alloc_new w _)
  have hb8 : w2.heap[w.heap.size + 1]? = some (.cells #[.slice none 0 0, .int .i64 0, .int .i64 0, .int .i64 0] 33 (0, 0)) := by rw [← z1, hw2]; exact heap_alloc_new w1 _
  have B2 : Hid (Below w.heap.size w w2) := b1.trans (b2.mono b1.size)
  have HRO := hide (fun W (h : Below w.heap.size w W) => hr.below2 h)
  have HK := hide (readkey_any aa la ca (p' : Int) (q' : Int) z pk a l c p zs w2 hpk (hr0.below2 B2.out) p8 hl hm hlc hna (HRO.out w2 B2.out) z8 hp)
  have HTW := hide (fun W (h : Below w.heap.size w W) => T.below h)
  have hlt := lt_of_block T.t
  have hlt2 : g2 < w.heap.size := World.block_lt_of_cell? w ⟨g2, 0, none⟩ T.b2
  have hlt3 : g3 < w.heap.size := World.block_lt_of_cell? w ⟨g3, 0, none⟩ T.b3
  have x0 : w2.cell? ⟨w.heap.size, 0, none⟩ = some (.slice aa la ca) := by rw [cell_of_row _ _ _ _ _ _ hb5]; rfl
  have x1 : w2.cell? ⟨w.heap.size, 1, none⟩ = some (.int .i64 (p' : Int)) := by rw [cell_of_row _ _ _ _ _ _ hb5]; rfl
  have x2 : w2.cell? ⟨w.heap.size, 2, none⟩ = some (.int .i64 (q' : Int)) := by rw [cell_of_row _ _ _ _ _ _ hb5]; rfl
  have x3 : w2.cell? ⟨w.heap.size, 3, none⟩ = some (.int .i64 z) := by rw [cell_of_row _ _ _ _ _ _ hb5]; rfl
  have HB5 := hide hb5
  have HB8 := hide hb8
  clear T hr0 hr b1 b2 hb5 hb8
  rw [hw1] at hw2
  clear hw1
  go_enter Try.func32, Try.ntmps32
  go_upto_region 1 with fail
  rw [← hw2]
  clear hw2
  obtain ⟨g8, hg8⟩ : ∃ g8, g8 = w.heap.size + 1 := ⟨_, rfl⟩
  obtain ⟨g5, hg5⟩ : ∃ g5, g5 = w.heap.size := ⟨_, rfl⟩
  rw [← hg8] at HB8 ⊢
  rw [← hg5] at HB5 x0 x1 x2 x3 ⊢
  have HG : Hid (g5 = w.heap.size ∧ g8 = w.heap.size + 1) := ⟨hg5, hg8⟩
  clear hg5 hg8
  go_wp2_with fail
  refine HK.out.mono ?_
  rintro e w3 ⟨b3, hk⟩
  have hz3 := b3.size
  have B3 : Hid (Below w.heap.size w w3) := B2.out.trans (b3.mono B2.out.size)
  have HB53 := hide ((b3.block g5 (lt_of_block HB5.out)).trans HB5.out)
  have HB83 := hide ((b3.block g8 (lt_of_block HB8.out)).trans HB8.out)
  clear b3 HK x0 x1 x2 x3 HB5 HB8
  rcases hk with ⟨hk0, rfl⟩ | ⟨hk0, v, rfl, hov⟩
  · have HRW : Hid (rowR pk (p' + q') zs p = kyR pk zs p) := by show rowR _ _ _ _ = _; unfold rowR; rw [if_pos hk0]
    have HF0 : Hid (∀ W, Below w.heap.size w W → RrPost w pk (p' + q') zs p (.returned (.tuple #[.agg #[.slice none 0 0, .int .i64 0, .int .i64 0, .int .i64 0], .int .i64 ((kyR pk zs p).2 : Nat), .int .i64 (kyR pk zs p).1])) W) := fun W h => (HP.out _ W).2 ⟨h, .inl ⟨by rw [HRW.out]; exact hk0, by rw [HRW.out]⟩⟩
    generalize kyR pk zs p = R at *
    obtain ⟨E, Q⟩ := R
    simp only at hk0 HF0 ⊢
    have he' : (E != 0) = true := by simp [hk0]
    have z0 : w3.cell? ⟨g8, 0, none⟩ = some (.slice none 0 0) := by rw [cell_of_row _ _ _ _ _ _ HB83.out]; rfl
    have z1' : w3.cell? ⟨g8, 1, none⟩ = some (.int .i64 0) := by rw [cell_of_row _ _ _ _ _ _ HB83.out]; rfl
    have z2' : w3.cell? ⟨g8, 2, none⟩ = some (.int .i64 0) := by rw [cell_of_row _ _ _ _ _ _ HB83.out]; rfl
    have z3' : w3.cell? ⟨g8, 3, none⟩ = some (.int .i64 0) := by rw [cell_of_row _ _ _ _ _ _ HB83.out]; rfl
    have fz : ∀ j, w3.frozen? ⟨g8, j, none⟩ = false := fun j => by simp [World.frozen?, HB83.out]
    have fz0 := fz 0
    have fz1 := fz 1
    have fz2 := fz 2
    have fz3 := fz 3
    have HF := hide (HF0.out (set4 w3 g8 (.slice none 0 0) 0 0 0) (B3.out.trans ((set4_upd w3 g8 _ _ _ _).below B3.out.size (fun k hk e => by have := HG.out.2; omega))))
    have HZ8 := hide (set4_blk (v := .slice none 0 0) (a := 0) (b := 0) (c := 0) HB83.out)
    clear fz
    go_wp2_with fail
    exact rr_end HZ8.out rfl rfl rfl rfl HF.out
  · obtain ⟨_, k1a, k1b, k1c, _, k1d⟩ := kyR_ok hk0
    have HRR : Hid (rowR pk (p' + q') zs p = nuR (p' + q') zs (nx zs p + nm zs p) 3 0) := by show rowR _ _ _ _ = _; unfold rowR; rw [if_neg (fun h => h hk0), k1d]
    rw [k1d]
    have hKl := ky_len k1c
    have HRV : Hid ((rowV zs p).p = fv zs (nx zs p + nm zs p) 3 0 ∧ (rowV zs p).l = fv zs (nx zs p + nm zs p) 3 1 ∧ (rowV zs p).n = fv zs (nx zs p + nm zs p) 3 2) := ⟨rfl, rfl, rfl⟩
    obtain ⟨k1, hk1⟩ : ∃ k1, nx zs p + nm zs p = k1 := ⟨_, rfl⟩
    rw [hk1] at HRR HRV k1c ⊢
    obtain ⟨K, hKK⟩ : ∃ K, ky zs p = K := ⟨_, rfl⟩
    rw [hKK] at HP hov hKl
    have h64 : K.length ≤ 64 := by omega
    obtain ⟨va, vc, rfl, _, _, hub⟩ := hov.sliceN rfl
    obtain ⟨nv, hnv⟩ : ∃ nv, K.length = nv := ⟨_, rfl⟩
    rw [hnv] at hov hub ⊢
    have HOV := hide (hov.mono (show w.heap.size ≤ w2.heap.size by omega))
    have HUB := hide hub
    obtain ⟨w4, hw4⟩ : ∃ w4, w4 = w3.alloc (.cells #[.slice va nv vc, .int .i64 0, .int .i64 0, .int .i64 0] 33) := ⟨_, rfl⟩
    have b4 : Below w3.heap.size w3 w4 := by rw [hw4]; exact (Below.refl _ _).alloc (Nat.le_refl _) _
    have hb14 : w4.heap[w3.heap.size]? = some (.cells #[.slice va nv vc, .int .i64 0, .int .i64 0, .int .i64 0] 33 (0, 0)) := by rw [hw4]; exact heap_alloc_new w3 _
    have H0 : Hid (RrI w w4 g5 g8 w3.heap.size gt g2 g3 aa la ca p' q' z (.slice va nv vc) K 0 0 0) := by
      have hG := HG.out
      have l5 := lt_of_block HB53.out
      have l8 := lt_of_block HB83.out
      refine ⟨B3.out.trans (b4.mono B3.out.size), HTW.out w4 (B3.out.trans (b4.mono B3.out.size)), (b4.block g5 l5).trans HB53.out, (b4.block g8 l8).trans HB83.out, hb14, HOV.out.below b4, fun i hi => ?_, ⟨by omega, B3.out.size⟩, ⟨by omega, by omega, by omega⟩, ⟨⟨by omega, by omega⟩, ⟨by omega, by omega⟩, ⟨by omega, by omega⟩⟩⟩
      have := HUB.out i hi
      omega
    clear hov hub b4 hb14 hk1 hKK k1d hk0
    go_wp2_with fail
    rw [← hw4]
    clear hw4
    obtain ⟨g14, hg14⟩ : ∃ g14, g14 = w3.heap.size := ⟨_, rfl⟩
    rw [← hg14] at H0 ⊢
    clear hg14
    generalize hvv : Value.slice va nv vc = v at *
    replace hvv := hide hvv
    go_loopw [12, 37] (fun y x wr => ∃ k : Nat, k ≤ 3 ∧ x = .int .i64 (k : Int) ∧ y = .int .i64 ((kK zs k1 k : Nat) : Int) ∧ Hid (RrI w wr g5 g8 g14 gt g2 g3 aa la ca p' q' z v K (fv zs k1 k 0) (fv zs k1 k 1) (fv zs k1 k 2)) ∧ Hid (nuR (p' + q') zs k1 3 0 = nuR (p' + q') zs k1 (3 - k) k)) (fun _ x _ => 3 - (intOf x).toNat)
    case atStart => exact ⟨0, by omega, rfl, rfl, H0, rfl⟩
    case round =>
      clear H0
      obtain ⟨k, hk3, rfl, rfl, HI, HN⟩ := hrel
      rename World => wr
      have hkc : k = 0 ∨ k = 1 ∨ k = 2 ∨ k = 3 := by omega
      rcases hkc with rfl | rfl | rfl | rfl
      ·
          have HI' : Hid (RrI w wr g5 g8 g14 gt g2 g3 aa la ca p' q' z v K 0 0 0) := HI.out
          have HTb := hide HI'.out.tab.t
          have e0 : wr.cell? ⟨gt, 0, none⟩ = some (.func (.func 44) #[] #[]) := by rw [cell_of_row _ _ _ _ _ _ HTb.out]; rfl
          have e1' : wr.cell? ⟨gt, 1, none⟩ = some (.func (.func 45) #[] #[]) := by rw [cell_of_row _ _ _ _ _ _ HTb.out]; rfl
          have e2' : wr.cell? ⟨gt, 2, none⟩ = some (.int .i64 73) := by rw [cell_of_row _ _ _ _ _ _ HTb.out]; rfl
          obtain ⟨y1, hy1⟩ : ∃ y1, y1 = wr.alloc (.cells #[.func (.func 44) #[] #[], .func (.func 45) #[] #[], .int .i64 73] 57) := ⟨_, rfl⟩
          have by1 : Below wr.heap.size wr y1 := by rw [hy1]; exact (Below.refl _ _).alloc (Nat.le_refl _) _
          have hbr : y1.heap[wr.heap.size]? = some (.cells #[.func (.func 44) #[] #[], .func (.func 45) #[] #[], .int .i64 73] 57 (0, 0)) := by rw [hy1]; exact heap_alloc_new wr _
          have I1 := hide (HI'.out.below by1)
          have hne8 : g8 < wr.heap.size := lt_of_block HI'.out.b8
          have hkl := kK_le z8 (show k1 ≤ zs.length by omega) 0
          obtain ⟨_, _, _, hq1, hq2, hNB⟩ := rd_at zs (kK zs k1 0) z8 hkl
          have HVR := hide (vread_at a l c (kK zs k1 0) zs y1 hl hm (HRO.out y1 I1.out.bel) z8 (by omega))
          have HNU : Hid (nuR (p' + q') zs k1 3 0 = if er zs (kK zs k1 0) ≠ 0 then (er zs (kK zs k1 0), nx zs (kK zs k1 0)) else if ¬ rlN (p' + q') 0 (nm zs (kK zs k1 0)) then (73 + ((0 : Nat) : Int), kK zs k1 0) else nuR (p' + q') zs k1 2 1) := HN.out
          have HKS : Hid (kK zs k1 (0 + 1) = nx zs (kK zs k1 0)) := rfl
          have HFV : Hid (∀ W f, f = ((nm zs (kK zs k1 0) : Nat) : Int) → RrI w W g5 g8 g14 gt g2 g3 aa la ca p' q' z v K f 0 0 → RrI w W g5 g8 g14 gt g2 g3 aa la ca p' q' z v K (fv zs k1 1 0) (fv zs k1 1 1) (fv zs k1 1 2)) := fun W f hf h => by
            subst hf
            exact h
          obtain ⟨N, hN'⟩ : ∃ N, nm zs (kK zs k1 0) = N := ⟨_, rfl⟩
          obtain ⟨Q, hQ⟩ : ∃ Q, nx zs (kK zs k1 0) = Q := ⟨_, rfl⟩
          obtain ⟨E, hE⟩ : ∃ E, er zs (kK zs k1 0) = E := ⟨_, rfl⟩
          obtain ⟨pl, hpl⟩ : ∃ pl, kK zs k1 0 = pl := ⟨_, rfl⟩
          rw [hN'] at hNB HFV
          rw [hN', hQ, hE] at HVR HNU
          rw [hQ] at hq1 hq2 HKS
          rw [hpl] at HVR HNU hkl hq2
          clear hN' hQ hE by1
          rw [hpl]
          clear hpl
          go_upto_region 8 with fail
          rw [← hy1]
          clear hy1 e0 e1' e2' HTb HI HI' HN
          obtain ⟨gr, hgr⟩ : ∃ gr, gr = wr.heap.size := ⟨_, rfl⟩
          rw [← hgr] at hbr hne8 ⊢
          clear hgr
          have HBR := hide hbr
          have hgr : gr < y1.heap.size := lt_of_block hbr
          clear hbr
          go_wp2_with fail
          refine HVR.out.mono ?_
          rintro e y2 ⟨rfl, b2⟩
          have I2 := hide (I1.out.below b2)
          have HBR2 := hide ((b2.block gr hgr).trans HBR.out)
          have hgr2 : gr < y2.heap.size := Nat.lt_of_lt_of_le hgr b2.size
          clear b2 HVR I1 HBR hgr
          by_cases he : E = 0
          · subst he
            replace HNU : Hid (nuR (p' + q') zs k1 3 0 = if ¬ rlN (p' + q') 0 N then (73 + ((0 : Nat) : Int), pl) else nuR (p' + q') zs k1 2 1) := by show nuR _ _ _ _ _ = _; rw [HNU.out, if_neg (by simp)]
            obtain ⟨bb, hbb⟩ : ∃ bb : Bool, bb = decide (N = p' + q') := ⟨_, rfl⟩
            have HMAY : Hid (∀ W, Below y2.heap.size y2 W → Calls Try.prog 45 #[.int .u64 (N : Int), .int .u64 ((p' + q' : Nat) : Int)] W fun e w' => e = .returned (.bool bb) ∧ w' = W) := fun W hW => by
              have I := I2.out
              rw [hbb]
              exact place_any N (p' + q') W
            have HRL : Hid (bb = true ↔ rlN (p' + q') 0 N) := by show bb = true ↔ _; rw [hbb, decide_eq_true_iff]; exact Iff.rfl
            replace hbb := hide hbb
            have r0 : y2.cell? ⟨gr, 0, none⟩ = some (.func (.func 44) #[] #[]) := by rw [cell_of_row _ _ _ _ _ _ HBR2.out]; rfl
            have r1 : y2.cell? ⟨gr, 1, none⟩ = some (.func (.func 45) #[] #[]) := by rw [cell_of_row _ _ _ _ _ _ HBR2.out]; rfl
            have x0 : y2.cell? ⟨g5, 0, none⟩ = some (.slice aa la ca) := by rw [cell_of_row _ _ _ _ _ _ I2.out.b5]; rfl
            have x1 : y2.cell? ⟨g5, 1, none⟩ = some (.int .i64 (p' : Int)) := by rw [cell_of_row _ _ _ _ _ _ I2.out.b5]; rfl
            have x2 : y2.cell? ⟨g5, 2, none⟩ = some (.int .i64 (q' : Int)) := by rw [cell_of_row _ _ _ _ _ _ I2.out.b5]; rfl
            have x3 : y2.cell? ⟨g5, 3, none⟩ = some (.int .i64 z) := by rw [cell_of_row _ _ _ _ _ _ I2.out.b5]; rfl
            have hg5l : g5 < y2.heap.size := lt_of_block I2.out.b5
            go_upto_region 11 with fail
            go_region_held3 (fun W => W.cell? ⟨gr, 1, none⟩ = some (.func (.func 45) #[] #[]) ∧ W.cell? ⟨g5, 0, none⟩ = some (.slice aa la ca) ∧ W.cell? ⟨g5, 1, none⟩ = some (.int .i64 (p' : Int)) ∧ W.cell? ⟨g5, 2, none⟩ = some (.int .i64 (q' : Int)) ∧ W.cell? ⟨g5, 3, none⟩ = some (.int .i64 z)) (go_keep) (first
              | (go_at_call 45; refine (HMAY.out v2 BV2.out).mono ?_; rintro e v3 ⟨rfl, hv3⟩; have BV3 : Hid (Below y2.heap.size y2 v3) := (by rw [hv3]; exact BV2.out); have m1 := (BV3.out.cell (p := ⟨gr, 1, none⟩) hgr2).trans r1; have m3 := (BV3.out.cell (p := ⟨g5, 0, none⟩) hg5l).trans x0; have m4 := (BV3.out.cell (p := ⟨g5, 1, none⟩) hg5l).trans x1; have m5 := (BV3.out.cell (p := ⟨g5, 2, none⟩) hg5l).trans x2; have m6 := (BV3.out.cell (p := ⟨g5, 3, none⟩) hg5l).trans x3; clear hv3)
              | (go_at_call 53; refine (behind_any _ p' q' z _ (by omega) (by omega)).mono ?_; rintro e v2 ⟨rfl, hv2⟩; have BV2 : Hid (Below y2.heap.size y2 v2) := (⟨hv2.os, hv2.tape, hv2.output, hv2.size, hv2.block⟩); have l1 := (BV2.out.cell (p := ⟨gr, 1, none⟩) hgr2).trans r1; have l3 := (BV2.out.cell (p := ⟨g5, 0, none⟩) hg5l).trans x0; have l4 := (BV2.out.cell (p := ⟨g5, 1, none⟩) hg5l).trans x1; have l5 := (BV2.out.cell (p := ⟨g5, 2, none⟩) hg5l).trans x2; have l6 := (BV2.out.cell (p := ⟨g5, 3, none⟩) hg5l).trans x3; clear hv2)
              | fail)
            have I3 := hide (I2.out.below BV3.out)
            have HBR3 := hide ((BV3.out.block gr hgr2).trans HBR2.out)
            clear r0 r1 x0 x1 x2 x3 m1 m3 m4 m5 m6 I2 HMAY
            cases bb with
            | true =>
              have hrl := HRL.out.1 rfl
              have hNb : N ≤ 4398046511104 := by
                have : N = p' + q' := hrl
                omega
              have HNX : Hid (nuR (p' + q') zs k1 3 0 = nuR (p' + q') zs k1 (3 - (0 + 1)) (0 + 1)) := by show nuR _ _ _ _ _ = _; rw [HNU.out, if_neg (fun h => h hrl)]
              have r0 : v3.cell? ⟨gr, 0, none⟩ = some (.func (.func 44) #[] #[]) := by rw [cell_of_row _ _ _ _ _ _ HBR3.out]; rfl
              go_wp2_with fail
              refine (in1_any g14 0 _).mono ?_
              rintro e v4 ⟨rfl, hv4⟩
              obtain rfl : v4 = v3 := hv4
              have c14 : v4.cell? ⟨g14, 1, none⟩ = some (.int .i64 0) := by rw [cell_of_row _ _ _ _ _ _ I3.out.b14]; rfl
              have f14 : v4.frozen? ⟨g14, 1, none⟩ = false := by simp [World.frozen?, I3.out.b14]
              have c1 : IntKind.i64.wrap (N : Int) = (N : Int) := by rw [IntKind.wrap_i64]; omega
              have HZ : Hid (RrI w (v4.setCell ⟨g14, 1, none⟩ (.int .i64 (N : Int))) g5 g8 g14 gt g2 g3 aa la ca p' q' z v K (fv zs k1 (0 + 1) 0) (fv zs k1 (0 + 1) 1) (fv zs k1 (0 + 1) 2)) := HFV.out _ _ rfl (I3.out.put 1 (N : Int) (by rfl))
              clear hrl r0
              go_wp2_with fail
              go_roundw
              case rel => exact ⟨0 + 1, by omega, by go_num, by rw [HKS.out], HZ, HNX⟩
              case measure => simp [intOf]
            | false =>
              have hrl : ¬ rlN (p' + q') 0 N := fun h => by have := HRL.out.2 h; cases this
              have HR2 : Hid (rowR pk (p' + q') zs p = (73, pl)) := by show rowR _ _ _ _ = _; rw [HRR.out, HNU.out, if_pos hrl]; rfl
              obtain ⟨z0, z1, z2, z3, f0, f1, f2, f3⟩ := I3.out.cells8
              have r2 : v3.cell? ⟨gr, 2, none⟩ = some (.int .i64 73) := by rw [cell_of_row _ _ _ _ _ _ HBR3.out]; rfl
              have HF : Hid (∀ W, Below v3.heap.size v3 W → RrPost w pk (p' + q') zs p (.returned (.tuple #[.agg #[.slice none 0 0, .int .i64 0, .int .i64 0, .int .i64 0], .int .i64 (pl : Int), .int .i64 73])) (set4 W g8 (.slice none 0 0) 0 0 0)) := fun W hW => (HP.out _ _).2 ⟨(I3.out.below hW).zeroed, .inl ⟨by rw [HR2.out]; simp, by rw [HR2.out]⟩⟩
              have HZ8 : Hid (∀ W, Below v3.heap.size v3 W → (set4 W g8 (.slice none 0 0) 0 0 0).heap[g8]? = some (.cells #[.slice none 0 0, .int .i64 0, .int .i64 0, .int .i64 0] 33 (0, 0))) := fun W hW => set4_blk (I3.out.below hW).b8
              clear hrl
              have ne1 : ¬ g8 = gr := by omega
              have ne2 : ¬ gr = g8 := by omega
              go_wp2_with fail
              go_region_law (fail)
              all_goals
                go_wp2_with fail
                exact rr_end (HZ8.out v3.drew ⟨rfl, rfl, rfl, Nat.le_refl _, fun _ _ => rfl⟩) rfl rfl rfl rfl (HF.out v3.drew ⟨rfl, rfl, rfl, Nat.le_refl _, fun _ _ => rfl⟩)
          · have he' : (E != 0) = true := by simp [he]
            have HR2 : Hid (rowR pk (p' + q') zs p = (E, Q)) := by show rowR _ _ _ _ = _; rw [HRR.out, HNU.out, if_pos he]
            obtain ⟨z0, z1, z2, z3, f0, f1, f2, f3⟩ := I2.out.cells8
            have HF := hide ((HP.out (.returned (.tuple #[.agg #[.slice none 0 0, .int .i64 0, .int .i64 0, .int .i64 0], .int .i64 (Q : Int), .int .i64 E])) (set4 y2 g8 (.slice none 0 0) 0 0 0)).2 ⟨I2.out.zeroed, .inl ⟨by rw [HR2.out]; exact he, by rw [HR2.out]⟩⟩)
            have HZ8 := hide (set4_blk (v := .slice none 0 0) (a := 0) (b := 0) (c := 0) I2.out.b8)
            go_wp2_with fail
            exact rr_end HZ8.out rfl rfl rfl rfl HF.out
      ·
          have HI' : Hid (RrI w wr g5 g8 g14 gt g2 g3 aa la ca p' q' z v K (nm zs (kK zs k1 0) : Nat) 0 0) := HI.out
          obtain ⟨M0, hM0⟩ : ∃ M0 : Int, M0 = (nm zs (kK zs k1 0) : Nat) := ⟨_, rfl⟩
          rw [← hM0] at HI'
          have HTb := hide HI'.out.tab.t
          have e0 : wr.cell? ⟨gt, 3, none⟩ = some (.func (.func 46) #[] #[]) := by rw [cell_of_row _ _ _ _ _ _ HTb.out]; rfl
          have e1' : wr.cell? ⟨gt, 4, none⟩ = some (.func (.func 43) #[] #[.pointer (some ⟨g2, 0, none⟩)]) := by rw [cell_of_row _ _ _ _ _ _ HTb.out]; rfl
          have e2' : wr.cell? ⟨gt, 5, none⟩ = some (.int .i64 74) := by rw [cell_of_row _ _ _ _ _ _ HTb.out]; rfl
          obtain ⟨y1, hy1⟩ : ∃ y1, y1 = wr.alloc (.cells #[.func (.func 46) #[] #[], .func (.func 43) #[] #[.pointer (some ⟨g2, 0, none⟩)], .int .i64 74] 57) := ⟨_, rfl⟩
          have by1 : Below wr.heap.size wr y1 := by rw [hy1]; exact (Below.refl _ _).alloc (Nat.le_refl _) _
          have hbr : y1.heap[wr.heap.size]? = some (.cells #[.func (.func 46) #[] #[], .func (.func 43) #[] #[.pointer (some ⟨g2, 0, none⟩)], .int .i64 74] 57 (0, 0)) := by rw [hy1]; exact heap_alloc_new wr _
          have I1 := hide (HI'.out.below by1)
          have hne8 : g8 < wr.heap.size := lt_of_block HI'.out.b8
          have hkl := kK_le z8 (show k1 ≤ zs.length by omega) 1
          obtain ⟨_, _, _, hq1, hq2, hNB⟩ := rd_at zs (kK zs k1 1) z8 hkl
          have HVR := hide (vread_at a l c (kK zs k1 1) zs y1 hl hm (HRO.out y1 I1.out.bel) z8 (by omega))
          have HNU : Hid (nuR (p' + q') zs k1 3 0 = if er zs (kK zs k1 1) ≠ 0 then (er zs (kK zs k1 1), nx zs (kK zs k1 1)) else if ¬ rlN (p' + q') 1 (nm zs (kK zs k1 1)) then (73 + ((1 : Nat) : Int), kK zs k1 1) else nuR (p' + q') zs k1 1 2) := HN.out
          have HKS : Hid (kK zs k1 (1 + 1) = nx zs (kK zs k1 1)) := rfl
          have HFV : Hid (∀ W f, f = ((nm zs (kK zs k1 1) : Nat) : Int) → RrI w W g5 g8 g14 gt g2 g3 aa la ca p' q' z v K M0 f 0 → RrI w W g5 g8 g14 gt g2 g3 aa la ca p' q' z v K (fv zs k1 2 0) (fv zs k1 2 1) (fv zs k1 2 2)) := fun W f hf h => by
            subst hf
            subst hM0
            exact h
          obtain ⟨N, hN'⟩ : ∃ N, nm zs (kK zs k1 1) = N := ⟨_, rfl⟩
          obtain ⟨Q, hQ⟩ : ∃ Q, nx zs (kK zs k1 1) = Q := ⟨_, rfl⟩
          obtain ⟨E, hE⟩ : ∃ E, er zs (kK zs k1 1) = E := ⟨_, rfl⟩
          obtain ⟨pl, hpl⟩ : ∃ pl, kK zs k1 1 = pl := ⟨_, rfl⟩
          rw [hN'] at hNB HFV
          rw [hN', hQ, hE] at HVR HNU
          rw [hQ] at hq1 hq2 HKS
          rw [hpl] at HVR HNU hkl hq2
          replace hM0 := hide hM0
          clear hN' hQ hE by1
          rw [hpl]
          clear hpl
          go_upto_region 8 with fail
          rw [← hy1]
          clear hy1 e0 e1' e2' HTb HI HI' HN
          obtain ⟨gr, hgr⟩ : ∃ gr, gr = wr.heap.size := ⟨_, rfl⟩
          rw [← hgr] at hbr hne8 ⊢
          clear hgr
          have HBR := hide hbr
          have hgr : gr < y1.heap.size := lt_of_block hbr
          clear hbr
          go_wp2_with fail
          refine HVR.out.mono ?_
          rintro e y2 ⟨rfl, b2⟩
          have I2 := hide (I1.out.below b2)
          have HBR2 := hide ((b2.block gr hgr).trans HBR.out)
          have hgr2 : gr < y2.heap.size := Nat.lt_of_lt_of_le hgr b2.size
          clear b2 HVR I1 HBR hgr
          by_cases he : E = 0
          · subst he
            replace HNU : Hid (nuR (p' + q') zs k1 3 0 = if ¬ rlN (p' + q') 1 N then (73 + ((1 : Nat) : Int), pl) else nuR (p' + q') zs k1 1 2) := by show nuR _ _ _ _ _ = _; rw [HNU.out, if_neg (by simp)]
            obtain ⟨bb, hbb⟩ : ∃ bb : Bool, bb = decide (1 ≤ N ∧ N ≤ 131072) := ⟨_, rfl⟩
            have HMAY : Hid (∀ W, Below y2.heap.size y2 W → Calls Try.prog 43 #[.int .u64 (N : Int), .int .u64 ((p' + q' : Nat) : Int), .pointer (some ⟨g2, 0, none⟩)] W fun e w' => e = .returned (.bool bb) ∧ w' = W) := fun W hW => by
              have I := I2.out
              rw [hbb]
              exact upto_any N 131072 g2 _ W hNB (I.tab.below hW).b2
            have HRL : Hid (bb = true ↔ rlN (p' + q') 1 N) := by show bb = true ↔ _; rw [hbb, decide_eq_true_iff]; exact Iff.rfl
            replace hbb := hide hbb
            have r0 : y2.cell? ⟨gr, 0, none⟩ = some (.func (.func 46) #[] #[]) := by rw [cell_of_row _ _ _ _ _ _ HBR2.out]; rfl
            have r1 : y2.cell? ⟨gr, 1, none⟩ = some (.func (.func 43) #[] #[.pointer (some ⟨g2, 0, none⟩)]) := by rw [cell_of_row _ _ _ _ _ _ HBR2.out]; rfl
            have x0 : y2.cell? ⟨g5, 0, none⟩ = some (.slice aa la ca) := by rw [cell_of_row _ _ _ _ _ _ I2.out.b5]; rfl
            have x1 : y2.cell? ⟨g5, 1, none⟩ = some (.int .i64 (p' : Int)) := by rw [cell_of_row _ _ _ _ _ _ I2.out.b5]; rfl
            have x2 : y2.cell? ⟨g5, 2, none⟩ = some (.int .i64 (q' : Int)) := by rw [cell_of_row _ _ _ _ _ _ I2.out.b5]; rfl
            have x3 : y2.cell? ⟨g5, 3, none⟩ = some (.int .i64 z) := by rw [cell_of_row _ _ _ _ _ _ I2.out.b5]; rfl
            have hg5l : g5 < y2.heap.size := lt_of_block I2.out.b5
            go_upto_region 11 with fail
            go_region_held3 (fun W => W.cell? ⟨gr, 1, none⟩ = some (.func (.func 43) #[] #[.pointer (some ⟨g2, 0, none⟩)]) ∧ W.cell? ⟨g5, 0, none⟩ = some (.slice aa la ca) ∧ W.cell? ⟨g5, 1, none⟩ = some (.int .i64 (p' : Int)) ∧ W.cell? ⟨g5, 2, none⟩ = some (.int .i64 (q' : Int)) ∧ W.cell? ⟨g5, 3, none⟩ = some (.int .i64 z)) (go_keep) (first
              | (go_at_call 43; refine (HMAY.out v2 BV2.out).mono ?_; rintro e v3 ⟨rfl, hv3⟩; have BV3 : Hid (Below y2.heap.size y2 v3) := (by rw [hv3]; exact BV2.out); have m1 := (BV3.out.cell (p := ⟨gr, 1, none⟩) hgr2).trans r1; have m3 := (BV3.out.cell (p := ⟨g5, 0, none⟩) hg5l).trans x0; have m4 := (BV3.out.cell (p := ⟨g5, 1, none⟩) hg5l).trans x1; have m5 := (BV3.out.cell (p := ⟨g5, 2, none⟩) hg5l).trans x2; have m6 := (BV3.out.cell (p := ⟨g5, 3, none⟩) hg5l).trans x3; clear hv3)
              | (go_at_call 53; refine (behind_any _ p' q' z _ (by omega) (by omega)).mono ?_; rintro e v2 ⟨rfl, hv2⟩; have BV2 : Hid (Below y2.heap.size y2 v2) := (⟨hv2.os, hv2.tape, hv2.output, hv2.size, hv2.block⟩); have l1 := (BV2.out.cell (p := ⟨gr, 1, none⟩) hgr2).trans r1; have l3 := (BV2.out.cell (p := ⟨g5, 0, none⟩) hg5l).trans x0; have l4 := (BV2.out.cell (p := ⟨g5, 1, none⟩) hg5l).trans x1; have l5 := (BV2.out.cell (p := ⟨g5, 2, none⟩) hg5l).trans x2; have l6 := (BV2.out.cell (p := ⟨g5, 3, none⟩) hg5l).trans x3; clear hv2)
              | fail)
            have I3 := hide (I2.out.below BV3.out)
            have HBR3 := hide ((BV3.out.block gr hgr2).trans HBR2.out)
            clear r0 r1 x0 x1 x2 x3 m1 m3 m4 m5 m6 I2 HMAY
            cases bb with
            | true =>
              have hrl := HRL.out.1 rfl
              have hNb : N ≤ 4398046511104 := by
                have : 1 ≤ N ∧ N ≤ 131072 := hrl
                omega
              have HNX : Hid (nuR (p' + q') zs k1 3 0 = nuR (p' + q') zs k1 (3 - (1 + 1)) (1 + 1)) := by show nuR _ _ _ _ _ = _; rw [HNU.out, if_neg (fun h => h hrl)]
              have r0 : v3.cell? ⟨gr, 0, none⟩ = some (.func (.func 46) #[] #[]) := by rw [cell_of_row _ _ _ _ _ _ HBR3.out]; rfl
              go_wp2_with fail
              refine (in2_any g14 0 _).mono ?_
              rintro e v4 ⟨rfl, hv4⟩
              obtain rfl : v4 = v3 := hv4
              have c14 : v4.cell? ⟨g14, 2, none⟩ = some (.int .i64 0) := by rw [cell_of_row _ _ _ _ _ _ I3.out.b14]; rfl
              have f14 : v4.frozen? ⟨g14, 2, none⟩ = false := by simp [World.frozen?, I3.out.b14]
              have c1 : IntKind.i64.wrap (N : Int) = (N : Int) := by rw [IntKind.wrap_i64]; omega
              have HZ : Hid (RrI w (v4.setCell ⟨g14, 2, none⟩ (.int .i64 (N : Int))) g5 g8 g14 gt g2 g3 aa la ca p' q' z v K (fv zs k1 (1 + 1) 0) (fv zs k1 (1 + 1) 1) (fv zs k1 (1 + 1) 2)) := HFV.out _ _ rfl (I3.out.put 2 (N : Int) (by rfl))
              clear hrl r0
              go_wp2_with fail
              go_roundw
              case rel => exact ⟨1 + 1, by omega, by go_num, by rw [HKS.out], HZ, HNX⟩
              case measure => simp [intOf]
            | false =>
              have hrl : ¬ rlN (p' + q') 1 N := fun h => by have := HRL.out.2 h; cases this
              have HR2 : Hid (rowR pk (p' + q') zs p = (74, pl)) := by show rowR _ _ _ _ = _; rw [HRR.out, HNU.out, if_pos hrl]; rfl
              obtain ⟨z0, z1, z2, z3, f0, f1, f2, f3⟩ := I3.out.cells8
              have r2 : v3.cell? ⟨gr, 2, none⟩ = some (.int .i64 74) := by rw [cell_of_row _ _ _ _ _ _ HBR3.out]; rfl
              have HF : Hid (∀ W, Below v3.heap.size v3 W → RrPost w pk (p' + q') zs p (.returned (.tuple #[.agg #[.slice none 0 0, .int .i64 0, .int .i64 0, .int .i64 0], .int .i64 (pl : Int), .int .i64 74])) (set4 W g8 (.slice none 0 0) 0 0 0)) := fun W hW => (HP.out _ _).2 ⟨(I3.out.below hW).zeroed, .inl ⟨by rw [HR2.out]; simp, by rw [HR2.out]⟩⟩
              have HZ8 : Hid (∀ W, Below v3.heap.size v3 W → (set4 W g8 (.slice none 0 0) 0 0 0).heap[g8]? = some (.cells #[.slice none 0 0, .int .i64 0, .int .i64 0, .int .i64 0] 33 (0, 0))) := fun W hW => set4_blk (I3.out.below hW).b8
              clear hrl
              have ne1 : ¬ g8 = gr := by omega
              have ne2 : ¬ gr = g8 := by omega
              go_wp2_with fail
              go_region_law (fail)
              all_goals
                go_wp2_with fail
                exact rr_end (HZ8.out v3.drew ⟨rfl, rfl, rfl, Nat.le_refl _, fun _ _ => rfl⟩) rfl rfl rfl rfl (HF.out v3.drew ⟨rfl, rfl, rfl, Nat.le_refl _, fun _ _ => rfl⟩)
          · have he' : (E != 0) = true := by simp [he]
            have HR2 : Hid (rowR pk (p' + q') zs p = (E, Q)) := by show rowR _ _ _ _ = _; rw [HRR.out, HNU.out, if_pos he]
            obtain ⟨z0, z1, z2, z3, f0, f1, f2, f3⟩ := I2.out.cells8
            have HF := hide ((HP.out (.returned (.tuple #[.agg #[.slice none 0 0, .int .i64 0, .int .i64 0, .int .i64 0], .int .i64 (Q : Int), .int .i64 E])) (set4 y2 g8 (.slice none 0 0) 0 0 0)).2 ⟨I2.out.zeroed, .inl ⟨by rw [HR2.out]; exact he, by rw [HR2.out]⟩⟩)
            have HZ8 := hide (set4_blk (v := .slice none 0 0) (a := 0) (b := 0) (c := 0) I2.out.b8)
            go_wp2_with fail
            exact rr_end HZ8.out rfl rfl rfl rfl HF.out
      ·
          have HI' : Hid (RrI w wr g5 g8 g14 gt g2 g3 aa la ca p' q' z v K (nm zs (kK zs k1 0) : Nat) (nm zs (kK zs k1 1) : Nat) 0) := HI.out
          obtain ⟨M0, hM0⟩ : ∃ M0 : Int, M0 = (nm zs (kK zs k1 0) : Nat) := ⟨_, rfl⟩
          obtain ⟨M1, hM1⟩ : ∃ M1 : Int, M1 = (nm zs (kK zs k1 1) : Nat) := ⟨_, rfl⟩
          rw [← hM0, ← hM1] at HI'
          have HTb := hide HI'.out.tab.t
          have e0 : wr.cell? ⟨gt, 6, none⟩ = some (.func (.func 47) #[] #[]) := by rw [cell_of_row _ _ _ _ _ _ HTb.out]; rfl
          have e1' : wr.cell? ⟨gt, 7, none⟩ = some (.func (.func 43) #[] #[.pointer (some ⟨g3, 0, none⟩)]) := by rw [cell_of_row _ _ _ _ _ _ HTb.out]; rfl
          have e2' : wr.cell? ⟨gt, 8, none⟩ = some (.int .i64 75) := by rw [cell_of_row _ _ _ _ _ _ HTb.out]; rfl
          obtain ⟨y1, hy1⟩ : ∃ y1, y1 = wr.alloc (.cells #[.func (.func 47) #[] #[], .func (.func 43) #[] #[.pointer (some ⟨g3, 0, none⟩)], .int .i64 75] 57) := ⟨_, rfl⟩
          have by1 : Below wr.heap.size wr y1 := by rw [hy1]; exact (Below.refl _ _).alloc (Nat.le_refl _) _
          have hbr : y1.heap[wr.heap.size]? = some (.cells #[.func (.func 47) #[] #[], .func (.func 43) #[] #[.pointer (some ⟨g3, 0, none⟩)], .int .i64 75] 57 (0, 0)) := by rw [hy1]; exact heap_alloc_new wr _
          have I1 := hide (HI'.out.below by1)
          have hne8 : g8 < wr.heap.size := lt_of_block HI'.out.b8
          have hkl := kK_le z8 (show k1 ≤ zs.length by omega) 2
          obtain ⟨_, _, _, hq1, hq2, hNB⟩ := rd_at zs (kK zs k1 2) z8 hkl
          have HVR := hide (vread_at a l c (kK zs k1 2) zs y1 hl hm (HRO.out y1 I1.out.bel) z8 (by omega))
          have HNU : Hid (nuR (p' + q') zs k1 3 0 = if er zs (kK zs k1 2) ≠ 0 then (er zs (kK zs k1 2), nx zs (kK zs k1 2)) else if ¬ rlN (p' + q') 2 (nm zs (kK zs k1 2)) then (73 + ((2 : Nat) : Int), kK zs k1 2) else nuR (p' + q') zs k1 0 3) := HN.out
          have HKS : Hid (kK zs k1 (2 + 1) = nx zs (kK zs k1 2)) := rfl
          have HFV : Hid (∀ W f, f = ((nm zs (kK zs k1 2) : Nat) : Int) → RrI w W g5 g8 g14 gt g2 g3 aa la ca p' q' z v K M0 M1 f → RrI w W g5 g8 g14 gt g2 g3 aa la ca p' q' z v K (fv zs k1 3 0) (fv zs k1 3 1) (fv zs k1 3 2)) := fun W f hf h => by
            subst hf
            subst hM0 hM1
            exact h
          obtain ⟨N, hN'⟩ : ∃ N, nm zs (kK zs k1 2) = N := ⟨_, rfl⟩
          obtain ⟨Q, hQ⟩ : ∃ Q, nx zs (kK zs k1 2) = Q := ⟨_, rfl⟩
          obtain ⟨E, hE⟩ : ∃ E, er zs (kK zs k1 2) = E := ⟨_, rfl⟩
          obtain ⟨pl, hpl⟩ : ∃ pl, kK zs k1 2 = pl := ⟨_, rfl⟩
          rw [hN'] at hNB HFV
          rw [hN', hQ, hE] at HVR HNU
          rw [hQ] at hq1 hq2 HKS
          rw [hpl] at HVR HNU hkl hq2
          replace hM0 := hide hM0
          replace hM1 := hide hM1
          clear hN' hQ hE by1
          rw [hpl]
          clear hpl
          go_upto_region 8 with fail
          rw [← hy1]
          clear hy1 e0 e1' e2' HTb HI HI' HN
          obtain ⟨gr, hgr⟩ : ∃ gr, gr = wr.heap.size := ⟨_, rfl⟩
          rw [← hgr] at hbr hne8 ⊢
          clear hgr
          have HBR := hide hbr
          have hgr : gr < y1.heap.size := lt_of_block hbr
          clear hbr
          go_wp2_with fail
          refine HVR.out.mono ?_
          rintro e y2 ⟨rfl, b2⟩
          have I2 := hide (I1.out.below b2)
          have HBR2 := hide ((b2.block gr hgr).trans HBR.out)
          have hgr2 : gr < y2.heap.size := Nat.lt_of_lt_of_le hgr b2.size
          clear b2 HVR I1 HBR hgr
          by_cases he : E = 0
          · subst he
            replace HNU : Hid (nuR (p' + q') zs k1 3 0 = if ¬ rlN (p' + q') 2 N then (73 + ((2 : Nat) : Int), pl) else nuR (p' + q') zs k1 0 3) := by show nuR _ _ _ _ _ = _; rw [HNU.out, if_neg (by simp)]
            obtain ⟨bb, hbb⟩ : ∃ bb : Bool, bb = decide (1 ≤ N ∧ N ≤ 64) := ⟨_, rfl⟩
            have HMAY : Hid (∀ W, Below y2.heap.size y2 W → Calls Try.prog 43 #[.int .u64 (N : Int), .int .u64 ((p' + q' : Nat) : Int), .pointer (some ⟨g3, 0, none⟩)] W fun e w' => e = .returned (.bool bb) ∧ w' = W) := fun W hW => by
              have I := I2.out
              rw [hbb]
              exact upto_any N 64 g3 _ W hNB (I.tab.below hW).b3
            have HRL : Hid (bb = true ↔ rlN (p' + q') 2 N) := by show bb = true ↔ _; rw [hbb, decide_eq_true_iff]; exact Iff.rfl
            replace hbb := hide hbb
            have r0 : y2.cell? ⟨gr, 0, none⟩ = some (.func (.func 47) #[] #[]) := by rw [cell_of_row _ _ _ _ _ _ HBR2.out]; rfl
            have r1 : y2.cell? ⟨gr, 1, none⟩ = some (.func (.func 43) #[] #[.pointer (some ⟨g3, 0, none⟩)]) := by rw [cell_of_row _ _ _ _ _ _ HBR2.out]; rfl
            have x0 : y2.cell? ⟨g5, 0, none⟩ = some (.slice aa la ca) := by rw [cell_of_row _ _ _ _ _ _ I2.out.b5]; rfl
            have x1 : y2.cell? ⟨g5, 1, none⟩ = some (.int .i64 (p' : Int)) := by rw [cell_of_row _ _ _ _ _ _ I2.out.b5]; rfl
            have x2 : y2.cell? ⟨g5, 2, none⟩ = some (.int .i64 (q' : Int)) := by rw [cell_of_row _ _ _ _ _ _ I2.out.b5]; rfl
            have x3 : y2.cell? ⟨g5, 3, none⟩ = some (.int .i64 z) := by rw [cell_of_row _ _ _ _ _ _ I2.out.b5]; rfl
            have hg5l : g5 < y2.heap.size := lt_of_block I2.out.b5
            go_upto_region 11 with fail
            go_region_held3 (fun W => W.cell? ⟨gr, 1, none⟩ = some (.func (.func 43) #[] #[.pointer (some ⟨g3, 0, none⟩)]) ∧ W.cell? ⟨g5, 0, none⟩ = some (.slice aa la ca) ∧ W.cell? ⟨g5, 1, none⟩ = some (.int .i64 (p' : Int)) ∧ W.cell? ⟨g5, 2, none⟩ = some (.int .i64 (q' : Int)) ∧ W.cell? ⟨g5, 3, none⟩ = some (.int .i64 z)) (go_keep) (first
              | (go_at_call 43; refine (HMAY.out v2 BV2.out).mono ?_; rintro e v3 ⟨rfl, hv3⟩; have BV3 : Hid (Below y2.heap.size y2 v3) := (by rw [hv3]; exact BV2.out); have m1 := (BV3.out.cell (p := ⟨gr, 1, none⟩) hgr2).trans r1; have m3 := (BV3.out.cell (p := ⟨g5, 0, none⟩) hg5l).trans x0; have m4 := (BV3.out.cell (p := ⟨g5, 1, none⟩) hg5l).trans x1; have m5 := (BV3.out.cell (p := ⟨g5, 2, none⟩) hg5l).trans x2; have m6 := (BV3.out.cell (p := ⟨g5, 3, none⟩) hg5l).trans x3; clear hv3)
              | (go_at_call 53; refine (behind_any _ p' q' z _ (by omega) (by omega)).mono ?_; rintro e v2 ⟨rfl, hv2⟩; have BV2 : Hid (Below y2.heap.size y2 v2) := (⟨hv2.os, hv2.tape, hv2.output, hv2.size, hv2.block⟩); have l1 := (BV2.out.cell (p := ⟨gr, 1, none⟩) hgr2).trans r1; have l3 := (BV2.out.cell (p := ⟨g5, 0, none⟩) hg5l).trans x0; have l4 := (BV2.out.cell (p := ⟨g5, 1, none⟩) hg5l).trans x1; have l5 := (BV2.out.cell (p := ⟨g5, 2, none⟩) hg5l).trans x2; have l6 := (BV2.out.cell (p := ⟨g5, 3, none⟩) hg5l).trans x3; clear hv2)
              | fail)
            have I3 := hide (I2.out.below BV3.out)
            have HBR3 := hide ((BV3.out.block gr hgr2).trans HBR2.out)
            clear r0 r1 x0 x1 x2 x3 m1 m3 m4 m5 m6 I2 HMAY
            cases bb with
            | true =>
              have hrl := HRL.out.1 rfl
              have hNb : N ≤ 4398046511104 := by
                have : 1 ≤ N ∧ N ≤ 64 := hrl
                omega
              have HNX : Hid (nuR (p' + q') zs k1 3 0 = nuR (p' + q') zs k1 (3 - (2 + 1)) (2 + 1)) := by show nuR _ _ _ _ _ = _; rw [HNU.out, if_neg (fun h => h hrl)]
              have r0 : v3.cell? ⟨gr, 0, none⟩ = some (.func (.func 47) #[] #[]) := by rw [cell_of_row _ _ _ _ _ _ HBR3.out]; rfl
              go_wp2_with fail
              refine (in3_any g14 0 _).mono ?_
              rintro e v4 ⟨rfl, hv4⟩
              obtain rfl : v4 = v3 := hv4
              have c14 : v4.cell? ⟨g14, 3, none⟩ = some (.int .i64 0) := by rw [cell_of_row _ _ _ _ _ _ I3.out.b14]; rfl
              have f14 : v4.frozen? ⟨g14, 3, none⟩ = false := by simp [World.frozen?, I3.out.b14]
              have c1 : IntKind.i64.wrap (N : Int) = (N : Int) := by rw [IntKind.wrap_i64]; omega
              have HZ : Hid (RrI w (v4.setCell ⟨g14, 3, none⟩ (.int .i64 (N : Int))) g5 g8 g14 gt g2 g3 aa la ca p' q' z v K (fv zs k1 (2 + 1) 0) (fv zs k1 (2 + 1) 1) (fv zs k1 (2 + 1) 2)) := HFV.out _ _ rfl (I3.out.put 3 (N : Int) (by rfl))
              clear hrl r0
              go_wp2_with fail
              go_roundw
              case rel => exact ⟨2 + 1, by omega, by go_num, by rw [HKS.out], HZ, HNX⟩
              case measure => simp [intOf]
            | false =>
              have hrl : ¬ rlN (p' + q') 2 N := fun h => by have := HRL.out.2 h; cases this
              have HR2 : Hid (rowR pk (p' + q') zs p = (75, pl)) := by show rowR _ _ _ _ = _; rw [HRR.out, HNU.out, if_pos hrl]; rfl
              obtain ⟨z0, z1, z2, z3, f0, f1, f2, f3⟩ := I3.out.cells8
              have r2 : v3.cell? ⟨gr, 2, none⟩ = some (.int .i64 75) := by rw [cell_of_row _ _ _ _ _ _ HBR3.out]; rfl
              have HF : Hid (∀ W, Below v3.heap.size v3 W → RrPost w pk (p' + q') zs p (.returned (.tuple #[.agg #[.slice none 0 0, .int .i64 0, .int .i64 0, .int .i64 0], .int .i64 (pl : Int), .int .i64 75])) (set4 W g8 (.slice none 0 0) 0 0 0)) := fun W hW => (HP.out _ _).2 ⟨(I3.out.below hW).zeroed, .inl ⟨by rw [HR2.out]; simp, by rw [HR2.out]⟩⟩
              have HZ8 : Hid (∀ W, Below v3.heap.size v3 W → (set4 W g8 (.slice none 0 0) 0 0 0).heap[g8]? = some (.cells #[.slice none 0 0, .int .i64 0, .int .i64 0, .int .i64 0] 33 (0, 0))) := fun W hW => set4_blk (I3.out.below hW).b8
              clear hrl
              have ne1 : ¬ g8 = gr := by omega
              have ne2 : ¬ gr = g8 := by omega
              go_wp2_with fail
              go_region_law (fail)
              all_goals
                go_wp2_with fail
                exact rr_end (HZ8.out v3.drew ⟨rfl, rfl, rfl, Nat.le_refl _, fun _ _ => rfl⟩) rfl rfl rfl rfl (HF.out v3.drew ⟨rfl, rfl, rfl, Nat.le_refl _, fun _ _ => rfl⟩)
          · have he' : (E != 0) = true := by simp [he]
            have HR2 : Hid (rowR pk (p' + q') zs p = (E, Q)) := by show rowR _ _ _ _ = _; rw [HRR.out, HNU.out, if_pos he]
            obtain ⟨z0, z1, z2, z3, f0, f1, f2, f3⟩ := I2.out.cells8
            have HF := hide ((HP.out (.returned (.tuple #[.agg #[.slice none 0 0, .int .i64 0, .int .i64 0, .int .i64 0], .int .i64 (Q : Int), .int .i64 E])) (set4 y2 g8 (.slice none 0 0) 0 0 0)).2 ⟨I2.out.zeroed, .inl ⟨by rw [HR2.out]; exact he, by rw [HR2.out]⟩⟩)
            have HZ8 := hide (set4_blk (v := .slice none 0 0) (a := 0) (b := 0) (c := 0) I2.out.b8)
            go_wp2_with fail
            exact rr_end HZ8.out rfl rfl rfl rfl HF.out
      · have HR3 : Hid (rowR pk (p' + q') zs p = (0, kK zs k1 3)) := by show rowR _ _ _ _ = _; rw [HRR.out, HN.out]; rfl
        obtain ⟨z0, z1, z2, z3, f0, f1, f2, f3⟩ := HI.out.cells8
        have c0 : wr.cell? ⟨g14, 0, none⟩ = some v := by rw [cell_of_row _ _ _ _ _ _ HI.out.b14]; rfl
        have c1 : wr.cell? ⟨g14, 1, none⟩ = some (.int .i64 (fv zs k1 3 0)) := by rw [cell_of_row _ _ _ _ _ _ HI.out.b14]; rfl
        have c2 : wr.cell? ⟨g14, 2, none⟩ = some (.int .i64 (fv zs k1 3 1)) := by rw [cell_of_row _ _ _ _ _ _ HI.out.b14]; rfl
        have c3 : wr.cell? ⟨g14, 3, none⟩ = some (.int .i64 (fv zs k1 3 2)) := by rw [cell_of_row _ _ _ _ _ _ HI.out.b14]; rfl
        have HF := hide ((HP.out (.returned (.tuple #[.agg #[v, .int .i64 (fv zs k1 3 0), .int .i64 (fv zs k1 3 1), .int .i64 (fv zs k1 3 2)], .int .i64 ((kK zs k1 3 : Nat) : Int), .int .i64 0])) (set4 wr g8 v (fv zs k1 3 0) (fv zs k1 3 1) (fv zs k1 3 2))).2 ⟨HI.out.set8 _ _ _ _, .inr ⟨by rw [HR3.out], v, by rw [HR3.out, HRV.out.1, HRV.out.2.1, HRV.out.2.2], HI.out.o.upd (set4_upd wr g8 _ _ _ _) (fun i hi => (HI.out.dv i hi).1)⟩⟩)
        have HZ8 := hide (set4_blk (v := v) (a := fv zs k1 3 0) (b := fv zs k1 3 1) (c := fv zs k1 3 2) HI.out.b8)
        generalize fv zs k1 3 0 = e0 at *
        generalize fv zs k1 3 1 = e1 at *
        generalize fv zs k1 3 2 = e2 at *
        generalize kK zs k1 3 = pl at *
        obtain rfl := hvv.out
        go_wp2_with fail
        exact rr_end HZ8.out rfl rfl rfl rfl HF.out

end Go.Proofs.Ytlachimmfjagbaa
