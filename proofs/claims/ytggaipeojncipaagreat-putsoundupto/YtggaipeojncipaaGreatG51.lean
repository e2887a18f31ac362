/- Texts of one's own. -/
import Derived.Test.YtggaipeojncipaaGreatG50
import Derived.Test.YtggaipeojncipaaGreatG48
namespace Go.Proofs.YtggaipeojncipaaGreat
open Go.RowKit
set_option maxRecDepth 100000
section
variable {w0 W W' : World} {own : Nat → Nat → Prop} {B PA A : Nat} {c : Cfg} {s : AS} {L : List (Nat × US)} {R : List Nat} {Ks : List (Tx × Tx)} {E : List En} {vl vp vm : Value} {n q M G i p : Nat} {X : Obj} {x : En} {tk : Bool} {er : Int}
def WCs (W : World) (B PA A : Nat) (c : Cfg) (vp : Value) : Prop := W.cell? ⟨B, 0, none⟩ = some (.pointer (some ⟨PA, 0, none⟩)) ∧ W.cell? ⟨PA, 0, none⟩ = some (.pointer (some ⟨A, 0, none⟩)) ∧ W.cell? ⟨B, 1, none⟩ = some (.int .i64 c.nd) ∧ W.cell? ⟨B, 2, none⟩ = some (.int .i64 c.lf) ∧ W.cell? ⟨B, 3, none⟩ = some (.int .i64 c.inn) ∧ W.cell? ⟨B, 4, none⟩ = some (.int .i64 c.fl) ∧ W.cell? ⟨B, 5, none⟩ = some (.int .i64 c.bk) ∧ W.cell? ⟨B, 6, none⟩ = some vp
theorem UT.wcs (h : UT w0 own W B PA A c s L R vl vp vm Ks E) : WCs W B PA A c vp :=
 ⟨by rw [cell_of_row _ _ _ _ _ _ h.bc]; rfl, h.pa, by rw [cell_of_row _ _ _ _ _ _ h.bc]; rfl, by rw [cell_of_row _ _ _ _ _ _ h.bc]; rfl, by rw [cell_of_row _ _ _ _ _ _ h.bc]; rfl, by rw [cell_of_row _ _ _ _ _ _ h.bc]; rfl, by rw [cell_of_row _ _ _ _ _ _ h.bc]; rfl, by rw [cell_of_row _ _ _ _ _ _ h.bc]; rfl⟩
theorem UV.wcs (h : UV w0 W B PA A c vl vp vm n q M) : WCs W B PA A c vp := by
 obtain ⟨own, s, L, R, Ks, E, hT, _⟩ := h
 exact hT.wcs
theorem UV2.wcs (h : UV2 w0 W B PA A c vl vp vm n q M G X i p x tk er) : WCs W B PA A c vp := by
 obtain ⟨own, s, L, R, Ks, E, hT, _⟩ := h
 exact hT.wcs
theorem uptT_at {Ks : List (Tx × Tx)} {i : Nat} {x : Tx × Tx} (hx : Ks[i]? = some x) : (Ks.flatMap uptT)[i * 4 + 2]? = some x.1.v ∧ (Ks.flatMap uptT)[i * 4 + 3]? = some x.2.v := by
 induction Ks generalizing i with
 | nil => simp at hx
 | cons y Ks ih =>
  rw [List.flatMap_cons]
  cases i with
  | zero =>
   obtain rfl : y = x := by simpa using hx
   exact ⟨rfl, rfl⟩
  | succ i =>
   have h4 : (uptT y).length = 4 := rfl
   obtain ⟨h1, h2⟩ := ih (i := i) (by simpa using hx)
   constructor
   ·rw [List.getElem?_append_right (by rw [h4]; omega), h4, show (i + 1) * 4 + 2 - 4 = i * 4 + 2 by omega]; exact h1
   ·rw [List.getElem?_append_right (by rw [h4]; omega), h4, show (i + 1) * 4 + 3 - 4 = i * 4 + 3 by omega]; exact h2
theorem UV2.putc {pa : Option Addr} {pl pc : Nat} (h : UV2 w0 W B PA A c vl (.slice pa pl pc) vm n q M G X i p x tk er) : i < n ∧ pl = n ∧ ∃ g, pa = some ⟨g, 0, none⟩ ∧ W.cell? ⟨g, i * 4 + 2, none⟩ = some x.1.v ∧ W.cell? ⟨g, i * 4 + 3, none⟩ = some x.2.v := by
 obtain ⟨own, s, L, R, Ks, E, hT, h2, h3, h4, h5, h6, h7, h8, h9, _⟩ := h
 have hi := (List.getElem?_eq_some_iff.1 h9).1
 obtain ⟨e1, e2⟩ := uptT_at h9
 have hrow := hT.rp
 rcases hrow.2 with ⟨q1, q2⟩ | ⟨g, cap, cur, q1, q2, q3, q4, q5, q6, q7⟩
 ·omega
 ·simp only [Value.slice.injEq] at q1
  have cl : ∀ k u, (Ks.flatMap uptT)[k]? = some u → W.cell? ⟨g, k, none⟩ = some u := fun k u hu => by
   rw [cell_of_row _ _ _ _ _ _ q3, ← Array.getElem?_toList]
   rw [← q7, List.getElem?_take] at hu
   split at hu
   ·exact hu
   ·cases hu
  exact ⟨by omega, by omega, g, q1.1, cl _ _ e1, cl _ _ e2⟩
end
section
variable {w0 W : World} {B PA A : Nat} {c : Cfg} {vl vp : Value} {n q M : Nat}
theorem UV.ends {ma : Option Addr} {ml mc : Nat} (h : UV w0 W B PA A c vl vp (.slice ma ml mc) n q M) (hM : M ≤ 1099511627776) : ∃ hs : List Int, (∀ Y, Below W.heap.size W Y → Calls Tryz.prog 18 #[.pointer (some ⟨A, 0, none⟩)] Y fun e w' => ∃ va vc, e = .returned (.slice va hs.length vc) ∧ Below W.heap.size W w') ∧ (hs = [] → ∀ Y, Below W.heap.size W Y →
  (Calls Tryz.prog 19 #[.pointer (some ⟨A, 0, none⟩), c.v] Y fun e w' => (∃ id er lv no en, e = .returned (rpt true id er lv no en)) ∧ Below Y.heap.size Y w') ∧
  Calls Tryz.prog 21 #[.pointer (some ⟨A, 0, none⟩)] Y fun e w' => ∃ a l d, e = .returned (.slice a l d) ∧ Below Y.heap.size Y w' ∧ ∀ Z, Below w'.heap.size w' Z → Calls Tryz.prog 20 #[.slice a l d, .slice ma ml mc] Z fun e z => e = .returned (.bool true) ∧ Below Z.heap.size Z z) := by
 obtain ⟨own, s, L, R, Ks, E, hT, h2, h3, h4, h5, h6, h7, h8⟩ := h
 refine ⟨s.held, fun Y hb => (px_held (hT.below hb).px).mono fun e w' he => ?_, fun hh Y hb => ?_⟩
 ·obtain ⟨v, rfl, hrow, hbel⟩ := he
  rcases hrow.2 with ⟨q1, q2⟩ | ⟨g, cap, cur, q1, _⟩
  ·exact ⟨none, 0, by rw [q1, q2], hb.trans (hbel.mono hb.size)⟩
  ·exact ⟨_, _, by rw [q1], hb.trans (hbel.mono hb.size)⟩
 obtain ⟨⟨ls, hl⟩, hm⟩ := h7.look hh
 have hY := hT.below hb
 refine ⟨(scheck_any hY.px c.nd c.lf c.inn c.fl c.bk).mono fun e w' he => ?_, (smap_any hY.px (fun _ => True) trivial (fun _ _ _ _ => trivial) (fun _ _ _ _ => trivial) (fun id _ _ => by have := (h7.sb.n id).1; omega)).mono fun e w' he => ?_⟩
 ·obtain ⟨v, rfl, hr, hbel⟩ := he
  rcases hr with ⟨id, er, h9, rfl⟩ | ⟨ls', d, h9, h10, rfl⟩
  ·rw [hl] at h9
   cases h9
  ·exact ⟨⟨_, _, _, _, _, rfl⟩, hbel⟩
 ·obtain ⟨D, v, rfl, hrow, hown, hD, hbel⟩ := he
  obtain ⟨r1, r2⟩ := hY.rd
  have hlen : D.length = E.length := by
   have := congrArg List.length (hD.trans hm)
   simpa using this
  obtain ⟨a, d, rfl⟩ : ∃ a d, v = .slice a D.length d := by
   rcases hrow.2 with ⟨q1, q2⟩ | ⟨g, cap, cur, q1, _⟩
   ·exact ⟨none, 0, by rw [q1, q2]⟩
   ·exact ⟨_, _, q1⟩
  have hrd := EnRd.of hrow hown
  refine ⟨a, D.length, d, rfl, hbel, fun Z hz => ?_⟩
  have e1 : D.length = ml := hlen.trans r1
  have hbz := hbel.trans (hz.mono hbel.size)
  rw [e1]
  refine (sameEntries_any a ma ml d mc D E Z e1 r1 (by omega) (hrd.below hz) (r2.below hbz) (hD.trans hm)).mono ?_
  rintro e z ⟨rfl, m, rfl⟩
  exact ⟨rfl, below_drewN (Below.refl _ _) m⟩
end
def UVa (w0 W : World) (B PA A : Nat) (c : Cfg) (vl vp vm : Value) (n q M P : Nat) (k v : Tx) : Prop := ∃ own s L Ks E, UT w0 own W B PA A c s (L ++ [(P, US.new c k.s v.s)]) (L.map (·.1)) vl vp vm Ks E ∧ L.length = n ∧ Ks.length = n ∧ E.length = q ∧ q ≤ M ∧ WS c s (L.map (·.2)) (Ks.map enP) (E.map enP) M ∧ Rise (E.map enP) ∧ k.Ok w0 ∧ v.Ok w0
def UVb (w0 W : World) (B PA A : Nat) (c : Cfg) (vl vp vm : Value) (n q M : Nat) (k v : Tx) : Prop := ∃ own s L Ks E P, UT w0 own W B PA A c s (L ++ [(P, US.new c k.s v.s)]) ((L ++ [(P, US.new c k.s v.s)]).map (·.1)) vl vp vm Ks E ∧ L.length = n ∧ Ks.length = n ∧ E.length = q ∧ q ≤ M ∧ WS c s (L.map (·.2)) (Ks.map enP) (E.map enP) M ∧ Rise (E.map enP) ∧ k.Ok w0 ∧ v.Ok w0
section
variable {w0 W W' : World} {B PA A : Nat} {c : Cfg} {vl vp vm : Value} {n q M P : Nat} {k v : Tx}
theorem UVa.below (h : UVa w0 W B PA A c vl vp vm n q M P k v) (hb : Below W.heap.size W W') : UVa w0 W' B PA A c vl vp vm n q M P k v := by
 obtain ⟨own, s, L, Ks, E, h1, h2⟩ := h
 exact ⟨own, s, L, Ks, E, h1.below hb, h2⟩
theorem UVb.below (h : UVb w0 W B PA A c vl vp vm n q M k v) (hb : Below W.heap.size W W') : UVb w0 W' B PA A c vl vp vm n q M k v := by
 obtain ⟨own, s, L, Ks, E, P, h1, h2⟩ := h
 exact ⟨own, s, L, Ks, E, P, h1.below hb, h2⟩
theorem UVb.wcs (h : UVb w0 W B PA A c vl vp vm n q M k v) : WCs W B PA A c vp := by
 obtain ⟨own, s, L, Ks, E, P, hT, _⟩ := h
 exact hT.wcs
theorem UVa.wcs (h : UVa w0 W B PA A c vl vp vm n q M P k v) : WCs W B PA A c vp := by
 obtain ⟨own, s, L, Ks, E, hT, _⟩ := h
 exact hT.wcs
theorem UVb.bw (h : UVb w0 W B PA A c vl vp vm n q M k v) : w0.heap.size ≤ W.heap.size := by
 obtain ⟨own, s, L, Ks, E, P, hT, _⟩ := h
 exact hT.bw.size
theorem UVa.bw (h : UVa w0 W B PA A c vl vp vm n q M P k v) : w0.heap.size ≤ W.heap.size := by
 obtain ⟨own, s, L, Ks, E, hT, _⟩ := h
 exact hT.bw.size
theorem UVb.bcg (h : UVb w0 W B PA A c vl vp vm n q M k v) (hg : W.grownBy W' vp.ownBlock) : W'.heap[B]? = some (.cells (uwV c PA vp) 43 (0, 0)) := by
 obtain ⟨own, s, L, Ks, E, P, hT, _⟩ := h
 exact (hg.block B (lt_of_block hT.bc) (fun e => hT.ne2 (t := 4) (by decide) (hT.op B e.symm) rfl)).trans hT.bc
theorem UV.lo (h : UV w0 W B PA A c vl vp vm n q M) : B < W.heap.size ∧ (∀ g, vl.ownBlock = some g → g < W.heap.size) ∧ (∀ g, vp.ownBlock = some g → g < W.heap.size) ∧ Below w0.heap.size w0 W ∧ PA < W.heap.size := by
 obtain ⟨own, s, L, R, Ks, E, hT, _⟩ := h
 exact ⟨lt_of_block hT.bc, fun g e => (hT.lo 3 g (hT.ol g e)).2, fun g e => (hT.lo 4 g (hT.op g e)).2, hT.bw, (hT.lo 0 PA hT.o0).2⟩
theorem UV.new (h : UV w0 W B PA A c vl vp vm n q M) (hk : k.Ok w0) (hv : v.Ok w0) (Y : World) (hY : Below W.heap.size W Y) :
  Calls Tryz.prog 11 #[.pointer (some ⟨A, 0, none⟩), c.v, k.v, v.v] Y fun e w' => ∃ P, e = .returned (uptV P) ∧ UVa w0 w' B PA A c vl vp vm n q M P k v ∧ (∀ g, W.heap.size ≤ g → g < Y.heap.size → w'.heap[g]? = Y.heap[g]?) ∧ Y.heap.size ≤ w'.heap.size := by
 obtain ⟨own, s, L, R, Ks, E, hT, rfl, h3, h4, h5, h6, h7, h8⟩ := h
 have hTY := hT.below hY
 refine (hTY.add (hk.below hTY.bw) (hv.below hTY.bw)).mono ?_
 rintro e w' ⟨P, own', rfl, hT', hu, _⟩
 refine ⟨P, rfl, ⟨own', s, L, Ks, E, hT', h3, h4, h5, h6, h7, h8, hk, hv⟩, fun g h1 h2 => ?_, hu.size⟩
 exact hu.block g h2 (fun e => by have := (hT.lo 1 g e).2; omega)
theorem UVa.row {la : Option Addr} {ll lc : Nat} (h : UVa w0 W B PA A c (.slice la ll lc) vp vm n q M P k v) : ll = n ∧ ∃ xs, W.ownsRow w0.heap.size 33 1 (.slice la ll lc) n xs ∧ ∀ g cap W', W'.ownsRow w0.heap.size 33 1 (.slice (some ⟨g, 0, none⟩) (n + 1) cap) (n + 1) (xs ++ [uptV P]) → W.grownBy W' (Value.slice la ll lc).ownBlock → ((Value.slice la ll lc).ownBlock = some g ∨ W.heap.size ≤ g) → UVb w0 W' B PA A c (.slice (some ⟨g, 0, none⟩) (n + 1) cap) vp vm n q M k v := by
 obtain ⟨own, s, L, Ks, E, hT, h3, h4, h5, h6, h7, h8, hk, hv⟩ := h
 have hl : (L.map (·.1)).length = n := by rw [List.length_map]; exact h3
 have hr := hT.rl
 rw [hl] at hr
 refine ⟨?_, _, hr, fun g cap W' ho hg hor => ?_⟩
 ·rcases hr.2 with ⟨q1, q2⟩ | ⟨g, cap, cur, q1, _⟩
  ·simp only [Value.slice.injEq] at q1; omega
  ·simp only [Value.slice.injEq] at q1; omega
 ·have := hT.pushL (g := g) (cap := cap) (p := P) (by rw [hl]; exact ho) hg hor
  rw [hl] at this
  exact ⟨_, s, L, Ks, E, P, by rw [List.map_append]; exact this, h3, h4, h5, h6, h7, h8, hk, hv⟩
theorem UVb.row {pa : Option Addr} {pl pc : Nat} (h : UVb w0 W B PA A c vl (.slice pa pl pc) vm n q M k v) : pl = n ∧ ∃ xs, W.ownsRow w0.heap.size 46 4 (.slice pa pl pc) n xs ∧ ∀ g cap W', W'.ownsRow w0.heap.size 46 4 (.slice (some ⟨g, 0, none⟩) (n + 1) cap) (n + 1) (xs ++ uptT (k, v)) → W.grownBy W' (Value.slice pa pl pc).ownBlock → ((Value.slice pa pl pc).ownBlock = some g ∨ W.heap.size ≤ g) → UV w0 (W'.setCell ⟨B, 6, none⟩ (.slice (some ⟨g, 0, none⟩) (n + 1) cap)) B PA A c vl (.slice (some ⟨g, 0, none⟩) (n + 1) cap) vm (n + 1) q M := by
 obtain ⟨own, s, L, Ks, E, P, hT, h3, h4, h5, h6, h7, h8, hk, hv⟩ := h
 have hr := hT.rp
 rw [h4] at hr
 refine ⟨?_, _, hr, fun g cap W' ho hg hor => ?_⟩
 ·rcases hr.2 with ⟨q1, q2⟩ | ⟨g, cap, cur, q1, _⟩
  ·simp only [Value.slice.injEq] at q1; omega
  ·simp only [Value.slice.injEq] at q1; omega
 ·have := hT.pushP (g := g) (cap := cap) (x := (k, v)) ⟨hk, hv⟩ (by rw [h4]; exact ho) hg hor
  rw [h4] at this
  refine ⟨_, s, _, _, _, E, this, rfl, by simp [h3], by simp [h4], h5, h6, ?_, h8⟩
  rw [List.map_append, List.map_append]
  exact h7.more (k.s, v.s)
end
section
variable {w0 W : World} {B PA A : Nat} {c : Cfg} {vl vp vm : Value} {n q M G i p : Nat} {X : Obj} {x : En} {tk : Bool} {er : Int}
theorem row_addr {N n size : Nat} {e : TypeId} {xs : List Value} {a : Option Addr} {l q : Nat} (h : W.ownsRow N e size (.slice a l q) n xs) (hn : 0 < n) : ∃ g, a = some ⟨g, 0, none⟩ := by
 rcases h.2 with ⟨q1, q2⟩ | ⟨g, cap, cur, q1, _⟩
 ·omega
 ·simp only [Value.slice.injEq] at q1
  exact ⟨g, q1.1⟩
theorem UV.lrow {la : Option Addr} {ll lc : Nat} (h : UV w0 W B PA A c (.slice la ll lc) vp vm n q M) (hn : 0 < n) : ∃ g, la = some ⟨g, 0, none⟩ := by
 obtain ⟨own, s, L, R, Ks, E, hT, h2, h3, _⟩ := h
 exact row_addr hT.rl (by rw [h2, List.length_map]; omega)
theorem UV.prow {pa : Option Addr} {pl pc : Nat} (h : UV w0 W B PA A c vl (.slice pa pl pc) vm n q M) (hn : 0 < n) : ∃ g, pa = some ⟨g, 0, none⟩ := by
 obtain ⟨own, s, L, R, Ks, E, hT, h2, h3, h4, _⟩ := h
 exact row_addr hT.rp (by omega)
theorem UV2.lrow {la : Option Addr} {ll lc : Nat} (h : UV2 w0 W B PA A c (.slice la ll lc) vp vm n q M G X i p x tk er) : ∃ g, la = some ⟨g, 0, none⟩ ∧ W.cell? ⟨g, i, none⟩ = some (uptV p) := by
 obtain ⟨own, s, L, R, Ks, E, hT, h2, h3, h4, h5, h6, h7, h8, h9, h10, ⟨u, h11, h12⟩, _⟩ := h
 refine row_cell1 (j := i) (u := uptV p) hT.rl rfl ?_
 rw [h2, List.map_map, List.getElem?_map, h11]
 rfl
end
theorem infoUPM : (Tryz.prog.info? 33).map (fun i => (i.zero, i.size, i.bytes)) = some (some (.pointer none), 1, 8) := by kernel_rfl
theorem infoUPT : (Tryz.prog.info? 46).map (fun i => (i.zero, i.size, i.bytes)) = some (some (.agg #[.pointer none, .pointer none, .slice none 0 0, .slice none 0 0]), 4, 64) := by kernel_rfl
theorem one_newU {w : World} {u : Value} {T : TypeId} : ∀ j x, [u][j]? = some x → (w.alloc (.cells #[u] T)).cell? ((⟨w.heap.size, 0, none⟩ : Addr).add j) = some x := by
 intro j x hx
 match j, hx with
 | 0, hx => rw [Addr.add_lit, cell_of_row _ _ _ _ _ _ (heap_alloc_new w _)]; simpa using hx
 | j + 1, hx => simp at hx
theorem four_newU (w : World) (a0 a1 a2 a3 : Value) (T : TypeId) : ∀ j u, [a0, a1, a2, a3][j]? = some u → (w.alloc (.cells #[a0, a1, a2, a3] T)).cell? ((⟨w.heap.size, 0, none⟩ : Addr).add j) = some u := by
 intro j u hu
 rw [Addr.add_lit, Nat.zero_add, cell_of_row _ _ _ _ _ _ (heap_alloc_new w _), ← Array.getElem?_toList]
 exact hu
set_option linter.unusedSimpArgs false in
set_option maxHeartbeats 25600000 in
theorem putSound_any (c : Cfg) (hc : CfgI c) (aS : Option Addr) (lS cS : Nat) (O : List UOp) (w : World) (hL : O.length = lS) (hO : UOps w aS O) (hlS : lS ≤ 1048576) :
  Calls Tryz.prog 3 #[c.v, .slice aS lS cS] w fun e w' => e = .returned (.bool true) ∧ Below w.heap.size w w' := by
 obtain ⟨i0, hi0, hz0, hz1, hz2⟩ := info_parts infoUPM
 obtain ⟨i1, hi1, hy0, hy1, hy2⟩ := info_parts infoUPT
 have HHD : Hid (∀ W, Calls Tryz.prog 9 #[] W fun e w' => e = .returned (.bool true) ∧ Below W.heap.size W w') := fun W => uhead_any W
 have HBG : Hid (∀ W, Calls Tryz.prog 10 #[c.v] W (UBegP W (fitC c))) := fun W => ubegun_any c hc W
 have HO := hide hO
 have HLL := hide hL
 have HLS := hide hlS
 have hlS2 : (lS : Int) ≤ 9223372036854775807 := by omega
 have hfit := fit_ok c
 generalize fitC c = d at *
 obtain ⟨dn, dl, di, df, db⟩ := d
 have HFIT := hide hfit
 obtain ⟨nd, lf, inn, fl, bk⟩ := c
 simp only [Cfg.v] at HBG ⊢
 obtain ⟨wa, hwa⟩ : ∃ wa, wa = w.alloc (.cells #[.int .i64 nd, .int .i64 lf, .int .i64 inn, .int .i64 fl, .int .i64 bk] 23) := ⟨_, rfl⟩
 have ba : Below w.heap.size w wa := by rw [hwa]; exact (Below.refl _ _).alloc (Nat.le_refl _) _
 have ga : wa.heap[w.heap.size]? = some (.cells #[.int .i64 nd, .int .i64 lf, .int .i64 inn, .int .i64 fl, .int .i64 bk] 23 (0, 0)) := by rw [hwa]; exact heap_alloc_new w _
 have HWA := hide hwa
 have HBA := hide ba
 have HGA := hide ga
 clear hO hL hlS hc hfit hwa ba ga
 go_enter Tryz.func3, Tryz.ntmps3
 go_upto_region 1 with fail
 rw [← HWA.out]
 clear HWA
 go_wp2_with fail
 refine (HHD.out wa).mono ?_
 rintro e w1 ⟨rfl, hb1⟩
 have g1 := (hb1.block _ (lt_of_block HGA.out)).trans HGA.out
 have HB1 := hide (HBA.out.trans (hb1.mono HBA.out.size))
 have y0 : w1.cell? ⟨w.heap.size, 0, none⟩ = some (.int .i64 nd) := by rw [cell_of_row _ _ _ _ _ _ g1]; rfl
 have y1 : w1.cell? ⟨w.heap.size, 1, none⟩ = some (.int .i64 lf) := by rw [cell_of_row _ _ _ _ _ _ g1]; rfl
 have y2 : w1.cell? ⟨w.heap.size, 2, none⟩ = some (.int .i64 inn) := by rw [cell_of_row _ _ _ _ _ _ g1]; rfl
 have y3 : w1.cell? ⟨w.heap.size, 3, none⟩ = some (.int .i64 fl) := by rw [cell_of_row _ _ _ _ _ _ g1]; rfl
 have y4 : w1.cell? ⟨w.heap.size, 4, none⟩ = some (.int .i64 bk) := by rw [cell_of_row _ _ _ _ _ _ g1]; rfl
 clear hb1 HHD HBA HGA g1
 go_wp2_with fail
 refine (HBG.out w1).mono ?_
 rintro e w2 ⟨B, PA, A, F, rfl, hg, hpa, hpx, hPB, hB, hF, hb2⟩
 have HD0 : Hid (UV w w2 B PA A ⟨dn, dl, di, df, db⟩ (.slice none 0 0) (.slice none 0 0) (.slice none 0 0) 0 0 0) := ⟨_, _, [], [], [], [], UT.begin HB1.out hg hpa hpx hPB hB hF hb2, rfl, rfl, rfl, rfl, Nat.le_refl _, WS.new HFIT.out, List.Pairwise.nil⟩
 clear hg hpa hpx hPB hB hF hb2 HB1 HBG y0 y1 y2 y3 y4
 go_wp2_with fail
 go_loopw [7, 8, 9] (fun q7 q8 q9 wr => ∃ (i n q M : Nat) (la ma pa : Option Addr) (lc mc pc : Nat), i ≤ lS ∧ q7 = .slice la n lc ∧ q8 = .slice ma q mc ∧ q9 = .int .i64 (i : Int) ∧ Hid (n ≤ i ∧ M ≤ 31 * i ∧ UV w wr B PA A ⟨dn, dl, di, df, db⟩ (.slice la n lc) (.slice pa n pc) (.slice ma q mc) n q M)) (fun _ _ q9 _ => lS - (intOf q9).toNat)
 case atStart => exact ⟨0, 0, 0, 0, none, none, none, 0, 0, 0, Nat.zero_le _, rfl, rfl, rfl, ⟨Nat.le_refl _, Nat.le_refl _, HD0.out⟩⟩
 case round =>
  clear HD0
  obtain ⟨i, n, q, M, la, ma, pa, lc, mc, pc, hi, rfl, rfl, rfl, HI⟩ := hrel
  rename World => wr
  have HU : Hid (UV w wr B PA A ⟨dn, dl, di, df, db⟩ (.slice la n lc) (.slice pa n pc) (.slice ma q mc) n q M) := HI.out.2.2
  have HNI : Hid (n ≤ i ∧ M ≤ 31 * i) := ⟨HI.out.1, HI.out.2.1⟩
  clear HI
  by_cases hlt : i < lS
  ·have j1 : (i : Int) < (lS : Int) := by omega
   have hiL : i < O.length := by rw [HLL.out]; exact hlt
   obtain ⟨HLB, HLl, HLp, HBW, HPA⟩ := HU.out.lo
   obtain ⟨ob, oo, hoa, hob, hoc0⟩ := HO.out.c i hiL
   have hoc : ∀ j (v : Value), O[i].cs[j]? = some v → wr.cell? ⟨ob, oo + i * 6 + j, none⟩ = some v := fun j v hv => (HBW.cell (p := ⟨ob, oo + i * 6 + j, none⟩) hob).trans (hoc0 j v hv)
   subst hoa
   obtain ⟨oka, okb, okk, okv⟩ := HO.out.ok O[i] (List.getElem_mem hiL)
   generalize O[i] = op at *
   obtain ⟨kd, oa, ob2, ⟨k1a, k1c, k1⟩, ⟨v1a, v1c, v1⟩, ⟨h1a, h1c, h1⟩⟩ := op
   simp only [UOp.cs, Tx.v] at hoc oka okb okk okv
   obtain ⟨l1, hl1⟩ : ∃ x, k1.length = x := ⟨_, rfl⟩
   obtain ⟨l2, hl2⟩ : ∃ x, v1.length = x := ⟨_, rfl⟩
   rw [hl1, hl2] at hoc
   generalize h1.length = l3 at *
   have e0 : wr.cell? ⟨ob, oo + i * 6, none⟩ = some (.int .i64 kd) := hoc 0 _ rfl
   have e1 : wr.cell? ⟨ob, oo + i * 6 + 1, none⟩ = some (.int .i64 oa) := hoc 1 _ rfl
   have e2 : wr.cell? ⟨ob, oo + i * 6 + 2, none⟩ = some (.int .i64 ob2) := hoc 2 _ rfl
   have e3 : wr.cell? ⟨ob, oo + i * 6 + 3, none⟩ = some (.slice k1a l1 k1c) := hoc 3 _ rfl
   have e4 : wr.cell? ⟨ob, oo + i * 6 + 4, none⟩ = some (.slice v1a l2 v1c) := hoc 4 _ rfl
   have e5 : wr.cell? ⟨ob, oo + i * 6 + 5, none⟩ = some (.slice h1a l3 h1c) := hoc 5 _ rfl
   obtain ⟨wb, hwb⟩ : ∃ wb, wb = wr.alloc (.cells #[.int .i64 kd, .int .i64 oa, .int .i64 ob2, .slice k1a l1 k1c, .slice v1a l2 v1c, .slice h1a l3 h1c] 32) := ⟨_, rfl⟩
   have bb : Below wr.heap.size wr wb := by rw [hwb]; exact (Below.refl _ _).alloc (Nat.le_refl _) _
   have GB : Hid (wb.heap[wr.heap.size]? = some (.cells #[.int .i64 kd, .int .i64 oa, .int .i64 ob2, .slice k1a l1 k1c, .slice v1a l2 v1c, .slice h1a l3 h1c] 32 (0, 0))) := by show _ = _; rw [hwb]; exact heap_alloc_new wr _
   have BB := hide bb
   have HWB := hide hwb
   have HSB : Hid (wr.heap.size < wb.heap.size) := lt_of_block GB.out
   have HUB : Hid (UV w wb B PA A ⟨dn, dl, di, df, db⟩ (.slice la n lc) (.slice pa n pc) (.slice ma q mc) n q M) := HU.out.below bb
   have HG0 : Hid (UVG w wb B PA A ⟨dn, dl, di, df, db⟩ (.slice la n lc) (.slice pa n pc) (.slice ma q mc) n q M wr.heap.size (.cells #[.int .i64 kd, .int .i64 oa, .int .i64 ob2, .slice k1a l1 k1c, .slice v1a l2 v1c, .slice h1a l3 h1c] 32 (0, 0))) := HU.out.box bb (Nat.le_refl _) GB.out
   have HBL : Hid (B < wr.heap.size) := HLB
   have HLO : Hid ((∀ g, (Value.slice la n lc).ownBlock = some g → g < wr.heap.size) ∧ (∀ g, (Value.slice pa n pc).ownBlock = some g → g < wr.heap.size)) := ⟨HLl, HLp⟩
   have HNW : Hid (∀ Y, Below wb.heap.size wb Y → Calls Tryz.prog 11 #[.pointer (some ⟨A, 0, none⟩), .agg #[.int .i64 dn, .int .i64 dl, .int .i64 di, .int .i64 df, .int .i64 db], .slice k1a l1 k1c, .slice v1a l2 v1c] Y fun e w' => ∃ P, e = .returned (.pointer (some ⟨P, 0, none⟩)) ∧ UVa w w' B PA A ⟨dn, dl, di, df, db⟩ (.slice la n lc) (.slice pa n pc) (.slice ma q mc) n q M P ⟨k1a, k1c, k1⟩ ⟨v1a, v1c, v1⟩ ∧ (∀ g, wr.heap.size ≤ g → g < wb.heap.size → w'.heap[g]? = wb.heap[g]?) ∧ Y.heap.size ≤ w'.heap.size) := fun Y hb => by
    have := HU.out.new okk okv Y (bb.trans (hb.mono bb.size))
    simp only [Tx.v, Cfg.v, uptV] at this
    rw [hl1, hl2] at this
    exact this.mono fun e w' ⟨P, h1, h2, h3, h4⟩ => ⟨P, h1, h2, fun g q1 q2 => (h3 g q1 (Nat.lt_of_lt_of_le q2 hb.size)).trans (hb.block g q2), h4⟩
   have HL12 : Hid (k1.length = l1 ∧ v1.length = l2) := ⟨hl1, hl2⟩
   have HOA := hide (And.intro oka okb)
   have b0 : wb.cell? ⟨B, 0, none⟩ = some (.pointer (some ⟨PA, 0, none⟩)) := (HUB.out.wcs).1
   have b1 : wb.cell? ⟨PA, 0, none⟩ = some (.pointer (some ⟨A, 0, none⟩)) := (HUB.out.wcs).2.1
   have b2 : wb.cell? ⟨B, 1, none⟩ = some (.int .i64 dn) := (HUB.out.wcs).2.2.1
   have b3 : wb.cell? ⟨B, 2, none⟩ = some (.int .i64 dl) := (HUB.out.wcs).2.2.2.1
   have b4 : wb.cell? ⟨B, 3, none⟩ = some (.int .i64 di) := (HUB.out.wcs).2.2.2.2.1
   have b5 : wb.cell? ⟨B, 4, none⟩ = some (.int .i64 df) := (HUB.out.wcs).2.2.2.2.2.1
   have b6 : wb.cell? ⟨B, 5, none⟩ = some (.int .i64 db) := (HUB.out.wcs).2.2.2.2.2.2.1
   have b7 : wb.cell? ⟨B, 6, none⟩ = some (.slice pa n pc) := (HUB.out.wcs).2.2.2.2.2.2.2
   have x0 : wb.cell? ⟨wr.heap.size, 0, none⟩ = some (.int .i64 kd) := (by rw [cell_of_row _ _ _ _ _ _ GB.out]; rfl)
   have x1 : wb.cell? ⟨wr.heap.size, 1, none⟩ = some (.int .i64 oa) := (by rw [cell_of_row _ _ _ _ _ _ GB.out]; rfl)
   have x2 : wb.cell? ⟨wr.heap.size, 2, none⟩ = some (.int .i64 ob2) := (by rw [cell_of_row _ _ _ _ _ _ GB.out]; rfl)
   have x3 : wb.cell? ⟨wr.heap.size, 3, none⟩ = some (.slice k1a l1 k1c) := (by rw [cell_of_row _ _ _ _ _ _ GB.out]; rfl)
   have x4 : wb.cell? ⟨wr.heap.size, 4, none⟩ = some (.slice v1a l2 v1c) := (by rw [cell_of_row _ _ _ _ _ _ GB.out]; rfl)
   have x5 : wb.cell? ⟨wr.heap.size, 5, none⟩ = some (.slice h1a l3 h1c) := (by rw [cell_of_row _ _ _ _ _ _ GB.out]; rfl)
   clear HBW HLl HLp HLB HPA hoc hoc0 hob oka okb okk okv hl1 hl2 bb hwb HU
   go_upto_region 11 with fail
   rw [← HWB.out]
   clear HWB e0 e1 e2 e3 e4 e5
   by_cases hkd : kd = 0
   ·subst hkd
    as_aux_lemma =>
     have HBLT := HBL
     have hn63 : n + 1 ≤ maxLen := by have := HLS.out; have := HNI.out.1; unfold maxLen; omega
     have hn8 : (n + 1) * 8 ≤ 140737488355328 := by have := HLS.out; have := HNI.out.1; omega
     have hn64 : (n + 1) * 64 ≤ 140737488355328 := by have := HLS.out; have := HNI.out.1; omega
     go_wp2_with fail
     go_region_held3 (fun W' => W'.cell? ⟨B, 0, none⟩ = some (.pointer (some ⟨PA, 0, none⟩)) ∧ W'.cell? ⟨PA, 0, none⟩ = some (.pointer (some ⟨A, 0, none⟩)) ∧ W'.cell? ⟨B, 1, none⟩ = some (.int .i64 dn) ∧ W'.cell? ⟨B, 2, none⟩ = some (.int .i64 dl) ∧ W'.cell? ⟨B, 3, none⟩ = some (.int .i64 di) ∧ W'.cell? ⟨B, 4, none⟩ = some (.int .i64 df) ∧ W'.cell? ⟨B, 5, none⟩ = some (.int .i64 db) ∧ W'.cell? ⟨wr.heap.size, 3, none⟩ = some (.slice k1a l1 k1c) ∧ W'.cell? ⟨wr.heap.size, 4, none⟩ = some (.slice v1a l2 v1c)) (go_keep) (first
      | (refine step_append_lies _ rfl (.tmp 41) (.tmp 58) 28 rfl w.heap.size 33 i0 (.pointer none) 1 8 Tryz.underlying28 hi0 hz0 hz1 hz2 rfl (by decide) (.slice la n lc) n xs (by simp [Act.eval]) HR.out ⟨w2.heap.size, 0, none⟩ 1 1 [.pointer (some ⟨P, 0, none⟩)] (by simp [Act.eval]) rfl one_newU (by intro u hu; simp only [List.mem_singleton] at hu; subst hu; rfl) (by decide) hn63 hn8 HWL.out _ rfl ?_; intro g6 cap6 w3 ho6 hg6 hor6 hgl6; have HB3 := hide (HPU.out g6 cap6 w3 ho6 hg6 (hor6.imp id (fun e => by rw [e]; exact Nat.le_refl _))); have g3 : w3.heap[wr.heap.size]? = some (.cells #[.int .i64 0, .int .i64 oa, .int .i64 ob2, .slice k1a l1 k1c, .slice v1a l2 v1c, .slice h1a l3 h1c] 32 (0, 0)) := (hg6.block wr.heap.size (lt_of_block HG2A.out) (fun e => by have := HLO.out.1 wr.heap.size e.symm; omega)).trans HG2A.out; have f0 : w3.cell? ⟨B, 0, none⟩ = some (.pointer (some ⟨PA, 0, none⟩)) := (HB3.out.wcs).1; have f1 : w3.cell? ⟨PA, 0, none⟩ = some (.pointer (some ⟨A, 0, none⟩)) := (HB3.out.wcs).2.1; have f2 : w3.cell? ⟨B, 1, none⟩ = some (.int .i64 dn) := (HB3.out.wcs).2.2.1; have f3 : w3.cell? ⟨B, 2, none⟩ = some (.int .i64 dl) := (HB3.out.wcs).2.2.2.1; have f4 : w3.cell? ⟨B, 3, none⟩ = some (.int .i64 di) := (HB3.out.wcs).2.2.2.2.1; have f5 : w3.cell? ⟨B, 4, none⟩ = some (.int .i64 df) := (HB3.out.wcs).2.2.2.2.2.1; have f6 : w3.cell? ⟨B, 5, none⟩ = some (.int .i64 db) := (HB3.out.wcs).2.2.2.2.2.2.1; have f7 : w3.cell? ⟨B, 6, none⟩ = some (.slice pa n pc) := (HB3.out.wcs).2.2.2.2.2.2.2; have v3 : w3.cell? ⟨wr.heap.size, 3, none⟩ = some (.slice k1a l1 k1c) := (by rw [cell_of_row _ _ _ _ _ _ g3]; rfl); have v4 : w3.cell? ⟨wr.heap.size, 4, none⟩ = some (.slice v1a l2 v1c) := (by rw [cell_of_row _ _ _ _ _ _ g3]; rfl); have HG3 := hide g3; clear ho6 hg6 hor6 hgl6 g3)
      | (go_at_call 11; refine (HNW.out _ (below_drew (Below.refl _ _))).mono ?_; rintro e w2 ⟨P, rfl, hva, hfr, hsz⟩; have g2 : w2.heap[wr.heap.size]? = some (.cells #[.int .i64 0, .int .i64 oa, .int .i64 ob2, .slice k1a l1 k1c, .slice v1a l2 v1c, .slice h1a l3 h1c] 32 (0, 0)) := (hfr wr.heap.size (Nat.le_refl _) HSB.out).trans GB.out; have c0 : w2.cell? ⟨B, 0, none⟩ = some (.pointer (some ⟨PA, 0, none⟩)) := (hva.wcs).1; have c1 : w2.cell? ⟨PA, 0, none⟩ = some (.pointer (some ⟨A, 0, none⟩)) := (hva.wcs).2.1; have c2 : w2.cell? ⟨B, 1, none⟩ = some (.int .i64 dn) := (hva.wcs).2.2.1; have c3 : w2.cell? ⟨B, 2, none⟩ = some (.int .i64 dl) := (hva.wcs).2.2.2.1; have c4 : w2.cell? ⟨B, 3, none⟩ = some (.int .i64 di) := (hva.wcs).2.2.2.2.1; have c5 : w2.cell? ⟨B, 4, none⟩ = some (.int .i64 df) := (hva.wcs).2.2.2.2.2.1; have c6 : w2.cell? ⟨B, 5, none⟩ = some (.int .i64 db) := (hva.wcs).2.2.2.2.2.2.1; have z3 : w2.cell? ⟨wr.heap.size, 3, none⟩ = some (.slice k1a l1 k1c) := (by rw [cell_of_row _ _ _ _ _ _ g2]; rfl); have z4 : w2.cell? ⟨wr.heap.size, 4, none⟩ = some (.slice v1a l2 v1c) := (by rw [cell_of_row _ _ _ _ _ _ g2]; rfl); have hva2 := hva.below (W' := (w2.alloc (.cells #[.pointer (some ⟨P, 0, none⟩)] 33))) ((Below.refl _ _).alloc (Nat.le_refl _) _); have g2a : (w2.alloc (.cells #[.pointer (some ⟨P, 0, none⟩)] 33)).heap[wr.heap.size]? = some (.cells #[.int .i64 0, .int .i64 oa, .int .i64 ob2, .slice k1a l1 k1c, .slice v1a l2 v1c, .slice h1a l3 h1c] 32 (0, 0)) := (heap_alloc_old _ _ (lt_of_block g2)).trans g2; have d0 : (w2.alloc (.cells #[.pointer (some ⟨P, 0, none⟩)] 33)).cell? ⟨B, 0, none⟩ = some (.pointer (some ⟨PA, 0, none⟩)) := (hva2.wcs).1; have d1 : (w2.alloc (.cells #[.pointer (some ⟨P, 0, none⟩)] 33)).cell? ⟨PA, 0, none⟩ = some (.pointer (some ⟨A, 0, none⟩)) := (hva2.wcs).2.1; have d2 : (w2.alloc (.cells #[.pointer (some ⟨P, 0, none⟩)] 33)).cell? ⟨B, 1, none⟩ = some (.int .i64 dn) := (hva2.wcs).2.2.1; have d3 : (w2.alloc (.cells #[.pointer (some ⟨P, 0, none⟩)] 33)).cell? ⟨B, 2, none⟩ = some (.int .i64 dl) := (hva2.wcs).2.2.2.1; have d4 : (w2.alloc (.cells #[.pointer (some ⟨P, 0, none⟩)] 33)).cell? ⟨B, 3, none⟩ = some (.int .i64 di) := (hva2.wcs).2.2.2.2.1; have d5 : (w2.alloc (.cells #[.pointer (some ⟨P, 0, none⟩)] 33)).cell? ⟨B, 4, none⟩ = some (.int .i64 df) := (hva2.wcs).2.2.2.2.2.1; have d6 : (w2.alloc (.cells #[.pointer (some ⟨P, 0, none⟩)] 33)).cell? ⟨B, 5, none⟩ = some (.int .i64 db) := (hva2.wcs).2.2.2.2.2.2.1; have y3 : (w2.alloc (.cells #[.pointer (some ⟨P, 0, none⟩)] 33)).cell? ⟨wr.heap.size, 3, none⟩ = some (.slice k1a l1 k1c) := (by rw [cell_of_row _ _ _ _ _ _ g2a]; rfl); have y4 : (w2.alloc (.cells #[.pointer (some ⟨P, 0, none⟩)] 33)).cell? ⟨wr.heap.size, 4, none⟩ = some (.slice v1a l2 v1c) := (by rw [cell_of_row _ _ _ _ _ _ g2a]; rfl); obtain ⟨_, xs, hrx, hpx⟩ := hva2.row; have HR := hide hrx; have HPU := hide hpx; have HG2A := hide g2a; have HWL : Hid (w.heap.size ≤ (w2.alloc (.cells #[.pointer (some ⟨P, 0, none⟩)] 33)).heap.size) := hva2.bw; clear hva hva2 hfr hsz g2 g2a hrx hpx)
      | fail)
     go_wp2_with fail
     obtain ⟨wd, hwd⟩ : ∃ x, x = w3.drew := ⟨_, rfl⟩
     have bd : Below w3.heap.size w3 wd := by rw [hwd]; exact below_drew (Below.refl _ _)
     have gd : wd.heap[wr.heap.size]? = some (.cells #[.int .i64 0, .int .i64 oa, .int .i64 ob2, .slice k1a l1 k1c, .slice v1a l2 v1c, .slice h1a l3 h1c] 32 (0, 0)) := (bd.block _ (lt_of_block HG3.out)).trans HG3.out
     have HBD := hide (HB3.out.below bd)
     have u3 : wd.cell? ⟨wr.heap.size, 3, none⟩ = some (.slice k1a l1 k1c) := (by rw [cell_of_row _ _ _ _ _ _ gd]; rfl)
     have u4 : wd.cell? ⟨wr.heap.size, 4, none⟩ = some (.slice v1a l2 v1c) := (by rw [cell_of_row _ _ _ _ _ _ gd]; rfl)
     have u7 : wd.cell? ⟨B, 6, none⟩ = some (.slice pa n pc) := (HBD.out.wcs).2.2.2.2.2.2.2
     have ht : Below wd.heap.size wd (wd.alloc (.cells #[.pointer none, .pointer none, .slice k1a l1 k1c, .slice v1a l2 v1c] 46)) := (Below.refl _ _).alloc (Nat.le_refl _) _
     have HBT := hide (HBD.out.below ht)
     have gt : (wd.alloc (.cells #[.pointer none, .pointer none, .slice k1a l1 k1c, .slice v1a l2 v1c] 46)).heap[wr.heap.size]? = some (.cells #[.int .i64 0, .int .i64 oa, .int .i64 ob2, .slice k1a l1 k1c, .slice v1a l2 v1c, .slice h1a l3 h1c] 32 (0, 0)) := (ht.block _ (lt_of_block gd)).trans gd
     have t3 : (wd.alloc (.cells #[.pointer none, .pointer none, .slice k1a l1 k1c, .slice v1a l2 v1c] 46)).cell? ⟨wr.heap.size, 3, none⟩ = some (.slice k1a l1 k1c) := (by rw [cell_of_row _ _ _ _ _ _ gt]; rfl)
     have t4 : (wd.alloc (.cells #[.pointer none, .pointer none, .slice k1a l1 k1c, .slice v1a l2 v1c] 46)).cell? ⟨wr.heap.size, 4, none⟩ = some (.slice v1a l2 v1c) := (by rw [cell_of_row _ _ _ _ _ _ gt]; rfl)
     have t7 : (wd.alloc (.cells #[.pointer none, .pointer none, .slice k1a l1 k1c, .slice v1a l2 v1c] 46)).cell? ⟨B, 6, none⟩ = some (.slice pa n pc) := (HBT.out.wcs).2.2.2.2.2.2.2
     have HGT := hide gt
     have HGNB : Hid (¬ wr.heap.size = B) := fun e => by have := HBLT.out; omega
     obtain ⟨_, ys, hry, hpy⟩ := HBT.out.row
     simp only [uptT, Tx.v, HL12.out.1, HL12.out.2] at hpy
     have HR5 := hide hry
     have HPU5 := hide hpy
     have HWT : Hid (w.heap.size ≤ (wd.alloc (.cells #[.pointer none, .pointer none, .slice k1a l1 k1c, .slice v1a l2 v1c] 46)).heap.size) := HBT.out.bw
     have HWD := hide hwd
     clear hwd bd gd ht gt hry hpy HG0 HB3 HG3 HR HPU HG2A HWL HNW
     refine wp_region_held_drew (S := (fun W' => W'.cell? ⟨wr.heap.size, 3, none⟩ = some (.slice k1a l1 k1c) ∧ W'.cell? ⟨wr.heap.size, 4, none⟩ = some (.slice v1a l2 v1c))) (by kernel_rfl) ?hS0 (fun hHeld => ?rest0)
     case hS0 => ((try dsimp only); go_keep)
     case rest0 =>
     rw [← HWD.out] at hHeld ⊢
     refine wpAnyH_take (i := 0) rfl (by kernel_rfl) (by kernel_rfl) (by kernel_rfl) (fun _ _ _ h => h) (.inl ⟨by rfl, by intro w h; (try dsimp only at h); go_simp; try with_reducible rfl⟩) (by assumption) ?_
     refine wpAnyH_take (i := 1) rfl (by kernel_rfl) (by kernel_rfl) (by kernel_rfl) (fun _ _ _ h => h) (.inl ⟨by rfl, by intro w h; (try dsimp only at h); go_simp; try with_reducible rfl⟩) (by assumption) ?_
     refine wpAnyH_take (i := 2) rfl (by kernel_rfl) (by kernel_rfl) (by kernel_rfl) (fun _ _ _ h => h) (.inl ⟨by rfl, by intro w h; (try dsimp only at h); go_simp; try with_reducible rfl⟩) (by assumption) ?_
     refine wpAnyH_take (i := 3) rfl (by kernel_rfl) (by kernel_rfl) (by kernel_rfl) (fun _ _ _ h => h) (.inl ⟨by rfl, by intro w h; (try dsimp only at h); go_simp; try with_reducible rfl⟩) (by assumption) ?_
     try simp only [Act.put, List.getElem_toArray, List.getElem_cons_zero, List.getElem_cons_succ, List.setIfInBounds_toArray, List.set_cons_zero, List.set_cons_succ]
     refine wpAnyH_take (i := 5) rfl (by kernel_rfl) (by kernel_rfl) (by kernel_rfl) (fun _ _ _ h => h) (.inl ⟨by rfl, by intro w h; (try dsimp only at h); go_simp; try with_reducible rfl⟩) (by assumption) ?_
     refine wpAnyH_take (i := 6) rfl (by kernel_rfl) (by kernel_rfl) (by kernel_rfl) (fun _ _ _ h => h) (.inl ⟨by rfl, by intro w h; (try dsimp only at h); go_simp; try with_reducible rfl⟩) (by assumption) ?_
     try simp only [Act.put, List.getElem_toArray, List.getElem_cons_zero, List.getElem_cons_succ, List.setIfInBounds_toArray, List.set_cons_zero, List.set_cons_succ]
     refine wpAnyH_take (i := 7) rfl (by kernel_rfl) (by kernel_rfl) (by kernel_rfl) (fun _ _ _ h => h) (.inl ⟨by rfl, by intro w h; (try dsimp only at h); go_simp; try with_reducible rfl⟩) (by assumption) ?_
     refine wpAnyH_take (i := 8) rfl (by kernel_rfl) (by kernel_rfl) (by kernel_rfl) (fun _ _ _ h => h) (.inl ⟨by rfl, by intro w h; (try dsimp only at h); go_simp; try with_reducible rfl⟩) (by assumption) ?_
     try simp only [Act.put, List.getElem_toArray, List.getElem_cons_zero, List.getElem_cons_succ, List.setIfInBounds_toArray, List.set_cons_zero, List.set_cons_succ]
     refine wpAnyH_take (i := 9) rfl (by kernel_rfl) (by kernel_rfl) (by kernel_rfl) (fun _ _ _ h => h) (.inl ⟨by rfl, by intro w h; (try dsimp only at h); go_simp; try with_reducible rfl⟩) (by assumption) ?_
     try simp only [Act.put, List.getElem_toArray, List.getElem_cons_zero, List.getElem_cons_succ, List.setIfInBounds_toArray, List.set_cons_zero, List.set_cons_succ]
     refine wpAnyH_ready (rs := [4, 10]) (by kernel_rfl) (by simp) ?_
     refine AllReadyH.cons rfl (fun K hK => ?step1) ?more1
     case step1 =>
      go_simp
      refine hK.out _ _ ?hS1 (fun hHeld => ?rest1)
      case hS1 => ((try dsimp only); go_keep)
      case rest1 =>
      clear hK K
      try simp only [Act.put, List.getElem_toArray, List.getElem_cons_zero, List.getElem_cons_succ, List.setIfInBounds_toArray, List.set_cons_zero, List.set_cons_succ]
      refine wpAnyH_ready (rs := [10]) (by kernel_rfl) (by simp) ?_
      refine AllReadyH.cons rfl (fun K hK => ?step2) ?more2
      case step2 =>
       go_simp
       refine hK.out _ _ ?hS2 (fun hHeld => ?rest2)
       case hS2 => ((try dsimp only); go_keep)
       case rest2 =>
       clear hK K
       try simp only [Act.put, List.getElem_toArray, List.getElem_cons_zero, List.getElem_cons_succ, List.setIfInBounds_toArray, List.set_cons_zero, List.set_cons_succ]
       refine wpAnyH_ready (rs := [11]) (by kernel_rfl) (by simp) ?_
       refine AllReadyH.cons rfl (fun K hK => ?step3) ?more3
       case step3 =>
        (refine step_append_lies _ rfl (.tmp 64) (.tmp 70) 40 rfl w.heap.size 46 i1 (.agg #[.pointer none, .pointer none, .slice none 0 0, .slice none 0 0]) 4 64 Tryz.underlying40 hi1 hy0 hy1 hy2 rfl (by decide) (.slice pa n pc) n ys (by simp [Act.eval]) HR5.out ⟨wd.heap.size, 0, none⟩ 1 1 [.pointer none, .pointer none, .slice k1a l1 k1c, .slice v1a l2 v1c] (by simp [Act.eval]) rfl (four_newU wd (.pointer none) (.pointer none) (.slice k1a l1 k1c) (.slice v1a l2 v1c) 46) (by intro u hu; simp at hu; rcases hu with rfl | rfl | rfl | rfl <;> rfl) (by decide) hn63 hn64 HWT.out _ rfl ?_; intro g' c' w5 ho5 hg5 hor5 hgl5; have HN := hide (HPU5.out g' c' w5 ho5 hg5 (hor5.imp id (fun e => by rw [e]; exact Nat.le_refl _))); have g5 : w5.heap[wr.heap.size]? = some (.cells #[.int .i64 0, .int .i64 oa, .int .i64 ob2, .slice k1a l1 k1c, .slice v1a l2 v1c, .slice h1a l3 h1c] 32 (0, 0)) := (hg5.block wr.heap.size (lt_of_block HGT.out) (fun e => by have := HLO.out.2 wr.heap.size e.symm; omega)).trans HGT.out; have gB5 := HBT.out.bcg hg5; have f5 := frozen_of gB5 6; have q5 : w5.cell? ⟨B, 6, none⟩ = some (.slice pa n pc) := (by rw [cell_of_row _ _ _ _ _ _ gB5]; rfl); have r3 : w5.cell? ⟨wr.heap.size, 3, none⟩ = some (.slice k1a l1 k1c) := (by rw [cell_of_row _ _ _ _ _ _ g5]; rfl); have r4 : w5.cell? ⟨wr.heap.size, 4, none⟩ = some (.slice v1a l2 v1c) := (by rw [cell_of_row _ _ _ _ _ _ g5]; rfl); have g5s : (w5.setCell ⟨B, 6, none⟩ (.slice (some ⟨g', 0, none⟩) (n + 1) c')).heap[wr.heap.size]? = some (.cells #[.int .i64 0, .int .i64 oa, .int .i64 ob2, .slice k1a l1 k1c, .slice v1a l2 v1c, .slice h1a l3 h1c] 32 (0, 0)) := ((Upd.refl (fun k => k = B) w5).setCell ⟨B, 6, none⟩ (.slice (some ⟨g', 0, none⟩) (n + 1) c') (fun _ => rfl)).heap g5 HGNB.out; have s3 : (w5.setCell ⟨B, 6, none⟩ (.slice (some ⟨g', 0, none⟩) (n + 1) c')).cell? ⟨wr.heap.size, 3, none⟩ = some (.slice k1a l1 k1c) := (by rw [cell_of_row _ _ _ _ _ _ g5s]; rfl); have s4 : (w5.setCell ⟨B, 6, none⟩ (.slice (some ⟨g', 0, none⟩) (n + 1) c')).cell? ⟨wr.heap.size, 4, none⟩ = some (.slice v1a l2 v1c) := (by rw [cell_of_row _ _ _ _ _ _ g5s]; rfl); clear ho5 hg5 hor5 hgl5 g5 gB5 g5s)
        refine hK.out _ _ ?hS3 (fun hHeld => ?rest3)
        case hS3 => ((try dsimp only); go_keep)
        case rest3 =>
        clear hK K
        try simp only [Act.put, List.getElem_toArray, List.getElem_cons_zero, List.getElem_cons_succ, List.setIfInBounds_toArray, List.set_cons_zero, List.set_cons_succ]
        refine wpAnyH_take (i := 12) rfl (by kernel_rfl) (by kernel_rfl) (by kernel_rfl) (fun _ _ _ h => h) (.inl ⟨by rfl, by intro w h; (try dsimp only at h); go_simp; try with_reducible rfl⟩) (by assumption) ?_
        refine wpAnyH_take (i := 13) rfl (by kernel_rfl) (by kernel_rfl) (by kernel_rfl) (fun _ _ _ h => h) (.inl ⟨by rfl, by intro w h; (try dsimp only at h); go_simp; try with_reducible rfl⟩) (by assumption) ?_
        try simp only [Act.put, List.getElem_toArray, List.getElem_cons_zero, List.getElem_cons_succ, List.setIfInBounds_toArray, List.set_cons_zero, List.set_cons_succ]
        refine wpAnyH_ready (rs := [14]) (by kernel_rfl) (by simp) ?_
        refine AllReadyH.cons rfl (fun K hK => ?step4) ?more4
        case step4 =>
         go_simp
         refine hK.out _ _ ?hS4 (fun hHeld => ?rest4)
         case hS4 => ((try dsimp only); go_keep)
         case rest4 =>
         clear hK K
         try simp only [Act.put, List.getElem_toArray, List.getElem_cons_zero, List.getElem_cons_succ, List.setIfInBounds_toArray, List.set_cons_zero, List.set_cons_succ]
         refine wpAnyH_done (by kernel_rfl) ?_ _
         go_wp2_with fail
         have HN9 := HN
         go_roundw
         case rel => exact ⟨i + 1, n + 1, q, M, some ⟨g6, 0, none⟩, ma, some ⟨g', 0, none⟩, cap6, mc, c', by omega, rfl, rfl, by go_num, ⟨by have := HNI.out.1; omega, by have := HNI.out.2; omega, HN9.out⟩⟩
         case measure => simp [intOf]; omega
        case more4 =>
        exact AllReadyH.nil
       case more3 =>
       exact AllReadyH.nil
      case more2 =>
      exact AllReadyH.nil
     case more1 =>
     refine AllReadyH.cons rfl (fun K hK => ?step5) ?more5
     case step5 =>
      go_simp
      refine hK.out _ _ ?hS5 (fun hHeld => ?rest5)
      case hS5 => ((try dsimp only); go_keep)
      case rest5 =>
      clear hK K
      try simp only [Act.put, List.getElem_toArray, List.getElem_cons_zero, List.getElem_cons_succ, List.setIfInBounds_toArray, List.set_cons_zero, List.set_cons_succ]
      refine wpAnyH_ready (rs := [4]) (by kernel_rfl) (by simp) ?_
      refine AllReadyH.cons rfl (fun K hK => ?step6) ?more6
      case step6 =>
       go_simp
       refine hK.out _ _ ?hS6 (fun hHeld => ?rest6)
       case hS6 => ((try dsimp only); go_keep)
       case rest6 =>
       clear hK K
       try simp only [Act.put, List.getElem_toArray, List.getElem_cons_zero, List.getElem_cons_succ, List.setIfInBounds_toArray, List.set_cons_zero, List.set_cons_succ]
       refine wpAnyH_ready (rs := [11]) (by kernel_rfl) (by simp) ?_
       refine AllReadyH.cons rfl (fun K hK => ?step7) ?more7
       case step7 =>
        (refine step_append_lies _ rfl (.tmp 64) (.tmp 70) 40 rfl w.heap.size 46 i1 (.agg #[.pointer none, .pointer none, .slice none 0 0, .slice none 0 0]) 4 64 Tryz.underlying40 hi1 hy0 hy1 hy2 rfl (by decide) (.slice pa n pc) n ys (by simp [Act.eval]) HR5.out ⟨wd.heap.size, 0, none⟩ 1 1 [.pointer none, .pointer none, .slice k1a l1 k1c, .slice v1a l2 v1c] (by simp [Act.eval]) rfl (four_newU wd (.pointer none) (.pointer none) (.slice k1a l1 k1c) (.slice v1a l2 v1c) 46) (by intro u hu; simp at hu; rcases hu with rfl | rfl | rfl | rfl <;> rfl) (by decide) hn63 hn64 HWT.out _ rfl ?_; intro g' c' w5 ho5 hg5 hor5 hgl5; have HN := hide (HPU5.out g' c' w5 ho5 hg5 (hor5.imp id (fun e => by rw [e]; exact Nat.le_refl _))); have g5 : w5.heap[wr.heap.size]? = some (.cells #[.int .i64 0, .int .i64 oa, .int .i64 ob2, .slice k1a l1 k1c, .slice v1a l2 v1c, .slice h1a l3 h1c] 32 (0, 0)) := (hg5.block wr.heap.size (lt_of_block HGT.out) (fun e => by have := HLO.out.2 wr.heap.size e.symm; omega)).trans HGT.out; have gB5 := HBT.out.bcg hg5; have f5 := frozen_of gB5 6; have q5 : w5.cell? ⟨B, 6, none⟩ = some (.slice pa n pc) := (by rw [cell_of_row _ _ _ _ _ _ gB5]; rfl); have r3 : w5.cell? ⟨wr.heap.size, 3, none⟩ = some (.slice k1a l1 k1c) := (by rw [cell_of_row _ _ _ _ _ _ g5]; rfl); have r4 : w5.cell? ⟨wr.heap.size, 4, none⟩ = some (.slice v1a l2 v1c) := (by rw [cell_of_row _ _ _ _ _ _ g5]; rfl); have g5s : (w5.setCell ⟨B, 6, none⟩ (.slice (some ⟨g', 0, none⟩) (n + 1) c')).heap[wr.heap.size]? = some (.cells #[.int .i64 0, .int .i64 oa, .int .i64 ob2, .slice k1a l1 k1c, .slice v1a l2 v1c, .slice h1a l3 h1c] 32 (0, 0)) := ((Upd.refl (fun k => k = B) w5).setCell ⟨B, 6, none⟩ (.slice (some ⟨g', 0, none⟩) (n + 1) c') (fun _ => rfl)).heap g5 HGNB.out; have s3 : (w5.setCell ⟨B, 6, none⟩ (.slice (some ⟨g', 0, none⟩) (n + 1) c')).cell? ⟨wr.heap.size, 3, none⟩ = some (.slice k1a l1 k1c) := (by rw [cell_of_row _ _ _ _ _ _ g5s]; rfl); have s4 : (w5.setCell ⟨B, 6, none⟩ (.slice (some ⟨g', 0, none⟩) (n + 1) c')).cell? ⟨wr.heap.size, 4, none⟩ = some (.slice v1a l2 v1c) := (by rw [cell_of_row _ _ _ _ _ _ g5s]; rfl); clear ho5 hg5 hor5 hgl5 g5 gB5 g5s)
        refine hK.out _ _ ?hS7 (fun hHeld => ?rest7)
        case hS7 => ((try dsimp only); go_keep)
        case rest7 =>
        clear hK K
        try simp only [Act.put, List.getElem_toArray, List.getElem_cons_zero, List.getElem_cons_succ, List.setIfInBounds_toArray, List.set_cons_zero, List.set_cons_succ]
        refine wpAnyH_take (i := 12) rfl (by kernel_rfl) (by kernel_rfl) (by kernel_rfl) (fun _ _ _ h => h) (.inl ⟨by rfl, by intro w h; (try dsimp only at h); go_simp; try with_reducible rfl⟩) (by assumption) ?_
        refine wpAnyH_take (i := 13) rfl (by kernel_rfl) (by kernel_rfl) (by kernel_rfl) (fun _ _ _ h => h) (.inl ⟨by rfl, by intro w h; (try dsimp only at h); go_simp; try with_reducible rfl⟩) (by assumption) ?_
        try simp only [Act.put, List.getElem_toArray, List.getElem_cons_zero, List.getElem_cons_succ, List.setIfInBounds_toArray, List.set_cons_zero, List.set_cons_succ]
        refine wpAnyH_ready (rs := [14]) (by kernel_rfl) (by simp) ?_
        refine AllReadyH.cons rfl (fun K hK => ?step8) ?more8
        case step8 =>
         go_simp
         refine hK.out _ _ ?hS8 (fun hHeld => ?rest8)
         case hS8 => ((try dsimp only); go_keep)
         case rest8 =>
         clear hK K
         try simp only [Act.put, List.getElem_toArray, List.getElem_cons_zero, List.getElem_cons_succ, List.setIfInBounds_toArray, List.set_cons_zero, List.set_cons_succ]
         refine wpAnyH_done (by kernel_rfl) ?_ _
         go_wp2_with fail
         have HN9 := HN
         go_roundw
         case rel => exact ⟨i + 1, n + 1, q, M, some ⟨g6, 0, none⟩, ma, some ⟨g', 0, none⟩, cap6, mc, c', by omega, rfl, rfl, by go_num, ⟨by have := HNI.out.1; omega, by have := HNI.out.2; omega, HN9.out⟩⟩
         case measure => simp [intOf]; omega
        case more8 =>
        exact AllReadyH.nil
       case more7 =>
       exact AllReadyH.nil
      case more6 =>
      exact AllReadyH.nil
     case more5 =>
     exact AllReadyH.nil
   ·as_aux_lemma =>
     have jk : (kd == 0) = false := by rw [beq_eq_false_iff_ne]; exact hkd
     clear HNW
     by_cases hn0 : n = 0
     ·subst hn0
      have HN := hide HUB.out
      go_wp2_with fail
      go_roundw
      case rel => exact ⟨i + 1, 0, q, M, la, ma, pa, lc, mc, pc, by omega, rfl, rfl, by go_num, ⟨by omega, by have := HNI.out.2; omega, HN.out⟩⟩
      case measure => simp [intOf]; omega
     have jn : ¬ (n : Int) = 0 := by omega
     obtain ⟨kp, hkp⟩ : ∃ x, x = pickN oa n := ⟨_, rfl⟩
     have hkl : kp < n := by rw [hkp]; exact pickN_lt _ _ (by omega)
     have HPI : Hid (∀ Wc, Calls Tryz.prog 12 #[.int .i64 oa, .int .i64 (n : Nat)] Wc fun e w' => e = .returned (.int .i64 (kp : Nat)) ∧ w' = Wc) := fun Wc => by rw [hkp]; exact upick_any oa n Wc (by omega) (by have := HNI.out.1; have := HLS.out; omega) HOA.out.1.1 HOA.out.1.2
     obtain ⟨kb, hkb⟩ : ∃ x, x = pickN ob2 30 := ⟨_, rfl⟩
     have hkb30 : kb < 30 := by rw [hkb]; exact pickN_lt _ _ (by omega)
     have HPB : Hid (∀ Wc, Calls Tryz.prog 12 #[.int .i64 ob2, .int .i64 30] Wc fun e w' => e = .returned (.int .i64 (kb : Nat)) ∧ w' = Wc) := fun Wc => by rw [hkb]; exact upick_any ob2 30 Wc (by decide) (by decide) HOA.out.2.1 HOA.out.2.2
     have HUB0 := HUB
     clear hkp hkb HUB
     go_wp2_with fail
     refine keep (HPI.out _) ?_
     clear HPI b0 b1 b2 b3 b4 b5 b6 b7 x0 x1 x2 x3 x4 x5
     go_wp2_with fail
     obtain ⟨gl, hgl⟩ := HUB0.out.lrow (Nat.pos_of_ne_zero hn0)
     subst hgl
     go_loopw [8, 12] (fun q8 q12 wi => ∃ (j q2 M2 : Nat) (ma2 : Option Addr) (mc2 : Nat), j ≤ kb + 1 ∧ q8 = .slice ma2 q2 mc2 ∧ q12 = .int .i64 (j : Int) ∧ Hid (M2 ≤ 31 * i + j ∧ UVG w wi B PA A ⟨dn, dl, di, df, db⟩ (.slice (some ⟨gl, 0, none⟩) n lc) (.slice pa n pc) (.slice ma2 q2 mc2) n q2 M2 wr.heap.size (.cells #[.int .i64 kd, .int .i64 oa, .int .i64 ob2, .slice k1a l1 k1c, .slice v1a l2 v1c, .slice h1a l3 h1c] 32 (0, 0)))) (fun _ q12 _ => 31 - (intOf q12).toNat)
     case atStart => exact ⟨0, q, M, ma, mc, Nat.zero_le _, rfl, rfl, ⟨by have := HNI.out.2; omega, HG0.out⟩⟩
     case round =>
      clear HG0
      obtain ⟨j, q2, M2, ma2, mc2, hj, rfl, rfl, HJ⟩ := hrel
      rename World => wi
      have HMJ : Hid (M2 ≤ 31 * i + j) := HJ.out.1
      have HV := hide HJ.out.2
      clear HJ
      have gi := HV.out.blk
      have x2 : wi.cell? ⟨wr.heap.size, 2, none⟩ = some (.int .i64 ob2) := by rw [cell_of_row _ _ _ _ _ _ gi]; rfl
      clear gi
      by_cases hjk : j ≤ kb
      ·have jj : (j : Int) ≤ (kb : Int) := by omega
       have jk1 : (kp : Int) < (n : Int) := by omega
       have jk0 : (0 : Int) ≤ (kp : Int) := by omega
       obtain ⟨g0, pt, hg0, hrow, hstep⟩ := HV.out.step hkl (by have := HLS.out; have := HNI.out.2; have := HMJ.out; omega)
       cases hg0
       obtain ⟨gp, hgp⟩ := HV.out.uv.prow (Nat.pos_of_ne_zero hn0)
       subst hgp
       simp only [uptV] at hrow hstep
       have HST := hide hstep
       clear hstep
       go_wp2_with fail
       refine keep (HPB.out _) ?_
       go_wp2_with fail
       refine HST.out.mono ?_
       rintro e w3 ⟨thr, tk, er, xk, rfl, h3⟩
       have H3 := hide h3
       obtain ⟨g0, hg0, hrow3⟩ := h3.lrow
       cases hg0
       simp only [uptV] at hrow3
       have HAN := hide h3.answer
       simp only [uptV] at HAN
       clear h3 HST hrow x2
       go_wp2_with fail
       refine HAN.out.mono ?_
       rintro e w4 ⟨had, rfl, h4, hb4⟩
       have H4 : Hid (UV2 w w4 B PA A ⟨dn, dl, di, df, db⟩ (.slice (some ⟨gl, 0, none⟩) n lc) (.slice (some ⟨gp, 0, none⟩) n pc) (.slice ma2 q2 mc2) n q2 M2 wr.heap.size (.cells #[.int .i64 kd, .int .i64 oa, .int .i64 ob2, .slice k1a l1 k1c, .slice v1a l2 v1c, .slice h1a l3 h1c] 32 (0, 0)) kp pt xk tk er) := h4
       obtain ⟨_, _, g0, hg0, hk2, hk3⟩ := h4.putc
       cases hg0
       have b7 : w4.cell? ⟨B, 6, none⟩ = some (.slice (some ⟨gp, 0, none⟩) n pc) := (h4.wcs).2.2.2.2.2.2.2
       obtain ⟨⟨xa, xc, xs⟩, ⟨za, zc, zs⟩⟩ := xk
       obtain ⟨lx, hlx⟩ : ∃ x, xs.length = x := ⟨_, rfl⟩
       obtain ⟨lz, hlz⟩ : ∃ x, zs.length = x := ⟨_, rfl⟩
       simp only [Tx.v] at hk2 hk3
       rw [hlx] at hk2
       rw [hlz] at hk3
       have HLX : Hid (xs.length = lx ∧ zs.length = lz) := ⟨hlx, hlz⟩
       have HKY : Hid (∀ W, Calls Tryz.prog 15 #[.slice xa lx xc] W fun e w' => e = .returned (.bool (decide (1 ≤ lx ∧ lx ≤ 64))) ∧ w' = W) := fun W => rkey_any xa lx xc W
       have HVY : Hid (∀ W, Calls Tryz.prog 16 #[.slice za lz zc] W fun e w' => e = .returned (.bool (decide (lz ≤ 256))) ∧ w' = W) := fun W => rvalue_any za lz zc W
       clear h4 hb4 HAN hrow3 hlx hlz H3
       obtain ⟨good, hgood⟩ : ∃ b, decide (1 ≤ lx ∧ lx ≤ 64) = b := ⟨_, rfl⟩
       obtain ⟨fine, hfine⟩ : ∃ b, decide (lz ≤ 256) = b := ⟨_, rfl⟩
       rw [hgood] at HKY
       rw [hfine] at HVY
       have HGF : Hid (decide (1 ≤ lx ∧ lx ≤ 64) = good ∧ decide (lz ≤ 256) = fine) := ⟨hgood, hfine⟩
       clear hgood hfine
       go_wp2_with fail
       refine keep (HKY.out _) ?_
       clear HKY
       go_wp2_with fail
       refine keep (HVY.out _) ?_
       clear HVY
       obtain ⟨bt, hbt⟩ : ∃ b, decide (tk = true ∧ er = 0) = b := ⟨_, rfl⟩
       have HBT := hide hbt
       go_upto_region 23 with fail
       go_cut [127] (fun qb wq => qb = .bool bt ∧ wq = w4)
       case first =>
        have hb2 := HBT.out
        cases tk with
        | false =>
         have hb3 : bt = false := by rw [← hb2]; simp
         clear hb2
         go_wp2_with fail
         go_meet
         exact ⟨by rw [hb3], rfl⟩
        | true =>
         by_cases her : er = 0
         ·subst her
          have hb3 : bt = true := by rw [← hb2]; simp
          clear hb2
          go_wp2_with fail
          go_meet
          exact ⟨by rw [hb3], rfl⟩
         ·have hb3 : bt = false := by rw [← hb2]; simp [her]
          have her2 : (er == 0) = false := by rw [beq_eq_false_iff_ne]; exact her
          clear hb2
          go_wp2_with fail
          go_meet
          exact ⟨by rw [hb3], rfl⟩
       case rest =>
       rename World => wq
       obtain ⟨rfl, hwq⟩ := hcut
       rw [hwq]
       clear hwq
       go_upto_if 127 with fail
       go_cut [8] (fun qm wv => ∃ (a : Option Addr) (l d : Nat), qm = .slice a l d ∧ Hid (UVG w wv B PA A ⟨dn, dl, di, df, db⟩ (.slice (some ⟨gl, 0, none⟩) n lc) (.slice (some ⟨gp, 0, none⟩) n pc) (.slice a l d) n l (M2 + 1) wr.heap.size (.cells #[.int .i64 kd, .int .i64 oa, .int .i64 ob2, .slice k1a l1 k1c, .slice v1a l2 v1c, .slice h1a l3 h1c] 32 (0, 0))))
       case first =>
        cases bt with
        | false =>
         have ht : ¬ (tk = true ∧ er = 0) := of_decide_eq_false HBT.out
         have HV5 := hide (H4.out.same ht)
         clear ht HGF b7 hk2 hk3
         go_wp2_with fail
         go_meet
         exact ⟨ma2, q2, mc2, rfl, HV5⟩
        | true =>
         obtain ⟨rfl, rfl⟩ : tk = true ∧ er = 0 := of_decide_eq_true HBT.out
         obtain ⟨hgs, hset⟩ := H4.out.set (by have := HLS.out; have := HNI.out.2; have := HMJ.out; omega)
         simp only at hgs
         have hg1 : good = true := by rw [← HGF.out.1]; exact decide_eq_true ⟨by have := HLX.out.1; omega, by have := HLX.out.1; omega⟩
         have hg2 : fine = true := by rw [← HGF.out.2]; exact decide_eq_true (by have := HLX.out.2; omega)
         subst hg1 hg2
         have HSE : Hid (∀ Y, Below w4.heap.size w4 Y → Calls Tryz.prog 17 #[(.slice ma2 q2 mc2), .slice xa lx xc, .slice za lz zc] Y fun e w' => ∃ a l d, e = .returned (.slice a l d) ∧ UVG w w' B PA A ⟨dn, dl, di, df, db⟩ (.slice (some ⟨gl, 0, none⟩) n lc) (.slice (some ⟨gp, 0, none⟩) n pc) (.slice a l d) n l (M2 + 1) wr.heap.size (.cells #[.int .i64 kd, .int .i64 oa, .int .i64 ob2, .slice k1a l1 k1c, .slice v1a l2 v1c, .slice h1a l3 h1c] 32 (0, 0)) ∧ Below w4.heap.size w4 w') := fun Y hY => by
          obtain ⟨_, hset⟩ := (H4.out.below hY).set (by have := HLS.out; have := HNI.out.2; have := HMJ.out; omega)
          simp only [Tx.v] at hset
          rw [HLX.out.1, HLX.out.2] at hset
          exact hset.mono fun e w' ⟨a, l, d, h1, h2, h3⟩ => ⟨a, l, d, h1, h2, hY.trans (h3.mono hY.size)⟩
         have hlB : B < w4.heap.size := World.block_lt_of_cell? w4 _ b7
         have hlG : gp < w4.heap.size := World.block_lt_of_cell? w4 _ hk2
         clear hset hgs HGF H4
         go_wp2_with fail
         go_region_held3 (fun W' => W'.cell? ⟨B, 6, none⟩ = some (.slice (some ⟨gp, 0, none⟩) n pc) ∧ W'.cell? ⟨gp, kp * 4 + 2, none⟩ = some (.slice xa lx xc) ∧ W'.cell? ⟨gp, kp * 4 + 3, none⟩ = some (.slice za lz zc)) (go_keep) (first
          | (go_at_call 17; refine (HSE.out _ (below_drew (Below.refl _ _))).mono ?_; rintro e w5 ⟨sa, sl, sd, rfl, hv5, hb5⟩; have HV5 := hide hv5; have s7 := (hb5.cell (p := ⟨B, 6, none⟩) hlB).trans b7; have s2 := (hb5.cell (p := ⟨gp, kp * 4 + 2, none⟩) hlG).trans hk2; have s3 := (hb5.cell (p := ⟨gp, kp * 4 + 3, none⟩) hlG).trans hk3; clear hv5 hb5)
          | fail)
         all_goals (try go_wp2_with fail)
         all_goals
          go_meet
          exact ⟨sa, sl, sd, rfl, HV5⟩
       case rest =>
       rename World => wv
       obtain ⟨ma3, q3, mc3, rfl, HV5⟩ := hcut
       clear HGF HBT H4 b7 hk2 hk3
       obtain ⟨hs, hheld, hnil⟩ := HV5.out.uv.ends (by have := HLS.out; have := HNI.out.2; have := HMJ.out; omega)
       obtain ⟨lh, hlh⟩ : ∃ x, hs.length = x := ⟨_, rfl⟩
       have HHE : Hid (∀ Y, Below wv.heap.size wv Y → Calls Tryz.prog 18 #[.pointer (some ⟨A, 0, none⟩)] Y fun e w' => ∃ va vc, e = .returned (.slice va lh vc) ∧ Below wv.heap.size wv w') := fun Y hY => by rw [← hlh]; exact hheld Y hY
       have b0 : wv.cell? ⟨B, 0, none⟩ = some (.pointer (some ⟨PA, 0, none⟩)) := (HV5.out.uv.wcs).1
       have b1 : wv.cell? ⟨PA, 0, none⟩ = some (.pointer (some ⟨A, 0, none⟩)) := (HV5.out.uv.wcs).2.1
       have b2 : wv.cell? ⟨B, 1, none⟩ = some (.int .i64 dn) := (HV5.out.uv.wcs).2.2.1
       have b3 : wv.cell? ⟨B, 2, none⟩ = some (.int .i64 dl) := (HV5.out.uv.wcs).2.2.2.1
       have b4 : wv.cell? ⟨B, 3, none⟩ = some (.int .i64 di) := (HV5.out.uv.wcs).2.2.2.2.1
       have b5 : wv.cell? ⟨B, 4, none⟩ = some (.int .i64 df) := (HV5.out.uv.wcs).2.2.2.2.2.1
       have b6 : wv.cell? ⟨B, 5, none⟩ = some (.int .i64 db) := (HV5.out.uv.wcs).2.2.2.2.2.2.1
       by_cases hz : lh = 0
       ·subst hz
        have HLK := hnil (List.length_eq_zero_iff.1 hlh)
        have HCK : Hid (∀ Y, Below wv.heap.size wv Y → Calls Tryz.prog 19 #[.pointer (some ⟨A, 0, none⟩), .agg #[.int .i64 dn, .int .i64 dl, .int .i64 di, .int .i64 df, .int .i64 db]] Y fun e w' => (∃ id er lv no en, e = .returned (.agg #[.bool true, .int .i64 id, .int .i64 er, .int .i64 lv, .int .i64 no, .int .i64 en])) ∧ Below wv.heap.size wv w') := fun Y hY => (HLK Y hY).1.mono fun e w' h => ⟨h.1, hY.trans (h.2.mono hY.size)⟩
        have HMP : Hid (∀ Y, Below wv.heap.size wv Y → Calls Tryz.prog 21 #[.pointer (some ⟨A, 0, none⟩)] Y fun e w' => ∃ a l d, e = .returned (.slice a l d) ∧ Below wv.heap.size wv w' ∧ ∀ Z, Below w'.heap.size w' Z → Calls Tryz.prog 20 #[.slice a l d, .slice ma3 q3 mc3] Z fun e z => e = .returned (.bool true) ∧ Below Z.heap.size Z z) := fun Y hY => (HLK Y hY).2.mono fun e w' h => by
         obtain ⟨a, l, d, h1, h2, h3⟩ := h
         exact ⟨a, l, d, h1, hY.trans (h2.mono hY.size), h3⟩
        have FLD : ∀ (b : Bool) (i e l n m : Int) (Y : World), (Instr.field 58 (.agg #[.bool b, .int .i64 i, .int .i64 e, .int .i64 l, .int .i64 n, .int .i64 m]) 0).run Tryz.prog Y = .ok (.bool b) Y := fun b i e l n m Y => by kernel_rfl
        clear hheld hnil hlh HLK
        go_wp2_with fail
        go_region_held3 (fun W' => W'.cell? ⟨B, 0, none⟩ = some (.pointer (some ⟨PA, 0, none⟩)) ∧ W'.cell? ⟨PA, 0, none⟩ = some (.pointer (some ⟨A, 0, none⟩)) ∧ W'.cell? ⟨B, 1, none⟩ = some (.int .i64 dn) ∧ W'.cell? ⟨B, 2, none⟩ = some (.int .i64 dl) ∧ W'.cell? ⟨B, 3, none⟩ = some (.int .i64 di) ∧ W'.cell? ⟨B, 4, none⟩ = some (.int .i64 df) ∧ W'.cell? ⟨B, 5, none⟩ = some (.int .i64 db)) (go_keep) (first
         | (go_at_call 18; refine (HHE.out _ (below_drew (Below.refl _ _))).mono ?_; rintro e w6 ⟨va, vc, rfl, hb6⟩; have B6 := hide hb6; have c0 : w6.cell? ⟨B, 0, none⟩ = some (.pointer (some ⟨PA, 0, none⟩)) := ((HV5.out.below hb6).uv.wcs).1; have c1 : w6.cell? ⟨PA, 0, none⟩ = some (.pointer (some ⟨A, 0, none⟩)) := ((HV5.out.below hb6).uv.wcs).2.1; have c2 : w6.cell? ⟨B, 1, none⟩ = some (.int .i64 dn) := ((HV5.out.below hb6).uv.wcs).2.2.1; have c3 : w6.cell? ⟨B, 2, none⟩ = some (.int .i64 dl) := ((HV5.out.below hb6).uv.wcs).2.2.2.1; have c4 : w6.cell? ⟨B, 3, none⟩ = some (.int .i64 di) := ((HV5.out.below hb6).uv.wcs).2.2.2.2.1; have c5 : w6.cell? ⟨B, 4, none⟩ = some (.int .i64 df) := ((HV5.out.below hb6).uv.wcs).2.2.2.2.2.1; have c6 : w6.cell? ⟨B, 5, none⟩ = some (.int .i64 db) := ((HV5.out.below hb6).uv.wcs).2.2.2.2.2.2.1; clear hb6)
         | (go_at_call 19; refine (HCK.out _ B6.out).mono ?_; rintro e w7 ⟨⟨id7, er7, lv7, no7, en7, rfl⟩, hb7⟩; have B7 := hide hb7; have d0 : w7.cell? ⟨B, 0, none⟩ = some (.pointer (some ⟨PA, 0, none⟩)) := ((HV5.out.below hb7).uv.wcs).1; have d1 : w7.cell? ⟨PA, 0, none⟩ = some (.pointer (some ⟨A, 0, none⟩)) := ((HV5.out.below hb7).uv.wcs).2.1; have d2 : w7.cell? ⟨B, 1, none⟩ = some (.int .i64 dn) := ((HV5.out.below hb7).uv.wcs).2.2.1; have d3 : w7.cell? ⟨B, 2, none⟩ = some (.int .i64 dl) := ((HV5.out.below hb7).uv.wcs).2.2.2.1; have d4 : w7.cell? ⟨B, 3, none⟩ = some (.int .i64 di) := ((HV5.out.below hb7).uv.wcs).2.2.2.2.1; have d5 : w7.cell? ⟨B, 4, none⟩ = some (.int .i64 df) := ((HV5.out.below hb7).uv.wcs).2.2.2.2.2.1; have d6 : w7.cell? ⟨B, 5, none⟩ = some (.int .i64 db) := ((HV5.out.below hb7).uv.wcs).2.2.2.2.2.2.1; clear hb7)
         | (go_at_call 21; refine (HMP.out _ B7.out).mono ?_; rintro e w8 ⟨a8, l8, d8, rfl, hb8, hse⟩; have B8 := hide hb8; have HSM := hide hse; have f0 : w8.cell? ⟨B, 0, none⟩ = some (.pointer (some ⟨PA, 0, none⟩)) := ((HV5.out.below hb8).uv.wcs).1; have f1 : w8.cell? ⟨PA, 0, none⟩ = some (.pointer (some ⟨A, 0, none⟩)) := ((HV5.out.below hb8).uv.wcs).2.1; have f2 : w8.cell? ⟨B, 1, none⟩ = some (.int .i64 dn) := ((HV5.out.below hb8).uv.wcs).2.2.1; have f3 : w8.cell? ⟨B, 2, none⟩ = some (.int .i64 dl) := ((HV5.out.below hb8).uv.wcs).2.2.2.1; have f4 : w8.cell? ⟨B, 3, none⟩ = some (.int .i64 di) := ((HV5.out.below hb8).uv.wcs).2.2.2.2.1; have f5 : w8.cell? ⟨B, 4, none⟩ = some (.int .i64 df) := ((HV5.out.below hb8).uv.wcs).2.2.2.2.2.1; have f6 : w8.cell? ⟨B, 5, none⟩ = some (.int .i64 db) := ((HV5.out.below hb8).uv.wcs).2.2.2.2.2.2.1; clear hb8 hse)
         | (go_at_call 20; refine (HSM.out _ (Below.refl _ _)).mono ?_; rintro e w9 ⟨rfl, hb9⟩; have B9 := hide (B8.out.trans (hb9.mono B8.out.size)); have g0 : w9.cell? ⟨B, 0, none⟩ = some (.pointer (some ⟨PA, 0, none⟩)) := ((HV5.out.below B9.out).uv.wcs).1; have g1 : w9.cell? ⟨PA, 0, none⟩ = some (.pointer (some ⟨A, 0, none⟩)) := ((HV5.out.below B9.out).uv.wcs).2.1; have g2 : w9.cell? ⟨B, 1, none⟩ = some (.int .i64 dn) := ((HV5.out.below B9.out).uv.wcs).2.2.1; have g3 : w9.cell? ⟨B, 2, none⟩ = some (.int .i64 dl) := ((HV5.out.below B9.out).uv.wcs).2.2.2.1; have g4 : w9.cell? ⟨B, 3, none⟩ = some (.int .i64 di) := ((HV5.out.below B9.out).uv.wcs).2.2.2.2.1; have g5 : w9.cell? ⟨B, 4, none⟩ = some (.int .i64 df) := ((HV5.out.below B9.out).uv.wcs).2.2.2.2.2.1; have g6 : w9.cell? ⟨B, 5, none⟩ = some (.int .i64 db) := ((HV5.out.below B9.out).uv.wcs).2.2.2.2.2.2.1; clear hb9)
         | fail)
        all_goals (try go_wp2_with fail)
        all_goals
         have HN := hide (HV5.out.below B9.out)
         go_roundw
         case rel => exact ⟨j + 1, q3, M2 + 1, ma3, mc3, by omega, rfl, by go_num, ⟨by have := HMJ.out; omega, HN.out⟩⟩
         case measure => simp [intOf]; omega
       ·have jz : ((lh : Int) == 0) = false := by rw [beq_eq_false_iff_ne]; omega
        have jz2 : ¬ (lh : Int) = 0 := by omega
        have jz3 : decide ((lh : Int) = 0) = false := decide_eq_false jz2
        clear hheld hnil hlh
        go_wp2_with fail
        refine wp_region_held_drew (S := (fun W' => W'.cell? ⟨B, 0, none⟩ = some (.pointer (some ⟨PA, 0, none⟩)) ∧ W'.cell? ⟨PA, 0, none⟩ = some (.pointer (some ⟨A, 0, none⟩)) ∧ W'.cell? ⟨B, 1, none⟩ = some (.int .i64 dn) ∧ W'.cell? ⟨B, 2, none⟩ = some (.int .i64 dl) ∧ W'.cell? ⟨B, 3, none⟩ = some (.int .i64 di) ∧ W'.cell? ⟨B, 4, none⟩ = some (.int .i64 df) ∧ W'.cell? ⟨B, 5, none⟩ = some (.int .i64 db))) (by kernel_rfl) ?hSz (fun hHeld => ?restz)
        case hSz => ((try dsimp only); go_keep)
        case restz =>
        refine wpAnyH_take (i := 0) rfl (by kernel_rfl) (by kernel_rfl) (by kernel_rfl) (fun _ _ _ h => h) (.inl ⟨by rfl, by intro w h; (try dsimp only at h); go_simp; try with_reducible rfl⟩) (by assumption) ?_
        try simp only [Act.put, List.getElem_toArray, List.getElem_cons_zero, List.getElem_cons_succ, List.setIfInBounds_toArray, List.set_cons_zero, List.set_cons_succ]
        refine wpAnyH_take (i := 1) rfl (by kernel_rfl) (by kernel_rfl) (by kernel_rfl) (fun _ _ _ h => h) (.inl ⟨by rfl, by intro w h; (try dsimp only at h); go_simp; try with_reducible rfl⟩) (by assumption) ?_
        try simp only [Act.put, List.getElem_toArray, List.getElem_cons_zero, List.getElem_cons_succ, List.setIfInBounds_toArray, List.set_cons_zero, List.set_cons_succ]
        refine wpAnyH_take (i := 2) rfl (by kernel_rfl) (by kernel_rfl) (by kernel_rfl) (fun _ _ _ h => h) (.inl ⟨by rfl, by intro w h; (try dsimp only at h); go_simp; try with_reducible rfl⟩) (by assumption) ?_
        try simp only [Act.put, List.getElem_toArray, List.getElem_cons_zero, List.getElem_cons_succ, List.setIfInBounds_toArray, List.set_cons_zero, List.set_cons_succ]
        refine wpAnyH_take (i := 3) rfl (by kernel_rfl) (by kernel_rfl) (by kernel_rfl) (fun _ _ _ h => h) (.inl ⟨by rfl, by intro w h; (try dsimp only at h); go_simp; try with_reducible rfl⟩) (by assumption) ?_
        try simp only [Act.put, List.getElem_toArray, List.getElem_cons_zero, List.getElem_cons_succ, List.setIfInBounds_toArray, List.set_cons_zero, List.set_cons_succ]
        refine wpAnyH_take (i := 4) rfl (by kernel_rfl) (by kernel_rfl) (by kernel_rfl) (fun _ _ _ h => h) (.inl ⟨by rfl, by intro w h; (try dsimp only at h); go_simp; try with_reducible rfl⟩) (by assumption) ?_
        try simp only [Act.put, List.getElem_toArray, List.getElem_cons_zero, List.getElem_cons_succ, List.setIfInBounds_toArray, List.set_cons_zero, List.set_cons_succ]
        refine wpAnyH_take (i := 5) rfl (by kernel_rfl) (by kernel_rfl) (by kernel_rfl) (fun _ _ _ h => h) (.inl ⟨by rfl, by intro w h; (try dsimp only at h); go_simp; try with_reducible rfl⟩) (by assumption) ?_
        try simp only [Act.put, List.getElem_toArray, List.getElem_cons_zero, List.getElem_cons_succ, List.setIfInBounds_toArray, List.set_cons_zero, List.set_cons_succ]
        refine wpAnyH_take (i := 6) rfl (by kernel_rfl) (by kernel_rfl) (by kernel_rfl) (fun _ _ _ h => h) (.inl ⟨by rfl, by intro w h; (try dsimp only at h); go_simp; try with_reducible rfl⟩) (by assumption) ?_
        try simp only [Act.put, List.getElem_toArray, List.getElem_cons_zero, List.getElem_cons_succ, List.setIfInBounds_toArray, List.set_cons_zero, List.set_cons_succ]
        refine wpAnyH_ready (rs := [7]) (by kernel_rfl) (by simp) ?_
        refine AllReadyH.cons rfl (fun K hK => ?stepz) ?morez
        case stepz =>
         go_simp
         refine (HHE.out _ (below_drew (Below.refl _ _))).mono ?_
         rintro e w6 ⟨va, vc, rfl, hb6⟩
         have B6 := hide hb6
         have c0 : w6.cell? ⟨B, 0, none⟩ = some (.pointer (some ⟨PA, 0, none⟩)) := ((HV5.out.below hb6).uv.wcs).1; have c1 : w6.cell? ⟨PA, 0, none⟩ = some (.pointer (some ⟨A, 0, none⟩)) := ((HV5.out.below hb6).uv.wcs).2.1; have c2 : w6.cell? ⟨B, 1, none⟩ = some (.int .i64 dn) := ((HV5.out.below hb6).uv.wcs).2.2.1; have c3 : w6.cell? ⟨B, 2, none⟩ = some (.int .i64 dl) := ((HV5.out.below hb6).uv.wcs).2.2.2.1; have c4 : w6.cell? ⟨B, 3, none⟩ = some (.int .i64 di) := ((HV5.out.below hb6).uv.wcs).2.2.2.2.1; have c5 : w6.cell? ⟨B, 4, none⟩ = some (.int .i64 df) := ((HV5.out.below hb6).uv.wcs).2.2.2.2.2.1; have c6 : w6.cell? ⟨B, 5, none⟩ = some (.int .i64 db) := ((HV5.out.below hb6).uv.wcs).2.2.2.2.2.2.1
         clear hb6
         go_wp2_with fail
         refine hK.out _ _ ?hSy (fun hHeld => ?resty)
         case hSy => ((try dsimp only); go_keep)
         case resty =>
         clear hK K
         try simp only [Act.put, List.getElem_toArray, List.getElem_cons_zero, List.getElem_cons_succ, List.setIfInBounds_toArray, List.set_cons_zero, List.set_cons_succ]
         refine wpAnyH_take (i := 8) rfl (by kernel_rfl) (by kernel_rfl) (by kernel_rfl) (fun _ _ _ h => h) (.inl ⟨by rfl, by intro w h; (try dsimp only at h); go_simp; try with_reducible rfl⟩) (by assumption) ?_
         try simp only [Act.put, List.getElem_toArray, List.getElem_cons_zero, List.getElem_cons_succ, List.setIfInBounds_toArray, List.set_cons_zero, List.set_cons_succ]
         refine wpAnyH_take (i := 9) rfl (by kernel_rfl) (by kernel_rfl) (by kernel_rfl) (fun _ _ _ h => h) (.inl ⟨by rfl, by intro w h; (try dsimp only at h); go_simp; try with_reducible rfl⟩) (by assumption) ?_
         try simp only [Act.put, List.getElem_toArray, List.getElem_cons_zero, List.getElem_cons_succ, List.setIfInBounds_toArray, List.set_cons_zero, List.set_cons_succ]
         refine wpAnyH_take (i := 10) rfl (by kernel_rfl) (by kernel_rfl) (by kernel_rfl) (fun _ _ _ h => h) (.inl ⟨by rfl, by intro w h; (try dsimp only at h); go_simp; try with_reducible rfl⟩) (by assumption) ?_
         try simp only [Act.put, List.getElem_toArray, List.getElem_cons_zero, List.getElem_cons_succ, List.setIfInBounds_toArray, List.set_cons_zero, List.set_cons_succ]
         refine wpAnyH_take (i := 11) (v := undef) rfl (by kernel_rfl) (by kernel_rfl) (by kernel_rfl) (fun _ _ _ h => h) (.inr ⟨by rfl, rfl⟩) (by assumption) ?_
         try simp only [Act.put, List.getElem_toArray, List.getElem_cons_zero, List.getElem_cons_succ, List.setIfInBounds_toArray, List.set_cons_zero, List.set_cons_succ]
         refine wpAnyH_take (i := 12) (v := undef) rfl (by kernel_rfl) (by kernel_rfl) (by kernel_rfl) (fun _ _ _ h => h) (.inr ⟨by rfl, rfl⟩) (by assumption) ?_
         try simp only [Act.put, List.getElem_toArray, List.getElem_cons_zero, List.getElem_cons_succ, List.setIfInBounds_toArray, List.set_cons_zero, List.set_cons_succ]
         refine wpAnyH_take (i := 13) (v := undef) rfl (by kernel_rfl) (by kernel_rfl) (by kernel_rfl) (fun _ _ _ h => h) (.inr ⟨by rfl, rfl⟩) (by assumption) ?_
         try simp only [Act.put, List.getElem_toArray, List.getElem_cons_zero, List.getElem_cons_succ, List.setIfInBounds_toArray, List.set_cons_zero, List.set_cons_succ]
         refine wpAnyH_take (i := 14) (v := undef) rfl (by kernel_rfl) (by kernel_rfl) (by kernel_rfl) (fun _ _ _ h => h) (.inr ⟨by rfl, rfl⟩) (by assumption) ?_
         try simp only [Act.put, List.getElem_toArray, List.getElem_cons_zero, List.getElem_cons_succ, List.setIfInBounds_toArray, List.set_cons_zero, List.set_cons_succ]
         refine wpAnyH_take (i := 15) (v := undef) rfl (by kernel_rfl) (by kernel_rfl) (by kernel_rfl) (fun _ _ _ h => h) (.inr ⟨by rfl, rfl⟩) (by assumption) ?_
         try simp only [Act.put, List.getElem_toArray, List.getElem_cons_zero, List.getElem_cons_succ, List.setIfInBounds_toArray, List.set_cons_zero, List.set_cons_succ]
         refine wpAnyH_take (i := 16) (v := undef) rfl (by kernel_rfl) (by kernel_rfl) (by kernel_rfl) (fun _ _ _ h => h) (.inr ⟨by rfl, rfl⟩) (by assumption) ?_
         try simp only [Act.put, List.getElem_toArray, List.getElem_cons_zero, List.getElem_cons_succ, List.setIfInBounds_toArray, List.set_cons_zero, List.set_cons_succ]
         refine wpAnyH_take (i := 17) (v := undef) rfl (by kernel_rfl) (by kernel_rfl) (by kernel_rfl) (fun _ _ _ h => h) (.inr ⟨by rfl, rfl⟩) (by assumption) ?_
         try simp only [Act.put, List.getElem_toArray, List.getElem_cons_zero, List.getElem_cons_succ, List.setIfInBounds_toArray, List.set_cons_zero, List.set_cons_succ]
         refine wpAnyH_take (i := 18) (v := undef) rfl (by kernel_rfl) (by kernel_rfl) (by kernel_rfl) (fun _ _ _ h => h) (.inr ⟨by rfl, rfl⟩) (by assumption) ?_
         try simp only [Act.put, List.getElem_toArray, List.getElem_cons_zero, List.getElem_cons_succ, List.setIfInBounds_toArray, List.set_cons_zero, List.set_cons_succ]
         refine wpAnyH_take (i := 19) (v := undef) rfl (by kernel_rfl) (by kernel_rfl) (by kernel_rfl) (fun _ _ _ h => h) (.inr ⟨by rfl, rfl⟩) (by assumption) ?_
         try simp only [Act.put, List.getElem_toArray, List.getElem_cons_zero, List.getElem_cons_succ, List.setIfInBounds_toArray, List.set_cons_zero, List.set_cons_succ]
         refine wpAnyH_take (i := 20) (v := undef) rfl (by kernel_rfl) (by kernel_rfl) (by kernel_rfl) (fun _ _ _ h => h) (.inr ⟨by rfl, rfl⟩) (by assumption) ?_
         try simp only [Act.put, List.getElem_toArray, List.getElem_cons_zero, List.getElem_cons_succ, List.setIfInBounds_toArray, List.set_cons_zero, List.set_cons_succ]
         refine wpAnyH_take (i := 21) (v := undef) rfl (by kernel_rfl) (by kernel_rfl) (by kernel_rfl) (fun _ _ _ h => h) (.inr ⟨by rfl, rfl⟩) (by assumption) ?_
         try simp only [Act.put, List.getElem_toArray, List.getElem_cons_zero, List.getElem_cons_succ, List.setIfInBounds_toArray, List.set_cons_zero, List.set_cons_succ]
         refine wpAnyH_take (i := 22) (v := undef) rfl (by kernel_rfl) (by kernel_rfl) (by kernel_rfl) (fun _ _ _ h => h) (.inr ⟨by rfl, rfl⟩) (by assumption) ?_
         try simp only [Act.put, List.getElem_toArray, List.getElem_cons_zero, List.getElem_cons_succ, List.setIfInBounds_toArray, List.set_cons_zero, List.set_cons_succ]
         refine wpAnyH_take (i := 23) (v := undef) rfl (by kernel_rfl) (by kernel_rfl) (by kernel_rfl) (fun _ _ _ h => h) (.inr ⟨by rfl, rfl⟩) (by assumption) ?_
         try simp only [Act.put, List.getElem_toArray, List.getElem_cons_zero, List.getElem_cons_succ, List.setIfInBounds_toArray, List.set_cons_zero, List.set_cons_succ]
         refine wpAnyH_take (i := 24) (v := undef) rfl (by kernel_rfl) (by kernel_rfl) (by kernel_rfl) (fun _ _ _ h => h) (.inr ⟨by rfl, rfl⟩) (by assumption) ?_
         try simp only [Act.put, List.getElem_toArray, List.getElem_cons_zero, List.getElem_cons_succ, List.setIfInBounds_toArray, List.set_cons_zero, List.set_cons_succ]
         refine wpAnyH_take (i := 25) (v := undef) rfl (by kernel_rfl) (by kernel_rfl) (by kernel_rfl) (fun _ _ _ h => h) (.inr ⟨by rfl, rfl⟩) (by assumption) ?_
         try simp only [Act.put, List.getElem_toArray, List.getElem_cons_zero, List.getElem_cons_succ, List.setIfInBounds_toArray, List.set_cons_zero, List.set_cons_succ]
         refine wpAnyH_take (i := 26) (v := undef) rfl (by kernel_rfl) (by kernel_rfl) (by kernel_rfl) (fun _ _ _ h => h) (.inr ⟨by rfl, rfl⟩) (by assumption) ?_
         try simp only [Act.put, List.getElem_toArray, List.getElem_cons_zero, List.getElem_cons_succ, List.setIfInBounds_toArray, List.set_cons_zero, List.set_cons_succ]
         refine wpAnyH_take (i := 27) (v := undef) rfl (by kernel_rfl) (by kernel_rfl) (by kernel_rfl) (fun _ _ _ h => h) (.inr ⟨by rfl, rfl⟩) (by assumption) ?_
         try simp only [Act.put, List.getElem_toArray, List.getElem_cons_zero, List.getElem_cons_succ, List.setIfInBounds_toArray, List.set_cons_zero, List.set_cons_succ]
         refine wpAnyH_take (i := 28) (v := undef) rfl (by kernel_rfl) (by kernel_rfl) (by kernel_rfl) (fun _ _ _ h => h) (.inr ⟨by rfl, rfl⟩) (by assumption) ?_
         try simp only [Act.put, List.getElem_toArray, List.getElem_cons_zero, List.getElem_cons_succ, List.setIfInBounds_toArray, List.set_cons_zero, List.set_cons_succ]
         refine wpAnyH_take (i := 29) (v := undef) rfl (by kernel_rfl) (by kernel_rfl) (by kernel_rfl) (fun _ _ _ h => h) (.inr ⟨by rfl, rfl⟩) (by assumption) ?_
         try simp only [Act.put, List.getElem_toArray, List.getElem_cons_zero, List.getElem_cons_succ, List.setIfInBounds_toArray, List.set_cons_zero, List.set_cons_succ]
         refine wpAnyH_take (i := 30) (v := undef) rfl (by kernel_rfl) (by kernel_rfl) (by kernel_rfl) (fun _ _ _ h => h) (.inr ⟨by rfl, rfl⟩) (by assumption) ?_
         try simp only [Act.put, List.getElem_toArray, List.getElem_cons_zero, List.getElem_cons_succ, List.setIfInBounds_toArray, List.set_cons_zero, List.set_cons_succ]
         refine wpAnyH_take (i := 31) (v := undef) rfl (by kernel_rfl) (by kernel_rfl) (by kernel_rfl) (fun _ _ _ h => h) (.inr ⟨by rfl, rfl⟩) (by assumption) ?_
         try simp only [Act.put, List.getElem_toArray, List.getElem_cons_zero, List.getElem_cons_succ, List.setIfInBounds_toArray, List.set_cons_zero, List.set_cons_succ]
         refine wpAnyH_take (i := 32) (v := undef) rfl (by kernel_rfl) (by kernel_rfl) (by kernel_rfl) (fun _ _ _ h => h) (.inr ⟨by rfl, rfl⟩) (by assumption) ?_
         try simp only [Act.put, List.getElem_toArray, List.getElem_cons_zero, List.getElem_cons_succ, List.setIfInBounds_toArray, List.set_cons_zero, List.set_cons_succ]
         refine wpAnyH_take (i := 33) (v := undef) rfl (by kernel_rfl) (by kernel_rfl) (by kernel_rfl) (fun _ _ _ h => h) (.inr ⟨by rfl, rfl⟩) (by assumption) ?_
         try simp only [Act.put, List.getElem_toArray, List.getElem_cons_zero, List.getElem_cons_succ, List.setIfInBounds_toArray, List.set_cons_zero, List.set_cons_succ]
         refine wpAnyH_take (i := 34) (v := undef) rfl (by kernel_rfl) (by kernel_rfl) (by kernel_rfl) (fun _ _ _ h => h) (.inr ⟨by rfl, rfl⟩) (by assumption) ?_
         try simp only [Act.put, List.getElem_toArray, List.getElem_cons_zero, List.getElem_cons_succ, List.setIfInBounds_toArray, List.set_cons_zero, List.set_cons_succ]
         refine wpAnyH_take (i := 35) (v := undef) rfl (by kernel_rfl) (by kernel_rfl) (by kernel_rfl) (fun _ _ _ h => h) (.inr ⟨by rfl, rfl⟩) (by assumption) ?_
         try simp only [Act.put, List.getElem_toArray, List.getElem_cons_zero, List.getElem_cons_succ, List.setIfInBounds_toArray, List.set_cons_zero, List.set_cons_succ]
         refine wpAnyH_take (i := 36) (v := undef) rfl (by kernel_rfl) (by kernel_rfl) (by kernel_rfl) (fun _ _ _ h => h) (.inr ⟨by rfl, rfl⟩) (by assumption) ?_
         try simp only [Act.put, List.getElem_toArray, List.getElem_cons_zero, List.getElem_cons_succ, List.setIfInBounds_toArray, List.set_cons_zero, List.set_cons_succ]
         refine wpAnyH_take (i := 37) (v := undef) rfl (by kernel_rfl) (by kernel_rfl) (by kernel_rfl) (fun _ _ _ h => h) (.inr ⟨by rfl, rfl⟩) (by assumption) ?_
         try simp only [Act.put, List.getElem_toArray, List.getElem_cons_zero, List.getElem_cons_succ, List.setIfInBounds_toArray, List.set_cons_zero, List.set_cons_succ]
         refine wpAnyH_take (i := 38) rfl (by kernel_rfl) (by kernel_rfl) (by kernel_rfl) (fun _ _ _ h => h) (.inl ⟨by rfl, by intro w h; (try dsimp only at h); go_simp; try with_reducible rfl⟩) (by assumption) ?_
         try simp only [Act.put, List.getElem_toArray, List.getElem_cons_zero, List.getElem_cons_succ, List.setIfInBounds_toArray, List.set_cons_zero, List.set_cons_succ]
         refine wpAnyH_done (by kernel_rfl) ?_ _
         go_wp2_with fail
         have HN := hide (HV5.out.below B6.out)
         go_roundw
         case rel => exact ⟨j + 1, q3, M2 + 1, ma3, mc3, by omega, rfl, by go_num, ⟨by have := HMJ.out; omega, HN.out⟩⟩
         case measure => simp [intOf]; omega
        case morez =>
        exact AllReadyH.nil
      ·have jj : ¬ (j : Int) ≤ (kb : Int) := by omega
       have HN := hide HV.out.uv
       go_wp2_with fail
       refine keep (HPB.out _) ?_
       clear HPB x2
       go_wp2_with fail
       go_roundw
       case rel => exact ⟨i + 1, n, q2, M2, some ⟨gl, 0, none⟩, ma2, pa, lc, mc2, pc, by omega, rfl, rfl, by go_num, ⟨by have := HNI.out.1; omega, by have := HMJ.out; omega, HN.out⟩⟩
       case measure => simp [intOf]; omega
  ·have j1 : ¬ (i : Int) < (lS : Int) := by omega
   have BF : Hid (Below w.heap.size w wr) := HU.out.lo.2.2.2.1
   go_wp2_with fail
   go_ret
   exact ⟨rfl, BF.out⟩
end Go.Proofs.YtggaipeojncipaaGreat
