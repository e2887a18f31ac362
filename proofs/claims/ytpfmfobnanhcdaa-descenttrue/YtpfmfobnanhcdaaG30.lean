/- A descent: the statements' told. -/
import Derived.Test.YtpfmfobnanhcdaaG29
import Derived.Test.YtpfmfobnanhcdaaG16
import Derived.Test.YtpfmfobnanhcdaaG13
namespace Go.Proofs.Ytpfmfobnanhcdaa
open Go.RowKit
set_option maxRecDepth 100000

/-- While told turns what is its own. -/
structure TlS (w W : World) (N M B : Nat) (lv ri : Int) (ha ka va ca : Option Addr) (hc kc vc cc lh lk lw lc : Nat) : Prop where
  box : W.heap[B]? = some (.cells #[.int .i64 lv, .slice ha lh hc, .int .i64 ri, .slice ka lk kc, .slice va lw vc, .slice ca lc cc] 37 (0, 0))
  k : TBk W N M ka lk
  up : Upd (fun b => N ≤ b ∧ b < M) w W
theorem TlS.byte {w W : World} {N M B : Nat} {lv ri : Int} {ha ka va ca : Option Addr} {hc kc vc cc lh lk lw lc g k : Nat} {cur : Array Value} (s : TlS w W N M B lv ri ha ka va ca hc kc vc cc lh lk lw lc) (hN : N ≤ g ∧ g < M) (hg : W.heap[g]? = some (.cells cur 5 (0, 0))) (hb : ∀ u ∈ cur.toList, IsByte u) (x : Int) : TlS w (W.setCell ⟨g, k, none⟩ (.int .u8 x)) N M B lv ri ha ka va ca hc kc vc cc lh lk lw lc :=
  ⟨(Below.heap_setCell _ _ _ _ (fun e => by have := s.box; rw [e, hg] at this; simp at this)).trans s.box, s.k.byte hg hb x, s.up.trans ((Upd.refl _ W).setCell _ _ (fun _ => hN))⟩

set_option maxRecDepth 100000 in
set_option maxHeartbeats 6400000 in
theorem told_anyD {W : World} {P Q A A' : Nat} {k k' : Tx} {n n' : Nd} {D D' : Nat → Prop} {m : MS} {r : RMS} (h : PM W P A k n D m) (g : RM W Q A' k' n' D' r) (hs : Sim m r) :
    Calls Try.prog 16 #[.agg #[.pointer (some ⟨P, 0, none⟩), .pointer (some ⟨Q, 0, none⟩)]] W fun e w' => e = .returned (.bool true) ∧ Below W.heap.size W w' := by
  have HX : Hid (∀ W', Below W.heap.size W W' → Calls Try.prog 18 #[.pointer (some ⟨P, 0, none⟩)] W' (AtP W' m.atI m.atW m.atN)) := fun W' hb => dat_all (h.upd (S := Noth) (Upd.of_below hb _) (fun _ _ e => e))
  have HY : Hid (∀ W', Below W.heap.size W W' → Calls Try.prog 65 #[.pointer (some ⟨Q, 0, none⟩)] W' (AtP W' m.atI m.atW m.atN)) := fun W' hb => rdat_all (g.upd (S := Noth) (Upd.of_below hb _) (fun _ _ e => e)) hs
  have HAG : Hid (∀ W', Below W.heap.size W W' → ∀ q, Calls Try.prog 66 #[.pointer (some ⟨P, 0, none⟩)] (W'.drewN q) fun e w' => e = .returned (.int .i64 (m.an : Nat)) ∧ ∃ x, w' = W'.drewN x) := fun W' hb q => (again_any (h.upd (S := Noth) (Upd.of_below (below_drewN hb q) _) (fun _ _ e => e))).mono fun _ _ ⟨h1, h2⟩ => ⟨h1, q, h2⟩
  have HRT : Hid (∀ W', Below W.heap.size W W' → ∀ q, Calls Try.prog 67 #[.pointer (some ⟨P, 0, none⟩)] (W'.drewN q) fun e w' => e = .returned (.int .i64 (m.mo : Nat)) ∧ ∃ x, w' = W'.drewN x) := fun W' hb q => (right_anyD (h.upd (S := Noth) (Upd.of_below (below_drewN hb q) _) (fun _ _ e => e))).mono fun _ _ ⟨h1, h2⟩ => ⟨h1, q, h2⟩
  have HC13 : Hid (∀ W', Below W.heap.size W W' → W'.cell? ⟨Q, 13, none⟩ = some (.int .i64 (m.an : Nat)) ∧ W'.cell? ⟨Q, 14, none⟩ = some (.int .i64 (m.mo : Nat))) := fun W' hb => by
    have hc := (hb.block Q (lt_of_block g.c)).trans g.c
    rw [← hs.an, ← hs.mo]
    exact ⟨by rw [cell_of_row _ _ _ _ _ _ hc]; rfl, by rw [cell_of_row _ _ _ _ _ _ hc]; rfl⟩
  clear h g hs
  generalize m.atI = ai at *
  generalize m.atW = aw at *
  generalize m.atN = an at *
  generalize m.an = xa at *
  generalize m.mo = xm at *
  obtain ⟨w0, hw0⟩ : ∃ w0, w0 = W.alloc (.cells #[.pointer (some ⟨P, 0, none⟩), .pointer (some ⟨Q, 0, none⟩)] 52) := ⟨_, rfl⟩
  have b0 : Below W.heap.size W w0 := by rw [hw0]; exact (Below.refl _ _).alloc (Nat.le_refl _) _
  have G0 : Hid (w0.heap[W.heap.size]? = some (.cells #[.pointer (some ⟨P, 0, none⟩), .pointer (some ⟨Q, 0, none⟩)] 52 (0, 0))) := by show _ = _; rw [hw0]; exact heap_alloc_new W _
  have s0 : W.heap.size < w0.heap.size := lt_of_block G0.out
  have p0 : w0.cell? ⟨W.heap.size, 0, none⟩ = some (.pointer (some ⟨P, 0, none⟩)) := by rw [cell_of_row _ _ _ _ _ _ G0.out]; rfl
  have B0 := hide b0
  have HW0 := hide hw0
  have S0 := hide s0
  clear b0 hw0 s0
  go_enter Try.func16, Try.ntmps16
  go_upto_region 1 with fail
  rw [← HW0.out]
  clear HW0
  go_wp2_with fail
  refine (HX.out w0 B0.out).mono ?_
  rintro e w1 ⟨⟨xlv, ⟨xha, xhc, xhs⟩, xri, ⟨xka, xkc, xK⟩, ⟨xva, xvc, xV⟩, ⟨xca, xcc, xC⟩⟩, rfl, xp, xo, xb⟩
  obtain ⟨xlh, xh1⟩ : ∃ x, xhs.length = x := ⟨_, rfl⟩
  obtain ⟨xlk, xh2⟩ : ∃ x, xK.length = x := ⟨_, rfl⟩
  obtain ⟨xlw, xh3⟩ : ∃ x, xV.length = x := ⟨_, rfl⟩
  obtain ⟨xlc, xh4⟩ : ∃ x, xC.length = x := ⟨_, rfl⟩
  simp only [Nd.v, Tx.v, TL.v, IL.v]
  rw [xh1, xh2, xh3, xh4]
  have xL := hide (And.intro xh1 (And.intro xh2 (And.intro xh3 xh4)))
  clear xh1 xh2 xh3 xh4
  have XP := hide xp
  have XO := hide xo
  have XB := hide xb
  have B1 := hide (B0.out.trans (xb.mono B0.out.size))
  clear xp xo xb
  obtain ⟨w2, hw2⟩ : ∃ w2, w2 = w1.alloc (.cells #[.int .i64 xlv, .slice xha xlh xhc, .int .i64 xri, .slice xka xlk xkc, .slice xva xlw xvc, .slice xca xlc xcc] 37) := ⟨_, rfl⟩
  have b2 : Below w1.heap.size w1 w2 := by rw [hw2]; exact (Below.refl _ _).alloc (Nat.le_refl _) _
  have G2 : Hid (w2.heap[w1.heap.size]? = some (.cells #[.int .i64 xlv, .slice xha xlh xhc, .int .i64 xri, .slice xka xlk xkc, .slice xva xlw xvc, .slice xca xlc xcc] 37 (0, 0))) := by show _ = _; rw [hw2]; exact heap_alloc_new w1 _
  have B2 := hide (B1.out.trans (b2.mono B1.out.size))
  have B02 := hide (XB.out.trans (b2.mono XB.out.size))
  have XO2 := hide (XO.out.below b2)
  have p1 : w2.cell? ⟨W.heap.size, 1, none⟩ = some (.pointer (some ⟨Q, 0, none⟩)) := by rw [cell_of_row _ _ _ _ _ _ ((B02.out.block _ S0.out).trans G0.out)]; rfl
  have HW2 := hide hw2
  clear b2 hw2 XO HX p0
  go_upto_region 2 with fail
  rw [← HW2.out]
  clear HW2
  go_wp2_with fail
  refine (HY.out w2 B2.out).mono ?_
  rintro e w3 ⟨⟨ylv, ⟨yha, yhc, yhs⟩, yri, ⟨yka, ykc, yK⟩, ⟨yva, yvc, yV⟩, ⟨yca, ycc, yC⟩⟩, rfl, yp, yo, yb⟩
  obtain ⟨ylh, yh1⟩ : ∃ x, yhs.length = x := ⟨_, rfl⟩
  obtain ⟨ylk, yh2⟩ : ∃ x, yK.length = x := ⟨_, rfl⟩
  obtain ⟨ylw, yh3⟩ : ∃ x, yV.length = x := ⟨_, rfl⟩
  obtain ⟨ylc, yh4⟩ : ∃ x, yC.length = x := ⟨_, rfl⟩
  simp only [Nd.v, Tx.v, TL.v, IL.v]
  rw [yh1, yh2, yh3, yh4]
  have yL := hide (And.intro yh1 (And.intro yh2 (And.intro yh3 yh4)))
  clear yh1 yh2 yh3 yh4
  have YP := hide yp
  have YO := hide yo
  have YB := hide yb
  have B3 := hide (B2.out.trans (yb.mono B2.out.size))
  clear yp yo yb
  obtain ⟨w4, hw4⟩ : ∃ w4, w4 = w3.alloc (.cells #[.int .i64 ylv, .slice yha ylh yhc, .int .i64 yri, .slice yka ylk ykc, .slice yva ylw yvc, .slice yca ylc ycc] 37) := ⟨_, rfl⟩
  have b4 : Below w3.heap.size w3 w4 := by rw [hw4]; exact (Below.refl _ _).alloc (Nat.le_refl _) _
  have G4 : Hid (w4.heap[w3.heap.size]? = some (.cells #[.int .i64 ylv, .slice yha ylh yhc, .int .i64 yri, .slice yka ylk ykc, .slice yva ylw yvc, .slice yca ylc ycc] 37 (0, 0))) := by show _ = _; rw [hw4]; exact heap_alloc_new w3 _
  have B24 := hide (YB.out.trans (b4.mono YB.out.size))
  have B4 := hide (B2.out.trans (B24.out.mono B2.out.size))
  have XO4 := hide (XO2.out.below B24.out)
  have YO4 := hide (YO.out.below b4)
  have G24 : Hid (w4.heap[w1.heap.size]? = some (.cells #[.int .i64 xlv, .slice xha xlh xhc, .int .i64 xri, .slice xka xlk xkc, .slice xva xlw xvc, .slice xca xlc xcc] 37 (0, 0))) := (B24.out.block _ (lt_of_block G2.out)).trans G2.out
  have SN := hide (sameNode_any (⟨xlv, ⟨xha, xhc, xhs⟩, xri, ⟨xka, xkc, xK⟩, ⟨xva, xvc, xV⟩, ⟨xca, xcc, xC⟩⟩ : Nd) (⟨ylv, ⟨yha, yhc, yhs⟩, yri, ⟨yka, ykc, yK⟩, ⟨yva, yvc, yV⟩, ⟨yca, ycc, yC⟩⟩ : Nd) w4 XO4.out.ok YO4.out.ok (XP.out.trans YP.out.symm))
  simp only [Nd.v, Tx.v, TL.v, IL.v, xL.out.1, xL.out.2.1, xL.out.2.2.1, xL.out.2.2.2, yL.out.1, yL.out.2.1, yL.out.2.2.1, yL.out.2.2.2] at SN
  obtain ⟨d0, d1, d2, d3, d4, d5⟩ := Six.of G24.out
  obtain ⟨e0, e1, e2, e3, e4, e5⟩ := Six.of G4.out
  have HW4 := hide hw4
  clear b4 hw4 YO HY p1
  go_upto_region 3 with fail
  rw [← HW4.out]
  clear HW4
  go_wp2_with fail
  refine SN.out.mono ?_
  rintro e w5 ⟨rfl, b5⟩
  have B5 := hide (B4.out.trans (b5.mono B4.out.size))
  have G5 : Hid (w5.heap[w1.heap.size]? = some (.cells #[.int .i64 xlv, .slice xha xlh xhc, .int .i64 xri, .slice xka xlk xkc, .slice xva xlw xvc, .slice xca xlc xcc] 37 (0, 0))) := (b5.block _ (lt_of_block G24.out)).trans G24.out
  have XO5 := hide (XO4.out.below b5)
  have B05 : Hid (Below w0.heap.size w0 w5) := B02.out.trans ((B24.out.trans (b5.mono B24.out.size)).mono B02.out.size)
  have TB : Hid (TBk w5 w0.heap.size w5.heap.size xka xlk) := by
    have := tbk_own XO5.out.k XO5.out.kz
    simp only [xL.out.2.1] at this
    exact this
  have T0 : Hid (TlS w5 w5 w0.heap.size w5.heap.size w1.heap.size xlv xri xha xka xva xca xhc xkc xvc xcc xlh xlk xlw xlc) := ⟨G5.out, TB.out, Upd.refl _ _⟩
  have z2 := TB.out.1
  clear b5 SN TB d0 d1 d2 d3 d4 d5 e0 e1 e2 e3 e4 e5 XO4 XO5 YO4 XP YP XO2
  go_wp2_with fail
  go_loopw [10] (fun q wr => ∃ i : Nat, i ≤ xlk ∧ q = .int .i64 (i : Int) ∧ Hid (TlS w5 wr w0.heap.size w5.heap.size w1.heap.size xlv xri xha xka xva xca xhc xkc xvc xcc xlh xlk xlw xlc)) (fun q _ => xlk - (intOf q).toNat)
  case atStart => exact ⟨0, Nat.zero_le _, rfl, T0⟩
  case round =>
    clear T0
    obtain ⟨i, hi, rfl, HI⟩ := hrel
    rename World => wr
    have c1 := (Six.of HI.out.box).2.2.2.1
    by_cases hlt : i < xlk
    · have j1 : (i : Int) < (xlk : Int) := by omega
      have j2 : (0 : Int) ≤ (i : Int) := by omega
      obtain ⟨g, cur, hae, hN, hg, hsz, hel⟩ := HI.out.k.2.resolve_left (by omega)
      subst hae
      obtain ⟨ta, tl, tc, hq, hbk⟩ := hel i hlt
      have htl := hbk.1
      have HTC : Hid (wr.cell? ⟨g, i, none⟩ = some (.slice ta tl tc)) := by show _ = _; rw [cell_of_row _ _ _ _ _ _ hg]; exact hq
      have HBK : Hid (Bk wr w0.heap.size w5.heap.size ta tl) := hbk
      have HGT : Hid (∃ cur, wr.heap[g]? = some (.cells cur 28 (0, 0))) := ⟨cur, hg⟩
      clear hg hsz hel hq hbk
      go_wp2_with fail
      clear c1 j1
      rename World => wo
      go_loopw [11] (fun q wr => ∃ k : Nat, k ≤ tl ∧ q = .int .i64 (k : Int) ∧ Hid (TlS w5 wr w0.heap.size w5.heap.size w1.heap.size xlv xri xha (some ⟨g, 0, none⟩) xva xca xhc xkc xvc xcc xlh xlk xlw xlc) ∧ Hid (wr.cell? ⟨g, i, none⟩ = some (.slice ta tl tc)) ∧ Hid (Bk wr w0.heap.size w5.heap.size ta tl) ∧ Hid (∃ cur, wr.heap[g]? = some (.cells cur 28 (0, 0)))) (fun q _ => tl - (intOf q).toNat)
      case atStart => exact ⟨0, Nat.zero_le _, rfl, HI, HTC, HBK, HGT⟩
      case round =>
        clear HI HTC HBK HGT
        obtain ⟨k, hk, rfl, HI, HTC, HBK, HGT⟩ := hrel
        rename World => wr
        have c1 := (Six.of HI.out.box).2.2.2.1
        have c2 := HTC.out
        have j3 : (i : Int) < (xlk : Int) := by omega
        by_cases hlk : k < tl
        · have j4 : (k : Int) < (tl : Int) := by omega
          have j5 : (0 : Int) ≤ (k : Int) := by omega
          obtain ⟨g2, cs, rfl, hN2, hg2, hsz2, hb2⟩ := HBK.out.2.resolve_left (by omega)
          obtain ⟨x, hx⟩ := hb2 cs[k] (by simp)
          have hcell : wr.cell? ⟨g2, k, none⟩ = some (.int .u8 x) := by rw [cell_of_row _ _ _ _ _ _ hg2, Array.getElem?_eq_getElem (by omega), hx]
          have hfr : wr.frozen? ⟨g2, k, none⟩ = false := by simp [World.frozen?, hg2]
          have HNX := hide (fun y => HI.out.byte (k := k) hN2 hg2 hb2 y)
          have hne : g ≠ g2 := fun e => by obtain ⟨c', h'⟩ := HGT.out; rw [e, hg2] at h'; simp at h'
          have HN1 : Hid (∀ y : Int, (wr.setCell ⟨g2, k, none⟩ (.int .u8 y)).cell? ⟨g, i, none⟩ = some (.slice (some ⟨g2, 0, none⟩) tl tc)) := fun y => ((Upd.refl (fun b => b = g2) wr).setCell ⟨g2, k, none⟩ (.int .u8 y) (fun _ => rfl)).cell HTC.out hne
          have HN2 := hide (fun y => HBK.out.byte (k := k) hg2 hb2 y)
          have HN3 : Hid (∀ y : Int, ∃ cur, (wr.setCell ⟨g2, k, none⟩ (.int .u8 y)).heap[g]? = some (.cells cur 28 (0, 0))) := fun y => by obtain ⟨c', h'⟩ := HGT.out; exact ⟨c', (Below.heap_setCell _ _ _ _ hne).trans h'⟩
          clear hg2 hx hb2 HI hsz2 HTC HBK HGT
          go_wp2_with fail
          go_roundw
          case rel => exact ⟨k + 1, by omega, by go_num, HNX.out _, HN1.out _, HN2.out _, HN3.out _⟩
          case measure => simp [intOf]; omega
        · have j4 : ¬ (k : Int) < (tl : Int) := by omega
          go_wp2_with fail
          go_roundw
          case rel => exact ⟨i + 1, by omega, by go_num, HI⟩
          case measure => simp [intOf]; omega
    · have j1 : ¬ (i : Int) < (xlk : Int) := by omega
      have BW : Hid (Below W.heap.size W wr) := B5.out.trans (HI.out.up.below B5.out.size (fun k hk e => by have := S0.out; omega))
      have hpb : wr.heap[W.heap.size]? = some (.cells #[.pointer (some ⟨P, 0, none⟩), .pointer (some ⟨Q, 0, none⟩)] 52 (0, 0)) := HI.out.up.heap ((B05.out.block _ S0.out).trans G0.out) (fun e => by have := S0.out; omega)
      have p0 : wr.cell? ⟨W.heap.size, 0, none⟩ = some (.pointer (some ⟨P, 0, none⟩)) := by rw [cell_of_row _ _ _ _ _ _ hpb]; rfl
      have p1 : wr.cell? ⟨W.heap.size, 1, none⟩ = some (.pointer (some ⟨Q, 0, none⟩)) := by rw [cell_of_row _ _ _ _ _ _ hpb]; rfl
      have HA1 := hide (HAG.out wr BW.out)
      have HR1 := hide (HRT.out wr BW.out)
      obtain ⟨k13, k14⟩ := HC13.out wr BW.out
      clear hpb HAG HRT HC13
      go_wp2_with fail
      go_quiet (first
        | (go_at_call 66; with_reducible exact HA1.out _)
        | (go_at_call 67; with_reducible exact HR1.out _))
      go_wp2_with fail
      go_ret
      exact ⟨rfl, below_drewN BW.out _⟩
end Go.Proofs.Ytpfmfobnanhcdaa
