/- The statements' node: one slot, looked at on both sides. -/
import Derived.Test.YtpljbgcofmlhbaaGreatG24
import Derived.Test.YtpljbgcofmlhbaaGreatG15
import Derived.Test.YtpljbgcofmlhbaaGreatG18
import Derived.Deep.CutBlock
namespace Go.Proofs.YtpljbgcofmlhbaaGreat
open Go.RowKit
set_option maxRecDepth 100000
structure NS (w W : World) (N M bh bb : Nat) (lv ri : Int) (ha ka va ca : Option Addr) (hc kc vc cc lh lk lw lc : Nat) : Prop where
 bxh : W.heap[bh]? = some (.cells #[.int .i64 lv, .slice ha lh hc, .int .i64 ri] 30 (0, 0))
 bxb : W.heap[bb]? = some (.cells #[.slice ka lk kc, .slice va lw vc, .slice ca lc cc] 34 (0, 0))
 h : Bk W N M ha lh
 k : TBk W N M ka lk
 c : IBk W N M ca lc
 up : Upd (fun b => N ≤ b) w W
section
variable {w W : World} {N M bh bb : Nat} {lv ri : Int} {ha ka va ca : Option Addr} {hc kc vc cc lh lk lw lc g k : Nat} {cur : Array Value}
theorem NS.byte (s : NS w W N M bh bb lv ri ha ka va ca hc kc vc cc lh lk lw lc) (hN : N ≤ g) (hg : W.heap[g]? = some (.cells cur 5 (0, 0))) (hb : ∀ u ∈ cur.toList, IsByte u) (x : Int) : NS w (W.setCell ⟨g, k, none⟩ (.int .u8 x)) N M bh bb lv ri ha ka va ca hc kc vc cc lh lk lw lc :=
 ⟨(Below.heap_setCell _ _ _ _ (fun e => by have := s.bxh; rw [e, hg] at this; simp at this)).trans s.bxh, (Below.heap_setCell _ _ _ _ (fun e => by have := s.bxb; rw [e, hg] at this; simp at this)).trans s.bxb, s.h.byte hg hb x, s.k.byte hg hb x, s.c.other hg (by decide), s.up.trans ((Upd.refl _ W).setCell _ _ (fun _ => hN))⟩
theorem NS.nil (s : NS w W N M bh bb lv ri ha ka va ca hc kc vc cc lh lk lw lc) (hN : N ≤ g) (hg : W.heap[g]? = some (.cells cur 28 (0, 0))) : NS w (W.setCell ⟨g, k, none⟩ (.slice none 0 0)) N M bh bb lv ri ha ka va ca hc kc vc cc lh lk lw lc :=
 ⟨(Below.heap_setCell _ _ _ _ (fun e => by have := s.bxh; rw [e, hg] at this; simp at this)).trans s.bxh, (Below.heap_setCell _ _ _ _ (fun e => by have := s.bxb; rw [e, hg] at this; simp at this)).trans s.bxb, s.h.other hg (by decide), s.k.nil hg, s.c.other hg (by decide), s.up.trans ((Upd.refl _ W).setCell _ _ (fun _ => hN))⟩
theorem NS.int (s : NS w W N M bh bb lv ri ha ka va ca hc kc vc cc lh lk lw lc) (hN : N ≤ g) (hg : W.heap[g]? = some (.cells cur 3 (0, 0))) (x : Int) : NS w (W.setCell ⟨g, k, none⟩ (.int .i64 x)) N M bh bb lv ri ha ka va ca hc kc vc cc lh lk lw lc :=
 ⟨(Below.heap_setCell _ _ _ _ (fun e => by have := s.bxh; rw [e, hg] at this; simp at this)).trans s.bxh, (Below.heap_setCell _ _ _ _ (fun e => by have := s.bxb; rw [e, hg] at this; simp at this)).trans s.bxb, s.h.other hg (by decide), s.k.other hg (by decide) (by decide), s.c.int hg x, s.up.trans ((Upd.refl _ W).setCell _ _ (fun _ => hN))⟩
end
theorem bk_at {W : World} {N M : Nat} {a : Option Addr} {l : Nat} (h : Bk W N M a l) {i : Nat} (hi : i < l) : ∃ g cur x, a = some ⟨g, 0, none⟩ ∧ N ≤ g ∧ W.heap[g]? = some (.cells cur 5 (0, 0)) ∧ (∀ u ∈ cur.toList, IsByte u) ∧ W.cell? ⟨g, i, none⟩ = some (.int .u8 x) := by
 rcases h.2 with h0 | ⟨g, cur, h1, h2, h3, h4, h5⟩
 ·omega
 ·have hlt : i < cur.size := by omega
  obtain ⟨x, hx⟩ := h5 cur[i] (by rw [← Array.getElem_toList (h := by simpa using hlt)]; exact List.getElem_mem _)
  exact ⟨g, cur, x, h1, h2.1, h3, h5, by rw [cell_of_row _ _ _ _ _ _ h3, Array.getElem?_eq_getElem hlt, hx]⟩
theorem tbk_at {W : World} {N M : Nat} {a : Option Addr} {l : Nat} (h : TBk W N M a l) {i : Nat} (hi : i < l) : ∃ g cur a' l' c', a = some ⟨g, 0, none⟩ ∧ N ≤ g ∧ W.heap[g]? = some (.cells cur 28 (0, 0)) ∧ cur[i]? = some (.slice a' l' c') ∧ Bk W N M a' l' := by
 rcases h.2 with h0 | ⟨g, cur, h1, h2, h3, h4, h5⟩
 ·omega
 ·obtain ⟨a', l', c', q1, q2⟩ := h5 i hi
  exact ⟨g, cur, a', l', c', h1, h2.1, h3, q1, q2⟩
theorem ibk_at {W : World} {N M : Nat} {a : Option Addr} {l : Nat} (h : IBk W N M a l) {i : Nat} (hi : i < l) : ∃ g cur x, a = some ⟨g, 0, none⟩ ∧ N ≤ g ∧ W.heap[g]? = some (.cells cur 3 (0, 0)) ∧ W.cell? ⟨g, i, none⟩ = some (.int .i64 x) := by
 rcases h.2 with h0 | ⟨g, cur, h1, h2, h3, h4, h5⟩
 ·omega
 ·obtain ⟨x, hx⟩ := h5 i hi
  exact ⟨g, cur, x, h1, h2.1, h3, by rw [cell_of_row _ _ _ _ _ _ h3, hx]⟩
theorem ns_up {w W : World} {N : Nat} (h : Upd (fun b => N ≤ b) w W) (hN : N ≤ w.heap.size) : Below N w W := h.below hN (fun k hk e => by omega)
def BelP (W : World) (e : Ending) (w' : World) : Prop := e = .returned (.bool true) ∧ Below W.heap.size W w'
section
variable {K : Nat → Prop} {W : World} {P AX AY : Nat} {s : AS}
set_option maxRecDepth 100000 in
set_option maxHeartbeats 6400000 in
theorem wnodeB_any (h : AW K W P AX AY s s) (id : Int) : Calls Tryz.prog 72 #[.pointer (some ⟨P, 0, none⟩), .int .i64 id] W (BelP W) := by
 have WX := hide (aw_wordX h id)
 have WY := hide (aw_wordY h id)
 have HX : Hid (∀ W', AW K W' P AX AY s s → Calls Tryz.prog 118 #[.pointer (some ⟨AX, 0, none⟩), .int .i64 id] W' (HdP2 W' (s.rd id) (s.wordE id))) := fun W' hw => by obtain ⟨F, hp⟩ := hw.px; exact px_head hp id
 have HY : Hid (∀ W', AW K W' P AX AY s s → Calls Tryz.prog 115 #[.pointer (some ⟨AY, 0, none⟩), .int .i64 id] W' (HdP2 W' (s.rd id) (s.wordE id))) := fun W' hw => by obtain ⟨F, hp⟩ := hw.rx; exact rx_head hp id
 have BX : Hid (∀ W', AW K W' P AX AY s s → Calls Tryz.prog 119 #[.pointer (some ⟨AX, 0, none⟩), .int .i64 id] W' (BdP2 W' (s.rd id) (s.wordE id))) := fun W' hw => by obtain ⟨F, hp⟩ := hw.px; exact px_body hp id
 have BY : Hid (∀ W', AW K W' P AX AY s s → Calls Tryz.prog 116 #[.pointer (some ⟨AY, 0, none⟩), .int .i64 id] W' (BdP2 W' (s.rd id) (s.wordE id))) := fun W' hw => by obtain ⟨F, hp⟩ := hw.rx; exact rx_body hp id
 have HA := hide h
 obtain ⟨c0, c1⟩ := h.cells
 clear h
 generalize s.wordW id = ww at *
 generalize s.wordE id = we at *
 generalize s.rd id = q at *
 go_enter Tryz.func72, Tryz.ntmps72
 go_wp2_with fail
 refine keep WX.out ?_
 go_wp2_with fail
 refine keep WY.out ?_
 go_wp2_with fail
 refine (HX.out W HA.out).mono ?_
 rintro e r1 ⟨⟨ta1, tc1, ts1⟩, rfl, ht1, ht2, ht3, ht4, hb⟩
 simp only [Tx.v] at ht2 ⊢
 have HT1 := hide (And.intro ht1 (And.intro ht2 (And.intro ht3 ht4)))
 obtain ⟨lt1, hlt1⟩ : ∃ x, ts1.length = x := ⟨_, rfl⟩
 rw [hlt1]
 have HL1 := hide hlt1
 have R1 := hide hb
 obtain ⟨w1, hnw⟩ : ∃ x, x = r1.alloc (.cells #[.int .i64 q.lv, .slice ta1 lt1 tc1, .int .i64 q.ri] 30) := ⟨_, rfl⟩
 have bnw : Below r1.heap.size r1 w1 := by rw [hnw]; exact (Below.refl _ _).alloc (Nat.le_refl _) _
 have G1 : Hid (w1.heap[r1.heap.size]? = some (.cells #[.int .i64 q.lv, .slice ta1 lt1 tc1, .int .i64 q.ri] 30 (0, 0))) := by show _ = _; rw [hnw]; exact heap_alloc_new r1 _
 have RB1 := hide bnw
 have B1 := hide (hb.trans (bnw.mono hb.size))
 have HW1 := hide hnw
 have A1 := hide (HA.out.below B1.out)
 clear ht1 ht2 ht3 ht4 hb hlt1 hnw bnw
 obtain ⟨d10, d11⟩ := A1.out.cells
 clear c0 c1
 go_upto_region 4 with fail
 rw [← HW1.out]
 go_wp2_with fail
 refine (HY.out w1 A1.out).mono ?_
 rintro e r2 ⟨⟨ta2, tc2, ts2⟩, rfl, ht1, ht2, ht3, ht4, hb⟩
 simp only [Tx.v] at ht2 ⊢
 have HT2 := hide (And.intro ht1 (And.intro ht2 (And.intro ht3 ht4)))
 obtain ⟨lt2, hlt2⟩ : ∃ x, ts2.length = x := ⟨_, rfl⟩
 rw [hlt2]
 have HL2 := hide hlt2
 have R2 := hide hb
 obtain ⟨w2, hnw⟩ : ∃ x, x = r2.alloc (.cells #[.int .i64 q.lv, .slice ta2 lt2 tc2, .int .i64 q.ri] 30) := ⟨_, rfl⟩
 have bnw : Below r2.heap.size r2 w2 := by rw [hnw]; exact (Below.refl _ _).alloc (Nat.le_refl _) _
 have G2 : Hid (w2.heap[r2.heap.size]? = some (.cells #[.int .i64 q.lv, .slice ta2 lt2 tc2, .int .i64 q.ri] 30 (0, 0))) := by show _ = _; rw [hnw]; exact heap_alloc_new r2 _
 have RB2 := hide bnw
 have B2 := hide (hb.trans (bnw.mono hb.size))
 have HW2 := hide hnw
 have A2 := hide (A1.out.below B2.out)
 clear ht1 ht2 ht3 ht4 hb hlt2 hnw bnw
 obtain ⟨d20, d21⟩ := A2.out.cells
 go_upto_region 5 with fail
 rw [← HW2.out]
 go_wp2_with fail
 refine (BX.out w2 A2.out).mono ?_
 rintro e r3 ⟨⟨ka3, kc3, KL3⟩, ⟨va3, vc3, VL3⟩, ⟨ca3, cc3, CL3⟩, rfl, hk1, hk2, hk3, ho1, ho2, ho3, hz, hb⟩
 simp only [TL.v, IL.v] at ho3 ⊢
 have HK3 := hide (And.intro hk1 (And.intro hk2 hk3))
 have HO3 := hide (And.intro ho1 (And.intro ho2 ho3))
 have HZ3 := hide hz
 obtain ⟨lk3, hl1⟩ : ∃ x, KL3.length = x := ⟨_, rfl⟩
 obtain ⟨lw3, hl2⟩ : ∃ x, VL3.length = x := ⟨_, rfl⟩
 obtain ⟨lc3, hl3⟩ : ∃ x, CL3.length = x := ⟨_, rfl⟩
 rw [hl1, hl2, hl3]
 have HL3 := hide (And.intro hl1 (And.intro hl2 hl3))
 have R3 := hide hb
 obtain ⟨w3, hnw⟩ : ∃ x, x = r3.alloc (.cells #[.slice ka3 lk3 kc3, .slice va3 lw3 vc3, .slice ca3 lc3 cc3] 34) := ⟨_, rfl⟩
 have bnw : Below r3.heap.size r3 w3 := by rw [hnw]; exact (Below.refl _ _).alloc (Nat.le_refl _) _
 have G3 : Hid (w3.heap[r3.heap.size]? = some (.cells #[.slice ka3 lk3 kc3, .slice va3 lw3 vc3, .slice ca3 lc3 cc3] 34 (0, 0))) := by show _ = _; rw [hnw]; exact heap_alloc_new r3 _
 have RB3 := hide bnw
 have B3 := hide (hb.trans (bnw.mono hb.size))
 have HW3 := hide hnw
 have A3 := hide (A2.out.below B3.out)
 clear hk1 hk2 hk3 ho1 ho2 ho3 hz hb hl1 hl2 hl3 hnw bnw
 obtain ⟨d30, d31⟩ := A3.out.cells
 go_upto_region 6 with fail
 rw [← HW3.out]
 go_wp2_with fail
 refine (BY.out w3 A3.out).mono ?_
 rintro e r4 ⟨⟨ka4, kc4, KL4⟩, ⟨va4, vc4, VL4⟩, ⟨ca4, cc4, CL4⟩, rfl, hk1, hk2, hk3, ho1, ho2, ho3, hz, hb⟩
 simp only [TL.v, IL.v] at ho3 ⊢
 have HK4 := hide (And.intro hk1 (And.intro hk2 hk3))
 have HO4 := hide (And.intro ho1 (And.intro ho2 ho3))
 have HZ4 := hide hz
 obtain ⟨lk4, hl1⟩ : ∃ x, KL4.length = x := ⟨_, rfl⟩
 obtain ⟨lw4, hl2⟩ : ∃ x, VL4.length = x := ⟨_, rfl⟩
 obtain ⟨lc4, hl3⟩ : ∃ x, CL4.length = x := ⟨_, rfl⟩
 rw [hl1, hl2, hl3]
 have HL4 := hide (And.intro hl1 (And.intro hl2 hl3))
 have R4 := hide hb
 obtain ⟨w4, hnw⟩ : ∃ x, x = r4.alloc (.cells #[.slice ka4 lk4 kc4, .slice va4 lw4 vc4, .slice ca4 lc4 cc4] 34) := ⟨_, rfl⟩
 have bnw : Below r4.heap.size r4 w4 := by rw [hnw]; exact (Below.refl _ _).alloc (Nat.le_refl _) _
 have G4 : Hid (w4.heap[r4.heap.size]? = some (.cells #[.slice ka4 lk4 kc4, .slice va4 lw4 vc4, .slice ca4 lc4 cc4] 34 (0, 0))) := by show _ = _; rw [hnw]; exact heap_alloc_new r4 _
 have RB4 := hide bnw
 have B4 := hide (hb.trans (bnw.mono hb.size))
 have HW4 := hide hnw
 have A4 := hide (A3.out.below B4.out)
 clear hk1 hk2 hk3 ho1 ho2 ho3 hz hb hl1 hl2 hl3 hnw bnw
 obtain ⟨d40, d41⟩ := A4.out.cells
 go_upto_region 7 with fail
 rw [← HW4.out]
 have s1 := R1.out.size
 have s2 := lt_of_block G1.out
 have s3 := R2.out.size
 have s4 := lt_of_block G2.out
 have s5 := R3.out.size
 have s6 := lt_of_block G3.out
 have s7 := R4.out.size
 have s8 := lt_of_block G4.out
 have b34 : Below w3.heap.size w3 w4 := B4.out
 have b24 : Below w2.heap.size w2 w4 := B3.out.trans (b34.mono B3.out.size)
 have b14 : Below w1.heap.size w1 w4 := B2.out.trans (b24.mono B2.out.size)
 have b04 : Below W.heap.size W w4 := B1.out.trans (b14.mono B1.out.size)
 have E1 : Hid (w4.heap[r1.heap.size]? = _) := (b14.block _ s2).trans G1.out
 have E2 : Hid (w4.heap[r2.heap.size]? = _) := (b24.block _ s4).trans G2.out
 have E3 : Hid (w4.heap[r3.heap.size]? = _) := (b34.block _ s6).trans G3.out
 have x1 : OwnB w4 W.heap.size 5 (⟨ta1, tc1, ts1⟩ : Tx).v ts1 := (show OwnB r1 W.heap.size 5 (⟨ta1, tc1, ts1⟩ : Tx).v ts1 from HT1.out.2.1).below (RB1.out.trans (b14.mono RB1.out.size))
 have x2 : OwnB w4 w1.heap.size 5 (⟨ta2, tc2, ts2⟩ : Tx).v ts2 := (show OwnB r2 w1.heap.size 5 (⟨ta2, tc2, ts2⟩ : Tx).v ts2 from HT2.out.2.1).below (RB2.out.trans (b24.mono RB2.out.size))
 have b3x : Below r3.heap.size r3 w4 := RB3.out.trans (b34.mono RB3.out.size)
 have y1 := HO3.out.1.below b3x
 have y2 := HO3.out.2.1.below b3x
 have y3 : w4.ownsRow w2.heap.size 3 1 (⟨ca3, cc3, CL3⟩ : IL).v CL3.length (CL3.map (Value.int .i64)) := owns_below HO3.out.2.2 b3x
 have z1 := HO4.out.1.below RB4.out
 have z2 := HO4.out.2.1.below RB4.out
 have z3 : w4.ownsRow w3.heap.size 3 1 (⟨ca4, cc4, CL4⟩ : IL).v CL4.length (CL4.map (Value.int .i64)) := owns_below HO4.out.2.2 RB4.out
 have hts : ts2 = ts1 := HT2.out.1.trans HT1.out.1.symm
 have SH : Hid (Calls Tryz.prog 120 #[.agg #[.int .i64 q.lv, .slice ta1 lt1 tc1, .int .i64 q.ri], .agg #[.int .i64 q.lv, .slice ta2 lt2 tc2, .int .i64 q.ri]] w4 fun e w' => e = .returned (.bool true) ∧ Below w4.heap.size w4 w') := by
  have hl : lt2 = lt1 := by rw [← HL1.out, ← HL2.out, hts]
  rw [hl]
  rw [hts] at x2
  exact sameHead_any q.lv q.ri ta1 ta2 lt1 tc1 tc2 ts1 w4 HL1.out (OwnB.row x1) (OwnB.row x2)
 have SB : Hid (∀ W', Below w4.heap.size w4 W' → Calls Tryz.prog 121 #[.agg #[.slice ka3 lk3 kc3, .slice va3 lw3 vc3, .slice ca3 lc3 cc3], .agg #[.slice ka4 lk4 kc4, .slice va4 lw4 vc4, .slice ca4 lc4 cc4]] W' fun e w' => e = .returned (.bool true) ∧ Below W'.heap.size W' w') := by
  intro W' hb
  have o3 : (⟨0, ⟨none, 0, []⟩, 0, ⟨ka3, kc3, KL3⟩, ⟨va3, vc3, VL3⟩, ⟨ca3, cc3, CL3⟩⟩ : Nd).Ok w4 := ⟨Tx.nil_ok _, y1.ok, y2.ok, il_of_owns (t := ⟨ca3, cc3, CL3⟩) y3, HZ3.out.1, HZ3.out.2.1, HZ3.out.2.2⟩
  have o4 : (⟨0, ⟨none, 0, []⟩, 0, ⟨ka4, kc4, KL4⟩, ⟨va4, vc4, VL4⟩, ⟨ca4, cc4, CL4⟩⟩ : Nd).Ok w4 := ⟨Tx.nil_ok _, z1.ok, z2.ok, il_of_owns (t := ⟨ca4, cc4, CL4⟩) z3, HZ4.out.1, HZ4.out.2.1, HZ4.out.2.2⟩
  have x := sameBody_any _ _ W' (o3.below hb) (o4.below hb) (HK3.out.1.trans HK4.out.1.symm) (HK3.out.2.1.trans HK4.out.2.1.symm) (HK3.out.2.2.trans HK4.out.2.2.symm)
  simp only [TL.v, IL.v, HL3.out.1, HL3.out.2.1, HL3.out.2.2, HL4.out.1, HL4.out.2.1, HL4.out.2.2] at x
  exact x
 have NS4 : Hid (∀ W', Below w4.heap.size w4 W' → NS W W' W.heap.size w4.heap.size r1.heap.size r3.heap.size q.lv q.ri ta1 ka3 va3 ca3 tc1 kc3 vc3 cc3 lt1 lk3 lw3 lc3) := by
  intro W' hb
  have m1 := bk_own (x := ⟨ta1, tc1, ts1⟩) x1 HT1.out.2.2.2
  have m2 := tbk_own y1 HZ3.out.1
  have m3 := ibk_own (t := ⟨ca3, cc3, CL3⟩) y3 HZ3.out.2.2
  simp only [HL1.out] at m1
  simp only [HL3.out.1] at m2
  simp only [HL3.out.2.2] at m3
  have mv : ∀ b, b < w4.heap.size → W'.heap[b]? = w4.heap[b]? := fun b hb' => hb.block b hb'
  refine ⟨(mv _ (lt_of_block E1.out)).trans E1.out, (mv _ (lt_of_block E3.out)).trans E3.out, m1.move (fun b _ h => mv b h), ?_, ?_, (Upd.of_below (b04.trans (hb.mono b04.size)) _)⟩
  ·have m2' : TBk w4 W.heap.size w4.heap.size ka3 lk3 := ⟨m2.1, m2.2.imp (fun h => h) (fun ⟨g, cur, a1, a2, a3, a4, a5⟩ => ⟨g, cur, a1, ⟨by omega, a2.2⟩, a3, a4, fun i hi => by obtain ⟨a', l', c', q1, q2⟩ := a5 i hi; exact ⟨a', l', c', q1, q2.1, q2.2.imp (fun h => h) (fun ⟨g2, cur2, e1, e2, e3⟩ => ⟨g2, cur2, e1, ⟨by omega, e2.2⟩, e3⟩)⟩⟩)⟩
   exact m2'.move (fun b _ h => mv b h)
  ·have m3' : IBk w4 W.heap.size w4.heap.size ca3 lc3 := ⟨m3.1, m3.2.imp (fun h => h) (fun ⟨g, cur, a1, a2, a3⟩ => ⟨g, cur, a1, ⟨by omega, a2.2⟩, a3⟩)⟩
   exact m3'.move (fun b _ h => mv b h)
 have HEND : Hid (∀ W', Upd (fun b => W.heap.size ≤ b) W W' → BelP W (.returned (.bool true)) W') := fun W' hu => ⟨rfl, ns_up hu (Nat.le_refl _)⟩
 obtain ⟨e10, e11, e12⟩ := Tri.of E1.out
 obtain ⟨e20, e21, e22⟩ := Tri.of E2.out
 obtain ⟨e30, e31, e32⟩ := Tri.of E3.out
 obtain ⟨e40, e41, e42⟩ := Tri.of G4.out
 have Z0 : Hid (r1.heap.size < w4.heap.size ∧ r2.heap.size < w4.heap.size ∧ r3.heap.size < w4.heap.size ∧ r4.heap.size < w4.heap.size) := ⟨lt_of_block E1.out, lt_of_block E2.out, lt_of_block E3.out, s8⟩
 have hlk : lk3 ≤ 140737488355328 := (NS4.out w4 (Below.refl _ _)).k.1
 have hlh : lt1 ≤ 140737488355328 := (NS4.out w4 (Below.refl _ _)).h.1
 have hlc : lc3 ≤ 140737488355328 := (NS4.out w4 (Below.refl _ _)).c.1
 clear x1 x2 y1 y2 y3 z1 z2 z3 hts s1 s2 s3 s4 s5 s6 s7 s8 b34 b24 b14 b04 b3x d10 d11 d20 d21 d30 d31 d40 d41
 go_wp2_with fail
 refine SH.out.mono ?_
 rintro e w5 ⟨rfl, hb5⟩
 have f3 := Tri.of ((hb5.block _ (lt_of_block E3.out)).trans E3.out)
 have f4 := Tri.of ((hb5.block _ (lt_of_block G4.out)).trans G4.out)
 obtain ⟨f30, f31, f32⟩ := f3
 obtain ⟨f40, f41, f42⟩ := f4
 have SB5 := hide (SB.out w5 hb5)
 have B5 := hide hb5
 clear hb5 e10 e11 e12 e20 e21 e22 e30 e31 e32 e40 e41 e42
 go_wp2_with fail
 refine SB5.out.mono ?_
 rintro e w6 ⟨rfl, hb6⟩
 have H6 := hide (NS4.out w6 (B5.out.trans (hb6.mono B5.out.size)))
 generalize w4.heap.size = M4 at *
 clear hb6 f30 f31 f32 f40 f41 f42 SB SB5 SH B5 NS4 E1 E2 E3
 go_wp2_with fail
 go_loopw [19] (fun q19 wr => ∃ z : Nat, z ≤ lt1 ∧ q19 = .int .i64 (z : Int) ∧ Hid (NS W wr W.heap.size M4 r1.heap.size r3.heap.size q.lv q.ri ta1 ka3 va3 ca3 tc1 kc3 vc3 cc3 lt1 lk3 lw3 lc3)) (fun q19 _ => lt1 - (intOf q19).toNat)
 case atStart => exact ⟨0, Nat.zero_le _, rfl, H6⟩
 case round =>
  clear H6
  obtain ⟨z, hz, rfl, HN⟩ := hrel
  rename World => wr
  obtain ⟨e10, e11, e12⟩ := Tri.of HN.out.bxh
  by_cases hlt : z < lt1
  ·have j1 : (z : Int) < (lt1 : Int) := by omega
   obtain ⟨g, cur, x, hta, hg1, hg2, hg3, hg4⟩ := bk_at HN.out.h hlt
   subst hta
   have fz := frozen_of hg2 z
   have HG := hide (And.intro hg1 (And.intro hg2 hg3))
   clear hg1 hg2 hg3
   go_wp2_with fail
   go_roundw
   case rel => exact ⟨z + 1, by omega, by go_num, HN.out.byte HG.out.1 HG.out.2.1 HG.out.2.2 _⟩
   case measure => simp [intOf]; omega
  ·have j1 : ¬ (z : Int) < (lt1 : Int) := by omega
   go_wp2_with fail
   have H7 := hide HN.out
   go_loopw [20] (fun q20 wt => ∃ y : Nat, y ≤ lk3 ∧ q20 = .int .i64 (y : Int) ∧ Hid (NS W wt W.heap.size M4 r1.heap.size r3.heap.size q.lv q.ri ta1 ka3 va3 ca3 tc1 kc3 vc3 cc3 lt1 lk3 lw3 lc3)) (fun q20 _ => lk3 - (intOf q20).toNat)
   case atStart => exact ⟨0, Nat.zero_le _, rfl, H7⟩
   case round =>
    clear H7 e10 e11 e12 HN
    obtain ⟨y, hy, rfl, HN⟩ := hrel
    rename World => wt
    obtain ⟨e30, e31, e32⟩ := Tri.of HN.out.bxb
    by_cases hlt2 : y < lk3
    ·have j2 : (y : Int) < (lk3 : Int) := by omega
     obtain ⟨g, cur, a', l', c', hka, hg1, hg2, hg3, hg4⟩ := tbk_at HN.out.k hlt2
     subst hka
     have HS0 : Hid (NS W wt W.heap.size M4 r1.heap.size r3.heap.size q.lv q.ri ta1 (some ⟨g, 0, none⟩) va3 ca3 tc1 kc3 vc3 cc3 lt1 lk3 lw3 lc3 ∧ wt.heap[g]? = some (.cells cur 28 (0, 0)) ∧ Bk wt W.heap.size M4 a' l') := ⟨HN.out, hg2, hg4⟩
     have HG1 := hide hg1
     have HG3 := hide hg3
     have hl' : l' ≤ 140737488355328 := hg4.1
     clear HN hg1 hg2 hg3 hg4
     go_wp2_with fail
     clear e30 e31 e32
     go_loopw [21] (fun q21 wu => ∃ v : Nat, v ≤ l' ∧ q21 = .int .i64 (v : Int) ∧ Hid (NS W wu W.heap.size M4 r1.heap.size r3.heap.size q.lv q.ri ta1 (some ⟨g, 0, none⟩) va3 ca3 tc1 kc3 vc3 cc3 lt1 lk3 lw3 lc3 ∧ wu.heap[g]? = some (.cells cur 28 (0, 0)) ∧ Bk wu W.heap.size M4 a' l')) (fun q21 _ => l' - (intOf q21).toNat)
     case atStart => exact ⟨0, Nat.zero_le _, rfl, HS0⟩
     case round =>
      clear HS0
      obtain ⟨v, hv, rfl, HV⟩ := hrel
      rename World => wu
      obtain ⟨e30, e31, e32⟩ := Tri.of HV.out.1.bxb
      have ck : wu.cell? ⟨g, y, none⟩ = some (.slice a' l' c') := by rw [cell_of_row _ _ _ _ _ _ HV.out.2.1]; exact HG3.out
      by_cases hlt3 : v < l'
      ·have j3 : (v : Int) < (l' : Int) := by omega
       obtain ⟨g2, cur2, x, hta, hq1, hq2, hq3, hq4⟩ := bk_at HV.out.2.2 hlt3
       subst hta
       have fz := frozen_of hq2 v
       have HQ := hide (And.intro hq1 (And.intro hq2 hq3))
       have HNE : Hid (g ≠ g2) := fun e => by have := HV.out.2.1; rw [e, hq2] at this; simp at this
       clear hq1 hq2 hq3
       go_wp2_with fail
       go_roundw
       case rel => exact ⟨v + 1, by omega, by go_num, HV.out.1.byte HQ.out.1 HQ.out.2.1 HQ.out.2.2 _, (Below.heap_setCell _ _ _ _ HNE.out).trans HV.out.2.1, HV.out.2.2.byte HQ.out.2.1 HQ.out.2.2 _⟩
       case measure => simp [intOf]; omega
      ·have j3 : ¬ (v : Int) < (l' : Int) := by omega
       have fz := frozen_of HV.out.2.1 y
       go_wp2_with fail
       go_roundw
       case rel => exact ⟨y + 1, by omega, by go_num, HV.out.1.nil HG1.out HV.out.2.1⟩
       case measure => simp [intOf]; omega
    ·have j2 : ¬ (y : Int) < (lk3 : Int) := by omega
     have H8 := hide HN.out
     go_wp2_with fail
     clear e30 e31 e32 HN
     go_loopw [22] (fun q22 wv => ∃ y2 : Nat, y2 ≤ lc3 ∧ q22 = .int .i64 (y2 : Int) ∧ Hid (NS W wv W.heap.size M4 r1.heap.size r3.heap.size q.lv q.ri ta1 ka3 va3 ca3 tc1 kc3 vc3 cc3 lt1 lk3 lw3 lc3)) (fun q22 _ => lc3 - (intOf q22).toNat)
     case atStart => exact ⟨0, Nat.zero_le _, rfl, H8⟩
     case round =>
      clear H8
      obtain ⟨y2, hy2, rfl, HN⟩ := hrel
      rename World => wv
      obtain ⟨e30, e31, e32⟩ := Tri.of HN.out.bxb
      by_cases hlt4 : y2 < lc3
      ·have j4 : (y2 : Int) < (lc3 : Int) := by omega
       obtain ⟨g, cur, x, hca, hg1, hg2, hg3⟩ := ibk_at HN.out.c hlt4
       subst hca
       have fz := frozen_of hg2 y2
       have HG := hide (And.intro hg1 hg2)
       clear hg1 hg2
       go_wp2_with fail
       go_roundw
       case rel => exact ⟨y2 + 1, by omega, by go_num, HN.out.int HG.out.1 HG.out.2 _⟩
       case measure => simp [intOf]; omega
      ·have j4 : ¬ (y2 : Int) < (lc3 : Int) := by omega
       have HF := hide (HEND.out wv HN.out.up)
       go_wp2_with fail
       go_ret
       have := HF.out
       simpa using this
theorem wnode_any (h : AW K W P AX AY s s) (id : Int) : Calls Tryz.prog 72 #[.pointer (some ⟨P, 0, none⟩), .int .i64 id] W (AwPost K W P AX AY s) := (wnodeB_any h id).mono fun _ _ hh => ⟨hh.1, h.below hh.2, kept_below hh.2⟩
end
end Go.Proofs.YtpljbgcofmlhbaaGreat
