/- The law's spoil: the walk. -/
import Derived.Test.YtclgimklfejohaaNSpoil
import Derived.Test.YtclgimklfejohaaNHead
namespace Go.Proofs.Ytclgimklfejohaa
open Go.RowKit

set_option maxRecDepth 100000 in
set_option maxHeartbeats 6400000 in
theorem spoilN_any (n : Nd) (N M : Nat) (w : World) (hn : Spo w N M n) (hM : M ≤ w.heap.size) :
    Calls Try.prog 15 #[n.v] w fun e w' => e = .returned (.tuple #[]) ∧ Upd (fun b => N ≤ b ∧ b < M) w w' := by
  obtain ⟨lv, ⟨ha, hc, hs⟩, ri, ⟨ka, kc, K⟩, ⟨va, vc, V⟩, ⟨ca, cc, C⟩⟩ := n
  obtain ⟨h1, h2, h3, h4⟩ := hn
  simp only at h1 h2 h3 h4
  simp only [Nd.v, Tx.v, TL.v, IL.v]
  generalize hs.length = lh at *
  generalize K.length = lk at *
  generalize V.length = lw at *
  generalize C.length = lc at *
  obtain ⟨w0, hw0⟩ : ∃ w0, w0 = w.alloc (.cells #[.int .i64 lv, .slice ha lh hc, .int .i64 ri, .slice ka lk kc, .slice va lw vc, .slice ca lc cc] 30) := ⟨_, rfl⟩
  have mv : ∀ b, N ≤ b → b < M → w0.heap[b]? = w.heap[b]? := fun b _ h => by rw [hw0]; exact Below.heap_alloc _ _ _ (by omega)
  have S0 : Hid (SpS w w0 N M w.heap.size lv ri ha ka va ca hc kc vc cc lh lk lw lc) := ⟨by rw [hw0]; exact heap_alloc_new w _, h1.move mv, h2.move mv, h3.move mv, h4.move mv, by rw [hw0]; exact (Upd.refl _ w).alloc _⟩
  have z1 := h1.1
  have z2 := h2.1
  have z3 := h3.1
  have z4 := h4.1
  have HW0 := hide hw0
  clear hw0 mv h1 h2 h3 h4
  go_enter Try.func15, Try.ntmps15
  go_wp2_with fail
  rw [← HW0.out]
  clear HW0
  go_loopw [2] (fun q wr => ∃ i : Nat, i ≤ lh ∧ q = .int .i64 (i : Int) ∧ Hid (SpS w wr N M w.heap.size lv ri ha ka va ca hc kc vc cc lh lk lw lc)) (fun q _ => lh - (intOf q).toNat)
  case atStart => exact ⟨0, Nat.zero_le _, rfl, S0⟩
  case round =>
    clear S0
    obtain ⟨i, hi, rfl, HI⟩ := hrel
    rename World => wr
    have c1 := (Six.of HI.out.box).2.1
    by_cases hlt : i < lh
    · have j1 : (i : Int) < (lh : Int) := by omega
      have j2 : (0 : Int) ≤ (i : Int) := by omega
      obtain ⟨g, cur, rfl, hN, hg, hsz, hb⟩ := HI.out.h.2.resolve_left (by omega)
      obtain ⟨x, hx⟩ := hb cur[i] (by simp)
      have hcell : wr.cell? ⟨g, i, none⟩ = some (.int .u8 x) := by rw [cell_of_row _ _ _ _ _ _ hg, Array.getElem?_eq_getElem (by omega), hx]
      have hfr : wr.frozen? ⟨g, i, none⟩ = false := by simp [World.frozen?, hg]
      have HNX := hide (fun y => HI.out.byte (k := i) hN hg hb y)
      clear hg hx hb HI hsz
      go_wp2_with fail
      go_roundw
      case rel => exact ⟨i + 1, by omega, by go_num, HNX.out _⟩
      case measure => simp [intOf]; omega
    · have j1 : ¬ (i : Int) < (lh : Int) := by omega
      go_wp2_with fail
      clear c1 j1 hlt
      go_loopw [3] (fun q wr => ∃ i : Nat, i ≤ lk ∧ q = .int .i64 (i : Int) ∧ Hid (SpS w wr N M w.heap.size lv ri ha ka va ca hc kc vc cc lh lk lw lc)) (fun q _ => lk - (intOf q).toNat)
      case atStart => exact ⟨0, Nat.zero_le _, rfl, HI⟩
      case round =>
        clear HI
        clear hi
        obtain ⟨i, hi, rfl, HI⟩ := hrel
        rename World => wr
        have c1 := (Six.of HI.out.box).2.2.2.1
        by_cases hlt : i < lk
        · have j1 : (i : Int) < (lk : Int) := by omega
          have j2 : (0 : Int) ≤ (i : Int) := by omega
          obtain ⟨g, cur, hae, hN, hg, hsz, hel⟩ := HI.out.k.2.resolve_left (by omega)
          subst hae
          obtain ⟨ta, tl, tc, hq, hbk⟩ := hel i hlt
          have htl := hbk.1
          have HTC : Hid (wr.cell? ⟨g, i, none⟩ = some (.slice ta tl tc)) := by show _ = _; rw [cell_of_row _ _ _ _ _ _ hg]; exact hq
          have HBK : Hid (Bk wr N M ta tl) := hbk
          have HGT : Hid (∃ cur, wr.heap[g]? = some (.cells cur 22 (0, 0))) := ⟨cur, hg⟩
          clear hg hsz hel hq hbk
          go_wp2_with fail
          clear c1 j1
          rename World => wo
          go_loopw [4] (fun q wr => ∃ k : Nat, k ≤ tl ∧ q = .int .i64 (k : Int) ∧ Hid (SpS w wr N M w.heap.size lv ri ha (some ⟨g, 0, none⟩) va ca hc kc vc cc lh lk lw lc) ∧ Hid (wr.cell? ⟨g, i, none⟩ = some (.slice ta tl tc)) ∧ Hid (Bk wr N M ta tl) ∧ Hid (∃ cur, wr.heap[g]? = some (.cells cur 22 (0, 0)))) (fun q _ => tl - (intOf q).toNat)
          case atStart => exact ⟨0, Nat.zero_le _, rfl, HI, HTC, HBK, HGT⟩
          case round =>
            clear HI HTC HBK HGT
            obtain ⟨k, hk, rfl, HI, HTC, HBK, HGT⟩ := hrel
            rename World => wr
            have c1 := (Six.of HI.out.box).2.2.2.1
            have c2 := HTC.out
            have j3 : (i : Int) < (lk : Int) := by omega
            by_cases hlk : k < tl
            · have j4 : (k : Int) < (tl : Int) := by omega
              have j5 : (0 : Int) ≤ (k : Int) := by omega
              obtain ⟨g2, cs, rfl, hN2, hg2, hsz2, hb2⟩ := HBK.out.2.resolve_left (by omega)
              obtain ⟨x, hx⟩ := hb2 cs[k] (by simp)
              have hcell : wr.cell? ⟨g2, k, none⟩ = some (.int .u8 x) := by rw [cell_of_row _ _ _ _ _ _ hg2, Array.getElem?_eq_getElem (by omega), hx]
              have hfr : wr.frozen? ⟨g2, k, none⟩ = false := by simp [World.frozen?, hg2]
              have HNX := hide (fun y => HI.out.byte (k := k) hN2 hg2 hb2 y)
              have hne : g ≠ g2 := fun e => by obtain ⟨c', h'⟩ := HGT.out; rw [e, hg2] at h'; simp at h'
              have HN1 : Hid (∀ y : Int, (wr.setCell ⟨g2, k, none⟩ (.int .u8 y)).cell? ⟨g, i, none⟩ = some (.slice (some ⟨g2, 0, none⟩) tl tc)) := fun y => ((Upd.refl (fun b => b = g2) wr).setCell ⟨g2, k, none⟩ (.int .u8 y) (fun _ => rfl)).cell HTC.out hne
              have HN2 := hide (fun y => HBK.out.byte (k := k) hg2 hb2 y)
              have HN3 : Hid (∀ y : Int, ∃ cur, (wr.setCell ⟨g2, k, none⟩ (.int .u8 y)).heap[g]? = some (.cells cur 22 (0, 0))) := fun y => by obtain ⟨c', h'⟩ := HGT.out; exact ⟨c', (Below.heap_setCell _ _ _ _ hne).trans h'⟩
              clear hg2 hx hb2 HI hsz2 HTC HBK HGT
              go_wp2_with fail
              go_roundw
              case rel => exact ⟨k + 1, by omega, by go_num, HNX.out _, HN1.out _, HN2.out _, HN3.out _⟩
              case measure => simp [intOf]; omega
            · have j4 : ¬ (k : Int) < (tl : Int) := by omega
              obtain ⟨cu, hcu⟩ := HGT.out
              have hfr : wr.frozen? ⟨g, i, none⟩ = false := by simp [World.frozen?, hcu]
              have HNX := hide (HI.out.nil (k := i) hN hcu)
              clear hcu HI HTC HBK HGT
              go_wp2_with fail
              go_roundw
              case rel => exact ⟨i + 1, by omega, by go_num, HNX⟩
              case measure => simp [intOf]; omega
        · have j1 : ¬ (i : Int) < (lk : Int) := by omega
          go_wp2_with fail
          clear c1 j1 hlt
          go_loopw [5] (fun q wr => ∃ i : Nat, i ≤ lw ∧ q = .int .i64 (i : Int) ∧ Hid (SpS w wr N M w.heap.size lv ri ha ka va ca hc kc vc cc lh lk lw lc)) (fun q _ => lw - (intOf q).toNat)
          case atStart => exact ⟨0, Nat.zero_le _, rfl, HI⟩
          case round =>
            clear HI
            clear hi
            obtain ⟨i, hi, rfl, HI⟩ := hrel
            rename World => wr
            have c1 := (Six.of HI.out.box).2.2.2.2.1
            by_cases hlt : i < lw
            · have j1 : (i : Int) < (lw : Int) := by omega
              have j2 : (0 : Int) ≤ (i : Int) := by omega
              obtain ⟨g, cur, hae, hN, hg, hsz, hel⟩ := HI.out.v.2.resolve_left (by omega)
              subst hae
              obtain ⟨ta, tl, tc, hq, hbk⟩ := hel i hlt
              have htl := hbk.1
              have HTC : Hid (wr.cell? ⟨g, i, none⟩ = some (.slice ta tl tc)) := by show _ = _; rw [cell_of_row _ _ _ _ _ _ hg]; exact hq
              have HBK : Hid (Bk wr N M ta tl) := hbk
              have HGT : Hid (∃ cur, wr.heap[g]? = some (.cells cur 22 (0, 0))) := ⟨cur, hg⟩
              clear hg hsz hel hq hbk
              go_wp2_with fail
              clear c1 j1
              rename World => wo
              go_loopw [6] (fun q wr => ∃ k : Nat, k ≤ tl ∧ q = .int .i64 (k : Int) ∧ Hid (SpS w wr N M w.heap.size lv ri ha ka (some ⟨g, 0, none⟩) ca hc kc vc cc lh lk lw lc) ∧ Hid (wr.cell? ⟨g, i, none⟩ = some (.slice ta tl tc)) ∧ Hid (Bk wr N M ta tl) ∧ Hid (∃ cur, wr.heap[g]? = some (.cells cur 22 (0, 0)))) (fun q _ => tl - (intOf q).toNat)
              case atStart => exact ⟨0, Nat.zero_le _, rfl, HI, HTC, HBK, HGT⟩
              case round =>
                clear HI HTC HBK HGT
                obtain ⟨k, hk, rfl, HI, HTC, HBK, HGT⟩ := hrel
                rename World => wr
                have c1 := (Six.of HI.out.box).2.2.2.2.1
                have c2 := HTC.out
                have j3 : (i : Int) < (lw : Int) := by omega
                by_cases hlk : k < tl
                · have j4 : (k : Int) < (tl : Int) := by omega
                  have j5 : (0 : Int) ≤ (k : Int) := by omega
                  obtain ⟨g2, cs, rfl, hN2, hg2, hsz2, hb2⟩ := HBK.out.2.resolve_left (by omega)
                  obtain ⟨x, hx⟩ := hb2 cs[k] (by simp)
                  have hcell : wr.cell? ⟨g2, k, none⟩ = some (.int .u8 x) := by rw [cell_of_row _ _ _ _ _ _ hg2, Array.getElem?_eq_getElem (by omega), hx]
                  have hfr : wr.frozen? ⟨g2, k, none⟩ = false := by simp [World.frozen?, hg2]
                  have HNX := hide (fun y => HI.out.byte (k := k) hN2 hg2 hb2 y)
                  have hne : g ≠ g2 := fun e => by obtain ⟨c', h'⟩ := HGT.out; rw [e, hg2] at h'; simp at h'
                  have HN1 : Hid (∀ y : Int, (wr.setCell ⟨g2, k, none⟩ (.int .u8 y)).cell? ⟨g, i, none⟩ = some (.slice (some ⟨g2, 0, none⟩) tl tc)) := fun y => ((Upd.refl (fun b => b = g2) wr).setCell ⟨g2, k, none⟩ (.int .u8 y) (fun _ => rfl)).cell HTC.out hne
                  have HN2 := hide (fun y => HBK.out.byte (k := k) hg2 hb2 y)
                  have HN3 : Hid (∀ y : Int, ∃ cur, (wr.setCell ⟨g2, k, none⟩ (.int .u8 y)).heap[g]? = some (.cells cur 22 (0, 0))) := fun y => by obtain ⟨c', h'⟩ := HGT.out; exact ⟨c', (Below.heap_setCell _ _ _ _ hne).trans h'⟩
                  clear hg2 hx hb2 HI hsz2 HTC HBK HGT
                  go_wp2_with fail
                  go_roundw
                  case rel => exact ⟨k + 1, by omega, by go_num, HNX.out _, HN1.out _, HN2.out _, HN3.out _⟩
                  case measure => simp [intOf]; omega
                · have j4 : ¬ (k : Int) < (tl : Int) := by omega
                  obtain ⟨cu, hcu⟩ := HGT.out
                  have hfr : wr.frozen? ⟨g, i, none⟩ = false := by simp [World.frozen?, hcu]
                  have HNX := hide (HI.out.nil (k := i) hN hcu)
                  clear hcu HI HTC HBK HGT
                  go_wp2_with fail
                  go_roundw
                  case rel => exact ⟨i + 1, by omega, by go_num, HNX⟩
                  case measure => simp [intOf]; omega
            · have j1 : ¬ (i : Int) < (lw : Int) := by omega
              go_wp2_with fail
              clear c1 j1 hlt
              go_loopw [7] (fun q wr => ∃ i : Nat, i ≤ lc ∧ q = .int .i64 (i : Int) ∧ Hid (SpS w wr N M w.heap.size lv ri ha ka va ca hc kc vc cc lh lk lw lc)) (fun q _ => lc - (intOf q).toNat)
              case atStart => exact ⟨0, Nat.zero_le _, rfl, HI⟩
              case round =>
                clear HI
                clear hi
                obtain ⟨i, hi, rfl, HI⟩ := hrel
                rename World => wr
                have c1 := (Six.of HI.out.box).2.2.2.2.2
                by_cases hlt : i < lc
                · have j1 : (i : Int) < (lc : Int) := by omega
                  have j2 : (0 : Int) ≤ (i : Int) := by omega
                  obtain ⟨g, cur, hae, hN, hg, hsz, hel⟩ := HI.out.c.2.resolve_left (by omega)
                  subst hae
                  obtain ⟨x, hq⟩ := hel i hlt
                  have hcell : wr.cell? ⟨g, i, none⟩ = some (.int .i64 x) := by rw [cell_of_row _ _ _ _ _ _ hg]; exact hq
                  have hfr : wr.frozen? ⟨g, i, none⟩ = false := by simp [World.frozen?, hg]
                  have HNX := hide (fun y => HI.out.int (k := i) hN hg y)
                  clear hg hsz hel hq HI
                  go_wp2_with fail
                  go_roundw
                  case rel => exact ⟨i + 1, by omega, by go_num, HNX.out _⟩
                  case measure => simp [intOf]; omega
                · have j1 : ¬ (i : Int) < (lc : Int) := by omega
                  go_wp2_with fail
                  go_end0
                  exact ⟨rfl, HI.out.up⟩

end Go.Proofs.Ytclgimklfejohaa
