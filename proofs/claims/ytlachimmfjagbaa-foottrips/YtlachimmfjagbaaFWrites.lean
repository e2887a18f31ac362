/- FootWrites: the walk. -/
import Derived.Test.YtlachimmfjagbaaFBytes
import Derived.Test.YtlachimmfjagbaaFSame
import Derived.Test.YtlachimmfjagbaaCSpoil
namespace Go.Proofs.Ytlachimmfjagbaa
open Go.RowKit

def fzs (l : List FRow) (er : Int) : List Int := if er = 0 then footB l else []
theorem FByPost.tell {w w' : World} {l : List FRow} {e : Ending} {m : Nat} {er : Int} (h : FByPost w l e w') (k : IsChk l m er) : ∃ v, e = .returned (.tuple #[v, .int .i64 er, .int .i64 (m : Int)]) ∧ OwnB w' w.heap.size 5 v (fzs l er) ∧ Below w.heap.size w w' := by
  obtain ⟨m', er', hk, hc, hb⟩ := h
  obtain ⟨rfl, rfl⟩ := hk.uniq k
  rcases hc with ⟨h0, rfl⟩ | ⟨h0, v, rfl, ho⟩
  · exact ⟨_, rfl, by unfold fzs; rw [if_neg h0]; exact OwnB.nil _ _ _, hb⟩
  · obtain ⟨_, _, h3⟩ := hk.ok h0
    subst h0 h3
    exact ⟨v, rfl, by unfold fzs; rw [if_pos rfl]; exact ho, hb⟩
theorem footB_len {l : List FRow} (hl : l.length ≤ 8388608) (h : Gd l l.length) : (footB l).length ≤ 1000000000 := by
  have := fpre_len h hl hl
  have := totN_le h
  have := (enc_len_le (totN l l.length) (by omega)).2
  unfold footB
  rw [List.length_append]
  omega
theorem fzs_len {l : List FRow} {m : Nat} {er : Int} (k : IsChk l m er) : (fzs l er).length ≤ 1000000000 := by
  unfold fzs
  split
  · rename_i h
    obtain ⟨h1, h2, _⟩ := k.ok h
    exact footB_len h1 h2
  · simp

theorem sps_nil (w : World) : Sps w 0 0 [] := ⟨fun i h => absurd h (Nat.not_lt_zero i), fun i h => absurd h (Nat.not_lt_zero i)⟩
theorem chk_nil : IsChk [] 0 0 := .inr ⟨by simp, .inr ⟨fun _ h => absurd h (Nat.not_lt_zero _), rfl, rfl⟩⟩
set_option maxHeartbeats 800000 in
theorem flives_any (w : World) :
    Calls Try.prog 8 #[] w fun e w' => e = .returned (.bool true) ∧ Below w.heap.size w w' := by
  have HB := hide (fbytes_any none 0 0 0 0 [] w rfl (by omega) (fun h => absurd h (by omega)) (sps_nil w))
  go_enter Try.func8, Try.ntmps8
  go_wp2_with fail
  refine HB.out.mono ?_
  rintro e w1 h
  obtain ⟨v, rfl, ho, hb⟩ := h.tell chk_nil
  have h2 : (fzs (rws []) 0).length = 2 := by decide
  obtain ⟨a, c, rfl, _⟩ := ho.sliceN h2
  have HBB := hide hb
  clear ho hb h h2
  go_wp2_with fail
  go_ret
  exact ⟨rfl, HBB.out⟩

set_option maxRecDepth 100000 in
set_option maxHeartbeats 1600000 in
theorem footWrites_any (a : Option Addr) (b o n c : Nat) (L : List Spn) (w : World) (hl : L.length = n) (hm : n * 48 ≤ 140737488351232) (ha : 0 < n → a = some ⟨b, o, none⟩) (hS : Sps w b o L) :
    Calls Try.prog 4 #[.slice a n c] w fun e w' => e = .returned (.bool true) ∧ Below w.heap.size w w' := by
  have HS := hide (fun W (h : Below w.heap.size w W) => hS.below h)
  have HA := hide ha
  have HL := hide hl
  clear hS ha hl
  go_enter Try.func4, Try.ntmps4
  go_wp2_with fail
  refine (flives_any w).mono ?_
  rintro e w1 ⟨rfl, b1⟩
  have B1 := hide b1
  clear b1
  go_wp2_with fail
  refine (rows_any a b o n c L w1 HL.out hm HA.out (HS.out w1 B1.out)).mono ?_
  rintro e w2 ⟨g, cap, C, rfl, hC, hcap, b2⟩
  have B2 : Hid (Below w.heap.size w w2) := B1.out.trans (b2.mono B1.out.size)
  have HC := hide hC
  have HRW : Hid (rws C = rws L) := hC.rws
  have HCL : Hid (C.length = n) := hC.len.trans HL.out
  clear hC b2
  go_wp2_with fail
  refine (fcheck_any (some ⟨g, 0, none⟩) g 0 n cap C w2 HCL.out (by omega) (fun _ => rfl) (HC.out.sps (HS.out w2 B2.out).ok)).mono ?_
  rintro e w3 ⟨m, er, rfl, hck, b3⟩
  rw [HRW.out] at hck
  have CK := hide hck
  have B3 : Hid (Below w.heap.size w w3) := B2.out.trans (b3.mono B2.out.size)
  have HC3 := hide (HC.out.below b3)
  clear hck b3 HC
  go_wp2_with fail
  refine (rfcheck_any a b o n c L w3 HL.out (by omega) HA.out (HS.out w3 B3.out)).mono ?_
  rintro e w4 ⟨m', er', rfl, hck', b4⟩
  obtain ⟨rfl, rfl⟩ := CK.out.uniq hck'
  have B4 : Hid (Below w.heap.size w w4) := B3.out.trans (b4.mono B3.out.size)
  have HC4 := hide (HC3.out.below b4)
  clear hck' b4 HC3
  go_wp2_with fail
  refine (fbytes_any (some ⟨g, 0, none⟩) g 0 n cap C w4 HCL.out (by omega) (fun _ => rfl) (HC4.out.sps (HS.out w4 B4.out).ok)).mono ?_
  rintro e w5 h5
  rw [HRW.out] at h5
  obtain ⟨v5, rfl, ho5, b5⟩ := h5.tell CK.out
  obtain ⟨nz, hnz⟩ : ∃ nz, (fzs (rws L) er).length = nz := ⟨_, rfl⟩
  have hnb : nz ≤ 1000000000 := by rw [← hnz]; exact fzs_len CK.out
  obtain ⟨a5, c5, rfl, _, _, hu5⟩ := ho5.sliceN hnz
  have O5 := hide ho5
  have U5 := hide hu5
  have BB5 := hide b5
  have HC5 := hide (HC4.out.below b5)
  have B5 : Hid (Below w.heap.size w w5) := B4.out.trans (b5.mono B4.out.size)
  have HNZ := hide hnz
  clear h5 ho5 hu5 b5 hnz
  go_wp2_with fail
  refine (fbytes_any (some ⟨g, 0, none⟩) g 0 n cap C w5 HCL.out (by omega) (fun _ => rfl) (HC5.out.sps (HS.out w5 B5.out).ok)).mono ?_
  rintro e w6 h6
  rw [HRW.out] at h6
  obtain ⟨v6, rfl, ho6, b6⟩ := h6.tell CK.out
  obtain ⟨a6, c6, rfl, _, _, hu6⟩ := ho6.sliceN HNZ.out
  have O6 := hide ho6
  have U6 := hide hu6
  have BB6 : Hid (Below w4.heap.size w4 w6) := BB5.out.trans (b6.mono BB5.out.size)
  have O56 := hide (O5.out.below b6)
  have B6 : Hid (Below w.heap.size w w6) := B5.out.trans (b6.mono B5.out.size)
  have z6 := b6.size
  clear h6 ho6 hu6 b6 HC5 O5
  go_wp2_with fail
  refine (rfbytes_any a b o n c L w6 HL.out (by omega) HA.out (HS.out w6 B6.out)).mono ?_
  rintro e w7 h7
  obtain ⟨v7, rfl, ho7, b7⟩ := h7.tell CK.out
  obtain ⟨a7, c7, rfl, _, _, hu7⟩ := ho7.sliceN HNZ.out
  have O7 := hide ho7
  have U7 := hide hu7
  have BB7 : Hid (Below w4.heap.size w4 w7) := BB6.out.trans (b7.mono BB6.out.size)
  have O57 := hide (O56.out.below b7)
  have O67 := hide (O6.out.below b7)
  clear h7 ho7 hu7 b7 O56 O6
  go_wp2_with fail
  refine (same_any a5 a7 nz c5 nz c7 (fzs (rws L) er) (fzs (rws L) er) w7 (by unfold maxLen; omega) HNZ.out HNZ.out O57.out.row O7.out.row).mono ?_
  rintro e w8 ⟨rfl, s8⟩
  rw [decide_eq_true rfl]
  have b8 := s8.below w7.heap.size
  have BB8 : Hid (Below w4.heap.size w4 w8) := BB7.out.trans (b8.mono BB7.out.size)
  have O58 := hide (O57.out.below b8)
  have O68 := hide (O67.out.below b8)
  have O78 := hide (O7.out.below b8)
  clear s8 b8 O57 O67
  go_wp2_with fail
  refine (spoil_any O58.out).mono ?_
  rintro e w9 ⟨rfl, gg⟩
  have ug : Upd (fun i => (Value.slice a5 nz c5).ownBlock = some i) w8 w9 := Upd.of_grown gg (fun k hk _ => hk)
  have BB9 : Hid (Below w4.heap.size w4 w9) := BB8.out.trans (ug.below BB8.out.size (fun k hk e => by have := (U5.out k e).1; omega))
  have O69 := hide (O68.out.upd ug (fun k h6 h5 => by have := (U5.out k h5).2; have := (U6.out k h6).1; omega))
  have O79 := hide (O78.out.upd ug (fun k h7 h5 => by have := (U5.out k h5).2; have := (U7.out k h7).1; omega))
  clear gg ug O58 O68 O78 O7
  go_wp2_with fail
  refine (same_any a6 a7 nz c6 nz c7 (fzs (rws L) er) (fzs (rws L) er) w9 (by unfold maxLen; omega) HNZ.out HNZ.out O69.out.row O79.out.row).mono ?_
  rintro e w10 ⟨rfl, s10⟩
  rw [decide_eq_true rfl]
  have b10 := s10.below w9.heap.size
  have BB10 : Hid (Below w4.heap.size w4 w10) := BB9.out.trans (b10.mono BB9.out.size)
  have B10 : Hid (Below w.heap.size w w10) := B4.out.trans (BB10.out.mono B4.out.size)
  clear s10 b10
  go_wp2_with fail
  refine (keptrows_any a w1.heap.size g cap b o n c C L w10 HL.out (by omega) hcap (HC4.out.below BB10.out) HA.out (HS.out w10 B10.out)).mono ?_
  rintro e w11 ⟨rfl, b11⟩
  have B11 : Hid (Below w.heap.size w w11) := B10.out.trans (b11.mono B10.out.size)
  clear b11
  go_wp2_with fail
  go_ret
  exact ⟨rfl, B11.out⟩

end Go.Proofs.Ytlachimmfjagbaa
