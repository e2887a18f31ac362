/- arena: copyList, copyTexts, copyHead, copyBody. -/
import Derived.Test.YtfpogjgbmibmcaaNClone2
namespace Go.Proofs.Ytfpogjgbmibmcaa
open Go.RowKit

/-- A list of one's own. -/
def LiPost (w : World) (t : TypeId) (xs : List Value) (e : Ending) (w' : World) : Prop :=
  ∃ v, e = .returned v ∧ w'.ownsRow w.heap.size t 1 v xs.length xs ∧ Below w.heap.size w w'
set_option maxHeartbeats 800000 in
theorem clistT_any (a : Option Addr) (n c : Nat) (xs : List Value) (w : World) (hl : xs.length = n) (h : VOk w a c xs) (h1 : ∀ u ∈ xs, u.oneCell' = true) (hm : n * 24 ≤ 140737488355000) :
    Calls Try.prog 70 #[.slice a n c] w (LiPost w 29 xs) := by
  obtain ⟨i0, hi, hz0, hz1, hz2⟩ := info_parts infoT
  have HV := hide h
  have HL := hide hl
  have HN : Hid (a = none → n = 0 ∧ c = 0) := fun e => by have := h.n e; rw [hl] at this; exact this
  clear h hl
  go_enter Try.func70, Try.ntmps70
  go_wp2_with (first
    | (at_builtin; refine append_own_any rfl (.const (.slice none 0 0)) (.tmp 3) 32 rfl w.heap.size 29 i0 (.slice none 0 0) 1 24 Try.underlying32 hi hz0 hz1 hz2 rfl (by decide) (.slice none 0 0) 0 [] rfl (World.ownsRow_nil _ _ _ _) a n c xs rfl (by rw [HL.out]; omega) HN.out HV.out.r.news h1 (by unfold maxLen; omega) (by omega) (Nat.le_refl _) ?_; intro v4 w4 hown4 hg4; have HO4 := hide hown4; have HG4 := hide hg4; clear hown4 hg4)
    | fail)
  go_ret
  refine ⟨v4, rfl, ?_, (Below.refl _ _).grown HG4.out (Nat.le_refl _) (fun k hk => by cases hk)⟩
  have := HO4.out
  simp only [List.nil_append, Nat.zero_add] at this
  rw [HL.out]; exact this
set_option maxHeartbeats 800000 in
theorem clistI_any (a : Option Addr) (n c : Nat) (xs : List Value) (w : World) (hl : xs.length = n) (h : VOk w a c xs) (h1 : ∀ u ∈ xs, u.oneCell' = true) (hm : n * 8 ≤ 140737488355000) :
    Calls Try.prog 64 #[.slice a n c] w (LiPost w 3 xs) := by
  obtain ⟨i0, hi, hz0, hz1, hz2⟩ := info_parts infoI
  have HV := hide h
  have HL := hide hl
  have HN : Hid (a = none → n = 0 ∧ c = 0) := fun e => by have := h.n e; rw [hl] at this; exact this
  clear h hl
  go_enter Try.func64, Try.ntmps64
  go_wp2_with (first
    | (at_builtin; refine append_own_any rfl (.const (.slice none 0 0)) (.tmp 3) 33 rfl w.heap.size 3 i0 (.int .i64 0) 1 8 Try.underlying33 hi hz0 hz1 hz2 rfl (by decide) (.slice none 0 0) 0 [] rfl (World.ownsRow_nil _ _ _ _) a n c xs rfl (by rw [HL.out]; omega) HN.out HV.out.r.news h1 (by unfold maxLen; omega) (by omega) (Nat.le_refl _) ?_; intro v4 w4 hown4 hg4; have HO4 := hide hown4; have HG4 := hide hg4; clear hown4 hg4)
    | fail)
  go_ret
  refine ⟨v4, rfl, ?_, (Below.refl _ _).grown HG4.out (Nat.le_refl _) (fun k hk => by cases hk)⟩
  have := HO4.out
  simp only [List.nil_append, Nat.zero_add] at this
  rw [HL.out]; exact this

set_option maxRecDepth 100000 in
set_option maxHeartbeats 1600000 in
theorem copyTexts_any (t : TL) (w : World) (ht : t.Ok w) (hm : t.L.length * 24 ≤ 140737488355000) :
    Calls Try.prog 63 #[t.v] w (CtPost w t.L) := by
  obtain ⟨ka, kc, L⟩ := t
  simp only [TL.v] at hm ⊢
  obtain ⟨l, hl⟩ : ∃ l, L.length = l := ⟨_, rfl⟩
  have HCL := hide (clistT_any ka l kc (L.map Tx.v) w (by rw [List.length_map]; exact hl) ht.vok (tx_oneCell L) (by rw [← hl]; omega))
  have HOK : Hid (∀ W, Below w.heap.size w W → ∀ x ∈ L, x.Ok W) := fun W h x hx => (ht.ok x hx).below h
  rw [hl] at hm ⊢
  replace hl := hide hl
  clear ht
  go_enter Try.func63, Try.ntmps63
  go_wp2_with fail
  refine HCL.out.mono ?_
  rintro e w1 ⟨v, rfl, hown, hb1⟩
  obtain ⟨oa, oc, rfl, _, _⟩ := vok_of_owns hown
  rw [List.length_map, hl.out] at hown ⊢
  have H0 : Hid (CtI w w1 (.slice oa l oc) L []) := ⟨Nat.zero_le _, by rw [hl.out]; simpa using hown, fun x hx => (by cases hx), rfl, hb1⟩
  clear hown hb1 HCL
  go_wp2_with fail
  go_loopw [10] (fun q wr => ∃ C : List Tx, q = .int .i64 (C.length : Nat) ∧ Hid (CtI w wr (.slice oa l oc) L C)) (fun q _ => l - (intOf q).toNat)
  case atStart => exact ⟨[], rfl, H0⟩
  case round =>
    clear H0
    obtain ⟨C, rfl, HI⟩ := hrel
    rename World => wr
    have hle := HI.out.le
    rw [hl.out] at hle
    obtain ⟨i, hi⟩ : ∃ i, C.length = i := ⟨_, rfl⟩
    rw [hi] at hle ⊢
    replace hi := hide hi
    by_cases hlt : i < l
    · have j1 : (i : Int) < (l : Int) := by omega
      have hiL : i < L.length := by rw [hl.out]; exact hlt
      have hrow := HI.out.row
      rw [hi.out, List.drop_eq_getElem_cons hiL, hl.out] at hrow
      obtain ⟨g, rfl, hgN, cur, hg, hcs, hcm⟩ : ∃ g, oa = some ⟨g, 0, none⟩ ∧ w.heap.size ≤ g ∧ ∃ cur, wr.heap[g]? = some (.cells cur 29 (0, 0)) ∧ cur.size = oc ∧ oc ≤ maxLen := by
        rcases hrow.2 with ⟨hv, h0⟩ | ⟨g, cap, cur, hv, hb, hh, h1, h2, h3, h4⟩
        · omega
        · cases hv; exact ⟨g, rfl, hb, cur, hh, by omega, h2⟩
      have s0 := hrow.cells (g := g) rfl i L[i].v (get_mid _ hi.out)
      rw [Addr.add_lit, Nat.zero_add] at s0
      have OK := hide (HOK.out wr HI.out.b L[i] (List.getElem_mem hiL))
      obtain ⟨x, hx⟩ : ∃ x, x = L[i] := ⟨_, rfl⟩
      rw [← hx] at s0 OK hrow
      have HRW := hide hrow
      have HX := hide hx
      have HG := hide hg
      unfold Tx.v at s0
      obtain ⟨nk, hnk⟩ : ∃ nk, x.s.length = nk := ⟨_, rfl⟩
      rw [hnk] at s0
      have hlg := lt_of_block hg
      have HBC := hide (bclone_any x.a nk x.c x.s wr hnk (by have := OK.out.z; omega) (by have := OK.out.n; rw [hnk] at this; exact this) OK.out.r)
      replace hnk := hide hnk
      clear hrow hx hg
      go_wp2_with fail
      refine HBC.out.mono ?_
      rintro e w2 ⟨v2, rfl, hv2, hb2⟩
      obtain ⟨na, nc, hve, _, _, _⟩ := hv2.slice
      rw [hnk.out] at hve
      subst hve
      have c2 : w2.cell? ⟨g, i, none⟩ = some (.slice x.a nk x.c) := (hb2.cell (p := ⟨g, i, none⟩) hlg).trans s0
      have g2 : w2.heap[g]? = some (.cells cur 29 (0, 0)) := (hb2.block g hlg).trans HG.out
      have f2 : w2.frozen? ⟨g, i, none⟩ = false := by simp [World.frozen?, g2]
      have G2 := hide g2
      have V2 := hide hv2
      have B2 := hide hb2
      clear s0 g2 hv2 hb2 HBC
      go_wp2_with fail
      have HNEW : Hid (CtI w (w2.setCell ⟨g, i, none⟩ (.slice na nk nc)) (.slice (some ⟨g, 0, none⟩) l oc) L (C ++ [⟨na, nc, x.s⟩])) := by
        have hci := hi.out
        have hnv : (⟨na, nc, x.s⟩ : Tx).v = .slice na nk nc := by simp only [Tx.v, hnk.out]
        have hbw : Below w.heap.size w w2 := HI.out.b.trans (B2.out.mono HI.out.b.size)
        have U : Upd (fun b => b = g) w2 (w2.setCell ⟨g, i, none⟩ (.slice na nk nc)) := upd_set _ _ _ _ _ rfl
        refine ⟨by rw [List.length_append, List.length_singleton, hci]; omega, ?_, ?_, ?_, ?_⟩
        · have h1 := own_setV (owns_below HRW.out B2.out) i (.slice na nk nc)
          have h2 := set_mid (D := L.drop (i + 1)) x ⟨na, nc, x.s⟩ hci
          rw [hnv] at h2
          rw [h2] at h1
          rw [hl.out, List.length_append, List.length_singleton, hci]
          exact h1
        · intro y hy
          rcases List.mem_append.1 hy with hy | hy
          · exact ((HI.out.each y hy).below B2.out).upd U (typ_ne ((HI.out.each y hy).below B2.out) G2.out)
          · obtain rfl : y = ⟨na, nc, x.s⟩ := by simpa using hy
            have h1 : OwnB w2 w.heap.size 5 (⟨na, nc, x.s⟩ : Tx).v x.s := by rw [hnv]; exact V2.out.mono HI.out.b.size
            exact h1.upd U (typ_ne h1 G2.out)
        · rw [List.map_append, HI.out.s, List.length_append, List.length_singleton, hci, take_next hiL, List.map_append, HX.out]
          rfl
        · exact hbw.trans (U.below (by have := hbw.size; omega) (fun k hk e => by omega))
      clear G2 V2 B2 c2 f2
      go_roundw
      case rel => exact ⟨_, by rw [List.length_append, List.length_singleton, hi.out]; go_num, HNEW⟩
      case measure => simp [intOf]; omega
    · have j1 : ¬ (i : Int) < (l : Int) := by omega
      obtain rfl : i = l := by omega
      have HF : Hid (CtPost w L (.returned (.slice oa i oc)) wr) := by
        have hd : L.drop C.length = [] := List.drop_eq_nil_of_le (by rw [hl.out, hi.out]; exact Nat.le_refl _)
        have hs := HI.out.s
        rw [List.take_of_length_le (by rw [hl.out, hi.out]; exact Nat.le_refl _)] at hs
        have hr := HI.out.row
        rw [hd, List.append_nil, hl.out] at hr
        refine ⟨⟨oa, oc, C⟩, by simp only [TL.v, hi.out], hs, ⟨by simp only [TL.v, hi.out]; exact hr, HI.out.each, fun x hx => ?_⟩, HI.out.b⟩
        have : x.s ∈ L.map (·.s) := by rw [← hs]; exact List.mem_map.2 ⟨x, hx, rfl⟩
        obtain ⟨y, hy, hys⟩ := List.mem_map.1 this
        have := HOK.out w (Below.refl _ _) y hy
        rw [← hys]
        exact ⟨this.b8, this.z⟩
      go_wp2_with fail
      go_ret
      exact HF.out


end Go.Proofs.Ytfpogjgbmibmcaa
