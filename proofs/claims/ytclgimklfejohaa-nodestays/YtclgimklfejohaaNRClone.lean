/- The document's bytes, Texts, Clone. -/
import Derived.Test.YtclgimklfejohaaNWith
namespace Go.Proofs.Ytclgimklfejohaa
open Go.RowKit

set_option maxHeartbeats 800000 in
theorem rbytes_any (a : Option Addr) (len cap : Nat) (zs : List Int) (w : World) (hl : zs.length = len) (hm : len ≤ 140737488355328) (hn : a = none → len = 0 ∧ cap = 0) (hr : Row w .u8 a zs) :
    Calls Try.prog 33 #[.slice a len cap] w fun e w' => ∃ v, e = .returned v ∧ OwnB w' w.heap.size 5 v zs ∧ Below w.heap.size w w' := by
  obtain ⟨i0, hi, hz0, hz1, hz2⟩ := info_parts infoByte'
  have HR := hide hr
  have HN := hide hn
  clear hr hn
  go_enter Try.func33, Try.ntmps33
  go_wp2_with (first
    | (at_builtin; refine append_b rfl (.tmp 3) (.tmp 4) 22 rfl w.heap.size 5 i0 Try.underlying22 hi hz0 hz1 hz2 (.slice (some ⟨w.heap.size, 0, none⟩) 0 0) [] rfl (OwnB.made #[] 0 (Nat.le_refl _) (by unfold maxLen; omega) rfl (by intro u hu; cases hu)) a len cap zs rfl hl HN.out (HR.out.alloc _) (by simp; omega) (by simp) ?_; intro v4 w4 hown4 hg4; simp only [List.nil_append] at hown4)
    | fail)
  go_ret
  exact ⟨v4, rfl, hown4, ((Below.refl _ _).alloc (Nat.le_refl _) _).grown hg4 (by simp) (fun k h => by cases h; exact Nat.le_refl _)⟩

theorem ownB_grown {W W' : World} {N M : Nat} {x : Tx} {v : Value} {n : Nat} {xs : List Value} (h : OwnB W N 5 x.v x.s) (ho : W.ownsRow M 22 1 v n xs) (hg : W.grownBy W' v.ownBlock) : OwnB W' N 5 x.v x.s := by
  refine h.kept hg fun k hk e => ?_
  rcases ho.2 with ⟨hv, _⟩ | ⟨g, c, cur, hv, _, hh, _⟩
  · rw [hv] at e; cases e
  · rw [hv] at e
    have : k = g := by simpa [Value.ownBlock] using e
    exact typ_ne h hh k hk this

/-- While Texts goes on. -/
structure RtI (w W : World) (v : Value) (L C : List Tx) : Prop where
  le : C.length ≤ L.length
  row : W.ownsRow w.heap.size 22 1 v C.length (C.map Tx.v)
  each : ∀ x ∈ C, OwnB W w.heap.size 5 x.v x.s
  s : C.map (·.s) = (L.take C.length).map (·.s)
  b : Below w.heap.size w W

set_option maxRecDepth 100000 in
set_option maxHeartbeats 1600000 in
theorem rtexts_any (a : Option Addr) (l c : Nat) (L : List Tx) (w : World) (ht : (⟨a, c, L⟩ : TL).Ok w) (hl : L.length = l) (hm : l * 24 ≤ 140737488355000) :
    Calls Try.prog 34 #[.slice a l c] w (CtP w L l) := by
  obtain ⟨i0, hi, hz0, hz1, hz2⟩ := info_parts infoT
  have HT : Hid (∀ W, Below w.heap.size w W → (⟨a, c, L⟩ : TL).Ok W) := fun W h => ht.below h
  replace hl := hide hl
  clear ht
  go_enter Try.func34, Try.ntmps34
  go_wp2_with fail
  go_loopw [3, 4] (fun q3 q4 wr => ∃ (v : Value) (C : List Tx), q3 = v ∧ q4 = .int .i64 (C.length : Nat) ∧ Hid (RtI w wr v L C)) (fun _ q4 _ => l - (intOf q4).toNat)
  case atStart => exact ⟨_, [], rfl, rfl, ⟨Nat.zero_le _, World.ownsRow_nil _ _ _ _, fun x hx => (by cases hx), rfl, Below.refl _ _⟩⟩
  case round =>
    obtain ⟨v, C, rfl, rfl, HI⟩ := hrel
    rename World => wr
    have hle := HI.out.le
    rw [hl.out] at hle
    obtain ⟨i, hic⟩ : ∃ i, C.length = i := ⟨_, rfl⟩
    rw [hic] at hle ⊢
    replace hic := hide hic
    obtain ⟨va, vc, hve, hvok, hvf⟩ := vok_of_owns HI.out.row
    rw [hic.out] at hve
    subst hve
    by_cases hlt : i < l
    · have j1 : (i : Int) < (l : Int) := by omega
      have hiL : i < L.length := by rw [hl.out]; exact hlt
      have hT := HT.out wr HI.out.b
      obtain ⟨b, o, ha, s0⟩ := hT.r i hiL
      simp only at ha
      subst ha
      have OK := hide (hT.ok L[i] (List.getElem_mem hiL))
      obtain ⟨x, hx⟩ : ∃ x, x = L[i] := ⟨_, rfl⟩
      simp only [← hx] at s0 OK
      have HX := hide hx
      unfold Tx.v at s0
      obtain ⟨nk, hnk⟩ : ∃ nk, x.s.length = nk := ⟨_, rfl⟩
      rw [hnk] at s0
      have HBY := hide (rbytes_any x.a nk x.c x.s wr hnk (by have := OK.out.z; omega) (by have := OK.out.n; rw [hnk] at this; exact this) OK.out.r)
      replace hnk := hide hnk
      have HRW : Hid (wr.ownsRow w.heap.size 22 1 (.slice va i vc) i (C.map Tx.v)) := by have := HI.out.row; rw [hic.out] at this; exact this
      clear hT hx hvok hvf
      go_wp2_with fail
      refine HBY.out.mono ?_
      rintro e w2 ⟨v2, rfl, hv2, hb2⟩
      obtain ⟨na, nc, hve, _, _, _⟩ := hv2.slice
      rw [hnk.out] at hve
      subst hve
      have V2 := hide hv2
      have B2 := hide hb2
      have R2 := hide (owns_below HRW.out hb2)
      clear hv2 hb2 HBY s0
      have hsz := B2.out.size
      have hsw := HI.out.b.size
      go_wp2_with (first
        | (at_builtin; refine append_own_any rfl (.tmp 11) (.tmp 17) 25 rfl w.heap.size 22 i0 (.slice none 0 0) 1 24 Try.underlying25 hi hz0 hz1 hz2 rfl (by decide) (.slice va i vc) i (C.map Tx.v) rfl (owns_below R2.out ((Below.refl _ _).alloc (Nat.le_refl _) _)) (some ⟨w2.heap.size, 0, none⟩) 1 1 [.slice na nk nc] rfl rfl (by intro h; cases h) (by intro ad had; cases had; exact one_new _ _ _) (by intro u hu; simp at hu; subst hu; rfl) (by unfold maxLen; omega) (by omega) (by simp; omega) ?_; intro v5 w5 hown5 hg5; have HO5 := hide hown5; have HG5 := hide hg5; clear hown5 hg5)
        | fail)
      have HNEW : Hid (RtI w w5 v5 L (C ++ [⟨na, nc, x.s⟩])) := by
        have hci := hic.out
        have hnv : (⟨na, nc, x.s⟩ : Tx).v = .slice na nk nc := by simp only [Tx.v, hnk.out]
        have bA : Below w2.heap.size w2 (w2.alloc (.cells #[.slice na nk nc] 22)) := (Below.refl _ _).alloc (Nat.le_refl _) _
        have RA := owns_below R2.out bA
        refine ⟨by rw [List.length_append, List.length_singleton, hci, hl.out]; omega, ?_, ?_, ?_, ?_⟩
        · rw [List.length_append, List.length_singleton, hci, List.map_append, List.map_singleton, hnv]
          exact HO5.out
        · intro y hy
          rcases List.mem_append.1 hy with hy | hy
          · exact ownB_grown (((HI.out.each y hy).below B2.out).below bA) RA HG5.out
          · obtain rfl : y = ⟨na, nc, x.s⟩ := by simpa using hy
            have h1 : OwnB w2 w.heap.size 5 (⟨na, nc, x.s⟩ : Tx).v x.s := by rw [hnv]; exact V2.out.mono HI.out.b.size
            exact ownB_grown (h1.below bA) RA HG5.out
        · rw [List.map_append, HI.out.s, List.length_append, List.length_singleton, hci, take_next hiL, List.map_append, HX.out]
          rfl
        · exact ((HI.out.b.trans (B2.out.mono HI.out.b.size)).trans (bA.mono (by omega))).grown HG5.out (by simp; omega) (fun k h => (RA.lt k h).1)
      clear V2 B2 R2 HO5 HG5
      go_wp2_with fail
      go_roundw
      case rel => exact ⟨_, _, rfl, by rw [List.length_append, List.length_singleton, hic.out]; go_num, HNEW⟩
      case measure => simp [intOf]; omega
    · have j1 : ¬ (i : Int) < (l : Int) := by omega
      obtain rfl : i = l := by omega
      have HF : Hid (CtP w L i (.returned (.slice va i vc)) wr) := by
        have hs := HI.out.s
        rw [List.take_of_length_le (by rw [hl.out, hic.out]; exact Nat.le_refl _)] at hs
        have hr := HI.out.row
        rw [hic.out] at hr
        refine ⟨va, vc, C, rfl, hs, hic.out, ⟨by simp only [TL.v, hic.out]; exact hr, HI.out.each, fun x hx => ?_⟩, HI.out.b⟩
        have : x.s ∈ L.map (·.s) := by rw [← hs]; exact List.mem_map.2 ⟨x, hx, rfl⟩
        obtain ⟨y, hy, hys⟩ := List.mem_map.1 this
        have := (HT.out w (Below.refl _ _)).ok y hy
        rw [← hys]
        exact ⟨this.b8, this.z⟩
      go_wp2_with fail
      go_ret
      exact HF.out

end Go.Proofs.Ytclgimklfejohaa
