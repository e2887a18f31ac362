/- The document's put and cut of lists of texts. -/
import Derived.Test.YteciiehnoakgdaaNRClone2
import Derived.Test.YteciiehnoakgdaaNPure
namespace Go.Proofs.Yteciiehnoakgdaa
open Go.RowKit

/-- A list of texts of one's own in the making: so far it says D. -/
structure MkI (w W : World) (v : Value) (C : List Tx) (D : List (List Int)) : Prop where
  row : W.ownsRow w.heap.size 22 1 v C.length (C.map Tx.v)
  each : ∀ x ∈ C, OwnB W w.heap.size 5 x.v x.s
  s : C.map (·.s) = D
  b : Below w.heap.size w W
  z : ∀ x ∈ D, B8 x ∧ x.length ≤ 140737488351232
theorem MkI.own {w W : World} {a : Option Addr} {c : Nat} {C : List Tx} {D : List (List Int)} {l : Nat} (h : MkI w W (.slice a l c) C D) (hl : C.length = l) : (⟨a, c, C⟩ : TL).Own W w.heap.size := by
  have hr := h.row
  rw [← hl] at hr
  refine ⟨hr, h.each, fun x hx => h.z _ ?_⟩
  rw [← h.s]
  exact List.mem_map.2 ⟨x, hx, rfl⟩
/-- One text more. -/
theorem MkI.more {w wr w2 w5 : World} {v v5 : Value} {C : List Tx} {D : List (List Int)} {x : Tx} {na : Option Addr} {nc nk : Nat} (h : MkI w wr v C D) (hnk : x.s.length = nk) (V2 : OwnB w2 wr.heap.size 5 (.slice na nk nc) x.s) (B2 : Below wr.heap.size wr w2)
    (HO5 : w5.ownsRow w.heap.size 22 1 v5 (C.length + 1) (C.map Tx.v ++ [.slice na nk nc])) (HG5 : (w2.alloc (.cells #[.slice na nk nc] 22)).grownBy w5 v.ownBlock) (hz : B8 x.s ∧ x.s.length ≤ 140737488351232) : MkI w w5 v5 (C ++ [⟨na, nc, x.s⟩]) (D ++ [x.s]) := by
  have hnv : (⟨na, nc, x.s⟩ : Tx).v = .slice na nk nc := by simp only [Tx.v, hnk]
  have bA : Below w2.heap.size w2 (w2.alloc (.cells #[.slice na nk nc] 22)) := (Below.refl _ _).alloc (Nat.le_refl _) _
  have RA := owns_below (owns_below h.row B2) bA
  have hs1 := h.b.size
  have hs2 := B2.size
  refine ⟨?_, ?_, ?_, ?_, ?_⟩
  · rw [List.length_append, List.length_singleton, List.map_append, List.map_singleton, hnv]
    exact HO5
  · intro y hy
    rcases List.mem_append.1 hy with hy | hy
    · exact ownB_grown (((h.each y hy).below B2).below bA) RA HG5
    · obtain rfl : y = ⟨na, nc, x.s⟩ := by simpa using hy
      have h1 : OwnB w2 w.heap.size 5 (⟨na, nc, x.s⟩ : Tx).v x.s := by rw [hnv]; exact V2.mono h.b.size
      exact ownB_grown (h1.below bA) RA HG5
  · rw [List.map_append, h.s]; rfl
  · exact ((h.b.trans (B2.mono h.b.size)).trans (bA.mono (by omega))).grown HG5 (by simp; omega) (fun k hk => (RA.lt k hk).1)
  · intro y hy
    rcases List.mem_append.1 hy with hy | hy
    · exact h.z y hy
    · obtain rfl : y = x.s := by simpa using hy
      exact hz
theorem MkI.nil (w W : World) (h : Below w.heap.size w W) : MkI w W (.slice none 0 0) [] [] := ⟨World.ownsRow_nil _ _ _ _, fun x hx => (by cases hx), rfl, h, fun x hx => (by cases hx)⟩

/-- What put and cut give. -/
def MkP (w : World) (D : List (List Int)) (l : Nat) (e : Ending) (w' : World) : Prop :=
  ∃ a c C, e = .returned (.slice a l c) ∧ C.map (·.s) = D ∧ C.length = l ∧ (⟨a, c, C⟩ : TL).Own w' w.heap.size ∧ Below w.heap.size w w'

set_option maxRecDepth 100000 in
set_option maxHeartbeats 3200000 in
theorem rput_any (a : Option Addr) (l c at' : Nat) (L : List Tx) (x : Tx) (w : World) (ht : (⟨a, c, L⟩ : TL).Ok w) (hx : x.Ok w) (hl : L.length = l) (hm : l * 24 ≤ 140737488352000) (ha : at' ≤ l) :
    Calls Try.prog 56 #[.slice a l c, .int .i64 (at' : Int), .slice x.a x.s.length x.c] w (MkP w (insL (L.map (·.s)) at' x.s) (l + 1)) := by
  obtain ⟨i0, hi, hz0, hz1, hz2⟩ := info_parts infoT
  have HT : Hid (∀ W, Below w.heap.size w W → (⟨a, c, L⟩ : TL).Ok W) := fun W h => ht.below h
  have HX : Hid (∀ W, Below w.heap.size w W → x.Ok W) := fun W h => hx.below h
  replace hl := hide hl
  clear ht hx
  obtain ⟨lx, hlx⟩ : ∃ lx, x.s.length = lx := ⟨_, rfl⟩
  rw [hlx]
  replace hlx := hide hlx
  have HLP : Hid ((L.map (·.s)).length = l) := by show _ = _; rw [List.length_map, hl.out]
  have HGE : Hid (∀ i (h : i < L.length), (L.map (·.s))[i]? = some L[i].s) := fun i h => by simp [h]
  go_enter Try.func56, Try.ntmps56
  go_wp2_with fail
  go_loopw [7, 8] (fun q3 q4 wr => ∃ (v : Value) (C : List Tx), q3 = v ∧ q4 = .int .i64 (C.length : Nat) ∧ C.length ≤ at' ∧ Hid (MkI w wr v C ((L.map (·.s)).take C.length))) (fun _ q4 _ => at' - (intOf q4).toNat)
  case atStart => exact ⟨_, [], rfl, rfl, Nat.zero_le _, MkI.nil w w (Below.refl _ _)⟩
  case round =>
    obtain ⟨v, C, rfl, rfl, hle, HI⟩ := hrel
    rename World => wr
    obtain ⟨i, hic⟩ : ∃ i, C.length = i := ⟨_, rfl⟩
    rw [hic] at hle HI ⊢
    replace hic := hide hic
    obtain ⟨va, vc, hve, _, _⟩ := vok_of_owns HI.out.row
    rw [hic.out] at hve
    subst hve
    by_cases hlt : i < at'
    · have j1 : (i : Int) < (at' : Int) := by omega
      have j0 : (i : Int) < (l : Int) := by omega
      have hiL : i < L.length := by rw [hl.out]; omega
      have hT := HT.out wr HI.out.b
      obtain ⟨b, o, hae, s0⟩ := hT.r i hiL
      simp only at hae
      subst hae
      have OK := hide (hT.ok L[i] (List.getElem_mem hiL))
      have HG := hide (HGE.out i hiL)
      obtain ⟨t, hx⟩ : ∃ t, t = L[i] := ⟨_, rfl⟩
      simp only [← hx] at s0 OK HG
      unfold Tx.v at s0
      obtain ⟨nk, hnk⟩ : ∃ nk, t.s.length = nk := ⟨_, rfl⟩
      rw [hnk] at s0
      have HBY := hide (rbytes_any t.a nk t.c t.s wr hnk (by have := OK.out.z; omega) (by have := OK.out.n; rw [hnk] at this; exact this) OK.out.r)
      replace hnk := hide hnk
      have HRW : Hid (wr.ownsRow w.heap.size 22 1 (.slice va i vc) i (C.map Tx.v)) := by have := HI.out.row; rw [hic.out] at this; exact this
      clear hT hx
      go_wp2_with fail
      refine HBY.out.mono ?_
      rintro e w2 ⟨v2, rfl, hv2, hb2⟩
      obtain ⟨na, nc, hve, _, _, _⟩ := hv2.slice
      rw [hnk.out] at hve
      subst hve
      have V2 := hide hv2
      have B2 := hide hb2
      have R2 := hide (owns_below HRW.out hb2)
      clear hv2 hb2 HBY s0
      have hsz := B2.out.size
      have hsw := HI.out.b.size
      go_wp2_with (first
        | (at_builtin; refine append_own_any rfl (.tmp 15) (.tmp 21) 25 rfl w.heap.size 22 i0 (.slice none 0 0) 1 24 Try.underlying25 hi hz0 hz1 hz2 rfl (by decide) (.slice va i vc) i (C.map Tx.v) rfl (owns_below R2.out ((Below.refl _ _).alloc (Nat.le_refl _) _)) (some ⟨w2.heap.size, 0, none⟩) 1 1 [.slice na nk nc] rfl rfl (by intro h; cases h) (by intro ad had; cases had; exact one_new _ _ _) (by intro u hu; simp at hu; subst hu; rfl) (by unfold maxLen; omega) (by omega) (by simp; omega) ?_; intro v5 w5 hown5 hg5; have HO5 := hide hown5; have HG5 := hide hg5; clear hown5 hg5)
        | fail)
      have HNEW : Hid (MkI w w5 v5 (C ++ [⟨na, nc, t.s⟩]) ((L.map (·.s)).take (i + 1))) := by
        have h1 := HI.out.more hnk.out V2.out B2.out (by rw [hic.out]; exact HO5.out) HG5.out ⟨OK.out.b8, OK.out.z⟩
        have h2 : (L.map (·.s)).take (i + 1) = (L.map (·.s)).take i ++ [t.s] := by rw [List.take_add_one, HG.out]; rfl
        rw [h2]; exact h1
      clear V2 B2 R2 HO5 HG5
      go_wp2_with fail
      go_roundw
      case rel => exact ⟨_, C ++ [⟨na, nc, t.s⟩], rfl, by rw [List.length_append, List.length_singleton, hic.out]; go_num, by rw [List.length_append, List.length_singleton, hic.out]; omega, by rw [List.length_append, List.length_singleton, hic.out]; exact HNEW⟩
      case measure => simp [intOf]; omega
    · have j1 : ¬ (i : Int) < (at' : Int) := by omega
      obtain rfl : i = at' := by omega
      have OX := hide (HX.out wr HI.out.b)
      have HBY := hide (rbytes_any x.a lx x.c x.s wr hlx.out (by have := OX.out.z; have := hlx.out; omega) (by have := OX.out.n; rw [hlx.out] at this; exact this) OX.out.r)
      have HRW : Hid (wr.ownsRow w.heap.size 22 1 (.slice va i vc) i (C.map Tx.v)) := by have := HI.out.row; rw [hic.out] at this; exact this
      go_wp2_with fail
      refine HBY.out.mono ?_
      rintro e w2 ⟨v2, rfl, hv2, hb2⟩
      obtain ⟨na, nc, hve, _, _, _⟩ := hv2.slice
      rw [hlx.out] at hve
      subst hve
      have V2 := hide hv2
      have B2 := hide hb2
      have R2 := hide (owns_below HRW.out hb2)
      clear hv2 hb2 HBY
      have hsz := B2.out.size
      have hsw := HI.out.b.size
      go_wp2_with (first
        | (at_builtin; refine append_own_any rfl (.tmp 23) (.tmp 26) 25 rfl w.heap.size 22 i0 (.slice none 0 0) 1 24 Try.underlying25 hi hz0 hz1 hz2 rfl (by decide) (.slice va i vc) i (C.map Tx.v) rfl (owns_below R2.out ((Below.refl _ _).alloc (Nat.le_refl _) _)) (some ⟨w2.heap.size, 0, none⟩) 1 1 [.slice na lx nc] rfl rfl (by intro h; cases h) (by intro ad had; cases had; exact one_new _ _ _) (by intro u hu; simp at hu; subst hu; rfl) (by unfold maxLen; omega) (by omega) (by simp; omega) ?_; intro v5 w5 hown5 hg5; have HO5 := hide hown5; have HG5 := hide hg5; clear hown5 hg5)
        | fail)
      have HM : Hid (MkI w w5 v5 (C ++ [⟨na, nc, x.s⟩]) ((L.map (·.s)).take i ++ x.s :: ((L.map (·.s)).drop i).take 0)) := by
        have h1 := HI.out.more hlx.out V2.out B2.out (by rw [hic.out]; exact HO5.out) HG5.out ⟨OX.out.b8, OX.out.z⟩
        rw [List.take_zero]; exact h1
      have HCL : Hid ((C ++ [(⟨na, nc, x.s⟩ : Tx)]).length = i + 1) := by show _ = _; rw [List.length_append, List.length_singleton, hic.out]
      clear V2 B2 R2 HO5 HG5 HI hsz hsw
      obtain ⟨D, hD⟩ : ∃ D, D = C ++ [(⟨na, nc, x.s⟩ : Tx)] := ⟨_, rfl⟩
      rw [← hD] at HM HCL
      clear hD HRW OX hle j1 hlt
      go_wp2_with fail
      go_loopw [7, 9] (fun q3 q4 wr => ∃ (v : Value) (C : List Tx) (k : Nat), q3 = v ∧ q4 = .int .i64 (k : Int) ∧ i ≤ k ∧ k ≤ l ∧ Hid (C.length = k + 1) ∧ Hid (MkI w wr v C ((L.map (·.s)).take i ++ x.s :: ((L.map (·.s)).drop i).take (k - i)))) (fun _ q4 _ => l - (intOf q4).toNat)
      case atStart => exact ⟨_, D, i, rfl, rfl, Nat.le_refl _, ha, HCL, by rw [Nat.sub_self]; exact HM⟩
      case round =>
        clear HM HCL
        obtain ⟨v, C, k, rfl, rfl, hik, hkl, HCL, HI⟩ := hrel
        rename World => wr
        obtain ⟨va, vc, hve, _, _⟩ := vok_of_owns HI.out.row
        rw [HCL.out] at hve
        subst hve
        by_cases hlt : k < l
        · have j1 : (k : Int) < (l : Int) := by omega
          have hiL : k < L.length := by rw [hl.out]; omega
          have hT := HT.out wr HI.out.b
          obtain ⟨b, o, hae, s0⟩ := hT.r k hiL
          simp only at hae
          subst hae
          have OK := hide (hT.ok L[k] (List.getElem_mem hiL))
          have HG := hide (HGE.out k hiL)
          obtain ⟨t, hx⟩ : ∃ t, t = L[k] := ⟨_, rfl⟩
          simp only [← hx] at s0 OK HG
          unfold Tx.v at s0
          obtain ⟨nk, hnk⟩ : ∃ nk, t.s.length = nk := ⟨_, rfl⟩
          rw [hnk] at s0
          have HBY := hide (rbytes_any t.a nk t.c t.s wr hnk (by have := OK.out.z; omega) (by have := OK.out.n; rw [hnk] at this; exact this) OK.out.r)
          replace hnk := hide hnk
          have HRW : Hid (wr.ownsRow w.heap.size 22 1 (.slice va (k + 1) vc) (k + 1) (C.map Tx.v)) := by have := HI.out.row; rw [HCL.out] at this; exact this
          clear hT hx
          go_wp2_with fail
          refine HBY.out.mono ?_
          rintro e w2 ⟨v2, rfl, hv2, hb2⟩
          obtain ⟨na, nc, hve, _, _, _⟩ := hv2.slice
          rw [hnk.out] at hve
          subst hve
          have V2 := hide hv2
          have B2 := hide hb2
          have R2 := hide (owns_below HRW.out hb2)
          clear hv2 hb2 HBY s0
          have hsz := B2.out.size
          have hsw := HI.out.b.size
          go_wp2_with (first
            | (at_builtin; refine append_own_any rfl (.tmp 35) (.tmp 41) 25 rfl w.heap.size 22 i0 (.slice none 0 0) 1 24 Try.underlying25 hi hz0 hz1 hz2 rfl (by decide) (.slice va (k + 1) vc) (k + 1) (C.map Tx.v) rfl (owns_below R2.out ((Below.refl _ _).alloc (Nat.le_refl _) _)) (some ⟨w2.heap.size, 0, none⟩) 1 1 [.slice na nk nc] rfl rfl (by intro h; cases h) (by intro ad had; cases had; exact one_new _ _ _) (by intro u hu; simp at hu; subst hu; rfl) (by unfold maxLen; omega) (by omega) (by simp; omega) ?_; intro v5 w5 hown5 hg5; have HO5 := hide hown5; have HG5 := hide hg5; clear hown5 hg5)
            | fail)
          have HNEW : Hid (MkI w w5 v5 (C ++ [⟨na, nc, t.s⟩]) ((L.map (·.s)).take i ++ x.s :: ((L.map (·.s)).drop i).take (k + 1 - i))) := by
            have h1 := HI.out.more hnk.out V2.out B2.out (by rw [HCL.out]; exact HO5.out) HG5.out ⟨OK.out.b8, OK.out.z⟩
            have h2 : ((L.map (·.s)).drop i).take (k + 1 - i) = ((L.map (·.s)).drop i).take (k - i) ++ [t.s] := by
              rw [show k + 1 - i = k - i + 1 by omega, List.take_add_one, List.getElem?_drop, show i + (k - i) = k by omega, HG.out]; rfl
            rw [h2, ← List.cons_append, ← List.append_assoc]; exact h1
          have HCL2 : Hid ((C ++ [(⟨na, nc, t.s⟩ : Tx)]).length = k + 1 + 1) := by show _ = _; rw [List.length_append, List.length_singleton, HCL.out]
          clear V2 B2 R2 HO5 HG5
          go_wp2_with fail
          go_roundw
          case rel => exact ⟨_, _, k + 1, rfl, by go_num, by omega, by omega, HCL2, HNEW⟩
          case measure => simp [intOf]; omega
        · have j1 : ¬ (k : Int) < (l : Int) := by omega
          obtain rfl : k = l := by omega
          have HF : Hid (MkP w (insL (L.map (·.s)) i x.s) (k + 1) (.returned (.slice va (k + 1) vc)) wr) := by
            have hs := HI.out.s
            have ht : ((L.map (·.s)).drop i).take (k - i) = (L.map (·.s)).drop i := List.take_of_length_le (by rw [List.length_drop, HLP.out]; exact Nat.le_refl _)
            rw [ht] at hs
            exact ⟨va, vc, C, rfl, hs, HCL.out, HI.out.own HCL.out, HI.out.b⟩
          go_wp2_with fail
          go_ret
          exact HF.out

/-- The first k without the one at a place. -/
def cutK (l : List (List Int)) (at' k : Nat) : List (List Int) := if k ≤ at' then l.take k else l.take at' ++ (l.drop (at' + 1)).take (k - at' - 1)
theorem cutK_end {l : List (List Int)} {at' : Nat} (h : at' < l.length) : cutK l at' l.length = remL l at' := by
  unfold cutK remL
  rw [if_neg (by omega), List.take_of_length_le (i := l.length - at' - 1) (by rw [List.length_drop]; omega)]
theorem cutK_same {l : List (List Int)} {at' : Nat} : cutK l at' (at' + 1) = cutK l at' at' := by
  unfold cutK
  rw [if_neg (by omega), if_pos (Nat.le_refl _), show at' + 1 - at' - 1 = 0 by omega, List.take_zero, List.append_nil]
theorem cutK_next {l : List (List Int)} {at' k : Nat} {x : List Int} (hx : l[k]? = some x) (hk : k ≠ at') : cutK l at' (k + 1) = cutK l at' k ++ [x] := by
  unfold cutK
  by_cases h : k < at'
  · rw [if_pos (by omega), if_pos (by omega), List.take_add_one, hx]; rfl
  · rw [if_neg (by omega), if_neg (by omega), show k + 1 - at' - 1 = k - at' - 1 + 1 by omega, List.take_add_one, List.getElem?_drop, show at' + 1 + (k - at' - 1) = k by omega, hx, List.append_assoc]; rfl
theorem cutK_len {l : List (List Int)} {at' k : Nat} (h : at' < l.length) (hk : k ≤ l.length) : (cutK l at' k).length = if k ≤ at' then k else k - 1 := by
  unfold cutK
  split
  · rw [List.length_take]; omega
  · rw [List.length_append, List.length_take, List.length_take, List.length_drop]; omega

set_option maxRecDepth 100000 in
set_option maxHeartbeats 3200000 in
theorem rcut_any (a : Option Addr) (l c at' : Nat) (L : List Tx) (w : World) (ht : (⟨a, c, L⟩ : TL).Ok w) (hl : L.length = l) (hm : l * 24 ≤ 140737488352000) (ha : at' < l) :
    Calls Try.prog 57 #[.slice a l c, .int .i64 (at' : Int)] w (MkP w (remL (L.map (·.s)) at') (l - 1)) := by
  obtain ⟨i0, hi, hz0, hz1, hz2⟩ := info_parts infoT
  have HT : Hid (∀ W, Below w.heap.size w W → (⟨a, c, L⟩ : TL).Ok W) := fun W h => ht.below h
  replace hl := hide hl
  clear ht
  have HLP : Hid ((L.map (·.s)).length = l) := by show _ = _; rw [List.length_map, hl.out]
  have HGE : Hid (∀ i (h : i < L.length), (L.map (·.s))[i]? = some L[i].s) := fun i h => by simp [h]
  have HCK : Hid (∀ k, k ≤ l → ∀ C : List Tx, C.map (·.s) = cutK (L.map (·.s)) at' k → C.length = if k ≤ at' then k else k - 1) := fun k hk C hC => by
    rw [← cutK_len (l := L.map (·.s)) (by rw [HLP.out]; exact ha) (by rw [HLP.out]; exact hk), ← hC, List.length_map]
  go_enter Try.func57, Try.ntmps57
  go_wp2_with fail
  go_loopw [5, 6] (fun q3 q4 wr => ∃ (v : Value) (C : List Tx) (k : Nat), q3 = v ∧ q4 = .int .i64 (k : Int) ∧ k ≤ l ∧ Hid (MkI w wr v C (cutK (L.map (·.s)) at' k))) (fun _ q4 _ => l - (intOf q4).toNat)
  case atStart => exact ⟨_, [], 0, rfl, rfl, Nat.zero_le _, by unfold cutK; rw [if_pos (Nat.zero_le _), List.take_zero]; exact MkI.nil w w (Below.refl _ _)⟩
  case round =>
    obtain ⟨v, C, k, rfl, rfl, hle, HI⟩ := hrel
    rename World => wr
    obtain ⟨i, hic⟩ : ∃ i, C.length = i := ⟨_, rfl⟩
    have hi2 := HCK.out k hle C HI.out.s
    rw [hic] at hi2
    have hil : i ≤ l := by split at hi2 <;> omega
    replace hi2 := hide hi2
    replace hic := hide hic
    obtain ⟨va, vc, hve, _, _⟩ := vok_of_owns HI.out.row
    rw [hic.out] at hve
    subst hve
    by_cases hlt : k < l
    · have j1 : (k : Int) < (l : Int) := by omega
      have hiL : k < L.length := by rw [hl.out]; omega
      by_cases hka : k = at'
      · subst hka
        have HNEW : Hid (MkI w wr (.slice va i vc) C (cutK (L.map (·.s)) k (k + 1))) := by show MkI _ _ _ _ _; rw [cutK_same]; exact HI.out
        go_wp2_with fail
        go_roundw
        case rel => exact ⟨_, C, k + 1, rfl, by go_num, by omega, HNEW⟩
        case measure => simp [intOf]; omega
      · have hne : ((k : Int) != (at' : Int)) = true := by rw [bne_iff_ne]; omega
        have hT := HT.out wr HI.out.b
        obtain ⟨b, o, hae, s0⟩ := hT.r k hiL
        simp only at hae
        subst hae
        have OK := hide (hT.ok L[k] (List.getElem_mem hiL))
        have HG := hide (HGE.out k hiL)
        obtain ⟨t, hx⟩ : ∃ t, t = L[k] := ⟨_, rfl⟩
        simp only [← hx] at s0 OK HG
        unfold Tx.v at s0
        obtain ⟨nk, hnk⟩ : ∃ nk, t.s.length = nk := ⟨_, rfl⟩
        rw [hnk] at s0
        have HBY := hide (rbytes_any t.a nk t.c t.s wr hnk (by have := OK.out.z; omega) (by have := OK.out.n; rw [hnk] at this; exact this) OK.out.r)
        replace hnk := hide hnk
        have HRW : Hid (wr.ownsRow w.heap.size 22 1 (.slice va i vc) i (C.map Tx.v)) := by have := HI.out.row; rw [hic.out] at this; exact this
        have HKA : Hid (k ≠ at') := hka
        clear hT hx hka
        go_wp2_with fail
        refine HBY.out.mono ?_
        rintro e w2 ⟨v2, rfl, hv2, hb2⟩
        obtain ⟨na, nc, hve, _, _, _⟩ := hv2.slice
        rw [hnk.out] at hve
        subst hve
        have V2 := hide hv2
        have B2 := hide hb2
        have R2 := hide (owns_below HRW.out hb2)
        clear hv2 hb2 HBY s0
        have hsz := B2.out.size
        have hsw := HI.out.b.size
        go_wp2_with (first
          | (at_builtin; refine append_own_any rfl (.tmp 16) (.tmp 22) 25 rfl w.heap.size 22 i0 (.slice none 0 0) 1 24 Try.underlying25 hi hz0 hz1 hz2 rfl (by decide) (.slice va i vc) i (C.map Tx.v) rfl (owns_below R2.out ((Below.refl _ _).alloc (Nat.le_refl _) _)) (some ⟨w2.heap.size, 0, none⟩) 1 1 [.slice na nk nc] rfl rfl (by intro h; cases h) (by intro ad had; cases had; exact one_new _ _ _) (by intro u hu; simp at hu; subst hu; rfl) (by unfold maxLen; omega) (by omega) (by simp; omega) ?_; intro v5 w5 hown5 hg5; have HO5 := hide hown5; have HG5 := hide hg5; clear hown5 hg5)
          | fail)
        have HNEW : Hid (MkI w w5 v5 (C ++ [⟨na, nc, t.s⟩]) (cutK (L.map (·.s)) at' (k + 1))) := by
          show MkI _ _ _ _ _
          rw [cutK_next HG.out HKA.out]
          exact HI.out.more hnk.out V2.out B2.out (by rw [hic.out]; exact HO5.out) HG5.out ⟨OK.out.b8, OK.out.z⟩
        clear V2 B2 R2 HO5 HG5
        go_wp2_with fail
        go_roundw
        case rel => exact ⟨_, C ++ [⟨na, nc, t.s⟩], k + 1, rfl, by go_num, by omega, HNEW⟩
        case measure => simp [intOf]; omega
    · have j1 : ¬ (k : Int) < (l : Int) := by omega
      obtain rfl : k = l := by omega
      have HF : Hid (MkP w (remL (L.map (·.s)) at') (k - 1) (.returned (.slice va i vc)) wr) := by
        have hs := HI.out.s
        have he := cutK_end (l := L.map (·.s)) (at' := at') (by rw [HLP.out]; exact ha)
        rw [HLP.out] at he
        rw [he] at hs
        have h3 := hi2.out
        rw [if_neg (by omega)] at h3
        subst h3
        exact ⟨va, vc, C, rfl, hs, hic.out, HI.out.own hic.out, HI.out.b⟩
      go_wp2_with fail
      go_ret
      exact HF.out

end Go.Proofs.Yteciiehnoakgdaa
