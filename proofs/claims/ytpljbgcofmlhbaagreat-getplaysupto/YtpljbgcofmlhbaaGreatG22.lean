/- The document's put and cut of lists of texts. -/
import Derived.Test.YtpljbgcofmlhbaaGreatG21
import Derived.Test.YtpljbgcofmlhbaaGreatG20
import Derived.Test.YtpljbgcofmlhbaaGreatG19
import Derived.Test.YtpljbgcofmlhbaaGreatG15
namespace Go.Proofs.YtpljbgcofmlhbaaGreat
open Go.RowKit
set_option maxRecDepth 100000
structure MkI (w W : World) (v : Value) (C : List Tx) (D : List (List Int)) : Prop where
 row : W.ownsRow w.heap.size 28 1 v C.length (C.map Tx.v)
 each : ∀ x ∈ C, OwnB W w.heap.size 5 x.v x.s
 s : C.map (·.s) = D
 b : Below w.heap.size w W
 z : ∀ x ∈ D, B8 x ∧ x.length ≤ 140737488351232
theorem MkI.own {w W : World} {a : Option Addr} {c : Nat} {C : List Tx} {D : List (List Int)} {l : Nat} (h : MkI w W (.slice a l c) C D) (hl : C.length = l) : (⟨a, c, C⟩ : TL).Own W w.heap.size := by
 have hr := h.row
 rw [← hl] at hr
 refine ⟨hr, h.each, fun x hx => h.z _ ?_⟩
 rw [← h.s]
 exact List.mem_map.2 ⟨x, hx, rfl⟩
theorem MkI.more {w wr w2 w5 : World} {v v5 : Value} {C : List Tx} {D : List (List Int)} {x : Tx} {na : Option Addr} {nc nk : Nat} (h : MkI w wr v C D) (hnk : x.s.length = nk) (V2 : OwnB w2 wr.heap.size 5 (.slice na nk nc) x.s) (B2 : Below wr.heap.size wr w2)
  (HO5 : w5.ownsRow w.heap.size 28 1 v5 (C.length + 1) (C.map Tx.v ++ [.slice na nk nc])) (HG5 : (w2.alloc (.cells #[.slice na nk nc] 28)).grownBy w5 v.ownBlock) (hz : B8 x.s ∧ x.s.length ≤ 140737488351232) : MkI w w5 v5 (C ++ [⟨na, nc, x.s⟩]) (D ++ [x.s]) := by
 have hnv : (⟨na, nc, x.s⟩ : Tx).v = .slice na nk nc := by simp only [Tx.v, hnk]
 have bA : Below w2.heap.size w2 (w2.alloc (.cells #[.slice na nk nc] 28)) := (Below.refl _ _).alloc (Nat.le_refl _) _
 have RA := owns_below (owns_below h.row B2) bA
 have hs1 := h.b.size
 have hs2 := B2.size
 refine ⟨?_, ?_, ?_, ?_, ?_⟩
 ·rw [List.length_append, List.length_singleton, List.map_append, List.map_singleton, hnv]
  exact HO5
 ·intro y hy
  rcases List.mem_append.1 hy with hy | hy
  ·exact ownB_grown (((h.each y hy).below B2).below bA) RA HG5
  ·obtain rfl : y = ⟨na, nc, x.s⟩ := by simpa using hy
   have h1 : OwnB w2 w.heap.size 5 (⟨na, nc, x.s⟩ : Tx).v x.s := by rw [hnv]; exact V2.mono h.b.size
   exact ownB_grown (h1.below bA) RA HG5
 ·rw [List.map_append, h.s]; rfl
 ·exact ((h.b.trans (B2.mono h.b.size)).trans (bA.mono (by omega))).grown HG5 (by simp; omega) (fun k hk => (RA.lt k hk).1)
 ·intro y hy
  rcases List.mem_append.1 hy with hy | hy
  ·exact h.z y hy
  ·obtain rfl : y = x.s := by simpa using hy
   exact hz
theorem MkI.nil (w W : World) (h : Below w.heap.size w W) : MkI w W (.slice none 0 0) [] [] := ⟨World.ownsRow_nil _ _ _ _, fun x hx => (by cases hx), rfl, h, fun x hx => (by cases hx)⟩
def MkP (w : World) (D : List (List Int)) (l : Nat) (e : Ending) (w' : World) : Prop :=
 ∃ a c C, e = .returned (.slice a l c) ∧ C.map (·.s) = D ∧ C.length = l ∧ (⟨a, c, C⟩ : TL).Own w' w.heap.size ∧ Below w.heap.size w w'
set_option maxRecDepth 100000 in
set_option maxHeartbeats 3200000 in
theorem rput_any (a : Option Addr) (l c at' : Nat) (L : List Tx) (x : Tx) (w : World) (ht : (⟨a, c, L⟩ : TL).Ok w) (hx : x.Ok w) (hl : L.length = l) (hm : l * 24 ≤ 140737488352000) (ha : at' ≤ l) :
  Calls Tryz.prog 109 #[.slice a l c, .int .i64 (at' : Int), .slice x.a x.s.length x.c] w (MkP w (insL (L.map (·.s)) at' x.s) (l + 1)) := by
 obtain ⟨i0, hi, hz0, hz1, hz2⟩ := info_parts infoT
 have HT : Hid (∀ W, Below w.heap.size w W → (⟨a, c, L⟩ : TL).Ok W) := fun W h => ht.below h
 have HX : Hid (∀ W, Below w.heap.size w W → x.Ok W) := fun W h => hx.below h
 replace hl := hide hl
 clear ht hx
 obtain ⟨lx, hlx⟩ : ∃ lx, x.s.length = lx := ⟨_, rfl⟩
 rw [hlx]
 replace hlx := hide hlx
 have HLP : Hid ((L.map (·.s)).length = l) := by show _ = _; rw [List.length_map, hl.out]
 have HGE : Hid (∀ i (h : i < L.length), (L.map (·.s))[i]? = some L[i].s) := fun i h => by simp [h]
 go_enter Tryz.func109, Tryz.ntmps109
 go_wp2_with fail
 go_loopw [7, 8] (fun q3 q4 wr => ∃ (v : Value) (C : List Tx), q3 = v ∧ q4 = .int .i64 (C.length : Nat) ∧ C.length ≤ at' ∧ Hid (MkI w wr v C ((L.map (·.s)).take C.length))) (fun _ q4 _ => at' - (intOf q4).toNat)
 case atStart => exact ⟨_, [], rfl, rfl, Nat.zero_le _, MkI.nil w w (Below.refl _ _)⟩
 case round =>
  obtain ⟨v, C, rfl, rfl, hle, HI⟩ := hrel
  rename World => wr
  obtain ⟨i, hic⟩ : ∃ i, C.length = i := ⟨_, rfl⟩
  rw [hic] at hle HI ⊢
  replace hic := hide hic
  obtain ⟨va, vc, hve, _, _⟩ := vok_of_owns HI.out.row
  rw [hic.out] at hve
  subst hve
  by_cases hlt : i < at'
  ·have j1 : (i : Int) < (at' : Int) := by omega
   have j0 : (i : Int) < (l : Int) := by omega
   have hiL : i < L.length := by rw [hl.out]; omega
   have hT := HT.out wr HI.out.b
   obtain ⟨b, o, hae, s0⟩ := hT.r i hiL
   simp only at hae
   subst hae
   have OK := hide (hT.ok L[i] (List.getElem_mem hiL))
   have HG := hide (HGE.out i hiL)
   obtain ⟨t, hx⟩ : ∃ t, t = L[i] := ⟨_, rfl⟩
   simp only [← hx] at s0 OK HG
   unfold Tx.v at s0
   obtain ⟨nk, hnk⟩ : ∃ nk, t.s.length = nk := ⟨_, rfl⟩
   rw [hnk] at s0
   have HBY := hide (rbytes_any t.a nk t.c t.s wr hnk (by have := OK.out.z; omega) (by have := OK.out.n; rw [hnk] at this; exact this) OK.out.r)
   replace hnk := hide hnk
   have HRW : Hid (wr.ownsRow w.heap.size 28 1 (.slice va i vc) i (C.map Tx.v)) := by have := HI.out.row; rw [hic.out] at this; exact this
   clear hT hx
   go_wp2_with fail
   refine HBY.out.mono ?_
   rintro e w2 ⟨v2, rfl, hv2, hb2⟩
   obtain ⟨na, nc, hve, _, _, _⟩ := hv2.slice
   rw [hnk.out] at hve
   subst hve
   have V2 := hide hv2
   have B2 := hide hb2
   have R2 := hide (owns_below HRW.out hb2)
   clear hv2 hb2 HBY s0
   have hsz := B2.out.size
   have hsw := HI.out.b.size
   go_wp2_with (first
    | (at_builtin; refine append_own_any rfl (.tmp 15) (.tmp 21) 31 rfl w.heap.size 28 i0 (.slice none 0 0) 1 24 Tryz.underlying31 hi hz0 hz1 hz2 rfl (by decide) (.slice va i vc) i (C.map Tx.v) rfl (owns_below R2.out ((Below.refl _ _).alloc (Nat.le_refl _) _)) (some ⟨w2.heap.size, 0, none⟩) 1 1 [.slice na nk nc] rfl rfl (by intro h; cases h) (by intro ad had; cases had; exact one_new _ _ _) (by intro u hu; simp at hu; subst hu; rfl) (by unfold maxLen; omega) (by omega) (by simp; omega) ?_; intro v5 w5 hown5 hg5; have HO5 := hide hown5; have HG5 := hide hg5; clear hown5 hg5)
    | fail)
   have HNEW : Hid (MkI w w5 v5 (C ++ [⟨na, nc, t.s⟩]) ((L.map (·.s)).take (i + 1))) := by
    have h1 := HI.out.more hnk.out V2.out B2.out (by rw [hic.out]; exact HO5.out) HG5.out ⟨OK.out.b8, OK.out.z⟩
    have h2 : (L.map (·.s)).take (i + 1) = (L.map (·.s)).take i ++ [t.s] := by rw [List.take_add_one, HG.out]; rfl
    rw [h2]; exact h1
   clear V2 B2 R2 HO5 HG5
   go_wp2_with fail
   go_roundw
   case rel => exact ⟨_, C ++ [⟨na, nc, t.s⟩], rfl, by rw [List.length_append, List.length_singleton, hic.out]; go_num, by rw [List.length_append, List.length_singleton, hic.out]; omega, by rw [List.length_append, List.length_singleton, hic.out]; exact HNEW⟩
   case measure => simp [intOf]; omega
  ·have j1 : ¬ (i : Int) < (at' : Int) := by omega
   obtain rfl : i = at' := by omega
   have OX := hide (HX.out wr HI.out.b)
   have HBY := hide (rbytes_any x.a lx x.c x.s wr hlx.out (by have := OX.out.z; have := hlx.out; omega) (by have := OX.out.n; rw [hlx.out] at this; exact this) OX.out.r)
   have HRW : Hid (wr.ownsRow w.heap.size 28 1 (.slice va i vc) i (C.map Tx.v)) := by have := HI.out.row; rw [hic.out] at this; exact this
   go_wp2_with fail
   refine HBY.out.mono ?_
   rintro e w2 ⟨v2, rfl, hv2, hb2⟩
   obtain ⟨na, nc, hve, _, _, _⟩ := hv2.slice
   rw [hlx.out] at hve
   subst hve
   have V2 := hide hv2
   have B2 := hide hb2
   have R2 := hide (owns_below HRW.out hb2)
   clear hv2 hb2 HBY
   have hsz := B2.out.size
   have hsw := HI.out.b.size
   go_wp2_with (first
    | (at_builtin; refine append_own_any rfl (.tmp 23) (.tmp 26) 31 rfl w.heap.size 28 i0 (.slice none 0 0) 1 24 Tryz.underlying31 hi hz0 hz1 hz2 rfl (by decide) (.slice va i vc) i (C.map Tx.v) rfl (owns_below R2.out ((Below.refl _ _).alloc (Nat.le_refl _) _)) (some ⟨w2.heap.size, 0, none⟩) 1 1 [.slice na lx nc] rfl rfl (by intro h; cases h) (by intro ad had; cases had; exact one_new _ _ _) (by intro u hu; simp at hu; subst hu; rfl) (by unfold maxLen; omega) (by omega) (by simp; omega) ?_; intro v5 w5 hown5 hg5; have HO5 := hide hown5; have HG5 := hide hg5; clear hown5 hg5)
    | fail)
   have HM : Hid (MkI w w5 v5 (C ++ [⟨na, nc, x.s⟩]) ((L.map (·.s)).take i ++ x.s :: ((L.map (·.s)).drop i).take 0)) := by
    have h1 := HI.out.more hlx.out V2.out B2.out (by rw [hic.out]; exact HO5.out) HG5.out ⟨OX.out.b8, OX.out.z⟩
    rw [List.take_zero]; exact h1
   have HCL : Hid ((C ++ [(⟨na, nc, x.s⟩ : Tx)]).length = i + 1) := by show _ = _; rw [List.length_append, List.length_singleton, hic.out]
   clear V2 B2 R2 HO5 HG5 HI hsz hsw
   obtain ⟨D, hD⟩ : ∃ D, D = C ++ [(⟨na, nc, x.s⟩ : Tx)] := ⟨_, rfl⟩
   rw [← hD] at HM HCL
   clear hD HRW OX hle j1 hlt
   go_wp2_with fail
   go_loopw [7, 9] (fun q3 q4 wr => ∃ (v : Value) (C : List Tx) (k : Nat), q3 = v ∧ q4 = .int .i64 (k : Int) ∧ i ≤ k ∧ k ≤ l ∧ Hid (C.length = k + 1) ∧ Hid (MkI w wr v C ((L.map (·.s)).take i ++ x.s :: ((L.map (·.s)).drop i).take (k - i)))) (fun _ q4 _ => l - (intOf q4).toNat)
   case atStart => exact ⟨_, D, i, rfl, rfl, Nat.le_refl _, ha, HCL, by rw [Nat.sub_self]; exact HM⟩
   case round =>
    clear HM HCL
    obtain ⟨v, C, k, rfl, rfl, hik, hkl, HCL, HI⟩ := hrel
    rename World => wr
    obtain ⟨va, vc, hve, _, _⟩ := vok_of_owns HI.out.row
    rw [HCL.out] at hve
    subst hve
    by_cases hlt : k < l
    ·have j1 : (k : Int) < (l : Int) := by omega
     have hiL : k < L.length := by rw [hl.out]; omega
     have hT := HT.out wr HI.out.b
     obtain ⟨b, o, hae, s0⟩ := hT.r k hiL
     simp only at hae
     subst hae
     have OK := hide (hT.ok L[k] (List.getElem_mem hiL))
     have HG := hide (HGE.out k hiL)
     obtain ⟨t, hx⟩ : ∃ t, t = L[k] := ⟨_, rfl⟩
     simp only [← hx] at s0 OK HG
     unfold Tx.v at s0
     obtain ⟨nk, hnk⟩ : ∃ nk, t.s.length = nk := ⟨_, rfl⟩
     rw [hnk] at s0
     have HBY := hide (rbytes_any t.a nk t.c t.s wr hnk (by have := OK.out.z; omega) (by have := OK.out.n; rw [hnk] at this; exact this) OK.out.r)
     replace hnk := hide hnk
     have HRW : Hid (wr.ownsRow w.heap.size 28 1 (.slice va (k + 1) vc) (k + 1) (C.map Tx.v)) := by have := HI.out.row; rw [HCL.out] at this; exact this
     clear hT hx
     go_wp2_with fail
     refine HBY.out.mono ?_
     rintro e w2 ⟨v2, rfl, hv2, hb2⟩
     obtain ⟨na, nc, hve, _, _, _⟩ := hv2.slice
     rw [hnk.out] at hve
     subst hve
     have V2 := hide hv2
     have B2 := hide hb2
     have R2 := hide (owns_below HRW.out hb2)
     clear hv2 hb2 HBY s0
     have hsz := B2.out.size
     have hsw := HI.out.b.size
     go_wp2_with (first
      | (at_builtin; refine append_own_any rfl (.tmp 35) (.tmp 41) 31 rfl w.heap.size 28 i0 (.slice none 0 0) 1 24 Tryz.underlying31 hi hz0 hz1 hz2 rfl (by decide) (.slice va (k + 1) vc) (k + 1) (C.map Tx.v) rfl (owns_below R2.out ((Below.refl _ _).alloc (Nat.le_refl _) _)) (some ⟨w2.heap.size, 0, none⟩) 1 1 [.slice na nk nc] rfl rfl (by intro h; cases h) (by intro ad had; cases had; exact one_new _ _ _) (by intro u hu; simp at hu; subst hu; rfl) (by unfold maxLen; omega) (by omega) (by simp; omega) ?_; intro v5 w5 hown5 hg5; have HO5 := hide hown5; have HG5 := hide hg5; clear hown5 hg5)
      | fail)
     have HNEW : Hid (MkI w w5 v5 (C ++ [⟨na, nc, t.s⟩]) ((L.map (·.s)).take i ++ x.s :: ((L.map (·.s)).drop i).take (k + 1 - i))) := by
      have h1 := HI.out.more hnk.out V2.out B2.out (by rw [HCL.out]; exact HO5.out) HG5.out ⟨OK.out.b8, OK.out.z⟩
      have h2 : ((L.map (·.s)).drop i).take (k + 1 - i) = ((L.map (·.s)).drop i).take (k - i) ++ [t.s] := by
       rw [show k + 1 - i = k - i + 1 by omega, List.take_add_one, List.getElem?_drop, show i + (k - i) = k by omega, HG.out]; rfl
      rw [h2, ← List.cons_append, ← List.append_assoc]; exact h1
     have HCL2 : Hid ((C ++ [(⟨na, nc, t.s⟩ : Tx)]).length = k + 1 + 1) := by show _ = _; rw [List.length_append, List.length_singleton, HCL.out]
     clear V2 B2 R2 HO5 HG5
     go_wp2_with fail
     go_roundw
     case rel => exact ⟨_, _, k + 1, rfl, by go_num, by omega, by omega, HCL2, HNEW⟩
     case measure => simp [intOf]; omega
    ·have j1 : ¬ (k : Int) < (l : Int) := by omega
     obtain rfl : k = l := by omega
     have HF : Hid (MkP w (insL (L.map (·.s)) i x.s) (k + 1) (.returned (.slice va (k + 1) vc)) wr) := by
      have hs := HI.out.s
      have ht : ((L.map (·.s)).drop i).take (k - i) = (L.map (·.s)).drop i := List.take_of_length_le (by rw [List.length_drop, HLP.out]; exact Nat.le_refl _)
      rw [ht] at hs
      exact ⟨va, vc, C, rfl, hs, HCL.out, HI.out.own HCL.out, HI.out.b⟩
     go_wp2_with fail
     go_ret
     exact HF.out
def cutK (l : List (List Int)) (at' k : Nat) : List (List Int) := if k ≤ at' then l.take k else l.take at' ++ (l.drop (at' + 1)).take (k - at' - 1)
theorem cutK_end {l : List (List Int)} {at' : Nat} (h : at' < l.length) : cutK l at' l.length = remL l at' := by
 unfold cutK remL
 rw [if_neg (by omega), List.take_of_length_le (i := l.length - at' - 1) (by rw [List.length_drop]; omega)]
theorem cutK_same {l : List (List Int)} {at' : Nat} : cutK l at' (at' + 1) = cutK l at' at' := by
 unfold cutK
 rw [if_neg (by omega), if_pos (Nat.le_refl _), show at' + 1 - at' - 1 = 0 by omega, List.take_zero, List.append_nil]
theorem cutK_next {l : List (List Int)} {at' k : Nat} {x : List Int} (hx : l[k]? = some x) (hk : k ≠ at') : cutK l at' (k + 1) = cutK l at' k ++ [x] := by
 unfold cutK
 by_cases h : k < at'
 ·rw [if_pos (by omega), if_pos (by omega), List.take_add_one, hx]; rfl
 ·rw [if_neg (by omega), if_neg (by omega), show k + 1 - at' - 1 = k - at' - 1 + 1 by omega, List.take_add_one, List.getElem?_drop, show at' + 1 + (k - at' - 1) = k by omega, hx, List.append_assoc]; rfl
theorem cutK_len {l : List (List Int)} {at' k : Nat} (h : at' < l.length) (hk : k ≤ l.length) : (cutK l at' k).length = if k ≤ at' then k else k - 1 := by
 unfold cutK
 split
 ·rw [List.length_take]; omega
 ·rw [List.length_append, List.length_take, List.length_take, List.length_drop]; omega
set_option maxRecDepth 100000 in
set_option maxHeartbeats 3200000 in
theorem rcut_any (a : Option Addr) (l c at' : Nat) (L : List Tx) (w : World) (ht : (⟨a, c, L⟩ : TL).Ok w) (hl : L.length = l) (hm : l * 24 ≤ 140737488352000) (ha : at' < l) :
  Calls Tryz.prog 110 #[.slice a l c, .int .i64 (at' : Int)] w (MkP w (remL (L.map (·.s)) at') (l - 1)) := by
 obtain ⟨i0, hi, hz0, hz1, hz2⟩ := info_parts infoT
 have HT : Hid (∀ W, Below w.heap.size w W → (⟨a, c, L⟩ : TL).Ok W) := fun W h => ht.below h
 replace hl := hide hl
 clear ht
 have HLP : Hid ((L.map (·.s)).length = l) := by show _ = _; rw [List.length_map, hl.out]
 have HGE : Hid (∀ i (h : i < L.length), (L.map (·.s))[i]? = some L[i].s) := fun i h => by simp [h]
 have HCK : Hid (∀ k, k ≤ l → ∀ C : List Tx, C.map (·.s) = cutK (L.map (·.s)) at' k → C.length = if k ≤ at' then k else k - 1) := fun k hk C hC => by
  rw [← cutK_len (l := L.map (·.s)) (by rw [HLP.out]; exact ha) (by rw [HLP.out]; exact hk), ← hC, List.length_map]
 go_enter Tryz.func110, Tryz.ntmps110
 go_wp2_with fail
 go_loopw [5, 6] (fun q3 q4 wr => ∃ (v : Value) (C : List Tx) (k : Nat), q3 = v ∧ q4 = .int .i64 (k : Int) ∧ k ≤ l ∧ Hid (MkI w wr v C (cutK (L.map (·.s)) at' k))) (fun _ q4 _ => l - (intOf q4).toNat)
 case atStart => exact ⟨_, [], 0, rfl, rfl, Nat.zero_le _, by unfold cutK; rw [if_pos (Nat.zero_le _), List.take_zero]; exact MkI.nil w w (Below.refl _ _)⟩
 case round =>
  obtain ⟨v, C, k, rfl, rfl, hle, HI⟩ := hrel
  rename World => wr
  obtain ⟨i, hic⟩ : ∃ i, C.length = i := ⟨_, rfl⟩
  have hi2 := HCK.out k hle C HI.out.s
  rw [hic] at hi2
  have hil : i ≤ l := by split at hi2 <;> omega
  replace hi2 := hide hi2
  replace hic := hide hic
  obtain ⟨va, vc, hve, _, _⟩ := vok_of_owns HI.out.row
  rw [hic.out] at hve
  subst hve
  by_cases hlt : k < l
  ·have j1 : (k : Int) < (l : Int) := by omega
   have hiL : k < L.length := by rw [hl.out]; omega
   by_cases hka : k = at'
   ·subst hka
    have HNEW : Hid (MkI w wr (.slice va i vc) C (cutK (L.map (·.s)) k (k + 1))) := by show MkI _ _ _ _ _; rw [cutK_same]; exact HI.out
    go_wp2_with fail
    go_roundw
    case rel => exact ⟨_, C, k + 1, rfl, by go_num, by omega, HNEW⟩
    case measure => simp [intOf]; omega
   ·have hne : ((k : Int) != (at' : Int)) = true := by rw [bne_iff_ne]; omega
    have hT := HT.out wr HI.out.b
    obtain ⟨b, o, hae, s0⟩ := hT.r k hiL
    simp only at hae
    subst hae
    have OK := hide (hT.ok L[k] (List.getElem_mem hiL))
    have HG := hide (HGE.out k hiL)
    obtain ⟨t, hx⟩ : ∃ t, t = L[k] := ⟨_, rfl⟩
    simp only [← hx] at s0 OK HG
    unfold Tx.v at s0
    obtain ⟨nk, hnk⟩ : ∃ nk, t.s.length = nk := ⟨_, rfl⟩
    rw [hnk] at s0
    have HBY := hide (rbytes_any t.a nk t.c t.s wr hnk (by have := OK.out.z; omega) (by have := OK.out.n; rw [hnk] at this; exact this) OK.out.r)
    replace hnk := hide hnk
    have HRW : Hid (wr.ownsRow w.heap.size 28 1 (.slice va i vc) i (C.map Tx.v)) := by have := HI.out.row; rw [hic.out] at this; exact this
    have HKA : Hid (k ≠ at') := hka
    clear hT hx hka
    go_wp2_with fail
    refine HBY.out.mono ?_
    rintro e w2 ⟨v2, rfl, hv2, hb2⟩
    obtain ⟨na, nc, hve, _, _, _⟩ := hv2.slice
    rw [hnk.out] at hve
    subst hve
    have V2 := hide hv2
    have B2 := hide hb2
    have R2 := hide (owns_below HRW.out hb2)
    clear hv2 hb2 HBY s0
    have hsz := B2.out.size
    have hsw := HI.out.b.size
    go_wp2_with (first
     | (at_builtin; refine append_own_any rfl (.tmp 16) (.tmp 22) 31 rfl w.heap.size 28 i0 (.slice none 0 0) 1 24 Tryz.underlying31 hi hz0 hz1 hz2 rfl (by decide) (.slice va i vc) i (C.map Tx.v) rfl (owns_below R2.out ((Below.refl _ _).alloc (Nat.le_refl _) _)) (some ⟨w2.heap.size, 0, none⟩) 1 1 [.slice na nk nc] rfl rfl (by intro h; cases h) (by intro ad had; cases had; exact one_new _ _ _) (by intro u hu; simp at hu; subst hu; rfl) (by unfold maxLen; omega) (by omega) (by simp; omega) ?_; intro v5 w5 hown5 hg5; have HO5 := hide hown5; have HG5 := hide hg5; clear hown5 hg5)
     | fail)
    have HNEW : Hid (MkI w w5 v5 (C ++ [⟨na, nc, t.s⟩]) (cutK (L.map (·.s)) at' (k + 1))) := by
     show MkI _ _ _ _ _
     rw [cutK_next HG.out HKA.out]
     exact HI.out.more hnk.out V2.out B2.out (by rw [hic.out]; exact HO5.out) HG5.out ⟨OK.out.b8, OK.out.z⟩
    clear V2 B2 R2 HO5 HG5
    go_wp2_with fail
    go_roundw
    case rel => exact ⟨_, C ++ [⟨na, nc, t.s⟩], k + 1, rfl, by go_num, by omega, HNEW⟩
    case measure => simp [intOf]; omega
  ·have j1 : ¬ (k : Int) < (l : Int) := by omega
   obtain rfl : k = l := by omega
   have HF : Hid (MkP w (remL (L.map (·.s)) at') (k - 1) (.returned (.slice va i vc)) wr) := by
    have hs := HI.out.s
    have he := cutK_end (l := L.map (·.s)) (at' := at') (by rw [HLP.out]; exact ha)
    rw [HLP.out] at he
    rw [he] at hs
    have h3 := hi2.out
    rw [if_neg (by omega)] at h3
    subst h3
    exact ⟨va, vc, C, rfl, hs, hic.out, HI.out.own hic.out, HI.out.b⟩
   go_wp2_with fail
   go_ret
   exact HF.out
end Go.Proofs.YtpljbgcofmlhbaaGreat
namespace Go.Proofs.YtpljbgcofmlhbaaGreat
open Go.RowKit
set_option maxRecDepth 100000
theorem TCells.takeN {W : World} {a : Option Addr} {L : List Tx} (h : TCells W a L) (n : Nat) : TCells W a (L.take n) := by
 intro i hi
 have hi' : i < n ∧ i < L.length := by rw [List.length_take] at hi; omega
 obtain ⟨b, o, ha, hc⟩ := h i hi'.2
 refine ⟨b, o, ha, ?_⟩
 rw [List.getElem_take]; exact hc
theorem TCells.dropN {W : World} {a : Option Addr} {L : List Tx} (h : TCells W a L) (n m : Nat) (hm : L.length ≤ m) : TCells W (cutAt a n m) (L.drop n) := by
 intro i hi
 have hi' : n + i < L.length := by rw [List.length_drop] at hi; omega
 obtain ⟨b, o, rfl, hc⟩ := h (n + i) hi'
 refine ⟨b, o + n, ?_, ?_⟩
 ·unfold cutAt; rw [if_neg (by omega)]; simp [Addr.add_lit]
 ·rw [List.getElem_drop, Nat.add_assoc]; exact hc
theorem TL.Ok.cutL {W : World} {t : TL} (h : t.Ok W) (m : Nat) (hm : m ≤ t.L.length) : (⟨t.a, m, t.L.take m⟩ : TL).Ok W :=
 ⟨h.r.takeN m, fun x hx => h.ok x (List.mem_of_mem_take hx), fun e => by have := (h.n e).1; simp only [List.length_take]; omega, by simp only [List.length_take]; omega⟩
theorem TL.Ok.cutR {W : World} {t : TL} (h : t.Ok W) (m : Nat) : (⟨cutAt t.a m t.L.length, t.L.length - m, t.L.drop m⟩ : TL).Ok W :=
 ⟨h.r.dropN m t.L.length (Nat.le_refl _), fun x hx => h.ok x (List.mem_of_mem_drop hx), fun e => by have := (h.n (cutAt_none e)).1; simp only [List.length_drop]; omega, by simp only [List.length_drop]; omega⟩
theorem row_takeN {W : World} {k : IntKind} {a : Option Addr} {s : List Int} (h : Row W k a s) (n : Nat) : Row W k a (s.take n) := by
 intro i hi
 have hi' : i < n ∧ i < s.length := by rw [List.length_take] at hi; omega
 obtain ⟨b, o, ha, hc⟩ := h i hi'.2
 refine ⟨b, o, ha, ?_⟩
 rw [List.getD_eq_getElem?_getD, List.getElem?_take_of_lt hi'.1, ← List.getD_eq_getElem?_getD]; exact hc
theorem row_dropN {W : World} {k : IntKind} {a : Option Addr} {s : List Int} (h : Row W k a s) (n m : Nat) (hm : s.length ≤ m) : Row W k (cutAt a n m) (s.drop n) := by
 intro i hi
 have hi' : n + i < s.length := by rw [List.length_drop] at hi; omega
 obtain ⟨b, o, rfl, hc⟩ := h (n + i) hi'
 refine ⟨b, o + n, ?_, ?_⟩
 ·unfold cutAt; rw [if_neg (by omega)]; simp [Addr.add_lit]
 ·rw [List.getD_eq_getElem?_getD, List.getElem?_drop, ← List.getD_eq_getElem?_getD, Nat.add_assoc]; exact hc
theorem IL.Ok.cutL {W : World} {t : IL} (h : t.Ok W) (m : Nat) (hm : m ≤ t.s.length) : (⟨t.a, m, t.s.take m⟩ : IL).Ok W :=
 ⟨row_takeN h.r m, fun e => by have := (h.n e).1; simp only [List.length_take]; omega, by simp only [List.length_take]; omega⟩
theorem IL.Ok.cutR {W : World} {t : IL} (h : t.Ok W) (m : Nat) : (⟨cutAt t.a m t.s.length, t.s.length - m, t.s.drop m⟩ : IL).Ok W :=
 ⟨row_dropN h.r m t.s.length (Nat.le_refl _), fun e => by have := (h.n (cutAt_none e)).1; simp only [List.length_drop]; omega, by simp only [List.length_drop]; omega⟩
def TL.left (t : TL) (h : Nat) : TL := ⟨t.a, min h t.L.length, t.L.take (min h t.L.length)⟩
def TL.rest (t : TL) (h : Nat) : TL := ⟨cutAt t.a (min h t.L.length) t.L.length, t.L.length - min h t.L.length, t.L.drop (min h t.L.length)⟩
def IL.left (t : IL) (h : Nat) : IL := ⟨t.a, min h t.s.length, t.s.take (min h t.s.length)⟩
def IL.rest (t : IL) (h : Nat) : IL := ⟨cutAt t.a (min h t.s.length) t.s.length, t.s.length - min h t.s.length, t.s.drop (min h t.s.length)⟩
theorem TL.Ok.left {W : World} {t : TL} (h : t.Ok W) (m : Nat) : (t.left m).Ok W := h.cutL _ (Nat.min_le_right _ _)
theorem TL.Ok.rest {W : World} {t : TL} (h : t.Ok W) (m : Nat) : (t.rest m).Ok W := h.cutR _
theorem IL.Ok.left {W : World} {t : IL} (h : t.Ok W) (m : Nat) : (t.left m).Ok W := h.cutL _ (Nat.min_le_right _ _)
theorem IL.Ok.rest {W : World} {t : IL} (h : t.Ok W) (m : Nat) : (t.rest m).Ok W := h.cutR _
theorem take_min {α : Type} (l : List α) (m : Nat) : l.take (min m l.length) = l.take m := by
 rcases Nat.le_total m l.length with h | h
 ·rw [Nat.min_eq_left h]
 ·rw [Nat.min_eq_right h, List.take_of_length_le (Nat.le_refl _), List.take_of_length_le h]
theorem drop_min {α : Type} (l : List α) (m : Nat) : l.drop (min m l.length) = l.drop m := by
 rcases Nat.le_total m l.length with h | h
 ·rw [Nat.min_eq_left h]
 ·rw [Nat.min_eq_right h, List.drop_of_length_le (Nat.le_refl _), List.drop_of_length_le h]
theorem TL.left_p (t : TL) (m : Nat) : (t.left m).p = t.p.take m := by
 unfold TL.left TL.p
 simp only [take_min, List.map_take]
theorem TL.rest_p (t : TL) (m : Nat) : (t.rest m).p = t.p.drop m := by
 unfold TL.rest TL.p
 simp only [drop_min, List.map_drop]
theorem IL.left_s (t : IL) (m : Nat) : (t.left m).s = t.s.take m := take_min _ _
theorem IL.rest_s (t : IL) (m : Nat) : (t.rest m).s = t.s.drop m := drop_min _ _
theorem TL.left_v (t : TL) (m : Nat) : (t.left m).v = .slice t.a (min m t.L.length) (min m t.L.length) := by
 unfold TL.left TL.v
 simp only [List.length_take, Nat.min_assoc, Nat.min_self]
theorem TL.rest_v (t : TL) (m : Nat) : (t.rest m).v = .slice (cutAt t.a (min m t.L.length) t.L.length) (t.L.length - min m t.L.length) (t.L.length - min m t.L.length) := by
 unfold TL.rest TL.v
 simp only [List.length_drop]
theorem IL.left_v (t : IL) (m : Nat) : (t.left m).v = .slice t.a (min m t.s.length) (min m t.s.length) := by
 unfold IL.left IL.v
 simp only [List.length_take, Nat.min_assoc, Nat.min_self]
theorem IL.rest_v (t : IL) (m : Nat) : (t.rest m).v = .slice (cutAt t.a (min m t.s.length) t.s.length) (t.s.length - min m t.s.length) (t.s.length - min m t.s.length) := by
 unfold IL.rest IL.v
 simp only [List.length_drop]
def NP.wd (p : NP) : Nat := if p.lv = 0 then p.ks.length else p.cs.length
def NP.half (p : NP) : Nat := (p.wd + 1) / 2
def NP.cutK (p : NP) : Nat := if p.lv = 0 then p.half else p.half - 1
def NP.bet (p : NP) : List Int := (p.ks.drop p.cutK).headD []
def NP.restK (p : NP) : List (List Int) := if p.lv = 0 then p.ks.drop p.cutK else (p.ks.drop p.cutK).drop 1
def NP.one (p : NP) (right : Int) : NP := ⟨p.lv, p.bet, right, p.ks.take p.cutK, p.vs.take p.half, p.cs.take p.half⟩
def NP.two (p : NP) : NP := ⟨p.lv, p.hi, p.ri, p.restK, p.vs.drop p.half, p.cs.drop p.half⟩
end Go.Proofs.YtpljbgcofmlhbaaGreat
namespace Go.Proofs.YtpljbgcofmlhbaaGreat
open Go.RowKit
set_option maxRecDepth 100000
theorem Rs.lt {l : List (List Int)} (h : Rs l) : ∀ d i, i + d + 1 < l.length → cmpI (l.getD i []) (l.getD (i + d + 1) []) < 0
 | 0, i, hi => h i (by omega)
 | d + 1, i, hi => by
  have h1 := Rs.lt h d i (by omega)
  have h2 := h (i + d + 1) (by omega)
  exact (cmpI_trans _ _ _ (Int.le_of_lt h1) (Int.le_of_lt h2)).2 h1
theorem Rs.at_lt {l : List (List Int)} (h : Rs l) {i j : Nat} (hij : i < j) (hj : j < l.length) : cmpI (l.getD i []) (l.getD j []) < 0 := by
 obtain ⟨d, rfl⟩ : ∃ d, j = i + d + 1 := ⟨j - i - 1, by omega⟩
 exact h.lt d i hj
theorem NP.bet_at (p : NP) : p.bet = p.ks.getD p.cutK [] := by
 unfold NP.bet
 generalize p.cutK = c
 rw [List.headD_eq_head?_getD, List.head?_drop, List.getD_eq_getElem?_getD]
theorem wd_few {p : NP} (h : RtP p) : p.wd = if 0 < p.lv then p.cs.length else p.ks.length := by
 unfold NP.wd
 rcases h.2 with h1 | h1
 ·rw [if_pos h1.1, if_neg (by omega)]
 ·rw [if_neg (by omega), if_pos h1.1]
theorem cutK_lt {p : NP} (h : RtP p) (hw : 2 ≤ p.wd) : p.cutK < p.ks.length := by
 have e := wd_few h
 unfold NP.cutK NP.half
 rcases h.2 with h1 | h1
 ·rw [if_pos h1.1]; rw [if_neg (by omega)] at e; omega
 ·rw [if_neg (by omega)]; rw [if_pos h1.1] at e; omega
theorem keys_l {p : NP} (h : RtP p) (hw : 2 ≤ p.wd) (i : Nat) (hi : i < (p.ks.take p.cutK).length) : cmpI ((p.ks.take p.cutK)[i]) p.bet < 0 := by
 have hc := cutK_lt h hw
 rw [List.length_take] at hi
 rw [NP.bet_at, List.getElem_take]
 have := h.1.at_lt (i := i) (j := p.cutK) (by omega) hc
 rwa [List.getD_eq_getElem?_getD, List.getElem?_eq_getElem (by omega), Option.getD_some] at this
theorem keys_r {p : NP} (h : RtP p) (hw : 2 ≤ p.wd) (i : Nat) (hi : i < p.restK.length) : ¬ cmpI (p.restK[i]) p.bet < 0 := by
 have hc := cutK_lt h hw
 obtain ⟨j, hj1, hj2, hj3⟩ : ∃ j, p.cutK ≤ j ∧ ∃ hj : j < p.ks.length, p.restK[i] = p.ks[j] := by
  by_cases e : p.lv = 0
  ·have e1 : p.restK = p.ks.drop p.cutK := if_pos e
   have hl : i < (p.ks.drop p.cutK).length := by rw [← e1]; exact hi
   rw [List.length_drop] at hl
   refine ⟨p.cutK + i, by omega, by omega, ?_⟩
   simp only [e1, List.getElem_drop]
  ·have e1 : p.restK = (p.ks.drop p.cutK).drop 1 := if_neg e
   have hl : i < ((p.ks.drop p.cutK).drop 1).length := by rw [← e1]; exact hi
   rw [List.length_drop, List.length_drop] at hl
   refine ⟨p.cutK + (1 + i), by omega, by omega, ?_⟩
   simp only [e1, List.getElem_drop]
 rw [hj3, NP.bet_at]
 intro hlt
 have e2 : p.ks[j] = p.ks.getD j [] := by rw [List.getD_eq_getElem?_getD, List.getElem?_eq_getElem hj2, Option.getD_some]
 rw [e2] at hlt
 by_cases e : j = p.cutK
 ·rw [e, cmpI_refl] at hlt; omega
 ·have := h.1.at_lt (i := p.cutK) (j := j) (by omega) hj2
  rw [cmpI_swap] at hlt
  omega
theorem keys_all {p : NP} (h : RtP p) (hw : 2 ≤ p.wd) : p.ks = p.ks.take p.cutK ++ (if 0 < p.lv then [p.bet] else []) ++ p.restK := by
 have hc := cutK_lt h hw
 rcases h.2 with h1 | h1
 ·rw [if_neg (by omega), show p.restK = p.ks.drop p.cutK from if_pos h1.1, List.append_nil, List.take_append_drop]
 ·rw [if_pos h1.1, show p.restK = (p.ks.drop p.cutK).drop 1 from if_neg (by omega), NP.bet_at, List.append_assoc]
  have : p.ks.drop p.cutK = [p.ks.getD p.cutK []] ++ (p.ks.drop p.cutK).drop 1 := by
   rw [List.drop_drop, List.drop_eq_getElem_cons hc, List.getD_eq_getElem?_getD, List.getElem?_eq_getElem hc, Option.getD_some]
   simp
  rw [← this, List.take_append_drop]
theorem cntL_none {l : List (List Int)} {key : List Int} (h : ∀ x ∈ l, cmpI key x < 0) : cntL l key = 0 := by
 unfold cntL
 rw [List.countP_eq_zero]
 intro x hx
 have := h x hx
 simp
 omega
theorem cntL_full {l : List (List Int)} {key : List Int} (h : ∀ x ∈ l, 0 ≤ cmpI key x) : cntL l key = l.length := by
 unfold cntL
 rw [List.countP_eq_length]
 intro x hx
 have := h x hx
 simp
 exact this
theorem cntL_app (a b : List (List Int)) (key : List Int) : cntL (a ++ b) key = cntL a key + cntL b key := by unfold cntL; rw [List.countP_append]
theorem led_same {p : NP} (h : RtP p) (hw : 2 ≤ p.wd) (key : List Int) : (cmpI key p.bet < 0 → chiN (p.ks.take p.cutK) (p.cs.take p.half) key = chiN p.ks p.cs key) ∧ (0 ≤ cmpI key p.bet → chiN p.restK (p.cs.drop p.half) key = chiN p.ks p.cs key) := by
 have hc := cutK_lt h hw
 have hall := keys_all h hw
 rcases h.2 with h1 | h1
 ·have hz : p.cs = [] := List.eq_nil_of_length_eq_zero h1.2.2
  rw [hz]
  exact ⟨fun _ => (by simp [chiN]), fun _ => (by simp [chiN])⟩
 ·rw [if_pos h1.1] at hall
  have ew : p.wd = p.cs.length := by rw [wd_few h, if_pos h1.1]
  have eh : p.half = (p.cs.length + 1) / 2 := by unfold NP.half; rw [ew]
  have ec : p.cutK = p.half - 1 := if_neg (by omega)
  have hlc := h1.2.2
  have hr : p.restK.length = p.ks.length - p.half := by
   rw [show p.restK = (p.ks.drop p.cutK).drop 1 from if_neg (by omega), List.length_drop, List.length_drop]; omega
  have hcnt : cntL p.ks key = cntL (p.ks.take p.cutK) key + cntL [p.bet] key + cntL p.restK key := by
   conv => lhs; rw [hall]
   rw [cntL_app, cntL_app]
  have hb1 : ∀ x ∈ p.restK, 0 ≤ cmpI x p.bet := fun x hx => by
   obtain ⟨i, hi, rfl⟩ := List.getElem_of_mem hx
   have := keys_r h hw i hi
   omega
  have hb0 : ∀ x ∈ p.ks.take p.cutK, cmpI x p.bet < 0 := fun x hx => by
   obtain ⟨i, hi, rfl⟩ := List.getElem_of_mem hx
   exact keys_l h hw i hi
  have hg : ∀ (l : List Int) (k : Nat), l.getD k 0 = l[k]?.getD 0 := fun l k => List.getD_eq_getElem?_getD ..
  refine ⟨fun hlt => ?_, fun hge => ?_⟩
  ·have e1 : cntL [p.bet] key = 0 := cntL_none (fun x hx => by rw [List.mem_singleton] at hx; rw [hx]; exact hlt)
   have e2 : cntL p.restK key = 0 := cntL_none (fun x hx => by
    have h3 := hb1 x hx
    rw [cmpI_swap] at h3
    exact (cmpI_trans key p.bet x (Int.le_of_lt hlt) (by omega)).2 hlt)
   rw [e1, e2] at hcnt
   have hle : cntL (p.ks.take p.cutK) key ≤ p.cutK := by have := cntL_le (p.ks.take p.cutK) key; rw [List.length_take] at this; omega
   unfold chiN
   rw [List.length_take, if_neg (by omega), if_neg (by omega), hcnt]
   rw [hg, hg, List.getElem?_take_of_lt (by omega)]
   congr 2
   omega
  ·have e1 : cntL [p.bet] key = 1 := cntL_full (fun x hx => by rw [List.mem_singleton] at hx; rw [hx]; exact hge)
   have e2 : cntL (p.ks.take p.cutK) key = p.cutK := by
    rw [cntL_full (fun x hx => ?_), List.length_take]
    ·omega
    ·have h3 := hb0 x hx
     have h4 : cmpI p.bet key ≤ 0 := by rw [cmpI_swap]; omega
     have := (cmpI_trans x p.bet key (Int.le_of_lt h3) h4).2 h3
     rw [cmpI_swap]
     omega
   rw [e1, e2] at hcnt
   have hle := cntL_le p.restK key
   unfold chiN
   rw [List.length_drop, if_neg (by omega), if_neg (by omega), hcnt]
   rw [hg, hg, List.getElem?_drop]
   congr 2
   omega
end Go.Proofs.YtpljbgcofmlhbaaGreat
