/- block: Find. -/
import Derived.Test.YtjnldmbjeiejdaaG48
namespace Go.Proofs.Ytjnldmbjeiejdaa
open Go.RowKit

def gKeyOk (zs key vs : List Int) (b : Bool) : Prop := (bRes zs).2.1 = 0 → IsF (bRes zs).1 key vs b
/-- What Find's closure does. -/
def F1Post (w : World) (zs key : List Int) (gv gi : Nat) (e : Ending) (w' : World) : Prop :=
  Upd (fun i => i = gv ∨ i = gi) w w' ∧ ((∃ va vs vc b, (∃ v, e = .returned v) ∧ One w' gv 23 (.slice va vs.length vc) ∧ One w' gi 4 (.bool b) ∧ OwnB w' w.heap.size 5 (.slice va vs.length vc) vs ∧ ((bRes zs).2.1 = 0 → IsF (bRes zs).1 key vs b)) ∨
    ((bRes zs).2.1 ≠ 0 ∧ (∃ er q, e = fallen er q) ∧ One w' gv 23 (.slice none 0 0) ∧ One w' gi 4 (.bool false)))

set_option maxRecDepth 100000 in
set_option maxHeartbeats 1600000 in
theorem find1_any (a : Option Addr) (l c gb gk gv gi : Nat) (zs : List Int) (ka : Option Addr) (kl kc : Nat) (key : List Int) (w : World) (hl : zs.length = l) (hm : l ≤ 140737488351232) (hcl : l ≤ c) (na : a = none → l = 0 ∧ c = 0) (hr : Row w .u8 a zs) (z8 : B8 zs) (hk : key.length = kl) (k8 : B8 key) (hrk : Row w .u8 ka key)
    (h1 : One w gb 23 (.slice a l c)) (h2 : One w gk 23 (.slice ka kl kc)) (h3 : One w gv 23 (.slice none 0 0)) (h4 : One w gi 4 (.bool false)) (hd : gv ≠ gi) :
    Calls Try.prog 38 #[.pointer (some ⟨gb, 0, none⟩), .pointer (some ⟨gk, 0, none⟩), .pointer (some ⟨gv, 0, none⟩), .pointer (some ⟨gi, 0, none⟩)] w (F1Post w zs key gv gi) := by
  have c1 := h1.cell
  have c2 := h2.cell
  have hdb : Below w.heap.size w w.drew := (Below.refl _ _).drew
  have l3 : gv < w.heap.size := lt_of_block h3
  have l4 : gi < w.heap.size := lt_of_block h4
  have l2 : gk < w.heap.size := lt_of_block h2
  have HST := hide (start_any a l c zs w.drew hl (by omega) (hr.below2 hdb) z8)
  have HP : Hid (∀ e w', F1Post w zs key gv gi e w' ↔ (Upd (fun i => i = gv ∨ i = gi) w w' ∧ ((∃ va vs vc b, (∃ v, e = .returned v) ∧ One w' gv 23 (.slice va vs.length vc) ∧ One w' gi 4 (.bool b) ∧ OwnB w' w.heap.size 5 (.slice va vs.length vc) vs ∧ ((bRes zs).2.1 = 0 → IsF (bRes zs).1 key vs b)) ∨
    ((bRes zs).2.1 ≠ 0 ∧ (∃ er q, e = fallen er q) ∧ One w' gv 23 (.slice none 0 0) ∧ One w' gi 4 (.bool false))))) := fun _ _ => Iff.rfl
  by_cases h0 : stE zs = 0
  · have HS2 : Hid (Calls Try.prog 39 #[.slice a l c] w.drew fun e w1 => ∃ g, e = .returned (.pointer (some ⟨g, 0, none⟩)) ∧ w1.cell? ⟨gk, 0, none⟩ = some (.slice ka kl kc) ∧
        Hid (Calls Try.prog 40 #[.pointer (some ⟨g, 0, none⟩), .slice ka kl kc] w1 fun e w2 => (∃ va nV vc b, e = .returned (.tuple #[.slice va nV vc, .bool b]) ∧ w2.cell? ⟨gv, 0, none⟩ = some (.slice none 0 0) ∧ w2.cell? ⟨gi, 0, none⟩ = some (.bool false) ∧ w2.frozen? ⟨gv, 0, none⟩ = false ∧ w2.frozen? ⟨gi, 0, none⟩ = false ∧
          Hid (F1Post w zs key gv gi (.returned (.tuple #[])) ((w2.setCell ⟨gv, 0, none⟩ (.slice va nV vc)).setCell ⟨gi, 0, none⟩ (.bool b))) ∧ Hid (F1Post w zs key gv gi (.returned (.tuple #[])) ((w2.setCell ⟨gi, 0, none⟩ (.bool b)).setCell ⟨gv, 0, none⟩ (.slice va nV vc)))) ∨ (∃ er q, e = fallen er q ∧ Hid (F1Post w zs key gv gi e w2)))) := by
      refine HST.out.mono ?_
      rintro e w1 ⟨hb1, ⟨_, g, hg, rfl, wk⟩ | ⟨h9, _⟩⟩
      · have hb1' : Below w.heap.size w w1 := hdb.trans hb1
        have hg' : w.heap.size ≤ g := hg
        refine ⟨g, rfl, One.cell (t := 23) ((hb1'.block gk l2).trans h2), ?_⟩
        have hat := bRes_at h0
        have hnx := (rd_at zs 0 z8 (Nat.zero_le _)).2.2.2.1
        refine (seek_any wk ka kl kc key hl hm hcl na (by omega) hat.2 (hr.below2 hb1') (fun x hx hx0 => by have := row_lt hr hx (by omega); omega) z8 hk k8 (hrk.below2 hb1') (fun x hx hx0 => by have := row_lt hrk hx (by omega); omega) (fun hb => by
          obtain ⟨q1, q2, q3, _⟩ := bRes_back z8 hb
          obtain ⟨q4, q5, _, _⟩ := blk_head q1 q2 q3
          exact ⟨q4, q5⟩)).mono ?_
        rintro e w2 ⟨hu2, hcase⟩
        have hu : Upd (fun i => i = gv ∨ i = gi) w w2 := (Upd.of_below hb1' _).then hu2 (fun i hi e => by omega)
        have o3 : One w2 gv 23 (.slice none 0 0) := hu2.heap ((hb1'.block gv l3).trans h3) (by omega)
        have o4 : One w2 gi 4 (.bool false) := hu2.heap ((hb1'.block gi l4).trans h4) (by omega)
        rcases hcase with ⟨va, vs, vc, b, rfl, ov, hf⟩ | ⟨hb, er, q, rfl⟩
        · have hne : ∀ k, (Value.slice va vs.length vc).ownBlock = some k → k ≠ gv ∧ k ≠ gi := fun k hk => by
            have h1 := (ov.owns.lt k hk).1
            have h2 := hb1'.size
            omega
          have hbase : w.heap.size ≤ w1.heap.size := hb1'.size
          refine .inl ⟨va, _, vc, b, rfl, o3.cell, o4.cell, o3.fr, o4.fr, ?_, ?_⟩
          · have u3 := set_upd w2 gv 0 (.slice va vs.length vc)
            have u4 := set_upd (w2.setCell ⟨gv, 0, none⟩ (.slice va vs.length vc)) gi 0 (.bool b)
            refine (HP.out _ _).2 ⟨(hu.trans (u3.mono (fun i _ e => .inl e))).trans (u4.mono (fun i _ e => .inr e)), .inl ⟨va, vs, vc, b, ⟨_, rfl⟩, u4.heap (block_setCell o3 0 _) hd, block_setCell (u3.heap o4 (fun e => hd e.symm)) 0 _, ((ov.upd u3 (fun k hk => (hne k hk).1)).upd u4 (fun k hk => (hne k hk).2)).mono hbase, hf⟩⟩
          · have u3 := set_upd w2 gi 0 (.bool b)
            have u4 := set_upd (w2.setCell ⟨gi, 0, none⟩ (.bool b)) gv 0 (.slice va vs.length vc)
            refine (HP.out _ _).2 ⟨(hu.trans (u3.mono (fun i _ e => .inr e))).trans (u4.mono (fun i _ e => .inl e)), .inl ⟨va, vs, vc, b, ⟨_, rfl⟩, block_setCell (u3.heap o3 hd) 0 _, u4.heap (block_setCell o4 0 _) (fun e => hd e.symm), ((ov.upd u3 (fun k hk => (hne k hk).2)).upd u4 (fun k hk => (hne k hk).1)).mono hbase, hf⟩⟩
        · exact .inr ⟨er, q, rfl, (HP.out _ _).2 ⟨hu, .inr ⟨hb, ⟨_, _, rfl⟩, o3, o4⟩⟩⟩
      · exact absurd h0 h9
    clear HST HP h1 h2 h3 h4 hr hrk na hdb
    go_enter Try.func38, Try.ntmps38
    go_wp2_with fail
    go_region_law (first
      | (go_simp; go_at_call 40; refine HSK.out.mono ?_; rintro e w2 (⟨va, nV, vc, b, rfl, d3, d4, f3, f4, HF1, HF2⟩ | ⟨er, q, rfl, HF⟩); rotate_left; exact ⟨rfl, HF.out⟩)
      | (go_simp; go_at_call 39; refine HS2.out.mono ?_; rintro e w1 ⟨g, rfl, d2, HSK⟩)
      | fail)
    all_goals
      go_wp2_with fail
      go_end0
      first
        | exact HF1.out
        | exact HF2.out
  · have HS2 : Hid (Calls Try.prog 39 #[.slice a l c] w.drew fun e w1 => ∃ er q, e = fallen er q ∧ F1Post w zs key gv gi e w1) := by
      refine HST.out.mono ?_
      rintro e w1 ⟨hb1, ⟨h9, _⟩ | ⟨_, rfl⟩⟩
      · exact absurd h9 h0
      · have hb1' : Below w.heap.size w w1 := hdb.trans hb1
        refine ⟨_, _, rfl, (HP.out _ _).2 ⟨Upd.of_below hb1' _, .inr ⟨fun hb => h0 ?_, ⟨_, _, rfl⟩, (hb1'.block gv l3).trans h3, (hb1'.block gi l4).trans h4⟩⟩⟩
        obtain ⟨q1, q2, q3, _⟩ := bRes_back z8 hb
        exact (blk_head q1 q2 q3).2.2.1
    clear HST HP h1 h2 h3 h4 hr hrk na hdb
    go_enter Try.func38, Try.ntmps38
    go_wp2_with fail
    go_region_dies
    all_goals
      refine HS2.out.mono ?_
      rintro e w2 ⟨er, q, rfl, hs⟩
      exact ⟨rfl, hs⟩

/-- What Find tells. -/
def FdPost (w : World) (zs key : List Int) (e : Ending) (w' : World) : Prop :=
  Below w.heap.size w w' ∧ ∃ va vs vc b er, e = .returned (.tuple #[.slice va vs.length vc, .bool b, .int .i64 er]) ∧ OwnB w' w.heap.size 5 (.slice va vs.length vc) vs ∧ ((bRes zs).2.1 = 0 → IsF (bRes zs).1 key vs b ∧ er = 0)

set_option maxRecDepth 100000 in
set_option maxHeartbeats 1600000 in
theorem find_any (a : Option Addr) (l c : Nat) (zs : List Int) (ka : Option Addr) (kl kc : Nat) (key : List Int) (w : World) (hl : zs.length = l) (hm : l ≤ 140737488351232) (hcl : l ≤ c) (na : a = none → l = 0 ∧ c = 0) (hr : Row w .u8 a zs) (z8 : B8 zs) (hk : key.length = kl) (k8 : B8 key) (hrk : Row w .u8 ka key) :
    Calls Try.prog 13 #[.slice a l c, .slice ka kl kc] w (FdPost w zs key) := by
  have hmf : ∀ (fn : Fn) (first cap : Array Value) (w : World), (Instr.makeFunc fn first cap).run Try.prog w = .ok (.func fn first cap) w := fun _ _ _ _ => rfl
  obtain ⟨w4, hw4⟩ : ∃ w4, w4 = (((w.alloc (.cells #[.slice a l c] 23)).alloc (.cells #[.slice ka kl kc] 23)).alloc (.cells #[.slice none 0 0] 23)).alloc (.cells #[.bool false] 4) := ⟨_, rfl⟩
  have hb4 : Below w.heap.size w w4 := by rw [hw4]; exact ((((Below.refl _ _).alloc (Nat.le_refl _) _).alloc (by simp) _).alloc (by simp; omega) _).alloc (by simp; omega) _
  have hs4 : w4.heap.size = w.heap.size + 4 := by rw [hw4]; simp
  have hO1 : One w4 w.heap.size 23 (.slice a l c) := by rw [hw4]; exact (Below.heap_alloc _ _ _ (by simp; omega)).trans ((Below.heap_alloc _ _ _ (by simp; omega)).trans ((Below.heap_alloc _ _ _ (by simp)).trans (heap_alloc_new w _)))
  have hO2 : One w4 (w.heap.size + 1) 23 (.slice ka kl kc) := by
    have := heap_alloc_new (w.alloc (.cells #[.slice a l c] 23)) (.cells #[.slice ka kl kc] 23)
    rw [World.size_alloc] at this
    rw [hw4]; exact (Below.heap_alloc _ _ _ (by simp)).trans ((Below.heap_alloc _ _ _ (by simp)).trans this)
  have hO3 : One w4 (w.heap.size + 2) 23 (.slice none 0 0) := by
    have := heap_alloc_new ((w.alloc (.cells #[.slice a l c] 23)).alloc (.cells #[.slice ka kl kc] 23)) (.cells #[.slice none 0 0] 23)
    rw [World.size_alloc, World.size_alloc] at this
    rw [hw4]; exact (Below.heap_alloc _ _ _ (by simp)).trans this
  have hO4 : One w4 (w.heap.size + 3) 4 (.bool false) := by
    have := heap_alloc_new (((w.alloc (.cells #[.slice a l c] 23)).alloc (.cells #[.slice ka kl kc] 23)).alloc (.cells #[.slice none 0 0] 23)) (.cells #[.bool false] 4)
    rw [World.size_alloc, World.size_alloc, World.size_alloc] at this
    rw [hw4]; exact this
  have hb5 : Below w4.heap.size w4 (w4.alloc (.cells #[.int .i64 0, .int .i64 0] 69)) := (Below.refl _ _).alloc (Nat.le_refl _) _
  have HT := hide (tried_any 38 #[.pointer (some ⟨w.heap.size, 0, none⟩), .pointer (some ⟨w.heap.size + 1, 0, none⟩), .pointer (some ⟨w.heap.size + 2, 0, none⟩), .pointer (some ⟨w.heap.size + 3, 0, none⟩)] w4
    (fun w' => Upd (fun i => i = w.heap.size + 2 ∨ i = w.heap.size + 3) (w4.alloc (.cells #[.int .i64 0, .int .i64 0] 69)) w' ∧ ∃ va vs vc b, One w' (w.heap.size + 2) 23 (.slice va vs.length vc) ∧ One w' (w.heap.size + 3) 4 (.bool b) ∧ OwnB w' (w4.heap.size + 1) 5 (.slice va vs.length vc) vs ∧ ((bRes zs).2.1 = 0 → IsF (bRes zs).1 key vs b))
    (fun er p w' => Upd (fun i => i = w.heap.size + 2 ∨ i = w.heap.size + 3) (w4.alloc (.cells #[.int .i64 0, .int .i64 0] 69)) w' ∧ (bRes zs).2.1 ≠ 0 ∧ One w' (w.heap.size + 2) 23 (.slice none 0 0) ∧ One w' (w.heap.size + 3) 4 (.bool false))
    (fun _ _ => rfl) (by
      refine (find1_any a l c w.heap.size (w.heap.size + 1) (w.heap.size + 2) (w.heap.size + 3) zs ka kl kc key _ hl hm hcl na ((hr.below2 hb4).below2 hb5) z8 hk k8 ((hrk.below2 hb4).below2 hb5) ((hb5.block _ (by omega)).trans hO1) ((hb5.block _ (by omega)).trans hO2) ((hb5.block _ (by omega)).trans hO3) ((hb5.block _ (by omega)).trans hO4) (by omega)).mono ?_
      rintro e w' ⟨hu, hcase⟩
      have hbk : w'.heap[w4.heap.size]? = some (.cells #[.int .i64 0, .int .i64 0] 69 (0, 0)) := hu.heap (heap_alloc_new w4 _) (fun e => by omega)
      rcases hcase with ⟨va, vs, vc, b, ⟨v, rfl⟩, h1, h2, h3, h4⟩ | ⟨h0, ⟨er, q, rfl⟩, h1, h2⟩
      · exact ⟨.inl ⟨v, rfl, hu, va, vs, vc, b, h1, h2, by rw [World.size_alloc] at h3; exact h3, h4⟩, hbk⟩
      · exact ⟨.inr ⟨_, _, rfl, hu, h0, h1, h2⟩, hbk⟩))
  have B4 := hide hb4
  have B5 := hide hb5
  have S4 := hide hs4
  have HP : Hid (∀ e w', FdPost w zs key e w' ↔ (Below w.heap.size w w' ∧ ∃ va vs vc b er, e = .returned (.tuple #[.slice va vs.length vc, .bool b, .int .i64 er]) ∧ OwnB w' w.heap.size 5 (.slice va vs.length vc) vs ∧ ((bRes zs).2.1 = 0 → IsF (bRes zs).1 key vs b ∧ er = 0))) := fun _ _ => Iff.rfl
  clear hr hrk na hb4 hO1 hO2 hO3 hO4 hs4 hb5
  go_enter Try.func13, Try.ntmps13
  go_wp2_with fail
  rw [← hw4]
  replace hw4 := hide hw4
  refine HT.out.mono ?_
  clear HT
  have HBL : Hid (∀ w5 w6 : World, Upd (fun i => i = w.heap.size + 2 ∨ i = w.heap.size + 3) (w4.alloc (.cells #[.int .i64 0, .int .i64 0] 69)) w5 → Upd (fun i => i = w4.heap.size) w5 w6 → Below w.heap.size w w6) := fun w5 w6 hu4 hu5 => by
    have hs4 := S4.out
    exact (B4.out.trans (B5.out.mono B4.out.size)).trans (((hu4.below (by simp; omega) (fun i hi e => by omega))).trans (hu5.below (Nat.le_trans (show w.heap.size ≤ _ by simp; omega) hu4.size) (fun i hi e => by omega)))
  rintro e w6 (⟨rfl, w5, ⟨hu4, va, vs, vc, b, o3, o4, ov, hf⟩, hlt, hu5⟩ | ⟨er, p, w5, rfl, ⟨hu4, h0, o3, o4⟩, hlt, hu5⟩)
  · have hs4 := S4.out
    have p3 : One w6 (w.heap.size + 2) 23 (.slice va vs.length vc) := hu5.heap o3 (fun e => by omega)
    have p4 : One w6 (w.heap.size + 3) 4 (.bool b) := hu5.heap o4 (fun e => by omega)
    have ov6 := ov.upd hu5 (fun k hk => by have := (ov.owns.lt k hk).1; omega)
    have hB6 := HBL.out w5 w6 hu4 hu5
    have hb7 : Below w6.heap.size w6 (w6.alloc (.cells #[.int .i64 0, .int .i64 0] 69)) := (Below.refl _ _).alloc (Nat.le_refl _) _
    have q3 := One.cell (W := w6.alloc (.cells #[.int .i64 0, .int .i64 0] 69)) (g := w.heap.size + 2) (t := 23) ((hb7.block _ (lt_of_block p3)).trans p3)
    have q4 := One.cell (W := w6.alloc (.cells #[.int .i64 0, .int .i64 0] 69)) (g := w.heap.size + 3) (t := 4) ((hb7.block _ (lt_of_block p4)).trans p4)
    have HF : Hid (∀ m, FdPost w zs key (.returned (.tuple #[.slice va vs.length vc, .bool b, .int .i64 0])) ((w6.alloc (.cells #[.int .i64 0, .int .i64 0] 69)).drewN m)) := fun m => (HP.out _ _).2 ⟨below_of_drewN (hB6.alloc hB6.size _) m, va, vs, vc, b, 0, rfl, ((ov6.below hb7).below (below_of_drewN (Below.refl _ _) m)).mono (by omega), fun h => ⟨hf h, rfl⟩⟩
    have y := two_new2 w6 (.int .i64 0) (.int .i64 0) 69
    have y0 := y.1
    generalize vs.length = nV at *
    clear y p3 p4 ov6 ov hB6 hb7 o3 o4 hf hu4 hu5 HP
    go_wp2_with fail
    go_quiet (fail)
    go_wp2_with fail
    go_ret3
    exact HF.out _
  · have hs4 := S4.out
    have p3 : One w6 (w.heap.size + 2) 23 (.slice none 0 0) := hu5.heap o3 (fun e => by omega)
    have p4 : One w6 (w.heap.size + 3) 4 (.bool false) := hu5.heap o4 (fun e => by omega)
    have hB6 := HBL.out w5 w6 hu4 hu5
    have hb7 : Below w6.heap.size w6 (w6.alloc (.cells #[.int .i64 er, .int .i64 p] 69)) := (Below.refl _ _).alloc (Nat.le_refl _) _
    have q3 := One.cell (W := w6.alloc (.cells #[.int .i64 er, .int .i64 p] 69)) (g := w.heap.size + 2) (t := 23) ((hb7.block _ (lt_of_block p3)).trans p3)
    have q4 := One.cell (W := w6.alloc (.cells #[.int .i64 er, .int .i64 p] 69)) (g := w.heap.size + 3) (t := 4) ((hb7.block _ (lt_of_block p4)).trans p4)
    have HF : Hid (∀ m, FdPost w zs key (.returned (.tuple #[.slice none 0 0, .bool false, .int .i64 er])) ((w6.alloc (.cells #[.int .i64 er, .int .i64 p] 69)).drewN m)) := fun m => (HP.out _ _).2 ⟨below_of_drewN (hB6.alloc hB6.size _) m, none, [], 0, false, er, rfl, OwnB.nil _ _ _, fun h => absurd h h0⟩
    have y := two_new2 w6 (.int .i64 er) (.int .i64 p) 69
    have y0 := y.1
    clear y p3 p4 hB6 hb7 o3 o4 hu4 hu5 HP
    go_wp2_with fail
    go_quiet (fail)
    go_wp2_with fail
    go_ret3
    exact HF.out _

end Go.Proofs.Ytjnldmbjeiejdaa
