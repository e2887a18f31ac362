/- Texts of one's own. -/
import Derived.Test.YtealejbfloacpaaGreatM2
import Derived.Test.YtealejbfloacpaaGreatM5
import Derived.Deep.AppendLies
import Derived.Deep.RegionHeld3
import Derived.BigRegion
import Derived.Handy
namespace Go.Proofs.YtealejbfloacpaaGreat
open Go.RowKit
set_option maxRecDepth 100000
structure Tx where
 a : Option Addr
 c : Nat
 s : List Int
def Tx.v (t : Tx) : Value := .slice t.a t.s.length t.c
instance : Inhabited Tx := ⟨⟨none, 0, []⟩⟩
structure Tx.Ok (W : World) (t : Tx) : Prop where
 r : Row W .u8 t.a t.s
 n : t.a = none → t.s.length = 0 ∧ t.c = 0
 lc : t.s.length ≤ t.c
 b8 : B8 t.s
 z : t.s.length ≤ 140737488351232
theorem Tx.Ok.below {W W' : World} {t : Tx} (h : t.Ok W) (hb : Below W.heap.size W W') : t.Ok W' := ⟨h.r.below2 hb, h.n, h.lc, h.b8, h.z⟩
theorem Tx.Ok.drewN {W : World} {t : Tx} (h : t.Ok W) (m : Nat) : t.Ok (W.drewN m) := ⟨h.r, h.n, h.lc, h.b8, h.z⟩
theorem Tx.nil_ok (W : World) : (⟨none, 0, []⟩ : Tx).Ok W := ⟨row_nil _ _ _, fun _ => ⟨rfl, rfl⟩, Nat.le_refl _, B8.nil, Nat.zero_le _⟩
structure TL where
 a : Option Addr
 c : Nat
 L : List Tx
def TL.v (t : TL) : Value := .slice t.a t.L.length t.c
def TL.p (t : TL) : List (List Int) := t.L.map (·.s)
theorem TL.p_len (t : TL) : t.p.length = t.L.length := by simp [TL.p]
def TCells (W : World) (a : Option Addr) (L : List Tx) : Prop := ∀ i (h : i < L.length), ∃ b o, a = some ⟨b, o, none⟩ ∧ W.cell? ⟨b, o + i, none⟩ = some L[i].v
structure TL.Ok (W : World) (t : TL) : Prop where
 r : TCells W t.a t.L
 ok : ∀ x ∈ t.L, x.Ok W
 n : t.a = none → t.L.length = 0 ∧ t.c = 0
 lc : t.L.length ≤ t.c
theorem TCells.below {W W' : World} {a : Option Addr} {L : List Tx} (h : TCells W a L) (hb : Below W.heap.size W W') : TCells W' a L := by
 intro i hi
 obtain ⟨b, o, ha, hc⟩ := h i hi
 exact ⟨b, o, ha, (hb.cell (p := ⟨b, o + i, none⟩) (World.block_lt_of_cell? W ⟨b, o + i, none⟩ hc)).trans hc⟩
theorem TCells.nil (W : World) (a : Option Addr) : TCells W a [] := fun i hi => absurd hi (Nat.not_lt_zero i)
theorem TL.Ok.below {W W' : World} {t : TL} (h : t.Ok W) (hb : Below W.heap.size W W') : t.Ok W' := ⟨h.r.below hb, fun x hx => (h.ok x hx).below hb, h.n, h.lc⟩
theorem TL.Ok.drewN {W : World} {t : TL} (h : t.Ok W) (m : Nat) : t.Ok (W.drewN m) := ⟨h.r, fun x hx => (h.ok x hx).drewN m, h.n, h.lc⟩
theorem TL.nil_ok (W : World) : (⟨none, 0, []⟩ : TL).Ok W := ⟨TCells.nil _ _, fun x hx => (by cases hx), fun _ => ⟨rfl, rfl⟩, Nat.le_refl _⟩
theorem tx_oneCell (L : List Tx) : ∀ u ∈ L.map Tx.v, u.oneCell' = true := by
 intro u hu
 obtain ⟨x, _, rfl⟩ := List.mem_map.1 hu
 rfl
structure IL where
 a : Option Addr
 c : Nat
 s : List Int
def IL.v (t : IL) : Value := .slice t.a t.s.length t.c
structure IL.Ok (W : World) (t : IL) : Prop where
 r : Row W .i64 t.a t.s
 n : t.a = none → t.s.length = 0 ∧ t.c = 0
 lc : t.s.length ≤ t.c
theorem IL.Ok.below {W W' : World} {t : IL} (h : t.Ok W) (hb : Below W.heap.size W W') : t.Ok W' := ⟨h.r.below2 hb, h.n, h.lc⟩
theorem IL.nil_ok (W : World) : (⟨none, 0, []⟩ : IL).Ok W := ⟨row_nil _ _ _, fun _ => ⟨rfl, rfl⟩, Nat.le_refl _⟩
structure Nd where
 lv : Int
 hi : Tx
 ri : Int
 ks : TL
 vs : TL
 cs : IL
def Nd.v (n : Nd) : Value := .agg #[.int .i64 n.lv, n.hi.v, .int .i64 n.ri, n.ks.v, n.vs.v, n.cs.v]
structure Nd.Ok (W : World) (n : Nd) : Prop where
 h : n.hi.Ok W
 k : n.ks.Ok W
 v : n.vs.Ok W
 c : n.cs.Ok W
 kz : n.ks.L.length * 24 ≤ 140737488352000
 vz : n.vs.L.length * 24 ≤ 140737488352000
 cz : n.cs.s.length * 8 ≤ 140737488352000
theorem Nd.Ok.below {W W' : World} {n : Nd} (h : n.Ok W) (hb : Below W.heap.size W W') : n.Ok W' := ⟨h.h.below hb, h.k.below hb, h.v.below hb, h.c.below hb, h.kz, h.vz, h.cz⟩
theorem below_drewN {B : Nat} {w w' : World} (h : Below B w w') (m : Nat) : Below B w (w'.drewN m) := ⟨h.os, h.tape, h.output, h.size, h.block⟩
structure NP where
 lv : Int
 hi : List Int
 ri : Int
 ks : List (List Int)
 vs : List (List Int)
 cs : List Int
def Nd.p (n : Nd) : NP := ⟨n.lv, n.hi.s, n.ri, n.ks.p, n.vs.p, n.cs.s⟩
end Go.Proofs.YtealejbfloacpaaGreat
namespace Go.Proofs.YtealejbfloacpaaGreat
open Go.RowKit
set_option maxRecDepth 100000
def pickN (c : Int) (n : Nat) : Nat := ((if c < 0 then -(c + 1) else c) % (n : Int)).toNat
theorem pickN_lt (c : Int) (n : Nat) (h : 0 < n) : pickN c n < n := by
 unfold pickN
 have h1 := Int.emod_nonneg (if c < 0 then -(c + 1) else c) (show ((n : Int)) ≠ 0 by omega)
 have h2 := Int.emod_lt_of_pos (if c < 0 then -(c + 1) else c) (show (0 : Int) < (n : Int) by omega)
 omega
theorem pickN_eq (c : Int) (n : Nat) (h : 0 < n) : ((pickN c n : Nat) : Int) = (if c < 0 then -(c + 1) else c) % (n : Int) := by
 unfold pickN
 have h1 := Int.emod_nonneg (if c < 0 then -(c + 1) else c) (show ((n : Int)) ≠ 0 by omega)
 omega
set_option maxHeartbeats 800000 in
theorem pick_any (c : Int) (n : Nat) (w : World) (hn : 0 < n) (hn2 : n < 9223372036854775807) (h1 : -9223372036854775808 ≤ c) (h2 : c ≤ 9223372036854775807) :
  Calls Tryz.prog 97 #[.int .i64 c, .int .i64 (n : Nat)] w fun e w' => e = .returned (.int .i64 (pickN c n : Nat)) ∧ w' = w := by
 have j0 : ¬ (n : Int) = 0 := by omega
 have j00 : ¬ (n : Int) = -1 := by omega
 have hE := pickN_eq c n hn
 have hL := pickN_lt c n hn
 obtain ⟨r, hr⟩ : ∃ r, r = ((pickN c n : Nat) : Int) := ⟨_, rfl⟩
 rw [← hr] at hE ⊢
 have hr0 : 0 ≤ r := by omega
 have hr1 : r < (n : Int) := by omega
 clear hr hL
 by_cases hc : c < 0
 ·rw [if_pos hc] at hE
  have HM : Hid (-(Int.tmod (c + 1) (n : Int)) = r) := by show _ = _; rw [← Int.neg_tmod, Int.tmod_eq_emod_of_nonneg (by omega)]; exact hE.symm
  clear hE
  go_enter Tryz.func97, Tryz.ntmps97
  go_wp2_with fail
  go_ret
  exact ⟨ret_int HM.out, rfl⟩
 ·rw [if_neg hc] at hE
  have HM := hide hE
  clear hE
  go_enter Tryz.func97, Tryz.ntmps97
  go_wp2_with fail
  go_ret
  exact ⟨ret_int HM.out.symm, rfl⟩
end Go.Proofs.YtealejbfloacpaaGreat
namespace Go.Proofs.YtealejbfloacpaaGreat
open Go.RowKit
set_option maxRecDepth 100000
set_option maxHeartbeats 800000 in
theorem gpick_any (c : Int) (n : Nat) (w : World) (hn : 0 < n) (hn2 : n < 9223372036854775807) (h1 : -9223372036854775808 ≤ c) (h2 : c ≤ 9223372036854775807) :
  Calls Tryz.prog 22 #[.int .i64 c, .int .i64 (n : Nat)] w fun e w' => e = .returned (.int .i64 (pickN c n : Nat)) ∧ w' = w := by
 have j0 : ¬ (n : Int) = 0 := by omega
 have j00 : ¬ (n : Int) = -1 := by omega
 have hE := pickN_eq c n hn
 have hL := pickN_lt c n hn
 obtain ⟨r, hr⟩ : ∃ r, r = ((pickN c n : Nat) : Int) := ⟨_, rfl⟩
 rw [← hr] at hE ⊢
 have hr0 : 0 ≤ r := by omega
 have hr1 : r < (n : Int) := by omega
 clear hr hL
 by_cases hc : c < 0
 ·rw [if_pos hc] at hE
  have HM : Hid (-(Int.tmod (c + 1) (n : Int)) = r) := by show _ = _; rw [← Int.neg_tmod, Int.tmod_eq_emod_of_nonneg (by omega)]; exact hE.symm
  clear hE
  go_enter Tryz.func22, Tryz.ntmps22
  go_wp2_with fail
  go_ret
  exact ⟨ret_int HM.out, rfl⟩
 ·rw [if_neg hc] at hE
  have HM := hide hE
  clear hE
  go_enter Tryz.func22, Tryz.ntmps22
  go_wp2_with fail
  go_ret
  exact ⟨ret_int HM.out.symm, rfl⟩
end Go.Proofs.YtealejbfloacpaaGreat
namespace Go.Proofs.YtealejbfloacpaaGreat
open Go.RowKit
set_option maxRecDepth 100000
def cfgOk (nd lf inn fl bk : Int) : Prop := (1 ≤ nd ∧ nd ≤ 65536) ∧ (2 ≤ lf ∧ lf ≤ 64) ∧ (3 ≤ inn ∧ inn ≤ 64) ∧ (1 ≤ fl ∧ fl ≤ lf) ∧ (1 ≤ bk ∧ bk ≤ 64)
instance (nd lf inn fl bk : Int) : Decidable (cfgOk nd lf inn fl bk) := by unfold cfgOk; exact inferInstance
def cfgE (nd lf inn fl bk : Int) : Int := if cfgOk nd lf inn fl bk then 0 else 1
set_option maxHeartbeats 1600000 in
theorem rconfig_any (nd lf inn fl bk : Int) (w : World) : Calls Tryz.prog 115 #[.agg #[.int .i64 nd, .int .i64 lf, .int .i64 inn, .int .i64 fl, .int .i64 bk]] w fun e w' => e = .returned (.int .i64 (cfgE nd lf inn fl bk)) ∧ Below w.heap.size w w' := by
 by_cases h0 : 1 ≤ nd
 ·skip
  by_cases h1 : nd ≤ 65536
  ·skip
   by_cases h2 : 2 ≤ lf
   ·skip
    by_cases h3 : lf ≤ 64
    ·skip
     by_cases h4 : 3 ≤ inn
     ·skip
      have g4 : ¬ inn < 3 := by omega
      by_cases h5 : inn ≤ 64
      ·skip
       have g5 : ¬ 64 < inn := by omega
       by_cases h6 : 1 ≤ fl
       ·skip
        have g6 : ¬ fl < 1 := by omega
        by_cases h7 : fl ≤ lf
        ·skip
         have g7 : ¬ lf < fl := by omega
         by_cases h8 : 1 ≤ bk
         ·skip
          have g8 : ¬ bk < 1 := by omega
          by_cases h9 : bk ≤ 64
          ·skip
           have g9 : ¬ 64 < bk := by omega
           have HE : Hid (cfgE nd lf inn fl bk = 0) := if_pos ⟨⟨h0, h1⟩, ⟨h2, h3⟩, ⟨h4, h5⟩, ⟨h6, h7⟩, ⟨h8, h9⟩⟩
           rw [HE.out]
           go_enter Tryz.func115, Tryz.ntmps115
           go_wp2
           go_ret
           exact ⟨rfl, (Below.refl _ _).alloc (Nat.le_refl _) _⟩
          ·have HE : Hid (cfgE nd lf inn fl bk = 1) := if_neg fun h => h9 h.2.2.2.2.2
           have g9 : 64 < bk := by omega
           rw [HE.out]
           go_enter Tryz.func115, Tryz.ntmps115
           go_wp2
           go_ret
           exact ⟨rfl, (Below.refl _ _).alloc (Nat.le_refl _) _⟩
         ·have HE : Hid (cfgE nd lf inn fl bk = 1) := if_neg fun h => h8 h.2.2.2.2.1
          have g8 : bk < 1 := by omega
          rw [HE.out]
          go_enter Tryz.func115, Tryz.ntmps115
          go_wp2
          go_ret
          exact ⟨rfl, (Below.refl _ _).alloc (Nat.le_refl _) _⟩
        ·have HE : Hid (cfgE nd lf inn fl bk = 1) := if_neg fun h => h7 h.2.2.2.1.2
         have g7 : lf < fl := by omega
         rw [HE.out]
         go_enter Tryz.func115, Tryz.ntmps115
         go_wp2
         go_ret
         exact ⟨rfl, (Below.refl _ _).alloc (Nat.le_refl _) _⟩
       ·have HE : Hid (cfgE nd lf inn fl bk = 1) := if_neg fun h => h6 h.2.2.2.1.1
        have g6 : fl < 1 := by omega
        rw [HE.out]
        go_enter Tryz.func115, Tryz.ntmps115
        go_wp2
        go_ret
        exact ⟨rfl, (Below.refl _ _).alloc (Nat.le_refl _) _⟩
      ·have HE : Hid (cfgE nd lf inn fl bk = 1) := if_neg fun h => h5 h.2.2.1.2
       have g5 : 64 < inn := by omega
       rw [HE.out]
       go_enter Tryz.func115, Tryz.ntmps115
       go_wp2
       go_ret
       exact ⟨rfl, (Below.refl _ _).alloc (Nat.le_refl _) _⟩
     ·have HE : Hid (cfgE nd lf inn fl bk = 1) := if_neg fun h => h4 h.2.2.1.1
      have g4 : inn < 3 := by omega
      rw [HE.out]
      go_enter Tryz.func115, Tryz.ntmps115
      go_wp2
      go_ret
      exact ⟨rfl, (Below.refl _ _).alloc (Nat.le_refl _) _⟩
    ·have HE : Hid (cfgE nd lf inn fl bk = 1) := if_neg fun h => h3 h.2.1.2
     rw [HE.out]
     go_enter Tryz.func115, Tryz.ntmps115
     go_wp2
     go_ret
     exact ⟨rfl, (Below.refl _ _).alloc (Nat.le_refl _) _⟩
   ·have HE : Hid (cfgE nd lf inn fl bk = 1) := if_neg fun h => h2 h.2.1.1
    rw [HE.out]
    go_enter Tryz.func115, Tryz.ntmps115
    go_wp2
    go_ret
    exact ⟨rfl, (Below.refl _ _).alloc (Nat.le_refl _) _⟩
  ·have HE : Hid (cfgE nd lf inn fl bk = 1) := if_neg fun h => h1 h.1.2
   rw [HE.out]
   go_enter Tryz.func115, Tryz.ntmps115
   go_wp2
   go_ret
   exact ⟨rfl, (Below.refl _ _).alloc (Nat.le_refl _) _⟩
 ·have HE : Hid (cfgE nd lf inn fl bk = 1) := if_neg fun h => h0 h.1.1
  rw [HE.out]
  go_enter Tryz.func115, Tryz.ntmps115
  go_wp2
  go_ret
  exact ⟨rfl, (Below.refl _ _).alloc (Nat.le_refl _) _⟩
end Go.Proofs.YtealejbfloacpaaGreat
