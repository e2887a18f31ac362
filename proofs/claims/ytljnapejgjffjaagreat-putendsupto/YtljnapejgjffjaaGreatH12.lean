/- Texts of one's own. -/
import Derived.Test.YtljnapejgjffjaaGreatH8
import Derived.Test.YtljnapejgjffjaaGreatH10
import Derived.Deep.AppendLies
import Derived.Deep.RegionHeld3
import Derived.BigRegion
import Derived.Handy
namespace Go.Proofs.YtljnapejgjffjaaGreat
open Go.RowKit
set_option maxRecDepth 100000
structure Tx where
 a : Option Addr
 c : Nat
 s : List Int
def Tx.v (t : Tx) : Value := .slice t.a t.s.length t.c
instance : Inhabited Tx := ⟨⟨none,0,[]⟩⟩
structure Tx.Ok (W : World) (t : Tx) : Prop where
 r : Row W .u8 t.a t.s
 n : t.a = none → t.s.length = 0 ∧ t.c = 0
 lc : t.s.length ≤ t.c
 b8 : B8 t.s
 z : t.s.length ≤ 140737488351232
theorem Tx.Ok.below {W W' : World} {t : Tx} (h : t.Ok W) (hb : Below W.heap.size W W') : t.Ok W' := ⟨h.r.below2 hb,h.n,h.lc,h.b8,h.z⟩
theorem Tx.Ok.upd {W W' : World} {S : Nat → Prop} {t : Tx} (h : t.Ok W) (hb : Upd S W W') (hs : ∀ x,t.a = some x → ¬ S x.block) : t.Ok W' := ⟨h.r.upd hb (fun x hx _ => hs x hx),h.n,h.lc,h.b8,h.z⟩
theorem Tx.Ok.drewN {W : World} {t : Tx} (h : t.Ok W) (m : Nat) : t.Ok (W.drewN m) := ⟨h.r,h.n,h.lc,h.b8,h.z⟩
theorem Tx.nil_ok (W : World) : (⟨none,0,[]⟩ : Tx).Ok W := ⟨row_nil _ _ _,fun _ => ⟨rfl,rfl⟩,Nat.le_refl _,B8.nil,Nat.zero_le _⟩
structure TL where
 a : Option Addr
 c : Nat
 L : List Tx
def TL.v (t : TL) : Value := .slice t.a t.L.length t.c
def TL.p (t : TL) : List (List Int) := t.L.map (·.s)
theorem TL.p_len (t : TL) : t.p.length = t.L.length := by simp [TL.p]
def TCells (W : World) (a : Option Addr) (L : List Tx) : Prop := ∀ i (h : i < L.length),∃ b o,a = some ⟨b,o,none⟩ ∧ W.cell? ⟨b,o + i,none⟩ = some L[i].v
structure TL.Ok (W : World) (t : TL) : Prop where
 r : TCells W t.a t.L
 ok : ∀ x ∈ t.L,x.Ok W
 n : t.a = none → t.L.length = 0 ∧ t.c = 0
 lc : t.L.length ≤ t.c
theorem TCells.below {W W' : World} {a : Option Addr} {L : List Tx} (h : TCells W a L) (hb : Below W.heap.size W W') : TCells W' a L := by
 intro i hi
 obtain ⟨b,o,ha,hc⟩ := h i hi
 exact ⟨b,o,ha,(hb.cell (p := ⟨b,o + i,none⟩) (World.block_lt_of_cell? W ⟨b,o + i,none⟩ hc)).trans hc⟩
theorem TCells.nil (W : World) (a : Option Addr) : TCells W a [] := fun i hi => absurd hi (Nat.not_lt_zero i)
theorem TL.Ok.below {W W' : World} {t : TL} (h : t.Ok W) (hb : Below W.heap.size W W') : t.Ok W' := ⟨h.r.below hb,fun x hx => (h.ok x hx).below hb,h.n,h.lc⟩
theorem TL.Ok.drewN {W : World} {t : TL} (h : t.Ok W) (m : Nat) : t.Ok (W.drewN m) := ⟨h.r,fun x hx => (h.ok x hx).drewN m,h.n,h.lc⟩
theorem TL.nil_ok (W : World) : (⟨none,0,[]⟩ : TL).Ok W := ⟨TCells.nil _ _,fun x hx => (by cases hx),fun _ => ⟨rfl,rfl⟩,Nat.le_refl _⟩
theorem TCells.take {W : World} {a : Option Addr} {L : List Tx} (h : TCells W a L) (n : Nat) : TCells W a (L.take n) := by
 intro i hi
 have hi' : i < n ∧ i < L.length := by rw [List.length_take] at hi; omega
 obtain ⟨b,o,ha,hc⟩ := h i hi'.2
 refine ⟨b,o,ha,?_⟩
 rw [List.getElem_take]; exact hc
theorem TCells.drop {W : World} {b o : Nat} {L : List Tx} (h : TCells W (some ⟨b,o,none⟩) L) (n : Nat) : TCells W (some ⟨b,o + n,none⟩) (L.drop n) := by
 intro i hi
 have hi' : n + i < L.length := by rw [List.length_drop] at hi; omega
 obtain ⟨b',o',ha,hc⟩ := h (n + i) hi'
 cases ha
 refine ⟨b,o + n,rfl,?_⟩
 rw [List.getElem_drop,Nat.add_assoc]; exact hc
theorem tx_oneCell (L : List Tx) : ∀ u ∈ L.map Tx.v,u.oneCell' = true := by
 intro u hu
 obtain ⟨x,_,rfl⟩ := List.mem_map.1 hu
 rfl
structure IL where
 a : Option Addr
 c : Nat
 s : List Int
def IL.v (t : IL) : Value := .slice t.a t.s.length t.c
structure IL.Ok (W : World) (t : IL) : Prop where
 r : Row W .i64 t.a t.s
 n : t.a = none → t.s.length = 0 ∧ t.c = 0
 lc : t.s.length ≤ t.c
theorem IL.Ok.below {W W' : World} {t : IL} (h : t.Ok W) (hb : Below W.heap.size W W') : t.Ok W' := ⟨h.r.below2 hb,h.n,h.lc⟩
theorem IL.Ok.drewN {W : World} {t : IL} (h : t.Ok W) (m : Nat) : t.Ok (W.drewN m) := ⟨h.r,h.n,h.lc⟩
theorem IL.nil_ok (W : World) : (⟨none,0,[]⟩ : IL).Ok W := ⟨row_nil _ _ _,fun _ => ⟨rfl,rfl⟩,Nat.le_refl _⟩
structure Nd where
 lv : Int
 hi : Tx
 ri : Int
 ks : TL
 vs : TL
 cs : IL
def Nd.v (n : Nd) : Value := .agg #[.int .i64 n.lv,n.hi.v,.int .i64 n.ri,n.ks.v,n.vs.v,n.cs.v]
structure Nd.Ok (W : World) (n : Nd) : Prop where
 h : n.hi.Ok W
 k : n.ks.Ok W
 v : n.vs.Ok W
 c : n.cs.Ok W
 kz : n.ks.L.length * 24 ≤ 140737488352000
 vz : n.vs.L.length * 24 ≤ 140737488352000
 cz : n.cs.s.length * 8 ≤ 140737488352000
theorem Nd.Ok.below {W W' : World} {n : Nd} (h : n.Ok W) (hb : Below W.heap.size W W') : n.Ok W' := ⟨h.h.below hb,h.k.below hb,h.v.below hb,h.c.below hb,h.kz,h.vz,h.cz⟩
theorem Nd.Ok.drewN {W : World} {n : Nd} (h : n.Ok W) (m : Nat) : n.Ok (W.drewN m) := ⟨h.h.drewN m,h.k.drewN m,h.v.drewN m,h.c.drewN m,h.kz,h.vz,h.cz⟩
theorem below_drewN {B : Nat} {w w' : World} (h : Below B w w') (m : Nat) : Below B w (w'.drewN m) := ⟨h.os,h.tape,h.output,h.size,h.block⟩
structure NP where
 lv : Int
 hi : List Int
 ri : Int
 ks : List (List Int)
 vs : List (List Int)
 cs : List Int
def Nd.p (n : Nd) : NP := ⟨n.lv,n.hi.s,n.ri,n.ks.p,n.vs.p,n.cs.s⟩
def pickN (c : Int) (n : Nat) : Nat := ((if c < 0 then -(c + 1) else c) % (n : Int)).toNat
theorem pickN_lt (c : Int) (n : Nat) (h : 0 < n) : pickN c n < n := by
 unfold pickN
 have h1 := Int.emod_nonneg (if c < 0 then -(c + 1) else c) (show ((n : Int)) ≠ 0 by omega)
 have h2 := Int.emod_lt_of_pos (if c < 0 then -(c + 1) else c) (show (0 : Int) < (n : Int) by omega)
 omega
theorem pickN_eq (c : Int) (n : Nat) (h : 0 < n) : ((pickN c n : Nat) : Int) = (if c < 0 then -(c + 1) else c) % (n : Int) := by
 unfold pickN
 have h1 := Int.emod_nonneg (if c < 0 then -(c + 1) else c) (show ((n : Int)) ≠ 0 by omega)
 omega
def cfgOk (nd lf inn fl bk : Int) : Prop := (1 ≤ nd ∧ nd ≤ 65536) ∧ (2 ≤ lf ∧ lf ≤ 64) ∧ (3 ≤ inn ∧ inn ≤ 64) ∧ (1 ≤ fl ∧ fl ≤ lf) ∧ (1 ≤ bk ∧ bk ≤ 64)
instance (nd lf inn fl bk : Int) : Decidable (cfgOk nd lf inn fl bk) := by unfold cfgOk; exact inferInstance
def cfgE (nd lf inn fl bk : Int) : Int := if cfgOk nd lf inn fl bk then 0 else 1
set_option maxHeartbeats 400000 in
theorem within_yes (n a b : Int) (w : World) (h1 : a ≤ n) (h2 : n ≤ b) : Calls Tryz.prog 119 #[.int .i64 n,.int .i64 a,.int .i64 b] w fun e w' => e = .returned (.bool true) ∧ w' = w := by
 go_enter Tryz.func119,Tryz.ntmps119
 go_wp2
 go_ret
 exact ⟨rfl,rfl⟩
set_option maxHeartbeats 400000 in
theorem within_no (n a b : Int) (w : World) (h : ¬ (a ≤ n ∧ n ≤ b)) : Calls Tryz.prog 119 #[.int .i64 n,.int .i64 a,.int .i64 b] w fun e w' => e = .returned (.bool false) ∧ w' = w := by
 by_cases h1 : a ≤ n
 ·have h2 : ¬ n ≤ b := fun h2 => h ⟨h1,h2⟩
  clear h
  go_enter Tryz.func119,Tryz.ntmps119
  go_wp2
  go_ret
  exact ⟨rfl,rfl⟩
 ·clear h
  go_enter Tryz.func119,Tryz.ntmps119
  go_wp2
  go_ret
  exact ⟨rfl,rfl⟩
set_option maxHeartbeats 1600000 in
theorem config_any (nd lf inn fl bk : Int) (w : World) : Calls Tryz.prog 89 #[.agg #[.int .i64 nd,.int .i64 lf,.int .i64 inn,.int .i64 fl,.int .i64 bk]] w fun e w' => e = .returned (.int .i64 (cfgE nd lf inn fl bk)) ∧ Below w.heap.size w w' := by
 by_cases h0 : 1 ≤ nd ∧ nd ≤ 65536
 ·skip
  by_cases h1 : 2 ≤ lf ∧ lf ≤ 64
  ·skip
   by_cases h2 : 3 ≤ inn ∧ inn ≤ 64
   ·skip
    by_cases h3 : 1 ≤ fl ∧ fl ≤ lf
    ·skip
     by_cases h4 : 1 ≤ bk ∧ bk ≤ 64
     ·skip
      have HE : Hid (cfgE nd lf inn fl bk = 0) := if_pos ⟨h0,h1,h2,h3,h4⟩
      rw [HE.out]
      go_enter Tryz.func89,Tryz.ntmps89
      go_wp2_with fail
      refine keep (within_yes _ _ _ _ h0.1 h0.2) ?_
      go_wp2_with fail
      refine keep (within_yes _ _ _ _ h1.1 h1.2) ?_
      go_wp2_with fail
      refine keep (within_yes _ _ _ _ h2.1 h2.2) ?_
      go_wp2_with fail
      refine keep (within_yes _ _ _ _ h3.1 h3.2) ?_
      go_wp2_with fail
      refine keep (within_yes _ _ _ _ h4.1 h4.2) ?_
      go_wp2_with fail
      go_ret
      exact ⟨rfl,(Below.refl _ _).alloc (Nat.le_refl _) _⟩
     ·have HE : Hid (cfgE nd lf inn fl bk = 1) := if_neg fun h => h4 h.2.2.2.2
      rw [HE.out]
      go_enter Tryz.func89,Tryz.ntmps89
      go_wp2_with fail
      refine keep (within_yes _ _ _ _ h0.1 h0.2) ?_
      go_wp2_with fail
      refine keep (within_yes _ _ _ _ h1.1 h1.2) ?_
      go_wp2_with fail
      refine keep (within_yes _ _ _ _ h2.1 h2.2) ?_
      go_wp2_with fail
      refine keep (within_yes _ _ _ _ h3.1 h3.2) ?_
      go_wp2_with fail
      refine keep (within_no _ _ _ _ h4) ?_
      go_wp2_with fail
      go_ret
      exact ⟨rfl,(Below.refl _ _).alloc (Nat.le_refl _) _⟩
    ·have HE : Hid (cfgE nd lf inn fl bk = 1) := if_neg fun h => h3 h.2.2.2.1
     rw [HE.out]
     go_enter Tryz.func89,Tryz.ntmps89
     go_wp2_with fail
     refine keep (within_yes _ _ _ _ h0.1 h0.2) ?_
     go_wp2_with fail
     refine keep (within_yes _ _ _ _ h1.1 h1.2) ?_
     go_wp2_with fail
     refine keep (within_yes _ _ _ _ h2.1 h2.2) ?_
     go_wp2_with fail
     refine keep (within_no _ _ _ _ h3) ?_
     go_wp2_with fail
     go_ret
     exact ⟨rfl,(Below.refl _ _).alloc (Nat.le_refl _) _⟩
   ·have HE : Hid (cfgE nd lf inn fl bk = 1) := if_neg fun h => h2 h.2.2.1
    rw [HE.out]
    go_enter Tryz.func89,Tryz.ntmps89
    go_wp2_with fail
    refine keep (within_yes _ _ _ _ h0.1 h0.2) ?_
    go_wp2_with fail
    refine keep (within_yes _ _ _ _ h1.1 h1.2) ?_
    go_wp2_with fail
    refine keep (within_no _ _ _ _ h2) ?_
    go_wp2_with fail
    go_ret
    exact ⟨rfl,(Below.refl _ _).alloc (Nat.le_refl _) _⟩
  ·have HE : Hid (cfgE nd lf inn fl bk = 1) := if_neg fun h => h1 h.2.1
   rw [HE.out]
   go_enter Tryz.func89,Tryz.ntmps89
   go_wp2_with fail
   refine keep (within_yes _ _ _ _ h0.1 h0.2) ?_
   go_wp2_with fail
   refine keep (within_no _ _ _ _ h1) ?_
   go_wp2_with fail
   go_ret
   exact ⟨rfl,(Below.refl _ _).alloc (Nat.le_refl _) _⟩
 ·have HE : Hid (cfgE nd lf inn fl bk = 1) := if_neg fun h => h0 h.1
  rw [HE.out]
  go_enter Tryz.func89,Tryz.ntmps89
  go_wp2_with fail
  refine keep (within_no _ _ _ _ h0) ?_
  go_wp2_with fail
  go_ret
  exact ⟨rfl,(Below.refl _ _).alloc (Nat.le_refl _) _⟩
set_option maxHeartbeats 800000 in
theorem upick_any (c : Int) (n : Nat) (w : World) (hn : 0 < n) (hn2 : n < 9223372036854775807) (h1 : -9223372036854775808 ≤ c) (h2 : c ≤ 9223372036854775807) :
  Calls Tryz.prog 20 #[.int .i64 c,.int .i64 (n : Nat)] w fun e w' => e = .returned (.int .i64 (pickN c n : Nat)) ∧ w' = w := by
 have j0 : ¬ (n : Int) = 0 := by omega
 have j00 : ¬ (n : Int) = -1 := by omega
 have hE := pickN_eq c n hn
 have hL := pickN_lt c n hn
 obtain ⟨r,hr⟩ : ∃ r,r = ((pickN c n : Nat) : Int) := ⟨_,rfl⟩
 rw [← hr] at hE ⊢
 have hr0 : 0 ≤ r := by omega
 have hr1 : r < (n : Int) := by omega
 clear hr hL
 by_cases hc : c < 0
 ·rw [if_pos hc] at hE
  have HM : Hid (-(Int.tmod (c + 1) (n : Int)) = r) := by show _ = _; rw [← Int.neg_tmod,Int.tmod_eq_emod_of_nonneg (by omega)]; exact hE.symm
  clear hE
  go_enter Tryz.func20,Tryz.ntmps20
  go_wp2_with fail
  go_ret
  exact ⟨ret_int HM.out,rfl⟩
 ·rw [if_neg hc] at hE
  have HM := hide hE
  clear hE
  go_enter Tryz.func20,Tryz.ntmps20
  go_wp2_with fail
  go_ret
  exact ⟨ret_int HM.out.symm,rfl⟩
end Go.Proofs.YtljnapejgjffjaaGreat
