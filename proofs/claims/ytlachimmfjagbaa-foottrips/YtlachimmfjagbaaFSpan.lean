/- foot: rows in memory, and what is wrong with one. -/
import Derived.Test.YtlachimmfjagbaaFTab
namespace Go.Proofs.Ytlachimmfjagbaa
open Go.RowKit

structure Spn where
  ka : Option Addr
  kc : Nat
  ks : List Int
  pl : Int
  ln : Int
  n : Int
instance : Inhabited Spn := ⟨⟨none, 0, [], 0, 0, 0⟩⟩
def Spn.kv (e : Spn) : Value := .slice e.ka e.ks.length e.kc
def I64 (x : Int) : Prop := -9223372036854775808 ≤ x ∧ x ≤ 9223372036854775807
structure Spn.Ok (W : World) (e : Spn) : Prop where
  k : Row W .u8 e.ka e.ks
  nk : e.ka = none → e.ks.length = 0 ∧ e.kc = 0
  lk : e.ks.length ≤ e.kc
  k8 : B8 e.ks
  zk : e.ks.length ≤ 140737488351232
  rp : I64 e.pl
  rl : I64 e.ln
  rn : I64 e.n
theorem Spn.Ok.below {W W' : World} {e : Spn} (h : e.Ok W) (hb : Below W.heap.size W W') : e.Ok W' := ⟨h.k.below2 hb, h.nk, h.lk, h.k8, h.zk, h.rp, h.rl, h.rn⟩
/-- A row's four cells. -/
structure Sp4 (W : World) (b o : Nat) (s : Spn) : Prop where
  c0 : W.cell? ⟨b, o, none⟩ = some s.kv
  c1 : W.cell? ⟨b, o + 1, none⟩ = some (.int .i64 s.pl)
  c2 : W.cell? ⟨b, o + 2, none⟩ = some (.int .i64 s.ln)
  c3 : W.cell? ⟨b, o + 3, none⟩ = some (.int .i64 s.n)
theorem Sp4.lt {W : World} {b o : Nat} {s : Spn} (h : Sp4 W b o s) : b < W.heap.size := World.block_lt_of_cell? W ⟨b, o, none⟩ h.c0
theorem Sp4.below {W W' : World} {b o : Nat} {s : Spn} (h : Sp4 W b o s) (hb : Below W.heap.size W W') : Sp4 W' b o s :=
  ⟨(hb.cell (p := ⟨b, o, none⟩) h.lt).trans h.c0, (hb.cell (p := ⟨b, o + 1, none⟩) h.lt).trans h.c1, (hb.cell (p := ⟨b, o + 2, none⟩) h.lt).trans h.c2, (hb.cell (p := ⟨b, o + 3, none⟩) h.lt).trans h.c3⟩
/-- Rows one behind the other. -/
structure Sps (W : World) (b o : Nat) (L : List Spn) : Prop where
  c : ∀ i (h : i < L.length), Sp4 W b (o + i * 4) L[i]
  ok : ∀ i (h : i < L.length), L[i].Ok W
theorem Sps.below {W W' : World} {b o : Nat} {L : List Spn} (h : Sps W b o L) (hb : Below W.heap.size W W') : Sps W' b o L :=
  ⟨fun i hi => (h.c i hi).below hb, fun i hi => (h.ok i hi).below hb⟩

/-- A row as such. -/
structure FRow where
  k : List Int
  p : Int
  l : Int
  n : Int
  deriving DecidableEq
instance : Inhabited FRow := ⟨⟨[], 0, 0, 0⟩⟩
def Spn.row (s : Spn) : FRow := ⟨s.ks, s.pl, s.ln, s.n⟩
/-- What is wrong with a row behind one with the key pk whose frame ends at pos. -/
def flt (pk : List Int) (pos : Int) (r : FRow) : Int :=
  if keyE r.k.length ≠ 0 ∨ ¬ cmpI pk r.k < 0 then 72 else if r.p ≠ pos then 73 else if ¬ (1 ≤ r.l ∧ r.l ≤ 131072) then 74 else if ¬ (1 ≤ r.n ∧ r.n ≤ 64) then 75 else 0

theorem u64_nat (x : Int) (h : I64 x) : ∃ a : Nat, IntKind.u64.wrap x = (a : Int) ∧ a ≤ 18446744073709551615 ∧ ((0 ≤ x ∧ (a : Int) = x) ∨ (x < 0 ∧ 9223372036854775808 ≤ a)) := by
  unfold I64 at h
  refine ⟨(IntKind.u64.wrap x).toNat, ?_, ?_, ?_⟩ <;> rw [IntKind.wrap_u64] <;> omega

end Go.Proofs.Ytlachimmfjagbaa
