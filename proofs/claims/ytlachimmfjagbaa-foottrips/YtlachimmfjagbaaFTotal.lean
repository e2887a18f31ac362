/- foot: Total, of both sides. -/
import Derived.Test.YtlachimmfjagbaaFCheck
namespace Go.Proofs.Ytlachimmfjagbaa
open Go.RowKit

def totW (l : List FRow) : Nat → Int
  | 0 => 0
  | i + 1 => IntKind.i64.wrap (totW l i + (l.getD i default).n)
def totN (l : List FRow) : Nat → Nat
  | 0 => 0
  | i + 1 => totN l i + (l.getD i default).n.toNat
theorem totN_le {l : List FRow} : ∀ {i : Nat}, Gd l i → totN l i ≤ 64 * i
  | 0, _ => by simp [totN]
  | i + 1, h => by
    have r := (h.row i (Nat.lt_succ_self i)).2.2.2.2
    have := totN_le (h.mono (Nat.le_succ i))
    unfold totN
    omega
theorem tot_good {l : List FRow} : ∀ {i : Nat}, Gd l i → i ≤ 8388608 → totW l i = (totN l i : Int)
  | 0, _, _ => rfl
  | i + 1, h, hi => by
    have r := (h.row i (Nat.lt_succ_self i)).2.2.2.2
    have e := tot_good (h.mono (Nat.le_succ i)) (by omega)
    have q := totN_le (h.mono (Nat.le_succ i))
    unfold totW totN
    rw [e, IntKind.wrap_i64]
    omega
theorem totW_i64 (l : List FRow) (i : Nat) : I64 (totW l i) := by
  unfold I64
  cases i with
  | zero => unfold totW; omega
  | succ i => unfold totW; rw [IntKind.wrap_i64]; omega

set_option maxRecDepth 100000 in
set_option maxHeartbeats 800000 in
theorem total_any (a : Option Addr) (b o n c : Nat) (L : List Spn) (w : World) (hl : L.length = n) (hm : n ≤ 140737488351232) (ha : 0 < n → a = some ⟨b, o, none⟩) (hS : Sps w b o L) :
    Calls Try.prog 15 #[.slice a n c] w fun e w' => e = .returned (.int .i64 (totW (rws L) n)) ∧ Below w.heap.size w w' := by
  have HS := hide hS
  have HA := hide ha
  clear hS ha
  go_enter Try.func15, Try.ntmps15
  go_wp2_with fail
  go_loopw [3, 8] (fun y x wr => ∃ i : Nat, i ≤ n ∧ x = .int .i64 (i : Int) ∧ y = .int .i64 (totW (rws L) i) ∧ Hid (Below w.heap.size w wr)) (fun _ x _ => n - (intOf x).toNat)
  case atStart => exact ⟨0, Nat.zero_le _, rfl, rfl, Below.refl _ _⟩
  case round =>
    obtain ⟨i, hi, rfl, rfl, HB⟩ := hrel
    rename World => wr
    by_cases hlt : i < n
    · have j1 : (i : Int) < (n : Int) := by omega
      have j2 : (0 : Int) ≤ (i : Int) := by omega
      obtain rfl := HA.out (by omega)
      have hiL : i < L.length := by omega
      have SV := (HS.out.below HB.out).c i hiL
      have s0 := SV.c0
      have s1 := SV.c1
      have s2 := SV.c2
      have s3 := SV.c3
      unfold Spn.kv at s0
      have ht : totW (rws L) (i + 1) = IntKind.i64.wrap (totW (rws L) i + L[i].n) := by show IntKind.i64.wrap _ = _; rw [rws_at L i hiL]; rfl
      have HN : Hid (∀ o, Below w.heap.size w (wr.alloc o)) := fun o => HB.out.alloc HB.out.size o
      have HTT := hide ht
      clear SV ht
      generalize totW (rws L) i = tt at *
      go_wp2_with fail
      go_roundw
      case rel => exact ⟨i + 1, by omega, by go_num, by rw [HTT.out, IntKind.wrap_i64]; unfold wrap64; rfl, HN.out _⟩
      case measure => simp [intOf]; omega
    · have j1 : ¬ (i : Int) < (n : Int) := by omega
      obtain rfl : i = n := by omega
      go_wp2_with fail
      go_ret
      exact ⟨rfl, HB.out⟩

set_option maxRecDepth 100000 in
set_option maxHeartbeats 800000 in
theorem rtotal_any (a : Option Addr) (b o n c : Nat) (L : List Spn) (w : World) (hl : L.length = n) (hm : n ≤ 140737488351232) (ha : 0 < n → a = some ⟨b, o, none⟩) (hS : Sps w b o L) :
    Calls Try.prog 27 #[.slice a n c] w fun e w' => e = .returned (.int .i64 (totW (rws L) n)) ∧ Below w.heap.size w w' := by
  have HS := hide hS
  have HA := hide ha
  clear hS ha
  go_enter Try.func27, Try.ntmps27
  go_wp2_with fail
  go_loopw [3, 4] (fun y x wr => ∃ i : Nat, i ≤ n ∧ x = .int .i64 (i : Int) ∧ y = .int .i64 (totW (rws L) i) ∧ Hid (Below w.heap.size w wr)) (fun _ x _ => n - (intOf x).toNat)
  case atStart => exact ⟨0, Nat.zero_le _, rfl, rfl, Below.refl _ _⟩
  case round =>
    obtain ⟨i, hi, rfl, rfl, HB⟩ := hrel
    rename World => wr
    by_cases hlt : i < n
    · have j1 : (i : Int) < (n : Int) := by omega
      have j2 : (0 : Int) ≤ (i : Int) := by omega
      obtain rfl := HA.out (by omega)
      have hiL : i < L.length := by omega
      have s3 := ((HS.out.below HB.out).c i hiL).c3
      have ht : totW (rws L) (i + 1) = IntKind.i64.wrap (totW (rws L) i + L[i].n) := by show IntKind.i64.wrap _ = _; rw [rws_at L i hiL]; rfl
      have HTT := hide ht
      clear ht
      generalize totW (rws L) i = tt at *
      go_wp2_with fail
      go_roundw
      case rel => exact ⟨i + 1, by omega, by go_num, by rw [HTT.out, IntKind.wrap_i64]; unfold wrap64; rfl, HB⟩
      case measure => simp [intOf]; omega
    · have j1 : ¬ (i : Int) < (n : Int) := by omega
      obtain rfl : i = n := by omega
      go_wp2_with fail
      go_ret
      exact ⟨rfl, HB.out⟩

end Go.Proofs.Ytlachimmfjagbaa
