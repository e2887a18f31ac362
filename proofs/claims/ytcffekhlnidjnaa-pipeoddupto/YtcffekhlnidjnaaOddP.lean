/- Readers and writers of any behaviour: what they tell, as numbers; the document's told. -/
import Derived.Test.YtcffekhlnidjnaaPRInst
import Derived.Deep.AppendLies
namespace Go.Proofs.Ytcffekhlnidjnaa
open Go.RowKit

def toldE (l e : List Int) (k : Nat) (n0 e0 : Int) : Int × Int :=
  if l.length < k then (n0, e0) else (l.getD (k - 1) 0, if e.length < k then 0 else e.getD (k - 1) 0)
/-- A reader's state: how often it was called, its last byte, with how many bytes it was called. -/
structure OSt where
  c : Nat
  nx : Nat
  szs : List Int
def oBytes (add nx m : Nat) : List Int := (List.range m).map fun j => (((nx + add * (j + 1)) % 256 : Nat) : Int)
theorem oBytes_len (add nx m : Nat) : (oBytes add nx m).length = m := by simp [oBytes]
theorem oBytes_take (add nx m i : Nat) (h : i ≤ m) : (oBytes add nx m).take i = oBytes add nx i := by
  unfold oBytes
  rw [← List.map_take, List.take_range, Nat.min_eq_left h]
theorem oBytes_get (add nx m i : Nat) (h : i < m) : (oBytes add nx m).getD i 0 = (((nx + add * (i + 1)) % 256 : Nat) : Int) := by
  unfold oBytes
  simp [List.getD, h]
theorem oBytes_b8 (add nx m : Nat) : B8 (oBytes add nx m) := by
  intro c hc
  obtain ⟨j, _, rfl⟩ := List.mem_map.1 hc
  omega
def oRd (l e : List Int) (add k : Nat) (s : OSt) : Int × Int × List Int × OSt :=
  ((toldE l e (s.c + 1) 0 31).1, (toldE l e (s.c + 1) 0 31).2, oBytes add s.nx (min (toldE l e (s.c + 1) 0 31).1.toNat k), ⟨s.c + 1, (s.nx + add * min (toldE l e (s.c + 1) 0 31).1.toNat k) % 256, s.szs ++ [(k : Int)]⟩)
/-- A writer's state: how often it was handed something, what it took, with how many bytes it was called. -/
structure OWt where
  c : Nat
  took : List Int
  szs : List Int
def oWf (l e : List Int) (t : OWt) (ys : List Int) : Int × Int × OWt :=
  ((toldE l e (t.c + 1) (ys.length : Int) 0).1, (toldE l e (t.c + 1) (ys.length : Int) 0).2, ⟨t.c + 1, t.took ++ ys.take (toldE l e (t.c + 1) (ys.length : Int) 0).1.toNat, t.szs ++ [(ys.length : Int)]⟩)
def oCnt (s : OSt) : Nat := s.c + 4611684918915760128
def oCntW (t : OWt) : Nat := t.c + 4611684918915760128

theorem o_fit (l e : List Int) (add k : Nat) (s : OSt) (_h0 : 0 ≤ (oRd l e add k s).1) (h1 : (oRd l e add k s).1 ≤ k) : (oRd l e add k s).2.2.1.length = (oRd l e add k s).1.toNat := by
  simp only [oRd, oBytes_len] at *
  omega
theorem o_len (l e : List Int) (add k : Nat) (s : OSt) : (oRd l e add k s).2.2.1.length ≤ k := by
  simp only [oRd, oBytes_len]
  omega
theorem o_dec (l e : List Int) (add k : Nat) (s : OSt) (h : (oRd l e add k s).2.1 = 0) : s.c < l.length := by
  simp only [oRd, toldE] at h
  split at h
  · simp at h
  · omega
theorem o_vol (l e : List Int) (add k : Nat) (s : OSt) (hk : k ≤ 4096) : (oRd l e add k s).2.2.1.length + 4096 * (l.length - (oRd l e add k s).2.2.2.c) ≤ 4096 * (l.length - s.c) := by
  simp only [oRd, oBytes_len, toldE]
  by_cases h : l.length < s.c + 1
  · rw [if_pos h]
    simp only [Int.toNat_zero, Nat.zero_min]
    omega
  · rw [if_neg h]
    simp only
    omega

theorem infoIntO : (Try.prog.info? 3).map (fun i => (i.zero, i.size, i.bytes)) = some (some (.int .i64 0), 1, 8) := by kernel_rfl
theorem info_partsO {p : Program} {t : TypeId} {z : Value} {s b : Nat} (h : (p.info? t).map (fun i => (i.zero, i.size, i.bytes)) = some (some z, s, b)) : ∃ i, p.info? t = some i ∧ i.zero = some z ∧ i.size = s ∧ i.bytes = b := by
  cases hi : p.info? t with
  | none => rw [hi] at h; cases h
  | some i =>
    rw [hi] at h
    simp only [Option.map_some, Option.some.injEq, Prod.mk.injEq] at h
    exact ⟨i, rfl, h.1, h.2.1, h.2.2⟩
theorem app_liesO {P : Program} {ops : Array Oper} {o : Oper} {rest : List Oper} {a : Act} {w : World} {Q : Exit → Act → World → Prop} (hgd : o.guard = none) (s x : Operand) (t : TypeId)
    (ho : o.op = .call { callee := .builtin .append, args := #[s, x], argTypes := #[t, t] })
    (base : Nat) (e : TypeId) (i : TypeInfo) (z : Value) (size bytes : Nat) (ht : P.underlying t = some (.slice e)) (hi : P.info? e = some i) (hz : i.zero = some z) (hsize : i.size = size) (hby : i.bytes = bytes) (hzs : z.cells.size = size) (hsz : 0 < size)
    (v : Value) (n : Nat) (xs : List Value) (hs : a.eval s = v) (hown : w.ownsRow base e size v n xs)
    (ad : Addr) (c : Nat) (news : List Value) (hx : a.eval x = .slice (some ad) 1 c) (hl : news.length = size) (hnews : ∀ j u, news[j]? = some u → w.cell? (ad.add j) = some u) (h1 : ∀ u ∈ news, u.oneCell' = true)
    (h63 : n + 1 ≤ maxLen) (hb : (n + 1) * bytes ≤ 140737488355328) (hbase : base ≤ w.heap.size)
    (h : ∀ g cap w', w'.ownsRow base e size (.slice (some ⟨g, 0, none⟩) (n + 1) cap) (n + 1) (xs ++ news) → w.grownBy w' v.ownBlock → (v.ownBlock = some g ∨ w.heap.size ≤ g) → wpList P ops Q rest (a.put o.dst (.slice (some ⟨g, 0, none⟩) (n + 1) cap)) w') : wpList P ops Q (o :: rest) a w := by
  have hw : Region.wanted o (yielded ops a.tmps) = true := by simp [Region.wanted, hgd]
  have h0 := step_append_lies (P := P) w (ops := ops) (K := wpList P ops Q rest) (Q := Q) (E := True) hgd s x t ho base e i z size bytes ht hi hz hsize hby hzs hsz v n xs hs hown ad 1 c news hx (by omega) hnews h1 (by omega) h63 hb hbase w.heap.size rfl
    (fun g cap w' q1 q2 q3 _ => h g cap w' q1 q2 (q3.imp id (fun e => by omega)))
  rw [if_pos hw] at h0
  rw [wpList, if_pos hw]
  exact .inl h0

set_option maxHeartbeats 800000 in
theorem rtold_any (an ae : Option Addr) (ln cn le ce : Nat) (ns es : List Int) (k : Nat) (n0 e0 : Int) (w : World) (hln : ns.length = ln) (hle : es.length = le) (hk : 1 ≤ k) (hk2 : k ≤ 4611686018427387904) (rn : Row w .i64 an ns) (re : Row w .i64 ae es) :
    Calls Try.prog 34 #[.slice an ln cn, .slice ae le ce, .int .i64 (k : Int), .int .i64 n0, .int .i64 e0] w fun e w' => e = .returned (.tuple #[.int .i64 (toldE ns es k n0 e0).1, .int .i64 (toldE ns es k n0 e0).2]) ∧ ∃ m, w' = w.drewN m := by
  by_cases h1 : ln < k
  · have ht : toldE ns es k n0 e0 = (n0, e0) := by unfold toldE; rw [if_pos (by omega)]
    rw [ht]
    have j1 : (ln : Int) < (k : Int) := by omega
    clear rn re
    go_enter Try.func34, Try.ntmps34
    go_wp2_with fail
    go_ret2
    exact ⟨rfl, 0, rfl⟩
  · obtain ⟨q, rfl⟩ : ∃ q, k = q + 1 := ⟨k - 1, by omega⟩
    have j1 : ¬ (ln : Int) < ((q + 1 : Nat) : Int) := by omega
    obtain ⟨bn, on, rfl, cn0⟩ := rn q (by omega)
    have jq : ((q + 1 : Nat) : Int) - 1 = (q : Int) := by omega
    have j2 : (0 : Int) ≤ (q : Int) := by omega
    have j3 : (q : Int) < (ln : Int) := by omega
    by_cases h2 : le < q + 1
    · have ht : toldE ns es (q + 1) n0 e0 = (ns.getD q 0, 0) := by unfold toldE; rw [if_neg (by omega), if_pos (by omega)]; rfl
      rw [ht]
      have j4 : (le : Int) < ((q + 1 : Nat) : Int) := by omega
      have jw : IntKind.i64.wrap (((q + 1 : Nat) : Int) - 1) = (q : Int) := by rw [IntKind.wrap_i64]; omega
      generalize ns.getD q 0 = x at *
      rw [show ((q + 1 : Nat) : Int) = (q : Int) + 1 by omega] at *
      clear ht jq rn re
      go_enter Try.func34, Try.ntmps34
      go_wp2_with fail
      go_ret2
      exact ⟨rfl, 0, rfl⟩
    · obtain ⟨be, oe, rfl, ce0⟩ := re q (by omega)
      have ht : toldE ns es (q + 1) n0 e0 = (ns.getD q 0, es.getD q 0) := by unfold toldE; rw [if_neg (by omega), if_neg (by omega)]; rfl
      rw [ht]
      have j4 : ¬ (le : Int) < ((q + 1 : Nat) : Int) := by omega
      have j5 : (q : Int) < (le : Int) := by omega
      generalize ns.getD q 0 = x at *
      generalize es.getD q 0 = y at *
      rw [show ((q + 1 : Nat) : Int) = (q : Int) + 1 by omega] at *
      clear ht jq rn re
      go_enter Try.func34, Try.ntmps34
      go_wp2_with fail
      go_quiet (fail)
      go_wp2_with fail
      go_ret2
      exact ⟨rfl, _, rfl⟩

end Go.Proofs.Ytcffekhlnidjnaa
