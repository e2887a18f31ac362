/- The document's source is a reader, its sink a writer; its Copy from the one into the other. -/
import Derived.Test.YtcffekhlnidjnaaPRef2
import Derived.Test.YtcffekhlnidjnaaPRCopy
namespace Go.Proofs.Ytcffekhlnidjnaa
open Go.RowKit

/-- The document's source in its block, its bytes and its plan below B. -/
def RSrcRd (zs gs : List Int) (fail : Int) (eager : Bool) (ab : Option Addr) (lb cb : Nat) (ag : Option Addr) (lg cg : Nat) (g B : Nat) (W : World) (s : Nat × Nat) (M : Nat → Prop) : Prop :=
  (∀ i, M i ↔ i = g) ∧ RSrc0 W g (.slice ab lb cb) (.slice ag lg cg) fail eager s.1 s.2 ∧ Row W .u8 ab zs ∧ Row W .i64 ag gs ∧ s.2 ≤ lb ∧ B ≤ g ∧ (∀ x, ab = some x → 0 < lb → x.block < B) ∧ (∀ x, ag = some x → 0 < lg → x.block < B)

theorem rsrc_reader (zs gs : List Int) (fail : Int) (eager : Bool) (ab : Option Addr) (lb cb : Nat) (ag : Option Addr) (lg cg : Nat) (size g B : Nat) (hz8 : B8 zs) (hsz : size ≤ 140737488355328) (hlb : zs.length = lb) (hlg : gs.length = lg) (hm : lb ≤ 140737488355328) :
    Reader size (srcRd zs gs fail eager size) Prod.fst (fun s => zs.length - s.2) 16 (.pointer (some ⟨g, 0, none⟩)) B (RSrcRd zs gs fail eager ab lb cb ag lg cg g B) where
  upd := fun ⟨h1, h2, h3, h4, h5, h6, h7, h8⟩ hu hs => ⟨h1, h2.upd hu (fun e => (hs _ e).2 ((h1 _).2 rfl)), h3.upd hu (fun x hx h0 e => by have := h7 x hx (by omega); have := (hs _ e).1; omega), h4.upd hu (fun x hx h0 e => by have := h8 x hx (by omega); have := (hs _ e).1; omega), h5, h6, h7, h8⟩
  lt := fun ⟨h1, h2, h3, h4, h5, h6, h7, h8⟩ i hi => by
    obtain rfl := (h1 i).1 hi
    exact ⟨h6, lt_of_block h2⟩
  fit := fun s h0 h1 => by
    have := srcN_le zs gs fail (s.1 + 1) s.2 size
    simp only [srcRd, List.length_take, List.length_drop, Int.toNat_natCast]
    omega
  len := fun s => by
    have := srcN_le zs gs fail (s.1 + 1) s.2 size
    simp only [srcRd, List.length_take, List.length_drop]
    omega
  b8 := fun s => (hz8.drop _).take _
  cnt1 := fun s => rfl
  dec := fun s _ h1 _ => by
    have := srcN_le zs gs fail (s.1 + 1) s.2 size
    simp only [srcRd] at h1 ⊢
    omega
  mle := fun s => by simp only [srcRd]; omega
  read := fun W s M r cur ⟨h1, h2, h3, h4, h5, h6, h7, h8⟩ hc hroom hcur hr hBr => by
    obtain ⟨c, k⟩ := s
    simp only at h2 h5 hc
    have hgr : g ≠ r := fun e => hr ((h1 r).2 e.symm)
    have hle := srcN_le zs gs fail (c + 1) k size
    have hl : ((zs.drop k).take (srcN zs gs fail (c + 1) k size)).length = srcN zs gs fail (c + 1) k size := by rw [List.length_take, List.length_drop]; omega
    refine (rread_any ab ag lb cb lg cg zs gs fail eager g c k (some ⟨r, 0, none⟩) size size r cur W _ _ rfl rfl hlb hlg hm hsz h5 hc h2 h3 h4 hroom hgr (fun x hx h0 => by have := h7 x hx h0; omega) (fun x hx h0 => by have := h8 x hx h0; omega) hcur).mono fun e W' ⟨q1, q2, q3, q4⟩ => ⟨M, q1, ?_, ?_, q4.mono (fun i _ e => e.elim (fun e => .inl ((h1 i).2 e)) .inr), fun i hi => .inl hi, hr⟩
    · exact ⟨h1, q2, h3.upd q4 (fun x hx h0 e => by have := h7 x hx (by omega); omega), h4.upd q4 (fun x hx h0 e => by have := h8 x hx (by omega); omega), by simp only [srcRd]; omega, h6, h7, h8⟩
    · simp only [srcRd]; rw [hl]; exact q3

def RSWd (at' : Option Addr) (lt ct : Nat) (ts : List Int) (fail : Int) (g B : Nat) (W : World) (t : Nat × List Int) (M : Nat → Prop) : Prop := RSAt W B M at' lt ct ts fail g t.1 t.2
theorem rsnk_writer (at' : Option Addr) (lt ct : Nat) (ts : List Int) (fail : Int) (g B : Nat) (hlt : ts.length = lt) :
    Writer (snkWf ts fail) Prod.fst (fun t => t.2.length) 21 (.pointer (some ⟨g, 0, none⟩)) B (RSWd at' lt ct ts fail g B) where
  upd := fun h hu hs => RSAt.upd h hu hs
  lt := fun h => (RSAt.lt h).1
  cnt1 := fun t b => by unfold snkWf; split <;> rfl
  szle := fun t b => by
    unfold snkWf
    split
    · exact Nat.le_add_right _ _
    · simp only [List.length_append, List.length_take]; omega
  szin := fun t b => by
    unfold snkWf
    split
    · intro _ _; simp
    · intro _ _; simp only [List.length_append, List.length_take, Int.toNat_natCast]; omega
  write := fun W t M b o len pc ys h hc hl h0 hpc hr hM hz hB => by
    obtain ⟨c, zs⟩ := t
    have h' : RSAt W B M at' lt ct ts fail g c zs := h
    refine (rwrite_any (some ⟨b, o, none⟩) len pc ys h' hlt hc hl hpc (fun e => by cases e) hr (fun x hx _ e => by cases hx; simp only at e; subst e; exact hM h'.lt.2) hz hB).mono fun e W' ⟨q1, M', q2, q3, q4⟩ => ⟨M', q1, q2, q3, q4⟩

/-- The document's Copy from its source into its sink. -/
theorem rcopySS_any (zs gs ts : List Int) (fail fail2 : Int) (eager : Bool) (size : Int) (ab : Option Addr) (lb cb : Nat) (ag : Option Addr) (lg cg : Nat) (at' : Option Addr) (lt ct : Nat) (g g2 B : Nat) (M M2 : Nat → Prop) (W : World) (c k c2 : Nat) (ys : List Int) (hz8 : B8 zs) (hlb : zs.length = lb) (hlg : gs.length = lg) (hm : lb ≤ 140737488355328) (hlt : ts.length = lt)
    (hS : RSrcRd zs gs fail eager ab lb cb ag lg cg g B W (c, k) M) (hK : RSAt W B M2 at' lt ct ts fail2 g2 c2 ys) (hdis : ∀ i, M i → ¬ M2 i) (hB : B ≤ W.heap.size)
    (hc : c + 17 * zs.length + 16 ≤ 4611686018427387903) (hc2 : c2 + 33 * zs.length ≤ 4611686018427300000) (hz : ys.length + (zs.length - k) ≤ 140737488355328) :
    Calls Try.prog 25 #[.pointer (some ⟨g2, 0, none⟩), .pointer (some ⟨g, 0, none⟩), .int .i64 size] W fun e W' => RCPost (RSrcRd zs gs fail eager ab lb cb ag lg cg g B) (RSWd at' lt ct ts fail2 g2 B) (copyL (handA (snkWf ts fail2)) (srcAll zs gs fail eager size (c, k)) (c, k) (c2, ys) 0) M M2 W e W' := by
  have htb := srcAll_tb zs gs fail eager size (c, k)
  simp only at htb
  by_cases hsz : 1 ≤ size ∧ size ≤ 4096
  · obtain ⟨sz, rfl⟩ : ∃ sz : Nat, size = sz := ⟨size.toNat, by omega⟩
    have he : srcAll zs gs fail eager sz (c, k) = chunkA sz (srcRd zs gs fail eager sz) (fun s => zs.length - s.2) (c, k) := by unfold srcAll; rw [if_pos hsz]; rfl
    rw [he] at htb ⊢
    exact rcopy_any g g2 (rsrc_reader zs gs fail eager ab lb cb ag lg cg sz g B hz8 (by omega) hlb hlg hm) (rsnk_writer at' lt ct ts fail2 g2 B hlt) (by omega) (by omega) W (c, k) (c2, ys) M M2 hB hS hK hdis (by simp only; omega) (by simp only; omega) (by simp only; omega)
  · refine (rcopy_bad g g2 size W (by omega)).mono fun e W' ⟨h1, h2⟩ => ?_
    subst h2
    have hr : copyL (handA (snkWf ts fail2)) (srcAll zs gs fail eager size (c, k)) (c, k) (c2, ys) 0 = (0, 1, (c, k), (c2, ys)) := by
      unfold srcAll
      rw [if_neg hsz, copyL, show handA (snkWf ts fail2) (c2, ys) [] = (0, 0, (c2, ys)) from handF_done _ _ _ _]
      simp
    rw [hr]
    exact ⟨h1, ⟨M, hS, fun _ h => .inl h⟩, ⟨M2, hK, fun _ h => .inl h⟩, Upd.refl _ _⟩

end Go.Proofs.Ytcffekhlnidjnaa
