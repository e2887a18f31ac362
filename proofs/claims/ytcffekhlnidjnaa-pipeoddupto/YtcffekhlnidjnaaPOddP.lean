/- Copy and Chunks, the program's and the document's, over readers and writers of any behaviour. -/
import Derived.Test.YtcffekhlnidjnaaPLo2
import Derived.Test.YtcffekhlnidjnaaPChkP
import Derived.Test.YtcffekhlnidjnaaPRCopy
namespace Go.Proofs.Ytcffekhlnidjnaa
open Go.RowKit

def oAll (ns es : List Int) (size : Int) (s : OSt) : List (List Int × Int × OSt) :=
  if 1 ≤ size ∧ size ≤ 4096 then chunkA size.toNat (oRd ns es 1 size.toNat) (fun s => ns.length - s.c) s else [([], 1, s)]
theorem o_stp (ns es : List Int) (size : Nat) (h : size ≤ 4096) (s : OSt) : (stp size (oRd ns es 1 size) s).1.length + 4096 * (ns.length - (stp size (oRd ns es 1 size) s).2.2.c) ≤ 4096 * (ns.length - s.c) := by
  have h1 := o_vol ns es 1 size s h
  unfold stp
  split
  · simp only [List.length_nil]; omega
  · exact h1
theorem oAll_tb (ns es : List Int) (size : Int) (s : OSt) : tb (oAll ns es size s) ≤ 4096 * (ns.length - s.c) := by
  unfold oAll
  split
  · exact tb_le (m := fun s : OSt => 4096 * (ns.length - s.c)) (o_stp ns es _ (by omega)) _ _ _
  · simp [tb]
theorem oAll_len (ns es : List Int) (size : Int) (s : OSt) : ∀ c ∈ oAll ns es size s, c.1.length ≤ 4096 := by
  unfold oAll
  split
  · rename_i h
    have hR := po_reader ns es none ns.length 0 none es.length 0 0 0 (fun _ => False) size.toNat rfl rfl (by omega)
    intro c hc
    have := ck_len (stp_len hR) _ _ _ c hc
    omega
  · intro c hc
    rw [List.mem_singleton] at hc
    subst hc
    simp
theorem chunk_count {σ : Type} (step : σ → List Int × Int × σ) : ∀ (fu : Nat) (s : σ) (idle : Nat), (chunkL step fu s idle).length ≤ fu
  | 0, s, idle => Nat.le_refl _
  | fu + 1, s, idle => by
    have h1 := chunk_count step fu (step s).2.2 (idle + 1)
    have h2 := chunk_count step fu (step s).2.2 0
    rw [chunkL]
    split
    · split
      · omega
      · simp
    · split
      · simp only [List.length_cons]; omega
      · simp
theorem oAll_count (ns es : List Int) (size : Int) (s : OSt) (h : ns.length ≤ 1048576) : (oAll ns es size s).length ≤ 2147483648 := by
  unfold oAll
  split
  · refine Nat.le_trans (chunk_count _ _ _ _) ?_
    simp only
    omega
  · simp
theorem copyL_st {σ τ : Type} (hd : τ → List Int → Nat × Int × τ) : ∀ (l : List (List Int × Int × σ)) (s : σ) (t : τ) (k : Nat), (copyL hd l s t k).2.2.1 = s ∨ ∃ c ∈ l, (copyL hd l s t k).2.2.1 = c.2.2
  | [], s, t, k => .inl rfl
  | c :: r, s, t, k => by
    rw [copyL]
    split
    · exact .inr ⟨c, by simp, rfl⟩
    · split
      · exact .inr ⟨c, by simp, rfl⟩
      · split
        · exact .inr ⟨c, by simp, rfl⟩
        · rcases copyL_st hd r c.2.2 (hd t c.1).2.2 (k + (hd t c.1).1) with h | ⟨c', h1, h2⟩
          · exact .inr ⟨c, by simp, h⟩
          · exact .inr ⟨c', by simp [h1], h2⟩
theorem oAll_bnd (ns es : List Int) (size : Int) (s : OSt) : ∀ c ∈ oAll ns es size s, c.2.2.c + 17 * (ns.length - c.2.2.c) ≤ s.c + 17 * (ns.length - s.c) + 16 := by
  unfold oAll
  split
  · intro c hc
    have hR := po_reader ns es none ns.length 0 none es.length 0 0 0 (fun _ => False) size.toNat rfl rfl (by omega)
    have := chunk_bnd (cnt := fun s : OSt => s.c) (m := fun s : OSt => ns.length - s.c) (fun s => stp_dec hR s) (fun s => (stp_mle hR s).1) (fun s => by unfold stp; split <;> rfl) _ s 0 (by omega) c hc
    simpa using this
  · intro c hc
    rw [List.mem_singleton] at hc
    subst hc
    simp only
    omega
def s00 : OSt := ⟨0, 0, []⟩
def t00 : OWt := ⟨0, [], []⟩
def oRes (ns es ts fs : List Int) (size : Int) : Nat × Int × OSt × OWt := copyL (handA (oWf ts fs)) (oAll ns es size s00) s00 t00 0
theorem oRes_c (ns es ts fs : List Int) (size : Int) : (oRes ns es ts fs size).2.2.1.c + 17 * (ns.length - (oRes ns es ts fs size).2.2.1.c) ≤ 17 * ns.length + 16 := by
  unfold oRes
  rcases copyL_st (handA (oWf ts fs)) (oAll ns es size s00) s00 t00 0 with h | ⟨c, h1, h2⟩
  · rw [h]; simp only [s00]; omega
  · rw [h2]
    have := oAll_bnd ns es size s00 c h1
    simp only [s00] at this
    omega

section
variable {ns es ts fs : List Int} {an ae at' af : Option Addr} {ln cn le ce lt ct lf cf : Nat}
theorem oseq_any (size : Int) (g B : Nat) (M : Nat → Prop) (w : World) (s : OSt) (n : Nat) (hn : 5 ≤ n) (hln : ns.length = ln) (hle : es.length = le) (hS : PRd ns es an ln cn ae le ce g B M w s M) (hB : B ≤ w.heap.size) (hc : s.c + 17 * (ns.length - s.c) ≤ 20000000) (b1 b2 : Nat) (h1 : w.cell? ⟨b1, 0, none⟩ = some (.iface 67 (.pointer (some ⟨g, 0, none⟩)))) (h2 : w.cell? ⟨b2, 0, none⟩ = some (.int .i64 size)) (hm1 : ¬ M b1) (hm2 : ¬ M b2) :
    SeqW Fence.wide n Try.prog 35 #[.pointer (some ⟨b1, 0, none⟩), .pointer (some ⟨b2, 0, none⟩)] Ck.vs M (CkPr M B b1 b2) (CkD (oAll ns es size s) (PRd ns es an ln cn ae le ce g B M) M) (CkS (oAll ns es size s) s (PRd ns es an ln cn ae le ce g B M) M) w := by
  unfold oAll
  split
  · rename_i hsz
    obtain ⟨sz, rfl⟩ : ∃ sz : Nat, size = sz := ⟨size.toNat, by omega⟩
    simp only [Int.toNat_natCast]
    exact chunks1_seq (po_reader ns es an ln cn ae le ce g B M sz hln hle (by omega)) (po_rleads g) M (fun _ _ _ h => h.1) n hn w s b1 b2 (by omega) (by omega) hB hS h1 h2 hm1 hm2 (by have := oCnt_eq s; omega)
  · rename_i hsz
    exact chunks1_bad s (PRd ns es an ln cn ae le ce g B M) M B (fun W W' S h hu hs => h.upd hu hs) n hn w b1 b2 _ _ size (by omega) hS h1 h2
theorem ocopy_any (size : Int) (g g2 B : Nat) (M M2 : Nat → Prop) (W : World) (hln : ns.length = ln) (hle : es.length = le) (hlt : ts.length = lt) (hlf : fs.length = lf) (hb : ns.length ≤ 1048576) (hS : PRd ns es an ln cn ae le ce g B M W s00 M) (hK : PWd ts fs at' lt ct af lf cf g2 B W t00 M2) (hdis : ∀ i, M i → ¬ M2 i) (hB : B ≤ W.heap.size) :
    Calls Try.prog 12 #[.iface 67 (.pointer (some ⟨g2, 0, none⟩)), .iface 67 (.pointer (some ⟨g, 0, none⟩)), .int .i64 size] W fun e W' => CopyPost (PRd ns es an ln cn ae le ce g B M) (PWd ts fs at' lt ct af lf cf g2 B) (oRes ns es ts fs size) M M2 W e W' := by
  have htb := oAll_tb ns es size s00
  have hlt' := (po_reader ns es an ln cn ae le ce g B M 0 hln hle (by omega)).lt hS
  have hcw := oCntW_eq t00
  simp only [s00] at htb
  refine callsIn_wide.1 (copy_in (po_writer ts fs at' lt ct af lf cf g2 B hlt hlf) (po_wleads g2) (PRd ns es an ln cn ae le ce g B M) (fun W W' s N S h hu hs => h.upd hu hs) M M2 7 (Nat.le_refl _) size W s00 t00 (oAll ns es size s00) hlt' hdis hB hS hK (oAll_len ns es size s00) (by rw [hcw]; simp only [t00, s00]; omega) (by simp only [t00, s00, List.length_nil]; omega) ?_)
  intro w b1 b2 hu h1 h2 hb1 hb2
  exact oseq_any size g B M w s00 (7 - 1) (by omega) hln hle (hS.upd hu (fun _ e => e.elim)) (Nat.le_trans hB hu.size) (by simp only [s00]; omega) b1 b2 h1 h2 (fun e => by have := (hlt' _ e).2; omega) (fun e => by have := (hlt' _ e).2; omega)
theorem orcopy_any (size : Int) (g g2 B : Nat) (M M2 : Nat → Prop) (W : World) (hln : ns.length = ln) (hle : es.length = le) (hlt : ts.length = lt) (hlf : fs.length = lf) (hb : ns.length ≤ 1048576) (hS : ORd ns es an ln cn ae le ce 1 g B W s00 M) (hK : TAt (mkS (.slice at' lt ct) (.slice af lf cf)) 51 at' ts af fs g2 B W t00 M2) (hdis : ∀ i, M i → ¬ M2 i) (hB : B ≤ W.heap.size) :
    Calls Try.prog 25 #[.pointer (some ⟨g2, 0, none⟩), .pointer (some ⟨g, 0, none⟩), .int .i64 size] W fun e W' => RCPost (ORd ns es an ln cn ae le ce 1 g B) (TAt (mkS (.slice at' lt ct) (.slice af lf cf)) 51 at' ts af fs g2 B) (oRes ns es ts fs size) M M2 W e W' := by
  have htb := oAll_tb ns es size s00
  have hcw := oCntW_eq t00
  have hcr := oCnt_eq s00
  unfold oRes
  by_cases hsz : 1 ≤ size ∧ size ≤ 4096
  · obtain ⟨sz, rfl⟩ : ∃ sz : Nat, size = sz := ⟨size.toNat, by omega⟩
    have he : oAll ns es sz s00 = chunkA sz (oRd ns es 1 sz) (fun s => ns.length - s.c) s00 := by unfold oAll; rw [if_pos hsz]; rfl
    rw [he] at htb ⊢
    simp only [show s00.c = 0 from rfl] at htb
    exact rcopy_any g g2 (ro_reader ns es an ln cn ae le ce 1 g B sz hln hle (by omega)) (ro_writer ts fs at' lt ct af lf cf g2 B hlt hlf) (by omega) (by omega) W s00 t00 M M2 hB hS hK hdis (by rw [hcr]; simp only [show s00.c = 0 from rfl]; omega) (by rw [hcw]; simp only [show t00.c = 0 from rfl]; omega) (by simp only [show t00.took = [] from rfl, List.length_nil]; omega)
  · refine (rcopy_bad g g2 size W (by omega)).mono fun e W' ⟨h1, h2⟩ => ?_
    subst h2
    have hr : copyL (handA (oWf ts fs)) (oAll ns es size s00) s00 t00 0 = (0, 1, s00, t00) := by
      unfold oAll
      rw [if_neg hsz, copyL, show handA (oWf ts fs) t00 [] = (0, 0, t00) from handF_done _ _ _ _]
      simp
    rw [hr]
    exact ⟨h1, ⟨M, hS, fun _ h => .inl h⟩, ⟨M2, hK, fun _ h => .inl h⟩, Upd.refl _ _⟩
theorem orchunks_any (size : Int) (g B : Nat) (M : Nat → Prop) (W : World) (s : OSt) (hln : ns.length = ln) (hle : es.length = le) (hS : ORd ns es an ln cn ae le ce 1 g B W s M) (hB : B ≤ W.heap.size) (hc : s.c + 17 * (ns.length - s.c) ≤ 20000000) :
    Calls Try.prog 23 #[.pointer (some ⟨g, 0, none⟩), .int .i64 size, .int .i64 (2147483648 : Nat)] W (RChPost (ORd ns es an ln cn ae le ce 1 g B) (oAll ns es size s) s 2147483648 M W) := by
  have hR := fun sz : Nat => fun (h : sz ≤ 140737488355328) => ro_reader ns es an ln cn ae le ce 1 g B sz hln hle h
  unfold oAll
  split
  · rename_i hsz
    obtain ⟨sz, rfl⟩ : ∃ sz : Nat, size = sz := ⟨size.toNat, by omega⟩
    simp only [Int.toNat_natCast]
    exact rchunks_any g (hR sz (by omega)) (by omega) (by omega) W s M hB hS 2147483648 (by omega) (by omega) (by have := oCnt_eq s; omega)
  · rename_i hsz
    exact rchunks_bad _ s M (fun W W' h hu => (hR 0 (by omega)).upd h hu (fun i e => e.elim)) g size 2147483648 W (fun i hi => ((hR 0 (by omega)).lt hS i hi).2) hS (by omega) (by omega)
end

end Go.Proofs.Ytcffekhlnidjnaa
