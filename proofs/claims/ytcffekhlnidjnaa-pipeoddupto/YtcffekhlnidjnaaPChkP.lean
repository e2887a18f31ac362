/- Chunks of a source, the program's and the document's, of whatever size. -/
import Derived.Test.YtcffekhlnidjnaaPRChunk
import Derived.Test.YtcffekhlnidjnaaPRInst
namespace Go.Proofs.Ytcffekhlnidjnaa
open Go.RowKit

/-- How often a reader is called, up to a chunk. -/
theorem chunk_bnd {σ : Type} {step : σ → List Int × Int × σ} {cnt m : σ → Nat} (hd : ∀ s, (step s).1 ≠ [] → (step s).2.1 = 0 → m (step s).2.2 < m s) (hm : ∀ s, m (step s).2.2 ≤ m s) (hc : ∀ s, cnt (step s).2.2 = cnt s + 1) :
    ∀ (fu : Nat) (s : σ) (idle : Nat), idle < 16 → ∀ c ∈ chunkL step fu s idle, cnt c.2.2 + 17 * m c.2.2 ≤ cnt s + 17 * m s + (16 - idle)
  | 0, s, idle, _ => fun c h => by cases h
  | fu + 1, s, idle, hi => fun c h => by
    have h1 := hm s
    have h2 := hc s
    by_cases hb : (step s).1 = [] ∧ (step s).2.1 = 0
    · rw [chunkL_idle (by omega) hb.1 hb.2] at h
      split at h
      · have := chunk_bnd hd hm hc fu (step s).2.2 (idle + 1) (by omega) c (by simpa using h)
        omega
      · rw [List.mem_singleton] at h
        subst h
        simp only
        omega
    · rw [chunkL_some (by omega) hb] at h
      rcases List.mem_cons.1 h with rfl | h
      · omega
      · split at h
        · rename_i he
          have h3 := hd s (fun e => hb ⟨e, he⟩) he
          have := chunk_bnd hd hm hc fu (step s).2.2 0 (by omega) c (by simpa using h)
          omega
        · cases h
theorem endL_mem {σ : Type} (s : σ) (l : List (List Int × Int × σ)) : endL s l = s ∨ ∃ c ∈ l, endL s l = c.2.2 := by
  by_cases h : l = []
  · subst h; exact .inl rfl
  · exact .inr ⟨l.getLast h, List.getLast_mem h, by unfold endL; rw [List.getLast?_eq_some_getLast h]; rfl⟩
theorem srcAll_bnd (zs gs : List Int) (fail : Int) (eager : Bool) (size : Int) (s : Nat × Nat) (hz8 : B8 zs) (lim : Nat) :
    (endL s ((srcAll zs gs fail eager size s).take lim)).1 + 17 * (zs.length - (endL s ((srcAll zs gs fail eager size s).take lim)).2) ≤ s.1 + 17 * (zs.length - s.2) + 16 := by
  rcases endL_mem s ((srcAll zs gs fail eager size s).take lim) with h | ⟨c, hc, h⟩
  · rw [h]; omega
  · rw [h]
    have hc' := List.mem_of_mem_take hc
    unfold srcAll at hc'
    split at hc'
    · have hR := src_reader zs gs fail eager size.toNat 0 0 (fun _ => False) hz8 (by omega)
      have := chunk_bnd (cnt := Prod.fst) (m := fun s : Nat × Nat => zs.length - s.2) (fun s => stp_dec hR s) (fun s => (stp_mle hR s).1) (fun s => (stp_mle hR s).2) _ s 0 (by omega) c hc'
      simpa using this
    · rw [List.mem_singleton] at hc'
      subst hc'
      simp only
      omega

set_option maxHeartbeats 800000 in
theorem rchunks_bad {σ : Type} (Rd : World → σ → (Nat → Prop) → Prop) (s : σ) (M0 : Nat → Prop) (hupd : ∀ (W W' : World), Rd W s M0 → Upd Noth W W' → Rd W' s M0) (g : Nat) (size : Int) (lim : Nat) (w : World) (hlt : ∀ i, M0 i → i < w.heap.size) (hR : Rd w s M0) (hs : size < 1 ∨ 4096 < size) (hl1 : 1 ≤ lim) :
    Calls Try.prog 23 #[.pointer (some ⟨g, 0, none⟩), .int .i64 size, .int .i64 lim] w (RChPost Rd [([], 1, s)] s lim M0 w) := by
  have hf := heap_alloc_new w (.cells #[.slice none 0 0, .int .i64 1] 59)
  have u1 : Upd Noth w (w.alloc (.cells #[.slice none 0 0, .int .i64 1] 59)) := (Upd.refl _ _).alloc _
  have ht : ([([], 1, s)] : List (List Int × Int × σ)).take lim = [([], 1, s)] := List.take_of_length_le (by simp; omega)
  have HF : Hid (RChPost Rd [([], 1, s)] s lim M0 w (.returned (.slice (some ⟨w.heap.size, 0, none⟩) 1 1)) (w.alloc (.cells #[.slice none 0 0, .int .i64 1] 59))) := by
    refine ⟨_, [⟨none, 0, [], 1⟩], M0, rfl, ⟨⟨rfl, .inr ⟨w.heap.size, 1, _, rfl, Nat.le_refl _, hf, Nat.le_refl _, by unfold maxLen; omega, rfl, rfl⟩⟩, fun c hc => ?_, fun c hc x hx => ?_, fun k hk e => ?_⟩, by rw [ht]; rfl, by rw [ht]; exact hupd _ _ hR u1, fun _ h => .inl h, u1.noth⟩
    · rw [List.mem_singleton] at hc; subst hc; exact row_nil _ _ _
    · rw [List.mem_singleton] at hc; subst hc; cases hx
    · have : w.heap.size = k := by simpa [Value.ownBlock] using hk
      have := hlt k e
      omega
  clear hf u1 ht hupd hR
  rcases hs with hs | hs
  · go_enter Try.func23, Try.ntmps23
    go_wp2
    go_ret
    exact HF.out
  · have h1 : ¬ size < 1 := by omega
    go_enter Try.func23, Try.ntmps23
    go_wp2
    go_ret
    exact HF.out

/-- The document's Chunks of its source. -/
theorem rchunksS_any (zs gs : List Int) (fail : Int) (eager : Bool) (size : Int) (ab : Option Addr) (lb cb : Nat) (ag : Option Addr) (lg cg : Nat) (g B : Nat) (M : Nat → Prop) (W : World) (c k : Nat) (hz8 : B8 zs) (hlb : zs.length = lb) (hlg : gs.length = lg) (hm : lb ≤ 140737488355328)
    (hS : RSrcRd zs gs fail eager ab lb cb ag lg cg g B W (c, k) M) (hB : B ≤ W.heap.size) (hc : c + 17 * zs.length + 16 ≤ 4611686018427387903) (lim : Nat) (hl1 : 1 ≤ lim) (hl2 : lim ≤ 2147483648) :
    Calls Try.prog 23 #[.pointer (some ⟨g, 0, none⟩), .int .i64 size, .int .i64 lim] W (RChPost (RSrcRd zs gs fail eager ab lb cb ag lg cg g B) (srcAll zs gs fail eager size (c, k)) (c, k) lim M W) := by
  have hR := fun sz : Nat => fun (h : sz ≤ 140737488355328) => rsrc_reader zs gs fail eager ab lb cb ag lg cg sz g B hz8 h hlb hlg hm
  unfold srcAll
  split
  · rename_i hsz
    obtain ⟨sz, rfl⟩ : ∃ sz : Nat, size = sz := ⟨size.toNat, by omega⟩
    simp only [Int.toNat_natCast]
    exact rchunks_any g (hR sz (by omega)) (by omega) (by omega) W (c, k) M hB hS lim hl1 hl2 (by simp only; omega)
  · rename_i hsz
    exact rchunks_bad _ (c, k) M (fun W W' h hu => (hR 0 (by omega)).upd h hu (fun i e => e.elim)) g size lim W (fun i hi => ((hR 0 (by omega)).lt hS i hi).2) hS (by omega) hl1

/-- The program's. -/
theorem seqS_any (zs gs : List Int) (fail : Int) (eager : Bool) (size : Int) (g B : Nat) (M : Nat → Prop) (w : World) (c k : Nat) (n : Nat) (hn : 5 ≤ n) (hz8 : B8 zs) (hS : SrcAt w M zs gs fail eager g c k) (hMB : ∀ i, M i → B ≤ i) (hB : B ≤ w.heap.size) (hc : c + 17 * zs.length + 16 ≤ 4611686018427387903) (b1 b2 : Nat) (h1 : w.cell? ⟨b1, 0, none⟩ = some (.iface 27 (.pointer (some ⟨g, 0, none⟩)))) (h2 : w.cell? ⟨b2, 0, none⟩ = some (.int .i64 size)) (hm1 : ¬ M b1) (hm2 : ¬ M b2) :
    SeqW Fence.wide n Try.prog 35 #[.pointer (some ⟨b1, 0, none⟩), .pointer (some ⟨b2, 0, none⟩)] Ck.vs M (CkPr M B b1 b2) (CkD (srcAll zs gs fail eager size (c, k)) (SrcRd zs gs fail eager g B M) M) (CkS (srcAll zs gs fail eager size (c, k)) (c, k) (SrcRd zs gs fail eager g B M) M) w := by
  unfold srcAll
  split
  · rename_i hsz
    obtain ⟨sz, rfl⟩ : ∃ sz : Nat, size = sz := ⟨size.toNat, by omega⟩
    simp only [Int.toNat_natCast]
    exact chunks1_seq (src_reader zs gs fail eager sz g B M hz8 (by omega)) (src_leads g) M (fun _ _ _ h => h.1) n hn w (c, k) b1 b2 (by omega) (by omega) hB ⟨rfl, hS, hMB⟩ h1 h2 hm1 hm2 (by simp only; omega)
  · rename_i hsz
    exact chunks1_bad (c, k) (SrcRd zs gs fail eager g B M) M B (fun W W' S ⟨h1, h2, h3⟩ hu hs => ⟨h1, h2.upd hu (fun i hi e => (hs i e).2 hi), h3⟩) n hn w b1 b2 _ _ size (by omega) ⟨rfl, hS, hMB⟩ h1 h2

end Go.Proofs.Ytcffekhlnidjnaa
