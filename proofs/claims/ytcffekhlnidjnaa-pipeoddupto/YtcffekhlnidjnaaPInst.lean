/- A source is a reader, a sink a writer; Copy from the one into the other. -/
import Derived.Test.YtcffekhlnidjnaaPCopy2
namespace Go.Proofs.Ytcffekhlnidjnaa
open Go.RowKit Go.Shelf

/-- What a source tells: called c times so far, k bytes given. -/
def srcRd (zs gs : List Int) (fail : Int) (eager : Bool) (size : Nat) (s : Nat × Nat) : Int × Int × List Int × (Nat × Nat) :=
  ((srcN zs gs fail (s.1 + 1) s.2 size : Nat), srcErr zs fail eager (s.1 + 1) s.2 (srcN zs gs fail (s.1 + 1) s.2 size), (zs.drop s.2).take (srcN zs gs fail (s.1 + 1) s.2 size), (s.1 + 1, s.2 + srcN zs gs fail (s.1 + 1) s.2 size))
theorem srcN_le (zs gs : List Int) (fail : Int) (c k size : Nat) : srcN zs gs fail c k size ≤ zs.length - k ∧ srcN zs gs fail c k size ≤ size := by
  have := mostN_le gs c (zs.length - k)
  unfold srcN
  split
  · omega
  · split <;> omega
def SrcRd (zs gs : List Int) (fail : Int) (eager : Bool) (g B : Nat) (M0 : Nat → Prop) (W : World) (s : Nat × Nat) (M : Nat → Prop) : Prop := M = M0 ∧ SrcAt W M0 zs gs fail eager g s.1 s.2 ∧ ∀ i, M0 i → B ≤ i
theorem SrcAt.upd {W W' : World} {M S : Nat → Prop} {zs gs : List Int} {fail : Int} {eager : Bool} {g c k : Nat} (h : SrcAt W M zs gs fail eager g c k) (hu : Upd S W W') (hs : ∀ i, M i → ¬ S i) : SrcAt W' M zs gs fail eager g c k := by
  obtain ⟨am, cm, al, cl, h⟩ := h
  exact ⟨am, cm, al, cl, h.upd hu hs⟩
theorem SrcAt.lt {W : World} {M : Nat → Prop} {zs gs : List Int} {fail : Int} {eager : Bool} {g c k : Nat} (h : SrcAt W M zs gs fail eager g c k) : (∀ i, M i → i < W.heap.size) ∧ M g ∧ k ≤ zs.length := by
  obtain ⟨am, cm, al, cl, h⟩ := h
  exact ⟨h.lt, h.mg, h.kle⟩

theorem src_reader (zs gs : List Int) (fail : Int) (eager : Bool) (size g B : Nat) (M0 : Nat → Prop) (hz8 : B8 zs) (hsz : size ≤ 140737488355328) :
    Reader size (srcRd zs gs fail eager size) Prod.fst (fun s => zs.length - s.2) 14 (.pointer (some ⟨g, 0, none⟩)) B (SrcRd zs gs fail eager g B M0) where
  upd := fun ⟨h1, h2, h3⟩ hu hs => ⟨h1, h2.upd hu (fun i hi e => (hs i e).2 (h1 ▸ hi)), h3⟩
  lt := fun ⟨h1, h2, h3⟩ i hi => by subst h1; exact ⟨h3 i hi, h2.lt.1 i hi⟩
  fit := fun s h0 h1 => by
    have := srcN_le zs gs fail (s.1 + 1) s.2 size
    simp only [srcRd, List.length_take, List.length_drop, Int.toNat_natCast]
    omega
  len := fun s => by
    have := srcN_le zs gs fail (s.1 + 1) s.2 size
    simp only [srcRd, List.length_take, List.length_drop]
    omega
  b8 := fun s => (hz8.drop _).take _
  cnt1 := fun s => rfl
  dec := fun s _ h1 _ => by
    have := srcN_le zs gs fail (s.1 + 1) s.2 size
    simp only [srcRd] at h1 ⊢
    omega
  mle := fun s => by simp only [srcRd]; omega
  read := fun W s M r cur ⟨hM, hR, hB⟩ hc hroom _ hr hBr => by
    subst hM
    obtain ⟨c, k⟩ := s
    simp only at hR hc
    have hg : r ≠ g := fun e => hr (e ▸ hR.lt.2.1)
    by_cases hf : failsAt fail (c + 1) = true
    · have hn : srcN zs gs fail (c + 1) k size = 0 := by unfold srcN; rw [if_pos hf]
      have he : srcErr zs fail eager (c + 1) k 0 = 32 := by unfold srcErr; rw [if_pos hf]
      refine (read_broken (.slice (some ⟨r, 0, none⟩) size size) hR hc hf).mono fun e W' ⟨h1, h2, h3⟩ => ⟨M, ?_, ?_, ?_, h3.mono (fun i _ e => .inl (e ▸ hR.lt.2.1)), fun i hi => .inl hi, hr⟩
      · simp only [srcRd, hn, he]; exact h1
      · simp only [srcRd, hn]; exact ⟨rfl, h2, hB⟩
      · simp only [srcRd, hn, List.take_zero, List.map_nil, List.nil_append, List.length_nil, List.drop_zero]; exact hroom.upd h3 hg
    · have hf' : failsAt fail (c + 1) = false := by simpa using hf
      by_cases hk : k = zs.length
      · have hn : srcN zs gs fail (c + 1) k size = 0 := by unfold srcN; rw [if_neg hf, if_pos hk]
        have he : srcErr zs fail eager (c + 1) k 0 = 31 := by unfold srcErr; rw [if_neg hf, if_pos hk]
        refine (read_end (.slice (some ⟨r, 0, none⟩) size size) hR hc hf' hk).mono fun e W' ⟨h1, h2, h3⟩ => ⟨M, ?_, ?_, ?_, h3.mono (fun i _ e => .inl (e ▸ hR.lt.2.1)), fun i hi => .inl hi, hr⟩
        · simp only [srcRd, hn, he]; exact h1
        · simp only [srcRd, hn]; exact ⟨rfl, h2, hB⟩
        · simp only [srcRd, hn, List.take_zero, List.map_nil, List.nil_append, List.length_nil, List.drop_zero]; exact hroom.upd h3 hg
      · have hn : srcN zs gs fail (c + 1) k size = min size (mostN gs (c + 1) (zs.length - k)) := by unfold srcN; rw [if_neg hf, if_neg hk]
        have hle := srcN_le zs gs fail (c + 1) k size
        have he : srcErr zs fail eager (c + 1) k (srcN zs gs fail (c + 1) k size) = if eager = true ∧ k + srcN zs gs fail (c + 1) k size = zs.length then 31 else 0 := by
          unfold srcErr; rw [if_neg hf, if_neg hk]
        have hl : ((zs.drop k).take (srcN zs gs fail (c + 1) k size)).length = srcN zs gs fail (c + 1) k size := by rw [List.length_take, List.length_drop]; omega
        refine (read_go (some ⟨r, 0, none⟩) size size r cur hR hc hf' hk hroom hr (by omega) _ hn).mono fun e W' ⟨h1, h2, h3, h4⟩ => ⟨M, ?_, ⟨rfl, h2, hB⟩, ?_, h4.mono (fun i _ e => e.elim (fun (h : i = g) => .inl (h ▸ hR.lt.2.1)) .inr), fun i hi => .inl hi, hr⟩
        · simp only [srcRd]; rw [he]; exact h1
        · simp only [srcRd]; rw [hl]; exact h3

/-- What a sink tells: handed c times so far, it has zs. -/
def snkWf (ts : List Int) (fail : Int) (t : Nat × List Int) (ys : List Int) : Int × Int × (Nat × List Int) :=
  if failsAt fail (t.1 + 1) then (0, 32, (t.1 + 1, t.2)) else ((mostN ts (t.1 + 1) ys.length : Nat), 0, (t.1 + 1, t.2 ++ ys.take (mostN ts (t.1 + 1) ys.length)))
def SnkWd (ts : List Int) (fail : Int) (g B : Nat) (W : World) (t : Nat × List Int) (M : Nat → Prop) : Prop := SnkAt W B M ts fail g t.1 t.2
theorem SnkAt.mg {W : World} {B : Nat} {M : Nat → Prop} {ts : List Int} {fail : Int} {g c : Nat} {zs : List Int} (h : SnkAt W B M ts fail g c zs) : M g := by
  obtain ⟨am, cm, at', ct, h⟩ := h
  exact h.mg
theorem snk_writer (ts : List Int) (fail : Int) (g B : Nat) :
    Writer (snkWf ts fail) Prod.fst (fun t => t.2.length) 19 (.pointer (some ⟨g, 0, none⟩)) B (SnkWd ts fail g B) where
  upd := fun h hu hs => SnkAt.upd h hu (fun i hi e => (hs i e).2 hi)
  lt := fun h => SnkAt.lt h
  cnt1 := fun t b => by unfold snkWf; split <;> rfl
  szle := fun t b => by
    unfold snkWf
    split
    · exact Nat.le_add_right _ _
    · simp only [List.length_append, List.length_take]; omega
  szin := fun t b => by
    unfold snkWf
    split
    · intro _ _; simp
    · intro _ _; simp only [List.length_append, List.length_take, Int.toNat_natCast]; omega
  write := fun W t M b o len pc ys h hc hl h0 hpc hr hM hz hB => by
    obtain ⟨c, zs⟩ := t
    simp only at hc hz
    have h' : SnkAt W B M ts fail g c zs := h
    by_cases hf : failsAt fail (c + 1) = true
    · refine (write_broken (.slice (some ⟨b, o, none⟩) len pc) h' hc hf).mono fun e W' ⟨h1, h2, h3⟩ => ⟨M, ?_, ?_, h3.mono (fun i _ e => e ▸ h'.mg), fun i hi => .inl hi⟩
      · simp only [snkWf, hf, if_true]; exact h1
      · simp only [snkWf, hf, if_true]; exact h2
    · have hf' : failsAt fail (c + 1) = false := by simpa using hf
      refine (write_go (some ⟨b, o, none⟩) len pc ys (mostN ts (c + 1) len) h' hc hf' hl hpc (fun e => by cases e) hr (fun x hx _ e => by cases hx; simp only at e; subst e; exact hM h'.mg) hz hB rfl).mono fun e W' ⟨h1, M', h2, h3, h4⟩ => ⟨M', ?_, ?_, h3, h4⟩
      · simp only [snkWf, hf', hl]; exact h1
      · simp only [snkWf, hf', hl]; exact h2

theorem src_leads (g : Nat) : Leads "Read" 27 (.pointer (some ⟨g, 0, none⟩)) 14 (.pointer (some ⟨g, 0, none⟩)) :=
  ⟨fun w => by kernel_rfl, enters_of Try.func14 (by kernel_rfl) rfl⟩
theorem snk_leads (g : Nat) : Leads "Write" 31 (.pointer (some ⟨g, 0, none⟩)) 19 (.pointer (some ⟨g, 0, none⟩)) :=
  ⟨fun w => by kernel_rfl, enters_of Try.func19 (by kernel_rfl) rfl⟩

theorem tb_le {σ : Type} {step : σ → List Int × Int × σ} {m : σ → Nat} (h : ∀ s, (step s).1.length + m (step s).2.2 ≤ m s) : ∀ (fu : Nat) (s : σ) (idle : Nat), tb (chunkL step fu s idle) ≤ m s
  | 0, s, idle => Nat.zero_le _
  | fu + 1, s, idle => by
    have h1 := h s
    have ih := fun i => tb_le h fu (step s).2.2 i
    rw [chunkL]
    split
    · split
      · have := ih (idle + 1); omega
      · simp [tb]
    · rw [tb]
      split
      · have := ih 0; omega
      · simp only [tb]; omega
theorem ck_len {σ : Type} {step : σ → List Int × Int × σ} {size : Nat} (h : ∀ s, (step s).1.length ≤ size) : ∀ (fu : Nat) (s : σ) (idle : Nat), ∀ c ∈ chunkL step fu s idle, c.1.length ≤ size
  | 0, s, idle => fun c hc => by cases hc
  | fu + 1, s, idle => fun c hc => by
    rw [chunkL] at hc
    split at hc
    · split at hc
      · exact ck_len h fu _ _ c hc
      · rw [List.mem_singleton] at hc
        subst hc
        exact Nat.zero_le _
    · rcases List.mem_cons.1 hc with rfl | hc
      · exact h s
      · split at hc
        · exact ck_len h fu _ _ c hc
        · cases hc

/-- All that comes of a source, of whatever size it is asked. -/
def srcAll (zs gs : List Int) (fail : Int) (eager : Bool) (size : Int) (s : Nat × Nat) : List (List Int × Int × (Nat × Nat)) :=
  if 1 ≤ size ∧ size ≤ 4096 then chunkA size.toNat (srcRd zs gs fail eager size.toNat) (fun s => zs.length - s.2) s else [([], 1, s)]
theorem src_stp (zs gs : List Int) (fail : Int) (eager : Bool) (size : Nat) (s : Nat × Nat) : (stp size (srcRd zs gs fail eager size) s).1.length + (zs.length - (stp size (srcRd zs gs fail eager size) s).2.2.2) ≤ zs.length - s.2 := by
  have := srcN_le zs gs fail (s.1 + 1) s.2 size
  unfold stp
  split
  · simp only [srcRd, List.length_nil]; omega
  · simp only [srcRd, List.length_take, List.length_drop]; omega
theorem srcAll_tb (zs gs : List Int) (fail : Int) (eager : Bool) (size : Int) (s : Nat × Nat) : tb (srcAll zs gs fail eager size s) ≤ zs.length - s.2 := by
  unfold srcAll
  split
  · exact tb_le (m := fun s : Nat × Nat => zs.length - s.2) (src_stp zs gs fail eager _) _ _ _
  · simp [tb]
theorem srcAll_len (zs gs : List Int) (fail : Int) (eager : Bool) (size : Int) (s : Nat × Nat) (hz8 : B8 zs) : ∀ c ∈ srcAll zs gs fail eager size s, c.1.length ≤ 4096 := by
  unfold srcAll
  split
  · rename_i h
    have hR := src_reader zs gs fail eager size.toNat 0 0 (fun _ => False) hz8 (by omega)
    intro c hc
    have := ck_len (stp_len hR) _ _ _ c hc
    omega
  · intro c hc
    rw [List.mem_singleton] at hc
    subst hc
    exact Nat.zero_le _

/-- From a source into a sink. -/
theorem copySS_any (zs gs ts : List Int) (fail fail2 : Int) (eager : Bool) (size : Int) (g g2 B : Nat) (M M2 : Nat → Prop) (W : World) (c k c2 : Nat) (ys : List Int) (hz8 : B8 zs) (hS : SrcAt W M zs gs fail eager g c k) (hMB : ∀ i, M i → B ≤ i) (hK : SnkAt W B M2 ts fail2 g2 c2 ys) (hdis : ∀ i, M i → ¬ M2 i) (hB : B ≤ W.heap.size)
    (hc : c + 17 * zs.length + 16 ≤ 4611686018427387903) (hc2 : c2 + 33 * zs.length ≤ 4611686018427300000) (hz : ys.length + (zs.length - k) ≤ 140737488355328) :
    Calls Try.prog 12 #[.iface 31 (.pointer (some ⟨g2, 0, none⟩)), .iface 27 (.pointer (some ⟨g, 0, none⟩)), .int .i64 size] W fun e W' => CopyPost (SrcRd zs gs fail eager g B M) (SnkWd ts fail2 g2 B) (copyL (handA (snkWf ts fail2)) (srcAll zs gs fail eager size (c, k)) (c, k) (c2, ys) 0) M M2 W e W' := by
  have htb := srcAll_tb zs gs fail eager size (c, k)
  have hlt := hS.lt.1
  simp only at htb
  refine callsIn_wide.1 (copy_in (snk_writer ts fail2 g2 B) (snk_leads g2) (SrcRd zs gs fail eager g B M) (fun W W' s N S ⟨h1, h2, h3⟩ hu hs => ⟨h1, h2.upd hu (fun i hi e => (hs i e).2 (h1 ▸ hi)), h3⟩) M M2 7 (Nat.le_refl _) size W (c, k) (c2, ys) _ (fun i hi => ⟨hMB i hi, hlt i hi⟩) hdis hB ⟨rfl, hS, hMB⟩ hK (srcAll_len zs gs fail eager size (c, k) hz8) (by simp only; omega) (by simp only; omega) ?_)
  intro w b1 b2 hu h1 h2 hb1 hb2
  unfold srcAll
  have hS' : SrcAt w M zs gs fail eager g c k := hS.upd hu (fun i _ e => e)
  split
  · rename_i hsz
    obtain ⟨sz, rfl⟩ : ∃ sz : Nat, size = sz := ⟨size.toNat, by omega⟩
    simp only [Int.toNat_natCast]
    exact chunks1_seq (src_reader zs gs fail eager sz g B M hz8 (by omega)) (src_leads g) M (fun _ _ _ h => h.1) (7 - 1) (by omega) w (c, k) b1 b2 (by omega) (by omega) (Nat.le_trans hB hu.size) ⟨rfl, hS', hMB⟩ h1 h2 (fun e => by have := hlt _ e; omega) (fun e => by have := hlt _ e; omega) (by simp only; omega)
  · rename_i hsz
    exact chunks1_bad (c, k) (SrcRd zs gs fail eager g B M) M B (fun W W' S ⟨h1, h2, h3⟩ hu hs => ⟨h1, h2.upd hu (fun i hi e => (hs i e).2 hi), h3⟩) (7 - 1) (by omega) w b1 b2 _ _ size (by omega) ⟨rfl, hS', hMB⟩ h1 h2


theorem SnkAt.mono {W : World} {B B' : Nat} {M : Nat → Prop} {ts : List Int} {fail : Int} {g c : Nat} {zs : List Int} (h : SnkAt W B M ts fail g c zs) (hB : B' ≤ B) : SnkAt W B' M ts fail g c zs := by
  obtain ⟨am, cm, at', ct, h⟩ := h
  exact ⟨am, cm, at', ct, h.blk, h.rm, owns_mono h.own hB, h.mm, h.mv, h.mg, fun i hi => ⟨Nat.le_trans hB (h.lt i hi).1, (h.lt i hi).2⟩⟩

/-! ### lives -/
theorem two_row (W : World) (x y : Int) : Row (W.alloc (.cells #[.int .u8 x, .int .u8 y] 5)) .u8 (some ⟨W.heap.size, 0, none⟩) [x, y] := by
  intro i hi
  refine ⟨_, _, rfl, ?_⟩
  rw [cell_of_row _ _ _ _ _ _ (World.alloc_heap_new W _)]
  match i, hi with
  | 0, _ => rfl
  | 1, _ => rfl
theorem lives_copy : copyL (handA (snkWf [] 0)) (srcAll [7, 8] [] 0 false 5 (0, 0)) (0, 0) (0, []) 0 = (2, 0, (2, 2), (1, [7, 8])) := by decide

set_option maxRecDepth 100000 in
set_option maxHeartbeats 800000 in
theorem lives_any (w : World) :
    Calls Try.prog 9 #[] w fun e w' => e = .returned (.bool true) ∧ Below w.heap.size w w' := by
  have HN := hide (newSource_any (some ⟨w.heap.size, 0, none⟩) none 2 2 0 0 [7, 8] [] 0 false (w.alloc (.cells #[.int .u8 7, .int .u8 8] 5)) rfl rfl (by omega) (by omega) (fun h => by cases h) (fun _ => ⟨rfl, rfl⟩) (two_row w 7 8) (row_nil _ _ _))
  go_enter Try.func9, Try.ntmps9
  go_wp2_with fail
  refine HN.out.mono ?_
  rintro e w1 ⟨g, M, rfl, hS, hM, hb1⟩
  have hb1' := hide (below_lit' hb1)
  replace hS := hide hS
  replace hM := hide hM
  clear hb1 HN
  go_wp2_with fail
  refine (newSink_any none 0 0 [] 0 w1 rfl (by omega) (fun _ => ⟨rfl, rfl⟩) (row_nil _ _ _)).mono ?_
  rintro e w2 ⟨g2, M2, rfl, hK, hb2⟩
  have hlt := hS.out.lt.1
  have hK2 := hK.lt
  have HC := hide (copySS_any [7, 8] [] [] 0 0 false 5 g g2 w.heap.size M M2 w2 0 0 0 [] (fun x hx => by simp at hx; omega) (hS.out.upd (Upd.of_below hb2 Noth) (fun i _ e => e)) (fun i hi => by have := hM.out i hi; simp at this; omega) (hK.mono hb1'.out.size) (fun i hi e => by have := hlt i hi; have := (hK2 i e).1; omega) (by have := hb1'.out.size; have := hb2.size; omega) (by simp) (by simp) (by simp))
  rw [lives_copy] at HC
  have HB2 := hide (hb1'.out.trans (hb2.mono hb1'.out.size))
  have HMw : Hid (∀ i, M i ∨ M2 i → w.heap.size ≤ i) := hide (fun i hi => hi.elim (fun h => by have := hM.out i h; simp at this; omega) (fun h => by have := (hK2 i h).1; have := hb1'.out.size; omega))
  clear hK hK2 hlt hb2
  go_wp2_with fail
  refine HC.out.mono ?_
  rintro e w3 ⟨rfl, _, ⟨M3, hK3, _⟩, hu3⟩
  have HB3 := hide (HB2.out.trans (hu3.below HB2.out.size (fun k hk e => by have := HMw.out k e; omega)))
  have hK3' : SnkAt w3 w.heap.size M3 [] 0 g2 1 [7, 8] := hK3
  have HBY := hide (sbytes_any hK3' (by simp))
  clear hK3 hK3' hu3 HC
  go_wp2_with fail
  refine HBY.out.mono ?_
  rintro e w4 ⟨v, rfl, hv4, hb4⟩
  obtain ⟨a4, c4, rfl, _, _, _⟩ := hv4.sliceN (n := 2) rfl
  have hr4 := hv4.row
  obtain ⟨b, o, rfl, hcell⟩ := hr4 1 (by simp)
  have hcell' : w4.cell? ⟨b, o + 1, none⟩ = some (.int .u8 8) := hcell
  have HB4 := hide (HB3.out.trans (hb4.mono HB3.out.size))
  clear hv4 hr4 hb4 hcell HBY
  go_wp2_with fail
  go_ret
  exact ⟨rfl, HB4.out⟩

end Go.Proofs.Ytcffekhlnidjnaa
