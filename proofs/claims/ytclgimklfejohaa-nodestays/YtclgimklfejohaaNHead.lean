/- The law's live question. -/
import Derived.Test.YtclgimklfejohaaNWith
import Derived.Lib.SlBytesConst
namespace Go.Proofs.Ytclgimklfejohaa
open Go.RowKit

theorem convK (W : World) (K : Nat) (C : Array Value) (n c : Nat) (hK : W.heap.size = K) : (convert 22 22 (.slice (some ⟨K, 0, none⟩) n c)).run Try.prog (W.alloc (.cells C 5)) = .ok (.slice (some ⟨K, 0, none⟩) n c) (W.alloc (.cells C 5 (C.size, C.size + 1))) := by
  subst hK
  exact Lib.run_convert_bytes_const (P := Try.prog) W 22 5 C n c Try.underlying22 Try.underlying5
theorem new_at {W : World} {o : Obj} {K : Nat} (h : W.heap.size = K) : (W.alloc o).heap[K]? = some o := by subst h; exact heap_alloc_new W o
theorem old_at {W : World} {o x : Obj} {k : Nat} (h : W.heap[k]? = some x) : (W.alloc o).heap[k]? = some x := (Below.heap_alloc W o k (lt_of_block h)).trans h
theorem tx_const {W : World} {g : Nat} {x : Int} {T : TypeId} {fz : Nat × Nat} (h : W.heap[g]? = some (.cells #[.int .u8 x] T fz)) (hx : 0 ≤ x ∧ x ≤ 255) : (⟨some ⟨g, 0, none⟩, 1, [x]⟩ : Tx).Ok W := by
  refine ⟨fun i hi => ⟨g, 0, rfl, ?_⟩, fun e => (by cases e), Nat.le_refl _, fun c hc => ?_, by simp⟩
  · have hi0 : i = 0 := by simpa using hi
    subst hi0
    rw [Nat.zero_add, cell_of_row _ _ _ _ _ _ h]
    rfl
  · obtain rfl : c = x := by simpa using hc
    exact hx
theorem tl_const {W : World} {g : Nat} {t u : Tx} {T : TypeId} {fz : Nat × Nat} (h : W.heap[g]? = some (.cells #[t.v, u.v] T fz)) (ht : t.Ok W) (hu : u.Ok W) : (⟨some ⟨g, 0, none⟩, 2, [t, u]⟩ : TL).Ok W := by
  refine ⟨fun i hi => ⟨g, 0, rfl, ?_⟩, fun x hx => ?_, fun e => (by cases e), Nat.le_refl _⟩
  · rw [Nat.zero_add, cell_of_row _ _ _ _ _ _ h]
    match i, hi with
    | 0, _ => rfl
    | 1, _ => rfl
  · rcases List.mem_cons.1 hx with rfl | hx
    · exact ht
    · obtain rfl : x = u := by simpa using hx
      exact hu

set_option maxRecDepth 100000 in
set_option maxHeartbeats 1600000 in
theorem head_any (w : World) : Calls Try.prog 6 #[] w fun e w' => e = .returned (.bool true) ∧ Below w.heap.size w w' := by
  have kc := convK
  obtain ⟨w9, hw9⟩ : ∃ w9, w9 = (((((((((w.alloc (.cells #[.int .u8 98] 5 (1, 2))).alloc (.cells #[.int .u8 100] 5 (1, 2))).alloc (.cells #[.slice (some ⟨w.heap.size, 0, none⟩) 1 1, .slice (some ⟨w.heap.size + 1, 0, none⟩) 1 1] 22)).alloc (.cells #[.int .u8 49] 5 (1, 2))).alloc (.cells #[.int .u8 50] 5 (1, 2))).alloc (.cells #[.slice (some ⟨w.heap.size + 1 + 1 + 1, 0, none⟩) 1 1, .slice (some ⟨w.heap.size + 1 + 1 + 1 + 1, 0, none⟩) 1 1] 22)).alloc (.cells #[.int .i64 0, .slice none 0 0, .int .i64 0, .slice (some ⟨w.heap.size + 1 + 1, 0, none⟩) 2 2, .slice (some ⟨w.heap.size + 1 + 1 + 1 + 1 + 1, 0, none⟩) 2 2, .slice none 0 0] 30)).alloc (.cells #[.int .u8 99] 5 (1, 2))).alloc (.cells #[.int .u8 51] 5 (1, 2))) := ⟨_, rfl⟩
  have H0 : w9.heap[w.heap.size]? = some (.cells #[.int .u8 98] 5 (1, 2)) := by rw [hw9]; exact (old_at (old_at (old_at (old_at (old_at (old_at (old_at (old_at (new_at (by simp))))))))))
  have H1 : w9.heap[w.heap.size + 1]? = some (.cells #[.int .u8 100] 5 (1, 2)) := by rw [hw9]; exact (old_at (old_at (old_at (old_at (old_at (old_at (old_at (new_at (by simp)))))))))
  have H2 : w9.heap[w.heap.size + 1 + 1]? = some (.cells #[.slice (some ⟨w.heap.size, 0, none⟩) 1 1, .slice (some ⟨w.heap.size + 1, 0, none⟩) 1 1] 22) := by rw [hw9]; exact (old_at (old_at (old_at (old_at (old_at (old_at (new_at (by simp))))))))
  have H3 : w9.heap[w.heap.size + 1 + 1 + 1]? = some (.cells #[.int .u8 49] 5 (1, 2)) := by rw [hw9]; exact (old_at (old_at (old_at (old_at (old_at (new_at (by simp)))))))
  have H4 : w9.heap[w.heap.size + 1 + 1 + 1 + 1]? = some (.cells #[.int .u8 50] 5 (1, 2)) := by rw [hw9]; exact (old_at (old_at (old_at (old_at (new_at (by simp))))))
  have H5 : w9.heap[w.heap.size + 1 + 1 + 1 + 1 + 1]? = some (.cells #[.slice (some ⟨w.heap.size + 1 + 1 + 1, 0, none⟩) 1 1, .slice (some ⟨w.heap.size + 1 + 1 + 1 + 1, 0, none⟩) 1 1] 22) := by rw [hw9]; exact (old_at (old_at (old_at (new_at (by simp)))))
  have H7 : w9.heap[w.heap.size + 1 + 1 + 1 + 1 + 1 + 1 + 1]? = some (.cells #[.int .u8 99] 5 (1, 2)) := by rw [hw9]; exact (old_at (new_at (by simp)))
  have H8 : w9.heap[w.heap.size + 1 + 1 + 1 + 1 + 1 + 1 + 1 + 1]? = some (.cells #[.int .u8 51] 5 (1, 2)) := by rw [hw9]; exact (new_at (by simp))
  have z9 : w9.heap.size = w.heap.size + 9 := by rw [hw9]; simp
  have B9 : Hid (Below w.heap.size w w9) := by
    show Below _ _ _
    rw [hw9]
    exact (((((((((Below.refl _ _).alloc (Nat.le_refl _) _).alloc (by simp) _).alloc (by simp; omega) _).alloc (by simp; omega) _).alloc (by simp; omega) _).alloc (by simp; omega) _).alloc (by simp; omega) _).alloc (by simp; omega) _).alloc (by simp; omega) _
  obtain ⟨n, hn⟩ : ∃ n : Nd, n = ⟨0, ⟨none, 0, []⟩, 0, ⟨some ⟨w.heap.size + 1 + 1, 0, none⟩, 2, [⟨some ⟨w.heap.size, 0, none⟩, 1, [98]⟩, ⟨some ⟨w.heap.size + 1, 0, none⟩, 1, [100]⟩]⟩, ⟨some ⟨w.heap.size + 1 + 1 + 1 + 1 + 1, 0, none⟩, 2, [⟨some ⟨w.heap.size + 1 + 1 + 1, 0, none⟩, 1, [49]⟩, ⟨some ⟨w.heap.size + 1 + 1 + 1 + 1, 0, none⟩, 1, [50]⟩]⟩, ⟨none, 0, []⟩⟩ := ⟨_, rfl⟩
  have HO : n.Ok w9 := by
    rw [hn]
    exact ⟨Tx.nil_ok _, tl_const H2 (tx_const H0 (by omega)) (tx_const H1 (by omega)), tl_const H5 (tx_const H3 (by omega)) (tx_const H4 (by omega)), IL.nil_ok _, by simp, by simp, by simp⟩
  have HWI := hide (with_any n ⟨some ⟨w.heap.size + 1 + 1 + 1 + 1 + 1 + 1 + 1, 0, none⟩, 1, [99]⟩ ⟨some ⟨w.heap.size + 1 + 1 + 1 + 1 + 1 + 1 + 1 + 1, 0, none⟩, 1, [51]⟩ w9 HO (tx_const H7 (by omega)) (tx_const H8 (by omega)) (by rw [hn]; simp) (by rw [hn]; simp))
  have HP : Hid ((n.p.with_ [99] [51]).ks = [[98], [99], [100]] ∧ (n.p.with_ [99] [51]).vs.length = 3) := by
    show _ ∧ _
    rw [hn]
    exact ⟨rfl, rfl⟩
  rw [hn] at HWI
  simp only [Nd.v, Tx.v, TL.v, IL.v, List.length_cons, List.length_nil, Nat.zero_add] at HWI
  rw [← hn] at HWI
  have HW9 := hide hw9
  clear hw9 H0 H1 H2 H3 H4 H5 H7 H8 HO hn z9
  go_enter Try.func6, Try.ntmps6
  go_wp2_with fail
  rw [← HW9.out]
  refine HWI.out.mono ?_
  rintro e w10 ⟨m, rfl, hp, hown, hb⟩
  have HPK : Hid (m.ks.p = [[98], [99], [100]]) := by have := congrArg NP.ks hp; rw [HP.out.1] at this; exact this
  have HLV : Hid (m.vs.L.length = 3) := by have := congrArg NP.vs hp; show _ = _; rw [← TL.p_len]; exact (congrArg List.length this).trans HP.out.2
  have HLK : Hid (m.ks.L.length = 3) := by show _ = _; rw [← TL.p_len, HPK.out]; rfl
  have B10 := hide (B9.out.trans (hb.mono B9.out.size))
  have HMO := hide hown.ok
  clear hp hown hb HWI HW9 HP
  obtain ⟨lv, ⟨ha, hc, hs⟩, ri, ⟨ka, kc', K⟩, ⟨va, vc, V⟩, ⟨ca, cc, C⟩⟩ := m
  simp only [Nd.v, Tx.v, TL.v, IL.v] at HLK HLV ⊢
  rw [HLK.out, HLV.out]
  have HFI : Hid (∀ W, Below w10.heap.size w10 W → (⟨some ⟨w10.heap.size + 1, 0, none⟩, 1, [99]⟩ : Tx).Ok W → Calls Try.prog 25 #[.agg #[.int .i64 lv, .slice ha hs.length hc, .int .i64 ri, .slice ka 3 kc', .slice va 3 vc, .slice ca C.length cc], .slice (some ⟨w10.heap.size + 1, 0, none⟩) 1 1] W fun e w' => e = .returned (.tuple #[.int .i64 1, .bool true]) ∧ Below W.heap.size W w') := fun W h hk => by
    have h1 := find_any ⟨lv, ⟨ha, hc, hs⟩, ri, ⟨ka, kc', K⟩, ⟨va, vc, V⟩, ⟨ca, cc, C⟩⟩ ⟨some ⟨w10.heap.size + 1, 0, none⟩, 1, [99]⟩ W (HMO.out.below h) hk
    rw [HPK.out] at h1
    simp only [Nd.v, Tx.v, TL.v, IL.v, HLK.out, HLV.out] at h1
    exact h1
  go_wp2_with fail
  refine (HFI.out _ (((Below.refl _ _).alloc (Nat.le_refl _) _).alloc (by simp) _) (tx_const (new_at (by simp)) (by omega))).mono ?_
  rintro e w11 ⟨rfl, b11⟩
  have c3 : w11.cell? ⟨w10.heap.size, 3, none⟩ = some (.slice ka 3 kc') := (b11.cell (p := ⟨w10.heap.size, 3, none⟩) (by simp; omega)).trans (by rw [cell_of_row _ _ _ _ _ _ (old_at (new_at rfl))]; rfl)
  have c4 : w11.cell? ⟨w10.heap.size, 4, none⟩ = some (.slice va 3 vc) := (b11.cell (p := ⟨w10.heap.size, 4, none⟩) (by simp; omega)).trans (by rw [cell_of_row _ _ _ _ _ _ (old_at (new_at rfl))]; rfl)
  have B11 : Hid (Below w.heap.size w w11) := B10.out.trans (((((Below.refl w10.heap.size w10).alloc (Nat.le_refl _) _).alloc (by simp) _).trans (b11.mono (by simp; omega))).mono B10.out.size)
  clear b11 HFI
  go_wp2_with fail
  go_ret
  exact ⟨rfl, B11.out⟩

end Go.Proofs.Ytclgimklfejohaa
