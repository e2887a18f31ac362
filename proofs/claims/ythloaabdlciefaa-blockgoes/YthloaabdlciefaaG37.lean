/- The law's own helpers: lives; copies of entries. -/
import Derived.Test.YthloaabdlciefaaG36
import Derived.Test.YthloaabdlciefaaG32
import Derived.Lib.SlBytesConst
namespace Go.Proofs.Ythloaabdlciefaa
open Go.RowKit

theorem fL_same {C L : List Ent} (hl : C.length = L.length) (h : ∀ i (h : i < C.length) (h' : i < L.length), C[i].ks = L[i].ks ∧ C[i].vs = L[i].vs) : fL C = fL L := by
  funext i
  unfold fL
  by_cases hi : i < L.length
  · have hi' : i < C.length := by omega
    rw [List.getElem?_eq_getElem hi, List.getElem?_eq_getElem hi', List.getElem?_eq_getElem (show i - 1 < L.length by omega), List.getElem?_eq_getElem (show i - 1 < C.length by omega)]
    simp only [(h i hi' hi).1, (h i hi' hi).2, (h (i - 1) (by omega) (by omega)).1]
  · rw [show C[i]? = none from List.getElem?_eq_none (by omega), show L[i]? = none from List.getElem?_eq_none (by omega)]
theorem kvs_same {C L : List Ent} (hl : C.length = L.length) (h : ∀ i (h : i < C.length) (h' : i < L.length), C[i].ks = L[i].ks ∧ C[i].vs = L[i].vs) : kvs C = kvs L := by
  apply List.ext_getElem
  · rw [kvs_len, kvs_len, hl]
  · intro i h1 h2
    rw [kvs_len] at h1 h2
    have := h i h1 h2
    simp [kvs, this.1, this.2]
theorem Cpd.ens {W W0 : World} {N g : Nat} {C L : List Ent} (h : Cpd W N g C L) (ok : ∀ i (h : i < L.length), L[i].Ok W0) : Ens W g 0 C := by
  refine ⟨fun i hi => by rw [Nat.zero_add]; exact h.at0 i hi, fun i hi => by rw [Nat.zero_add]; exact h.at1 i hi, fun i hi => ?_⟩
  have hi' : i < L.length := by have := h.len; omega
  have e := h.each i hi hi'
  have o := ok i hi'
  obtain ⟨gk, a1, a2, _⟩ := e.k
  obtain ⟨gv, b1, b2, _⟩ := e.v
  exact ⟨by rw [a1, e.ks]; exact a2.row, by rw [b1, e.vs]; exact b2.row, (fun h => by rw [a1] at h; cases h), (fun h => by rw [b1] at h; cases h), by rw [e.ks, e.kc]; omega, by rw [e.vs, e.vc]; omega, by rw [e.ks]; exact o.k8, by rw [e.vs]; exact o.v8, by rw [e.ks]; exact o.zk, by rw [e.vs]; exact o.zv⟩
theorem Cpd.fL {W : World} {N g : Nat} {C L : List Ent} (h : Cpd W N g C L) : fL C = Go.Proofs.Ythloaabdlciefaa.fL L := fL_same h.len fun i hi hi' => ⟨(h.each i hi hi').ks, (h.each i hi hi').vs⟩
theorem Cpd.kvs {W : World} {N g : Nat} {C L : List Ent} (h : Cpd W N g C L) : kvs C = Go.Proofs.Ythloaabdlciefaa.kvs L := kvs_same h.len fun i hi hi' => ⟨(h.each i hi hi').ks, (h.each i hi hi').vs⟩
theorem bldE_same {C L : List Ent} (hl : C.length = L.length) (hf : fL C = fL L) {n : Nat} {r : Int} (h : bldE C n r) : bldE L n r := by
  unfold bldE at h ⊢
  rw [hl, hf] at h
  exact h
theorem bldL_same {C L : List Ent} (hk : kvs C = kvs L) (r : Int) : bldL C r = bldL L r := by unfold bldL; rw [hk]

/-- The one entry of lives. -/
def livesL (N : Nat) : List Ent := [⟨some ⟨N, 0, none⟩, 1, [97], none, 0, []⟩]
theorem lives_bld (N : Nat) {n : Nat} {r : Int} (h : bldE (livesL N) n r) : r = 0 ∧ (bldL (livesL N) r).length = 7 := by
  have h0 : bldE (livesL N) 0 0 := by
    unfold bldE
    rw [if_neg (by simp [livesL])]
    refine .inl ⟨fun i hi => ?_, rfl, rfl⟩
    have : i = 0 := by simp [livesL] at hi; exact hi
    subst this
    simp [fL, livesL, chkE, keyE, valE]
  obtain ⟨_, rfl⟩ := bldE.one h h0
  refine ⟨rfl, ?_⟩
  unfold bldL
  rw [if_pos rfl, show kvs (livesL N) = [([97], [])] from rfl]
  decide
theorem conv1 (w : World) (C : Array Value) (n c : Nat) : (convert 23 23 (.slice (some ⟨w.heap.size, 0, none⟩) n c)).run Try.prog (w.alloc (.cells C 5)) = .ok (.slice (some ⟨w.heap.size, 0, none⟩) n c) (w.alloc (.cells C 5 (C.size, C.size + 1))) :=
  Lib.run_convert_bytes_const (P := Try.prog) w 23 5 C n c Try.underlying23 Try.underlying5
theorem lives_ens (w : World) : Ens ((w.alloc (.cells #[.int .u8 97] 5 (1, 2))).alloc (.cells #[.slice (some ⟨w.heap.size, 0, none⟩) 1 1, .slice none 0 0] 25)) (w.heap.size + 1) 0 (livesL w.heap.size) := by
  have hnew := heap_alloc_new (w.alloc (.cells #[.int .u8 97] 5 (1, 2))) (.cells #[.slice (some ⟨w.heap.size, 0, none⟩) 1 1, .slice none 0 0] 25)
  rw [World.size_alloc] at hnew
  refine ⟨fun i hi => ?_, fun i hi => ?_, fun i hi => ?_⟩
  · obtain rfl : i = 0 := by simp [livesL] at hi; exact hi
    rw [cell_of_row _ _ _ _ _ _ hnew]; rfl
  · obtain rfl : i = 0 := by simp [livesL] at hi; exact hi
    rw [cell_of_row _ _ _ _ _ _ hnew]; rfl
  · obtain rfl : i = 0 := by simp [livesL] at hi; exact hi
    refine ⟨?_, row_nil _ _ _, (fun h => by cases h), (fun _ => ⟨rfl, rfl⟩), by simp [livesL], by simp [livesL], ?_, B8.nil, by simp [livesL], by simp [livesL]⟩
    · refine Row.alloc (w := w.alloc (.cells #[.int .u8 97] 5 (1, 2))) ?_ _
      intro i hi
      refine ⟨w.heap.size, 0, rfl, ?_⟩
      rw [Nat.zero_add, cell_of_row _ _ _ _ _ _ (heap_alloc_new w _)]
      have hi' : i < 1 := hi
      obtain rfl : i = 0 := by omega
      rfl
    · intro c hc
      have : c = 97 := by simpa [livesL] using hc
      omega

set_option maxRecDepth 100000 in
set_option maxHeartbeats 800000 in
theorem lives_any (w : World) :
    Calls Try.prog 9 #[] w fun e w' => e = .returned (.bool true) ∧ Below w.heap.size w w' := by
  have HB := hide (build_any (some ⟨w.heap.size + 1, 0, none⟩) (w.heap.size + 1) 0 1 1 (livesL w.heap.size) _ rfl (by omega) (fun _ => rfl) (lives_ens w))
  have kc := conv1
  have hbb : Hid (Below w.heap.size w ((w.alloc (.cells #[.int .u8 97] 5 (1, 2))).alloc (.cells #[.slice (some ⟨w.heap.size, 0, none⟩) 1 1, .slice none 0 0] 25))) := ((Below.refl _ _).alloc (Nat.le_refl _) _).alloc (by simp) _
  go_enter Try.func9, Try.ntmps9
  go_wp2_with fail
  refine HB.out.mono ?_
  rintro e w1 ⟨u, n, r, rfl, hE, hO, hb⟩
  obtain ⟨rfl, hl⟩ := lives_bld _ hE
  obtain ⟨a1, c1, rfl, _⟩ := hO.sliceN hl
  have HF := hide (hbb.out.trans (hb.mono hbb.out.size))
  clear hE hO hb hl
  go_wp2_with fail
  go_ret
  exact ⟨rfl, HF.out⟩

end Go.Proofs.Ythloaabdlciefaa
