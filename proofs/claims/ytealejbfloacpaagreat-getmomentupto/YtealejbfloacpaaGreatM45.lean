/- Texts of one's own. -/
import Derived.Test.YtealejbfloacpaaGreatM28
import Derived.Test.YtealejbfloacpaaGreatM31
import Derived.Test.YtealejbfloacpaaGreatM43
namespace Go.Proofs.YtealejbfloacpaaGreat
open Go.RowKit
set_option maxRecDepth 100000
def sndB (s : AS) (nd lf inn fl bk : Int) : Bool := match s.unw.look nd lf inn fl bk with | .inl _ => false | .inr _ => true
section
variable {W : World} {A g c : Nat} {M D : Nat → Prop} {nodes root : Int} {L : List RS}
def unwR (L : List RS) (i : Nat) : List RS := L.mapIdx fun j s => if j < i then ⟨0, s.n⟩ else s
theorem unwR_len (L : List RS) (i : Nat) : (unwR L i).length = L.length := by unfold unwR; simp
theorem unwR_zero (L : List RS) : unwR L 0 = L := by
 refine List.ext_getElem (unwR_len L 0) fun j h1 h2 => ?_
 simp [unwR]
theorem unwR_all (L : List RS) : ndsR (unwR L L.length) = (ndsR L).map fun x => (0, x.2) := by
 refine List.ext_getElem (by simp [ndsR, unwR]) fun j h1 h2 => ?_
 have hj : j < L.length := by simpa [ndsR] using h2
 simp [ndsR, unwR, hj]
theorem unwR_step (L : List RS) {i : Nat} (hi : i < L.length) : (unwR L i).set i ⟨0, ((unwR L i)[i]'(by rw [unwR_len]; exact hi)).n⟩ = unwR L (i + 1) := by
 refine List.ext_getElem (by rw [List.length_set, unwR_len, unwR_len]) fun j h1 h2 => ?_
 rw [List.length_set, unwR_len] at h1
 by_cases hij : i = j
 ·subst hij
  rw [List.getElem_set_self]
  simp [unwR]
 ·rw [List.getElem_set_ne hij]
  simp only [unwR, List.getElem_mapIdx]
  by_cases hj : j < i
  ·rw [if_pos hj, if_pos (by omega)]
  ·rw [if_neg hj, if_neg (by omega)]
set_option maxRecDepth 100000 in
set_option maxHeartbeats 6400000 in
theorem gsound_any {F : Nat → Prop} {s : AS} (h : RX W A F s) (nd lf inn fl bk : Int) : Calls Tryz.prog 21 #[.pointer (some ⟨A, 0, none⟩), .agg #[.int .i64 nd, .int .i64 lf, .int .i64 inn, .int .i64 fl, .int .i64 bk]] W fun e w' => e = .returned (.bool (sndB s nd lf inn fl bk)) ∧ Below W.heap.size W w' := by
 obtain ⟨g, c, M, D, L, hA, hnd, hF, hlt⟩ := h
 have hln : 1 ≤ L.length ∧ L.length ≤ 65536 := ⟨hA.one, hA.n_le⟩
 have HCO : Hid (∀ W', Below W.heap.size W W' → Calls Tryz.prog 71 #[.pointer (some ⟨A, 0, none⟩)] W' (CpP W' s.nodes s.root L)) := fun W' hb => rcopy_any (hA.below hb)
 have HND := hide hnd
 obtain ⟨n, hn⟩ : ∃ n, L.length = n := ⟨_, rfl⟩
 rw [hn] at hln
 have HN := hide hn
 obtain ⟨R, hR⟩ : ∃ R, R = sndB s nd lf inn fl bk := ⟨_, rfl⟩
 rw [← hR]
 have HR := hide hR
 clear hA hnd hF hlt hn hR
 obtain ⟨w0, hw0⟩ : ∃ w0, w0 = W.alloc (.cells #[.int .i64 nd, .int .i64 lf, .int .i64 inn, .int .i64 fl, .int .i64 bk] 49) := ⟨_, rfl⟩
 have b0 : Below W.heap.size W w0 := by rw [hw0]; exact (Below.refl _ _).alloc (Nat.le_refl _) _
 have g0 : w0.heap[W.heap.size]? = some (.cells #[.int .i64 nd, .int .i64 lf, .int .i64 inn, .int .i64 fl, .int .i64 bk] 49 (0, 0)) := by rw [hw0]; exact heap_alloc_new W _
 have HW0 := hide hw0
 have B0 := hide b0
 have G0 := hide g0
 clear hw0 b0 g0
 go_enter Tryz.func21, Tryz.ntmps21
 go_upto_region 1 with fail
 rw [← HW0.out]
 clear HW0
 go_wp2_with fail
 refine (HCO.out w0 B0.out).mono ?_
 rintro e w1 ⟨B, g', c', M', D', L', rfl, hA', hnd', hmd, hb1⟩
 have hL' : L'.length = n := by rw [← ndsR_len, hnd', ndsR_len, HN.out]
 have HL' := hide hL'
 have HI0 : Hid (∃ M' D', RA w1 B g' c' M' D' s.nodes s.root (unwR L' 0) ∧ (∀ k, M' k ∨ D' k → w0.heap.size ≤ k) ∧ Below w0.heap.size w0 w1) := ⟨M', D', by rw [unwR_zero]; exact hA', hmd, hb1⟩
 have HND' := hide hnd'
 clear hA' hnd' hmd hb1 hL'
 go_wp2_with fail
 go_loopw [6] (fun q6 wy => ∃ i : Nat, i ≤ n ∧ q6 = .int .i64 (i : Int) ∧ Hid (∃ M' D', RA wy B g' c' M' D' s.nodes s.root (unwR L' i) ∧ (∀ k, M' k ∨ D' k → w0.heap.size ≤ k) ∧ Below w0.heap.size w0 wy)) (fun q6 _ => n - (intOf q6).toNat)
 case atStart => exact ⟨0, Nat.zero_le _, rfl, HI0⟩
 case round =>
  clear HI0
  obtain ⟨i, hin, rfl, HI⟩ := hrel
  rename World => wy
  obtain ⟨M1, D1, hA1, hm1, hb1⟩ := HI.out
  obtain ⟨_, c1, _⟩ := hA1.cells
  rw [unwR_len, HL'.out] at c1
  by_cases hii : i < n
  case neg =>
   obtain rfl : i = n := by omega
   have c1' := (hb1.cell (p := ⟨W.heap.size, 0, none⟩) (lt_of_block G0.out))
   have gy := (hb1.block _ (lt_of_block G0.out)).trans G0.out
   have HRC : Hid (Calls Tryz.prog 13 #[.pointer (some ⟨B, 0, none⟩), .agg #[.int .i64 nd, .int .i64 lf, .int .i64 inn, .int .i64 fl, .int .i64 bk]] wy (ChP wy nd lf inn fl bk s.unw)) := by
    have hrx : RX wy B (fun k => M1 k ∨ D1 k) s.unw := by
     refine ⟨g', c', M1, D1, unwR L' i, hA1, ?_, fun k hk => hk, fun k hk => hA1.lt k hk⟩
     rw [← HL'.out, unwR_all, HND'.out, HND.out]
     rfl
    exact rcheck11_any hrx nd lf inn fl bk
   have HRS : Hid (Calls Tryz.prog 13 #[.pointer (some ⟨B, 0, none⟩), .agg #[.int .i64 nd, .int .i64 lf, .int .i64 inn, .int .i64 fl, .int .i64 bk]] wy fun e w' => (∃ (a b c d e2 : Int), e = .returned (.agg #[.bool R, .int .i64 a, .int .i64 b, .int .i64 c, .int .i64 d, .int .i64 e2])) ∧ Below W.heap.size W w') := HRC.out.mono fun e w' hq => by
    obtain ⟨v, rfl, hr, hb⟩ := hq
    have hbb : Below W.heap.size W w' := B0.out.trans ((hb1.trans (hb.mono hb1.size)).mono B0.out.size)
    refine ⟨?_, hbb⟩
    rw [HR.out]
    unfold sndB
    rcases hr with ⟨id, er, h1, rfl⟩ | ⟨ls, c, h1, _, rfl⟩
    ·rw [h1]; exact ⟨_, _, _, _, _, rfl⟩
    ·rw [h1]; exact ⟨_, _, _, _, _, rfl⟩
   have p0 : wy.cell? ⟨W.heap.size, 0, none⟩ = some (.int .i64 nd) := by rw [cell_of_row _ _ _ _ _ _ gy]; rfl
   have p1 : wy.cell? ⟨W.heap.size, 1, none⟩ = some (.int .i64 lf) := by rw [cell_of_row _ _ _ _ _ _ gy]; rfl
   have p2 : wy.cell? ⟨W.heap.size, 2, none⟩ = some (.int .i64 inn) := by rw [cell_of_row _ _ _ _ _ _ gy]; rfl
   have p3 : wy.cell? ⟨W.heap.size, 3, none⟩ = some (.int .i64 fl) := by rw [cell_of_row _ _ _ _ _ _ gy]; rfl
   have p4 : wy.cell? ⟨W.heap.size, 4, none⟩ = some (.int .i64 bk) := by rw [cell_of_row _ _ _ _ _ _ gy]; rfl
   clear hA1 hm1 hb1 HI gy c1' HRC
   go_wp2_with fail
   refine HRS.out.mono ?_
   rintro e w2 ⟨⟨a, b, cc, d, e2, rfl⟩, hbz⟩
   have HBZ := hide hbz
   clear hbz HRS
   have FLD : ∀ (b : Bool) (i e l n m : Int) (Y : World), (Instr.field 42 (.agg #[.bool b, .int .i64 i, .int .i64 e, .int .i64 l, .int .i64 n, .int .i64 m]) 0).run Tryz.prog Y = .ok (.bool b) Y := fun b i e l n m Y => by kernel_rfl
   go_wp2_with fail
   go_ret
   exact ⟨rfl, HBZ.out⟩
  have hiL : i < (unwR L' i).length := by rw [unwR_len, HL'.out]; exact hii
  have ji : (i : Int) < (n : Int) := by omega
  have j0 : (0 : Int) ≤ (i : Int) := by omega
  have jw : IntKind.i64.wrap ((i : Int) + 1) = ((i + 1 : Nat) : Int) := by rw [IntKind.wrap_i64]; omega
  have a0 := hA1.wat i hiL
  have fz := hA1.frozen (i * 7)
  have hset := hA1.setW i hiL 0 (by decide)
  have hgn : w0.heap.size ≤ g' := hm1 g' (.inl hA1.mg)
  have hu : Upd (fun k => k = g') wy (wy.setCell ⟨g', i * 7, none⟩ (.int .u64 (0 : Nat))) := (Upd.refl _ _).setCell _ _ (fun _ => rfl)
  have HN2 : Hid (∃ M' D', RA (wy.setCell ⟨g', i * 7, none⟩ (.int .u64 0)) B g' c' M' D' s.nodes s.root (unwR L' (i + 1)) ∧ (∀ k, M' k ∨ D' k → w0.heap.size ≤ k) ∧ Below w0.heap.size w0 (wy.setCell ⟨g', i * 7, none⟩ (.int .u64 0))) := by
   rw [unwR_step L' (by rw [HL'.out]; exact hii)] at hset
   exact ⟨M1, D1, hset, hm1, hb1.trans (hu.below hb1.size (fun k hk e => by omega))⟩
  generalize (unwR L' i)[i].w = x at *
  clear hA1 hm1 hb1 HI hset hu hiL
  go_wp2_with fail
  go_roundw
  case rel => exact ⟨i + 1, by omega, by go_num, HN2⟩
  case measure => simp [intOf]; omega
end
end Go.Proofs.YtealejbfloacpaaGreat
