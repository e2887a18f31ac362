/- Copy: the walk. -/
import Derived.Test.YtcffekhlnidjnaaPCopy
namespace Go.Proofs.Ytcffekhlnidjnaa
open Go.RowKit Go.Shelf
attribute [local go_sem] Oper.semAt_some

theorem cp_six (W : World) (a b c d e f : Obj) : (((((((W.alloc a).alloc b).alloc c).alloc d).alloc e).alloc f).heap[W.heap.size]? = some a ∧ ((((((W.alloc a).alloc b).alloc c).alloc d).alloc e).alloc f).heap[W.heap.size + 1]? = some b ∧ ((((((W.alloc a).alloc b).alloc c).alloc d).alloc e).alloc f).heap[W.heap.size + 2]? = some c ∧ ((((((W.alloc a).alloc b).alloc c).alloc d).alloc e).alloc f).heap[W.heap.size + 3]? = some d ∧ ((((((W.alloc a).alloc b).alloc c).alloc d).alloc e).alloc f).heap[W.heap.size + 4]? = some e ∧ ((((((W.alloc a).alloc b).alloc c).alloc d).alloc e).alloc f).heap[W.heap.size + 5]? = some f) ∧ ((((((W.alloc a).alloc b).alloc c).alloc d).alloc e).alloc f).heap.size = W.heap.size + 6 := by
  have hs : ∀ (V : World) (x : Obj) (k : Nat), V.heap.size = k → (V.alloc x).heap[k]? = some x := fun V x k h => by rw [← h]; exact World.alloc_heap_new V x
  have ho : ∀ (V : World) (x : Obj) (k : Nat), k < V.heap.size → (V.alloc x).heap[k]? = V.heap[k]? := fun V x k h => Below.heap_alloc V x k h
  refine ⟨⟨?_, ?_, ?_, ?_, ?_, ?_⟩, by simp⟩
  · rw [ho _ _ _ (by simp only [World.size_alloc]; omega), ho _ _ _ (by simp only [World.size_alloc]; omega), ho _ _ _ (by simp only [World.size_alloc]; omega), ho _ _ _ (by simp only [World.size_alloc]; omega), ho _ _ _ (by simp)]; exact hs _ _ _ rfl
  · rw [ho _ _ _ (by simp only [World.size_alloc]; omega), ho _ _ _ (by simp only [World.size_alloc]; omega), ho _ _ _ (by simp only [World.size_alloc]; omega), ho _ _ _ (by simp)]; exact hs _ _ _ (by simp)
  · rw [ho _ _ _ (by simp only [World.size_alloc]; omega), ho _ _ _ (by simp only [World.size_alloc]; omega), ho _ _ _ (by simp)]; exact hs _ _ _ (by simp)
  · rw [ho _ _ _ (by simp only [World.size_alloc]; omega), ho _ _ _ (by simp)]; exact hs _ _ _ (by simp)
  · rw [ho _ _ _ (by simp)]; exact hs _ _ _ (by simp)
  · exact hs _ _ _ (by simp)

def CpJ {σ τ : Type} (wf : τ → List Int → Int × Int × τ) (cnt sz : τ → Nat) (Wd : World → τ → (Nat → Prop) → Prop) (all : List (List Int × Int × σ)) (s0 : σ) (t0 : τ) (M0 Mw : Nat → Prop) (W00 : World) (tw : TypeId) (pw : Value) (N : Nat) (pre : List (Ck σ)) (W : World) : Prop := ∃ t M k, CpI wf cnt sz Wd all s0 t0 M0 Mw W00 tw pw N pre W t M k
/-- Where a round leaves Copy. -/
def CpE {σ τ : Type} (Rd : World → σ → (Nat → Prop) → Prop) (Wd : World → τ → (Nat → Prop) → Prop) (res : Nat × Int × σ × τ) (M0 Mw : Nat → Prop) (W00 : World) (N : Nat) (c : Code) (_ : List (Ck σ)) (W : World) : Prop :=
  ∃ M k e, CpX Rd Wd res M0 Mw W00 N W M k e ∧ ((c = .ret ∧ Bx W (N + 1) 3 (.int .i64 (k : Int)) ∧ Bx W (N + 2) 35 (.int .i64 e)) ∨ (c = .exit 0 ∧ e = 0 ∧ Bx W (N + 3) 3 (.int .i64 (k : Int)) ∧ (∃ v, Bx W (N + 1) 3 v) ∧ ∃ v, Bx W (N + 2) 35 v))

set_option maxRecDepth 100000 in
set_option maxHeartbeats 3200000 in
theorem copy_in {σ τ : Type} {wf : τ → List Int → Int × Int × τ} {cnt sz : τ → Nat} {f : FuncId} {recv : Value} {B : Nat} {Wd : World → τ → (Nat → Prop) → Prop} {tw tr : TypeId} {pw pr : Value} (T : Writer wf cnt sz f recv B Wd) (L : Leads "Write" tw pw f recv)
    (Rd : World → σ → (Nat → Prop) → Prop) (hupd : ∀ (W W' : World) (s : σ) (M S : Nat → Prop), Rd W s M → Upd S W W' → (∀ i, S i → B ≤ i ∧ ¬ M i) → Rd W' s M) (M0 Mw : Nat → Prop) (n : Nat) (hn : 7 ≤ n) (size : Int) (W : World) (s0 : σ) (t0 : τ) (all : List (List Int × Int × σ))
    (hM0 : ∀ i, M0 i → B ≤ i ∧ i < W.heap.size) (hdis : ∀ i, M0 i → ¬ Mw i) (hB : B ≤ W.heap.size) (hR : Rd W s0 M0) (hW : Wd W t0 Mw) (h4 : ∀ c ∈ all, c.1.length ≤ 4096) (hcnt : cnt t0 + 33 * tb all ≤ 4611686018427300000) (hsz : sz t0 + tb all ≤ 140737488355328)
    (hseq : ∀ w b1 b2, Upd Noth W w → w.cell? ⟨b1, 0, none⟩ = some (.iface tr pr) → w.cell? ⟨b2, 0, none⟩ = some (.int .i64 size) → W.heap.size ≤ b1 → W.heap.size ≤ b2 → SeqW Fence.wide (n - 1) Try.prog 35 #[.pointer (some ⟨b1, 0, none⟩), .pointer (some ⟨b2, 0, none⟩)] Ck.vs M0 (CkPr M0 B b1 b2) (CkD all Rd M0) (CkS all s0 Rd M0) w) :
    CallsIn Fence.wide n Try.prog 12 #[.iface tw pw, .iface tr pr, .int .i64 size] W fun e W' => CopyPost Rd Wd (copyL (handA wf) all s0 t0 0) M0 Mw W e W' := by
  have hn1 : 1 ≤ n := by omega
  have HT := hide T
  have HL := hide L
  have HU := hide hupd
  have HS := hide hseq
  have HM0 := hide hM0
  have HDIS := hide hdis
  have H4 := hide h4
  have HMW := hide (T.lt hW)
  have HI0 := hide (show cnt t0 + 33 * tb all ≤ 4611686018427300000 ∧ sz t0 + tb all ≤ 140737488355328 from ⟨hcnt, hsz⟩)
  have HRW := hide hR
  have HWD := hide hW
  clear hseq hupd hM0 hdis h4 hcnt hsz hR hW T L
  refine callsIn_of_wp_marks Try.func12 rfl trivial ?_ rfl
  simp only [Try.ntmps12, List.size_toArray, List.length_cons, List.length_nil, Nat.reduceAdd, Nat.reduceSub, Array.replicate_succ, Array.replicate_zero, List.push_toArray, List.append_toArray, List.nil_append, List.cons_append]
  gi_wp2
  refine ⟨trivial, ((callsIn_wide (n := n - 1)).2 (chunks_any _ _ _ _)).mono ?_⟩
  rintro e w' ⟨rfl, rfl⟩
  gi_wp2
  obtain ⟨⟨y0, y1, y2, y3, y4, y5⟩, hsz6⟩ := cp_six W (.cells #[.iface tw pw] 74) (.cells #[.int .i64 0] 3) (.cells #[.int .i64 0] 35) (.cells #[.int .i64 0] 3) (.cells #[.iface tr pr] 76) (.cells #[.int .i64 size] 3)
  have hu6 : Upd Noth W ((((((W.alloc (.cells #[.iface tw pw] 74)).alloc (.cells #[.int .i64 0] 3)).alloc (.cells #[.int .i64 0] 35)).alloc (.cells #[.int .i64 0] 3)).alloc (.cells #[.iface tr pr] 76)).alloc (.cells #[.int .i64 size] 3)) := ((((((Upd.refl _ _).alloc _).alloc _).alloc _).alloc _).alloc _).alloc _
  generalize (((((W.alloc (.cells #[.iface tw pw] 74)).alloc (.cells #[.int .i64 0] 3)).alloc (.cells #[.int .i64 0] 35)).alloc (.cells #[.int .i64 0] 3)).alloc (.cells #[.iface tr pr] 76)).alloc (.cells #[.int .i64 size] 3) = w6 at y0 y1 y2 y3 y4 y5 hsz6 hu6 ⊢
  obtain ⟨N, hN⟩ : ∃ N, N = W.heap.size := ⟨_, rfl⟩
  rw [show W.heap.size + 1 + 1 + 1 + 1 + 1 = N + 5 by omega, show W.heap.size + 1 + 1 + 1 + 1 = N + 4 by omega, show W.heap.size + 1 + 1 + 1 = N + 3 by omega, show W.heap.size + 1 + 1 = N + 2 by omega]
  rw [← hN] at y0 y1 y2 y3 y4 y5 hsz6 ⊢
  replace hN := hide hN
  have hseq6 := HS.out w6 (N + 4) (N + 5) hu6 (show Bx w6 (N + 4) 76 (.iface tr pr) from y4).cell (show Bx w6 (N + 5) 3 (.int .i64 size) from y5).cell (by have := hN.out; omega) (by have := hN.out; omega)
  have HINIT : Hid (CpI wf cnt sz Wd all s0 t0 M0 Mw W tw pw N [] w6 t0 Mw 0) := hide ⟨HT.out.upd HWD.out hu6 (fun i e => e.elim), fun i hi => .inl hi, y0, ⟨_, y1⟩, ⟨_, y2⟩, y3, hu6.noth, fun rest hrest => by
    simp only [List.map_nil, List.nil_append] at hrest
    subst hrest
    have := HI0.out
    exact ⟨rfl, this.1, this.2, by omega⟩⟩
  have hMlt : ∀ i, M0 i → i < w6.heap.size := fun i hi => by have := (HM0.out i hi).2; have := hN.out; omega
  have hPlt : ∀ i, CkPr M0 B (N + 4) (N + 5) i → i < w6.heap.size := fun i hi => by
    have := hN.out
    rcases hi with h | h | h | h
    · omega
    · exact hMlt i h
    · omega
    · omega
  have HRES : Hid (∀ D Wc M k e act, D = w6.heap.size → CpX Rd Wd (copyL (handA wf) all s0 t0 0) M0 Mw W N Wc M k e → Bx Wc (N + 1) 3 (.int .i64 (k : Int)) → Bx Wc (N + 2) 35 (.int .i64 e) → Wc.heap[D]? = some (.deferred (some [])) → (Act.tmps act)[6]?.getD undef = .pointer (some ⟨N + 1, 0, none⟩) → act.tmps[7]?.getD undef = .pointer (some ⟨N + 2, 0, none⟩) → act.defers = [{ target := .collected D, args := #[] }] →
      bodyPostM Fence.wide n Try.prog Try.f12 (fun e W' => CopyPost Rd Wd (copyL (handA wf) all s0 t0 0) M0 Mw W e W') Exit.ret act Wc) := hide fun D Wc M k e act hD hX h1 h2 hK ht6 ht7 hd => by
    have hNN := hN.out
    have h1' : Bx (Wc.putObj D (.deferred none)) (N + 1) 3 (.int .i64 (k : Int)) := (World.putObj_heap_other (by omega)).trans h1
    have h2' : Bx (Wc.putObj D (.deferred none)) (N + 2) 35 (.int .i64 e) := (World.putObj_heap_other (by omega)).trans h2
    have c1 := h1'.cell
    have c2 := h2'.cell
    have hu : Upd (fun i => i = D) Wc (Wc.putObj D (.deferred none)) := (Upd.refl _ _).putObj _ _ (fun _ => rfl)
    obtain ⟨tm, df⟩ := act
    simp only at ht6 ht7 hd
    subst hd
    refine ⟨by simp, .inl ⟨_, _, rfl, run_takeDeferred hK, ?_⟩⟩
    refine ⟨.tuple #[.int .i64 (k : Int), .int .i64 e], by simp [results, Try.results12, go_sem, ht6, ht7, c1, c2], ?_⟩
    have hnD : ¬ M0 D := fun e => by have := (HM0.out D e).2; omega
    have hnM : ¬ M D := fun e => by
      rcases hX.mb D e with h | h
      · have := (HMW.out D h).2
        omega
      · omega
    refine ⟨by rw [hX.told.1, hX.told.2], HU.out _ _ _ _ _ hX.rd hu (fun i hi => by subst hi; exact ⟨by omega, hnD⟩), ⟨M, HT.out.upd hX.wd hu (fun i hi => by subst hi; exact ⟨by omega, hnM⟩), fun i hi => (hX.mb i hi).imp id (fun h => by omega)⟩, hX.up.then hu (fun i hi e => by omega)⟩
  have HEND : Hid (∀ D Wc M k act w3, D = w6.heap.size → CpX Rd Wd (copyL (handA wf) all s0 t0 0) M0 Mw W N Wc M k 0 → (∃ v, Bx Wc (N + 1) 3 v) → (∃ v, Bx Wc (N + 2) 35 v) → Wc.heap[D]? = some (.deferred (some [])) → Hid (w3 = (Wc.setCell ⟨N + 1, 0, none⟩ (.int .i64 (k : Int))).setCell ⟨N + 2, 0, none⟩ (.int .i64 0)) → (Act.tmps act)[6]?.getD undef = .pointer (some ⟨N + 1, 0, none⟩) → act.tmps[7]?.getD undef = .pointer (some ⟨N + 2, 0, none⟩) → act.defers = [{ target := .collected D, args := #[] }] →
      bodyPostM Fence.wide n Try.prog Try.f12 (fun e W' => CopyPost Rd Wd (copyL (handA wf) all s0 t0 0) M0 Mw W e W') Exit.ret act w3) := hide fun D Wc M k act w3 hD hX ⟨u1, z1⟩ ⟨u2, z2⟩ hK hw3 ht6 ht7 hd => by
    obtain rfl := hw3.out
    have hNN := hN.out
    have hu : Upd (fun i => N ≤ i ∧ i < N + 4) Wc ((Wc.setCell ⟨N + 1, 0, none⟩ (.int .i64 (k : Int))).setCell ⟨N + 2, 0, none⟩ (.int .i64 0)) := ((Upd.refl _ _).setCell ⟨N + 1, 0, none⟩ (.int .i64 (k : Int)) (fun _ => ⟨by simp, by simp⟩)).setCell ⟨N + 2, 0, none⟩ (.int .i64 0) (fun _ => ⟨by simp, by simp⟩)
    refine HRES.out D _ M k 0 act hD ⟨hX.told, HU.out _ _ _ _ _ hX.rd hu (fun i hi => ⟨by omega, fun e => ?_⟩), HT.out.upd hX.wd hu (fun i hi => ⟨by omega, fun e => ?_⟩), hX.mb, hX.up.then hu (fun i hi e => by omega)⟩ ((z1.set _).set' (by omega) _) ((z2.set' (by omega) _).set _) (hu.heap hK (by omega)) ht6 ht7 hd
    · have := (HM0.out i e).2
      omega
    · rcases hX.mb i e with h1 | h1
      · have := (HMW.out i h1).2
        omega
      · omega
  refine wpIn_range_w rfl hn1 (gf := 35) (lb := #[.pointer (some ⟨N + 4, 0, none⟩), .pointer (some ⟨N + 5, 0, none⟩)]) rfl trivial (enters_of Try.func35 (by kernel_rfl) rfl) hseq6 hMlt hPlt (fun _ => rfl) ?hD
    (CpJ wf cnt sz Wd all s0 t0 M0 Mw W tw pw N)
    (CpE Rd Wd (copyL (handA wf) all s0 t0 0) M0 Mw W N)
    ?hI ?hIx ⟨_, _, _, HINIT.out⟩
    (fun x => { tmps := #[.iface tw pw, .iface tr pr, .int .i64 size, .pointer (some ⟨N, 0, none⟩), undef, undef, .pointer (some ⟨N + 1, 0, none⟩), .pointer (some ⟨N + 2, 0, none⟩), .pointer (some ⟨N + 3, 0, none⟩), x.v, .int .i64 x.e, undef, undef, .iface tw pw, .bool false, .iface tr pr, .int .i64 size,
      .func (.func 35) #[] #[.pointer (some ⟨N + 4, 0, none⟩), .pointer (some ⟨N + 5, 0, none⟩)], x.v, .int .i64 x.e, undef, undef, undef, undef, undef, undef, undef, undef, undef, undef, undef, undef, undef, undef, undef, undef, undef, undef, undef, undef], defers := [] }) ?assign ?body ?done ?stop
  case hD =>
    rintro pre x W0 W1 W2 ⟨h1, h2, h3⟩ hu hlt
    refine ⟨h1, h2.upd hu (fun k hk e => ?_), HU.out _ _ _ _ _ h3 hu (fun i hi => ?_)⟩
    · have := (h2.owns.lt k hk).1
      omega
    · have := hN.out
      exact ⟨by omega, fun e => by have := (HM0.out i e).2; omega⟩
  case hI =>
    rintro pre A A' ⟨t, M, k, h⟩ hu
    have hNN := hN.out
    have hq : ¬ M (w6.heap.size + 1) := fun e => by
      rcases h.mb _ e with h1 | h1
      · have := (HMW.out _ h1).2; omega
      · omega
    exact ⟨t, M, k, HT.out.upd h.wd hu (fun i hi => by subst hi; exact ⟨by omega, hq⟩), h.mb, h.x0.upd hu (by omega), h.x1.imp (fun v hv => hv.upd hu (by omega)), h.x2.imp (fun v hv => hv.upd hu (by omega)), h.x3.upd hu (by omega), h.up.then hu (fun i hi e => by omega), h.eq⟩
  case hIx =>
    rintro c pre A A' ⟨M, k, e, h, hc⟩ hu
    have hNN := hN.out
    have hq : ¬ M (w6.heap.size + 1) := fun e => by
      rcases h.mb _ e with h1 | h1
      · have := (HMW.out _ h1).2; omega
      · omega
    refine ⟨M, k, e, ⟨h.told, HU.out _ _ _ _ _ h.rd hu (fun i hi => by subst hi; exact ⟨by omega, fun e => by have := (HM0.out _ e).2; omega⟩), HT.out.upd h.wd hu (fun i hi => by subst hi; exact ⟨by omega, hq⟩), h.mb, h.up.then hu (fun i hi e => by omega)⟩, ?_⟩
    rcases hc with ⟨h1, h2, h3⟩ | ⟨h1, h2, h3, h4, h5⟩
    · exact .inl ⟨h1, h2.upd hu (by omega), h3.upd hu (by omega)⟩
    · exact .inr ⟨h1, h2, h3.upd hu (by omega), h4.imp (fun v hv => hv.upd hu (by omega)), h5.imp (fun v hv => hv.upd hu (by omega))⟩
  case assign =>
    intro l x Wa K hK
    simp only [Ck.vs]
    gi_wp2
    exact hK
  case body =>
    rintro l pre ⟨v, b, er, s⟩ W0 Wc ⟨t, M, k, h⟩ hu ⟨⟨rest, hrest⟩, hov, hrd⟩ hlt0
    change OwnB Wc W0.heap.size 5 v b at hov
    change Rd Wc s M0 at hrd
    dsimp only
    have hNN := hN.out
    have hq0 : ∀ i, M0 i → i < N := fun i hi => by have := (HM0.out i hi).2; omega
    have hqm : ∀ i, M i → i < N ∨ N + 8 ≤ i := fun i hi => (h.mb i hi).imp (fun h1 => by have := (HMW.out i h1).2; omega) id
    have hqd : ∀ i, M i → ¬ M0 i := fun i hi h0 => (h.mb i hi).elim (fun h1 => HDIS.out i h0 h1) (fun h1 => by have := hq0 i h0; omega)
    have hqB : ∀ i, M i → B ≤ i := fun i hi => (HT.out.lt h.wd i hi).1
    have hbox : ∀ j, N ≤ j → j < N + 6 → ¬ (M0 j ∨ j = w6.heap.size + 1) := fun j h1 h2 e => e.elim (fun e => by have := hq0 j e; omega) (fun e => by omega)
    have hwd : Wd Wc t M := HT.out.upd h.wd hu (fun i hi => by
      rcases hi with h1 | h1
      · exact ⟨(HM0.out i h1).1, fun e => hqd i e h1⟩
      · exact ⟨by omega, fun e => by have := hqm i e; omega⟩)
    have z0 := h.x0.upd hu (hbox N (by omega) (by omega))
    obtain ⟨u1, z1⟩ := h.x1
    obtain ⟨u2, z2⟩ := h.x2
    replace z1 := z1.upd hu (hbox (N + 1) (by omega) (by omega))
    replace z2 := z2.upd hu (hbox (N + 2) (by omega) (by omega))
    have z3 := h.x3.upd hu (hbox (N + 3) (by omega) (by omega))
    have hup : Upd (fun i => M0 i ∨ Mw i) W Wc := h.up.then hu (fun i hi e => e.elim .inl (fun e => by omega))
    obtain ⟨ax, cx, rfl, hrow, _, hcap⟩ := hov.slice
    have hall : all = pre.map Ck.t ++ ((b, er, s) :: rest) := by rw [hrest, List.map_append, List.append_assoc]; rfl
    obtain ⟨heq, hq1, hq2, hq3⟩ := h.eq _ hall
    have hlen : b.length ≤ 4096 := H4.out (b, er, s) (by rw [hall]; simp)
    simp only [tb] at hq1 hq2 hq3
    have hna : ∀ y, ax = some y → ¬ M y.block := fun y hy e => by
      have h1 := (owns_blkOf hov.owns y hy).1
      have h2 := (HT.out.lt h.wd _ e).2
      omega
    have hszc : W0.heap.size ≤ Wc.heap.size := hu.size
    have HH := hide (hand_any HT.out HL.out Wc t M ax b.length cx b rfl hcap hrow (by omega) hna (by omega) hwd (by omega) (by omega))
    have HC := hide (handA_cnt HT.out t b)
    have HEQ : Hid (copyL (handA wf) all s0 t0 0 = copyL (handA wf) ((b, er, s) :: rest) (endS s0 pre) t k) := hide heq
    rw [copyL] at HEQ
    have HEQ2 : Hid (∀ rest', all = (pre ++ [(⟨.slice ax b.length cx, b, er, s⟩ : Ck σ)]).map Ck.t ++ rest' → rest' = rest) := hide (fun rest' h' => by
      rw [hrest] at h'
      exact (List.append_cancel_left h').symm)
    have HQQ := hide (show cnt t + 33 * (b.length + tb rest) ≤ 4611686018427300000 ∧ sz t + (b.length + tb rest) ≤ 140737488355328 from ⟨hq1, hq2⟩)
    have HMB := hide h.mb
    have HQM := hide hqm
    have HQD := hide hqd
    have HQB := hide hqB
    have HUP := hide hup
    have HRD := hide hrd
    have HQ0 := hide hq0
    have hc0 := z0.cell
    have HZ1 := hide z1
    have HZ2 := hide z2
    have HZ3 := hide z3
    have HZ0 := hide z0
    have HSZ := hide hsz6
    clear h hu hrest hov hrd hqm hqd hqB hbox hwd hup hrow hall heq hq1 hq2 hna z0 z1 z2 z3 hq0 hseq6 hMlt hPlt hNN hsz6
    gi_wp2
    refine ⟨trivial, fun _ => by omega, (CallsIn.inRound l ((callsIn_wide (n := n - 1 - 1 - 1)).2 HH.out)).mono ?_⟩
    rintro e w2 ⟨M2, rfl, hw2, hu2, hm2⟩
    generalize handA wf t b = r at *
    obtain ⟨nn, ee, t2⟩ := r
    simp only at hw2 HC HEQ
    have hM2 : ∀ i, M2 i → Mw i ∨ N + 8 ≤ i := fun i hi => (hm2 i hi).elim (fun h => HMB.out i h) (fun h => .inr (by have := HSZ.out; omega))
    have hbox2 : ∀ j, N ≤ j → j < N + 8 → ¬ M j := fun j h1 h2 e => by have := HQM.out j e; omega
    have z0 := HZ0.out.upd hu2 (hbox2 N (by omega) (by omega))
    have z1 := HZ1.out.upd hu2 (hbox2 (N + 1) (by omega) (by omega))
    have z2 := HZ2.out.upd hu2 (hbox2 (N + 2) (by omega) (by omega))
    have z3 := HZ3.out.upd hu2 (hbox2 (N + 3) (by omega) (by omega))
    have c3 := z3.cell
    have f3 := z3.fr
    have c1 := z1.cell
    have c2 := z2.cell
    have f1 := z1.fr
    have f2 := z2.fr
    have hkn : k + nn ≤ 4611686018427387903 := by have := HC.out.2.2; omega
    have HUP2 : Hid (Upd (fun i => M0 i ∨ Mw i) W w2) := hide (HUP.out.then hu2 (fun i hi e => .inr ((HMB.out i e).elim id (fun h => by have := hN.out; omega))))
    have HR2 := hide (HU.out _ _ _ _ _ HRD.out hu2 (fun i e => ⟨HQB.out i e, HQD.out i e⟩))
    replace hw2 := hide hw2
    replace hu2 := hide hu2
    replace hM2 := hide hM2
    have hcast : ((k + nn : Nat) : Int) = (k : Int) + (nn : Int) := by omega
    have HW3 : Hid (∀ (S : Nat → Prop) (w3 : World), Upd S w2 w3 → (∀ i, S i → N ≤ i ∧ i < N + 4) → Wd w3 t2 M2 ∧ Rd w3 s M0 ∧ Upd (fun i => M0 i ∨ Mw i) W w3 ∧ Upd (fun i => ¬ CkPr M0 B (N + 4) (N + 5) i ∧ i ≠ w6.heap.size ∧ i ≠ w6.heap.size + 1) Wc w3) := hide fun S w3 hs hS => by
      have hNN := hN.out
      have hsz6 := HSZ.out
      refine ⟨HT.out.upd hw2.out hs (fun i hi => ?_), HU.out _ _ _ _ _ HR2.out hs (fun i hi => ?_), HUP2.out.then hs (fun i hi e => ?_), ?_⟩
      · have := hS i hi
        exact ⟨by omega, fun e => (hM2.out i e).elim (fun h => by have := (HMW.out i h).2; omega) (fun h => by omega)⟩
      · have := hS i hi
        exact ⟨by omega, fun e => by have := HQ0.out i e; omega⟩
      · have := hS i e
        omega
      · have p1 : ∀ i, M i → ¬ CkPr M0 B (N + 4) (N + 5) i ∧ i ≠ w6.heap.size ∧ i ≠ w6.heap.size + 1 := fun i e => by
          have h1 := HQM.out i e
          refine ⟨?_, by omega, by omega⟩
          rintro (h | h | h | h)
          · have := HQB.out i e; omega
          · exact HQD.out i e h
          · omega
          · omega
        have p2 : ∀ i, S i → ¬ CkPr M0 B (N + 4) (N + 5) i ∧ i ≠ w6.heap.size ∧ i ≠ w6.heap.size + 1 := fun i e => by
          have h1 := hS i e
          refine ⟨?_, by omega, by omega⟩
          rintro (h | h | h | h)
          · omega
          · have := HQ0.out i h; omega
          · omega
          · omega
        exact (hu2.out.mono (fun i _ e => p1 i e)).trans (hs.mono (fun i _ e => p2 i e))
    have HRET : Hid (∀ (e' : Int) (w3 : World), copyL (handA wf) all s0 t0 0 = (k + nn, e', s, t2) → Hid (w3 = ((w2.setCell ⟨N + 3, 0, none⟩ (.int .i64 ((k : Int) + (nn : Int)))).setCell ⟨N + 1, 0, none⟩ (.int .i64 ((k : Int) + (nn : Int)))).setCell ⟨N + 2, 0, none⟩ (.int .i64 e')) → Upd (fun i => i ≠ w6.heap.size ∧ i ≠ w6.heap.size + 1) Wc w3 ∧ CpE Rd Wd (copyL (handA wf) all s0 t0 0) M0 Mw W N .ret (pre ++ [⟨.slice ax b.length cx, b, er, s⟩]) w3) := hide fun e' w3 hres hw3 => by
      obtain rfl := hw3.out
      obtain ⟨q1, q2, q3, q4⟩ := HW3.out (fun i => N ≤ i ∧ i < N + 4) _ ((((Upd.refl _ w2).setCell ⟨N + 3, 0, none⟩ (.int .i64 ((k : Int) + (nn : Int))) (fun _ => ⟨by simp, by simp⟩)).setCell ⟨N + 1, 0, none⟩ (.int .i64 ((k : Int) + (nn : Int))) (fun _ => ⟨by simp, by simp⟩)).setCell ⟨N + 2, 0, none⟩ (.int .i64 e') (fun _ => ⟨by simp, by simp⟩)) (fun i h => h)
      refine ⟨q4.mono (fun i _ h => h.2), M2, k + nn, e', ⟨by rw [hres]; exact ⟨rfl, rfl⟩, by rw [hres]; exact q2, by rw [hres]; exact q1, hM2.out, q3⟩, .inl ⟨rfl, ?_, ?_⟩⟩
      · rw [hcast]
        exact ((z1.set' (by omega) _).set _).set' (by omega) _
      · exact ((z2.set' (by omega) _).set' (by omega) _).set _
    have hzz := hide (show Bx w2 (N + 1) 3 u1 ∧ Bx w2 (N + 2) 35 u2 ∧ Bx w2 (N + 3) 3 (.int .i64 (k : Int)) ∧ Bx w2 N 74 (.iface tw pw) from ⟨z1, z2, z3, z0⟩)
    clear z0 z1 z2 z3 hm2 hbox2
    replace hcast := hide hcast
    have n1 : ¬ N + 1 = N + 3 := by omega
    have n2 : ¬ N + 2 = N + 3 := by omega
    have n3 : ¬ N + 2 = N + 1 := by omega
    by_cases he : ee = 0
    · subst he
      rw [if_neg (by simp)] at HEQ
      by_cases h31 : er = 31
      · subst h31
        rw [if_pos rfl] at HEQ
        have HFIN : Hid (∀ w3, Hid (w3 = w2.setCell ⟨N + 3, 0, none⟩ (.int .i64 ((k : Int) + (nn : Int)))) → Upd (fun i => i ≠ w6.heap.size ∧ i ≠ w6.heap.size + 1) Wc w3 ∧ CpE Rd Wd (copyL (handA wf) all s0 t0 0) M0 Mw W N (.exit 0) (pre ++ [⟨.slice ax b.length cx, b, 31, s⟩]) w3) := hide fun w3 hw3 => by
          obtain rfl := hw3.out
          obtain ⟨q1, q2, q3, q4⟩ := HW3.out (fun i => N ≤ i ∧ i < N + 4) _ ((Upd.refl _ w2).setCell ⟨N + 3, 0, none⟩ (.int .i64 ((k : Int) + (nn : Int))) (fun _ => ⟨by simp, by simp⟩)) (fun i h => h)
          refine ⟨q4.mono (fun i _ h => h.2), M2, k + nn, 0, ⟨by rw [HEQ.out]; exact ⟨rfl, rfl⟩, by rw [HEQ.out]; exact q2, by rw [HEQ.out]; exact q1, hM2.out, q3⟩, .inr ⟨rfl, rfl, ?_, ⟨_, hzz.out.1.set' (by omega) _⟩, ⟨_, hzz.out.2.1.set' (by omega) _⟩⟩⟩
          rw [hcast.out]
          exact hzz.out.2.2.1.set _
        gi_wp2
        exact HFIN.out _ rfl
      · rw [if_neg h31] at HEQ
        by_cases her : er = 0
        · subst her
          rw [if_neg (by simp)] at HEQ
          have HFIN : Hid (∀ w3, Hid (w3 = w2.setCell ⟨N + 3, 0, none⟩ (.int .i64 ((k : Int) + (nn : Int)))) → Upd (fun i => ¬ CkPr M0 B (N + 4) (N + 5) i ∧ i ≠ w6.heap.size ∧ i ≠ w6.heap.size + 1) Wc w3 ∧ CpJ wf cnt sz Wd all s0 t0 M0 Mw W tw pw N (pre ++ [⟨.slice ax b.length cx, b, 0, s⟩]) w3) := hide fun w3 hw3 => by
            obtain rfl := hw3.out
            obtain ⟨q1, q2, q3, q4⟩ := HW3.out (fun i => N ≤ i ∧ i < N + 4) _ ((Upd.refl _ w2).setCell ⟨N + 3, 0, none⟩ (.int .i64 ((k : Int) + (nn : Int))) (fun _ => ⟨by simp, by simp⟩)) (fun i h => h)
            refine ⟨q4, t2, M2, k + nn, q1, hM2.out, hzz.out.2.2.2.set' (by omega) _, ⟨_, hzz.out.1.set' (by omega) _⟩, ⟨_, hzz.out.2.1.set' (by omega) _⟩, ?_, q3, fun rest' hr' => ?_⟩
            · rw [hcast.out]
              exact hzz.out.2.2.1.set _
            · obtain rfl := HEQ2.out rest' hr'
              have h1 := HC.out
              have h2 := HQQ.out
              rw [HEQ.out, endS_snoc]
              exact ⟨rfl, by omega, by omega, by omega⟩
          gi_wp2
          exact HFIN.out _ rfl
        · rw [if_pos her] at HEQ
          have he1 : (er == 31) = false := by simp [h31]
          have he2 : (er != 0) = true := by simp [her]
          gi_wp2
          exact HRET.out _ _ HEQ.out rfl
    · rw [if_pos he] at HEQ
      have he1 : (ee != 0) = true := by simp [he]
      gi_wp2
      exact HRET.out _ _ HEQ.out rfl
  case done =>
    rintro D xs W0 W1 Wc hD ⟨t, M, k, h⟩ hu ⟨hxs, hrd⟩ hu1 hlt0 hK
    have hNN := hN.out
    have hq0 : ∀ i, M0 i → i < N := fun i hi => by have := (HM0.out i hi).2; omega
    have hqm : ∀ i, M i → i < N ∨ N + 8 ≤ i := fun i hi => (h.mb i hi).imp (fun h1 => by have := (HMW.out i h1).2; omega) id
    have hqd : ∀ i, M i → ¬ M0 i := fun i hi h0 => (h.mb i hi).elim (fun h1 => HDIS.out i h0 h1) (fun h1 => by have := hq0 i h0; omega)
    have hbox : ∀ j, N ≤ j → j < N + 6 → ¬ M0 j := fun j h1 h2 e => by have := hq0 j e; omega
    obtain ⟨u1, z1⟩ := h.x1
    obtain ⟨u2, z2⟩ := h.x2
    replace z1 := (z1.upd hu (hbox (N + 1) (by omega) (by omega))).upd hu1 (by omega)
    replace z2 := (z2.upd hu (hbox (N + 2) (by omega) (by omega))).upd hu1 (by omega)
    have z3 := (h.x3.upd hu (hbox (N + 3) (by omega) (by omega))).upd hu1 (by omega)
    obtain ⟨heq, _⟩ := h.eq [] (by rw [List.append_nil]; exact hxs.symm)
    rw [copyL] at heq
    have hwd : Wd Wc t M := HT.out.upd (HT.out.upd h.wd hu (fun i hi => ⟨(HM0.out i hi).1, fun e => hqd i e hi⟩)) hu1 (fun i hi => ⟨by omega, fun e => by have := hqm i e; omega⟩)
    have hrd' := HU.out _ _ _ _ _ hrd hu1 (fun i hi => ⟨by omega, fun e => by have := hq0 i e; omega⟩)
    have hup : Upd (fun i => M0 i ∨ Mw i) W Wc := (h.up.then hu (fun i hi e => .inl e)).then hu1 (fun i hi e => by omega)
    have HX : Hid (CpX Rd Wd (copyL (handA wf) all s0 t0 0) M0 Mw W N Wc M k 0) := hide ⟨by rw [heq]; exact ⟨rfl, rfl⟩, by rw [heq]; exact hrd', by rw [heq]; exact hwd, h.mb, hup⟩
    have HF := hide (fun act w3 hw3 => HEND.out D Wc M k act w3 hD HX.out ⟨_, z1⟩ ⟨_, z2⟩ hK hw3)
    have c1 := z1.cell
    have c2 := z2.cell
    have c3 := z3.cell
    have f1 := z1.fr
    have f2 := z2.fr
    clear hseq6 hMlt hPlt z1 z2 z3 hNN hq0 hqm hqd hbox heq hwd hrd' hup h hxs hrd hu hu1
    dsimp only
    gi_wp2
    exact HF.out _ _ rfl rfl rfl rfl
  case stop =>
    rintro D c pre Wc hD ⟨M, k, e, h, hc⟩ hK
    rcases hc with ⟨rfl, h1, h2⟩ | ⟨rfl, rfl, h3, h4, h5⟩
    · have HF := hide (fun act => HRES.out D Wc M k e act hD h h1 h2 hK)
      clear hseq6 hMlt hPlt
      dsimp only
      gi_wp2
      exact HF.out _ rfl rfl rfl
    · obtain ⟨u1, z1⟩ := h4
      obtain ⟨u2, z2⟩ := h5
      have HF := hide (fun act w3 hw3 => HEND.out D Wc M k act w3 hD h ⟨_, z1⟩ ⟨_, z2⟩ hK hw3)
      have c1 := z1.cell
      have c2 := z2.cell
      have c3 := h3.cell
      have f1 := z1.fr
      have f2 := z2.fr
      clear hseq6 hMlt hPlt z1 z2 h3 h
      dsimp only
      gi_wp2
      exact HF.out _ _ rfl rfl rfl rfl

end Go.Proofs.Ytcffekhlnidjnaa
