/- The document's Packed. -/
import Derived.Test.YtmhhakahjhjhlaaGreatG44
import Derived.Test.YtmhhakahjhjhlaaGreatHSPkR
namespace Go.Proofs.YtmhhakahjhjhlaaGreat
open Go.RowKit
set_option maxRecDepth 100000

theorem chn_head {s : AS} {ck : NP → Int} {lev : Int} {old : List Int} : ∀ (f : Nat) (id : Int) (low : List Int) (cur ch : Chn), s.chn ck lev old f id low cur = .inr ch → ∃ r, ch = cur ++ (id, low) :: r
  | 0, _, _, _, _, h => by rw [AS.chn] at h; cases h
  | f + 1, id, low, cur, ch, h => by
    rw [chn_succ] at h
    split at h
    · cases h
    · split at h
      · cases h; exact ⟨[], rfl⟩
      · obtain ⟨r, hr⟩ := chn_head f _ _ _ _ h
        exact ⟨((s.n id).ri, (s.n id).hi) :: r, by rw [hr]; simp⟩
theorem lvs_head {s : AS} {ck : NP → Int} : ∀ (f : Nat) (lev id : Int) (outs ls : List Chn), s.lvs ck f lev id outs = .inr ls → ∃ r t, ls = outs ++ ((id, []) :: r) :: t
  | 0, _, _, _, _, h => by rw [AS.lvs] at h; cases h
  | f + 1, lev, id, outs, ls, h => by
    rw [lvs_succ] at h
    cases hc : s.chn ck lev (idsOf outs) (s.sl.length + 1 - (idsOf outs).length) id [] [] with
    | inl e => rw [hc] at h; cases h
    | inr ch =>
      rw [hc] at h
      obtain ⟨r, hr⟩ := chn_head _ _ _ _ _ hc
      rw [List.nil_append] at hr
      unfold AS.step at h
      simp only at h
      split at h
      · cases h
      · split at h
        · cases h; exact ⟨r, [], by rw [hr]⟩
        · obtain ⟨r', t', h'⟩ := lvs_head f _ _ _ _ h
          exact ⟨r, ((s.first ch, []) :: r') :: t', by rw [h', hr, List.append_assoc]; rfl⟩
theorem look_root {s : AS} {nd lf inn fl bk : Int} {ls : List Chn} (h : s.look nd lf inn fl bk = .inr ls) : cfgOk nd lf inn fl bk ∧ ∃ r t, ls = ((s.root, []) :: r) :: t := by
  unfold AS.look at h
  split at h
  · rename_i hc
    split at h
    · cases h
    · obtain ⟨r, t, h'⟩ := lvs_head _ _ _ _ _ h
      exact ⟨hc, r, t, h'⟩
  · cases h
theorem kidSum_succ {s : AS} {c : Chn} {k : Nat} (h : k < c.length) : kidSum s (c.take (k + 1)) = kidSum s (c.take k) + (s.n c[k].1).cs.length := by
  unfold kidSum
  rw [List.take_succ_eq_append_getElem h, List.map_append, List.sum_append, List.map_cons, List.map_nil, List.sum_cons, List.sum_nil, Nat.add_zero]
/-- What the document's Packed gives. -/
def RpP (W : World) (nd lf inn fl bk : Int) (s : AS) (e : Ending) (w' : World) : Prop := Below W.heap.size W w' ∧ ((∃ id er, s.look nd lf inn fl bk = .inl (id, er) ∧ e = .returned (.bool false)) ∨ ∃ ls b, s.look nd lf inn fl bk = .inr ls ∧ e = .returned (.bool b) ∧ (b = true ↔ PkR s ls inn fl))

set_option maxRecDepth 100000 in
set_option maxHeartbeats 6400000 in
theorem rpacked_any {W : World} {A : Nat} {F : Nat → Prop} {s : AS} (hp : RX W A F s) (nd lf inn fl bk : Int) :
    Calls Tryz.prog 18 #[.pointer (some ⟨A, 0, none⟩), .agg #[.int .i64 nd, .int .i64 lf, .int .i64 inn, .int .i64 fl, .int .i64 bk]] W (RpP W nd lf inn fl bk s) := by
  obtain ⟨w1, hw1⟩ : ∃ x, x = W.alloc (.cells #[.int .i64 nd, .int .i64 lf, .int .i64 inn, .int .i64 fl, .int .i64 bk] 24) := ⟨_, rfl⟩
  have b1 : Below W.heap.size W w1 := by rw [hw1]; exact (Below.refl _ _).alloc (Nat.le_refl _) _
  have G1 : Hid (w1.heap[W.heap.size]? = some (.cells #[.int .i64 nd, .int .i64 lf, .int .i64 inn, .int .i64 fl, .int .i64 bk] 24 (0, 0))) := by show _ = _; rw [hw1]; exact heap_alloc_new W _
  have HW1 : Hid (W.alloc (.cells #[.int .i64 nd, .int .i64 lf, .int .i64 inn, .int .i64 fl, .int .i64 bk] 24) = w1) := hw1.symm
  have B1 := hide b1
  have HP1 := hide (hp.belowN b1)
  have HLV := hide (rlevels_any HP1.out nd lf inn fl bk)
  obtain ⟨d0, d1, d2, d3, d4⟩ := five_of G1.out
  have hz1 : W.heap.size < w1.heap.size := lt_of_block G1.out
  clear hw1 b1 hp
  go_enter Tryz.func18, Tryz.ntmps18
  go_upto_region 1 with fail
  rw [HW1.out]
  go_wp2_with fail
  refine HLV.out.mono ?_
  rintro e w3 ⟨hb3, ⟨id, er, hR, rfl⟩ | ⟨ls, Q, oa, oc, M, ma, mc, hR, rfl, hrl, hlv⟩⟩
  · as_aux_lemma =>
      simp only [rpt_form]
      obtain ⟨w4, hw4⟩ : ∃ x, x = w3.alloc (.cells #[.bool false, .int .i64 id, .int .i64 er, .int .i64 0, .int .i64 0, .int .i64 0] 33) := ⟨_, rfl⟩
      have b4 : Below w3.heap.size w3 w4 := by rw [hw4]; exact (Below.refl _ _).alloc (Nat.le_refl _) _
      have G4 : w4.heap[w3.heap.size]? = some (.cells #[.bool false, .int .i64 id, .int .i64 er, .int .i64 0, .int .i64 0, .int .i64 0] 33 (0, 0)) := by rw [hw4]; exact heap_alloc_new w3 _
      have BWF : Hid (Below W.heap.size W w4) := B1.out.trans ((hb3.trans (b4.mono hb3.size)).mono B1.out.size)
      have HRE := hide hR
      have HW4 := hide hw4
      have p0 := (Six.of G4).1
      clear hw4 b4 G4 hb3 hR d0 d1 d2 d3 d4
      go_upto_region 2 with fail
      rw [← HW4.out]
      go_wp2_with fail
      go_quiet (fail)
      go_wp2_with fail
      go_ret
      exact ⟨below_drewN BWF.out _, .inl ⟨id, er, HRE.out, rfl⟩⟩
  · simp only [rpt_form]
    have HR := hide hR
    obtain ⟨hcf, r0, t0', hls⟩ := look_root hR
    have hne := look_ne hR
    have hlen := hrl.len
    have hge := ids_ge hlv.ne
    have hml := hlv.met.len
    obtain ⟨g, c', Mf, D, L, hra, hnd, hfo, hflt⟩ := HP1.out
    have HLS : Hid (L.length = s.sl.length) := ndsR_lenS hnd
    have HNA : Hid (∀ i (hi : i < L.length) (id : Int), id = (i : Int) + 1 → s.n id = L[i].n.p) := fun i hi id hid => (ndsR_at hnd hi hid).2
    have hsl : L.length ≤ 65536 := hra.n_le
    have hnids : (idsOf ls).length ≤ 65536 := by have := HLS.out; omega
    have HIDZ : Hid (∀ i (hi : i < ls.length), ls[i].length ≤ 65536) := fun i hi => by have := ids_le (List.getElem_mem hi); omega
    have hposq : 0 < Q.length := by rw [hlen]; exact List.length_pos_iff.2 hne
    obtain ⟨q, hq⟩ : ∃ q, Q.length = q := ⟨_, rfl⟩
    have HQ := hide hq
    have HQL := hide hlen
    have hqz : q ≤ 65536 := by omega
    obtain ⟨w4, hw4⟩ : ∃ x, x = w3.alloc (.cells #[.bool true, .int .i64 0, .int .i64 0, .int .i64 0, .int .i64 0, .int .i64 0] 33) := ⟨_, rfl⟩
    have b4 : Below w3.heap.size w3 w4 := by rw [hw4]; exact (Below.refl _ _).alloc (Nat.le_refl _) _
    have G4 : w4.heap[w3.heap.size]? = some (.cells #[.bool true, .int .i64 0, .int .i64 0, .int .i64 0, .int .i64 0, .int .i64 0] 33 (0, 0)) := by rw [hw4]; exact heap_alloc_new w3 _
    have b14 := hb3.trans (b4.mono hb3.size)
    have HRL4 := hide (hrl.below b4)
    obtain ⟨go, hoa⟩ : ∃ go, oa = some ⟨go, 0, none⟩ := (HRL4.out.at_ 0 hposq).imp fun _ h => h.1
    subst hoa
    have HWX : Hid (∀ Y, Below w4.heap.size w4 Y → RA Y A g c' Mf D s.nodes s.root L ∧ (Y.cell? ⟨W.heap.size, 2, none⟩ = some (.int .i64 inn) ∧ Y.cell? ⟨W.heap.size, 3, none⟩ = some (.int .i64 fl)) ∧ Below W.heap.size W Y) := fun Y hu => by
      have hb := b14.trans (hu.mono b14.size)
      have gc := (hb.block _ (lt_of_block G1.out)).trans G1.out
      obtain ⟨_, _, h2, h3, _⟩ := five_of gc
      exact ⟨hra.upd (S := Noth) (Upd.of_below hb _) (fun _ _ e => e), ⟨h2, h3⟩, B1.out.trans (hb.mono B1.out.size)⟩
    have HROW : Hid (∀ i (hi : i < ls.length) Y, Below w4.heap.size w4 Y → ∃ ja jc js, (js.length = ls[i].length ∧ js = ls[i].map (·.1)) ∧ Y.cell? ⟨go, i * 2, none⟩ = some (.slice ja js.length jc) ∧ Row Y .i64 ja js) := fun i hi Y hu => by
      have hiQ : i < Q.length := by rw [hlen]; exact hi
      have hY := HRL4.out.below hu
      obtain ⟨g', hg', hc0, _⟩ := hY.at_ i hiQ
      cases hg'
      have h1 := hY.q i hiQ hi
      exact ⟨Q[i].1.a, Q[i].1.c, Q[i].1.s, ⟨by rw [h1.is, List.length_map], h1.is⟩, hc0, (il_of_owns h1.oL).r⟩
    have HINN : Hid (∀ i (hi : i < ls.length), ∀ x ∈ ls[i], s.inn x.1) := fun i hi x hx => hlv.met.inn _ (ids_mem (List.getElem_mem hi) hx)
    have HPOST : Hid (∀ Y b, Below w4.heap.size w4 Y → (b = true ↔ PkR s ls inn fl) → RpP W nd lf inn fl bk s (.returned (.bool b)) Y) := fun Y b hu hb => ⟨(HWX.out Y hu).2.2, .inr ⟨ls, b, HR.out, rfl, hb⟩⟩
    have HCKL : Hid (∀ i (hi : i < ls.length), ∀ x ∈ ls[i], 0 ≤ (s.n x.1).lv) := fun i hi x hx => (nchk_facts (hlv.ck _ (List.getElem_mem hi) x hx)).1
    have hl0 : 0 < ls.length := by rw [← hlen]; exact hposq
    have HLSR : Hid (ls[0].length = r0.length + 1 ∧ s.inn s.root) := ⟨by simp [hls], HINN.out 0 hl0 (s.root, []) (by simp [hls])⟩
    have HW4 := hide hw4
    have p0 := (Six.of G4).1
    rw [hq]
    clear hw4 b4 G4 b14 hb3 hR hrl hlv hra hnd hfo hflt hq hlen d0 d1 d2 d3 d4 HLV HP1 hls hge hml hposq
    go_upto_region 2 with fail
    rw [← HW4.out]
    obtain ⟨ja, jc, js, ⟨hjl, _⟩, hc0, _⟩ := HROW.out 0 hl0 w4 (Below.refl _ _)
    obtain ⟨n0, hn0⟩ : ∃ n0, js.length = n0 := ⟨_, rfl⟩
    rw [hn0] at hc0 hjl
    rw [Nat.zero_mul] at hc0
    obtain ⟨hra, _, _⟩ := HWX.out w4 (Below.refl _ _)
    obtain ⟨_, r1, r2⟩ := hra.cells
    obtain ⟨i0, hi0, hid, _⟩ := AS.idx HLSR.out.2
    have hiL : i0 < L.length := by rw [HLS.out]; exact hi0
    have f6 := (hra.node6 i0 hiL).2.2.2.2.2
    have hrk : (s.n s.root).cs.length = L[i0].n.cs.s.length := by rw [HNA.out i0 hiL s.root hid]; rfl
    obtain ⟨⟨ca, cc, C⟩, hC⟩ : ∃ y, L[i0].n.cs = y := ⟨_, rfl⟩
    rw [hC] at f6 hrk
    simp only [IL.v] at f6 hrk
    obtain ⟨rk, hrk2⟩ : ∃ y, C.length = y := ⟨_, rfl⟩
    rw [hrk2] at f6 hrk
    obtain ⟨rt, hrt⟩ : ∃ rt, s.root = rt := ⟨_, rfl⟩
    rw [hrt] at r2 hid
    have x1 : IntKind.i64.wrap (rt - 1) = (i0 : Int) := by rw [IntKind.wrap_i64]; omega
    have x2 : (i0 : Int) < (L.length : Int) := by omega
    obtain ⟨ll, hll⟩ : ∃ ll, L.length = ll := ⟨_, rfl⟩
    rw [hll] at r1 x2
    have x0 : (0 : Int) < (q : Int) := by have := HQL.out; have := HQ.out; omega
    have HTOP : Hid ((n0 = 1 ∧ (q ≤ 1 ∨ 2 ≤ rk)) ↔ ((ls.getD 0 []).length = 1 ∧ (ls.length ≤ 1 ∨ 2 ≤ (s.n s.root).cs.length))) := by
      show _ ↔ _
      rw [hrk, hjl, ← HQL.out, HQ.out]
      simp [List.getD_eq_getElem?_getD, hl0]
    clear hC hrk hrk2 hid hi0 hiL hra hjl hn0 hll
    go_cut [51] (fun s51 wx => ∃ b, s51 = .bool b ∧ Hid (b = true ↔ ¬ (n0 = 1 ∧ (q ≤ 1 ∨ 2 ≤ rk))) ∧ Hid (∃ m, wx = w4.drewN m))
    case first =>
      as_aux_lemma =>
        by_cases h1 : n0 = 1
        · subst h1
          by_cases h2 : 1 < q
          · have y1 : (1 : Int) < (q : Int) := by omega
            by_cases h3 : rk < 2
            · have y2 : (rk : Int) < 2 := by omega
              go_wp2_with fail
              go_quiet (fail)
              try go_wp2_with fail
              go_meet
              exact ⟨true, rfl, ⟨fun _ e => by omega, fun _ => rfl⟩, _, rfl⟩
            · have y2 : decide ((rk : Int) < 2) = false := decide_eq_false (by omega)
              go_wp2_with fail
              go_quiet (fail)
              try go_wp2_with fail
              go_meet
              exact ⟨false, by simp, ⟨fun e => (by cases e), fun e => absurd ⟨by trivial, .inr (by omega)⟩ e⟩, _, rfl⟩
          · have y1 : decide ((1 : Int) < (q : Int)) = false := decide_eq_false (by omega)
            go_wp2_with fail
            go_quiet (fail)
            try go_wp2_with fail
            go_meet
            exact ⟨false, rfl, ⟨fun e => (by cases e), fun e => absurd ⟨by trivial, .inl (by omega)⟩ e⟩, _, rfl⟩
        · have y0 : ((n0 : Int) != 1) = true := by rw [bne_iff_ne]; omega
          go_wp2_with fail
          go_quiet (fail)
          try go_wp2_with fail
          go_meet
          exact ⟨true, rfl, ⟨fun _ e => h1 e.1, fun _ => rfl⟩, _, rfl⟩
    case rest =>
    rename World => w5
    obtain ⟨b51, rfl, HB, HJ⟩ := hcut
    have B45 : Hid (Below w4.heap.size w4 w5) := by obtain ⟨j, hj⟩ := HJ.out; show Below _ _ _; rw [hj]; exact below_drewN (Below.refl _ _) j
    clear f6 r1 r2 x1 x2 x0 hc0 p0 HJ
    cases b51 with
    | true =>
      have HF := hide (HPOST.out w5 false B45.out ⟨fun e => (by cases e), fun h => absurd (HTOP.out.2 ⟨h.one, h.two⟩) (HB.out.1 rfl)⟩)
      go_wp2_with fail
      go_ret
      exact HF.out
    | false =>
      have HTP : Hid ((ls.getD 0 []).length = 1 ∧ (ls.length ≤ 1 ∨ 2 ≤ (s.n s.root).cs.length)) := HTOP.out.1 (Decidable.byContradiction fun h => by have := HB.out.2 h; cases this)
      clear HB HTOP
      go_wp2_with fail
      go_loopw [7, 8, 9, 10, 11] (fun q7 _ _ _ _ wr => ∃ i : Nat, i ≤ q ∧ q7 = .int .i64 (i : Int) ∧ Hid (∀ i', i' < i → (∀ k, k < (ls.getD i' []).length → nodeOk s (ls.getD i' []) k inn fl) ∧ (i' + 1 < ls.length → kidSum s (ls.getD i' []) = (ls.getD (i' + 1) []).length)) ∧ Hid (Below w4.heap.size w4 wr)) (fun q7 _ _ _ _ _ => q - (intOf q7).toNat)
      case atStart => exact ⟨0, Nat.zero_le _, rfl, fun i' h => absurd h (Nat.not_lt_zero i'), B45⟩
      case round =>
        obtain ⟨i, hi, rfl, HDN, BWR⟩ := hrel
        rename World => wr
        by_cases hlt : i < q
        · have j1 : (i : Int) < (q : Int) := by omega
          have hil : i < ls.length := by rw [← HQL.out, HQ.out]; exact hlt
          have hci : ls.getD i [] = ls[i] := by simp [List.getD_eq_getElem?_getD, hil]
          have HCI := hide hci
          obtain ⟨ja, jc, js, ⟨hjl, hjs⟩, hc0, _⟩ := HROW.out i hil wr BWR.out
          have hjz := HIDZ.out i hil
          have HROWI : Hid (∀ Y, Below w4.heap.size w4 Y → ∃ ja' jc' js', (js'.length = ls[i].length ∧ js' = ls[i].map (·.1)) ∧ Y.cell? ⟨go, i * 2, none⟩ = some (.slice ja' js'.length jc') ∧ Row Y .i64 ja' js') := fun Y hu => HROW.out i hil Y hu
          have HINI := hide (HINN.out i hil)
          have HLVI := hide (HCKL.out i hil)
          have HNXT : Hid (∀ h : i + 1 < ls.length, ∀ Y, Below w4.heap.size w4 Y → ∃ ja' jc' js', (js'.length = ls[i + 1].length ∧ js' = ls[i + 1].map (·.1)) ∧ Y.cell? ⟨go, (i + 1) * 2, none⟩ = some (.slice ja' js'.length jc') ∧ Row Y .i64 ja' js') := fun h Y hu => HROW.out (i + 1) h Y hu
          obtain ⟨c, hc⟩ : ∃ c, ls[i] = c := ⟨_, rfl⟩
          rw [hc] at hjl hjs hjz HROWI HINI HLVI HCI
          obtain ⟨jl, hjl2⟩ : ∃ jl, c.length = jl := ⟨_, rfl⟩
          rw [hjl2] at hjl hjz
          have HJL := hide hjl2
          have HLI := hide hil
          clear hc0 hjs hjl hci hc hjl2 hil
          go_upto_region 8 with fail
          go_wp2_with fail
          go_loopw [8, 9, 10, 11] (fun q8 q9 _ _ wz => ∃ k sm : Nat, k ≤ jl ∧ q9 = .int .i64 (k : Int) ∧ q8 = .int .i64 (sm : Int) ∧ Hid (sm = kidSum s (c.take k) ∧ sm ≤ k * 17592186044000 ∧ ∀ k', k' < k → nodeOk s c k' inn fl) ∧ Hid (Below w4.heap.size w4 wz)) (fun _ q9 _ _ _ => jl - (intOf q9).toNat)
          case atStart => exact ⟨0, 0, Nat.zero_le _, rfl, rfl, ⟨rfl, Nat.zero_le _, fun k' h => absurd h (Nat.not_lt_zero k')⟩, BWR⟩
          case round =>
            obtain ⟨k, sm, hk, rfl, rfl, HSM, BWZ⟩ := hrel
            rename World => wz
            obtain ⟨ja, jc, js, ⟨hjl, hjs⟩, hc0, hrow⟩ := HROWI.out wz BWZ.out
            rw [hjl, HJL.out] at hc0
            obtain ⟨hra, ⟨e2, e3⟩, _⟩ := HWX.out wz BWZ.out
            have lgo : go < wz.heap.size := World.block_lt_of_cell? wz ⟨go, i * 2, none⟩ hc0
            have lcf : W.heap.size < wz.heap.size := World.block_lt_of_cell? wz ⟨W.heap.size, 2, none⟩ e2
            by_cases hkl : k < jl
            · have j2 : (k : Int) < (jl : Int) := by omega
              have hkc : k < c.length := by rw [HJL.out]; exact hkl
              have hkj : k < js.length := by rw [hjl]; exact hkc
              obtain ⟨bi, oi, hva, hcell⟩ := hrow k hkj
              subst hva
              have hgd : js.getD k 0 = c[k].1 := by rw [hjs]; simp [hkc]
              rw [hgd] at hcell
              have hinn := HINI.out c[k] (List.getElem_mem hkc)
              have hlv0 := HLVI.out c[k] (List.getElem_mem hkc)
              have hks := kidSum_succ (s := s) hkc
              have HGD : Hid ((c.getD k (0, [])).1 = c[k].1) := by show _ = _; simp [List.getD_eq_getElem?_getD, hkc]
              obtain ⟨id, hid0⟩ : ∃ id, c[k].1 = id := ⟨_, rfl⟩
              rw [hid0] at hcell hinn hlv0 hks HGD
              obtain ⟨k0, hk0, hid, _⟩ := AS.idx hinn
              have hkL : k0 < L.length := by rw [HLS.out]; exact hk0
              obtain ⟨_, r1, _⟩ := hra.cells
              obtain ⟨f1, f2, f3, f4, f5, f6⟩ := hra.node6 k0 hkL
              have hnn := HNA.out k0 hkL id hid
              have hcz := (hra.sl L[k0] (List.getElem_mem hkL)).n.cz
              obtain ⟨n0', hn0'⟩ : ∃ n0', L[k0].n = n0' := ⟨_, rfl⟩
              rw [hn0'] at f1 f2 f3 f4 f5 f6 hnn hcz
              have x1 : IntKind.i64.wrap (id - 1) = (k0 : Int) := by rw [IntKind.wrap_i64]; omega
              have x2 : (k0 : Int) < (L.length : Int) := by omega
              obtain ⟨ll2, hll2⟩ : ∃ ll, L.length = ll := ⟨_, rfl⟩
              rw [hll2] at r1 x2
              obtain ⟨nlv, ⟨ha, hc, hs⟩, ri, ⟨ka, kc, K⟩, ⟨va, vc, V⟩, ⟨ca, cc, C⟩⟩ := n0'
              have hl1 : (s.n id).lv = nlv := by rw [hnn]; rfl
              have hl2 : (s.n id).ks.length = K.length := by rw [hnn]; exact TL.p_len _
              have hl3 : (s.n id).cs.length = C.length := by rw [hnn]; rfl
              simp only [Tx.v, TL.v, IL.v] at f1 f2 f3 f4 f5 f6
              obtain ⟨lh, hlh⟩ : ∃ x, hs.length = x := ⟨_, rfl⟩
              obtain ⟨lk, hlk⟩ : ∃ x, K.length = x := ⟨_, rfl⟩
              obtain ⟨lw, hlw⟩ : ∃ x, V.length = x := ⟨_, rfl⟩
              obtain ⟨lcc, hlc⟩ : ∃ x, C.length = x := ⟨_, rfl⟩
              rw [hlh] at f2
              rw [hlk] at f4 hl2
              rw [hlw] at f5
              rw [hlc] at f6 hl3
              simp only at hcz
              rw [hlc] at hcz
              rw [hl1] at hlv0
              have HNOK : Hid (nodeOk s c k inn fl ↔ ((nlv = 0 → (lk : Int) ≤ fl ∧ (k + 1 < jl → fl ≤ (lk : Int)) ∧ (0 < lk ∨ jl ≤ 1)) ∧ (0 < nlv → k + 1 < jl → (lcc : Int) = inn))) := by
                show _ ↔ _
                unfold nodeOk
                rw [HGD.out, hl1, hl2, hl3, HJL.out]
              have HKS : Hid (kidSum s (c.take (k + 1)) = kidSum s (c.take k) + lcc) := by show _ = _; rw [hks, hl3]
              have l1 : A < wz.heap.size := World.block_lt_of_cell? wz ⟨A, 1, none⟩ r1
              have l3 : g < wz.heap.size := World.block_lt_of_cell? wz ⟨g, k0 * 7 + 1, none⟩ f1
              have l4 : bi < wz.heap.size := World.block_lt_of_cell? wz ⟨bi, oi + k, none⟩ hcell
              have HSM1 := hide HSM.out.1
              have hsmz := HSM.out.2.1
              have HSM3 := hide HSM.out.2.2
              have HNOTP : Hid (¬ nodeOk s c k inn fl → ¬ PkR s ls inn fl) := fun h hP => h (by
                have := hP.nodes i HLI.out k (by rw [HCI.out, HJL.out]; exact hkl)
                rw [HCI.out] at this
                exact this)
              clear hn0' hll2 hlh hlk hlw hlc hnn hra hid hk0 hinn hid0 hgd hkL hks hl1 hl2 hl3 hjl hjs hrow HSM HGD
              go_upto_region 11 with fail
              go_cut [10] (fun s10 wx => s10 = .pointer (some ⟨wz.heap.size, 0, none⟩) ∧ Hid (wx = (wz.alloc (.cells #[.int .i64 nlv, .slice ha lh hc, .int .i64 ri, .slice ka lk kc, .slice va lw vc, .slice ca lcc cc] 64)).drew))
              case first =>
                as_aux_lemma =>
                  go_wp2_with fail
                  go_region
                  try go_wp2_with fail
                  go_meet
                  exact ⟨rfl, rfl⟩
              case rest =>
              rename World => wn
              obtain ⟨rfl, HWN⟩ := hcut
              have hwn := HWN.out
              have bn : Below wz.heap.size wz wn := by rw [hwn]; exact below_drew ((Below.refl _ _).alloc (Nat.le_refl _) _)
              have gn : wn.heap[wz.heap.size]? = some (.cells #[.int .i64 nlv, .slice ha lh hc, .int .i64 ri, .slice ka lk kc, .slice va lw vc, .slice ca lcc cc] 64 (0, 0)) := by rw [hwn]; exact heap_alloc_new wz _
              obtain ⟨t0, _, _, t3, _, t5⟩ := Six.of gn
              replace hc0 : wn.cell? ⟨go, i * 2, none⟩ = some (.slice (some ⟨bi, oi, none⟩) jl jc) := (bn.cell (p := ⟨go, i * 2, none⟩) lgo).trans hc0
              replace e2 : wn.cell? ⟨W.heap.size, 2, none⟩ = some (.int .i64 inn) := (bn.cell (p := ⟨W.heap.size, 2, none⟩) lcf).trans e2
              replace e3 : wn.cell? ⟨W.heap.size, 3, none⟩ = some (.int .i64 fl) := (bn.cell (p := ⟨W.heap.size, 3, none⟩) lcf).trans e3
              have BWN : Hid (Below w4.heap.size w4 wn) := BWZ.out.trans (bn.mono BWZ.out.size)
              clear hwn bn gn f1 f2 f3 f4 f5 f6 r1 x1 x2 l1 l3 l4 HWN hcell lgo lcf
              have x3 : IntKind.i64.wrap ((jl : Int) - 1) = (jl : Int) - 1 := by rw [IntKind.wrap_i64]; omega
              go_upto_region 12 with fail
              go_cut [11] (fun s11 wx => ∃ lb, s11 = .bool lb ∧ Hid (lb = true ↔ k + 1 = jl) ∧ Hid (wx = wn))
              case first =>
                as_aux_lemma =>
                  by_cases hlb : k + 1 = jl
                  · have y1 : ((k : Int) == (jl : Int) - 1) = true := by rw [beq_iff_eq]; omega
                    have HLB := hide hlb
                    clear hlb
                    go_wp2_with fail
                    go_meet
                    exact ⟨true, rfl, ⟨fun _ => HLB.out, fun _ => rfl⟩, rfl⟩
                  · have y1 : ((k : Int) == (jl : Int) - 1) = false := by rw [beq_eq_false_iff_ne]; omega
                    go_wp2_with fail
                    go_meet
                    exact ⟨false, rfl, ⟨fun e => (by cases e), fun e => absurd e hlb⟩, rfl⟩
              case rest =>
              obtain ⟨lb, rfl, HLB, hwc⟩ := hcut
              obtain rfl := hwc.out
              clear hwc
              go_upto_region 13 with fail
              go_cut [134] (fun s1 wx => ∃ b1, s1 = .bool b1 ∧ Hid (b1 = true ↔ ¬ (nlv = 0 → (lk : Int) ≤ fl ∧ (k + 1 < jl → fl ≤ (lk : Int)) ∧ (0 < lk ∨ jl ≤ 1))) ∧ Hid (wx = wc))
              case first =>
                as_aux_lemma =>
                  by_cases h0 : nlv = 0
                  · subst h0
                    by_cases h1 : (fl : Int) < (lk : Int)
                    · have HH := hide h1
                      go_wp2_with fail
                      go_meet
                      exact ⟨true, rfl, ⟨fun _ e => absurd (e (by trivial)).1 (by have := HH.out; omega), fun _ => rfl⟩, rfl⟩
                    · have z1 : decide ((fl : Int) < (lk : Int)) = false := decide_eq_false h1
                      have HH := hide h1
                      cases lb with
                      | true =>
                        have hlb := HLB.out.1 rfl
                        have HLBT := hide hlb
                        clear hlb
                        by_cases h3 : lk = 0
                        · have z3 : ((lk : Int) == 0) = true := by rw [beq_iff_eq]; omega
                          have HL0 := hide h3
                          clear h3
                          by_cases h4 : (1 : Int) < (jl : Int)
                          · have HJ1 := hide h4
                            go_wp2_with fail
                            go_meet
                            exact ⟨true, rfl, ⟨fun _ e => (e (by trivial)).2.2.elim (fun h => by have := HL0.out; omega) (fun h => by have := HJ1.out; omega), fun _ => rfl⟩, rfl⟩
                          · have z4 : decide ((1 : Int) < (jl : Int)) = false := decide_eq_false h4
                            go_wp2_with fail
                            go_meet
                            exact ⟨false, rfl, ⟨fun e => (by cases e), fun e => absurd (fun _ => ⟨by have := HH.out; omega, fun h => by have := HLBT.out; omega, .inr (by omega)⟩) e⟩, rfl⟩
                        · have z3 : ((lk : Int) == 0) = false := by rw [beq_eq_false_iff_ne]; omega
                          go_wp2_with fail
                          go_meet
                          exact ⟨false, rfl, ⟨fun e => (by cases e), fun e => absurd (fun _ => ⟨by have := HH.out; omega, fun h => by have := HLBT.out; omega, .inl (by omega)⟩) e⟩, rfl⟩
                      | false =>
                        by_cases h2 : (lk : Int) < (fl : Int)
                        · have HL2 := hide h2
                          have HNL : Hid (k + 1 < jl) := by have : ¬ k + 1 = jl := fun e => by have := HLB.out.2 e; cases this
                                                            show k + 1 < jl; omega
                          go_wp2_with fail
                          go_meet
                          exact ⟨true, rfl, ⟨fun _ e => absurd ((e (by trivial)).2.1 HNL.out) (by have := HL2.out; omega), fun _ => rfl⟩, rfl⟩
                        · have z2 : decide ((lk : Int) < (fl : Int)) = false := decide_eq_false h2
                          have HL2 := hide h2
                          by_cases h3 : lk = 0
                          · have z3 : ((lk : Int) == 0) = true := by rw [beq_iff_eq]; omega
                            have HL0 := hide h3
                            clear h3
                            by_cases h4 : (1 : Int) < (jl : Int)
                            · have HJ1 := hide h4
                              go_wp2_with fail
                              go_meet
                              exact ⟨true, rfl, ⟨fun _ e => (e (by trivial)).2.2.elim (fun h => by have := HL0.out; omega) (fun h => by have := HJ1.out; omega), fun _ => rfl⟩, rfl⟩
                            · have z4 : decide ((1 : Int) < (jl : Int)) = false := decide_eq_false h4
                              go_wp2_with fail
                              go_meet
                              exact ⟨false, rfl, ⟨fun e => (by cases e), fun e => absurd (fun _ => ⟨by have := HH.out; omega, fun h => by have := HL2.out; omega, .inr (by omega)⟩) e⟩, rfl⟩
                          · have z3 : ((lk : Int) == 0) = false := by rw [beq_eq_false_iff_ne]; omega
                            go_wp2_with fail
                            go_meet
                            exact ⟨false, rfl, ⟨fun e => (by cases e), fun e => absurd (fun _ => ⟨by have := HH.out; omega, fun h => by have := HL2.out; omega, .inl (by omega)⟩) e⟩, rfl⟩
                  · have z0 : (nlv == 0) = false := by rw [beq_eq_false_iff_ne]; exact h0
                    go_wp2_with fail
                    go_meet
                    exact ⟨false, rfl, ⟨fun e => (by cases e), fun e => absurd (fun e => absurd e h0) e⟩, rfl⟩
              case rest =>
              obtain ⟨b1, rfl, HB1, hwc⟩ := hcut
              rename World => wd
              obtain rfl := hwc.out
              clear hwc
              cases b1 with
              | true =>
                have HF := hide (HPOST.out wd false BWN.out ⟨fun e => (by cases e), fun h => absurd h (HNOTP.out (fun h2 => HB1.out.1 rfl (HNOK.out.1 h2).1))⟩)
                go_wp2_with fail
                go_ret
                exact HF.out
              | false =>
                have HG1 := hide (show (nlv = 0 → (lk : Int) ≤ fl ∧ (k + 1 < jl → fl ≤ (lk : Int)) ∧ (0 < lk ∨ jl ≤ 1)) from Decidable.byContradiction fun h => by have := HB1.out.2 h; cases this)
                clear HB1
                go_upto_region 15 with fail
                go_cut [151] (fun s1 wx => ∃ b2, s1 = .bool b2 ∧ Hid (b2 = true ↔ ¬ (0 < nlv → k + 1 < jl → (lcc : Int) = inn)) ∧ Hid (wx = wd))
                case first =>
                  as_aux_lemma =>
                    by_cases h0 : 0 < nlv
                    · cases lb with
                      | true =>
                        have HLBT := hide (HLB.out.1 rfl)
                        go_wp2_with fail
                        go_meet
                        exact ⟨false, rfl, ⟨fun e => (by cases e), fun e => absurd (fun _ h => by have := HLBT.out; omega) e⟩, rfl⟩
                      | false =>
                        have HNL : Hid (k + 1 < jl) := by have : ¬ k + 1 = jl := fun e => by have := HLB.out.2 e; cases this
                                                          show k + 1 < jl; omega
                        by_cases h1 : (lcc : Int) = inn
                        · have z1 : ((lcc : Int) != inn) = false := by rw [bne_eq_false_iff_eq]; exact h1
                          have HH := hide h1
                          clear h1
                          go_wp2_with fail
                          go_meet
                          exact ⟨false, rfl, ⟨fun e => (by cases e), fun e => absurd (fun _ _ => HH.out) e⟩, rfl⟩
                        · have z1 : ((lcc : Int) != inn) = true := by rw [bne_iff_ne]; exact h1
                          have HH := hide h1
                          have H0 := hide h0
                          go_wp2_with fail
                          go_meet
                          exact ⟨true, rfl, ⟨fun _ e => HH.out (e H0.out HNL.out), fun _ => rfl⟩, rfl⟩
                    · have z0 : decide (0 < nlv) = false := decide_eq_false h0
                      go_wp2_with fail
                      go_meet
                      exact ⟨false, rfl, ⟨fun e => (by cases e), fun e => absurd (fun e => by omega) e⟩, rfl⟩
                case rest =>
                obtain ⟨b2, rfl, HB2, hwc⟩ := hcut
                rename World => we
                obtain rfl := hwc.out
                clear hwc
                cases b2 with
                | true =>
                  have HF := hide (HPOST.out we false BWN.out ⟨fun e => (by cases e), fun h => absurd h (HNOTP.out (fun h2 => HB2.out.1 rfl (HNOK.out.1 h2).2))⟩)
                  go_wp2_with fail
                  go_ret
                  exact HF.out
                | false =>
                  have HG2 := hide (show (0 < nlv → k + 1 < jl → (lcc : Int) = inn) from Decidable.byContradiction fun h => by have := HB2.out.2 h; cases this)
                  have hlz : lcc ≤ 17592186044000 := by omega
                  have hsm2 : sm + lcc ≤ (k + 1) * 17592186044000 := by rw [Nat.add_mul]; omega
                  have hsm3 : sm + lcc ≤ 1200000000000000000 := Nat.le_trans hsm2 (Nat.le_trans (Nat.mul_le_mul_right _ (show k + 1 ≤ 65536 by omega)) (by decide))
                  have x4 : IntKind.i64.wrap ((sm : Int) + (lcc : Int)) = (sm : Int) + (lcc : Int) := by rw [IntKind.wrap_i64]; omega
                  have HSN : Hid (((sm + lcc : Nat) : Int) = (sm : Int) + (lcc : Int)) := by show _ = _; omega
                  have HSM2 := hide hsm2
                  clear HB2 hlz hsm2 hsm3 hsmz
                  go_wp2_with fail
                  go_roundw
                  case rel => exact ⟨k + 1, sm + lcc, by omega, by go_num, by rw [HSN.out], ⟨by rw [HKS.out, ← HSM1.out], HSM2.out, fun k' hk' => by
                    rcases Nat.lt_or_ge k' k with h | h
                    · exact HSM3.out k' h
                    · obtain rfl : k' = k := by omega
                      exact HNOK.out.2 ⟨HG1.out, HG2.out⟩⟩, BWN⟩
                  case measure => simp [intOf]; omega
            · as_aux_lemma =>
                have j2 : ¬ (k : Int) < (jl : Int) := by omega
                obtain rfl : k = jl := by omega
                have hall : kidSum s (c.take k) = kidSum s c := by rw [List.take_of_length_le (by rw [HJL.out]; exact Nat.le_refl _)]
                have hsm : sm = kidSum s c := by rw [← hall]; exact HSM.out.1
                have HSMK := hide hsm
                have HNODES : Hid (∀ k', k' < (ls.getD i []).length → nodeOk s (ls.getD i []) k' inn fl) := fun k' hk' => by rw [HCI.out] at hk' ⊢; rw [HJL.out] at hk'; exact HSM.out.2.2 k' hk'
                have HNEXT : Hid ((i + 1 < ls.length → kidSum s (ls.getD i []) = (ls.getD (i + 1) []).length) → ∀ i', i' < i + 1 → (∀ k, k < (ls.getD i' []).length → nodeOk s (ls.getD i' []) k inn fl) ∧ (i' + 1 < ls.length → kidSum s (ls.getD i' []) = (ls.getD (i' + 1) []).length)) := fun h i' hi' => by
                  rcases Nat.lt_or_ge i' i with h4 | h4
                  · exact HDN.out i' h4
                  · obtain rfl : i' = i := by omega
                    exact ⟨HNODES.out, h⟩
                have x6 : IntKind.i64.wrap ((i : Int) + 1) = (i : Int) + 1 := by rw [IntKind.wrap_i64]; omega
                clear hall hsm HSM hra hrow hjs hjl e2 e3 lcf
                by_cases hnx : i + 1 < q
                · have hnl : i + 1 < ls.length := by rw [← HQL.out, HQ.out]; exact hnx
                  obtain ⟨ja', jc', js', ⟨hl', _⟩, hd0, _⟩ := HNXT.out hnl wz BWZ.out
                  obtain ⟨nl, hnl2⟩ : ∃ nl, js'.length = nl := ⟨_, rfl⟩
                  rw [hnl2] at hd0 hl'
                  have HSUM : Hid (sm = nl ↔ kidSum s (ls.getD i []) = (ls.getD (i + 1) []).length) := by
                    show _ ↔ _
                    rw [HCI.out, ← HSMK.out, hl']
                    simp [List.getD_eq_getElem?_getD, hnl]
                  have j3 : (i : Int) + 1 < (q : Int) := by omega
                  have j4 : ((i + 1 : Nat) : Int) = (i : Int) + 1 := by omega
                  clear hl' hnl2
                  by_cases hs : sm = nl
                  · have y1 : ((sm : Int) != (nl : Int)) = false := by rw [bne_eq_false_iff_eq]; omega
                    have HDN2 := hide (HNEXT.out (fun _ => HSUM.out.1 hs))
                    clear hs
                    go_wp2_with fail
                    go_roundw
                    case rel => exact ⟨i + 1, by omega, by go_num, HDN2, BWZ⟩
                    case measure => simp [intOf]; omega
                  · have y1 : ((sm : Int) != (nl : Int)) = true := by rw [bne_iff_ne]; omega
                    have HF := hide (HPOST.out wz false BWZ.out ⟨fun e => (by cases e), fun h => absurd (HSUM.out.2 (h.sums i hnl)) hs⟩)
                    clear hs
                    go_wp2_with fail
                    go_ret
                    exact HF.out
                · have j3 : ¬ (i : Int) + 1 < (q : Int) := by omega
                  have HDN2 := hide (HNEXT.out (fun h => absurd (by rw [← HQL.out, HQ.out] at h; exact h) hnx))
                  go_wp2_with fail
                  go_roundw
                  case rel => exact ⟨i + 1, by omega, by go_num, HDN2, BWZ⟩
                  case measure => simp [intOf]; omega
        · have j1 : ¬ (i : Int) < (q : Int) := by omega
          obtain rfl : i = q := by omega
          have HF := hide (HPOST.out wr true BWR.out ⟨fun _ => ⟨HTP.out.1, HTP.out.2, fun i' hi' => (HDN.out i' (by rw [← HQ.out, HQL.out]; exact hi')).1, fun i' hi' => (HDN.out i' (by rw [← HQ.out, HQL.out]; omega)).2 hi'⟩, fun _ => rfl⟩)
          go_wp2_with fail
          go_ret
          exact HF.out

end Go.Proofs.YtmhhakahjhjhlaaGreat
