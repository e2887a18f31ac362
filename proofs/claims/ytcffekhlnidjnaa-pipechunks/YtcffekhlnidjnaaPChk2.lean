/- PipeChunks: a round of its loop. -/
import Derived.Test.YtcffekhlnidjnaaPChk
namespace Go.Proofs.Ytcffekhlnidjnaa
open Go.RowKit Go.Shelf
attribute [local go_sem] Oper.semAt_some

theorem b8_getD {zs : List Int} (h : B8 zs) (i : Nat) (hi : i < zs.length) : 0 ≤ zs.getD i 0 ∧ zs.getD i 0 ≤ 255 := h _ (by
  rw [List.getD_eq_getElem?_getD, List.getElem?_eq_getElem hi]; exact List.getElem_mem hi)
theorem two2_mem {σ : Type} {Cs : List RC} {l : List (List Int × Int × σ)} (h : Cs.map RC.t = two2 l) {d : RC} (hd : d ∈ Cs) : ∃ c ∈ l, c.1 = d.b := by
  have : d.t ∈ two2 l := by rw [← h]; exact List.mem_map.2 ⟨d, hd, rfl⟩
  obtain ⟨c, hc, e⟩ := List.mem_map.1 this
  exact ⟨c, hc, by have := congrArg Prod.fst e; exact this⟩

set_option maxRecDepth 100000 in
set_option maxHeartbeats 2000000 in
theorem chk_round (n : Nat) (hn : 12 ≤ n) (w w1 : World) (N L0 : Nat) (zs gs : List Int) (fail : Int) (eager : Bool) (size : Int) (ab : Option Addr) (lb cb : Nat) (ag : Option Addr) (lg cg : Nat) (al : Option Addr) (ll cl g r B6 : Nat) (lv : List Int) (M : Nat → Prop) (hlb : zs.length = lb) (hlg : gs.length = lg)
    (hF : ChF w w1 N L0 zs al ll lv B6 r M) (i : Nat) (hi : i ≤ ll + 1) (act : Act) (X : World) (Q : Exit → Act → World → Prop) (hat : CAt w w1 N L0 zs gs fail eager size ab lb cb ag lg cg al ll cl g r B6 M i act X) (hQ : ∀ act X', CEnd w w1 N L0 size al ll cl g r B6 act X' → Q (.exit 0) act X') :
    (loopOf (firstOf (partOf 4 (Try.f6.body.getD .skip)))).wpIn Fence.wide n Try.prog (Exit.then (fun act' X' => i ≤ ll ∧ CAt w w1 N L0 zs gs fail eager size ab lb cb ag lg cg al ll cl g r B6 M (i + 1) act' X') Q) act X := by
  obtain ⟨f, ds, c, k, rfl, hW, hLX, hmk⟩ := hat
  have h1 : 1 ≤ n := by omega
  have HQ := hide hQ
  have HM := hide hmk
  have HW := hide hW
  have HF := hide hF
  have hll := hF.lm
  clear hQ hmk hW hF
  conv => arg 4; whnf
  by_cases hil : i = ll + 1
  · subst hil
    have g1 : ¬ ((ll + 1 : Nat) : Int) ≤ (ll : Int) := by omega
    gi_wp2
    exact HQ.out _ _ (CEnd.mk rfl rfl rfl rfl rfl rfl HW.out.up HM.out)
  · have g1 : (i : Int) ≤ (ll : Int) := by omega
    have hsX := HW.out.up.size
    have hNX : N ≤ X.heap.size := by rw [HF.out.hN]; exact hsX
    have hzm := HF.out.zm
    have hbc := HW.out.bc
    by_cases hlt : i < ll
    · have g2 : (i : Int) < (ll : Int) := by omega
      have g3 : (0 : Int) ≤ (i : Int) := by omega
      have hrowX : Row X .u8 al lv := HF.out.row.upd HW.out.up (fun y hy h0 e => by have := row_ltC HF.out.row hy h0; have := HF.out.hN; omega)
      obtain ⟨bl, ol, rfl, hcell⟩ := hrowX i (by rw [HF.out.len]; exact hlt)
      have h8 := b8_getD HF.out.l8 i (by rw [HF.out.len]; exact hlt)
      obtain ⟨v, hv⟩ : ∃ v : Nat, lv.getD i 0 = v := ⟨(lv.getD i 0).toNat, by omega⟩
      have hv8 : v ≤ 255 := by omega
      rw [hv] at hcell
      obtain ⟨lim, hlim⟩ : ∃ lim, lim = 1 + v := ⟨_, rfl⟩
      have hl1 : 1 ≤ lim := by omega
      have hl2 : lim ≤ 2147483648 := by omega
      have hwr : IntKind.i64.wrap (v : Int) = (v : Int) := by rw [IntKind.wrap_i64]; omega
      have hcell2 := (World.cell?_alloc_old X (.cells #[.int .i64 2147483648] 3) ⟨bl, ol + i, none⟩ (Nat.ne_of_lt (World.block_lt_of_cell? X ⟨bl, ol + i, none⟩ hcell))).trans hcell
      clear hrowX hv h8
      have hzl : (lim : Int) = (1 + (v : Int)) := by omega
      obtain ⟨M3, hrs⟩ := HW.out.rsr
      have hR0 := rsrc_reader zs gs fail eager ab lb cb ag lg cg 0 r N HF.out.z8 (by omega) hlb hlg (by omega)
      have u8 : Upd Noth X (X.alloc (.cells #[.int .i64 (1 + (v : Int))] 3)) := (Upd.refl _ _).alloc _
      have s8 : (X.alloc (.cells #[.int .i64 (1 + (v : Int))] 3)).heap.size = X.heap.size + 1 := World.size_alloc _ _
      have hM3 : ∀ j, M3 j → j = r := fun j hj => (hrs.1 j).1 hj
      have hrl := (hR0.lt hrs r ((hrs.1 r).2 rfl))
      have HCH := hide ((callsIn_wide (n := n - 1)).2 (rchunksS_any zs gs fail eager size ab lb cb ag lg cg r N M3 (X.alloc (.cells #[.int .i64 (1 + (v : Int))] 3)) c k HF.out.z8 hlb hlg (by omega) (hR0.upd hrs u8 (fun j e => e.elim)) (by omega) (by omega) lim hl1 hl2))
      rw [hzl] at HCH
      have HHZ := hide hzl
      have HLIM := hide hlim
      have b11 : Boxed (X.alloc (.cells #[.int .i64 (1 + (v : Int))] 3)) X.heap.size 3 (.int .i64 (1 + (v : Int))) := Boxed.new X _ _
      have HB11 := hide b11
      have HU8 := hide u8
      have HS8 := hide s8
      have HR0 := hide hR0
      have HM3 := hide hM3
      have HRL := hide hrl
      clear hlim hzl b11 u8 s8 hR0 hM3 hrl hrs
      gi_wp2
      generalize X.alloc (.cells #[.int .i64 (1 + (v : Int))] 3) = W8 at *
      refine ⟨trivial, HCH.out.mono ?_⟩
      rintro e w9 ⟨v9, Cs, M9, rfl, hcl, hcs, hrd9, hm9, hu9⟩
      obtain ⟨av, cv, rfl⟩ := owns2_open hcl.own
      obtain ⟨nC, hnC⟩ : ∃ nC, nC = Cs.length := ⟨_, rfl⟩
      rw [← hnC] at hcl ⊢
      have hs9 := hu9.size
      have HCHK := hide ((callsIn_wide (n := n - 1)).2 (chunks_any 27 (.pointer (some ⟨g, 0, none⟩)) size ((w9.alloc (.cells #[.slice av nC cv] 53)).alloc (.cells #[.int .i64 0] 3))))
      have HCL := hide hcl
      have HCS := hide hcs
      have HRD9 := hide hrd9
      have HM9 := hide hm9
      have HU9 := hide hu9
      have HNC := hide hnC
      clear hcl hcs hrd9 hm9 hu9 hnC HCH
      gi_wp2
      refine ⟨trivial, HCHK.out.mono ?_⟩
      rintro e w' ⟨rfl, rfl⟩
      clear HCHK
      gi_wp2
      rename_i K2 hK2 K1 hK1
      obtain ⟨B12, hB12⟩ : ∃ B12, B12 = w9.heap.size := ⟨_, rfl⟩
      obtain ⟨B11, hB11⟩ : ∃ B11, B11 = X.heap.size := ⟨_, rfl⟩
      obtain ⟨Wr, hWr⟩ : ∃ Wr, (((w9.alloc (.cells #[.slice av nC cv] 53)).alloc (.cells #[.int .i64 0] 3)).alloc (.cells #[.iface 27 (.pointer (some ⟨g, 0, none⟩))] 76)).alloc (.cells #[.int .i64 size] 3) = Wr := ⟨_, rfl⟩
      have uW : Upd Noth w9 Wr := by rw [← hWr]; exact ((((Upd.refl _ _).alloc _).alloc _).alloc _).alloc _
      have sW : Wr.heap.size = B12 + 4 := by rw [← hWr, hB12]; simp
      have k12 : Boxed Wr B12 53 (.slice av nC cv) := by rw [← hWr, hB12]; exact (((Boxed.new w9 _ _).alloc _).alloc _).alloc _
      have k13 : Boxed Wr (B12 + 1) 3 (.int .i64 0) := by
        rw [← hWr, hB12]
        have := ((Boxed.new (w9.alloc (.cells #[.slice av nC cv] 53)) 3 (.int .i64 0)).alloc (.cells #[.iface 27 (.pointer (some ⟨g, 0, none⟩))] 76)).alloc (.cells #[.int .i64 size] 3)
        rwa [World.size_alloc] at this
      have k1 : Boxed Wr (B12 + 1 + 1) 76 (.iface 27 (.pointer (some ⟨g, 0, none⟩))) := by
        rw [← hWr, hB12]
        have := (Boxed.new ((w9.alloc (.cells #[.slice av nC cv] 53)).alloc (.cells #[.int .i64 0] 3)) 76 (.iface 27 (.pointer (some ⟨g, 0, none⟩)))).alloc (.cells #[.int .i64 size] 3)
        rwa [World.size_alloc, World.size_alloc] at this
      have k2 : Boxed Wr (B12 + 1 + 1 + 1) 3 (.int .i64 size) := by
        rw [← hWr, hB12]
        have := Boxed.new (((w9.alloc (.cells #[.slice av nC cv] 53)).alloc (.cells #[.int .i64 0] 3)).alloc (.cells #[.iface 27 (.pointer (some ⟨g, 0, none⟩))] 76)) 3 (.int .i64 size)
        rwa [World.size_alloc, World.size_alloc, World.size_alloc] at this
      rw [hWr, ← hB12, ← hB11]
      have HB12 := hide hB12
      have HBX := hide hB11
      have hs8 := HS8.out
      rw [← hB11] at hs8
      have hrl := HRL.out
      have hrl2 : r < B11 := by have := hrl.2; omega
      have u98 : Upd (fun j => j = r) W8 w9 := HU9.out.mono (fun j _ e => HM3.out j e)
      have k11 : Boxed Wr B11 3 (.int .i64 (lim : Int)) := by
        rw [HHZ.out]
        refine boxed_upd (boxed_upd ?_ u98 (by omega)) uW (fun e => e)
        have := HB11.out
        rw [← hB11] at this
        exact this
      have hML : ∀ j, M j → j < B11 := fun j hj => by have := HW.out.src.lt.1 j hj; omega
      have hsrc8 : SrcAt W8 M zs gs fail eager g c k := HW.out.src.upd HU8.out (fun j _ e => e)
      have hsrc : SrcAt Wr M zs gs fail eager g c k := (hsrc8.upd u98 (fun j hj e => by subst e; exact HF.out.mr hj)).upd uW (fun j _ e => e)
      have hcl : CLst W8.heap.size Wr (.slice av nC cv) Cs M9 := HCL.out.upd uW (fun j e => e.elim)
      have HSW := hide sW
      clear sW
      have HUW := hide uW
      have HU98 := hide u98
      have hc4 : ∀ d ∈ Cs, d.b.length ≤ 4096 := fun d hd => by
        obtain ⟨c', hc', e⟩ := two2_mem HCS.out hd
        rw [← e]
        exact srcAll_len zs gs fail eager size (c, k) HF.out.z8 c' (List.mem_of_mem_take hc')
      have hw9 : W8.heap.size ≤ B12 := by rw [hB12]; exact hs9
      have HS9 : Hid (w9.heap.size = B12) := hB12.symm
      have HS8' : Hid (W8.heap.size = B11 + 1) := hs8
      clear hB12 hB11 hWr hs8
      refine chk_frame rfl rfl rfl rfl rfl rfl rfl rfl rfl rfl rfl ?_
      intro f2
      exact chk_range n hn zs gs fail eager size _ _ cl g r B6 M M9 Cs av nC cv N B11 B12 W8.heap.size lim hl1 hl2 c k i HF.out.z8 (by omega) (by omega) Wr HSW.out (by have := HBX.out; omega) (by have := HS8'.out; omega) hw9 hsrc HF.out.mN hML k11 k12 k13 k1.cell k2.cell HNC.out hcl
        (fun j hj => by have := (HCL.out.own.lt j hj).2; have := HS9.out; omega) (fun d hd x hx h0 => by have := row_ltC (HCL.out.row d hd) hx h0; have := HS9.out; omega) HCS.out hc4 K1 _ f2 ds (by
        intro D s' Wc hs' hkb huc hsc hDl hDD
        have hsW := HSW.out
        have h8z := HS8'.out
        have h9z := HS9.out
        have hbz := HBX.out
        have hrd := HRD9.out
        have huc' : Upd (fun j => M j ∨ B11 ≤ j) Wr Wc := huc.mono (fun j _ e => e.elim .inl (fun e => .inr (by omega)))
        have k12c := boxed_upd k12 huc (fun e => e.elim (fun e => by have := hML _ e; omega) (fun e => by omega))
        have hrdc : RSrcRd zs gs fail eager ab lb cb ag lg cg r N Wc s' M9 := by
          rw [hs']
          refine HR0.out.upd (HR0.out.upd hrd HUW.out (fun j e => e.elim)) huc (fun j e => ⟨?_, fun e9 => ?_⟩)
          · rcases e with e | e | e
            · exact HF.out.mN j e
            · omega
            · omega
          · have hjr : j = r := (hrd.1 j).1 e9
            rcases e with e | e | e
            · subst hjr; exact HF.out.mr e
            · omega
            · omega
        have hupN : Upd (fun j => N ≤ j) w1 Wc := by
          refine ((((HW.out.up.trans HU8.out.noth).trans (HU98.out.mono (fun j _ e => by omega))).trans HUW.out.noth).trans (huc.mono (fun j _ e => ?_)))
          rcases e with e | e | e
          · exact HF.out.mN j e
          · omega
          · omega
        have hXc : Upd (fun j => j = r ∨ M j ∨ B11 ≤ j) X Wc := ((HU8.out.noth.trans (HU98.out.mono (fun j _ e => .inl e))).trans HUW.out.noth).trans (huc'.mono (fun j _ e => .inr e))
        have hmkc : Marks L0 ds Wc := HM.out.kept fun D' hm' hD' => by
          refine (hXc.block D' (lt_of_block hD') (fun e => ?_)).trans hD'
          obtain ⟨D2, e2, hlo, _⟩ := HM.out.mem _ hm'
          have e3 : D' = D2 := by simpa using e2
          have hDX := lt_of_block hD'
          rcases e with e | e | e
          · have := HF.out.rl; omega
          · have := HF.out.ml _ e; omega
          · have := HBX.out; omega
        have HMP : Hid (Marks L0 ({ target := .collected D, args := #[] } :: ds) Wc) := HM.out.push hmkc (by have := HBX.out; omega) hLX hDD
        have hbnd := srcAll_bnd zs gs fail eager size (c, k) HF.out.z8 lim
        rw [← hs'] at hbnd
        have HWN : Hid (ChW w1 Wc N zs gs fail eager ab lb cb ag lg cg g r M (i + 1) s'.1 s'.2) := ⟨hsc, ⟨M9, hrdc⟩, hupN, by simp only at hbnd; omega⟩
        have hLc : L0 ≤ Wc.heap.size := Nat.le_trans hLX hXc.size
        have HCA := hide ((callsIn_wide (n := n - 1)).2 (calls_any hsc))
        have c12 := k12c.cell
        have c13 := hkb.cell
        have crr : Wc.cell? ⟨r, 4, none⟩ = some (.int .i64 (s'.1 : Int)) := by rw [cell_of_row _ _ _ _ _ _ hrdc.2.1]; rfl
        generalize s'.1 = cc at *
        generalize s'.2 = kk at *
        clear hbnd hmkc hXc hupN hrdc huc' hrd hsW huc hsc hs' hkb hDD k12c h8z h9z hbz
        refine hK1 _ _ ?_
        dsimp only
        gi_wp2
        refine ⟨trivial, HCA.out.mono ?_⟩
        rintro e wq ⟨rfl, hwq⟩
        have hwq' := hwq.symm
        subst hwq'
        clear hwq
        have tcc : ((cc : Int) != (cc : Int)) = false := by simp
        gi_wp2
        exact ⟨by omega, CAt.mk (c := cc) (k := kk) rfl rfl rfl rfl rfl rfl (by rw [Int.natCast_add]; rfl) HWN.out hLc HMP.out⟩)
    · obtain rfl : i = ll := by omega
      have g2 : ¬ (i : Int) < (i : Int) := by omega
      obtain ⟨lim, hlim⟩ : ∃ lim : Nat, lim = 2147483648 := ⟨_, rfl⟩
      have hl1 : 1 ≤ lim := by omega
      have hl2 : lim ≤ 2147483648 := by omega
      have hzl : (lim : Int) = 2147483648 := by omega
      obtain ⟨M3, hrs⟩ := HW.out.rsr
      have hR0 := rsrc_reader zs gs fail eager ab lb cb ag lg cg 0 r N HF.out.z8 (by omega) hlb hlg (by omega)
      have u8 : Upd Noth X (X.alloc (.cells #[.int .i64 2147483648] 3)) := (Upd.refl _ _).alloc _
      have s8 : (X.alloc (.cells #[.int .i64 2147483648] 3)).heap.size = X.heap.size + 1 := World.size_alloc _ _
      have hM3 : ∀ j, M3 j → j = r := fun j hj => (hrs.1 j).1 hj
      have hrl := (hR0.lt hrs r ((hrs.1 r).2 rfl))
      have HCH := hide ((callsIn_wide (n := n - 1)).2 (rchunksS_any zs gs fail eager size ab lb cb ag lg cg r N M3 (X.alloc (.cells #[.int .i64 2147483648] 3)) c k HF.out.z8 hlb hlg (by omega) (hR0.upd hrs u8 (fun j e => e.elim)) (by omega) (by omega) lim hl1 hl2))
      rw [hzl] at HCH
      have HHZ := hide hzl
      have HLIM := hide hlim
      have b11 : Boxed (X.alloc (.cells #[.int .i64 2147483648] 3)) X.heap.size 3 (.int .i64 2147483648) := Boxed.new X _ _
      have HB11 := hide b11
      have HU8 := hide u8
      have HS8 := hide s8
      have HR0 := hide hR0
      have HM3 := hide hM3
      have HRL := hide hrl
      clear hlim hzl b11 u8 s8 hR0 hM3 hrl hrs
      gi_wp2
      generalize X.alloc (.cells #[.int .i64 2147483648] 3) = W8 at *
      refine ⟨trivial, HCH.out.mono ?_⟩
      rintro e w9 ⟨v9, Cs, M9, rfl, hcl, hcs, hrd9, hm9, hu9⟩
      obtain ⟨av, cv, rfl⟩ := owns2_open hcl.own
      obtain ⟨nC, hnC⟩ : ∃ nC, nC = Cs.length := ⟨_, rfl⟩
      rw [← hnC] at hcl ⊢
      have hs9 := hu9.size
      have HCHK := hide ((callsIn_wide (n := n - 1)).2 (chunks_any 27 (.pointer (some ⟨g, 0, none⟩)) size ((w9.alloc (.cells #[.slice av nC cv] 53)).alloc (.cells #[.int .i64 0] 3))))
      have HCL := hide hcl
      have HCS := hide hcs
      have HRD9 := hide hrd9
      have HM9 := hide hm9
      have HU9 := hide hu9
      have HNC := hide hnC
      clear hcl hcs hrd9 hm9 hu9 hnC HCH
      gi_wp2
      refine ⟨trivial, HCHK.out.mono ?_⟩
      rintro e w' ⟨rfl, rfl⟩
      clear HCHK
      gi_wp2
      rename_i K2 hK2 K1 hK1
      obtain ⟨B12, hB12⟩ : ∃ B12, B12 = w9.heap.size := ⟨_, rfl⟩
      obtain ⟨B11, hB11⟩ : ∃ B11, B11 = X.heap.size := ⟨_, rfl⟩
      obtain ⟨Wr, hWr⟩ : ∃ Wr, (((w9.alloc (.cells #[.slice av nC cv] 53)).alloc (.cells #[.int .i64 0] 3)).alloc (.cells #[.iface 27 (.pointer (some ⟨g, 0, none⟩))] 76)).alloc (.cells #[.int .i64 size] 3) = Wr := ⟨_, rfl⟩
      have uW : Upd Noth w9 Wr := by rw [← hWr]; exact ((((Upd.refl _ _).alloc _).alloc _).alloc _).alloc _
      have sW : Wr.heap.size = B12 + 4 := by rw [← hWr, hB12]; simp
      have k12 : Boxed Wr B12 53 (.slice av nC cv) := by rw [← hWr, hB12]; exact (((Boxed.new w9 _ _).alloc _).alloc _).alloc _
      have k13 : Boxed Wr (B12 + 1) 3 (.int .i64 0) := by
        rw [← hWr, hB12]
        have := ((Boxed.new (w9.alloc (.cells #[.slice av nC cv] 53)) 3 (.int .i64 0)).alloc (.cells #[.iface 27 (.pointer (some ⟨g, 0, none⟩))] 76)).alloc (.cells #[.int .i64 size] 3)
        rwa [World.size_alloc] at this
      have k1 : Boxed Wr (B12 + 1 + 1) 76 (.iface 27 (.pointer (some ⟨g, 0, none⟩))) := by
        rw [← hWr, hB12]
        have := (Boxed.new ((w9.alloc (.cells #[.slice av nC cv] 53)).alloc (.cells #[.int .i64 0] 3)) 76 (.iface 27 (.pointer (some ⟨g, 0, none⟩)))).alloc (.cells #[.int .i64 size] 3)
        rwa [World.size_alloc, World.size_alloc] at this
      have k2 : Boxed Wr (B12 + 1 + 1 + 1) 3 (.int .i64 size) := by
        rw [← hWr, hB12]
        have := Boxed.new (((w9.alloc (.cells #[.slice av nC cv] 53)).alloc (.cells #[.int .i64 0] 3)).alloc (.cells #[.iface 27 (.pointer (some ⟨g, 0, none⟩))] 76)) 3 (.int .i64 size)
        rwa [World.size_alloc, World.size_alloc, World.size_alloc] at this
      rw [hWr, ← hB12, ← hB11]
      have HB12 := hide hB12
      have HBX := hide hB11
      have hs8 := HS8.out
      rw [← hB11] at hs8
      have hrl := HRL.out
      have hrl2 : r < B11 := by have := hrl.2; omega
      have u98 : Upd (fun j => j = r) W8 w9 := HU9.out.mono (fun j _ e => HM3.out j e)
      have k11 : Boxed Wr B11 3 (.int .i64 (lim : Int)) := by
        rw [HHZ.out]
        refine boxed_upd (boxed_upd ?_ u98 (by omega)) uW (fun e => e)
        have := HB11.out
        rw [← hB11] at this
        exact this
      have hML : ∀ j, M j → j < B11 := fun j hj => by have := HW.out.src.lt.1 j hj; omega
      have hsrc8 : SrcAt W8 M zs gs fail eager g c k := HW.out.src.upd HU8.out (fun j _ e => e)
      have hsrc : SrcAt Wr M zs gs fail eager g c k := (hsrc8.upd u98 (fun j hj e => by subst e; exact HF.out.mr hj)).upd uW (fun j _ e => e)
      have hcl : CLst W8.heap.size Wr (.slice av nC cv) Cs M9 := HCL.out.upd uW (fun j e => e.elim)
      have HSW := hide sW
      clear sW
      have HUW := hide uW
      have HU98 := hide u98
      have hc4 : ∀ d ∈ Cs, d.b.length ≤ 4096 := fun d hd => by
        obtain ⟨c', hc', e⟩ := two2_mem HCS.out hd
        rw [← e]
        exact srcAll_len zs gs fail eager size (c, k) HF.out.z8 c' (List.mem_of_mem_take hc')
      have hw9 : W8.heap.size ≤ B12 := by rw [hB12]; exact hs9
      have HS9 : Hid (w9.heap.size = B12) := hB12.symm
      have HS8' : Hid (W8.heap.size = B11 + 1) := hs8
      clear hB12 hB11 hWr hs8
      refine chk_frame rfl rfl rfl rfl rfl rfl rfl rfl rfl rfl rfl ?_
      intro f2
      exact chk_range n hn zs gs fail eager size _ _ cl g r B6 M M9 Cs av nC cv N B11 B12 W8.heap.size lim hl1 hl2 c k i HF.out.z8 (by omega) (by omega) Wr HSW.out (by have := HBX.out; omega) (by have := HS8'.out; omega) hw9 hsrc HF.out.mN hML k11 k12 k13 k1.cell k2.cell HNC.out hcl
        (fun j hj => by have := (HCL.out.own.lt j hj).2; have := HS9.out; omega) (fun d hd x hx h0 => by have := row_ltC (HCL.out.row d hd) hx h0; have := HS9.out; omega) HCS.out hc4 K1 _ f2 ds (by
        intro D s' Wc hs' hkb huc hsc hDl hDD
        have hsW := HSW.out
        have h8z := HS8'.out
        have h9z := HS9.out
        have hbz := HBX.out
        have hrd := HRD9.out
        have huc' : Upd (fun j => M j ∨ B11 ≤ j) Wr Wc := huc.mono (fun j _ e => e.elim .inl (fun e => .inr (by omega)))
        have k12c := boxed_upd k12 huc (fun e => e.elim (fun e => by have := hML _ e; omega) (fun e => by omega))
        have hrdc : RSrcRd zs gs fail eager ab lb cb ag lg cg r N Wc s' M9 := by
          rw [hs']
          refine HR0.out.upd (HR0.out.upd hrd HUW.out (fun j e => e.elim)) huc (fun j e => ⟨?_, fun e9 => ?_⟩)
          · rcases e with e | e | e
            · exact HF.out.mN j e
            · omega
            · omega
          · have hjr : j = r := (hrd.1 j).1 e9
            rcases e with e | e | e
            · subst hjr; exact HF.out.mr e
            · omega
            · omega
        have hupN : Upd (fun j => N ≤ j) w1 Wc := by
          refine ((((HW.out.up.trans HU8.out.noth).trans (HU98.out.mono (fun j _ e => by omega))).trans HUW.out.noth).trans (huc.mono (fun j _ e => ?_)))
          rcases e with e | e | e
          · exact HF.out.mN j e
          · omega
          · omega
        have hXc : Upd (fun j => j = r ∨ M j ∨ B11 ≤ j) X Wc := ((HU8.out.noth.trans (HU98.out.mono (fun j _ e => .inl e))).trans HUW.out.noth).trans (huc'.mono (fun j _ e => .inr e))
        have hmkc : Marks L0 ds Wc := HM.out.kept fun D' hm' hD' => by
          refine (hXc.block D' (lt_of_block hD') (fun e => ?_)).trans hD'
          obtain ⟨D2, e2, hlo, _⟩ := HM.out.mem _ hm'
          have e3 : D' = D2 := by simpa using e2
          have hDX := lt_of_block hD'
          rcases e with e | e | e
          · have := HF.out.rl; omega
          · have := HF.out.ml _ e; omega
          · have := HBX.out; omega
        have HMP : Hid (Marks L0 ({ target := .collected D, args := #[] } :: ds) Wc) := HM.out.push hmkc (by have := HBX.out; omega) hLX hDD
        have hbnd := srcAll_bnd zs gs fail eager size (c, k) HF.out.z8 lim
        rw [← hs'] at hbnd
        have HWN : Hid (ChW w1 Wc N zs gs fail eager ab lb cb ag lg cg g r M (i + 1) s'.1 s'.2) := ⟨hsc, ⟨M9, hrdc⟩, hupN, by simp only at hbnd; omega⟩
        have hLc : L0 ≤ Wc.heap.size := Nat.le_trans hLX hXc.size
        have HCA := hide ((callsIn_wide (n := n - 1)).2 (calls_any hsc))
        have c12 := k12c.cell
        have c13 := hkb.cell
        have crr : Wc.cell? ⟨r, 4, none⟩ = some (.int .i64 (s'.1 : Int)) := by rw [cell_of_row _ _ _ _ _ _ hrdc.2.1]; rfl
        generalize s'.1 = cc at *
        generalize s'.2 = kk at *
        clear hbnd hmkc hXc hupN hrdc huc' hrd hsW huc hsc hs' hkb hDD k12c h8z h9z hbz
        refine hK1 _ _ ?_
        dsimp only
        gi_wp2
        refine ⟨trivial, HCA.out.mono ?_⟩
        rintro e wq ⟨rfl, hwq⟩
        have hwq' := hwq.symm
        subst hwq'
        clear hwq
        have tcc : ((cc : Int) != (cc : Int)) = false := by simp
        gi_wp2
        exact ⟨by omega, CAt.mk (c := cc) (k := kk) rfl rfl rfl rfl rfl rfl (by rw [Int.natCast_add]; rfl) HWN.out hLc HMP.out⟩)

end Go.Proofs.Ytcffekhlnidjnaa
