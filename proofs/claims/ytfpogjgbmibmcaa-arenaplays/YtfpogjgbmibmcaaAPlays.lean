/- ArenaPlays: the walk. -/
import Derived.Test.YtfpogjgbmibmcaaASame
namespace Go.Proofs.Ytfpogjgbmibmcaa
open Go.RowKit

def as2 : AS := ⟨2, 1, [(0, NP.zero), (1, NP.zero)]⟩
def as3 : AS := ⟨2, 1, [(0, NP.zero), (2, NP.zero)]⟩
theorem as2_of : (AS.new 2).allI = 2 ∧ (AS.new 2).allE = 0 ∧ (AS.new 2).allS = as2 := ⟨rfl, rfl, rfl⟩
theorem as2_in : as2.inn 2 := by unfold AS.inn as2; decide
theorem as3_in : as3.inn 2 := by unfold AS.inn as3; decide
theorem as3_of : as2.unlE 2 = 0 ∧ as2.unlS 2 true = as3 := by
  have hE : as2.unlE 2 = 0 := by unfold AS.unlE; rw [if_pos as2_in]; rfl
  refine ⟨hE, ?_⟩
  unfold AS.unlS
  rw [if_pos hE]
  rfl
theorem as3_w : as3.wordW 2 = 2 ∧ as3.wordE 2 = 0 := ⟨by unfold AS.wordW; rw [if_pos as3_in]; rfl, by unfold AS.wordE; rw [if_pos as3_in]⟩
set_option maxHeartbeats 1600000 in
theorem ahead_law (w : World) : Calls Try.prog 8 #[] w fun e w' => e = .returned (.bool true) ∧ Below w.heap.size w w' := by
  have HN := hide (px_new 2 w (by decide) (by decide))
  go_enter Try.func8, Try.ntmps8
  go_wp2_with fail
  refine HN.out.mono ?_
  rintro e w1 ⟨A, F, rfl, hp, hF, hb⟩
  have HAL := hide (px_alloc hp)
  rw [as2_of.1, as2_of.2.1, as2_of.2.2] at HAL
  have B1 := hide hb
  have HF := hide hF
  clear hp hF hb HN
  go_wp2_with fail
  refine HAL.out.mono ?_
  rintro e w2 ⟨rfl, F2, hp, hst⟩
  have HUL := hide (px_unlock hp 2 true)
  rw [as3_of.1, as3_of.2] at HUL
  have HF2 : Hid (∀ k, F2 k → w.heap.size ≤ k) := fun k hk => by
    rcases hst.f k hk with h | h
    · exact HF.out k h
    · have := B1.out.size; omega
  have B2 := hide (B1.out.trans (hst.u.below B1.out.size (fun k hk e => by have := HF.out k e; omega)))
  clear hp hst HAL
  go_wp2_with fail
  refine HUL.out.mono ?_
  rintro e w3 ⟨rfl, F3, hp, hst⟩
  have HWD := hide (px_word hp 2)
  rw [as3_w.1, as3_w.2] at HWD
  have HRT := hide (px_root hp)
  have HUS := hide (px_used hp)
  rw [show as3.root = 1 from rfl] at HRT
  rw [show ((as3.sl.length : Nat) : Int) = 2 from rfl] at HUS
  have B3 := hide (B2.out.trans (hst.u.below B2.out.size (fun k hk e => by have := HF2.out k e; omega)))
  clear hp hst HUL
  simp only [show (((2 : Nat)) : Int) = 2 from rfl] at HWD
  go_wp2_with fail
  refine keep HWD.out ?_
  go_wp2_with fail
  refine keep HRT.out ?_
  go_wp2_with fail
  refine keep HUS.out ?_
  go_wp2_with fail
  go_ret
  exact ⟨rfl, B3.out⟩

set_option maxRecDepth 100000 in
set_option maxHeartbeats 6400000 in
theorem arenaPlays_any (aS : Option Addr) (lS cS : Nat) (nodes : Int) (L : List AOp) (w : World)
    (hL : L.length = lS) (hO : Ops (fun k => k < w.heap.size) w aS L) (hlS : lS * 152 ≤ 140737488355328) :
    Calls Try.prog 3 #[.int .i64 nodes, .slice aS lS cS] w fun e w' => e = .returned (.bool true) ∧ Below w.heap.size w w' := by
  have HHD := hide (ahead_law w)
  by_cases hc : 1 ≤ nodes ∧ nodes ≤ 65536
  · have HBG : Hid (∀ W, Calls Try.prog 9 #[.int .i64 nodes] W (BegP W nodes)) := fun W => begun_good nodes W hc.1 hc.2
    have HO := hide hO
    have HLL := hide hL
    have hlS2 : (lS : Int) ≤ 9223372036854775807 := by omega
    clear hO hL hlS hc
    go_enter Try.func3, Try.ntmps3
    go_wp2_with fail
    refine HHD.out.mono ?_
    rintro e w0 ⟨rfl, b0⟩
    have B0 := hide b0
    clear b0
    go_wp2_with fail
    refine (HBG.out w0).mono ?_
    rintro e w1 ⟨P, AX, AY, rfl, hA, hb⟩
    obtain ⟨K, hK⟩ : ∃ K : Nat → Prop, K = fun k => k < w0.heap.size ∨ k = P := ⟨_, rfl⟩
    rw [← hK] at hA
    have B1 := hide (B0.out.trans (hb.mono B0.out.size))
    have KW : Hid (∀ k, k < w.heap.size → K k) := fun k hk => by have := B0.out.size; rw [hK]; exact .inl (by omega)
    have H1 : Hid (AW K w1 P AX AY ((AS.new nodes).run (L.take 0)) ((AS.new nodes).run (L.take 0)) ∧ Upd (fun k => ¬ K k) w1 w1) := ⟨hA, Upd.refl _ _⟩
    have HBX : Hid (∀ W, Upd (fun k => ¬ K k) w1 W → Below w.heap.size w W) := fun W hU => B1.out.trans (hU.below B1.out.size (fun k hk e => e (KW.out k hk)))
    have HOPS : Hid (∀ W, Upd (fun k => ¬ K k) w1 W → Ops K W aS L) := fun W hU => (HO.out.kept (⟨(HBX.out W hU).os, (HBX.out W hU).tape, (HBX.out W hU).output, (HBX.out W hU).size, fun k _ hk => (HBX.out W hU).block k (Decidable.byContradiction fun hc => hk hc)⟩ : Upd (fun k => ¬ k < w.heap.size) w W)).mono (fun k hk => KW.out k hk)
    clear hA hb hK HBG HO
    go_wp2_with fail
    go_loopw [8] (fun q8 wr => ∃ i : Nat, i ≤ lS ∧ q8 = .int .i64 (i : Int) ∧ Hid (AW K wr P AX AY ((AS.new nodes).run (L.take i)) ((AS.new nodes).run (L.take i)) ∧ Upd (fun k => ¬ K k) w1 wr)) (fun q8 _ => lS - (intOf q8).toNat)
    case atStart => exact ⟨0, Nat.zero_le _, rfl, H1⟩
    case round =>
      clear H1
      obtain ⟨i, hi, rfl, HI⟩ := hrel
      rename World => wr
      by_cases hlt : i < lS
      · have j1 : (i : Int) < (lS : Int) := by omega
        have hiL : i < L.length := by rw [HLL.out]; exact hlt
        have hops := HOPS.out wr HI.out.2
        obtain ⟨ob, oo, hoa, hok, hoc⟩ := hops.c i hiL
        subst hoa
        have oko := hops.ok L[i] (List.getElem_mem hiL)
        have RW := hide (raw_any HI.out.1 L[i] oko)
        have hnx := AS.run_take (AS.new nodes) L i hiL
        rw [← hnx] at RW
        generalize L[i] = op at *
        obtain ⟨kd, ra, rb, rw', ch', ⟨lv, ⟨ha, hc, hs⟩, ri, ⟨ka, kc, KL⟩, ⟨va, vc, V⟩, ⟨ca, cc, C⟩⟩⟩ := op
        simp only [AOp.v, Tx.v, TL.v, IL.v] at RW hoc
        have e0 : wr.cell? ⟨ob, oo + i * 11, none⟩ = some (.int .i64 kd) := hoc 0 _ rfl
        have e1 : wr.cell? ⟨ob, oo + i * 11 + 1, none⟩ = some (.int .i64 ra) := hoc 1 _ rfl
        have e2 : wr.cell? ⟨ob, oo + i * 11 + 2, none⟩ = some (.int .i64 rb) := hoc 2 _ rfl
        have e3 : wr.cell? ⟨ob, oo + i * 11 + 3, none⟩ = some (.int .u64 (rw' : Nat)) := hoc 3 _ rfl
        have e4 : wr.cell? ⟨ob, oo + i * 11 + 4, none⟩ = some (.bool ch') := hoc 4 _ rfl
        have e5 : wr.cell? ⟨ob, oo + i * 11 + 5, none⟩ = some (.int .i64 lv) := hoc 5 _ rfl
        have e6 : wr.cell? ⟨ob, oo + i * 11 + 6, none⟩ = some (.slice ha hs.length hc) := hoc 6 _ rfl
        have e7 : wr.cell? ⟨ob, oo + i * 11 + 7, none⟩ = some (.int .i64 ri) := hoc 7 _ rfl
        have e8 : wr.cell? ⟨ob, oo + i * 11 + 8, none⟩ = some (.slice ka KL.length kc) := hoc 8 _ rfl
        have e9 : wr.cell? ⟨ob, oo + i * 11 + 9, none⟩ = some (.slice va V.length vc) := hoc 9 _ rfl
        have e10 : wr.cell? ⟨ob, oo + i * 11 + 10, none⟩ = some (.slice ca C.length cc) := hoc 10 _ rfl
        generalize hs.length = lh at *
        generalize KL.length = lk at *
        generalize V.length = lw at *
        generalize C.length = lc at *
        clear hops hok hoc oko hnx
        go_wp2_with fail
        refine RW.out.mono ?_
        rintro e w3 ⟨rfl, hA, hU⟩
        have SM := hide (wsame_any hA)
        have U3 := hide (HI.out.2.trans hU)
        clear hA hU e0 e1 e2 e3 e4 e5 e6 e7 e8 e9 e10 RW
        go_wp2_with fail
        refine SM.out.mono ?_
        rintro e w4 ⟨rfl, hA, hU⟩
        have HI3 : Hid (AW K w4 P AX AY ((AS.new nodes).run (L.take (i + 1))) ((AS.new nodes).run (L.take (i + 1))) ∧ Upd (fun k => ¬ K k) w1 w4) := ⟨hA, U3.out.trans hU⟩
        clear hA hU SM
        go_wp2_with fail
        go_roundw
        case rel => exact ⟨i + 1, by omega, by go_num, HI3⟩
        case measure => simp [intOf]; omega
      · have j1 : ¬ (i : Int) < (lS : Int) := by omega
        have SM := hide (wsame_any HI.out.1)
        go_wp2_with fail
        refine SM.out.mono ?_
        rintro e w4 ⟨rfl, hA, hU⟩
        have BF := hide (HBX.out w4 (HI.out.2.trans hU))
        clear hA hU SM
        go_wp2_with fail
        go_ret
        exact ⟨rfl, BF.out⟩
  · have HBG : Hid (∀ W, Calls Try.prog 9 #[.int .i64 nodes] W fun e w' => e = .returned (.tuple #[.pointer none, .bool true]) ∧ w' = W) := fun W => begun_bad nodes W hc
    clear hO hL hlS hc
    go_enter Try.func3, Try.ntmps3
    go_wp2_with fail
    refine HHD.out.mono ?_
    rintro e w0 ⟨rfl, b0⟩
    have B0 := hide b0
    clear b0
    go_wp2_with fail
    refine keep (HBG.out w0) ?_
    go_wp2_with fail
    go_ret
    exact ⟨rfl, B0.out⟩

end Go.Proofs.Ytfpogjgbmibmcaa
