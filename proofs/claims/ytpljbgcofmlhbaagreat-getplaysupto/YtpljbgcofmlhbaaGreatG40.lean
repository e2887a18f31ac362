/- The document's Split: of inner nodes. -/
import Derived.Test.YtpljbgcofmlhbaaGreatG23
import Derived.Test.YtpljbgcofmlhbaaGreatG26
import Derived.Deep.CutBlock
namespace Go.Proofs.YtpljbgcofmlhbaaGreat
open Go.RowKit
set_option maxRecDepth 100000
set_option maxRecDepth 100000 in
set_option maxHeartbeats 6400000 in
theorem rsplit_inner (n : Nd) (right : Int) (w : World) (hn : n.Ok w) (hR : RtP n.p) (hlv : 0 < n.lv) (hw2 : 2 ≤ n.p.wd) : Calls Tryz.prog 57 #[n.v, .int .i64 right] w (RspP w (n.p.one right) n.p.two n.p.bet) := by
 obtain ⟨i0, hi0, hz0, hz1, hz2⟩ := info_parts infoI
 have hcut := cutK_lt hR hw2
 obtain ⟨H, hH⟩ : ∃ H, H = n.p.half := ⟨_, rfl⟩
 have hhalf : n.p.half = (n.p.wd + 1) / 2 := rfl
 have hlv0 : ¬ n.lv = 0 := by omega
 have hwd : n.p.wd = n.cs.s.length := if_neg hlv0
 have hck : n.p.cutK = H - 1 := by rw [hH]; exact if_neg hlv0
 have hcl : n.cs.s.length = n.ks.L.length + 1 := by
  rcases hR.2 with h | h
  ·have := h.1; have h2 : n.p.lv = n.lv := rfl; omega
  ·have := h.2.2; rw [show n.p.cs = n.cs.s from rfl, show n.p.ks = n.ks.p from rfl, TL.p_len] at this; exact this
 have hvl : n.vs.L = [] := by
  rcases hR.2 with h | h
  ·have := h.1; have h2 : n.p.lv = n.lv := rfl; omega
  ·have := h.2.1; rw [show n.p.vs = n.vs.p from rfl, TL.p_len] at this; exact List.eq_nil_of_length_eq_zero this
 obtain ⟨G, hG⟩ : ∃ G, H = G + 1 := ⟨H - 1, by omega⟩
 have hHl : G < n.ks.L.length := by rw [hck, show n.p.ks = n.ks.p from rfl, TL.p_len] at hcut; omega
 have hrk : n.p.restK = n.p.ks.drop H := by
  have : n.p.restK = (n.p.ks.drop n.p.cutK).drop 1 := if_neg hlv0
  rw [this, hck, List.drop_drop]; congr 1; omega
 have HPU : Hid (n.p.one right = ⟨n.lv, (n.ks.p).getD G [], right, n.ks.p.take G, [], n.cs.s.take H⟩ ∧ n.p.two = ⟨n.lv, n.hi.s, n.ri, n.ks.p.drop H, [], n.cs.s.drop H⟩ ∧ n.p.bet = (n.ks.p).getD G []) := by
  have hGc : n.p.cutK = G := by omega
  have hb : n.p.bet = (n.ks.p).getD G [] := by rw [NP.bet_at, hGc]; rfl
  have hvp : n.vs.p = [] := by unfold TL.p; rw [hvl]; rfl
  refine ⟨?_, ?_, hb⟩
  ·unfold NP.one; rw [hb, hGc, ← hH]; simp only [Nd.p, hvp, List.take_nil]
  ·unfold NP.two; rw [hrk, ← hH]; simp only [Nd.p, hvp, List.drop_nil]
 rw [HPU.out.1, HPU.out.2.1, HPU.out.2.2]
 have HNO : Hid (∀ W, Below w.heap.size w W → n.Ok W) := fun W hb => hn.below hb
 have HCLN : Hid (∀ W, Below w.heap.size w W → Calls Tryz.prog 107 #[n.v] W (RcPost W n)) := fun W hb => rclone_any n W (hn.below hb)
 have hkz := hn.kz
 have hvz := hn.vz
 have hcz := hn.cz
 rw [hwd] at hhalf hw2
 clear hcut hck hrk hR hwd HPU hn
 obtain ⟨an, han⟩ : ∃ an, an = n := ⟨_, rfl⟩
 rw [← han] at HNO HCLN ⊢
 obtain ⟨alv, ⟨aha, ahc, ahs⟩, ari, ⟨aka, akc, aK⟩, ⟨ava, avc, aV⟩, ⟨aca, acc, aC⟩⟩ := n
 simp only at hlv hvl hcl hHl hkz hvz hcz hhalf hw2
 skip
 have HAN := hide han
 have HV : Hid (an.v = .agg #[.int .i64 alv, .slice aha ahs.length ahc, .int .i64 ari, .slice aka aK.length akc, .slice ava aV.length avc, .slice aca aC.length acc]) := by show _ = _; rw [han]; rfl
 rw [HV.out] at HCLN ⊢
 have hPK : an.ks.p = aK.map (·.s) := by rw [han]; rfl
 have hPV : an.vs.p = aV.map (·.s) := by rw [han]; rfl
 have hPC : an.cs.s = aC := by rw [han]
 have hPH : an.hi.s = ahs := by rw [han]
 have hPR : an.ri = ari := by rw [han]
 have hPL : an.lv = alv := by rw [han]
 have HP := hide (And.intro hPK (And.intro hPV (And.intro hPC (And.intro hPH (And.intro hPR hPL)))))
 clear han HV hPK hPV hPC hPH hPR hPL
 have HKT : Hid (∀ W, Below w.heap.size w W → (⟨aka, akc, aK⟩ : TL).Ok W) := fun W hb => by have := (HNO.out W hb).k; rw [HAN.out] at this; exact this
 have HVT : Hid (∀ W, Below w.heap.size w W → (⟨ava, avc, aV⟩ : TL).Ok W) := fun W hb => by have := (HNO.out W hb).v; rw [HAN.out] at this; exact this
 have HCT : Hid (∀ W, Below w.heap.size w W → (⟨aca, acc, aC⟩ : IL).Ok W) := fun W hb => by have := (HNO.out W hb).c; rw [HAN.out] at this; exact this
 have hkc := (HKT.out w (Below.refl _ _)).lc
 have hvc := (HVT.out w (Below.refl _ _)).lc
 have hcc := (HCT.out w (Below.refl _ _)).lc
 simp only at hkc hvc hcc
 have HLV := hide hvl
 have HLC := hide hcl
 clear hvl hcl
 generalize ahs.length = alh at *
 obtain ⟨alk, hlk⟩ : ∃ x, aK.length = x := ⟨_, rfl⟩
 obtain ⟨alw, hlw⟩ : ∃ x, aV.length = x := ⟨_, rfl⟩
 obtain ⟨alc, hlc⟩ : ∃ x, aC.length = x := ⟨_, rfl⟩
 rw [hlk] at hkz hkc hHl 
 rw [hlw] at hvz hvc
 rw [hlc] at hcz hcc hhalf hw2
 rw [hlk, hlw, hlc] at HCLN ⊢
 have HL := hide (And.intro hlk (And.intro hlw hlc))
 have hwl : alk + 1 ≤ alc ∧ alc ≤ alk + 1 := by have := HLC.out; omega
 have hHD : ((alc : Int) + 1) / 2 = (H : Int) := by omega
 have hGI : IntKind.i64.wrap ((H : Int) - 1) = (G : Int) := by rw [IntKind.wrap_i64]; omega
 have jm : ¬ (alc : Int) < 2 := by omega
 have hGH : G < H ∧ H ≤ G + 1 := by omega
 clear hlk hlw hlc hhalf hH hG
 have HT1 : Hid (∀ W, Below w.heap.size w W → Calls Tryz.prog 111 #[.slice aka G akc] W (CtP W (aK.take G) G)) := fun W hb => rtexts_any aka G akc (aK.take G) W ((HKT.out W hb).upto G (by rw [HL.out.1]; omega)) (by rw [List.length_take, HL.out.1]; omega) (by omega)
 have HT3 : Hid (∀ W, Below w.heap.size w W → Calls Tryz.prog 111 #[.slice (cutAt aka H akc) (alk - H) (akc - H)] W (CtP W (aK.drop H) (alk - H))) := fun W hb => rtexts_any (cutAt aka H akc) (alk - H) (akc - H) (aK.drop H) W ((HKT.out W hb).from_ H) (by rw [List.length_drop, HL.out.1]) (by omega)
 obtain ⟨w0, hw0⟩ : ∃ w0, w0 = ((w.alloc (.cells #[.int .i64 alv, .slice aha alh ahc, .int .i64 ari, .slice aka alk akc, .slice ava alw avc, .slice aca alc acc] 36)).alloc (.cells #[.int .i64 0, .slice none 0 0, .int .i64 0, .slice none 0 0, .slice none 0 0, .slice none 0 0] 36)).alloc (.cells #[.int .i64 0, .slice none 0 0, .int .i64 0, .slice none 0 0, .slice none 0 0, .slice none 0 0] 36) := ⟨_, rfl⟩
 have b0 : Below w.heap.size w w0 := by rw [hw0]; exact (((Below.refl _ _).alloc (Nat.le_refl _) _).alloc (by simp) _).alloc (by simp; omega) _
 have g0 : w0.heap[w.heap.size]? = some (.cells #[.int .i64 alv, .slice aha alh ahc, .int .i64 ari, .slice aka alk akc, .slice ava alw avc, .slice aca alc acc] 36 (0, 0)) := by rw [hw0]; exact old_at (old_at (new_at rfl))
 have g1 : w0.heap[w.heap.size + 1]? = some (.cells #[.int .i64 0, .slice none 0 0, .int .i64 0, .slice none 0 0, .slice none 0 0, .slice none 0 0] 36 (0, 0)) := by rw [hw0]; exact old_at (new_at (by simp))
 have g2 : w0.heap[w.heap.size + 1 + 1]? = some (.cells #[.int .i64 0, .slice none 0 0, .int .i64 0, .slice none 0 0, .slice none 0 0, .slice none 0 0] 36 (0, 0)) := by rw [hw0]; exact new_at (by simp)
 have hz0 : w0.heap.size = w.heap.size + 3 := by rw [hw0]; simp
 have B0 := hide b0
 have G0 := hide g0
 have G1 := hide g1
 have G2 := hide g2
 have HZ0 := hide hz0
 have HW0 := hide hw0
 obtain ⟨c0, c1, c2, c3, c4, c5⟩ := Six.of g0
 have HC0 := hide (HCLN.out w0 B0.out)
 clear hw0 b0 g0 g1 g2 hz0
 go_enter Tryz.func57, Tryz.ntmps57
 go_upto_region 1 with fail
 rw [← HW0.out]
 clear HW0
 go_wp2_with fail
 refine HC0.out.mono ?_
 rintro e w1 ⟨⟨xlv, ⟨xha, xhc, xhs⟩, xri, ⟨xka, xkc, xK⟩, ⟨xva, xvc, xV⟩, ⟨xca, xcc, xC⟩⟩, _, _, rfl, hxp, hxo, hxb, _⟩
 obtain ⟨xlh, xh1⟩ : ∃ x, xhs.length = x := ⟨_, rfl⟩
 obtain ⟨xlk, xh2⟩ : ∃ x, xK.length = x := ⟨_, rfl⟩
 obtain ⟨xlw, xh3⟩ : ∃ x, xV.length = x := ⟨_, rfl⟩
 obtain ⟨xlc, xh4⟩ : ∃ x, xC.length = x := ⟨_, rfl⟩
 simp only [Nd.v, Tx.v, TL.v, IL.v]
 rw [xh1, xh2, xh3, xh4]
 have xL := hide (And.intro xh1 (And.intro xh2 (And.intro xh3 xh4)))
 clear xh1 xh2 xh3 xh4
 obtain ⟨wa, hwa⟩ : ∃ wa, wa = w1.alloc (.cells #[.int .i64 xlv, .slice xha xlh xhc, .int .i64 xri, .slice xka xlk xkc, .slice xva xlw xvc, .slice xca xlc xcc] 36) := ⟨_, rfl⟩
 have bA : Below w1.heap.size w1 wa := by rw [hwa]; exact (Below.refl _ _).alloc (Nat.le_refl _) _
 have gA : wa.heap[w1.heap.size]? = some (.cells #[.int .i64 xlv, .slice xha xlh xhc, .int .i64 xri, .slice xka xlk xkc, .slice xva xlw xvc, .slice xca xlc xcc] 36 (0, 0)) := by rw [hwa]; exact heap_alloc_new w1 _
 have bxa := hxb.trans (bA.mono hxb.size)
 have BXA := hide bxa
 have BA := hide (B0.out.trans (bxa.mono B0.out.size))
 have HXP := hide hxp
 have HXO := hide hxo
 have HXB := hide hxb
 have BWA := hide bA
 have GA := hide gA
 have HWA := hide hwa
 have HC1 := hide (HCLN.out wa BA.out)
 obtain ⟨d0, d1, d2, d3, d4, d5⟩ := Six.of ((bxa.block _ (lt_of_block G0.out)).trans G0.out)
 clear hwa bA gA bxa hxp hxo hxb HCLN HC0 c0 c1 c2 c3 c4 c5
 go_upto_region 5 with fail
 rw [← HWA.out]
 clear HWA
 go_wp2_with fail
 refine HC1.out.mono ?_
 rintro e w2 ⟨⟨ylv, ⟨yha, yhc, yhs⟩, yri, ⟨yka, ykc, yK⟩, ⟨yva, yvc, yV⟩, ⟨yca, ycc, yC⟩⟩, _, _, rfl, hyp, hyo, hyb, _⟩
 obtain ⟨ylh, yh1⟩ : ∃ x, yhs.length = x := ⟨_, rfl⟩
 obtain ⟨ylk, yh2⟩ : ∃ x, yK.length = x := ⟨_, rfl⟩
 obtain ⟨ylw, yh3⟩ : ∃ x, yV.length = x := ⟨_, rfl⟩
 obtain ⟨ylc, yh4⟩ : ∃ x, yC.length = x := ⟨_, rfl⟩
 simp only [Nd.v, Tx.v, TL.v, IL.v]
 rw [yh1, yh2, yh3, yh4]
 have yL := hide (And.intro yh1 (And.intro yh2 (And.intro yh3 yh4)))
 clear yh1 yh2 yh3 yh4
 obtain ⟨W0, hwb⟩ : ∃ W0, W0 = w2.alloc (.cells #[.int .i64 ylv, .slice yha ylh yhc, .int .i64 yri, .slice yka ylk ykc, .slice yva ylw yvc, .slice yca ylc ycc] 36) := ⟨_, rfl⟩
 have bB : Below w2.heap.size w2 W0 := by rw [hwb]; exact (Below.refl _ _).alloc (Nat.le_refl _) _
 have gB : W0.heap[w2.heap.size]? = some (.cells #[.int .i64 ylv, .slice yha ylh yhc, .int .i64 yri, .slice yka ylk ykc, .slice yva ylw yvc, .slice yca ylc ycc] 36 (0, 0)) := by rw [hwb]; exact heap_alloc_new w2 _
 have byb := hyb.trans (bB.mono hyb.size)
 have bb0 := BXA.out.trans (byb.mono BXA.out.size)
 have hl1 : w.heap.size + 1 + 1 < w1.heap.size := by have := HXB.out.size; have := HZ0.out; omega
 have hl2 : w1.heap.size < w2.heap.size := by have := lt_of_block GA.out; have := hyb.size; omega
 have HS0 : Hid (RSp w #[.int .i64 alv, .slice aha alh ahc, .int .i64 ari, .slice aka alk akc, .slice ava alw avc, .slice aca alc acc] w1.heap.size w2.heap.size W0 #[.int .i64 xlv, .slice xha xlh xhc, .int .i64 xri, .slice xka xlk xkc, .slice xva xlw xvc, .slice xca xlc xcc] #[.int .i64 ylv, .slice yha ylh yhc, .int .i64 yri, .slice yka ylk ykc, .slice yva ylw yvc, .slice yca ylc ycc]) := ⟨BA.out.trans (byb.mono BA.out.size), (bb0.block _ (lt_of_block G0.out)).trans G0.out, (bb0.block _ (lt_of_block G1.out)).trans G1.out, (bb0.block _ (lt_of_block G2.out)).trans G2.out, (byb.block _ (lt_of_block GA.out)).trans GA.out, gB, hl1, hl2⟩
 have HF0 : Hid (∀ W', Upd (RSb w.heap.size w1.heap.size w2.heap.size) W0 W' → (⟨xlv, ⟨xha, xhc, xhs⟩, xri, ⟨xka, xkc, xK⟩, ⟨xva, xvc, xV⟩, ⟨xca, xcc, xC⟩⟩ : Nd).Own W' (w.heap.size + 3) ∧ (⟨ylv, ⟨yha, yhc, yhs⟩, yri, ⟨yka, ykc, yK⟩, ⟨yva, yvc, yV⟩, ⟨yca, ycc, yC⟩⟩ : Nd).Own W' (w.heap.size + 3)) := fun W' hu => by
  have hz := HZ0.out
  have u2 : Upd (RSb w.heap.size w1.heap.size w2.heap.size) w2 W' := (Upd.of_below bB _).trans hu
  have u1 : Upd (RSb w.heap.size w1.heap.size w2.heap.size) w1 W' := (Upd.of_below (BWA.out.trans (byb.mono BWA.out.size)) _).trans hu
  have hya := BXA.out.size
  refine ⟨(HXO.out.upd u1 (fun b h1 h2 e => ?_)).mono (by omega), (hyo.upd u2 (fun b h1 h2 e => ?_)).mono (by omega)⟩
  ·unfold RSb at e; omega
  ·have := lt_of_block GA.out; unfold RSb at e; omega
 have HYP := hide hyp
 have HWB := hide hwb
 have hl3 := lt_of_block gB
 have HL3 := hide hl3
 clear hwb bB gB byb bb0 hyp hyo hyb HC1 G0 G1 G2 GA B0 BA BXA HXO HXB BWA d0 d1 d2 d3 d4 d5 HZ0
 go_upto_region 9 with fail
 rw [← HWB.out]
 clear HWB hHD jm
 -- the key between
 obtain ⟨kb, ko, hka, hkc0⟩ := (HKT.out W0 HS0.out.bw).r G (by simp only; rw [HL.out.1]; exact hHl)
 simp only at hka hkc0
 subst hka
 have hmem : aK[G]'(by rw [HL.out.1]; exact hHl) ∈ aK := List.getElem_mem _
 have hbt : (an.ks.p).getD G [] = (aK[G]'(by rw [HL.out.1]; exact hHl)).s := by
  rw [HP.out.1, List.getD_eq_getElem?_getD, List.getElem?_map, List.getElem?_eq_getElem (by rw [HL.out.1]; exact hHl)]; rfl
 have HBE : Hid (∀ W, Below w.heap.size w W → (aK[G]'(by rw [HL.out.1]; exact hHl)).Ok W) := fun W hb => (HKT.out W hb).ok _ hmem
 generalize aK[G]'(by rw [HL.out.1]; exact hHl) = bx at *
 obtain ⟨ea, ec, es⟩ := bx
 obtain ⟨el, hel⟩ : ∃ el, es.length = el := ⟨_, rfl⟩
 have HBY : Hid (∀ W, Below w.heap.size w W → Calls Tryz.prog 108 #[.slice ea el ec] W fun e w' => ∃ v, e = .returned v ∧ OwnB w' W.heap.size 5 v es ∧ Below W.heap.size W w') := fun W hb => by have h := HBE.out W hb; exact rbytes_any ea el ec es W hel (by have := h.z; simp only at this; omega) (fun e => by have := h.n e; simp only [hel] at this; exact this) h.r
 have HES : Hid (B8 es ∧ es.length ≤ 140737488351232) := ⟨(HBE.out W0 HS0.out.bw).b8, (HBE.out W0 HS0.out.bw).z⟩
 simp only [Tx.v, hel] at hkc0
 have HEL := hide hel
 have HBT := hide hbt
 have jI0 : (0 : Int) ≤ (G : Int) := by omega
 have jI1 : (G : Int) < (alk : Int) := by omega
 obtain ⟨c0, c1, c2, c3, c4, c5⟩ := Six.of HS0.out.ga
 clear hel hbt hmem
 go_wp2_with fail
 refine (HBY.out W0 HS0.out.bw).mono ?_
 rintro e w3 ⟨kv, rfl, ok3, hb3⟩
 obtain ⟨ta, tc, hkv, _, _⟩ := ok3.slice
 rw [HEL.out] at hkv
 subst hkv
 have HS1 := hide (HS0.out.below hb3)
 have HF1 : Hid (∀ W', Upd (RSb w.heap.size w1.heap.size w2.heap.size) w3 W' → ((⟨xlv, ⟨xha, xhc, xhs⟩, xri, ⟨xka, xkc, xK⟩, ⟨xva, xvc, xV⟩, ⟨xca, xcc, xC⟩⟩ : Nd).Own W' (w.heap.size + 3) ∧ (⟨ylv, ⟨yha, yhc, yhs⟩, yri, ⟨yka, ykc, yK⟩, ⟨yva, yvc, yV⟩, ⟨yca, ycc, yC⟩⟩ : Nd).Own W' (w.heap.size + 3)) ∧ OwnB W' (w.heap.size + 3) 5 (.slice ta el tc) es) := fun W' hu => by
  refine ⟨HF0.out W' ((Upd.of_below hb3 _).trans hu), (ownB_upd' ok3 hu (fun b h1 h2 e => ?_)).mono (by have := HL3.out; omega)⟩
  have := HL3.out; unfold RSb at e; omega
 clear ok3 hb3 hkc0 c0 c1 c2 c3 c4 c5 HBY HF0 HS0
 go_upto_region 17 with fail
 obtain ⟨c0, c1, c2, c3, c4, c5⟩ := Six.of HS1.out.ga
 have hsl := rsUptoT (some ⟨kb, ko, none⟩) alk akc G (by omega) w3
 go_wp2_with fail
 refine (HT1.out w3 HS1.out.bw).mono ?_
 rintro e v17 ⟨pa17, pc17, PL17, rfl, hp17, hn17, ho17, hb17⟩
 have HP17 := hide (And.intro hp17 hn17)
 have hs17 := HS1.out.below hb17
 obtain ⟨l0, l1, l2, l3, l4, l5⟩ := Six.of hs17.g8
 have fz := fun j => frozen_of hs17.g8 j
 obtain ⟨u17, hw⟩ : ∃ x, x = v17.setCell ⟨w1.heap.size, 3, none⟩ (.slice pa17 G pc17) := ⟨_, rfl⟩
 have HS17 : Hid (RSp w #[.int .i64 alv, .slice aha alh ahc, .int .i64 ari, .slice (some ⟨kb, ko, none⟩) alk akc, .slice ava alw avc, .slice aca alc acc] w1.heap.size w2.heap.size u17 #[.int .i64 xlv, .slice xha xlh xhc, .int .i64 xri, .slice pa17 G pc17, .slice xva xlw xvc, .slice xca xlc xcc] #[.int .i64 ylv, .slice yha ylh yhc, .int .i64 yri, .slice yka ylk ykc, .slice yva ylw yvc, .slice yca ylc ycc]) := by show RSp _ _ _ _ _ _ _; rw [hw]; exact hs17.set8 3 _
 have hl3 : w2.heap.size < w3.heap.size := lt_of_block HS1.out.g10
 have HL12 := HS1.out.lt
 have HF17 : Hid (∀ W', Upd (RSb w.heap.size w1.heap.size w2.heap.size) u17 W' → (((⟨xlv, ⟨xha, xhc, xhs⟩, xri, ⟨xka, xkc, xK⟩, ⟨xva, xvc, xV⟩, ⟨xca, xcc, xC⟩⟩ : Nd).Own W' (w.heap.size + 3) ∧ (⟨ylv, ⟨yha, yhc, yhs⟩, yri, ⟨yka, ykc, yK⟩, ⟨yva, yvc, yV⟩, ⟨yca, ycc, yC⟩⟩ : Nd).Own W' (w.heap.size + 3)) ∧ OwnB W' (w.heap.size + 3) 5 (.slice ta el tc) es) ∧ (⟨pa17, pc17, PL17⟩ : TL).Own W' (w.heap.size + 3)) := fun W' hu => by
  have h1 : Upd (RSb w.heap.size w1.heap.size w2.heap.size) v17 W' := by have h2 := sp_set8 v17 w.heap.size w1.heap.size w2.heap.size 3 (.slice pa17 G pc17); rw [← hw] at h2; exact h2.trans hu
  refine ⟨HF1.out W' ((Upd.of_below hb17 _).trans h1), (ho17.upd h1 (fun b h1 h2 e => ?_)).mono (by omega)⟩
  unfold RSb at e; omega
 have HW17 := hide hw
 clear hs17 hw hl3 HL12 hb17 ho17 hp17 hn17 hsl HT1 c0 c1 c2 c3 c4 c5 HF1 HS1
 go_upto_region 18 with fail
 rw [← HW17.out]
 clear HW17 l0 l1 l2 l3 l4 l5 fz
 obtain ⟨c0, c1, c2, c3, c4, c5⟩ := Six.of HS17.out.ga
 obtain ⟨D18, hD⟩ : ∃ x, x = cutAt (some ⟨kb, ko, none⟩) H akc := ⟨_, rfl⟩
 obtain ⟨M18, hM⟩ : ∃ x, x = alk - H := ⟨_, rfl⟩
 obtain ⟨C18, hC⟩ : ∃ x, x = akc - H := ⟨_, rfl⟩
 have hsl := rsFromT (some ⟨kb, ko, none⟩) alk akc H (by omega) u17
 rw [← hD, ← hM, ← hC] at hsl
 rw [← hD, ← hM, ← hC] at HT3
 have HM18 := hide hM
 clear hD hM hC
 go_wp2_with fail
 refine (HT3.out u17 HS17.out.bw).mono ?_
 rintro e v18 ⟨pa18, pc18, PL18, rfl, hp18, hn18, ho18, hb18⟩
 have HP18 := hide (And.intro hp18 hn18)
 have hs18 := HS17.out.below hb18
 obtain ⟨l0, l1, l2, l3, l4, l5⟩ := Six.of hs18.g10
 have fz := fun j => frozen_of hs18.g10 j
 obtain ⟨u18, hw⟩ : ∃ x, x = v18.setCell ⟨w2.heap.size, 3, none⟩ (.slice pa18 M18 pc18) := ⟨_, rfl⟩
 have HS18 : Hid (RSp w #[.int .i64 alv, .slice aha alh ahc, .int .i64 ari, .slice (some ⟨kb, ko, none⟩) alk akc, .slice ava alw avc, .slice aca alc acc] w1.heap.size w2.heap.size u18 #[.int .i64 xlv, .slice xha xlh xhc, .int .i64 xri, .slice pa17 G pc17, .slice xva xlw xvc, .slice xca xlc xcc] #[.int .i64 ylv, .slice yha ylh yhc, .int .i64 yri, .slice pa18 M18 pc18, .slice yva ylw yvc, .slice yca ylc ycc]) := by show RSp _ _ _ _ _ _ _; rw [hw]; exact hs18.set10 3 _
 have hl3 : w2.heap.size < u17.heap.size := lt_of_block HS17.out.g10
 have HL12 := HS17.out.lt
 have HF18 : Hid (∀ W', Upd (RSb w.heap.size w1.heap.size w2.heap.size) u18 W' → ((((⟨xlv, ⟨xha, xhc, xhs⟩, xri, ⟨xka, xkc, xK⟩, ⟨xva, xvc, xV⟩, ⟨xca, xcc, xC⟩⟩ : Nd).Own W' (w.heap.size + 3) ∧ (⟨ylv, ⟨yha, yhc, yhs⟩, yri, ⟨yka, ykc, yK⟩, ⟨yva, yvc, yV⟩, ⟨yca, ycc, yC⟩⟩ : Nd).Own W' (w.heap.size + 3)) ∧ OwnB W' (w.heap.size + 3) 5 (.slice ta el tc) es) ∧ (⟨pa17, pc17, PL17⟩ : TL).Own W' (w.heap.size + 3)) ∧ (⟨pa18, pc18, PL18⟩ : TL).Own W' (w.heap.size + 3)) := fun W' hu => by
  have h1 : Upd (RSb w.heap.size w1.heap.size w2.heap.size) v18 W' := by have h2 := sp_set10 v18 w.heap.size w1.heap.size w2.heap.size 3 (.slice pa18 M18 pc18); rw [← hw] at h2; exact h2.trans hu
  refine ⟨HF17.out W' ((Upd.of_below hb18 _).trans h1), (ho18.upd h1 (fun b h1 h2 e => ?_)).mono (by omega)⟩
  unfold RSb at e; omega
 have HW18 := hide hw
 clear hs18 hw hl3 HL12 hb18 ho18 hp18 hn18 hsl HT3 c0 c1 c2 c3 c4 c5 HF17 HS17
 go_upto_region 19 with fail
 rw [← HW18.out]
 clear HW18 l0 l1 l2 l3 l4 l5 fz
 obtain ⟨c0, c1, c2, c3, c4, c5⟩ := Six.of HS18.out.ga
 have hsl := rsUptoI aca alc acc H (by omega) (u18.alloc (.cells #[] 3))
 have HOK : Hid (∀ W, Below w.heap.size w W → (⟨aca, acc, aC.take H⟩ : IL).Ok W ∧ (aC.take H).length = H) := fun W hb => ⟨(HCT.out W hb).upto H (by rw [HL.out.2.2]; omega), by rw [List.length_take, HL.out.2.2]; omega⟩
 have hMz : H ≤ alc := by omega
 have hlw0 := lt_of_block HS18.out.ga
 have HNN : Hid (aca = none → H = 0 ∧ acc = 0) := fun e => by have := (HOK.out u18 HS18.out.bw).1.n e; simp only [(HOK.out u18 HS18.out.bw).2] at this; exact this
 have HNM : Hid (((aC.take H).map (Value.int .i64)).length = H * 1) := by show _ = _; rw [List.length_map, (HOK.out u18 HS18.out.bw).2]; omega
 have HNW : Hid (∀ ad, aca = some ad → ∀ j u, ((aC.take H).map (Value.int .i64))[j]? = some u → (u18.alloc (.cells #[] 3)).cell? (ad.add j) = some u) := ((HOK.out _ (HS18.out.bw.alloc HS18.out.bw.size _)).1.vok.r).news
 go_upto_region 20 with (first
  | (at_builtin; refine append_own_any rfl (.tmp 103) (.tmp 108) 32 rfl u18.heap.size 3 i0 (.int .i64 0) 1 8 Tryz.underlying32 hi0 hz0 hz1 hz2 rfl (by decide) (.slice (some ⟨u18.heap.size, 0, none⟩) 0 0) 0 [] rfl (World.ownsRow_made u18 #[] 0 (Nat.le_refl _) (by unfold maxLen; omega) rfl) aca H acc ((aC.take H).map (Value.int .i64)) rfl HNM.out HNN.out HNW.out (i_oneCell _) (by unfold maxLen; omega) (by omega) (by simp) ?_; intro vv v19 ho19 hg19; simp only [List.nil_append, Nat.zero_add] at ho19; obtain ⟨pa19, pc19, rfl, _, _⟩ := vok_of_owns ho19; have hb19 : Below u18.heap.size u18 v19 := ((Below.refl _ _).alloc (Nat.le_refl _) _).grown hg19 (by simp) (fun k h => by cases h; exact Nat.le_refl _); have hs19 := HS18.out.below hb19; obtain ⟨l0, l1, l2, l3, l4, l5⟩ := Six.of hs19.g8; have fz := (fun j => frozen_of hs19.g8 j); have HO19 := hide ho19; have HB19 := hide hb19; clear ho19 hg19 hb19 hs19)
  | fail)
 obtain ⟨u19, hw⟩ : ∃ x, x = v19.setCell ⟨w1.heap.size, 5, none⟩ (.slice pa19 H pc19) := ⟨_, rfl⟩
 have HS19 : Hid (RSp w #[.int .i64 alv, .slice aha alh ahc, .int .i64 ari, .slice (some ⟨kb, ko, none⟩) alk akc, .slice ava alw avc, .slice aca alc acc] w1.heap.size w2.heap.size u19 #[.int .i64 xlv, .slice xha xlh xhc, .int .i64 xri, .slice pa17 G pc17, .slice xva xlw xvc, .slice pa19 H pc19] #[.int .i64 ylv, .slice yha ylh yhc, .int .i64 yri, .slice pa18 M18 pc18, .slice yva ylw yvc, .slice yca ylc ycc]) := by show RSp _ _ _ _ _ _ _; rw [hw]; exact (HS18.out.below HB19.out).set8 5 _
 have hl3 : w2.heap.size < u18.heap.size := lt_of_block HS18.out.g10
 have HL12 := HS18.out.lt
 have HF19 : Hid (∀ W', Upd (RSb w.heap.size w1.heap.size w2.heap.size) u19 W' → (((((⟨xlv, ⟨xha, xhc, xhs⟩, xri, ⟨xka, xkc, xK⟩, ⟨xva, xvc, xV⟩, ⟨xca, xcc, xC⟩⟩ : Nd).Own W' (w.heap.size + 3) ∧ (⟨ylv, ⟨yha, yhc, yhs⟩, yri, ⟨yka, ykc, yK⟩, ⟨yva, yvc, yV⟩, ⟨yca, ycc, yC⟩⟩ : Nd).Own W' (w.heap.size + 3)) ∧ OwnB W' (w.heap.size + 3) 5 (.slice ta el tc) es) ∧ (⟨pa17, pc17, PL17⟩ : TL).Own W' (w.heap.size + 3)) ∧ (⟨pa18, pc18, PL18⟩ : TL).Own W' (w.heap.size + 3)) ∧ W'.ownsRow (w.heap.size + 3) 3 1 (.slice pa19 H pc19) H ((aC.take H).map (Value.int .i64))) := fun W' hu => by
  have h1 : Upd (RSb w.heap.size w1.heap.size w2.heap.size) v19 W' := by have h2 := sp_set8 v19 w.heap.size w1.heap.size w2.heap.size 5 (.slice pa19 H pc19); rw [← hw] at h2; exact h2.trans hu
  refine ⟨HF18.out W' ((Upd.of_below HB19.out _).trans h1), owns_mono (ownsI_upd HO19.out h1 (fun b h1 h2 e => ?_)) (by omega)⟩
  unfold RSb at e; omega
 have HW19 := hide hw
 have HZ19 : Hid ((aC.take H).length = H) := (HOK.out u18 HS18.out.bw).2
 clear hw hl3 HL12 c0 c1 c2 c3 c4 c5 HF18 HS18 hsl HOK hMz HNN HNM HNW hlw0
 rw [← HW19.out]
 clear HW19 l0 l1 l2 l3 l4 l5 fz
 obtain ⟨c0, c1, c2, c3, c4, c5⟩ := Six.of HS19.out.ga
 obtain ⟨D20, hD⟩ : ∃ x, x = cutAt aca H acc := ⟨_, rfl⟩
 obtain ⟨M20, hM⟩ : ∃ x, x = alc - H := ⟨_, rfl⟩
 obtain ⟨C20, hC⟩ : ∃ x, x = acc - H := ⟨_, rfl⟩
 have hsl := rsFromI aca alc acc H (by omega) (u19.alloc (.cells #[] 3))
 have HOK : Hid (∀ W, Below w.heap.size w W → (⟨D20, C20, aC.drop H⟩ : IL).Ok W ∧ (aC.drop H).length = M20) := fun W hb => by rw [hD, hC, hM]; exact ⟨(HCT.out W hb).from_ H, by rw [List.length_drop, HL.out.2.2]⟩
 have hMz : M20 ≤ alc := by omega
 rw [← hD, ← hM, ← hC] at hsl
 clear hD hM hC
 have hlw0 := lt_of_block HS19.out.ga
 have HNN : Hid (D20 = none → M20 = 0 ∧ C20 = 0) := fun e => by have := (HOK.out u19 HS19.out.bw).1.n e; simp only [(HOK.out u19 HS19.out.bw).2] at this; exact this
 have HNM : Hid (((aC.drop H).map (Value.int .i64)).length = M20 * 1) := by show _ = _; rw [List.length_map, (HOK.out u19 HS19.out.bw).2]; omega
 have HNW : Hid (∀ ad, D20 = some ad → ∀ j u, ((aC.drop H).map (Value.int .i64))[j]? = some u → (u19.alloc (.cells #[] 3)).cell? (ad.add j) = some u) := ((HOK.out _ (HS19.out.bw.alloc HS19.out.bw.size _)).1.vok.r).news
 go_upto_region 21 with (first
  | (at_builtin; refine append_own_any rfl (.tmp 112) (.tmp 117) 32 rfl u19.heap.size 3 i0 (.int .i64 0) 1 8 Tryz.underlying32 hi0 hz0 hz1 hz2 rfl (by decide) (.slice (some ⟨u19.heap.size, 0, none⟩) 0 0) 0 [] rfl (World.ownsRow_made u19 #[] 0 (Nat.le_refl _) (by unfold maxLen; omega) rfl) D20 M20 C20 ((aC.drop H).map (Value.int .i64)) rfl HNM.out HNN.out HNW.out (i_oneCell _) (by unfold maxLen; omega) (by omega) (by simp) ?_; intro vv v20 ho20 hg20; simp only [List.nil_append, Nat.zero_add] at ho20; obtain ⟨pa20, pc20, rfl, _, _⟩ := vok_of_owns ho20; have hb20 : Below u19.heap.size u19 v20 := ((Below.refl _ _).alloc (Nat.le_refl _) _).grown hg20 (by simp) (fun k h => by cases h; exact Nat.le_refl _); have hs20 := HS19.out.below hb20; obtain ⟨l0, l1, l2, l3, l4, l5⟩ := Six.of hs20.g10; have fz := (fun j => frozen_of hs20.g10 j); have HO20 := hide ho20; have HB20 := hide hb20; clear ho20 hg20 hb20 hs20)
  | fail)
 obtain ⟨u20, hw⟩ : ∃ x, x = v20.setCell ⟨w2.heap.size, 5, none⟩ (.slice pa20 M20 pc20) := ⟨_, rfl⟩
 have HS20 : Hid (RSp w #[.int .i64 alv, .slice aha alh ahc, .int .i64 ari, .slice (some ⟨kb, ko, none⟩) alk akc, .slice ava alw avc, .slice aca alc acc] w1.heap.size w2.heap.size u20 #[.int .i64 xlv, .slice xha xlh xhc, .int .i64 xri, .slice pa17 G pc17, .slice xva xlw xvc, .slice pa19 H pc19] #[.int .i64 ylv, .slice yha ylh yhc, .int .i64 yri, .slice pa18 M18 pc18, .slice yva ylw yvc, .slice pa20 M20 pc20]) := by show RSp _ _ _ _ _ _ _; rw [hw]; exact (HS19.out.below HB20.out).set10 5 _
 have hl3 : w2.heap.size < u19.heap.size := lt_of_block HS19.out.g10
 have HL12 := HS19.out.lt
 have HF20 : Hid (∀ W', Upd (RSb w.heap.size w1.heap.size w2.heap.size) u20 W' → ((((((⟨xlv, ⟨xha, xhc, xhs⟩, xri, ⟨xka, xkc, xK⟩, ⟨xva, xvc, xV⟩, ⟨xca, xcc, xC⟩⟩ : Nd).Own W' (w.heap.size + 3) ∧ (⟨ylv, ⟨yha, yhc, yhs⟩, yri, ⟨yka, ykc, yK⟩, ⟨yva, yvc, yV⟩, ⟨yca, ycc, yC⟩⟩ : Nd).Own W' (w.heap.size + 3)) ∧ OwnB W' (w.heap.size + 3) 5 (.slice ta el tc) es) ∧ (⟨pa17, pc17, PL17⟩ : TL).Own W' (w.heap.size + 3)) ∧ (⟨pa18, pc18, PL18⟩ : TL).Own W' (w.heap.size + 3)) ∧ W'.ownsRow (w.heap.size + 3) 3 1 (.slice pa19 H pc19) H ((aC.take H).map (Value.int .i64))) ∧ W'.ownsRow (w.heap.size + 3) 3 1 (.slice pa20 M20 pc20) M20 ((aC.drop H).map (Value.int .i64))) := fun W' hu => by
  have h1 : Upd (RSb w.heap.size w1.heap.size w2.heap.size) v20 W' := by have h2 := sp_set10 v20 w.heap.size w1.heap.size w2.heap.size 5 (.slice pa20 M20 pc20); rw [← hw] at h2; exact h2.trans hu
  refine ⟨HF19.out W' ((Upd.of_below HB20.out _).trans h1), owns_mono (ownsI_upd HO20.out h1 (fun b h1 h2 e => ?_)) (by omega)⟩
  unfold RSb at e; omega
 have HW20 := hide hw
 have HZ20 : Hid ((aC.drop H).length = M20) := (HOK.out u19 HS19.out.bw).2
 clear hw hl3 HL12 c0 c1 c2 c3 c4 c5 HF19 HS19 hsl HOK hMz HNN HNM HNW hlw0
 rw [← HW20.out]
 clear HW20 l0 l1 l2 l3 l4 l5 fz
 have HBY : Hid (Calls Tryz.prog 108 #[.slice ta el tc] u20 fun e w' => ∃ v, e = .returned v ∧ OwnB w' u20.heap.size 5 v es ∧ Below u20.heap.size u20 w') := by
  have h := HF20.out u20 (Upd.refl _ _)
  have hk := h.1.1.1.1.2
  have ho := ownB_ok (x := ⟨ta, tc, es⟩) (by simp only [Tx.v, HEL.out]; exact hk) HES.out.1 HES.out.2
  exact rbytes_any ta el tc es u20 HEL.out (by have := HES.out.2; rw [HEL.out] at this; omega) (fun e => by have := ho.n e; simp only [HEL.out] at this; exact this) ho.r
 go_wp2_with fail
 refine HBY.out.mono ?_
 rintro e v21 ⟨kv, rfl, ho21, hb21⟩
 obtain ⟨pa21, pc21, hkv, _, _⟩ := ho21.slice
 rw [HEL.out] at hkv
 subst hkv
 have c0 : True := trivial
 have c1 : True := trivial
 have c2 : True := trivial
 have c3 : True := trivial
 have c4 : True := trivial
 have c5 : True := trivial
 have hs21 := HS20.out.below hb21
 obtain ⟨l0, l1, l2, l3, l4, l5⟩ := Six.of hs21.g8
 have fz := fun j => frozen_of hs21.g8 j
 obtain ⟨u21, hw⟩ : ∃ x, x = v21.setCell ⟨w1.heap.size, 1, none⟩ (.slice pa21 el pc21) := ⟨_, rfl⟩
 have HS21 : Hid (RSp w #[.int .i64 alv, .slice aha alh ahc, .int .i64 ari, .slice (some ⟨kb, ko, none⟩) alk akc, .slice ava alw avc, .slice aca alc acc] w1.heap.size w2.heap.size u21 #[.int .i64 xlv, .slice pa21 el pc21, .int .i64 xri, .slice pa17 G pc17, .slice xva xlw xvc, .slice pa19 H pc19] #[.int .i64 ylv, .slice yha ylh yhc, .int .i64 yri, .slice pa18 M18 pc18, .slice yva ylw yvc, .slice pa20 M20 pc20]) := by show RSp _ _ _ _ _ _ _; rw [hw]; exact hs21.set8 1 _
 have hl3 : w2.heap.size < u20.heap.size := lt_of_block HS20.out.g10
 have HL12 := HS20.out.lt
 have HF21 : Hid (∀ W', Upd (RSb w.heap.size w1.heap.size w2.heap.size) u21 W' → (((((((⟨xlv, ⟨xha, xhc, xhs⟩, xri, ⟨xka, xkc, xK⟩, ⟨xva, xvc, xV⟩, ⟨xca, xcc, xC⟩⟩ : Nd).Own W' (w.heap.size + 3) ∧ (⟨ylv, ⟨yha, yhc, yhs⟩, yri, ⟨yka, ykc, yK⟩, ⟨yva, yvc, yV⟩, ⟨yca, ycc, yC⟩⟩ : Nd).Own W' (w.heap.size + 3)) ∧ OwnB W' (w.heap.size + 3) 5 (.slice ta el tc) es) ∧ (⟨pa17, pc17, PL17⟩ : TL).Own W' (w.heap.size + 3)) ∧ (⟨pa18, pc18, PL18⟩ : TL).Own W' (w.heap.size + 3)) ∧ W'.ownsRow (w.heap.size + 3) 3 1 (.slice pa19 H pc19) H ((aC.take H).map (Value.int .i64))) ∧ W'.ownsRow (w.heap.size + 3) 3 1 (.slice pa20 M20 pc20) M20 ((aC.drop H).map (Value.int .i64))) ∧ OwnB W' (w.heap.size + 3) 5 (.slice pa21 el pc21) es) := fun W' hu => by
  have h1 : Upd (RSb w.heap.size w1.heap.size w2.heap.size) v21 W' := by have h2 := sp_set8 v21 w.heap.size w1.heap.size w2.heap.size 1 (.slice pa21 el pc21); rw [← hw] at h2; exact h2.trans hu
  refine ⟨HF20.out W' ((Upd.of_below hb21 _).trans h1), (ownB_upd' ho21 h1 (fun b h1 h2 e => ?_)).mono (by omega)⟩
  unfold RSb at e; omega
 have HW21 := hide hw
 clear hs21 hw hl3 HL12 hb21 ho21 HBY c0 c1 c2 c3 c4 c5 HF20 HS20
 go_upto_region 22 with fail
 rw [← HW21.out]
 clear HW21 l0 l1 l2 l3 l4 l5 fz
 obtain ⟨l0, l1, l2, l3, l4, l5⟩ := Six.of HS21.out.g8
 have fz := fun j => frozen_of HS21.out.g8 j
 obtain ⟨u22, hw⟩ : ∃ x, x = u21.setCell ⟨w1.heap.size, 2, none⟩ (.int .i64 right) := ⟨_, rfl⟩
 have HS22 : Hid (RSp w #[.int .i64 alv, .slice aha alh ahc, .int .i64 ari, .slice (some ⟨kb, ko, none⟩) alk akc, .slice ava alw avc, .slice aca alc acc] w1.heap.size w2.heap.size u22 #[.int .i64 xlv, .slice pa21 el pc21, .int .i64 right, .slice pa17 G pc17, .slice xva xlw xvc, .slice pa19 H pc19] #[.int .i64 ylv, .slice yha ylh yhc, .int .i64 yri, .slice pa18 M18 pc18, .slice yva ylw yvc, .slice pa20 M20 pc20]) := by show RSp _ _ _ _ _ _ _; rw [hw]; exact HS21.out.set8 2 _
 have HF22 : Hid (∀ W', Upd (RSb w.heap.size w1.heap.size w2.heap.size) u22 W' → ((((((((⟨xlv, ⟨xha, xhc, xhs⟩, xri, ⟨xka, xkc, xK⟩, ⟨xva, xvc, xV⟩, ⟨xca, xcc, xC⟩⟩ : Nd).Own W' (w.heap.size + 3) ∧ (⟨ylv, ⟨yha, yhc, yhs⟩, yri, ⟨yka, ykc, yK⟩, ⟨yva, yvc, yV⟩, ⟨yca, ycc, yC⟩⟩ : Nd).Own W' (w.heap.size + 3)) ∧ OwnB W' (w.heap.size + 3) 5 (.slice ta el tc) es) ∧ (⟨pa17, pc17, PL17⟩ : TL).Own W' (w.heap.size + 3)) ∧ (⟨pa18, pc18, PL18⟩ : TL).Own W' (w.heap.size + 3)) ∧ W'.ownsRow (w.heap.size + 3) 3 1 (.slice pa19 H pc19) H ((aC.take H).map (Value.int .i64))) ∧ W'.ownsRow (w.heap.size + 3) 3 1 (.slice pa20 M20 pc20) M20 ((aC.drop H).map (Value.int .i64))) ∧ OwnB W' (w.heap.size + 3) 5 (.slice pa21 el pc21) es)) := fun W' hu => by
  have h2 := sp_set8 u21 w.heap.size w1.heap.size w2.heap.size 2 (.int .i64 right)
  rw [← hw] at h2
  exact HF21.out W' (h2.trans hu)
 have HW22 := hide hw
 clear hw HF21 HS21
 go_upto_region 23 with fail
 rw [← HW22.out]
 clear HW22 l0 l1 l2 l3 l4 l5 fz
 have hs22 := HS22.out
 obtain ⟨l0, l1, l2, l3, l4, l5⟩ := Six.of hs22.g8
 obtain ⟨r0, r1, r2, r3, r4, r5⟩ := Six.of hs22.g10
 obtain ⟨y0, y1, y2, y3, y4, y5⟩ := Six.of hs22.g4
 obtain ⟨z0, z1, z2, z3, z4, z5⟩ := Six.of hs22.g5
 have f4 := fun j => frozen_of hs22.g4 j
 have f5 := fun j => frozen_of hs22.g5 j
 have hlt := hs22.lt
 have n1 : ¬ w.heap.size + 1 = w1.heap.size := by omega
 have n2 : ¬ w.heap.size + 1 = w2.heap.size := by omega
 have n3 : ¬ w.heap.size + 1 + 1 = w1.heap.size := by omega
 have n4 : ¬ w.heap.size + 1 + 1 = w2.heap.size := by omega
 have n5 : ¬ w1.heap.size = w.heap.size + 1 := by omega
 have n6 : ¬ w2.heap.size = w.heap.size + 1 := by omega
 have n7 : ¬ w1.heap.size = w.heap.size + 1 + 1 := by omega
 have n8 : ¬ w2.heap.size = w.heap.size + 1 + 1 := by omega
 clear hs22 hlt
 go_region
 clear f4 f5 l0 l1 l2 l3 l4 l5 r0 r1 r2 r3 r4 r5 y0 y1 y2 y3 y4 y5 z0 z1 z2 z3 z4 z5 n1 n2 n3 n4 n5 n6 n7 n8
 have HU1 : Hid (Upd (fun b => b = w.heap.size + 1) u22 (six6 u22 (w.heap.size + 1) (.int .i64 xlv) (.slice pa21 el pc21) (.int .i64 right) (.slice pa17 G pc17) (.slice xva xlw xvc) (.slice pa19 H pc19))) := six_upd _ _ _ _ _ _ _ _ _ rfl
 have HU2 : Hid (Upd (fun b => b = w.heap.size + 1 + 1) (six6 u22 (w.heap.size + 1) (.int .i64 xlv) (.slice pa21 el pc21) (.int .i64 right) (.slice pa17 G pc17) (.slice xva xlw xvc) (.slice pa19 H pc19)) (six6 (six6 u22 (w.heap.size + 1) (.int .i64 xlv) (.slice pa21 el pc21) (.int .i64 right) (.slice pa17 G pc17) (.slice xva xlw xvc) (.slice pa19 H pc19)) (w.heap.size + 1 + 1) (.int .i64 ylv) (.slice yha ylh yhc) (.int .i64 yri) (.slice pa18 M18 pc18) (.slice yva ylw yvc) (.slice pa20 M20 pc20))) := six_upd _ _ _ _ _ _ _ _ _ rfl
 have K1 : Hid ((six6 (six6 u22 (w.heap.size + 1) (.int .i64 xlv) (.slice pa21 el pc21) (.int .i64 right) (.slice pa17 G pc17) (.slice xva xlw xvc) (.slice pa19 H pc19)) (w.heap.size + 1 + 1) (.int .i64 ylv) (.slice yha ylh yhc) (.int .i64 yri) (.slice pa18 M18 pc18) (.slice yva ylw yvc) (.slice pa20 M20 pc20)).heap[w.heap.size + 1]? = some (.cells #[.int .i64 xlv, .slice pa21 el pc21, .int .i64 right, .slice pa17 G pc17, .slice xva xlw xvc, .slice pa19 H pc19] 36 (0, 0))) := HU2.out.heap (six_block HS22.out.g4 (.int .i64 xlv) (.slice pa21 el pc21) (.int .i64 right) (.slice pa17 G pc17) (.slice xva xlw xvc) (.slice pa19 H pc19)) (fun e => by omega)
 have K2 : Hid ((six6 (six6 u22 (w.heap.size + 1) (.int .i64 xlv) (.slice pa21 el pc21) (.int .i64 right) (.slice pa17 G pc17) (.slice xva xlw xvc) (.slice pa19 H pc19)) (w.heap.size + 1 + 1) (.int .i64 ylv) (.slice yha ylh yhc) (.int .i64 yri) (.slice pa18 M18 pc18) (.slice yva ylw yvc) (.slice pa20 M20 pc20)).heap[w.heap.size + 1 + 1]? = some (.cells #[.int .i64 ylv, .slice yha ylh yhc, .int .i64 yri, .slice pa18 M18 pc18, .slice yva ylw yvc, .slice pa20 M20 pc20] 36 (0, 0))) := six_block (HU1.out.heap HS22.out.g5 (fun e => by omega)) (.int .i64 ylv) (.slice yha ylh yhc) (.int .i64 yri) (.slice pa18 M18 pc18) (.slice yva ylw yvc) (.slice pa20 M20 pc20)
 obtain ⟨wz, hwz⟩ : ∃ x, x = six6 (six6 u22 (w.heap.size + 1) (.int .i64 xlv) (.slice pa21 el pc21) (.int .i64 right) (.slice pa17 G pc17) (.slice xva xlw xvc) (.slice pa19 H pc19)) (w.heap.size + 1 + 1) (.int .i64 ylv) (.slice yha ylh yhc) (.int .i64 yri) (.slice pa18 M18 pc18) (.slice yva ylw yvc) (.slice pa20 M20 pc20) := ⟨_, rfl⟩
 rw [← hwz] at HU2 K1 K2
 have HUZ : Hid (Upd (RSb w.heap.size w1.heap.size w2.heap.size) u22 wz) := (HU1.out.mono (fun k _ e => .inl e)).trans (HU2.out.mono (fun k _ e => .inr (.inl e)))
 have HBZ : Hid (Below w.heap.size w wz) := HS22.out.bw.trans ((HUZ.out).below HS22.out.bw.size (fun k hk e => by have := HS22.out.lt; unfold RSb at e; omega))
 simp only [six6] at hwz
 have HWZ := hide hwz
 clear hwz HU1 HU2
 rw [← HWZ.out]
 clear HWZ
 go_wp2_with fail
 (try simp only [Exit.inBlock, Exit.then])
 obtain ⟨q0, q1, q2, q3, q4, q5⟩ := Six.of (W := wz.drew) K1.out
 obtain ⟨r0, r1, r2, r3, r4, r5⟩ := Six.of (W := wz.drew) K2.out
 have hF := HF22.out wz HUZ.out
 refine bodyPost_ret (v := .tuple #[.agg #[.int .i64 xlv, .slice pa21 el pc21, .int .i64 right, .slice pa17 G pc17, .slice xva xlw xvc, .slice pa19 H pc19], .agg #[.int .i64 ylv, .slice yha ylh yhc, .int .i64 yri, .slice pa18 M18 pc18, .slice yva ylw yvc, .slice pa20 M20 pc20], .slice ta el tc]) (by simp [results, Tryz.results57, go_sem, q0, q1, q2, q3, q4, q5, r0, r1, r2, r3, r4, r5]) rfl ?_
 have exl := congrArg NP.lv HXP.out
 have eyl := congrArg NP.lv HYP.out
 have eyh := congrArg NP.hi HYP.out
 have eyr := congrArg NP.ri HYP.out
 have exc := congrArg NP.cs HXP.out
 have eyc := congrArg NP.cs HYP.out
 have exv := congrArg NP.vs HXP.out
 have eyv := congrArg NP.vs HYP.out
 simp only [Nd.p] at exl eyl eyh eyr exc eyc exv eyv
 rw [HP.out.2.2.1] at exc eyc
 rw [HP.out.2.1] at exv eyv
 have hxx := hF.1.1.1.1.1.1.1
 have hyy := hF.1.1.1.1.1.1.2
 have hkz' := hkz
 have hvz' := hvz
 have hcz' := hcz
 have hxv0 : xV.map (·.s) = [] := exv.trans (by rw [HLV.out]; rfl)
 have hyv0 : yV.map (·.s) = [] := eyv.trans (by rw [HLV.out]; rfl)
 refine ⟨(⟨xlv, ⟨pa21, pc21, es⟩, right, ⟨pa17, pc17, PL17⟩, ⟨xva, xvc, xV⟩, ⟨pa19, pc19, aC.take H⟩⟩ : Nd), (⟨ylv, ⟨yha, yhc, yhs⟩, yri, ⟨pa18, pc18, PL18⟩, ⟨yva, yvc, yV⟩, ⟨pa20, pc20, aC.drop H⟩⟩ : Nd), ⟨ta, tc, es⟩, ?_, ?_, ?_, ?_, ?_, ?_, ?_, below_drew HBZ.out⟩
 ·simp only [Nd.v, Tx.v, TL.v, IL.v, HEL.out, HP17.out.2, HP18.out.2, HZ19.out, HZ20.out, xL.out.2.2.1, yL.out.1, yL.out.2.2.1]
 ·simp only [Nd.p, TL.p, NP.mk.injEq]
  refine ⟨exl, HBT.out.symm, trivial, ?_, hxv0, by rw [HP.out.2.2.1]⟩
  rw [HP17.out.1, List.map_take, ← HP.out.1]; rfl
 ·simp only [Nd.p, TL.p, NP.mk.injEq]
  refine ⟨eyl, eyh, eyr, ?_, hyv0, by rw [HP.out.2.2.1]⟩
  rw [HP18.out.1, List.map_drop, ← HP.out.1]; rfl
 ·exact HBT.out.symm
 ·have h1 : (⟨xlv, ⟨pa21, pc21, es⟩, right, ⟨pa17, pc17, PL17⟩, ⟨xva, xvc, xV⟩, ⟨pa19, pc19, aC.take H⟩⟩ : Nd).Own wz (w.heap.size + 3) := ⟨by simp only [Tx.v, HEL.out]; exact hF.2, HES.out, hF.1.1.1.1.2, hxx.v, by simp only [IL.v, HZ19.out]; exact hF.1.1.2, by simp only [HP17.out.2]; omega, hxx.vz, by simp only [HZ19.out]; omega⟩
  exact (h1.mono (by omega)).below (below_drew (Below.refl _ _))
 ·have h1 : (⟨ylv, ⟨yha, yhc, yhs⟩, yri, ⟨pa18, pc18, PL18⟩, ⟨yva, yvc, yV⟩, ⟨pa20, pc20, aC.drop H⟩⟩ : Nd).Own wz (w.heap.size + 3) := ⟨hyy.h, hyy.hb, hF.1.1.1.2, hyy.v, by simp only [IL.v, HZ20.out]; exact hF.1.2, by simp only [HP18.out.2, HM18.out]; omega, hyy.vz, by simp only [List.length_drop, HL.out.2.2]; omega⟩
  exact (h1.mono (by omega)).below (below_drew (Below.refl _ _))
 ·exact (ownB_ok (x := ⟨ta, tc, es⟩) (by simp only [Tx.v, HEL.out]; exact hF.1.1.1.1.1.2) HES.out.1 HES.out.2).below (below_drew (Below.refl _ _))
end Go.Proofs.YtpljbgcofmlhbaaGreat
