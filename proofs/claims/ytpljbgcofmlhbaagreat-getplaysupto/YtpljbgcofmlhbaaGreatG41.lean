/- The document's Split: of leaves. -/
import Derived.Test.YtpljbgcofmlhbaaGreatG23
import Derived.Test.YtpljbgcofmlhbaaGreatG26
import Derived.Deep.CutBlock
namespace Go.Proofs.YtpljbgcofmlhbaaGreat
open Go.RowKit
set_option maxRecDepth 100000
set_option maxRecDepth 100000 in
set_option maxHeartbeats 6400000 in
theorem rsplit_leaf (n : Nd) (right : Int) (w : World) (hn : n.Ok w) (hR : RtP n.p) (hlv : n.lv = 0) (hw2 : 2 ≤ n.p.wd) : Calls Tryz.prog 57 #[n.v, .int .i64 right] w (RspP w (n.p.one right) n.p.two n.p.bet) := by
 obtain ⟨i0, hi0, hz0, hz1, hz2⟩ := info_parts infoI
 have hcut := cutK_lt hR hw2
 obtain ⟨H, hH⟩ : ∃ H, H = n.p.half := ⟨_, rfl⟩
 have hhalf : n.p.half = (n.p.wd + 1) / 2 := rfl
 have hwd : n.p.wd = n.ks.L.length := (if_pos hlv).trans (TL.p_len _)
 have hck : n.p.cutK = H := by rw [hH]; exact if_pos hlv
 have hrk : n.p.restK = n.p.ks.drop H := by rw [← hck]; exact if_pos hlv
 have hvl : n.vs.L.length = n.ks.L.length := by
  rcases hR.2 with h | h
  ·have := h.2.1; rw [show n.p.vs = n.vs.p from rfl, show n.p.ks = n.ks.p from rfl, TL.p_len, TL.p_len] at this; exact this
  ·have := h.1; have h2 : n.p.lv = n.lv := rfl; omega
 have hcl : n.cs.s = [] := by
  rcases hR.2 with h | h
  ·exact List.eq_nil_of_length_eq_zero h.2.2
  ·have := h.1; have h2 : n.p.lv = n.lv := rfl; omega
 have hHl : H < n.ks.L.length := by rw [hck, show n.p.ks = n.ks.p from rfl, TL.p_len] at hcut; exact hcut
 have HPU : Hid (n.p.one right = ⟨0, (n.ks.p).getD H [], right, n.ks.p.take H, n.vs.p.take H, []⟩ ∧ n.p.two = ⟨0, n.hi.s, n.ri, n.ks.p.drop H, n.vs.p.drop H, []⟩ ∧ n.p.bet = (n.ks.p).getD H []) := by
  have hb : n.p.bet = (n.ks.p).getD H [] := by rw [NP.bet_at, hck]; rfl
  refine ⟨?_, ?_, hb⟩
  ·unfold NP.one; rw [hb, hck, ← hH]; simp only [Nd.p, hcl, hlv, List.take_nil]
  ·unfold NP.two; rw [hrk, ← hH]; simp only [Nd.p, hcl, hlv, List.drop_nil]
 rw [HPU.out.1, HPU.out.2.1, HPU.out.2.2]
 have HNO : Hid (∀ W, Below w.heap.size w W → n.Ok W) := fun W hb => hn.below hb
 have HCLN : Hid (∀ W, Below w.heap.size w W → Calls Tryz.prog 107 #[n.v] W (RcPost W n)) := fun W hb => rclone_any n W (hn.below hb)
 have hkz := hn.kz
 have hvz := hn.vz
 have hcz := hn.cz
 rw [hwd] at hhalf hw2
 clear hcut hck hrk hR hwd HPU hn
 obtain ⟨an, han⟩ : ∃ an, an = n := ⟨_, rfl⟩
 rw [← han] at HNO HCLN ⊢
 obtain ⟨alv, ⟨aha, ahc, ahs⟩, ari, ⟨aka, akc, aK⟩, ⟨ava, avc, aV⟩, ⟨aca, acc, aC⟩⟩ := n
 simp only at hlv hvl hcl hHl hkz hvz hcz hhalf hw2
 subst hlv
 have HAN := hide han
 have HV : Hid (an.v = .agg #[.int .i64 0, .slice aha ahs.length ahc, .int .i64 ari, .slice aka aK.length akc, .slice ava aV.length avc, .slice aca aC.length acc]) := by show _ = _; rw [han]; rfl
 rw [HV.out] at HCLN ⊢
 have hPK : an.ks.p = aK.map (·.s) := by rw [han]; rfl
 have hPV : an.vs.p = aV.map (·.s) := by rw [han]; rfl
 have hPC : an.cs.s = aC := by rw [han]
 have hPH : an.hi.s = ahs := by rw [han]
 have hPR : an.ri = ari := by rw [han]
 have hPL : an.lv = 0 := by rw [han]
 have HP := hide (And.intro hPK (And.intro hPV (And.intro hPC (And.intro hPH (And.intro hPR hPL)))))
 clear han HV hPK hPV hPC hPH hPR hPL
 have HKT : Hid (∀ W, Below w.heap.size w W → (⟨aka, akc, aK⟩ : TL).Ok W) := fun W hb => by have := (HNO.out W hb).k; rw [HAN.out] at this; exact this
 have HVT : Hid (∀ W, Below w.heap.size w W → (⟨ava, avc, aV⟩ : TL).Ok W) := fun W hb => by have := (HNO.out W hb).v; rw [HAN.out] at this; exact this
 have HCT : Hid (∀ W, Below w.heap.size w W → (⟨aca, acc, aC⟩ : IL).Ok W) := fun W hb => by have := (HNO.out W hb).c; rw [HAN.out] at this; exact this
 have hkc := (HKT.out w (Below.refl _ _)).lc
 have hvc := (HVT.out w (Below.refl _ _)).lc
 have hcc := (HCT.out w (Below.refl _ _)).lc
 simp only at hkc hvc hcc
 have HLV := hide hvl
 have HLC := hide hcl
 clear hvl hcl
 generalize ahs.length = alh at *
 obtain ⟨alk, hlk⟩ : ∃ x, aK.length = x := ⟨_, rfl⟩
 obtain ⟨alw, hlw⟩ : ∃ x, aV.length = x := ⟨_, rfl⟩
 obtain ⟨alc, hlc⟩ : ∃ x, aC.length = x := ⟨_, rfl⟩
 rw [hlk] at hkz hkc hHl hhalf hw2
 rw [hlw] at hvz hvc
 rw [hlc] at hcz hcc 
 rw [hlk, hlw, hlc] at HCLN ⊢
 have HL := hide (And.intro hlk (And.intro hlw hlc))
 have hwl : alk ≤ alw ∧ alw ≤ alk := by have := HLV.out; omega
 have hHD : ((alk : Int) + 1) / 2 = (H : Int) := by omega
 have jm : ¬ (alk : Int) < 2 := by omega
 clear hlk hlw hlc hhalf hH
 have HT1 : Hid (∀ W, Below w.heap.size w W → Calls Tryz.prog 111 #[.slice aka H akc] W (CtP W (aK.take H) H)) := fun W hb => rtexts_any aka H akc (aK.take H) W ((HKT.out W hb).upto H (by rw [HL.out.1]; omega)) (by rw [List.length_take, HL.out.1]; omega) (by omega)
 have HT3 : Hid (∀ W, Below w.heap.size w W → Calls Tryz.prog 111 #[.slice (cutAt aka H akc) (alk - H) (akc - H)] W (CtP W (aK.drop H) (alk - H))) := fun W hb => rtexts_any (cutAt aka H akc) (alk - H) (akc - H) (aK.drop H) W ((HKT.out W hb).from_ H) (by rw [List.length_drop, HL.out.1]) (by omega)
 have HT2 : Hid (∀ W, Below w.heap.size w W → Calls Tryz.prog 111 #[.slice ava H avc] W (CtP W (aV.take H) H)) := fun W hb => rtexts_any ava H avc (aV.take H) W ((HVT.out W hb).upto H (by rw [HL.out.2.1]; omega)) (by rw [List.length_take, HL.out.2.1]; omega) (by omega)
 have HT4 : Hid (∀ W, Below w.heap.size w W → Calls Tryz.prog 111 #[.slice (cutAt ava H avc) (alw - H) (avc - H)] W (CtP W (aV.drop H) (alw - H))) := fun W hb => rtexts_any (cutAt ava H avc) (alw - H) (avc - H) (aV.drop H) W ((HVT.out W hb).from_ H) (by rw [List.length_drop, HL.out.2.1]) (by omega)
 obtain ⟨w0, hw0⟩ : ∃ w0, w0 = ((w.alloc (.cells #[.int .i64 0, .slice aha alh ahc, .int .i64 ari, .slice aka alk akc, .slice ava alw avc, .slice aca alc acc] 36)).alloc (.cells #[.int .i64 0, .slice none 0 0, .int .i64 0, .slice none 0 0, .slice none 0 0, .slice none 0 0] 36)).alloc (.cells #[.int .i64 0, .slice none 0 0, .int .i64 0, .slice none 0 0, .slice none 0 0, .slice none 0 0] 36) := ⟨_, rfl⟩
 have b0 : Below w.heap.size w w0 := by rw [hw0]; exact (((Below.refl _ _).alloc (Nat.le_refl _) _).alloc (by simp) _).alloc (by simp; omega) _
 have g0 : w0.heap[w.heap.size]? = some (.cells #[.int .i64 0, .slice aha alh ahc, .int .i64 ari, .slice aka alk akc, .slice ava alw avc, .slice aca alc acc] 36 (0, 0)) := by rw [hw0]; exact old_at (old_at (new_at rfl))
 have g1 : w0.heap[w.heap.size + 1]? = some (.cells #[.int .i64 0, .slice none 0 0, .int .i64 0, .slice none 0 0, .slice none 0 0, .slice none 0 0] 36 (0, 0)) := by rw [hw0]; exact old_at (new_at (by simp))
 have g2 : w0.heap[w.heap.size + 1 + 1]? = some (.cells #[.int .i64 0, .slice none 0 0, .int .i64 0, .slice none 0 0, .slice none 0 0, .slice none 0 0] 36 (0, 0)) := by rw [hw0]; exact new_at (by simp)
 have hz0 : w0.heap.size = w.heap.size + 3 := by rw [hw0]; simp
 have B0 := hide b0
 have G0 := hide g0
 have G1 := hide g1
 have G2 := hide g2
 have HZ0 := hide hz0
 have HW0 := hide hw0
 obtain ⟨c0, c1, c2, c3, c4, c5⟩ := Six.of g0
 have HC0 := hide (HCLN.out w0 B0.out)
 clear hw0 b0 g0 g1 g2 hz0
 go_enter Tryz.func57, Tryz.ntmps57
 go_upto_region 1 with fail
 rw [← HW0.out]
 clear HW0
 go_wp2_with fail
 refine HC0.out.mono ?_
 rintro e w1 ⟨⟨xlv, ⟨xha, xhc, xhs⟩, xri, ⟨xka, xkc, xK⟩, ⟨xva, xvc, xV⟩, ⟨xca, xcc, xC⟩⟩, _, _, rfl, hxp, hxo, hxb, _⟩
 obtain ⟨xlh, xh1⟩ : ∃ x, xhs.length = x := ⟨_, rfl⟩
 obtain ⟨xlk, xh2⟩ : ∃ x, xK.length = x := ⟨_, rfl⟩
 obtain ⟨xlw, xh3⟩ : ∃ x, xV.length = x := ⟨_, rfl⟩
 obtain ⟨xlc, xh4⟩ : ∃ x, xC.length = x := ⟨_, rfl⟩
 simp only [Nd.v, Tx.v, TL.v, IL.v]
 rw [xh1, xh2, xh3, xh4]
 have xL := hide (And.intro xh1 (And.intro xh2 (And.intro xh3 xh4)))
 clear xh1 xh2 xh3 xh4
 obtain ⟨wa, hwa⟩ : ∃ wa, wa = w1.alloc (.cells #[.int .i64 xlv, .slice xha xlh xhc, .int .i64 xri, .slice xka xlk xkc, .slice xva xlw xvc, .slice xca xlc xcc] 36) := ⟨_, rfl⟩
 have bA : Below w1.heap.size w1 wa := by rw [hwa]; exact (Below.refl _ _).alloc (Nat.le_refl _) _
 have gA : wa.heap[w1.heap.size]? = some (.cells #[.int .i64 xlv, .slice xha xlh xhc, .int .i64 xri, .slice xka xlk xkc, .slice xva xlw xvc, .slice xca xlc xcc] 36 (0, 0)) := by rw [hwa]; exact heap_alloc_new w1 _
 have bxa := hxb.trans (bA.mono hxb.size)
 have BXA := hide bxa
 have BA := hide (B0.out.trans (bxa.mono B0.out.size))
 have HXP := hide hxp
 have HXO := hide hxo
 have HXB := hide hxb
 have BWA := hide bA
 have GA := hide gA
 have HWA := hide hwa
 have HC1 := hide (HCLN.out wa BA.out)
 obtain ⟨d0, d1, d2, d3, d4, d5⟩ := Six.of ((bxa.block _ (lt_of_block G0.out)).trans G0.out)
 clear hwa bA gA bxa hxp hxo hxb HCLN HC0 c0 c1 c2 c3 c4 c5
 go_upto_region 5 with fail
 rw [← HWA.out]
 clear HWA
 go_wp2_with fail
 refine HC1.out.mono ?_
 rintro e w2 ⟨⟨ylv, ⟨yha, yhc, yhs⟩, yri, ⟨yka, ykc, yK⟩, ⟨yva, yvc, yV⟩, ⟨yca, ycc, yC⟩⟩, _, _, rfl, hyp, hyo, hyb, _⟩
 obtain ⟨ylh, yh1⟩ : ∃ x, yhs.length = x := ⟨_, rfl⟩
 obtain ⟨ylk, yh2⟩ : ∃ x, yK.length = x := ⟨_, rfl⟩
 obtain ⟨ylw, yh3⟩ : ∃ x, yV.length = x := ⟨_, rfl⟩
 obtain ⟨ylc, yh4⟩ : ∃ x, yC.length = x := ⟨_, rfl⟩
 simp only [Nd.v, Tx.v, TL.v, IL.v]
 rw [yh1, yh2, yh3, yh4]
 have yL := hide (And.intro yh1 (And.intro yh2 (And.intro yh3 yh4)))
 clear yh1 yh2 yh3 yh4
 obtain ⟨W0, hwb⟩ : ∃ W0, W0 = w2.alloc (.cells #[.int .i64 ylv, .slice yha ylh yhc, .int .i64 yri, .slice yka ylk ykc, .slice yva ylw yvc, .slice yca ylc ycc] 36) := ⟨_, rfl⟩
 have bB : Below w2.heap.size w2 W0 := by rw [hwb]; exact (Below.refl _ _).alloc (Nat.le_refl _) _
 have gB : W0.heap[w2.heap.size]? = some (.cells #[.int .i64 ylv, .slice yha ylh yhc, .int .i64 yri, .slice yka ylk ykc, .slice yva ylw yvc, .slice yca ylc ycc] 36 (0, 0)) := by rw [hwb]; exact heap_alloc_new w2 _
 have byb := hyb.trans (bB.mono hyb.size)
 have bb0 := BXA.out.trans (byb.mono BXA.out.size)
 have hl1 : w.heap.size + 1 + 1 < w1.heap.size := by have := HXB.out.size; have := HZ0.out; omega
 have hl2 : w1.heap.size < w2.heap.size := by have := lt_of_block GA.out; have := hyb.size; omega
 have HS0 : Hid (RSp w #[.int .i64 0, .slice aha alh ahc, .int .i64 ari, .slice aka alk akc, .slice ava alw avc, .slice aca alc acc] w1.heap.size w2.heap.size W0 #[.int .i64 xlv, .slice xha xlh xhc, .int .i64 xri, .slice xka xlk xkc, .slice xva xlw xvc, .slice xca xlc xcc] #[.int .i64 ylv, .slice yha ylh yhc, .int .i64 yri, .slice yka ylk ykc, .slice yva ylw yvc, .slice yca ylc ycc]) := ⟨BA.out.trans (byb.mono BA.out.size), (bb0.block _ (lt_of_block G0.out)).trans G0.out, (bb0.block _ (lt_of_block G1.out)).trans G1.out, (bb0.block _ (lt_of_block G2.out)).trans G2.out, (byb.block _ (lt_of_block GA.out)).trans GA.out, gB, hl1, hl2⟩
 have HF0 : Hid (∀ W', Upd (RSb w.heap.size w1.heap.size w2.heap.size) W0 W' → (⟨xlv, ⟨xha, xhc, xhs⟩, xri, ⟨xka, xkc, xK⟩, ⟨xva, xvc, xV⟩, ⟨xca, xcc, xC⟩⟩ : Nd).Own W' (w.heap.size + 3) ∧ (⟨ylv, ⟨yha, yhc, yhs⟩, yri, ⟨yka, ykc, yK⟩, ⟨yva, yvc, yV⟩, ⟨yca, ycc, yC⟩⟩ : Nd).Own W' (w.heap.size + 3)) := fun W' hu => by
  have hz := HZ0.out
  have u2 : Upd (RSb w.heap.size w1.heap.size w2.heap.size) w2 W' := (Upd.of_below bB _).trans hu
  have u1 : Upd (RSb w.heap.size w1.heap.size w2.heap.size) w1 W' := (Upd.of_below (BWA.out.trans (byb.mono BWA.out.size)) _).trans hu
  have hya := BXA.out.size
  refine ⟨(HXO.out.upd u1 (fun b h1 h2 e => ?_)).mono (by omega), (hyo.upd u2 (fun b h1 h2 e => ?_)).mono (by omega)⟩
  ·unfold RSb at e; omega
  ·have := lt_of_block GA.out; unfold RSb at e; omega
 have HYP := hide hyp
 have HWB := hide hwb
 have hl3 := lt_of_block gB
 have HL3 := hide hl3
 clear hwb bB gB byb bb0 hyp hyo hyb HC1 G0 G1 G2 GA B0 BA BXA HXO HXB BWA d0 d1 d2 d3 d4 d5 HZ0
 go_upto_region 9 with fail
 rw [← HWB.out]
 clear HWB hHD jm
 -- the key between
 obtain ⟨kb, ko, hka, hkc0⟩ := (HKT.out W0 HS0.out.bw).r H (by simp only; rw [HL.out.1]; exact hHl)
 simp only at hka hkc0
 subst hka
 have hmem : aK[H]'(by rw [HL.out.1]; exact hHl) ∈ aK := List.getElem_mem _
 have hbt : (an.ks.p).getD H [] = (aK[H]'(by rw [HL.out.1]; exact hHl)).s := by
  rw [HP.out.1, List.getD_eq_getElem?_getD, List.getElem?_map, List.getElem?_eq_getElem (by rw [HL.out.1]; exact hHl)]; rfl
 have HBE : Hid (∀ W, Below w.heap.size w W → (aK[H]'(by rw [HL.out.1]; exact hHl)).Ok W) := fun W hb => (HKT.out W hb).ok _ hmem
 generalize aK[H]'(by rw [HL.out.1]; exact hHl) = bx at *
 obtain ⟨ea, ec, es⟩ := bx
 obtain ⟨el, hel⟩ : ∃ el, es.length = el := ⟨_, rfl⟩
 have HBY : Hid (∀ W, Below w.heap.size w W → Calls Tryz.prog 108 #[.slice ea el ec] W fun e w' => ∃ v, e = .returned v ∧ OwnB w' W.heap.size 5 v es ∧ Below W.heap.size W w') := fun W hb => by have h := HBE.out W hb; exact rbytes_any ea el ec es W hel (by have := h.z; simp only at this; omega) (fun e => by have := h.n e; simp only [hel] at this; exact this) h.r
 have HES : Hid (B8 es ∧ es.length ≤ 140737488351232) := ⟨(HBE.out W0 HS0.out.bw).b8, (HBE.out W0 HS0.out.bw).z⟩
 simp only [Tx.v, hel] at hkc0
 have HEL := hide hel
 have HBT := hide hbt
 have jI0 : (0 : Int) ≤ (H : Int) := by omega
 have jI1 : (H : Int) < (alk : Int) := by omega
 obtain ⟨c0, c1, c2, c3, c4, c5⟩ := Six.of HS0.out.ga
 clear hel hbt hmem
 go_wp2_with fail
 refine (HBY.out W0 HS0.out.bw).mono ?_
 rintro e w3 ⟨kv, rfl, ok3, hb3⟩
 obtain ⟨ta, tc, hkv, _, _⟩ := ok3.slice
 rw [HEL.out] at hkv
 subst hkv
 have HS1 := hide (HS0.out.below hb3)
 have HF1 : Hid (∀ W', Upd (RSb w.heap.size w1.heap.size w2.heap.size) w3 W' → ((⟨xlv, ⟨xha, xhc, xhs⟩, xri, ⟨xka, xkc, xK⟩, ⟨xva, xvc, xV⟩, ⟨xca, xcc, xC⟩⟩ : Nd).Own W' (w.heap.size + 3) ∧ (⟨ylv, ⟨yha, yhc, yhs⟩, yri, ⟨yka, ykc, yK⟩, ⟨yva, yvc, yV⟩, ⟨yca, ycc, yC⟩⟩ : Nd).Own W' (w.heap.size + 3)) ∧ OwnB W' (w.heap.size + 3) 5 (.slice ta el tc) es) := fun W' hu => by
  refine ⟨HF0.out W' ((Upd.of_below hb3 _).trans hu), (ownB_upd' ok3 hu (fun b h1 h2 e => ?_)).mono (by have := HL3.out; omega)⟩
  have := HL3.out; unfold RSb at e; omega
 clear ok3 hb3 hkc0 c0 c1 c2 c3 c4 c5 HBY HF0 HS0
 go_upto_region 12 with fail
 obtain ⟨c0, c1, c2, c3, c4, c5⟩ := Six.of HS1.out.ga
 have hsl := rsUptoT (some ⟨kb, ko, none⟩) alk akc H (by omega) w3
 go_wp2_with fail
 refine (HT1.out w3 HS1.out.bw).mono ?_
 rintro e v12 ⟨pa12, pc12, PL12, rfl, hp12, hn12, ho12, hb12⟩
 have HP12 := hide (And.intro hp12 hn12)
 have hs12 := HS1.out.below hb12
 obtain ⟨l0, l1, l2, l3, l4, l5⟩ := Six.of hs12.g8
 have fz := fun j => frozen_of hs12.g8 j
 obtain ⟨u12, hw⟩ : ∃ x, x = v12.setCell ⟨w1.heap.size, 3, none⟩ (.slice pa12 H pc12) := ⟨_, rfl⟩
 have HS12 : Hid (RSp w #[.int .i64 0, .slice aha alh ahc, .int .i64 ari, .slice (some ⟨kb, ko, none⟩) alk akc, .slice ava alw avc, .slice aca alc acc] w1.heap.size w2.heap.size u12 #[.int .i64 xlv, .slice xha xlh xhc, .int .i64 xri, .slice pa12 H pc12, .slice xva xlw xvc, .slice xca xlc xcc] #[.int .i64 ylv, .slice yha ylh yhc, .int .i64 yri, .slice yka ylk ykc, .slice yva ylw yvc, .slice yca ylc ycc]) := by show RSp _ _ _ _ _ _ _; rw [hw]; exact hs12.set8 3 _
 have hl3 : w2.heap.size < w3.heap.size := lt_of_block HS1.out.g10
 have HL12 := HS1.out.lt
 have HF12 : Hid (∀ W', Upd (RSb w.heap.size w1.heap.size w2.heap.size) u12 W' → (((⟨xlv, ⟨xha, xhc, xhs⟩, xri, ⟨xka, xkc, xK⟩, ⟨xva, xvc, xV⟩, ⟨xca, xcc, xC⟩⟩ : Nd).Own W' (w.heap.size + 3) ∧ (⟨ylv, ⟨yha, yhc, yhs⟩, yri, ⟨yka, ykc, yK⟩, ⟨yva, yvc, yV⟩, ⟨yca, ycc, yC⟩⟩ : Nd).Own W' (w.heap.size + 3)) ∧ OwnB W' (w.heap.size + 3) 5 (.slice ta el tc) es) ∧ (⟨pa12, pc12, PL12⟩ : TL).Own W' (w.heap.size + 3)) := fun W' hu => by
  have h1 : Upd (RSb w.heap.size w1.heap.size w2.heap.size) v12 W' := by have h2 := sp_set8 v12 w.heap.size w1.heap.size w2.heap.size 3 (.slice pa12 H pc12); rw [← hw] at h2; exact h2.trans hu
  refine ⟨HF1.out W' ((Upd.of_below hb12 _).trans h1), (ho12.upd h1 (fun b h1 h2 e => ?_)).mono (by omega)⟩
  unfold RSb at e; omega
 have HW12 := hide hw
 clear hs12 hw hl3 HL12 hb12 ho12 hp12 hn12 hsl HT1 c0 c1 c2 c3 c4 c5 HF1 HS1
 go_upto_region 13 with fail
 rw [← HW12.out]
 clear HW12 l0 l1 l2 l3 l4 l5 fz
 obtain ⟨c0, c1, c2, c3, c4, c5⟩ := Six.of HS12.out.ga
 have hsl := rsUptoT ava alw avc H (by omega) u12
 go_wp2_with fail
 refine (HT2.out u12 HS12.out.bw).mono ?_
 rintro e v13 ⟨pa13, pc13, PL13, rfl, hp13, hn13, ho13, hb13⟩
 have HP13 := hide (And.intro hp13 hn13)
 have hs13 := HS12.out.below hb13
 obtain ⟨l0, l1, l2, l3, l4, l5⟩ := Six.of hs13.g8
 have fz := fun j => frozen_of hs13.g8 j
 obtain ⟨u13, hw⟩ : ∃ x, x = v13.setCell ⟨w1.heap.size, 4, none⟩ (.slice pa13 H pc13) := ⟨_, rfl⟩
 have HS13 : Hid (RSp w #[.int .i64 0, .slice aha alh ahc, .int .i64 ari, .slice (some ⟨kb, ko, none⟩) alk akc, .slice ava alw avc, .slice aca alc acc] w1.heap.size w2.heap.size u13 #[.int .i64 xlv, .slice xha xlh xhc, .int .i64 xri, .slice pa12 H pc12, .slice pa13 H pc13, .slice xca xlc xcc] #[.int .i64 ylv, .slice yha ylh yhc, .int .i64 yri, .slice yka ylk ykc, .slice yva ylw yvc, .slice yca ylc ycc]) := by show RSp _ _ _ _ _ _ _; rw [hw]; exact hs13.set8 4 _
 have hl3 : w2.heap.size < u12.heap.size := lt_of_block HS12.out.g10
 have HL12 := HS12.out.lt
 have HF13 : Hid (∀ W', Upd (RSb w.heap.size w1.heap.size w2.heap.size) u13 W' → ((((⟨xlv, ⟨xha, xhc, xhs⟩, xri, ⟨xka, xkc, xK⟩, ⟨xva, xvc, xV⟩, ⟨xca, xcc, xC⟩⟩ : Nd).Own W' (w.heap.size + 3) ∧ (⟨ylv, ⟨yha, yhc, yhs⟩, yri, ⟨yka, ykc, yK⟩, ⟨yva, yvc, yV⟩, ⟨yca, ycc, yC⟩⟩ : Nd).Own W' (w.heap.size + 3)) ∧ OwnB W' (w.heap.size + 3) 5 (.slice ta el tc) es) ∧ (⟨pa12, pc12, PL12⟩ : TL).Own W' (w.heap.size + 3)) ∧ (⟨pa13, pc13, PL13⟩ : TL).Own W' (w.heap.size + 3)) := fun W' hu => by
  have h1 : Upd (RSb w.heap.size w1.heap.size w2.heap.size) v13 W' := by have h2 := sp_set8 v13 w.heap.size w1.heap.size w2.heap.size 4 (.slice pa13 H pc13); rw [← hw] at h2; exact h2.trans hu
  refine ⟨HF12.out W' ((Upd.of_below hb13 _).trans h1), (ho13.upd h1 (fun b h1 h2 e => ?_)).mono (by omega)⟩
  unfold RSb at e; omega
 have HW13 := hide hw
 clear hs13 hw hl3 HL12 hb13 ho13 hp13 hn13 hsl HT2 c0 c1 c2 c3 c4 c5 HF12 HS12
 go_upto_region 14 with fail
 rw [← HW13.out]
 clear HW13 l0 l1 l2 l3 l4 l5 fz
 obtain ⟨c0, c1, c2, c3, c4, c5⟩ := Six.of HS13.out.ga
 obtain ⟨D14, hD⟩ : ∃ x, x = cutAt (some ⟨kb, ko, none⟩) H akc := ⟨_, rfl⟩
 obtain ⟨M14, hM⟩ : ∃ x, x = alk - H := ⟨_, rfl⟩
 obtain ⟨C14, hC⟩ : ∃ x, x = akc - H := ⟨_, rfl⟩
 have hsl := rsFromT (some ⟨kb, ko, none⟩) alk akc H (by omega) u13
 rw [← hD, ← hM, ← hC] at hsl
 rw [← hD, ← hM, ← hC] at HT3
 have HM14 := hide hM
 clear hD hM hC
 go_wp2_with fail
 refine (HT3.out u13 HS13.out.bw).mono ?_
 rintro e v14 ⟨pa14, pc14, PL14, rfl, hp14, hn14, ho14, hb14⟩
 have HP14 := hide (And.intro hp14 hn14)
 have hs14 := HS13.out.below hb14
 obtain ⟨l0, l1, l2, l3, l4, l5⟩ := Six.of hs14.g10
 have fz := fun j => frozen_of hs14.g10 j
 obtain ⟨u14, hw⟩ : ∃ x, x = v14.setCell ⟨w2.heap.size, 3, none⟩ (.slice pa14 M14 pc14) := ⟨_, rfl⟩
 have HS14 : Hid (RSp w #[.int .i64 0, .slice aha alh ahc, .int .i64 ari, .slice (some ⟨kb, ko, none⟩) alk akc, .slice ava alw avc, .slice aca alc acc] w1.heap.size w2.heap.size u14 #[.int .i64 xlv, .slice xha xlh xhc, .int .i64 xri, .slice pa12 H pc12, .slice pa13 H pc13, .slice xca xlc xcc] #[.int .i64 ylv, .slice yha ylh yhc, .int .i64 yri, .slice pa14 M14 pc14, .slice yva ylw yvc, .slice yca ylc ycc]) := by show RSp _ _ _ _ _ _ _; rw [hw]; exact hs14.set10 3 _
 have hl3 : w2.heap.size < u13.heap.size := lt_of_block HS13.out.g10
 have HL12 := HS13.out.lt
 have HF14 : Hid (∀ W', Upd (RSb w.heap.size w1.heap.size w2.heap.size) u14 W' → (((((⟨xlv, ⟨xha, xhc, xhs⟩, xri, ⟨xka, xkc, xK⟩, ⟨xva, xvc, xV⟩, ⟨xca, xcc, xC⟩⟩ : Nd).Own W' (w.heap.size + 3) ∧ (⟨ylv, ⟨yha, yhc, yhs⟩, yri, ⟨yka, ykc, yK⟩, ⟨yva, yvc, yV⟩, ⟨yca, ycc, yC⟩⟩ : Nd).Own W' (w.heap.size + 3)) ∧ OwnB W' (w.heap.size + 3) 5 (.slice ta el tc) es) ∧ (⟨pa12, pc12, PL12⟩ : TL).Own W' (w.heap.size + 3)) ∧ (⟨pa13, pc13, PL13⟩ : TL).Own W' (w.heap.size + 3)) ∧ (⟨pa14, pc14, PL14⟩ : TL).Own W' (w.heap.size + 3)) := fun W' hu => by
  have h1 : Upd (RSb w.heap.size w1.heap.size w2.heap.size) v14 W' := by have h2 := sp_set10 v14 w.heap.size w1.heap.size w2.heap.size 3 (.slice pa14 M14 pc14); rw [← hw] at h2; exact h2.trans hu
  refine ⟨HF13.out W' ((Upd.of_below hb14 _).trans h1), (ho14.upd h1 (fun b h1 h2 e => ?_)).mono (by omega)⟩
  unfold RSb at e; omega
 have HW14 := hide hw
 clear hs14 hw hl3 HL12 hb14 ho14 hp14 hn14 hsl HT3 c0 c1 c2 c3 c4 c5 HF13 HS13
 go_upto_region 15 with fail
 rw [← HW14.out]
 clear HW14 l0 l1 l2 l3 l4 l5 fz
 obtain ⟨c0, c1, c2, c3, c4, c5⟩ := Six.of HS14.out.ga
 obtain ⟨D15, hD⟩ : ∃ x, x = cutAt ava H avc := ⟨_, rfl⟩
 obtain ⟨M15, hM⟩ : ∃ x, x = alw - H := ⟨_, rfl⟩
 obtain ⟨C15, hC⟩ : ∃ x, x = avc - H := ⟨_, rfl⟩
 have hsl := rsFromT ava alw avc H (by omega) u14
 rw [← hD, ← hM, ← hC] at hsl
 rw [← hD, ← hM, ← hC] at HT4
 have HM15 := hide hM
 clear hD hM hC
 go_wp2_with fail
 refine (HT4.out u14 HS14.out.bw).mono ?_
 rintro e v15 ⟨pa15, pc15, PL15, rfl, hp15, hn15, ho15, hb15⟩
 have HP15 := hide (And.intro hp15 hn15)
 have hs15 := HS14.out.below hb15
 obtain ⟨l0, l1, l2, l3, l4, l5⟩ := Six.of hs15.g10
 have fz := fun j => frozen_of hs15.g10 j
 obtain ⟨u15, hw⟩ : ∃ x, x = v15.setCell ⟨w2.heap.size, 4, none⟩ (.slice pa15 M15 pc15) := ⟨_, rfl⟩
 have HS15 : Hid (RSp w #[.int .i64 0, .slice aha alh ahc, .int .i64 ari, .slice (some ⟨kb, ko, none⟩) alk akc, .slice ava alw avc, .slice aca alc acc] w1.heap.size w2.heap.size u15 #[.int .i64 xlv, .slice xha xlh xhc, .int .i64 xri, .slice pa12 H pc12, .slice pa13 H pc13, .slice xca xlc xcc] #[.int .i64 ylv, .slice yha ylh yhc, .int .i64 yri, .slice pa14 M14 pc14, .slice pa15 M15 pc15, .slice yca ylc ycc]) := by show RSp _ _ _ _ _ _ _; rw [hw]; exact hs15.set10 4 _
 have hl3 : w2.heap.size < u14.heap.size := lt_of_block HS14.out.g10
 have HL12 := HS14.out.lt
 have HF15 : Hid (∀ W', Upd (RSb w.heap.size w1.heap.size w2.heap.size) u15 W' → ((((((⟨xlv, ⟨xha, xhc, xhs⟩, xri, ⟨xka, xkc, xK⟩, ⟨xva, xvc, xV⟩, ⟨xca, xcc, xC⟩⟩ : Nd).Own W' (w.heap.size + 3) ∧ (⟨ylv, ⟨yha, yhc, yhs⟩, yri, ⟨yka, ykc, yK⟩, ⟨yva, yvc, yV⟩, ⟨yca, ycc, yC⟩⟩ : Nd).Own W' (w.heap.size + 3)) ∧ OwnB W' (w.heap.size + 3) 5 (.slice ta el tc) es) ∧ (⟨pa12, pc12, PL12⟩ : TL).Own W' (w.heap.size + 3)) ∧ (⟨pa13, pc13, PL13⟩ : TL).Own W' (w.heap.size + 3)) ∧ (⟨pa14, pc14, PL14⟩ : TL).Own W' (w.heap.size + 3)) ∧ (⟨pa15, pc15, PL15⟩ : TL).Own W' (w.heap.size + 3)) := fun W' hu => by
  have h1 : Upd (RSb w.heap.size w1.heap.size w2.heap.size) v15 W' := by have h2 := sp_set10 v15 w.heap.size w1.heap.size w2.heap.size 4 (.slice pa15 M15 pc15); rw [← hw] at h2; exact h2.trans hu
  refine ⟨HF14.out W' ((Upd.of_below hb15 _).trans h1), (ho15.upd h1 (fun b h1 h2 e => ?_)).mono (by omega)⟩
  unfold RSb at e; omega
 have HW15 := hide hw
 clear hs15 hw hl3 HL12 hb15 ho15 hp15 hn15 hsl HT4 c0 c1 c2 c3 c4 c5 HF14 HS14
 go_upto_region 21 with fail
 rw [← HW15.out]
 clear HW15 l0 l1 l2 l3 l4 l5 fz
 have HBY : Hid (Calls Tryz.prog 108 #[.slice ta el tc] u15 fun e w' => ∃ v, e = .returned v ∧ OwnB w' u15.heap.size 5 v es ∧ Below u15.heap.size u15 w') := by
  have h := HF15.out u15 (Upd.refl _ _)
  have hk := h.1.1.1.1.2
  have ho := ownB_ok (x := ⟨ta, tc, es⟩) (by simp only [Tx.v, HEL.out]; exact hk) HES.out.1 HES.out.2
  exact rbytes_any ta el tc es u15 HEL.out (by have := HES.out.2; rw [HEL.out] at this; omega) (fun e => by have := ho.n e; simp only [HEL.out] at this; exact this) ho.r
 go_wp2_with fail
 refine HBY.out.mono ?_
 rintro e v21 ⟨kv, rfl, ho21, hb21⟩
 obtain ⟨pa21, pc21, hkv, _, _⟩ := ho21.slice
 rw [HEL.out] at hkv
 subst hkv
 have c0 : True := trivial
 have c1 : True := trivial
 have c2 : True := trivial
 have c3 : True := trivial
 have c4 : True := trivial
 have c5 : True := trivial
 have hs21 := HS15.out.below hb21
 obtain ⟨l0, l1, l2, l3, l4, l5⟩ := Six.of hs21.g8
 have fz := fun j => frozen_of hs21.g8 j
 obtain ⟨u21, hw⟩ : ∃ x, x = v21.setCell ⟨w1.heap.size, 1, none⟩ (.slice pa21 el pc21) := ⟨_, rfl⟩
 have HS21 : Hid (RSp w #[.int .i64 0, .slice aha alh ahc, .int .i64 ari, .slice (some ⟨kb, ko, none⟩) alk akc, .slice ava alw avc, .slice aca alc acc] w1.heap.size w2.heap.size u21 #[.int .i64 xlv, .slice pa21 el pc21, .int .i64 xri, .slice pa12 H pc12, .slice pa13 H pc13, .slice xca xlc xcc] #[.int .i64 ylv, .slice yha ylh yhc, .int .i64 yri, .slice pa14 M14 pc14, .slice pa15 M15 pc15, .slice yca ylc ycc]) := by show RSp _ _ _ _ _ _ _; rw [hw]; exact hs21.set8 1 _
 have hl3 : w2.heap.size < u15.heap.size := lt_of_block HS15.out.g10
 have HL12 := HS15.out.lt
 have HF21 : Hid (∀ W', Upd (RSb w.heap.size w1.heap.size w2.heap.size) u21 W' → (((((((⟨xlv, ⟨xha, xhc, xhs⟩, xri, ⟨xka, xkc, xK⟩, ⟨xva, xvc, xV⟩, ⟨xca, xcc, xC⟩⟩ : Nd).Own W' (w.heap.size + 3) ∧ (⟨ylv, ⟨yha, yhc, yhs⟩, yri, ⟨yka, ykc, yK⟩, ⟨yva, yvc, yV⟩, ⟨yca, ycc, yC⟩⟩ : Nd).Own W' (w.heap.size + 3)) ∧ OwnB W' (w.heap.size + 3) 5 (.slice ta el tc) es) ∧ (⟨pa12, pc12, PL12⟩ : TL).Own W' (w.heap.size + 3)) ∧ (⟨pa13, pc13, PL13⟩ : TL).Own W' (w.heap.size + 3)) ∧ (⟨pa14, pc14, PL14⟩ : TL).Own W' (w.heap.size + 3)) ∧ (⟨pa15, pc15, PL15⟩ : TL).Own W' (w.heap.size + 3)) ∧ OwnB W' (w.heap.size + 3) 5 (.slice pa21 el pc21) es) := fun W' hu => by
  have h1 : Upd (RSb w.heap.size w1.heap.size w2.heap.size) v21 W' := by have h2 := sp_set8 v21 w.heap.size w1.heap.size w2.heap.size 1 (.slice pa21 el pc21); rw [← hw] at h2; exact h2.trans hu
  refine ⟨HF15.out W' ((Upd.of_below hb21 _).trans h1), (ownB_upd' ho21 h1 (fun b h1 h2 e => ?_)).mono (by omega)⟩
  unfold RSb at e; omega
 have HW21 := hide hw
 clear hs21 hw hl3 HL12 hb21 ho21 HBY c0 c1 c2 c3 c4 c5 HF15 HS15
 go_upto_region 22 with fail
 rw [← HW21.out]
 clear HW21 l0 l1 l2 l3 l4 l5 fz
 obtain ⟨l0, l1, l2, l3, l4, l5⟩ := Six.of HS21.out.g8
 have fz := fun j => frozen_of HS21.out.g8 j
 obtain ⟨u22, hw⟩ : ∃ x, x = u21.setCell ⟨w1.heap.size, 2, none⟩ (.int .i64 right) := ⟨_, rfl⟩
 have HS22 : Hid (RSp w #[.int .i64 0, .slice aha alh ahc, .int .i64 ari, .slice (some ⟨kb, ko, none⟩) alk akc, .slice ava alw avc, .slice aca alc acc] w1.heap.size w2.heap.size u22 #[.int .i64 xlv, .slice pa21 el pc21, .int .i64 right, .slice pa12 H pc12, .slice pa13 H pc13, .slice xca xlc xcc] #[.int .i64 ylv, .slice yha ylh yhc, .int .i64 yri, .slice pa14 M14 pc14, .slice pa15 M15 pc15, .slice yca ylc ycc]) := by show RSp _ _ _ _ _ _ _; rw [hw]; exact HS21.out.set8 2 _
 have HF22 : Hid (∀ W', Upd (RSb w.heap.size w1.heap.size w2.heap.size) u22 W' → ((((((((⟨xlv, ⟨xha, xhc, xhs⟩, xri, ⟨xka, xkc, xK⟩, ⟨xva, xvc, xV⟩, ⟨xca, xcc, xC⟩⟩ : Nd).Own W' (w.heap.size + 3) ∧ (⟨ylv, ⟨yha, yhc, yhs⟩, yri, ⟨yka, ykc, yK⟩, ⟨yva, yvc, yV⟩, ⟨yca, ycc, yC⟩⟩ : Nd).Own W' (w.heap.size + 3)) ∧ OwnB W' (w.heap.size + 3) 5 (.slice ta el tc) es) ∧ (⟨pa12, pc12, PL12⟩ : TL).Own W' (w.heap.size + 3)) ∧ (⟨pa13, pc13, PL13⟩ : TL).Own W' (w.heap.size + 3)) ∧ (⟨pa14, pc14, PL14⟩ : TL).Own W' (w.heap.size + 3)) ∧ (⟨pa15, pc15, PL15⟩ : TL).Own W' (w.heap.size + 3)) ∧ OwnB W' (w.heap.size + 3) 5 (.slice pa21 el pc21) es)) := fun W' hu => by
  have h2 := sp_set8 u21 w.heap.size w1.heap.size w2.heap.size 2 (.int .i64 right)
  rw [← hw] at h2
  exact HF21.out W' (h2.trans hu)
 have HW22 := hide hw
 clear hw HF21 HS21
 go_upto_region 23 with fail
 rw [← HW22.out]
 clear HW22 l0 l1 l2 l3 l4 l5 fz
 have hs22 := HS22.out
 obtain ⟨l0, l1, l2, l3, l4, l5⟩ := Six.of hs22.g8
 obtain ⟨r0, r1, r2, r3, r4, r5⟩ := Six.of hs22.g10
 obtain ⟨y0, y1, y2, y3, y4, y5⟩ := Six.of hs22.g4
 obtain ⟨z0, z1, z2, z3, z4, z5⟩ := Six.of hs22.g5
 have f4 := fun j => frozen_of hs22.g4 j
 have f5 := fun j => frozen_of hs22.g5 j
 have hlt := hs22.lt
 have n1 : ¬ w.heap.size + 1 = w1.heap.size := by omega
 have n2 : ¬ w.heap.size + 1 = w2.heap.size := by omega
 have n3 : ¬ w.heap.size + 1 + 1 = w1.heap.size := by omega
 have n4 : ¬ w.heap.size + 1 + 1 = w2.heap.size := by omega
 have n5 : ¬ w1.heap.size = w.heap.size + 1 := by omega
 have n6 : ¬ w2.heap.size = w.heap.size + 1 := by omega
 have n7 : ¬ w1.heap.size = w.heap.size + 1 + 1 := by omega
 have n8 : ¬ w2.heap.size = w.heap.size + 1 + 1 := by omega
 clear hs22 hlt
 go_region
 clear f4 f5 l0 l1 l2 l3 l4 l5 r0 r1 r2 r3 r4 r5 y0 y1 y2 y3 y4 y5 z0 z1 z2 z3 z4 z5 n1 n2 n3 n4 n5 n6 n7 n8
 have HU1 : Hid (Upd (fun b => b = w.heap.size + 1) u22 (six6 u22 (w.heap.size + 1) (.int .i64 xlv) (.slice pa21 el pc21) (.int .i64 right) (.slice pa12 H pc12) (.slice pa13 H pc13) (.slice xca xlc xcc))) := six_upd _ _ _ _ _ _ _ _ _ rfl
 have HU2 : Hid (Upd (fun b => b = w.heap.size + 1 + 1) (six6 u22 (w.heap.size + 1) (.int .i64 xlv) (.slice pa21 el pc21) (.int .i64 right) (.slice pa12 H pc12) (.slice pa13 H pc13) (.slice xca xlc xcc)) (six6 (six6 u22 (w.heap.size + 1) (.int .i64 xlv) (.slice pa21 el pc21) (.int .i64 right) (.slice pa12 H pc12) (.slice pa13 H pc13) (.slice xca xlc xcc)) (w.heap.size + 1 + 1) (.int .i64 ylv) (.slice yha ylh yhc) (.int .i64 yri) (.slice pa14 M14 pc14) (.slice pa15 M15 pc15) (.slice yca ylc ycc))) := six_upd _ _ _ _ _ _ _ _ _ rfl
 have K1 : Hid ((six6 (six6 u22 (w.heap.size + 1) (.int .i64 xlv) (.slice pa21 el pc21) (.int .i64 right) (.slice pa12 H pc12) (.slice pa13 H pc13) (.slice xca xlc xcc)) (w.heap.size + 1 + 1) (.int .i64 ylv) (.slice yha ylh yhc) (.int .i64 yri) (.slice pa14 M14 pc14) (.slice pa15 M15 pc15) (.slice yca ylc ycc)).heap[w.heap.size + 1]? = some (.cells #[.int .i64 xlv, .slice pa21 el pc21, .int .i64 right, .slice pa12 H pc12, .slice pa13 H pc13, .slice xca xlc xcc] 36 (0, 0))) := HU2.out.heap (six_block HS22.out.g4 (.int .i64 xlv) (.slice pa21 el pc21) (.int .i64 right) (.slice pa12 H pc12) (.slice pa13 H pc13) (.slice xca xlc xcc)) (fun e => by omega)
 have K2 : Hid ((six6 (six6 u22 (w.heap.size + 1) (.int .i64 xlv) (.slice pa21 el pc21) (.int .i64 right) (.slice pa12 H pc12) (.slice pa13 H pc13) (.slice xca xlc xcc)) (w.heap.size + 1 + 1) (.int .i64 ylv) (.slice yha ylh yhc) (.int .i64 yri) (.slice pa14 M14 pc14) (.slice pa15 M15 pc15) (.slice yca ylc ycc)).heap[w.heap.size + 1 + 1]? = some (.cells #[.int .i64 ylv, .slice yha ylh yhc, .int .i64 yri, .slice pa14 M14 pc14, .slice pa15 M15 pc15, .slice yca ylc ycc] 36 (0, 0))) := six_block (HU1.out.heap HS22.out.g5 (fun e => by omega)) (.int .i64 ylv) (.slice yha ylh yhc) (.int .i64 yri) (.slice pa14 M14 pc14) (.slice pa15 M15 pc15) (.slice yca ylc ycc)
 obtain ⟨wz, hwz⟩ : ∃ x, x = six6 (six6 u22 (w.heap.size + 1) (.int .i64 xlv) (.slice pa21 el pc21) (.int .i64 right) (.slice pa12 H pc12) (.slice pa13 H pc13) (.slice xca xlc xcc)) (w.heap.size + 1 + 1) (.int .i64 ylv) (.slice yha ylh yhc) (.int .i64 yri) (.slice pa14 M14 pc14) (.slice pa15 M15 pc15) (.slice yca ylc ycc) := ⟨_, rfl⟩
 rw [← hwz] at HU2 K1 K2
 have HUZ : Hid (Upd (RSb w.heap.size w1.heap.size w2.heap.size) u22 wz) := (HU1.out.mono (fun k _ e => .inl e)).trans (HU2.out.mono (fun k _ e => .inr (.inl e)))
 have HBZ : Hid (Below w.heap.size w wz) := HS22.out.bw.trans ((HUZ.out).below HS22.out.bw.size (fun k hk e => by have := HS22.out.lt; unfold RSb at e; omega))
 simp only [six6] at hwz
 have HWZ := hide hwz
 clear hwz HU1 HU2
 rw [← HWZ.out]
 clear HWZ
 go_wp2_with fail
 (try simp only [Exit.inBlock, Exit.then])
 obtain ⟨q0, q1, q2, q3, q4, q5⟩ := Six.of (W := wz.drew) K1.out
 obtain ⟨r0, r1, r2, r3, r4, r5⟩ := Six.of (W := wz.drew) K2.out
 have hF := HF22.out wz HUZ.out
 refine bodyPost_ret (v := .tuple #[.agg #[.int .i64 xlv, .slice pa21 el pc21, .int .i64 right, .slice pa12 H pc12, .slice pa13 H pc13, .slice xca xlc xcc], .agg #[.int .i64 ylv, .slice yha ylh yhc, .int .i64 yri, .slice pa14 M14 pc14, .slice pa15 M15 pc15, .slice yca ylc ycc], .slice ta el tc]) (by simp [results, Tryz.results57, go_sem, q0, q1, q2, q3, q4, q5, r0, r1, r2, r3, r4, r5]) rfl ?_
 have exl := congrArg NP.lv HXP.out
 have eyl := congrArg NP.lv HYP.out
 have eyh := congrArg NP.hi HYP.out
 have eyr := congrArg NP.ri HYP.out
 have exc := congrArg NP.cs HXP.out
 have eyc := congrArg NP.cs HYP.out
 have exv := congrArg NP.vs HXP.out
 have eyv := congrArg NP.vs HYP.out
 simp only [Nd.p] at exl eyl eyh eyr exc eyc exv eyv
 rw [HP.out.2.2.1] at exc eyc
 rw [HP.out.2.1] at exv eyv
 have hxx := hF.1.1.1.1.1.1.1
 have hyy := hF.1.1.1.1.1.1.2
 have hkz' := hkz
 have hvz' := hvz
 have hcz' := hcz
 refine ⟨(⟨xlv, ⟨pa21, pc21, es⟩, right, ⟨pa12, pc12, PL12⟩, ⟨pa13, pc13, PL13⟩, ⟨xca, xcc, xC⟩⟩ : Nd), (⟨ylv, ⟨yha, yhc, yhs⟩, yri, ⟨pa14, pc14, PL14⟩, ⟨pa15, pc15, PL15⟩, ⟨yca, ycc, yC⟩⟩ : Nd), ⟨ta, tc, es⟩, ?_, ?_, ?_, ?_, ?_, ?_, ?_, below_drew HBZ.out⟩
 ·simp only [Nd.v, Tx.v, TL.v, IL.v, HEL.out, HP12.out.2, HP13.out.2, HP14.out.2, HP15.out.2, xL.out.2.2.2, yL.out.1, yL.out.2.2.2]
 ·simp only [Nd.p, TL.p, NP.mk.injEq]
  refine ⟨exl.trans HP.out.2.2.2.2.2, HBT.out.symm, trivial, ?_, ?_, exc.trans HLC.out⟩
  ·rw [HP12.out.1, List.map_take, ← HP.out.1]; rfl
  ·rw [HP13.out.1, List.map_take, ← HP.out.2.1]; rfl
 ·simp only [Nd.p, TL.p, NP.mk.injEq]
  refine ⟨eyl.trans HP.out.2.2.2.2.2, eyh, eyr, ?_, ?_, eyc.trans HLC.out⟩
  ·rw [HP14.out.1, List.map_drop, ← HP.out.1]; rfl
  ·rw [HP15.out.1, List.map_drop, ← HP.out.2.1]; rfl
 ·exact HBT.out.symm
 ·have h1 : (⟨xlv, ⟨pa21, pc21, es⟩, right, ⟨pa12, pc12, PL12⟩, ⟨pa13, pc13, PL13⟩, ⟨xca, xcc, xC⟩⟩ : Nd).Own wz (w.heap.size + 3) := ⟨by simp only [Tx.v, HEL.out]; exact hF.2, HES.out, hF.1.1.1.1.2, hF.1.1.1.2, hxx.c, by simp only [HP12.out.2]; omega, by simp only [HP13.out.2]; omega, hxx.cz⟩
  exact (h1.mono (by omega)).below (below_drew (Below.refl _ _))
 ·have h1 : (⟨ylv, ⟨yha, yhc, yhs⟩, yri, ⟨pa14, pc14, PL14⟩, ⟨pa15, pc15, PL15⟩, ⟨yca, ycc, yC⟩⟩ : Nd).Own wz (w.heap.size + 3) := ⟨hyy.h, hyy.hb, hF.1.1.2, hF.1.2, hyy.c, by simp only [HP14.out.2, HM14.out]; omega, by simp only [HP15.out.2, HM15.out]; omega, hyy.cz⟩
  exact (h1.mono (by omega)).below (below_drew (Below.refl _ _))
 ·exact (ownB_ok (x := ⟨ta, tc, es⟩) (by simp only [Tx.v, HEL.out]; exact hF.1.1.1.1.1.2) HES.out.1 HES.out.2).below (below_drew (Below.refl _ _))
end Go.Proofs.YtpljbgcofmlhbaaGreat
