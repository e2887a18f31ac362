/- BlockWhole: the walk. -/
import Derived.Test.YtaammajaidgdlaaG35
import Derived.Deep.DeepAppendWide
import Derived.Deep.DeepCutAuto
namespace Go.Proofs.Ytaammajaidgdlaa
open Go.RowKit

/-- append onto a row of one's own, of great texts too. -/
theorem app_wide {P : Program} {ops : Array Oper} {o : Oper} {rest : List Oper} {a : Act} {w : World} {Q : Exit → Act → World → Prop} (hgd : o.guard = none) (s x : Operand) (t : TypeId)
    (ho : o.op = .call { callee := .builtin .append, args := #[s, x], argTypes := #[t, t] })
    (base : Nat) (e : TypeId) (i : TypeInfo) (ht : P.underlying t = some (.slice e)) (hi : P.info? e = some i) (hz : i.zero = some (.int .u8 0)) (hsize : i.size = 1) (hby : i.bytes = 1)
    (v : Value) (zs : List Int) (hs : a.eval s = v) (hown : w.ownsRow base e 1 v zs.length (zs.map (Value.int .u8)))
    (ao : Option Addr) (m c : Nat) (ys : List Int) (hx : a.eval x = .slice ao m c) (hl : ys.length = m) (hnone : ao = none → m = 0 ∧ c = 0) (hrow : Row w .u8 ao ys)
    (hbytes : zs.length + m ≤ 140737488400000) (hbase : base ≤ w.heap.size)
    (h : ∀ v' w', w'.ownsRow base e 1 v' (zs ++ ys).length ((zs ++ ys).map (Value.int .u8)) → w.grownBy w' v.ownBlock → wpList P ops Q rest (a.put o.dst v') w') : wpList P ops Q (o :: rest) a w := by
  cases ao with
  | none =>
    obtain ⟨rfl, rfl⟩ := hnone rfl
    have hzl : zs.length ≤ 140737488400000 := by omega
    obtain rfl : ys = [] := List.eq_nil_of_length_eq_zero hl
    rw [List.append_nil] at h
    refine Lib.wpList_append_run w hgd s x t t ho v (.slice none 0 0) hs hx v w (run_append_owned_none w base t o.type e i 1 ht hi v _ _ hown) (h v w hown (grownBy_refl _ _))
  | some ad =>
    refine wpList_append_own_wide w hgd s x t ho base e i (.int .u8 0) 1 1 ht hi hz hsize hby rfl (by decide) v zs.length (zs.map (Value.int .u8)) hs hown ad m c (ys.map (Value.int .u8)) hx (by rw [List.length_map, Nat.mul_one]; exact hl) (hrow.cells ad rfl) (fun u hu => by obtain ⟨y, rfl⟩ := bytes_map ys u hu; rfl) (by unfold maxLen; omega) (by omega) hbase ?_
    intro v' w' h1 h2 _
    refine h v' w' ?_ h2
    rw [List.length_append, hl, List.map_append]
    exact h1

set_option maxRecDepth 100000 in
set_option maxHeartbeats 3200000 in
theorem blockWhole_any (a : Option Addr) (b o l c : Nat) (L : List Ent) (cut : Int) (a1 : Option Addr) (l1 c1 : Nat) (zs : List Int) (w : World) (hl : L.length = l) (hm : l ≤ 140737488351232) (ha : 0 < l → a = some ⟨b, o, none⟩) (hE : Ens w b o L)
    (hl1 : zs.length = l1) (hm1 : l1 ≤ 140737488351232) (na : a1 = none → l1 = 0 ∧ c1 = 0) (hr : Row w .u8 a1 zs) (z8 : B8 zs) :
    Calls Try.prog 8 #[.slice a l c, .int .i64 cut, .slice a1 l1 c1] w fun e w' => e = .returned (.bool true) ∧ Below w.heap.size w w' := by
  obtain ⟨i0, hi0, hz0, hz1, hz2⟩ := info_parts infoByte'
  have HE := hide (fun (W : World) (h : Below w.heap.size w W) => hE.below h)
  have HR := hide (fun (W : World) (h : Below w.heap.size w W) => hr.below2 h)
  have HA := hide ha
  have HNA := hide na
  have HE0 := hide hE
  clear hE hr ha na
  go_enter Try.func8, Try.ntmps8
  go_wp2_with fail
  refine (lives_any _).mono ?_
  rintro e w1 ⟨rfl, t1⟩
  have T1 := hide t1
  clear t1
  go_wp2_with fail
  refine (build_any a b o l c L w1 hl hm HA.out (HE.out w1 T1.out)).mono ?_
  rintro e w2 ⟨u, n, r, rfl, hB, hO, b2⟩
  have T2 := hide (T1.out.trans (b2.mono T1.out.size))
  obtain ⟨nz, hnz⟩ : ∃ nz, (bldL L r).length = nz := ⟨_, rfl⟩
  obtain ⟨a2, c2, rfl, hn2, hc2, _⟩ := hO.sliceN hnz
  have HN2 := hide hn2
  by_cases hr0 : r = 0
  · subst hr0
    obtain ⟨hg, hp, hn0⟩ := bldE.good HE0.out hB
    clear hn0
    have hbl : bldL L 0 = blk (kvs L) := by unfold bldL; rw [if_pos rfl]
    rw [hbl] at hO hnz
    have hlen := blk_len hg
    have hpos : 0 < nz := by rw [← hnz, blk_some hg hp]; simp
    rw [hnz] at hlen
    have O2 := hide hO
    have HNZ := hide hnz
    have HG := hide hg
    have HP := hide hp
    clear hB hO b2 hnz hn2 hbl hg hp
    have hmod1 : cut.tmod (nz : Int) < (nz : Int) := Int.tmod_lt_of_pos cut (by omega)
    have hmod2 : -(nz : Int) < cut.tmod (nz : Int) := by
      have h1 := Int.tmod_lt_of_pos (-cut) (show (0 : Int) < (nz : Int) by omega)
      rw [Int.neg_tmod] at h1
      omega
    go_upto_if 44 with fail
    generalize cut.tmod (nz : Int) = md at *
    go_cut [11] (fun s11 wx => ∃ q : Nat, q < nz ∧ s11 = .int .i64 (q : Int) ∧ Hid (wx = w2))
    case first =>
      by_cases hneg : md < 0
      · have hw : IntKind.i64.wrap (md + (nz : Int)) = md + (nz : Int) := by rw [IntKind.wrap_i64]; omega
        have hq : Hid ((((md + (nz : Int)).toNat : Nat) : Int) = md + (nz : Int)) := hide (by omega)
        go_wp2_with fail
        go_meet
        exact ⟨(md + (nz : Int)).toNat, by omega, by rw [hq.out], rfl⟩
      · have hq : Hid (((md.toNat : Nat) : Int) = md) := hide (by omega)
        go_wp2_with fail
        go_meet
        exact ⟨md.toNat, by omega, by rw [hq.out], rfl⟩
    case rest =>
    obtain ⟨q, hq, rfl, hwc⟩ := hcut
    have hwc' := hwc.out.symm
    subst hwc'
    have z28 : B8 (blk (kvs L)) := blk_b8 HG.out
    have hsl : ∀ W : World, (Instr.slice 23 (.slice a2 nz c2) none (some (.int .i64 (q : Int))) none).run Try.prog W = .ok (.slice a2 q c2) W := fun W => run_upto a2 nz c2 q (by omega) .i64 W
    have htl : ((blk (kvs L)).take q).length = q := by rw [List.length_take]; have := HNZ.out; omega
    have HRD := hide (bread_any a2 q c2 ((blk (kvs L)).take q) w2 htl (by omega) (by omega) (fun h => by have := HN2.out h; omega) (O2.out.row.take q) (z28.take q))
    have hne := bRes_cut HG.out HP.out q (by rw [HNZ.out]; exact hq)
    have hpl := (bRes_err (z28.take q) hne).2
    rw [htl] at hpl
    clear htl
    go_wp2_with fail
    refine HRD.out.mono ?_
    rintro e w3 ⟨b3, ⟨h0, _⟩ | ⟨_, rfl⟩⟩
    · exact absurd h0 hne
    have T3 := hide (T2.out.trans (b3.mono T2.out.size))
    have O3 := hide (O2.out.below b3)
    clear b3 HRD hsl
    generalize (bRes ((blk (kvs L)).take q)).2.1 = er1 at *
    generalize (bRes ((blk (kvs L)).take q)).2.2 = pl1 at *
    have hne0 : (er1 == 0) = false := by simp [hne]
    have R3 := hide (O3.out.row.alloc (.cells #[] 5))
    have hb4 : Below w3.heap.size w3 (w3.alloc (.cells #[] 5)) := (Below.refl _ _).alloc (Nat.le_refl _) _
    have T4 := hide (T3.out.trans (hb4.mono T3.out.size))
    have OM : Hid ((w3.alloc (.cells #[] 5)).ownsRow w3.heap.size 5 1 (.slice (some ⟨w3.heap.size, 0, none⟩) 0 0) ([] : List Int).length (([] : List Int).map (Value.int .u8))) := World.ownsRow_made w3 #[] 0 (Nat.le_refl _) (by unfold maxLen; omega) rfl
    have HZ4 : Hid (w3.heap.size ≤ (w3.alloc (.cells #[] 5)).heap.size) := hb4.size
    have hNN : Hid (a2 = none → nz = 0 ∧ c2 = 0) := HN2
    obtain ⟨nl, hnl⟩ : ∃ k, (blk (kvs L) ++ zs).length = k := ⟨_, rfl⟩
    have hnl' : nl = nz + l1 := by rw [← hnl, List.length_append, HNZ.out, hl1]
    have hnb : nl ≤ 140737488400000 := by omega
    replace hnl := hide hnl
    clear hb4 hnl'
    go_wp2_with (first
      | (at_builtin; refine app_list rfl (.tmp 57) (.tmp 58) 23 rfl w3.heap.size 5 i0 Try.underlying23 hi0 hz0 hz1 hz2 (.slice (some ⟨w3.heap.size, 0, none⟩) 0 0) [] rfl OM.out a2 nz c2 (blk (kvs L)) rfl HNZ.out hNN.out R3.out (by simp; omega) HZ4.out ?_; intro v5 w5 ho5 hg5 hk5; simp only [List.nil_append] at ho5; have HO5 := hide ho5; have B5 : Hid (Below w3.heap.size w3 w5) := (((Below.refl _ w3).alloc (Nat.le_refl _) (.cells #[] 5))).grown hg5 HZ4.out (fun k h => by cases h; exact Nat.le_refl _); have T5 := hide (T3.out.trans (B5.out.mono T3.out.size)); have HR5 := hide (HR.out w5 T5.out); obtain ⟨a5, c5, rfl, _⟩ := owns_openN ho5 HNZ.out; clear ho5 hg5 hk5)
      | (at_builtin; refine app_wide rfl (.tmp 59) (.tmp 60) 23 rfl w3.heap.size 5 i0 Try.underlying23 hi0 hz0 hz1 hz2 (.slice a5 nz c5) (blk (kvs L)) rfl HO5.out a1 l1 c1 zs rfl hl1 HNA.out HR5.out (by rw [HNZ.out]; omega) (by have := B5.out.size; omega) ?_; intro v6 w6 ho6 hg6; have HO6 := hide ho6; have B6 : Hid (Below w3.heap.size w3 w6) := B5.out.grown hg6 B5.out.size (fun k h => (HO5.out.lt k h).1); obtain ⟨a6, c6, rfl, hn6, hc6⟩ := owns_openN ho6 hnl.out; have HN6 := hide hn6; clear ho6 hg6 hn6)
      | fail)
    have T6 := hide (T3.out.trans (B6.out.mono T3.out.size))
    have zz8 : B8 (blk (kvs L) ++ zs) := z28.append z8
    have HRD := hide (bread_any a6 nl c6 (blk (kvs L) ++ zs) w6 hnl.out hnb hc6 HN6.out (row_of_owns2 (n := nl) (by have := HO6.out; rw [hnl.out] at this; exact this)) zz8)
    have hres := bRes_blk HG.out HP.out zs z8
    have HRS := hide hres
    have i1 : ¬ (pl1 : Int) < 0 := by omega
    have i2 : ¬ (q : Int) < (pl1 : Int) := by omega
    clear hres
    refine HRD.out.mono ?_
    rintro e w7 ⟨b7, ⟨h0, ga, Es, rfl, hEl, hkv⟩ | ⟨h0, rfl⟩⟩
    · rw [HRS.out] at h0 hkv
      have hz0' : zs = [] := by
        by_cases h : zs = []
        · exact h
        · rw [if_neg h] at h0; simp at h0
      subst hz0'
      rw [if_pos rfl] at hkv
      have hkv' : kvs Es = kvs L := hkv
      obtain rfl : l1 = 0 := by rw [← hl1]; rfl
      have hEsl : Es.length = l := by rw [← kvs_len, hkv', kvs_len, hl]
      have T7 := hide (T6.out.trans (b7.mono T6.out.size))
      have HEN := hide (hEl.ens (by rw [hkv']; exact HG.out))
      have HKV := hide hkv'
      rw [hEsl]
      clear b7 hEl hkv hkv' HRD h0
      go_wp2_with fail
      refine (sameall_ens (some ⟨ga, 0, none⟩) a ga 0 l b o l c Es L w7 hEsl hl HKV.out hm (fun _ => rfl) HA.out HEN.out (HE.out w7 T7.out)).mono ?_
      rintro e w8 ⟨rfl, b8⟩
      have T8 := hide (T7.out.trans (b8.mono T7.out.size))
      clear b8
      go_wp2_with fail
      go_ret
      exact ⟨rfl, T8.out⟩
    · have hzn : zs ≠ [] := fun h => by subst h; rw [HRS.out, if_pos rfl] at h0; simp at h0
      have hl1p : 0 < l1 := by rw [← hl1]; exact List.length_pos_iff.2 hzn
      have T7 := hide (T6.out.trans (b7.mono T6.out.size))
      rw [HRS.out, if_neg hzn]
      simp only
      rw [HNZ.out]
      have i3 : (0 : Int) < (l1 : Int) := by omega
      clear b7 HRD h0
      go_wp2_with fail
      go_ret
      exact ⟨rfl, T7.out⟩
  · have hne : (r != 0) = true := by simp [hr0]
    have h0 : nz = 0 := by rw [← hnz]; unfold bldL; rw [if_neg hr0]; rfl
    subst h0
    clear hB hO b2 hnz hn2
    go_wp2_with fail
    go_ret
    exact ⟨rfl, T2.out⟩

end Go.Proofs.Ytaammajaidgdlaa
