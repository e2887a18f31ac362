/- PairTrips: the walk. -/
import Derived.Test.YtfcjbibnjibijabKTripP
import Derived.Test.YtfcjbibnjibijabKRead
import Derived.Test.YtfcjbibnjibijabKCut
import Derived.Test.YtfcjbibnjibijabKSame
import Derived.Test.YtfcjbibnjibijabKLives
import Derived.Test.YtfcjbibnjibijabPSame
namespace Go.Proofs.Ytfcjbibnjibijab
open Go.RowKit

theorem encE_len (prev key val : List Int) (hp : prev.length ≤ 1048600) (hk : key.length ≤ 1048600) (hv : val.length ≤ 1048600) : (encE prev key val).length ≤ 30 + key.length + val.length := by
  have hle := comN_le prev key
  have h1 := (enc_len_le (comN prev key) (by omega)).2
  have h2 := (enc_len_le (key.length - comN prev key) (by omega)).2
  have h3 := (enc_len_le val.length (by omega)).2
  unfold encE
  simp only [List.length_append, List.length_drop]
  omega
theorem encE_b8 (prev key val : List Int) (hk : key.length ≤ 1048600) (hv : val.length ≤ 1048600) (k8 : B8 key) (v8 : B8 val) : B8 (encE prev key val) := by
  have hle := comN_le prev key
  unfold encE
  intro c hc
  simp only [List.mem_append] at hc
  rcases hc with (((hc | hc) | hc) | hc) | hc
  · exact enc_mem8 _ (by omega) c hc
  · exact enc_mem8 _ (by omega) c hc
  · exact enc_mem8 _ (by omega) c hc
  · exact k8 c (List.mem_of_mem_drop hc)
  · exact v8 c hc
theorem rKy_b8 (prev zs : List Int) (p : Nat) (p8 : B8 prev) (z8 : B8 zs) : B8 (rKy prev zs p) := by
  unfold rKy
  split
  · intro c hc
    unfold keyOf at hc
    rcases List.mem_append.1 hc with h | h
    · exact p8 c (List.mem_of_mem_take h)
    · exact z8 c (List.mem_of_mem_drop (List.mem_of_mem_take h))
  · exact B8.nil
theorem rVl_b8 (prev zs : List Int) (p : Nat) (z8 : B8 zs) : B8 (rVl prev zs p) := by
  unfold rVl
  split
  · intro c hc; exact z8 c (List.mem_of_mem_drop (List.mem_of_mem_take hc))
  · exact B8.nil
theorem chk_ok (k v : Nat) : chkE k v = 0 ↔ (1 ≤ k ∧ k ≤ 64 ∧ v ≤ 256) := by
  unfold chkE
  rcases keyE_cases k with ⟨h, h1⟩ | ⟨h, h1⟩ <;> rcases valE_cases v with ⟨g, g1⟩ | ⟨g, g1⟩ <;> rw [h] <;> simp [g] <;> omega
theorem E2.upd {S : Nat → Prop} {W W' : World} {g : Nat} {k v : Value} (h : E2 W g k v) (hu : Upd S W W') (hs : ¬ S g) : E2 W' g k v := hu.heap h hs

set_option maxRecDepth 100000 in
set_option maxHeartbeats 6400000 in
theorem pairTrips_any (a k v d b : Option Addr) (la ca lk ck lv cv ld cd lb cb : Nat) (xs ks vs ds bs : List Int) (w : World)
    (ha : xs.length = la) (hk : ks.length = lk) (hv : vs.length = lv) (hd : ds.length = ld) (hb : bs.length = lb) (ma : la ≤ 1048576) (mk : lk ≤ 1048576) (mv : lv ≤ 1048576) (md : ld ≤ 1048576) (mb : lb ≤ 1048576)
    (qa : la ≤ ca) (qk : lk ≤ ck) (qb : lb ≤ cb) (nk : k = none → lk = 0 ∧ ck = 0) (nv : v = none → lv = 0 ∧ cv = 0) (nd : d = none → ld = 0 ∧ cd = 0) (nb : b = none → lb = 0 ∧ cb = 0)
    (ra : Row w .u8 a xs) (rk : Row w .u8 k ks) (rv : Row w .u8 v vs) (rd : Row w .u8 d ds) (rb : Row w .u8 b bs) (a8 : B8 xs) (k8 : B8 ks) (v8 : B8 vs) (d8 : B8 ds) (b8 : B8 bs) :
    Calls Try.prog 4 #[.agg #[.slice a la ca, .slice k lk ck, .slice v lv cv, .slice d ld cd, .slice b lb cb]] w fun e w' => e = .returned (.bool true) ∧ Below w.heap.size w w' := by
  obtain ⟨i0, hi, hz0, hz1, hz2⟩ := info_parts infoByte'
  have RA : Hid (∀ W, Below w.heap.size w W → Row W .u8 a xs) := fun W h => ra.below2 h
  have RK : Hid (∀ W, Below w.heap.size w W → Row W .u8 k ks) := fun W h => rk.below2 h
  have RV : Hid (∀ W, Below w.heap.size w W → Row W .u8 v vs) := fun W h => rv.below2 h
  have RD : Hid (∀ W, Below w.heap.size w W → Row W .u8 d ds) := fun W h => rd.below2 h
  have RB : Hid (∀ W, Below w.heap.size w W → Row W .u8 b bs) := fun W h => rb.below2 h
  have NK := hide nk
  have NV := hide nv
  have ND := hide nd
  have NB := hide nb
  have A8 := hide a8
  have K8 := hide k8
  have V8 := hide v8
  have D8 := hide d8
  have B8' := hide b8
  clear ra rk rv rd rb nk nv nd nb a8 k8 v8 d8 b8
  have hel := encE_len xs ks vs (by omega) (by omega) (by omega)
  rw [hk, hv] at hel
  have he8 := encE_b8 xs ks vs (by omega) (by omega) K8.out V8.out
  have BY := hide (fun (W : World) (h : Below w.heap.size w W) => bytes_any a k v la ca lk ck lv cv xs ks vs W ha hk hv (by omega) (by omega) (by omega) qk NV.out NK.out (RA.out W h) (RK.out W h) (RV.out W h))
  have HTOK := hide (fun h1 h2 h3 h4 => trip_ok (ds ++ encE xs ks vs ++ bs) xs ks vs bs ld ((D8.out.append he8).append B8'.out) (by simp only [List.length_append]; omega) (by rw [List.append_assoc, List.drop_left' hd]; rfl) h1 h2 h3 h4)
  have HTBAD := hide (fun h => trip_bad (ds ++ encE xs ks vs ++ bs) xs ks vs bs ld ((D8.out.append he8).append B8'.out) (by simp only [List.length_append]; omega) (by rw [List.append_assoc, List.drop_left' hd]; rfl) (by omega) (by omega) h)
  have HBACK := hide (fun h => trip_back bs xs 0 B8'.out (Nat.zero_le _) h)
  have T8 : Hid (B8 (ds ++ encE xs ks vs ++ bs)) := (D8.out.append he8).append B8'.out
  have HTL : Hid ((ds ++ encE xs ks vs ++ bs).length = ld + (encE xs ks vs).length + lb) := by show _ = _; simp only [List.length_append]; omega
  have HEP : Hid ((encP xs ks vs).length = (encE xs ks vs).length) := rfl
  rw [HEP.out] at HTOK
  have RDT := hide (fun (W : World) (u : Option Addr) (n c : Nat) (h : Below w.heap.size w W) (hn : (ds ++ encE xs ks vs ++ bs).length = n) (hc : n ≤ c) (hu : u = none → n = 0 ∧ c = 0) (hr : Row W .u8 u (ds ++ encE xs ks vs ++ bs)) => read_in a u la ca n c ld xs (ds ++ encE xs ks vs ++ bs) W ha hn (by omega) (by have := HTL.out; omega) qa hc (by have := HTL.out; omega) (RA.out W h) hr A8.out T8.out hu)
  have RDB := hide (fun (W : World) (h : Below w.heap.size w W) => read_in a b la ca lb cb 0 xs bs W ha hb (by omega) (by omega) qa qb (Nat.zero_le _) (RA.out W h) (RB.out W h) A8.out B8'.out NB.out)
  have HKB := hide (rKy_b8 xs bs 0 A8.out B8'.out)
  have HVB := hide (rVl_b8 xs bs 0 B8'.out)
  generalize hT : ds ++ encE xs ks vs ++ bs = T at *
  have HTE := hide hT
  clear hT he8
  have t0 : Below w.heap.size w (w.alloc (.cells #[.slice a la ca, .slice k lk ck, .slice v lv cv, .slice d ld cd, .slice b lb cb] 36)) := (Below.refl _ _).alloc (Nat.le_refl _) _
  have x0 : (w.alloc (.cells #[.slice a la ca, .slice k lk ck, .slice v lv cv, .slice d ld cd, .slice b lb cb] 36)).heap[w.heap.size]? = some (.cells #[.slice a la ca, .slice k lk ck, .slice v lv cv, .slice d ld cd, .slice b lb cb] 36 (0, 0)) := heap_alloc_new w _
  have s0 : (w.alloc (.cells #[.slice a la ca, .slice k lk ck, .slice v lv cv, .slice d ld cd, .slice b lb cb] 36)).heap.size = w.heap.size + 1 := by simp
  go_enter Try.func4, Try.ntmps4
  go_wp2_with fail
  generalize w.alloc (.cells #[.slice a la ca, .slice k lk ck, .slice v lv cv, .slice d ld cd, .slice b lb cb] 36) = w0 at *
  refine (lives_any _).mono ?_
  rintro e w1 ⟨rfl, b1⟩
  have t1 := t0.trans (b1.mono t0.size)
  have x1 := (b1.block w.heap.size (by omega)).trans x0
  have c0 : w1.cell? ⟨w.heap.size, 0, none⟩ = some (.slice a la ca) := by rw [cell_of_row _ _ _ _ _ _ x1]; rfl
  have c1 : w1.cell? ⟨w.heap.size, 1, none⟩ = some (.slice k lk ck) := by rw [cell_of_row _ _ _ _ _ _ x1]; rfl
  have c2 : w1.cell? ⟨w.heap.size, 2, none⟩ = some (.slice v lv cv) := by rw [cell_of_row _ _ _ _ _ _ x1]; rfl
  have c3 : w1.cell? ⟨w.heap.size, 3, none⟩ = some (.slice d ld cd) := by rw [cell_of_row _ _ _ _ _ _ x1]; rfl
  have c4 : w1.cell? ⟨w.heap.size, 4, none⟩ = some (.slice b lb cb) := by rw [cell_of_row _ _ _ _ _ _ x1]; rfl
  have hw1 : w.heap.size < w1.heap.size := by have := b1.size; omega
  have t2 : Below w.heap.size w (w1.alloc (.cells #[.slice k lk ck, .slice v lv cv] 34)) := t1.alloc t1.size _
  have f3 := ((Below.refl w1.heap.size w1).alloc (Nat.le_refl _) (.cells #[.slice k lk ck, .slice v lv cv] 34)).cell (p := ⟨w.heap.size, 3, none⟩) hw1
  have f4 := ((Below.refl w1.heap.size w1).alloc (Nat.le_refl _) (.cells #[.slice k lk ck, .slice v lv cv] 34)).cell (p := ⟨w.heap.size, 4, none⟩) hw1
  rw [c3] at f3
  rw [c4] at f4
  have Y2 : Hid (E2 (w1.alloc (.cells #[.slice k lk ck, .slice v lv cv] 34)) w1.heap.size (.slice k lk ck) (.slice v lv cv)) := heap_alloc_new w1 _
  have s2 : (w1.alloc (.cells #[.slice k lk ck, .slice v lv cv] 34)).heap.size = w1.heap.size + 1 := by simp
  clear x0 x1 t0 s0 b1 c3 c4
  go_wp2_with fail
  generalize w1.alloc (.cells #[.slice k lk ck, .slice v lv cv] 34) = w2 at *
  refine (BY.out w2 t2).mono ?_
  rintro e w3 ⟨v3, rfl, o3, b3⟩
  obtain ⟨a3, c3, rfl, n3, _⟩ := o3.sliceN rfl
  have t3 := t2.trans (b3.mono t2.size)
  have Y3 := hide (Y2.out.below b3)
  have s3 := b3.size
  have O3 := hide o3
  have N3 := hide n3
  have RE3 : Hid (Row w3 .u8 a3 (encE xs ks vs)) := o3.row
  clear b3 o3 n3 t2 Y2 f3 f4
  have HFAC : Hid (∀ v6 w6, OwnB w6 w3.heap.size 5 v6 (ds ++ encE xs ks vs ++ bs) → ∃ a6 c6, v6 = .slice a6 (ld + (encE xs ks vs).length + lb) c6 ∧ Row w6 .u8 a6 T ∧ (ld + (encE xs ks vs).length + lb) ≤ c6 ∧ (a6 = none → (ld + (encE xs ks vs).length + lb) = 0 ∧ c6 = 0)) := fun v6 w6 ho => by
    obtain ⟨a6, c6, h6, h7, h8, _⟩ := ho.sliceN (n := ld + (encE xs ks vs).length + lb) (by rw [HTE.out]; exact HTL.out)
    subst h6
    exact ⟨a6, c6, rfl, by rw [← HTE.out]; exact ho.row, h8, h7⟩
  generalize hEL : (encE xs ks vs).length = el at *
  go_wp2_with (first
    | (at_builtin; refine append_b rfl (.tmp 33) (.tmp 34) 22 rfl w3.heap.size 5 i0 Try.underlying22 hi hz0 hz1 hz2 (.slice (some ⟨w3.heap.size, 0, none⟩) 0 0) [] rfl (OwnB.made #[] 0 (Nat.le_refl _) (by unfold maxLen; omega) rfl (by intro u hu; cases hu)) d ld cd ds rfl hd ND.out ((RD.out _ t3).alloc _) (by simp; omega) (by simp) ?_; intro v4 w4 hown4 hg4; simp only [List.nil_append] at hown4; have HO4 := hide hown4; have B4 := hide (((Below.refl w3.heap.size w3).alloc (Nat.le_refl _) _).grown hg4 (by simp) (fun k h => by cases h; exact Nat.le_refl _)); clear hown4 hg4)
    | (at_builtin; refine append_b rfl (.tmp 35) (.tmp 36) 22 rfl w3.heap.size 5 i0 Try.underlying22 hi hz0 hz1 hz2 v4 ds rfl HO4.out a3 el c3 (encE xs ks vs) rfl hEL N3.out (RE3.out.below2 B4.out) (by omega) B4.out.size ?_; intro v5 w5 hown5 hg5; have HO5 := hide hown5; have B5 := hide (B4.out.grown hg5 B4.out.size (fun k h => (HO4.out.owns.lt k h).1)); clear hown5 hg5)
    | (at_builtin; refine append_b rfl (.tmp 37) (.tmp 38) 22 rfl w3.heap.size 5 i0 Try.underlying22 hi hz0 hz1 hz2 v5 (ds ++ encE xs ks vs) rfl HO5.out b lb cb bs rfl hb NB.out (RB.out _ (t3.trans (B5.out.mono t3.size))) (by rw [List.length_append]; omega) B5.out.size ?_; intro v6 w6 hown6 hg6; obtain ⟨a6, c6, rfl, r6, q6, n6⟩ := HFAC.out v6 w6 hown6; have R6 := hide r6; have N6 := hide n6; have B6 := hide (B5.out.grown hg6 B5.out.size (fun k h => (HO5.out.owns.lt k h).1)); clear hown6 hg6 r6 n6)
    | fail)
  have t6 := t3.trans (B6.out.mono t3.size)
  have Y6 := hide (Y3.out.below B6.out)
  have s6 := B6.out.size
  clear B4 B5 B6 HO4 HO5 Y3 t3 HFAC RE3 N3 O3
  have TL6 : Hid (T.length = ld + el + lb) := HTL
  refine (RDT.out w6 a6 (ld + el + lb) c6 t6 TL6.out q6 N6.out R6.out).mono ?_
  rintro e w7 ⟨k7, kc7, v7, vc7, M7, rfl, ok7, ov7, hM7, hM7', hlt7, b7⟩
  have t7 := t6.trans (b7.mono t6.size)
  have Y7 := Y6.out.below b7
  have s7 := b7.size
  have RK7 : Hid (Row w7 .u8 k7 (rKy xs T ld)) := ok7.row
  have RV7 : Hid (Row w7 .u8 v7 (rVl xs T ld)) := ov7.row
  obtain ⟨y0, y1⟩ := Y7.cells
  have t8 : Below w.heap.size w (w7.alloc (.cells #[.slice k7 (rKy xs T ld).length kc7, .slice v7 (rVl xs T ld).length vc7] 34)) := t7.alloc t7.size _
  have Z8 : Hid (E2 (w7.alloc (.cells #[.slice k7 (rKy xs T ld).length kc7, .slice v7 (rVl xs T ld).length vc7] 34)) w7.heap.size (.slice k7 (rKy xs T ld).length kc7) (.slice v7 (rVl xs T ld).length vc7)) := heap_alloc_new w7 _
  have Y8 : Hid (E2 (w7.alloc (.cells #[.slice k7 (rKy xs T ld).length kc7, .slice v7 (rVl xs T ld).length vc7] 34)) w1.heap.size (.slice k lk ck) (.slice v lv cv)) := Y7.below ((Below.refl _ _).alloc (Nat.le_refl _) _)
  have RK8 := hide (RK7.out.alloc (.cells #[.slice k7 (rKy xs T ld).length kc7, .slice v7 (rVl xs T ld).length vc7] 34))
  have RV8 := hide (RV7.out.alloc (.cells #[.slice k7 (rKy xs T ld).length kc7, .slice v7 (rVl xs T ld).length vc7] 34))
  have s8 : (w7.alloc (.cells #[.slice k7 (rKy xs T ld).length kc7, .slice v7 (rVl xs T ld).length vc7] 34)).heap.size = w7.heap.size + 1 := by simp
  obtain ⟨g0, g1⟩ := Y8.out.cells
  clear ok7 ov7 hlt7 b7 Y6 Y7 RK7 RV7 t6 t7 RDT
  have HKL : Hid ((rKy xs T ld).length = (rKy xs T ld).length) := rfl
  generalize hKY : rKy xs T ld = KY at *
  generalize hVL : rVl xs T ld = VL at *
  generalize hPL : rPl xs T ld = PL at *
  generalize hER : rEr xs T ld = ER at *
  clear hKY hVL hPL hER HKL
  go_wp2_with fail
  generalize w7.alloc (.cells #[.slice k7 KY.length kc7, .slice v7 VL.length vc7] 34) = w8 at *
  refine (check_any k v lk ck lv cv w8).mono ?_
  rintro e w9 ⟨rfl, b9⟩
  have t9 := t8.trans (b9.mono t8.size)
  have s9 := b9.size
  have Z9 := Z8.out.below b9
  have Y9 := Y8.out.below b9
  have RK9 := hide (RK8.out.below2 b9)
  have RV9 := hide (RV8.out.below2 b9)
  obtain ⟨p0, p1⟩ := Y9.cells
  obtain ⟨z0, z1⟩ := Z9.cells
  clear b9 t8 Z8 Y8 RK8 RV8 g0 g1 Z9 Y9 y0 y1
  have CM := hide (compare_any a k la ca lk ck xs ks w9 ha hk (RA.out _ t9) (RK.out _ t9) A8.out K8.out)
  have HCK := hide (chk_ok lk lv)
  by_cases hok : chkE lk lv = 0 ∧ (la = 0 ∨ cmpI xs ks < 0)
  · obtain ⟨hc1, hc2⟩ := hok
    have hcc := HCK.out.1 hc1
    obtain ⟨e1, e2, e3, e4⟩ := HTOK.out (by omega) (by omega) (by omega) (by omega)
    subst e2 e3 e1
    rw [hk] at z0
    rw [hv] at z1
    have SMQ := hide (rsame_eq k7 k v7 v lk kc7 ck lv vc7 cv KY VL w9 hk hv RK9.out (RK.out _ t9) RV9.out (RV.out _ t9))
    have E4 : Hid ((PL : Int) = (ld : Int) + (el : Int)) := by show _ = _; rw [e4]; omega
    have E5 : Hid (((PL : Int) == (ld : Int) + (el : Int)) = true) := by show _ = _; rw [beq_iff_eq]; exact E4.out
    rw [hc1]
    clear e4
    have e5 := E5.out
    have CM' := CM
    clear HTOK HTBAD HBACK
    rcases hc2 with hla | hlt
    · subst hla
      go_wp2_with fail
      refine keep CM.out ?_
      generalize cmpI xs KY = cm at *
      go_wp2_with fail
      refine SMQ.out.mono ?_
      rintro e wA ⟨rfl, bA⟩
      go_wp2_with fail
      go_ret
      exact ⟨rfl, t9.trans (bA.mono t9.size)⟩
    · go_wp2_with fail
      refine keep CM.out ?_
      by_cases hz : la = 0
      · subst hz
        generalize cmpI xs KY = cm at *
        go_wp2_with fail
        refine SMQ.out.mono ?_
        rintro e wA ⟨rfl, bA⟩
        go_wp2_with fail
        go_ret
        exact ⟨rfl, t9.trans (bA.mono t9.size)⟩
      · have hzb : ((la : Int) == 0) = false := by rw [beq_eq_false_iff_ne]; omega
        generalize cmpI xs KY = cm at *
        go_wp2_with fail
        refine SMQ.out.mono ?_
        rintro e wA ⟨rfl, bA⟩
        go_wp2_with fail
        go_ret
        exact ⟨rfl, t9.trans (bA.mono t9.size)⟩
  · have hne := HTBAD.out (fun h => hok ⟨HCK.out.2 (by omega), by omega⟩)
    have hneb : (ER == 0) = false := by rw [beq_eq_false_iff_ne]; exact hne
    have HCASE : Hid ((chkE lk lv == 0) = false ∨ ((chkE lk lv == 0) = true ∧ ((la : Int) == 0) = false ∧ ¬ cmpI xs ks < 0)) := by
      by_cases h1 : chkE lk lv = 0
      · refine .inr ⟨by rw [h1]; rfl, ?_, fun h => hok ⟨h1, .inr h⟩⟩
        rw [beq_eq_false_iff_ne]
        intro h
        exact hok ⟨h1, .inl (by omega)⟩
      · exact .inl (by rw [beq_eq_false_iff_ne]; exact h1)
    have RB9 := hide (RDB.out w9 t9)
    have HBK := HBACK
    have HB9 : Hid (∀ W, Below w.heap.size w W → ∀ (k' v' : Option Addr) (kc' vc' : Nat), (rKy xs bs 0).length ≤ 64 → (rVl xs bs 0).length ≤ 256 → (rKy xs bs 0).length ≤ kc' → (k' = none → (rKy xs bs 0).length = 0 ∧ kc' = 0) → (v' = none → (rVl xs bs 0).length = 0 ∧ vc' = 0) → Row W .u8 k' (rKy xs bs 0) → Row W .u8 v' (rVl xs bs 0) → Calls Try.prog 11 #[.slice a la ca, .agg #[.slice k' (rKy xs bs 0).length kc', .slice v' (rVl xs bs 0).length vc']] W fun e w' => ∃ u, e = .returned u ∧ OwnB w' W.heap.size 5 u (encE xs (rKy xs bs 0) (rVl xs bs 0)) ∧ Below W.heap.size W w') := fun W hW k' v' kc' vc' l1 l2 l3 n1 n2 q1 q2 => bytes_any a k' v' la ca _ kc' _ vc' xs _ _ W ha rfl rfl (by omega) (by omega) (by omega) l3 n2 n1 (RA.out W hW) q1 q2
    have HENC : Hid (rEr xs bs 0 = 0 → encE xs (rKy xs bs 0) (rVl xs bs 0) = bs.take (rPl xs bs 0)) := fun h => by
      have := (HBACK.out h).2.2.2.2.2
      rw [List.drop_zero, Nat.sub_zero] at this
      exact this
    have HBN : Hid (rEr xs bs 0 = 0 → 1 ≤ (rKy xs bs 0).length ∧ (rKy xs bs 0).length ≤ 64 ∧ (rVl xs bs 0).length ≤ 256 ∧ rPl xs bs 0 ≤ lb) := fun h => by
      obtain ⟨h1, h2, h3, h4, _⟩ := HBACK.out h
      exact ⟨h1, h2, h3, by omega⟩
    clear HTOK HTBAD HBACK HBK hok RDB BY HCK z0 z1 p1 RK9 RV9
    generalize rKy xs bs 0 = KB at *
    generalize rVl xs bs 0 = VB at *
    generalize rPl xs bs 0 = PB at *
    generalize rEr xs bs 0 = EB at *
    generalize encE xs KB VB = EN at *
    generalize chkE lk lv = ce at *
    generalize cmpI xs ks = cm at *
    rcases HCASE.out with hce | ⟨hce, hla, hcm⟩
    all_goals
      go_wp2_with fail
      refine keep CM.out ?_
      go_wp2_with fail
      refine RB9.out.mono ?_
      rintro e wA ⟨kA, kcA, vA, vcA, MA, rfl, okA, ovA, hMA, hMA', hltA, bA⟩
      have tA := t9.trans (bA.mono t9.size)
      obtain ⟨_, _, hkA, nkA, lkA, _⟩ := okA.sliceN rfl
      cases hkA
      obtain ⟨_, _, hvA, nvA, lvA, _⟩ := ovA.sliceN rfl
      cases hvA
      have tB : Below w.heap.size w (wA.alloc (.cells #[.slice kA KB.length kcA, .slice vA VB.length vcA] 34)) := tA.alloc tA.size _
      have ZB : Hid (E2 (wA.alloc (.cells #[.slice kA KB.length kcA, .slice vA VB.length vcA] 34)) wA.heap.size (.slice kA KB.length kcA) (.slice vA VB.length vcA)) := heap_alloc_new wA _
      have RKB := hide (okA.row.alloc (.cells #[.slice kA KB.length kcA, .slice vA VB.length vcA] 34))
      have RVB := hide (ovA.row.alloc (.cells #[.slice kA KB.length kcA, .slice vA VB.length vcA] 34))
      have NKA := hide nkA
      have NVA := hide nvA
      clear okA ovA hltA bA tA nkA nvA t9 RB9 hMA hMA'
      by_cases hEB : EB = 0
      · obtain ⟨j1, j2, j3, j4⟩ := HBN.out hEB
        have hen := HENC.out hEB
        subst hEB
        have hck : chkE KB.length VB.length = 0 := (chk_ok _ _).2 ⟨j1, j2, j3⟩
        go_wp2_with fail
        have CH := hide (check_any kA vA KB.length kcA VB.length vcA (wA.alloc (.cells #[.slice kA KB.length kcA, .slice vA VB.length vcA] 34)))
        rw [hck] at CH
        generalize wA.alloc (.cells #[.slice kA KB.length kcA, .slice vA VB.length vcA] 34) = wB at *
        refine CH.out.mono ?_
        rintro e wC ⟨rfl, bC⟩
        have tC := tB.trans (bC.mono tB.size)
        have ZC := ZB.out.below bC
        obtain ⟨zc0, zc1⟩ := ZC.cells
        have RKC := hide (RKB.out.below2 bC)
        have RVC := hide (RVB.out.below2 bC)
        clear bC tB ZB RKB RVB CH hck ZC
        go_wp2_with fail
        refine (HB9.out wC tC kA vA kcA vcA j2 j3 lkA NKA.out NVA.out RKC.out RVC.out).mono ?_
        rintro e wD ⟨vD, rfl, oD, bD⟩
        have tD := tC.trans (bD.mono tC.size)
        rw [hen] at oD
        have hlT : (bs.take PB).length = PB := by rw [List.length_take]; omega
        obtain ⟨aD, cD, rfl, _, _, _⟩ := oD.sliceN hlT
        have SMQ := hide (fun c => sameq aD b PB cD c (bs.take PB) wD (by unfold maxLen; omega) hlT oD.row ((RB.out _ tD).take PB))
        have i1 : (PB : Int) ≤ (lb : Int) := by omega
        have i2 : (PB : Int) ≤ (cb : Int) := by omega
        have hup := run_upto b lb cb PB (by omega) .i64
        clear bD oD hlT hen zc0 zc1 RKC RVC HENC HBN HB9
        go_wp2_with fail
        refine (SMQ.out _).mono ?_
        rintro e wE ⟨rfl, mE, hwE⟩
        have tE : Below w.heap.size w wE := by rw [hwE]; exact drewB tD mE
        clear hwE
        go_wp2_with fail
        go_ret
        exact ⟨rfl, tE⟩
      · have hEBb : (EB != 0) = true := by rw [bne_iff_ne]; exact hEB
        go_wp2_with fail
        go_ret
        exact ⟨rfl, tB⟩

end Go.Proofs.Ytfcjbibnjibijab
