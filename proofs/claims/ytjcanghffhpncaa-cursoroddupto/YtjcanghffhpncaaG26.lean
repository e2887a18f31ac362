/- The law's own writer of any behaviour (cursor). -/
import Derived.Test.YtjcanghffhpncaaG25
namespace Go.Proofs.Ytjcanghffhpncaa
open Go.RowKit

def mkW (vn ve u : Value) (c : Nat) (vs : Value) : Array Value := mkL vn ve (.int .u8 0) u c vs
set_option maxRecDepth 100000 in
set_option maxHeartbeats 3200000 in
theorem lowrite_any {an : Option Addr} {ln cn : Nat} {ns : List Int} {ae : Option Addr} {le ce : Nat} {es : List Int} {g B : Nat} {W : World} {t : OWt} {M : Nat → Prop} (b o len pc : Nat) (ys : List Int) (hln : ns.length = ln) (hle : es.length = le) (h : TAt (mkW (.slice an ln cn) (.slice ae le ce)) 83 an ns ae es g B W t M) (hc : t.c < 1099511627776) (hl : ys.length = len) (hpc : len ≤ pc) (hr : Row W .u8 (some ⟨b, o, none⟩) ys) (hM : ¬ M b) (hz : t.took.length + len ≤ 140737488355328) :
    Calls Try.prog 89 #[.pointer (some ⟨g, 0, none⟩), .slice (some ⟨b, o, none⟩) len pc] W fun e W' => OWPost (mkW (.slice an ln cn) (.slice ae le ce)) 83 an ns ae es g B M t ys W e W' := by
  obtain ⟨i1, hi1, hy0, hy1, hy2⟩ := info_parts' infoByte'
  obtain ⟨ax, cx, ay, cy, h⟩ := h
  have HTO := hide (ltold_any (len : Int) (len : Int) 0 t.szs.length rfl hln hle h.z hc)
  have HE := hide (fun (w5 : World) (g4 c4 : Nat) => t_end (w5 := w5) (g4 := g4) (c4 := c4) (it := 5) ys h (fun _ _ _ _ => rfl) rfl)
  have HR := hide hr
  have HM := hide hM
  clear h hr hM
  rw [hl] at HE
  go_enter Try.func89, Try.ntmps89
  go_wp2_with fail
  refine HTO.out.mono ?_
  rintro e w5 ⟨rfl, g4, c4, hz5, hu5, h4⟩
  have HT := hide (HE.out w5 g4 c4 hz5 hu5 h4)
  have d5 := (mkL_cells hz5.blk).2.2.2.2.2.1
  have HRW := hide (HR.out.upd HT.out.2.2.1 (fun x hx h0 e => by cases hx; exact HM.out e))
  clear hz5 hu5 h4 HE HTO
  generalize t.szs.length + 1 = l at *
  have HWF : Hid ((oWf ns es t ys).2.2.took = t.took ++ ys.take (toldE ns es (t.c + 1) (len : Int) 0).1.toNat) := hide (by simp only [oWf, hl])
  generalize toldE ns es (t.c + 1) (len : Int) 0 = tl at *
  obtain ⟨n, er⟩ := tl
  simp only at HT HWF
  obtain ⟨m, hm⟩ : ∃ m, m = min n.toNat len := ⟨_, rfl⟩
  have hyt : ys.take n.toNat = ys.take m := by
    rw [hm]
    by_cases hh : n.toNat ≤ len
    · rw [Nat.min_eq_left hh]
    · rw [Nat.min_eq_right (by omega), List.take_of_length_le (by omega), List.take_of_length_le (by omega)]
  rw [hyt] at HWF
  have hml : m ≤ len := by omega
  have HYL : Hid ((ys.take m).length = m) := hide (by rw [List.length_take]; omega)
  have HR1 := hide (HRW.out.take m)
  have hzm : t.took.length + m ≤ 140737488355328 := by omega
  replace hm := hide hm
  clear hyt HRW HR HM
  go_upto_region 2 with fail
  have HST : Hid (Still w5 w5.drew) := hide (Still.refl w5).drew
  rw [HWF.out] at HT
  obtain ⟨L, hL⟩ : ∃ L, L = (t.took ++ ys.take m).length := ⟨_, rfl⟩
  have HL := hide hL
  clear hL
  have hn0 : (0 : Int) ≤ (m : Int) := by omega
  have hmp : (m : Int) ≤ (pc : Int) := by omega
  clear HWF
  by_cases na : n < 0
  · have hm0 : m = 0 := by have := hm.out; omega
    subst hm0
    have x1 : ¬ (len : Int) < n := by omega
    have x2 : ¬ (0 : Int) < n := by omega
    go_region_law (refine step_app rfl (.tmp 21) (.tmp 28) 23 rfl B 5 i1 Try.underlying23 hi1 hy0 hy1 hy2 (.slice ay t.took.length cy) t.took (by simp [Act.eval, Act.put]) HT.out.1 (some ⟨b, o, none⟩) 0 pc (ys.take 0) (by simp [Act.eval, Act.put]) HYL.out (fun e => by cases e) HR1.out hzm HT.out.2.1 ?_; intro v6 w6 hv6 hg6 hn6; obtain ⟨av, cv, hvv, _⟩ := owns_slice hv6; have hT := HT.out.2.2.2 _ v6 w6 av cv HST.out hvv hv6 hg6 hn6; have k5 := (mkL_cells hT.1).2.2.2.2.2.1; have f5 := (mkL_cells hT.1).2.2.2.2.2.2 5; have HFF := hide hT.2; clear hT hv6 hg6 hn6; rw [← HL.out] at hvv; subst hvv)
    all_goals (try go_wp2_with fail)
    all_goals go_ret2
    all_goals exact HFF.out
  · by_cases nb : (len : Int) < n
    · have hm0 : m = len := by have := hm.out; omega
      have hif : (if 0 < len then (len : Int) else 0) = (len : Int) := by split <;> omega
      subst hm0
      go_region_law (refine step_app rfl (.tmp 21) (.tmp 28) 23 rfl B 5 i1 Try.underlying23 hi1 hy0 hy1 hy2 (.slice ay t.took.length cy) t.took (by simp [Act.eval, Act.put]) HT.out.1 (some ⟨b, o, none⟩) m pc (ys.take m) (by simp [Act.eval, Act.put]) HYL.out (fun e => by cases e) HR1.out hzm HT.out.2.1 ?_; intro v6 w6 hv6 hg6 hn6; obtain ⟨av, cv, hvv, _⟩ := owns_slice hv6; have hT := HT.out.2.2.2 _ v6 w6 av cv HST.out hvv hv6 hg6 hn6; have k5 := (mkL_cells hT.1).2.2.2.2.2.1; have f5 := (mkL_cells hT.1).2.2.2.2.2.2 5; have HFF := hide hT.2; clear hT hv6 hg6 hn6; rw [← HL.out] at hvv; subst hvv)
      all_goals (try go_wp2_with fail)
      all_goals go_ret2
      all_goals exact HFF.out
    · have hm0 : n = (m : Int) := by have := hm.out; omega
      have hif : (if 0 < m then (m : Int) else 0) = (m : Int) := by split <;> omega
      subst hm0
      go_region_law (refine step_app rfl (.tmp 21) (.tmp 28) 23 rfl B 5 i1 Try.underlying23 hi1 hy0 hy1 hy2 (.slice ay t.took.length cy) t.took (by simp [Act.eval, Act.put]) HT.out.1 (some ⟨b, o, none⟩) m pc (ys.take m) (by simp [Act.eval, Act.put]) HYL.out (fun e => by cases e) HR1.out hzm HT.out.2.1 ?_; intro v6 w6 hv6 hg6 hn6; obtain ⟨av, cv, hvv, _⟩ := owns_slice hv6; have hT := HT.out.2.2.2 _ v6 w6 av cv HST.out hvv hv6 hg6 hn6; have k5 := (mkL_cells hT.1).2.2.2.2.2.1; have f5 := (mkL_cells hT.1).2.2.2.2.2.2 5; have HFF := hide hT.2; clear hT hv6 hg6 hn6; rw [← HL.out] at hvv; subst hvv)
      all_goals (try go_wp2_with fail)
      all_goals go_ret2
      all_goals exact HFF.out

theorem lo_writer (ns es : List Int) (an : Option Addr) (ln cn : Nat) (ae : Option Addr) (le ce : Nat) (g B : Nat) (hln : ns.length = ln) (hle : es.length = le) :
    Writer (oWf ns es) oCntW (fun t => t.took.length) 89 (.pointer (some ⟨g, 0, none⟩)) B (TAt (mkW (.slice an ln cn) (.slice ae le ce)) 83 an ns ae es g B) where
  upd := fun h hu hs => h.upd hu hs
  lt := fun h => h.lt
  cnt1 := oWf_cnt ns es
  szle := oWf_szle ns es
  szin := fun t b _ _ => oWf_szin ns es t b
  write := fun W t M b o len pc ys h hc hl _ hpc hr hM hz _ => by
    refine (lowrite_any b o len pc ys hln hle h (by rw [oCntW_eq] at hc; omega) hl hpc hr hM hz).mono fun e W' ⟨M', h1, h2, h3, h4⟩ => ⟨M', h1, h2, h3, h4⟩

theorem lo_rleads (g : Nat) : Leads "Read" 81 (.pointer (some ⟨g, 0, none⟩)) 88 (.pointer (some ⟨g, 0, none⟩)) :=
  ⟨fun w => by kernel_rfl, enters_of Try.func88 (by kernel_rfl) rfl⟩
theorem lo_wleads (g : Nat) : Leads "Write" 81 (.pointer (some ⟨g, 0, none⟩)) 89 (.pointer (some ⟨g, 0, none⟩)) :=
  ⟨fun w => by kernel_rfl, enters_of Try.func89 (by kernel_rfl) rfl⟩

end Go.Proofs.Ytjcanghffhpncaa
