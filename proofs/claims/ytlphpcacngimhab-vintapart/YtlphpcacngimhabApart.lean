/- VintApart: the walk. -/
import Derived.Test.YtlphpcacngimhabLives
import Derived.Test.YtlphpcacngimhabJoin
import Derived.Test.YtlphpcacngimhabSame
import Derived.Laws.AppendOwnNone
namespace Go.Proofs.Ytlphpcacngimhab
open Go.RowKit

/-- 'append(s, x...)', s the call's own, x whatever it is: nil, empty or not. -/
theorem append_own_any {P : Program} {w : World} {ops : Array Oper} {rest : List Oper} {o : Oper} {a : Act} {Q : Exit → Act → World → Prop} (hgd : o.guard = none) (s x : Operand) (t : TypeId)
    (ho : o.op = .call { callee := .builtin .append, args := #[s, x], argTypes := #[t, t] })
    (base : Nat) (e : TypeId) (i : TypeInfo) (z : Value) (size bytes : Nat) (ht : P.underlying t = some (.slice e)) (hi : P.info? e = some i) (hz : i.zero = some z)
    (hsize : i.size = size) (hby : i.bytes = bytes) (hzs : z.cells.size = size) (hsz : 0 < size)
    (v : Value) (n : Nat) (xs : List Value) (hs : a.eval s = v) (hown : w.ownsRow base e size v n xs)
    (ao : Option Addr) (m c : Nat) (news : List Value) (hx : a.eval x = .slice ao m c) (hl : news.length = m * size) (hnone : ao = none → m = 0 ∧ c = 0) (hnews : ∀ ad, ao = some ad → ∀ j u, news[j]? = some u → w.cell? (ad.add j) = some u) (h1 : ∀ u ∈ news, u.oneCell' = true)
    (h63 : n + m ≤ maxLen) (hbytes : (n + m) * bytes ≤ 140737488355328) (hbase : base ≤ w.heap.size)
    (h : ∀ v' w', w'.ownsRow base e size v' (n + m) (xs ++ news) → w.grownBy w' v.ownBlock → wpList P ops Q rest (a.put o.dst v') w') : wpList P ops Q (o :: rest) a w := by
  cases ao with
  | some ad => exact wpList_append_own w hgd s x t ho base e i z size bytes ht hi hz hsize hby hzs hsz v n xs hs hown ad m c news hx hl (hnews ad rfl) h1 h63 hbytes hbase (fun v' w' h2 h3 _ => h v' w' h2 h3)
  | none =>
    obtain ⟨rfl, rfl⟩ := hnone rfl
    have hn : news = [] := List.eq_nil_of_length_eq_zero (by simpa using hl)
    subst hn
    refine wpList_append_own_none hgd s x t ho base e i size ht hi v n xs hs hown hx ?_
    refine h v w ?_ (grownBy_refl _ _)
    simpa using hown

theorem row_of_owns {w : World} {base : Nat} {e : TypeId} {k : IntKind} {g n cap : Nat} {zs : List Int} (h : w.ownsRow base e 1 (.slice (some ⟨g, 0, none⟩) n cap) n (zs.map (Value.int k))) : Row w k (some ⟨g, 0, none⟩) zs := by
  intro i hi
  refine ⟨g, 0, rfl, ?_⟩
  have hc := h.cells (g := g) rfl i (.int k (zs.getD i 0)) (by
    rw [List.getElem?_map, List.getD, List.getElem?_eq_getElem hi]; rfl)
  rwa [Addr.add_lit] at hc

theorem slice_of_owns {w : World} {base : Nat} {e : TypeId} {v : Value} {n : Nat} {xs : List Value} (h : w.ownsRow base e 1 v n xs) (hn : 0 < n) : ∃ g cap, v = .slice (some ⟨g, 0, none⟩) n cap ∧ base ≤ g := by
  rcases h.2 with ⟨_, h0⟩ | ⟨g, cap, cur, hv, hb, _⟩
  · omega
  · exact ⟨g, cap, hv, hb⟩

theorem Row.below2 {w w' : World} {k : IntKind} {a : Option Addr} {zs : List Int} (h : Row w k a zs) (hb : Below w.heap.size w w') : Row w' k a zs := by
  intro i hi
  obtain ⟨b, off, ha, hc⟩ := h i hi
  exact ⟨b, off, ha, (hb.cell (p := ⟨b, off + i, none⟩) (World.block_lt_of_cell? w ⟨b, off + i, none⟩ hc)).trans hc⟩

theorem Row.take {w : World} {k : IntKind} {a : Option Addr} {zs : List Int} (h : Row w k a zs) (l : Nat) : Row w k a (zs.take l) := by
  intro i hi
  have hi' : i < l ∧ i < zs.length := by rw [List.length_take] at hi; omega
  obtain ⟨b, off, ha, hc⟩ := h i hi'.2
  refine ⟨b, off, ha, ?_⟩
  rw [hc]
  simp only [List.getD_eq_getElem?_getD]
  rw [List.getElem?_take, if_pos hi'.1]

theorem Row.cells {w : World} {k : IntKind} {a : Option Addr} {zs : List Int} (h : Row w k a zs) : ∀ ad, a = some ad → ∀ j u, (zs.map (Value.int k))[j]? = some u → w.cell? (ad.add j) = some u := by
  intro ad had j u hu
  have hj : j < zs.length := by
    have := (List.getElem?_eq_some_iff.1 hu).1
    simpa using this
  obtain ⟨b, off, ha, hc⟩ := h j hj
  rw [had] at ha
  obtain rfl := Option.some.inj ha
  rw [Addr.add_lit, hc]
  rw [List.getElem?_map, List.getElem?_eq_getElem hj] at hu
  simp only [Option.map_some, Option.some.injEq] at hu
  rw [← hu]
  simp [List.getD, hj]

theorem Row.alloc {w : World} {k : IntKind} {a : Option Addr} {zs : List Int} (h : Row w k a zs) (o : Obj) : Row (w.alloc o) k a zs :=
  h.below2 ((Below.refl _ _).alloc (Nat.le_refl _) _)

theorem fits8_app {xs ys : List Int} (h1 : ∀ c ∈ xs, 0 ≤ c ∧ c ≤ 255) (h2 : Fits8 ys) : Fits8 (xs ++ ys) := by
  intro i
  by_cases hi : i < xs.length
  · have := h1 xs[i] (List.getElem_mem hi)
    simpa [List.getD, List.getElem?_append_left hi, hi] using this
  · have := h2 (i - xs.length)
    simpa [List.getD, List.getElem?_append_right (show xs.length ≤ i by omega)] using this

/-- What Read tells of a number's bytes with anything behind. -/
theorem read_enc (a : Option Addr) (len cap m : Nat) (zs : List Int) (w : World) (hl : (enc m ++ zs).length = len) (hm : len ≤ maxLen) (h64 : m ≤ 18446744073709551615) (hr : Row w .u8 a (enc m ++ zs)) (h8 : Fits8 zs) :
    Calls Try.prog 7 #[.slice a len cap, .int .i64 0] w fun e w' => e = .returned (.tuple #[.int .u64 (m : Int), .int .i64 ((enc m).length : Int), .int .i64 0]) ∧ Below w.heap.size w w' := by
  have h := read_any a len cap 0 (enc m ++ zs) w hl hm hr (fits8_app (enc_mem8 m h64) h8)
  have hs := scan_enc0 m h64 zs
  have e1 : rdNum (enc m ++ zs) 0 = (m : Int) := by
    unfold rdNum; rw [if_neg (by omega)]; show (scan 0 0 ((enc m ++ zs).drop 0)).1 = _; rw [List.drop_zero, hs]
  have e2 : rdEnd (enc m ++ zs) 0 = ((enc m).length : Int) := by
    unfold rdEnd; rw [if_neg (by omega)]; show 0 + ((scan 0 0 ((enc m ++ zs).drop 0)).2.1 : Int) = _; rw [List.drop_zero, hs]; simp
  have e3 : rdErr (enc m ++ zs) 0 = 0 := by
    unfold rdErr; rw [if_neg (by omega)]; show (scan 0 0 ((enc m ++ zs).drop 0)).2.2 = _; rw [List.drop_zero, hs]
  rw [e1, e2, e3] at h
  exact h

set_option maxHeartbeats 1000000 in
theorem apart_any (m n : Nat) (a : Option Addr) (len cap : Nat) (zs : List Int) (w : World) (hm64 : m ≤ 18446744073709551615) (hn64 : n ≤ 18446744073709551615) (hl : zs.length = len) (hm : len ≤ 140737488351232) (hnone : a = none → len = 0 ∧ cap = 0) (hr : Row w .u8 a zs) (h8 : Fits8 zs) :
    Calls Try.prog 3 #[.int .u64 (m : Int), .int .u64 (n : Int), .slice a len cap] w fun e w' => e = .returned (.bool true) ∧ Below w.heap.size w w' := by
  obtain ⟨i0, hi, hz0, hz1, hz2⟩ := info_parts infoB
  have HR := hide hr
  have HN := hide hnone
  have hla := enc_len_le m hm64
  have hlb := enc_len_le n hn64
  clear hr hnone
  go_enter Try.func3, Try.ntmps3
  go_wp2_with (first
    | (go_at_call 5; refine (lives_any _).mono ?_; rintro e w1 ⟨rfl, hb1⟩))
  refine (bytes_any m w1 hm64).mono ?_
  rintro e w2 ⟨rfl, hown2, hb2⟩
  have HA := hide (row_of_owns hown2)
  go_wp2_with fail
  refine (bytes_any n w2 hn64).mono ?_
  rintro e w3 ⟨rfl, hown3, hb3⟩
  have HB := hide (row_of_owns hown3)
  have HA3 := hide (HA.out.below2 hb3)
  have z1 := hb1.size
  have z2 := hb2.size
  have z3 := hb3.size
  have hw3 : Below w.heap.size w w3 := (hb1.trans (hb2.mono z1)).trans (hb3.mono (by omega))
  have HR3 := hide (HR.out.below2 hw3)
  generalize w1.heap.size = g1 at *
  generalize w2.heap.size = g2 at *
  clear hown2 hown3 HA hb1 hb2 hb3 HR
  go_wp2_with (first
    | (at_builtin; refine append_own_any rfl (.tmp 20) (.tmp 21) 23 rfl w3.heap.size 5 i0 (.int .u8 0) 1 1 Try.underlying23 hi hz0 hz1 hz2 rfl (by decide) (.slice (some ⟨w3.heap.size, 0, none⟩) 0 0) 0 [] rfl (World.ownsRow_made w3 #[] 0 (Nat.le_refl _) (by unfold maxLen; omega) rfl) _ (enc m).length _ ((enc m).map (Value.int .u8)) rfl (by simp) (by intro h; cases h) ((HA3.out.alloc _).cells) (ints_oneCell _ _) (by unfold maxLen; omega) (by omega) (by simp) ?_; intro v4 w4 hown4 hg4; simp only [Nat.zero_add, List.nil_append] at hown4; have hb4 : Below w3.heap.size w3 w4 := ((Below.refl _ _).alloc (Nat.le_refl _) _).grown hg4 (by simp) (fun k h => by cases h; exact Nat.le_refl _))
    | (at_builtin; refine append_own_any rfl (.tmp 22) (.tmp 23) 23 rfl w3.heap.size 5 i0 (.int .u8 0) 1 1 Try.underlying23 hi hz0 hz1 hz2 rfl (by decide) v4 (enc m).length _ rfl hown4 a len cap (zs.map (Value.int .u8)) rfl (by simp [hl]) HN.out (HR3.out.below2 hb4).cells (ints_oneCell _ _) (by unfold maxLen; omega) (by omega) hb4.size ?_; intro v5 w5 hown5 hg5))
  have hb5 : Below w3.heap.size w3 w5 := hb4.grown hg5 hb4.size (fun k h => (hown4.lt k h).1)
  obtain ⟨g5, c5, hv5, _⟩ := slice_of_owns hown5 (by omega)
  rw [hv5] at hown5
  rw [hv5]
  rw [← List.map_append] at hown5
  refine (read_enc (some ⟨g5, 0, none⟩) ((enc m).length + len) c5 m zs w5 (by simp [hl]) (by unfold maxLen; omega) hm64 (row_of_owns hown5) h8).mono ?_
  rintro e w6 ⟨rfl, hb6⟩
  have z5 := hb5.size
  have hb36 : Below w3.heap.size w3 w6 := hb5.trans (hb6.mono z5)
  have HA6 := hide (HA3.out.below2 hb36)
  have HB6 := hide (HB.out.below2 hb36)
  have hw6 : Below w.heap.size w w6 := hw3.trans (hb36.mono (by omega))
  clear hown4 hown5 hg4 hg5 hb4 hb5 hb6 hb36 HA3 HB HR3 HN hv5
  rcases Nat.lt_trichotomy m n with h | h | h
  · have hle : (enc m).length ≤ (enc n).length := enc_mono m n (by omega) hn64
    have hap := enc_apart m n hm64 hn64 (by omega)
    have HS := hide (same_any (some ⟨g1 + 1, 0, none⟩) (some ⟨g2 + 1, 0, none⟩) (enc m).length (enc m).length (enc m).length (enc n).length (enc m) ((enc n).take (enc m).length) w6 (by unfold maxLen; omega) rfl (by rw [List.length_take]; omega) HA6.out (HB6.out.take _))
    rw [decide_eq_false hap] at HS
    have h1 : ((m : Int) < (n : Int)) := by omega
    have h2 : ((m : Int) == (n : Int)) = false := beq_eq_false_iff_ne.2 (by omega)
    clear hap HA6 HB6
    generalize (enc m).length = la at *
    generalize (enc n).length = lb at *
    go_wp2_with (first | (go_at_call 8; refine HS.out.mono ?_; rintro e w7 ⟨rfl, hst⟩))
    go_ret
    exact ⟨rfl, hw6.trans (hst.below _)⟩
  · subst h
    have HS := hide (same_any (some ⟨g1 + 1, 0, none⟩) (some ⟨g2 + 1, 0, none⟩) (enc m).length (enc m).length (enc m).length (enc m).length (enc m) (enc m) w6 (by unfold maxLen; omega) rfl rfl HA6.out HB6.out)
    rw [decide_eq_true rfl] at HS
    clear HA6 HB6
    generalize (enc m).length = la at *
    go_wp2_with (first | (go_at_call 8; refine HS.out.mono ?_; rintro e w7 ⟨rfl, hst⟩))
    go_ret
    exact ⟨rfl, hw6.trans (hst.below _)⟩
  · have hle : (enc n).length ≤ (enc m).length := enc_mono n m (by omega) hm64
    have h0 : ¬ ((m : Int) < (n : Int)) := by omega
    have h1 : ((n : Int) < (m : Int)) := by omega
    have h2 : ((m : Int) == (n : Int)) = false := beq_eq_false_iff_ne.2 (by omega)
    by_cases heq : (enc n).length = (enc m).length
    · have hap := enc_apart m n hm64 hn64 (by omega)
      have HS := hide (same_any (some ⟨g1 + 1, 0, none⟩) (some ⟨g2 + 1, 0, none⟩) (enc m).length (enc m).length (enc m).length (enc n).length (enc m) ((enc n).take (enc m).length) w6 (by unfold maxLen; omega) rfl (by rw [List.length_take]; omega) HA6.out (HB6.out.take _))
      rw [decide_eq_false hap] at HS
      clear hap HA6 HB6
      rw [heq] at HS hlb
      rw [heq]
      clear heq hle
      generalize (enc m).length = la at *
      go_wp2_with (first | (go_at_call 8; refine HS.out.mono ?_; rintro e w7 ⟨rfl, hst⟩))
      go_ret
      exact ⟨rfl, hw6.trans (hst.below _)⟩
    · have hap := enc_apart n m hn64 hm64 (by omega)
      have HS := hide (same_any (some ⟨g2 + 1, 0, none⟩) (some ⟨g1 + 1, 0, none⟩) (enc n).length (enc n).length (enc n).length (enc m).length (enc n) ((enc m).take (enc n).length) w6 (by unfold maxLen; omega) rfl (by rw [List.length_take]; omega) HB6.out (HA6.out.take _))
      rw [decide_eq_false hap] at HS
      have hlt : (enc n).length < (enc m).length := by omega
      clear hap HA6 HB6 heq hle
      generalize (enc m).length = la at *
      generalize (enc n).length = lb at *
      go_wp2_with (first | (go_at_call 8; refine HS.out.mono ?_; rintro e w7 ⟨rfl, hst⟩))
      go_ret
      exact ⟨rfl, hw6.trans (hst.below _)⟩

end Go.Proofs.Ytlphpcacngimhab
