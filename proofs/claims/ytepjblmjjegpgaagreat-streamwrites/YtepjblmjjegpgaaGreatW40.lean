/- stream: a writer's rows. -/
import Derived.Test.YtepjblmjjegpgaaGreatW36
import Derived.Test.YtepjblmjjegpgaaGreatW30
import Derived.Test.YtepjblmjjegpgaaGreatW32
import Derived.Test.YtepjblmjjegpgaaGreatW20
namespace Go.Proofs.YtepjblmjjegpgaaGreat
open Go.RowKit
set_option maxRecDepth 100000

theorem Spn.Ok.upd {S : Nat → Prop} {W W' : World} {e : Spn} (h : e.Ok W) (hu : Upd S W W') (hk : ∀ x, e.ka = some x → 0 < e.ks.length → ¬ S x.block) : e.Ok W' :=
  ⟨h.k.upd hu hk, h.nk, h.lk, h.k8, h.zk, h.rp, h.rl, h.rn⟩
/-- The rows of these blocks, one's own. -/
structure RwO (W : World) (B : Nat) (v : Value) (C : List Spn) (L : List (List KV)) : Prop where
  o : OwnS W B v C
  e : rws C = rowsOf L
  ok : ∀ i (h : i < C.length), C[i].Ok W
theorem RwO.len {W : World} {B : Nat} {v : Value} {C : List Spn} {L : List (List KV)} (h : RwO W B v C L) : C.length = L.length := by
  have := congrArg List.length h.e
  rw [rws_len, rowsOf_len] at this
  exact this
theorem RwO.below {W W' : World} {B : Nat} {v : Value} {C : List Spn} {L : List (List KV)} (h : RwO W B v C L) (hb : Below W.heap.size W W') : RwO W' B v C L :=
  ⟨h.o.below hb, h.e, fun i hi => (h.ok i hi).below hb⟩
theorem RwO.shape {W : World} {B : Nat} {v : Value} {C : List Spn} {L : List (List KV)} (h : RwO W B v C L) : ∃ a cap, v = .slice a L.length cap := by
  obtain ⟨a, b, cap, hv, _, _⟩ := h.o.slice
  rw [h.len] at hv
  exact ⟨a, cap, hv⟩
theorem RwO.last {W : World} {B : Nat} {v : Value} {C : List Spn} {L : List (List KV)} {l : List KV} (h : RwO W B v C (L ++ [l])) : ∃ b cap s, v = .slice (some ⟨b, 0, none⟩) (L.length + 1) cap ∧ Sp4 W b (L.length * 4) s ∧ s.Ok W ∧ s.ks = ahd l ∧ s.pl = (behP L : Int) ∧ s.ln = ((blkF l).length : Int) := by
  obtain ⟨a, b, cap, hv, ha, hc⟩ := h.o.slice
  have hl := h.len
  rw [List.length_append, List.length_singleton] at hl
  obtain rfl := ha (by omega)
  have hi : L.length < C.length := by omega
  have e1 := rws_at C _ hi
  have e2 := getD_snoc (rowsOf L) ⟨ahd l, (behP L : Int), ((blkF l).length : Int), (l.length : Int)⟩ default
  rw [rowsOf_len] at e2
  rw [h.e, rowsOf_snoc, e2] at e1
  refine ⟨b, cap, C[L.length], by rw [hv, hl], hc _ hi, h.ok _ hi, ?_, ?_, ?_⟩
  · exact (congrArg FRow.k e1).symm
  · exact (congrArg FRow.p e1).symm
  · exact (congrArg FRow.l e1).symm
theorem list_end {α : Type} (L : List α) (h : 0 < L.length) : ∃ M l, L = M ++ [l] := by
  rcases List.eq_nil_or_concat L with rfl | ⟨M, l, rfl⟩
  · simp at h
  · exact ⟨M, l, List.concat_eq_append⟩

set_option maxHeartbeats 800000 in
theorem rlast_any {W : World} {B : Nat} {v : Value} {C : List Spn} {L : List (List KV)} (h : RwO W B v C L) (hm : L.length ≤ 8388608) :
    Calls Tryz.prog 88 #[v] W fun e w' => ∃ a n c, e = .returned (.slice a n c) ∧ (lastK L).length = n ∧ Row W .u8 a (lastK L) ∧ w' = W := by
  by_cases h0 : L.length = 0
  · obtain rfl := List.eq_nil_of_length_eq_zero h0
    obtain ⟨a, cap, rfl⟩ := h.shape
    clear h
    go_enter Tryz.func88, Tryz.ntmps88
    go_wp2_with fail
    go_ret
    exact ⟨none, 0, 0, rfl, rfl, row_nil _ _ _, rfl⟩
  · obtain ⟨M, l, rfl⟩ := list_end L (by omega)
    obtain ⟨b, cap, s, rfl, hs, ok, hk, _, _⟩ := h.last
    have c0 := hs.c0
    unfold Spn.kv at c0
    have OK := hide ok
    have HK : Hid (lastK (M ++ [l]) = s.ks) := (lastK_snoc M l).trans hk.symm
    have e1 : ¬ (((M.length + 1 : Nat) : Int) = 0) := by omega
    clear h hs ok hk
    rw [List.length_append, List.length_singleton] at hm
    have e2 : ((M.length + 1 : Nat) : Int) - 1 = (M.length : Int) := by omega
    go_enter Tryz.func88, Tryz.ntmps88
    go_wp2_with fail
    go_ret
    exact ⟨_, _, _, rfl, by rw [HK.out], by rw [HK.out]; exact OK.out.k, rfl⟩

set_option maxHeartbeats 800000 in
theorem rbehind_any {W : World} {B : Nat} {v : Value} {C : List Spn} {L : List (List KV)} (h : RwO W B v C L) (hm : L.length ≤ 8388608) (hb : behP L ≤ 1099511627784) :
    Calls Tryz.prog 49 #[v] W fun e w' => e = .returned (.int .i64 (behP L : Int)) ∧ Below W.heap.size W w' := by
  by_cases h0 : L.length = 0
  · obtain rfl := List.eq_nil_of_length_eq_zero h0
    obtain ⟨a, cap, rfl⟩ := h.shape
    clear h
    go_enter Tryz.func49, Tryz.ntmps49
    go_wp2_with fail
    go_ret
    exact ⟨rfl, Below.refl _ _⟩
  · obtain ⟨M, l, rfl⟩ := list_end L (by omega)
    obtain ⟨b, cap, s, rfl, hs, ok, hk, hp, hq⟩ := h.last
    have c0 := hs.c0
    have c1 := hs.c1
    have c2 := hs.c2
    have c3 := hs.c3
    have hlt := hs.lt
    unfold Spn.kv at c0
    have HK : Hid ((behP (M ++ [l]) : Int) = s.pl + s.ln) := by show _ = _; rw [behP_snoc, hp, hq]; simp
    have e1 : ¬ (((M.length + 1 : Nat) : Int) = 0) := by omega
    have e3 : 0 ≤ s.pl ∧ s.pl ≤ 1099511627784 ∧ 0 ≤ s.ln ∧ s.ln ≤ 1099511627784 := by rw [behP_snoc] at hb; omega
    clear h hs ok hk hp hq hb
    rw [List.length_append, List.length_singleton] at hm
    have e2 : ((M.length + 1 : Nat) : Int) - 1 = (M.length : Int) := by omega
    have e4 : s.pl + s.ln ≤ 9223372036854775807 := by omega
    have e5 : -9223372036854775808 ≤ s.pl + s.ln := by omega
    go_enter Tryz.func49, Tryz.ntmps49
    go_wp2_with fail
    go_ret
    refine ⟨?_, ?_⟩
    · show Ending.returned (.int .i64 (s.pl + s.ln)) = _
      rw [HK.out]
    · exact (Below.refl _ _).alloc (Nat.le_refl _) _

/-- The rows, and one more. -/
def WthPost (W : World) (B : Nat) (v : Value) (C : List Spn) (r : FRow) (e : Ending) (w' : World) : Prop :=
  ∃ v' c, e = .returned v' ∧ OwnS w' B v' (C ++ [c]) ∧ c.row = r ∧ c.Ok w' ∧ Upd (fun i => v.ownBlock = some i) W w' ∧ (∀ k, v'.ownBlock = some k → v.ownBlock = some k ∨ W.heap.size ≤ k) ∧ ∀ x, c.ka = some x → W.heap.size ≤ x.block ∧ v'.ownBlock ≠ some x.block
set_option maxHeartbeats 1600000 in
theorem rwith_any {W : World} {B : Nat} {v : Value} {C : List Spn} {L : List (List KV)} (h : RwO W B v C L) (hm : L.length ≤ 8388608) (hb : behP L ≤ 1099511627784) (hB : B ≤ W.heap.size)
    (a : Option Addr) (n c : Nat) (ks : List Int) (hl : ks.length = n) (hn : n ≤ 64) (hno : a = none → n = 0 ∧ c = 0) (hr : Row W .u8 a ks) (k8 : B8 ks) (size entries : Nat) (h1 : size ≤ 1000000000) (h2 : entries ≤ 1000000000) :
    Calls Tryz.prog 82 #[v, .slice a n c, .int .i64 (size : Int), .int .i64 (entries : Int)] W (WthPost W B v C ⟨ks, (behP L : Int), (size : Int), (entries : Int)⟩) := by
  have H := hide h
  have HP : Hid (∀ e w', WthPost W B v C ⟨ks, (behP L : Int), (size : Int), (entries : Int)⟩ e w' ↔ _) := fun _ _ => Iff.rfl
  have BC := hide (bclone_any a n c ks W hl (by omega) hno hr)
  obtain ⟨a0, cap0, hv⟩ := h.shape
  generalize hnl : L.length = nl at *
  subst hv
  clear hr hno h
  go_enter Tryz.func82, Tryz.ntmps82
  go_wp2_with fail
  refine BC.out.mono ?_
  rintro e w1 ⟨u1, rfl, o1, b1⟩
  obtain ⟨a1, c1, rfl, hn1, hc1, hu1⟩ := o1.sliceN hl
  have O1 := hide o1
  have B1 := hide b1
  have hz1 := b1.size
  have R1 := hide (H.out.below b1)
  clear o1 b1 BC
  go_wp2_with fail
  refine (rbehind_any R1.out (by omega) hb).mono ?_
  rintro e w2 ⟨rfl, b2⟩
  have hz2 := b2.size
  have R2 := hide (R1.out.below b2)
  have O2 := hide (O1.out.below b2)
  have B2 : Hid (Below W.heap.size W w2) := B1.out.trans (b2.mono B1.out.size)
  have z2 := B2.out.size
  have HN := hide (four_new w2 (.slice a1 n c1) (.int .i64 (behP L : Int)) (.int .i64 (size : Int)) (.int .i64 (entries : Int)) 97)
  have BA : Hid (Below w2.heap.size w2 (w2.alloc (.cells #[.slice a1 n c1, .int .i64 (behP L : Int), .int .i64 (size : Int), .int .i64 (entries : Int)] 97))) := (Below.refl _ _).alloc (Nat.le_refl _) _
  have hCL : C.length = nl := H.out.len.trans hnl
  obtain ⟨cs, hcs⟩ : ∃ cs : Spn, cs = ⟨a1, c1, ks, (behP L : Int), (size : Int), (entries : Int)⟩ := ⟨_, rfl⟩
  have hkv : cs.kv = .slice a1 n c1 := by rw [hcs]; unfold Spn.kv; rw [hl]
  go_wp2_with (first
    | (at_builtin; refine append_sT 85 Tryz.underlying85 rfl (.tmp 9) (.tmp 17) rfl B _ C cs rfl (R2.out.o.below BA.out) ⟨w2.heap.size, 0, none⟩ 1 rfl (by rw [hkv, hcs]; exact HN.out) (by omega) (by have := BA.out.size; omega) ?_; intro v3 w3 o3 g3 k3)
    | fail)
  have hvl := H.out.o.lt
  have hUl := hu1
  have OK3 := ((O2.out.below BA.out).kept g3 (fun k hk e => by have h1 := (O1.out.owns.lt k hk).1; have h2 := (hvl k e.symm).2; omega)).row
  have U3 : Hid (Upd (fun i => (Value.slice a0 nl cap0).ownBlock = some i) W w3) := ((Upd.of_below (B2.out.trans (BA.out.mono z2)) _).trans (Upd.of_grown g3 (fun k hk _ => hk)))
  have o3 := hide o3
  have k3 := hide k3
  go_ret
  refine ⟨v3, cs, rfl, o3.out, by rw [hcs]; rfl, ?_, U3.out, fun k hk => ?_, fun x hx => ?_⟩
  · rw [hcs]
    exact ⟨OK3, fun q => by rw [hl]; exact hn1 q, by rw [hl]; exact hc1, k8, by rw [hl]; omega, (show I64 (behP L : Int) by unfold I64; omega), (show I64 (size : Int) by unfold I64; omega), (show I64 (entries : Int) by unfold I64; omega)⟩
  · rcases k3.out k hk with h | h
    · exact .inl h
    · exact .inr (by have := BA.out.size; omega)
  · rw [hcs] at hx
    have hx' : a1 = some x := hx
    subst hx'
    have h1 := hUl x.block rfl
    refine ⟨h1.1, fun q => ?_⟩
    rcases k3.out _ q with h | h
    · have := (hvl _ h).2; omega
    · have := BA.out.size; omega

theorem FByPost.zero {w w' : World} {l : List FRow} {e : Ending} (h : FByPost w l e w') (k : IsChk l 0 0) : ∃ v, e = .returned (.tuple #[v, .int .i64 0, .int .i64 0]) ∧ OwnB w' w.heap.size 5 v (footB l) ∧ Below w.heap.size w w' := by
  obtain ⟨m', er', hk, hc, hb⟩ := h
  obtain ⟨h1, h2⟩ := hk.uniq k
  rcases hc with ⟨h0, _⟩ | ⟨_, v, he, ho⟩
  · exact (h0 h2).elim
  · exact ⟨v, he, ho, hb⟩
set_option maxRecDepth 100000 in
set_option maxHeartbeats 800000 in
theorem rfoot_any {W : World} {B : Nat} {v : Value} {C : List Spn} {s : St} (h : RwO W B v C s.L) (hs : SG s) :
    Calls Tryz.prog 47 #[v] W fun e w' => ∃ u, e = .returned u ∧ OwnB w' W.heap.size 5 u (footB (rowsOf s.L)) ∧ Below W.heap.size W w' := by
  obtain ⟨a, b, cap, rfl, ha, hc⟩ := h.o.slice
  have hm := hs.many
  have hl := h.len
  have HB := hide (fbytes_any a b 0 C.length cap C W rfl (by omega) ha ⟨fun i hi => by rw [Nat.zero_add]; exact hc i hi, h.ok⟩)
  rw [h.e] at HB
  have CK := hide hs.chk
  clear h hc ha
  have HX : Hid (Calls Tryz.prog 86 #[.slice a C.length cap] W fun e w' => ∃ v, e = .returned (.tuple #[v, .int .i64 0, .int .i64 0]) ∧ OwnB w' W.heap.size 5 v (footB (rowsOf s.L)) ∧ Below W.heap.size W w') := HB.out.mono fun e w' h => h.zero CK.out
  clear HB CK hs hm hl
  generalize footB (rowsOf s.L) = zs at *
  generalize C.length = nc at *
  go_enter Tryz.func47, Tryz.ntmps47
  go_wp2_with fail
  refine HX.out.mono ?_
  rintro e w1 ⟨u, rfl, ho, b1⟩
  have O1 := hide ho
  have B1 := hide b1
  clear ho b1 HX
  go_wp2_with fail
  go_ret
  exact ⟨u, rfl, O1.out, B1.out⟩

end Go.Proofs.YtepjblmjjegpgaaGreat
