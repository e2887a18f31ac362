/- block: seek's closure, and sort.Search of it. -/
import Derived.Test.YtjnldmbjeiejdaaG45
import Derived.RegionDies
namespace Go.Proofs.Ytjnldmbjeiejdaa
open Go.RowKit

/-- What seek and its closure look at: three boxes, the bytes, the key. -/
structure SkE (W0 : World) (g gw gt gk : Nat) (a : Option Addr) (zs : List Int) (T : Nat) (ka : Option Addr) (kl kc : Nat) (key : List Int) : Prop where
  ow : One W0 gw 72 (.pointer (some ⟨g, 0, none⟩))
  ot : One W0 gt 3 (.int .i64 (T : Int))
  ok : One W0 gk 23 (.slice ka kl kc)
  rz : Row W0 .u8 a zs
  rk : Row W0 .u8 ka key
  d : gw ≠ g ∧ gt ≠ g ∧ gk ≠ g
  za : ∀ x, a = some x → 0 < zs.length → x.block ≠ g
  ka' : ∀ x, ka = some x → 0 < key.length → x.block ≠ g
theorem SkE.upd {W0 W : World} {g gw gt gk : Nat} {a : Option Addr} {zs : List Int} {T : Nat} {ka : Option Addr} {kl kc : Nat} {key : List Int} (h : SkE W0 g gw gt gk a zs T ka kl kc key) (hu : Upd (fun i => i = g) W0 W) : SkE W g gw gt gk a zs T ka kl kc key :=
  ⟨hu.heap h.ow h.d.1, hu.heap h.ot h.d.2.1, hu.heap h.ok h.d.2.2, h.rz.upd hu h.za, h.rk.upd hu h.ka', h.d, h.za, h.ka'⟩
/-- The walker while seeking. -/
structure SkW (W0 W : World) (B g : Nat) (a : Option Addr) (l c n p num : Nat) (ls : List Int) (va : Value) : Prop where
  wk : WkR W B g a l c p n num ls va
  l8 : B8 ls
  l64 : ls.length ≤ 64
  nu : num ≤ 1000
  up : Upd (fun i => i = g) W0 W
  fr : ∀ i, WkM g va i → i = g ∨ W0.heap.size ≤ i
theorem SkW.drewN {W0 W : World} {B g : Nat} {a : Option Addr} {l c n p num : Nat} {ls : List Int} {va : Value} (h : SkW W0 W B g a l c n p num ls va) (m : Nat) : SkW W0 (W.drewN m) B g a l c n p num ls va :=
  ⟨h.wk.upd (Upd.of_below (below_of_drewN (Below.refl _ _) m) Noth) (fun _ _ e => e), h.l8, h.l64, h.nu, h.up.trans (Upd.of_below (below_of_drewN (Below.refl _ _) m) _), h.fr⟩
theorem SkW.below {W0 W W' : World} {B g : Nat} {a : Option Addr} {l c n p num : Nat} {ls : List Int} {va : Value} (h : SkW W0 W B g a l c n p num ls va) (hb : Below W.heap.size W W') : SkW W0 W' B g a l c n p num ls va :=
  ⟨h.wk.upd (Upd.of_below hb Noth) (fun _ _ e => e), h.l8, h.l64, h.nu, h.up.trans (Upd.of_below hb _), h.fr⟩

/-- entry, while seeking. -/
def EsPost (W0 W : World) (B g : Nat) (a : Option Addr) (l c n p num : Nat) (ls zs pv : List Int) (e : Ending) (w' : World) : Prop :=
  (eE pv ls zs p = 0 ∧ ∃ ka kc va vc vn, e = .returned (.agg #[.slice ka (xKy pv zs p).length kc, .slice va (xVl pv zs p).length vc]) ∧ OwnB w' W.heap.size 5 (.slice ka (xKy pv zs p).length kc) (xKy pv zs p) ∧ OwnB w' W.heap.size 5 (.slice va (xVl pv zs p).length vc) (xVl pv zs p) ∧ SkW W0 w' B g a l c n (xPl pv zs p) (num + 1) (xKy pv zs p) vn) ∨
  (eE pv ls zs p ≠ 0 ∧ e = fallen (eE pv ls zs p) (eP pv zs p : Nat) ∧ Upd (fun i => i = g) W0 w')
theorem eE_key {pv ls zs : List Int} {p : Nat} (h : eE pv ls zs p = 0) : xEr pv zs p = 0 := by
  unfold eE at h
  apply Classical.byContradiction
  intro hne
  rw [if_pos hne] at h
  exact hne h
theorem entry_sk {W0 W : World} {B g gw gt gk : Nat} {a : Option Addr} {l c n p num T : Nat} {ls zs : List Int} {va : Value} {ka : Option Addr} {kl kc : Nat} {key : List Int} (E : SkE W0 g gw gt gk a zs T ka kl kc key) (h : SkW W0 W B g a l c n p num ls va) (hn : num ≤ 999) (hl : zs.length = l) (hm : l ≤ 140737488351232) (hcl : l ≤ c) (na : a = none → l = 0 ∧ c = 0) (z8 : B8 zs) :
    Calls Try.prog 54 #[.pointer (some ⟨g, 0, none⟩)] W (EsPost W0 W B g a l c n p num ls zs (if num % 8 = 0 then [] else ls)) := by
  have hE := E.upd h.up
  have hra : ∀ x, a = some x → 0 < l → ¬ WkM g va x.block := fun x hx h0 e => by
    rcases h.fr _ e with h1 | h1
    · exact E.za x hx (by omega) h1
    · have := row_lt E.rz hx (by omega); omega
  have p8 : B8 (if num % 8 = 0 then [] else ls) := by
    split
    · exact B8.nil
    · exact h.l8
  refine (entry_any h.wk hl (by omega) hcl na hE.rz hra z8 h.l8 h.l64 (by have := h.nu; omega)).mono ?_
  generalize (if num % 8 = 0 then [] else ls) = pv at *
  rintro e w' (⟨h0, ⟨ka, kc, va', vc, N, vn, rfl, ok, ov, hN, hkN, wk, hu, hf, hsep⟩⟩ | ⟨h0, rfl, hb⟩)
  · obtain ⟨x1, x2, x3, x4, x5⟩ := x_back pv zs p z8 (eE_key h0)
    refine .inl ⟨h0, ka, kc, va', vc, vn, rfl, ok, ov.mono hN, wk, xKy_b8 pv zs p p8 z8, x2, by omega, h.up.then hu (fun i hi e => ?_), fun i hi => ?_⟩
    · rcases h.fr i e with h1 | h1
      · exact h1
      · omega
    · rcases hf i hi with h1 | h1
      · exact h.fr i h1
      · exact .inr (Nat.le_trans h.up.size h1)
  · exact .inr ⟨h0, rfl, h.up.trans (Upd.of_below hb _)⟩
/-- jump, while seeking. -/
theorem jump_sk {W0 W : World} {B g gw gt gk : Nat} {a : Option Addr} {l c n p num T : Nat} {ls zs : List Int} {va : Value} {ka : Option Addr} {kl kc : Nat} {key : List Int} (E : SkE W0 g gw gt gk a zs T ka kl kc key) (h : SkW W0 W B g a l c n p num ls va) (i : Nat) (hi : i ≤ 100) (hl : zs.length = l) (hm : l ≤ 140737488351232) (hT : T + i * 2 + 1 < l) (z8 : B8 zs) :
    Calls Try.prog 71 #[.pointer (some ⟨g, 0, none⟩), .int .i64 (i : Int), .int .i64 (T : Int)] W fun e w' => e = .returned (.tuple #[]) ∧ SkW W0 w' B g a l c n (plc zs T i) (i * 8) [] (.slice none 0 0) := by
  refine (jump_any h.wk i T hl hm hT (by omega) (E.upd h.up).rz z8).mono ?_
  rintro e w' ⟨rfl, wk, hu⟩
  refine ⟨rfl, wk, B8.nil, by simp, by omega, h.up.trans hu, fun k hk => ?_⟩
  rcases hk with h1 | h1
  · exact .inl h1
  · cases h1

theorem run_fld (x y : Option Addr) (n c m d : Nat) (w : World) : (Instr.field 25 (.agg #[.slice x n c, .slice y m d]) 0).run Try.prog w = .ok (.slice x n c) w := by kernel_rfl

def skF (zs key : List Int) (T i : Nat) : Prop := 0 < cmpI (xKy [] zs (plc zs T i)) key
/-- What seek's closure tells. -/
def S1Post (W0 : World) (B g : Nat) (a : Option Addr) (l c n : Nat) (zs key : List Int) (T i : Nat) (e : Ending) (w' : World) : Prop :=
  (eE [] [] zs (plc zs T i) = 0 ∧ (∃ b : Bool, e = .returned (.bool b) ∧ (b = true ↔ skF zs key T i)) ∧ ∃ p num ls va, SkW W0 w' B g a l c n p num ls va) ∨ (eE [] [] zs (plc zs T i) ≠ 0 ∧ (∃ er q, e = fallen er q) ∧ Upd (fun i => i = g) W0 w')

set_option maxRecDepth 100000 in
set_option maxHeartbeats 1600000 in
theorem seek1_any {W0 W : World} {B g gw gt gk : Nat} {a : Option Addr} {l c n p num T : Nat} {ls zs : List Int} {va : Value} {ka : Option Addr} {kl kc : Nat} {key : List Int} (E : SkE W0 g gw gt gk a zs T ka kl kc key) (h : SkW W0 W B g a l c n p num ls va) (i : Nat) (hi : i ≤ 100) (hl : zs.length = l) (hm : l ≤ 140737488351232) (hcl : l ≤ c) (na : a = none → l = 0 ∧ c = 0) (hT : T + i * 2 + 1 < l) (z8 : B8 zs) (hk : key.length = kl) (k8 : B8 key) :
    Calls Try.prog 70 #[.int .i64 (i : Int), .pointer (some ⟨gw, 0, none⟩), .pointer (some ⟨gt, 0, none⟩), .pointer (some ⟨gk, 0, none⟩)] W (S1Post W0 B g a l c n zs key T i) := by
  have c1 := (E.upd h.up).ow.cell
  have c2 := (E.upd h.up).ot.cell
  have HJ := hide (jump_sk E h i hi hl hm hT z8)
  have HE := hide E
  have HNA := hide na
  have HP : Hid (∀ e w', S1Post W0 B g a l c n zs key T i e w' ↔ ((eE [] [] zs (plc zs T i) = 0 ∧ (∃ b : Bool, e = .returned (.bool b) ∧ (b = true ↔ skF zs key T i)) ∧ ∃ p num ls va, SkW W0 w' B g a l c n p num ls va) ∨ (eE [] [] zs (plc zs T i) ≠ 0 ∧ (∃ er q, e = fallen er q) ∧ Upd (fun i => i = g) W0 w'))) := fun _ _ => Iff.rfl
  unfold skF at HP
  clear E h na
  go_enter Try.func70, Try.ntmps70
  go_wp2_with fail
  refine HJ.out.mono ?_
  rintro e w1 ⟨rfl, s1⟩
  have S1 := hide s1
  clear s1 c1 c2
  generalize plc zs T i = p1 at *
  have HEN := hide (entry_sk HE.out (S1.out.drewN 1) (by omega) hl hm hcl HNA.out z8)
  rw [show (if i * 8 % 8 = 0 then ([] : List Int) else []) = [] from by simp] at HEN
  rw [show w1.drewN 1 = w1.drew from rfl] at HEN
  have c1 := (HE.out.upd S1.out.up).ow.cell
  have c3 := (HE.out.upd S1.out.up).ok.cell
  by_cases h0 : eE [] [] zs p1 = 0
  · have hx := x_back [] zs p1 z8 (eE_key h0)
    have HK8 := hide (xKy_b8 [] zs p1 B8.nil z8)
    have HEN2 : Hid (Calls Try.prog 54 #[.pointer (some ⟨g, 0, none⟩)] w1.drew fun e w' => ∃ ka' kc' va' vc' nV p' num' ls' vn, e = .returned (.agg #[.slice ka' (xKy [] zs p1).length kc', .slice va' nV vc']) ∧ Hid (Row w' .u8 ka' (xKy [] zs p1)) ∧ Hid (SkW W0 w' B g a l c n p' num' ls' vn) ∧ w'.cell? ⟨gw, 0, none⟩ = some (.pointer (some ⟨g, 0, none⟩)) ∧ w'.cell? ⟨gk, 0, none⟩ = some (.slice ka kl kc)) := by
      refine HEN.out.mono ?_
      rintro e w' (⟨_, ka', kc', va', vc', vn, rfl, ok, _, sk⟩ | ⟨h1, _⟩)
      · exact ⟨ka', kc', va', vc', _, _, _, _, vn, rfl, ok.row, sk, (HE.out.upd sk.up).ow.cell, (HE.out.upd sk.up).ok.cell⟩
      · exact absurd h0 h1
    clear HEN
    generalize xKy [] zs p1 = K at *
    obtain ⟨nK, hnK⟩ : ∃ nK, K.length = nK := ⟨_, rfl⟩
    rw [hnK] at HEN2 hx
    replace hnK := hide hnK
    replace hk := hide hk
    have HK8' := hide k8
    have hfd := run_fld
    go_wp2_with fail
    go_region_held3 (fun W => W.cell? ⟨gw, 0, none⟩ = some (.pointer (some ⟨g, 0, none⟩)) ∧ W.cell? ⟨gk, 0, none⟩ = some (.slice ka kl kc)) (go_keep) (first
      | (go_at_call 56; refine (compare_any ka' ka nK kc' kl kc K key w2 hnK.out hk.out RK.out (HE.out.upd SK.out.up).rk HK8.out HK8'.out).mono ?_; rintro e w3 ⟨rfl, rfl⟩)
      | (go_at_call 54; refine HEN2.out.mono ?_; rintro e w2 ⟨ka', kc', va', vc', nV, p', num', ls', vn, rfl, RK, SK, d1, d3⟩)
      | fail)
    have HF : Hid (S1Post W0 B g a l c n zs key T i (.returned (.bool (decide (0 < cmpI K key)))) w3) := (HP.out _ _).2 (.inl ⟨h0, ⟨_, rfl, by simp⟩, _, _, _, _, SK.out⟩)
    clear d1 d3
    generalize decide (0 < cmpI K key) = bb at *
    go_wp2_with fail
    go_ret
    exact HF.out
  · have HEN2 : Hid (Calls Try.prog 54 #[.pointer (some ⟨g, 0, none⟩)] w1.drew fun e w' => ∃ er q, e = fallen er q ∧ S1Post W0 B g a l c n zs key T i e w') := by
      refine HEN.out.mono ?_
      rintro e w' (⟨h1, _⟩ | ⟨_, rfl, hu⟩)
      · exact absurd h1 h0
      · exact ⟨_, _, rfl, (HP.out _ _).2 (.inr ⟨h0, ⟨_, _, rfl⟩, hu⟩)⟩
    clear HEN HP
    go_wp2_with fail
    go_region_dies
    all_goals
      refine HEN2.out.mono ?_
      rintro e w2 ⟨er, q, rfl, hs⟩
      exact ⟨rfl, hs⟩

end Go.Proofs.Ytjnldmbjeiejdaa

namespace Go.Proofs.Ytjnldmbjeiejdaa
open Go.RowKit

def SrPost (W0 : World) (B g : Nat) (a : Option Addr) (l c n : Nat) (zs key : List Int) (T r : Nat) (e : Ending) (w' : World) : Prop :=
  (∃ k, k ≤ r ∧ e = .returned (.int .i64 ((k : Nat) : Int)) ∧ (0 < k → ¬ skF zs key T (k - 1)) ∧ (k < r → skF zs key T k) ∧ ∃ p num ls va, SkW W0 w' B g a l c n p num ls va) ∨
  ((∃ er q, e = fallen er q) ∧ (∃ i, i < r ∧ eE [] [] zs (plc zs T i) ≠ 0) ∧ Upd (fun i => i = g) W0 w')

set_option maxRecDepth 100000 in
set_option maxHeartbeats 1600000 in
theorem search_any {W0 W : World} {B g gw gt gk : Nat} {a : Option Addr} {l c n p num T : Nat} {ls zs : List Int} {va : Value} {ka : Option Addr} {kl kc : Nat} {key : List Int} (E : SkE W0 g gw gt gk a zs T ka kl kc key) (h : SkW W0 W B g a l c n p num ls va) (r : Nat) (hr : r ≤ 100) (hl : zs.length = l) (hm : l ≤ 140737488351232) (hcl : l ≤ c) (na : a = none → l = 0 ∧ c = 0) (hT : T + r * 2 ≤ l) (z8 : B8 zs) (hk : key.length = kl) (k8 : B8 key) :
    Calls Try.prog 69 #[.int .i64 (r : Int), .func (.func 70) #[] #[.pointer (some ⟨gw, 0, none⟩), .pointer (some ⟨gt, 0, none⟩), .pointer (some ⟨gk, 0, none⟩)]] W (SrPost W0 B g a l c n zs key T r) := by
  have HS : Hid (∀ (W : World), (∃ p num ls va, SkW W0 W B g a l c n p num ls va) → ∀ i, i < r → Calls Try.prog 70 #[.int .i64 (i : Int), .pointer (some ⟨gw, 0, none⟩), .pointer (some ⟨gt, 0, none⟩), .pointer (some ⟨gk, 0, none⟩)] W (S1Post W0 B g a l c n zs key T i)) := (fun W hW i hi => by
    obtain ⟨p, num, ls, va, hs⟩ := hW
    exact seek1_any E hs i (by omega) hl hm hcl na (by omega) z8 hk k8)
  have HP : Hid (∀ e w', SrPost W0 B g a l c n zs key T r e w' ↔ ((∃ k, k ≤ r ∧ e = .returned (.int .i64 ((k : Nat) : Int)) ∧ (0 < k → ¬ skF zs key T (k - 1)) ∧ (k < r → skF zs key T k) ∧ ∃ p num ls va, SkW W0 w' B g a l c n p num ls va) ∨
    ((∃ er q, e = fallen er q) ∧ (∃ i, i < r ∧ eE [] [] zs (plc zs T i) ≠ 0) ∧ Upd (fun i => i = g) W0 w'))) := fun _ _ => Iff.rfl
  have H0 : Hid (∃ p num ls va, SkW W0 W B g a l c n p num ls va) := ⟨_, _, _, _, h⟩
  clear E h na hT hl z8 hk k8
  go_enter Try.func69, Try.ntmps69
  go_wp2_with fail
  go_loopw [5, 6] (fun q5 q6 wr => ∃ i j : Nat, i ≤ j ∧ j ≤ r ∧ q5 = .int .i64 (i : Int) ∧ q6 = .int .i64 (j : Int) ∧ Hid (0 < i → ¬ skF zs key T (i - 1)) ∧ Hid (j < r → skF zs key T j) ∧ Hid (∃ p num ls va, SkW W0 wr B g a l c n p num ls va)) (fun q5 q6 _ => (intOf q6).toNat - (intOf q5).toNat)
  case atStart => exact ⟨0, r, Nat.zero_le _, Nat.le_refl _, rfl, rfl, fun h => absurd h (Nat.lt_irrefl _), fun h => absurd h (Nat.lt_irrefl _), H0⟩
  case round =>
    clear H0
    obtain ⟨i, j, hij, hjr, rfl, rfl, HL, HH, HW⟩ := hrel
    rename World => wr
    by_cases hlt : i < j
    · have i1 : (i : Int) < (j : Int) := by omega
      obtain ⟨m, hm2⟩ : ∃ m, m = (i + j) / 2 := ⟨_, rfl⟩
      have HC := hide (HS.out wr HW.out m (by omega))
      have e2 : Hid (((i : Int) + (j : Int)) / 2 = (m : Int)) := by show _ = _; omega
      replace hm2 := hide hm2
      go_wp2_with fail
      rw [e2.out]
      refine HC.out.mono ?_
      have hm3 : i ≤ m ∧ m < j := by have := hm2.out; omega
      clear HC e2
      rintro e w2 (⟨h0, ⟨bb, rfl, hb⟩, hw⟩ | ⟨h0, ⟨er, q, rfl⟩, hu⟩)
      · have HW2 := hide hw
        clear hw
        cases bb with
        | true =>
          have HH2 : Hid (m < r → skF zs key T m) := fun _ => hb.1 rfl
          clear hb
          go_wp2_with fail
          go_roundw
          case rel => exact ⟨i, m, hm3.1, by omega, rfl, rfl, HL, HH2, HW2⟩
          case measure => simp [intOf]; omega
        | false =>
          have HL2 : Hid (0 < m + 1 → ¬ skF zs key T (m + 1 - 1)) := fun _ h => by have := hb.2 h; cases this
          clear hb
          go_wp2_with fail
          go_roundw
          case rel => exact ⟨m + 1, j, by omega, hjr, by go_num, rfl, HL2, HH, HW2⟩
          case measure => simp [intOf]; omega
      · exact ⟨rfl, (HP.out _ _).2 (.inr ⟨⟨er, q, rfl⟩, ⟨m, by omega, h0⟩, hu⟩)⟩
    · have i1 : ¬ (i : Int) < (j : Int) := by omega
      obtain rfl : i = j := by omega
      have HF := hide ((HP.out (.returned (.int .i64 (i : Int))) wr).2 (.inl ⟨i, hjr, rfl, HL.out, HH.out, HW.out⟩))
      go_wp2_with fail
      go_ret
      exact HF.out

end Go.Proofs.Ytjnldmbjeiejdaa

namespace Go.Proofs.Ytjnldmbjeiejdaa
open Go.RowKit

def numAt (g : Nat) (W : World) : Nat := (intOf ((W.cell? ⟨g, 3, none⟩).getD undef)).toNat
theorem WkR.numAt {W : World} {B g : Nat} {a : Option Addr} {l c p n num : Nat} {ls : List Int} {va : Value} (h : WkR W B g a l c p n num ls va) : numAt g W = num := by
  unfold Go.Proofs.Ytjnldmbjeiejdaa.numAt
  rw [h.cells.2.2.2.1]
  simp [intOf]

/-- Of a block entry i is read, be the key ahead known or not (at a restart). -/
theorem blk_step {l : List KV} {zs : List Int} (h : Good l) (h0 : 0 < l.length) (hz : blk l = zs) (i : Nat) (hi : i < l.length) (ls : List Int) (hls : (i % 8 = 0 ∧ ls = []) ∨ (0 < i ∧ ls = kyOf l (i - 1))) :
    eE (if i % 8 = 0 then [] else ls) ls zs (plAt l i) = 0 ∧ xKy (if i % 8 = 0 then [] else ls) zs (plAt l i) = kyOf l i ∧ xVl (if i % 8 = 0 then [] else ls) zs (plAt l i) = vlOf l i ∧ xPl (if i % 8 = 0 then [] else ls) zs (plAt l i) = plAt l (i + 1) := by
  have hpv : (if i % 8 = 0 then [] else ls) = pvOf l i := by
    unfold pvOf
    by_cases h8 : i % 8 = 0
    · rw [if_pos h8, if_pos h8]
    · rw [if_neg h8, if_neg h8]
      rcases hls with ⟨h1, _⟩ | ⟨_, h1⟩
      · exact absurd h1 h8
      · exact h1
  rw [hpv]
  obtain ⟨e1, e2, e3, e4, e5⟩ := blk_entry h h0 hz i hi
  have hk := h.k1 i hi
  unfold eE xEr xKy xVl xPl
  simp only [if_pos e1]
  rw [e2, e3]
  refine ⟨?_, rfl, e4, e5⟩
  rw [if_neg (by simp)]
  refine if_pos ?_
  rcases hls with ⟨_, h1⟩ | ⟨h2, h1⟩
  · rw [h1]
    cases hK : kyOf l i with
    | nil => rw [hK] at hk; simp at hk
    | cons x y => rw [cmpI_nil_cons]; decide
  · rw [h1]
    have := h.up (i - 1) (by omega)
    rw [show i - 1 + 1 = i by omega] at this
    exact this
/-- Where seeking stands, if the bytes are a block. -/
def SkB (l : List KV) (key : List Int) (p num : Nat) (ls : List Int) : Prop :=
  num ≤ l.length ∧ p = plAt l num ∧ ((num % 8 = 0 ∧ ls = []) ∨ (0 < num ∧ ls = kyOf l (num - 1))) ∧ ∀ i, i < num → cmpI (kyOf l i) key < 0
/-- What seek tells. -/
def SeekPost (W : World) (g : Nat) (zs key : List Int) (e : Ending) (w' : World) : Prop :=
  Upd (fun i => i = g) W w' ∧ ((∃ va vs vc b, e = .returned (.tuple #[.slice va vs.length vc, .bool b]) ∧ OwnB w' W.heap.size 5 (.slice va vs.length vc) vs ∧ ((bRes zs).2.1 = 0 → IsF (bRes zs).1 key vs b)) ∨ ((bRes zs).2.1 ≠ 0 ∧ ∃ er q, e = fallen er q))

/-- Of a block: the restarts' keys. -/
theorem blk_skF {l : List KV} {zs key : List Int} (h : Good l) (h0 : 0 < l.length) (hz : blk l = zs) (i : Nat) (hi : i * 8 < l.length) : eE [] [] zs (plc zs (plAt l l.length) i) = 0 ∧ (skF zs key (plAt l l.length) i ↔ 0 < cmpI (kyOf l (i * 8)) key) := by
  obtain ⟨e1, e2, _⟩ := blk_step h h0 hz (i * 8) hi [] (.inl ⟨by omega, rfl⟩)
  have e8 : i * 8 % 8 = 0 := by omega
  rw [if_pos e8] at e1 e2
  unfold skF
  rw [blk_table h h0 hz i hi, e2]
  exact ⟨e1, Iff.rfl⟩

set_option maxRecDepth 100000 in
set_option maxHeartbeats 1600000 in
theorem seek_any {W : World} {B g : Nat} {a : Option Addr} {l c n p : Nat} {zs : List Int} (h : WkR W B g a l c p n 0 [] (.slice none 0 0)) (ka : Option Addr) (kl kc : Nat) (key : List Int) (hl : zs.length = l) (hm : l ≤ 140737488351232) (hcl : l ≤ c) (na : a = none → l = 0 ∧ c = 0) (hp : p ≤ l) (hn : 1 ≤ n ∧ n ≤ 64) (hr : Row W .u8 a zs) (hza : ∀ x, a = some x → 0 < l → x.block ≠ g) (z8 : B8 zs) (hk : key.length = kl) (k8 : B8 key) (hrk : Row W .u8 ka key) (hka : ∀ x, ka = some x → 0 < kl → x.block ≠ g)
    (hblk : (bRes zs).2.1 = 0 → n = (bRes zs).1.length ∧ p = 1) :
    Calls Try.prog 40 #[.pointer (some ⟨g, 0, none⟩), .slice ka kl kc] W (SeekPost W g zs key) := by
  obtain ⟨r, hr'⟩ : ∃ r, r = (n + 7) / 8 := ⟨_, rfl⟩
  have hgl : g < W.heap.size := lt_of_block h.blk
  obtain ⟨w2, hw2⟩ : ∃ w2, w2 = (W.alloc (.cells #[.pointer (some ⟨g, 0, none⟩)] 72)).alloc (.cells #[.slice ka kl kc] 23) := ⟨_, rfl⟩
  have hb2 : Below W.heap.size W w2 := by rw [hw2]; exact ((Below.refl _ _).alloc (Nat.le_refl _) _).alloc (by simp) _
  have hs2 : w2.heap.size = W.heap.size + 2 := by rw [hw2]; simp
  have hO1 : One w2 W.heap.size 72 (.pointer (some ⟨g, 0, none⟩)) := by rw [hw2]; exact (Below.heap_alloc _ _ _ (by simp)).trans (heap_alloc_new W _)
  have hO2 : One w2 (W.heap.size + 1) 23 (.slice ka kl kc) := by
    have := heap_alloc_new (W.alloc (.cells #[.pointer (some ⟨g, 0, none⟩)] 72)) (.cells #[.slice ka kl kc] 23)
    rw [World.size_alloc] at this
    rw [hw2]; exact this
  have H2 := hide (h.upd (Upd.of_below hb2 Noth) (fun _ _ e => e))
  have RZ2 := hide (hr.below2 hb2)
  have RK2 := hide (hrk.below2 hb2)
  have o1 := hO1.cell
  have o2 := hO2.cell
  have c0 := H2.out.cells.1
  have c1 := H2.out.cells.2.1
  have c2 := H2.out.cells.2.2.1
  have O1 := hide hO1
  have O2 := hide hO2
  have B2 := hide hb2
  have HZA := hide hza
  have HKA := hide hka
  have HNA := hide na
  have HB := hide hblk
  clear h hr hrk hO1 hO2 hb2 hza hka na hblk
  go_enter Try.func40, Try.ntmps40
  go_upto_region 1 with fail
  rw [← hw2]
  replace hw2 := hide hw2
  go_wp2_with fail
  have eR : ((n : Int) + 8 - 1) / 8 = (r : Int) := by omega
  rw [eR]
  clear eR
  have hrr : 1 ≤ r ∧ r ≤ 8 := by omega
  have HR8 := hide hr'
  clear hr'
  obtain ⟨tI, htI⟩ : ∃ tI : Int, tI = (l : Int) - (r : Int) * 2 := ⟨_, rfl⟩
  rw [← htI]
  obtain ⟨w3, hw3⟩ : ∃ w3, w3 = w2.alloc (.cells #[.int .i64 tI] 3) := ⟨_, rfl⟩
  rw [← hw3]
  have hb3 : Below w2.heap.size w2 w3 := by rw [hw3]; exact (Below.refl _ _).alloc (Nat.le_refl _) _
  have hO3 : One w3 (W.heap.size + 2) 3 (.int .i64 tI) := by rw [hw3, ← hs2]; exact heap_alloc_new w2 _
  have o3 := hO3.cell
  replace o1 := One.cell (W := w3) ((hb3.block _ (by omega)).trans O1.out)
  replace o2 := One.cell (W := w3) ((hb3.block _ (by omega)).trans O2.out)
  have H3 := hide (H2.out.upd (Upd.of_below hb3 Noth) (fun _ _ e => e))
  replace c0 := H3.out.cells.1
  replace c1 := H3.out.cells.2.1
  have hs3 : w3.heap.size = W.heap.size + 3 := by rw [hw3]; simp; omega
  have HU3 : Hid (∀ m, Upd (fun i => i = g) W (w3.drewN m)) := fun m => (Upd.of_below (B2.out.trans (hb3.mono B2.out.size)) _).trans (Upd.of_below (below_of_drewN (Below.refl _ _) m) _)
  have HE3 : Hid (∀ m (T : Nat), tI = (T : Int) → SkE (w3.drewN m) g W.heap.size (W.heap.size + 2) (W.heap.size + 1) a zs T ka kl kc key) := fun m T hT => by
    have e0 : SkE w3 g W.heap.size (W.heap.size + 2) (W.heap.size + 1) a zs T ka kl kc key := ⟨(hb3.block _ (by omega)).trans O1.out, by rw [← hT]; exact hO3, (hb3.block _ (by omega)).trans O2.out, RZ2.out.below2 hb3, RK2.out.below2 hb3, ⟨by omega, by omega, by omega⟩, fun x hx h0 => HZA.out x hx (by omega), fun x hx h0 => HKA.out x hx (by omega)⟩
    exact e0.upd (Upd.of_below (below_of_drewN (Below.refl _ _) m) _)
  have HW3 : Hid (∀ m, SkW (w3.drewN m) (w3.drewN m) B g a l c n p 0 [] (.slice none 0 0)) := fun m => by
    refine ⟨H3.out.upd (Upd.of_below (below_of_drewN (Below.refl _ _) m) Noth) (fun _ _ e => e), B8.nil, by simp, by omega, Upd.refl _ _, fun i hi => ?_⟩
    rcases hi with h1 | h1
    · exact .inl h1
    · cases h1
  have HS3 : Hid (W.heap.size ≤ w3.heap.size) := by show _ ≤ _; omega
  have HP : Hid (∀ e w', SeekPost W g zs key e w' ↔ (Upd (fun i => i = g) W w' ∧ ((∃ va vs vc b, e = .returned (.tuple #[.slice va vs.length vc, .bool b]) ∧ OwnB w' W.heap.size 5 (.slice va vs.length vc) vs ∧ ((bRes zs).2.1 = 0 → IsF (bRes zs).1 key vs b)) ∨ ((bRes zs).2.1 ≠ 0 ∧ ∃ er q, e = fallen er q)))) := fun _ _ => Iff.rfl
  -- of a block
  have HBK : Hid ((bRes zs).2.1 = 0 → Good (bRes zs).1 ∧ 0 < (bRes zs).1.length ∧ blk (bRes zs).1 = zs ∧ n = (bRes zs).1.length ∧ p = 1 ∧ tI = ((plAt (bRes zs).1 n : Nat) : Int)) := fun h0 => by
    obtain ⟨h1, h2, h3, _⟩ := bRes_back z8 h0
    obtain ⟨h4, h5⟩ := HB.out h0
    obtain ⟨_, _, _, h6⟩ := blk_head h1 h2 h3
    rw [← h4] at h6
    exact ⟨h1, h2, h3, h4, h5, by rw [htI]; have := HR8.out; omega⟩
  have hmf : ∀ (fn : Fn) (first cap : Array Value) (w : World), (Instr.makeFunc fn first cap).run Try.prog w = .ok (.func fn first cap) w := fun _ _ _ _ => rfl
  generalize (bRes zs).2.1 = bE at *
  generalize (bRes zs).1 = L at *
  clear hO3 hb3 H3 O1 O2 B2 H2 RZ2 RK2 HZA HKA HB hw3 c2
  obtain ⟨N, hN⟩ : ∃ N, N = W.heap.size := ⟨_, rfl⟩
  rw [← hN] at o1 o2 o3 HE3 HS3 hs3 ⊢
  replace hN := hide hN
  by_cases htp : tI < (p : Int)
  · have HF : Hid (∀ m, SeekPost W g zs key (fallen 62 (l : Int)) (w3.drewN m)) := fun m => (HP.out _ _).2 ⟨HU3.out m, .inr ⟨fun h0 => by
      obtain ⟨_, _, _, _, h5, h6⟩ := HBK.out h0
      rw [h6, h5] at htp
      unfold plAt at htp
      omega, _, _, rfl⟩⟩
    clear HBK htI
    go_quiet (fail)
    go_wp2_with fail
    refine (giveUp_any 62 (l : Int) _).mono ?_
    rintro e w4 ⟨rfl, rfl⟩
    exact ⟨rfl, HF.out _⟩
  · have hdf : decide (tI < (p : Int)) = false := decide_eq_false htp
    obtain ⟨T, rfl⟩ : ∃ T : Nat, tI = (T : Int) := ⟨tI.toNat, by omega⟩
    have hT : T + r * 2 = l := by omega
    clear htI
    go_quiet (fail)
    go_wp2_with fail
    clear hdf o1 o2 o3 c0 c1
    have HSR := hide (search_any (HE3.out nq T rfl) (HW3.out nq) r (by omega) hl hm hcl HNA.out (by omega) z8 hk k8)
    have E0 := hide (HE3.out nq T rfl)
    have U0 := hide (HU3.out nq)
    have S0 : Hid (N ≤ (w3.drewN nq).heap.size) := HS3.out
    have HSK : Hid (bE = 0 → ∀ i, i < r → eE [] [] zs (plc zs T i) = 0 ∧ (skF zs key T i ↔ 0 < cmpI (kyOf L (i * 8)) key)) := fun h0 i hi => by
      obtain ⟨h1, h2, h3, h4, h5, h6⟩ := HBK.out h0
      have hTe : T = plAt L L.length := by rw [← h4]; omega
      have := blk_skF (key := key) h1 h2 h3 i (by have := HR8.out; omega)
      rw [← hTe] at this
      exact this
    clear HE3 HW3 HU3 HS3
    generalize w3.drewN nq = w0 at *
    refine HSR.out.mono ?_
    rintro e w4 (⟨k, hkr, rfl, hlo, hhi, p4, num4, ls4, va4, s4⟩ | ⟨⟨er, q, rfl⟩, ⟨i, hi, hi0⟩, hu⟩)
    · have S4 := hide s4
      clear s4 HSR
      by_cases hk0 : k = 0
      · subst hk0
        have HF : Hid (SeekPost W g zs key (.returned (.tuple #[.slice none 0 0, .bool false])) w4) := (HP.out _ _).2 ⟨U0.out.trans S4.out.up, .inl ⟨none, [], 0, false, rfl, OwnB.nil _ _ _, fun h0 => by
          obtain ⟨h1, h2, _⟩ := HBK.out h0
          refine IsF.none h1 0 (fun i hi => absurd hi (Nat.not_lt_zero i)) (fun _ => ?_)
          have := ((HSK.out h0 0 (by omega)).2).1 (hhi (by omega))
          exact this⟩⟩
        clear hlo hhi HBK
        rw [show ((0 : Nat) : Int) = 0 from rfl]
        go_wp2_with fail
        go_ret2
        exact HF.out
      · obtain ⟨k, rfl⟩ : ∃ j, k = j + 1 := ⟨k - 1, by omega⟩
        have HLO : Hid (bE = 0 → cmpI (kyOf L (k * 8)) key ≤ 0) := fun h0 => by
          have h1 := hlo (by omega)
          rw [Nat.add_sub_cancel, (HSK.out h0 k (by omega)).2] at h1
          omega
        have HJ := hide (jump_sk E0.out S4.out k (by omega) hl hm (by omega) z8)
        have o1 := (E0.out.upd S4.out.up).ow.cell
        have o3 := (E0.out.upd S4.out.up).ot.cell
        have hne : ((k : Int) + 1 == 0) = false := by simp; omega
        have hw1 : IntKind.i64.wrap ((k : Int) + 1 - 1) = (k : Int) := by rw [IntKind.wrap_i64]; omega
        clear hlo hhi
        go_wp2_with fail
        refine HJ.out.mono ?_
        rintro e w5 ⟨rfl, s5⟩
        have SB5 : Hid (bE = 0 → SkB L key (plc zs T k) (k * 8) []) := fun h0 => by
          obtain ⟨h1, h2, h3, h4, h5, h6⟩ := HBK.out h0
          have hTe : T = plAt L L.length := by rw [← h4]; omega
          have hkL : k * 8 < L.length := by have := HR8.out; omega
          refine ⟨by omega, by rw [hTe]; exact blk_table h1 h2 h3 k hkL, .inl ⟨by omega, rfl⟩, fun i hi => ?_⟩
          exact (cmpI_trans _ _ _ (Int.le_of_lt (h1.lt i (k * 8) hi hkL)) (HLO.out h0)).2 (h1.lt i (k * 8) hi hkL)
        have S5 := hide s5
        clear s5 HJ o1 o3 hne hw1 HSK S4
        generalize plc zs T k = p5 at *
        have hn5 : k * 8 ≤ 64 := by omega
        generalize k * 8 = num5 at *
        go_wp2_with fail
        go_loopw [9] (fun q9 wr => ∃ p num ls va, Hid (SkW w0 wr B g a l c n p num ls va) ∧ Hid (bE = 0 → SkB L key p num ls)) (fun _ wr => n - numAt g wr)
        case atStart => exact ⟨_, _, _, _, S5, SB5⟩
        case round =>
          clear S5 SB5
          obtain ⟨p6, num6, ls6, va6, S6, SB6⟩ := hrel
          rename World => wr
          have o1 := (E0.out.upd S6.out.up).ow.cell
          have HLF := hide (left_any S6.out.wk)
          have hnum := S6.out.wk.numAt
          replace hnum := hide hnum
          by_cases hlt : num6 < n
          · rw [decide_eq_true hlt] at HLF
            go_wp2_with fail
            refine HLF.out.mono ?_
            rintro e w6 ⟨rfl, m6, hw6⟩
            have S7 : Hid (SkW w0 w6 B g a l c n p6 num6 ls6 va6) := by show SkW _ _ _ _ _ _ _ _ _ _ _ _; rw [hw6]; exact S6.out.drewN m6
            clear hw6 HLF o1
            have o1 := (E0.out.upd S7.out.up).ow.cell
            have HEN := hide (entry_sk E0.out S7.out (by omega) hl hm hcl HNA.out z8)
            have HBS : Hid (bE = 0 → eE (if num6 % 8 = 0 then [] else ls6) ls6 zs p6 = 0 ∧ xKy (if num6 % 8 = 0 then [] else ls6) zs p6 = kyOf L num6 ∧ xVl (if num6 % 8 = 0 then [] else ls6) zs p6 = vlOf L num6 ∧ xPl (if num6 % 8 = 0 then [] else ls6) zs p6 = plAt L (num6 + 1)) := fun h0 => by
              obtain ⟨h1, h2, h3, h4, h5, h6⟩ := HBK.out h0
              obtain ⟨q1, q2, q3, q4⟩ := SB6.out h0
              rw [q2]
              exact blk_step h1 h2 h3 num6 (by omega) ls6 q3
            have HX := hide (fun he => x_back (if num6 % 8 = 0 then [] else ls6) zs p6 z8 (eE_key (ls := ls6) he))
            have HK8 : Hid (B8 (xKy (if num6 % 8 = 0 then [] else ls6) zs p6)) := xKy_b8 _ zs p6 (by
              split
              · exact B8.nil
              · exact S7.out.l8) z8
            unfold EsPost at HEN
            generalize eE (if num6 % 8 = 0 then [] else ls6) ls6 zs p6 = ee at *
            generalize xKy (if num6 % 8 = 0 then [] else ls6) zs p6 = K at *
            generalize xVl (if num6 % 8 = 0 then [] else ls6) zs p6 = V at *
            generalize xPl (if num6 % 8 = 0 then [] else ls6) zs p6 = pl at *
            generalize (eP (if num6 % 8 = 0 then [] else ls6) zs p6 : Nat) = ep at *
            go_wp2_with fail
            refine HEN.out.mono ?_
            rintro e w7 (⟨h0, ka7, kc7, va7, vc7, vn7, rfl, ok7, ov7, s7⟩ | ⟨h0, rfl, hu7⟩)
            · obtain ⟨x1, x2, x3, _⟩ := HX.out h0
              obtain ⟨nK, hnK⟩ : ∃ nK, K.length = nK := ⟨_, rfl⟩
              obtain ⟨nV, hnV⟩ : ∃ nV, V.length = nV := ⟨_, rfl⟩
              rw [hnK] at ok7 x1 x2 ⊢
              rw [hnV] at ov7 x3 ⊢
              have hb8 : Below w7.heap.size w7 (w7.alloc (.cells #[.slice ka7 nK kc7, .slice va7 nV vc7] 25)) := (Below.refl _ _).alloc (Nat.le_refl _) _
              have y := two_new2 w7 (.slice ka7 nK kc7) (.slice va7 nV vc7) 25
              have y0 := y.1
              have y1 := y.2
              have S8 := hide (s7.below hb8)
              have RK8 := hide (ok7.row.below2 hb8)
              have OV8 := hide ((ov7.below hb8).mono (Nat.le_trans S0.out S7.out.up.size))
              have o2 := (E0.out.upd S8.out.up).ok.cell
              have HCM := hide (compare_any ka7 ka nK kc7 kl kc K key (w7.alloc (.cells #[.slice ka7 nK kc7, .slice va7 nV vc7] 25)) hnK hk RK8.out (E0.out.upd S8.out.up).rk HK8.out k8)
              clear ok7 ov7 s7 hb8 y HEN o1
              replace hnK := hide hnK
              replace hnV := hide hnV
              obtain ⟨cv, hcv⟩ : ∃ cv, cv = cmpI K key := ⟨_, rfl⟩
              rw [← hcv] at HCM
              replace hcv := hide hcv
              go_wp2_with fail
              refine HCM.out.mono ?_
              rintro e w9 ⟨rfl, hw9⟩
              rw [← hw9] at S8 OV8 y1
              clear hw9 y0 o2 HCM RK8 HX
              have U9 : Hid (Upd (fun i => i = g) W w9) := U0.out.trans S8.out.up
              by_cases hc0 : cv = 0
              · subst hc0
                have HF : Hid (SeekPost W g zs key (.returned (.tuple #[.slice va7 nV vc7, .bool true])) w9) := (HP.out _ _).2 ⟨U9.out, .inl ⟨va7, V, vc7, true, by rw [hnV.out], by rw [hnV.out, ← hN.out]; exact OV8.out, fun hb => by
                  obtain ⟨h1, h2, h3, h4, _⟩ := HBK.out hb
                  obtain ⟨_, b2, b3, _⟩ := HBS.out hb
                  refine .inl ⟨rfl, num6, by omega, ?_, b3⟩
                  rw [← b2]
                  exact cmpI_zero _ _ hcv.out.symm⟩⟩
                clear HBK HBS
                go_wp2_with fail
                go_ret2
                exact HF.out
              · have hne0 : (cv == 0) = false := beq_eq_false_iff_ne.2 hc0
                by_cases hc1 : 0 < cv
                · have HF : Hid (SeekPost W g zs key (.returned (.tuple #[.slice none 0 0, .bool false])) w9) := (HP.out _ _).2 ⟨U9.out, .inl ⟨none, [], 0, false, rfl, OwnB.nil _ _ _, fun hb => by
                    obtain ⟨h1, h2, h3, h4, _⟩ := HBK.out hb
                    obtain ⟨_, b2, b3, _⟩ := HBS.out hb
                    obtain ⟨q1, q2, q3, q4⟩ := SB6.out hb
                    refine IsF.none h1 num6 (fun i hi _ => q4 i hi) (fun _ => ?_)
                    rw [← b2, ← hcv.out]
                    exact hc1⟩⟩
                  clear HBK HBS
                  go_wp2_with fail
                  go_ret2
                  exact HF.out
                · have SB9 : Hid (bE = 0 → SkB L key pl (num6 + 1) K) := fun hb => by
                    obtain ⟨h1, h2, h3, h4, _⟩ := HBK.out hb
                    obtain ⟨_, b2, b3, b4⟩ := HBS.out hb
                    obtain ⟨q1, q2, q3, q4⟩ := SB6.out hb
                    refine ⟨by omega, b4, .inr ⟨by omega, by rw [Nat.add_sub_cancel]; exact b2⟩, fun i hi => ?_⟩
                    by_cases hi' : i < num6
                    · exact q4 i hi'
                    · rw [show i = num6 by omega, ← b2, ← hcv.out]; omega
                  have hnum9 := S8.out.wk.numAt
                  replace hnum9 := hide hnum9
                  go_wp2_with fail
                  go_roundw
                  case rel => exact ⟨pl, num6 + 1, K, vn7, S8, SB9⟩
                  case measure => rw [hnum9.out, hnum.out]; omega
            · have HF : Hid (SeekPost W g zs key (fallen ee (ep : Nat)) w7) := (HP.out _ _).2 ⟨U0.out.trans hu7, .inr ⟨fun hb => h0 (HBS.out hb).1, _, _, rfl⟩⟩
              exact ⟨rfl, HF.out⟩
          · rw [decide_eq_false hlt] at HLF
            go_wp2_with fail
            refine HLF.out.mono ?_
            rintro e w6 ⟨rfl, m6, hw6⟩
            have S7 : Hid (SkW w0 w6 B g a l c n p6 num6 ls6 va6) := by show SkW _ _ _ _ _ _ _ _ _ _ _ _; rw [hw6]; exact S6.out.drewN m6
            have HF : Hid (SeekPost W g zs key (.returned (.tuple #[.slice none 0 0, .bool false])) w6) := (HP.out _ _).2 ⟨U0.out.trans S7.out.up, .inl ⟨none, [], 0, false, rfl, OwnB.nil _ _ _, fun h0 => by
              obtain ⟨h1, h2, h3, h4, _⟩ := HBK.out h0
              obtain ⟨q1, q2, q3, q4⟩ := SB6.out h0
              exact IsF.none h1 num6 (fun i hi _ => q4 i hi) (fun h => absurd h (by omega))⟩⟩
            clear hw6 HLF o1 HBK
            go_wp2_with fail
            go_ret2
            exact HF.out
    · have HF : Hid (SeekPost W g zs key (fallen er q) w4) := (HP.out _ _).2 ⟨U0.out.trans hu, .inr ⟨fun h0 => hi0 (HSK.out h0 i hi).1, _, _, rfl⟩⟩
      exact ⟨rfl, HF.out⟩

end Go.Proofs.Ytjnldmbjeiejdaa
