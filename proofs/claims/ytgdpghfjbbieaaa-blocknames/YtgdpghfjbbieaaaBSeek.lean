/- block: seek's closure, and sort.Search of it. -/
import Derived.Test.YtgdpghfjbbieaaaBJump
import Derived.RegionDies
namespace Go.Proofs.Ytgdpghfjbbieaaa
open Go.RowKit

/-- What seek and its closure look at: three boxes, the bytes, the key. -/
structure SkE (W0 : World) (g gw gt gk : Nat) (a : Option Addr) (zs : List Int) (T : Nat) (ka : Option Addr) (kl kc : Nat) (key : List Int) : Prop where
  ow : One W0 gw 72 (.pointer (some ⟨g, 0, none⟩))
  ot : One W0 gt 3 (.int .i64 (T : Int))
  ok : One W0 gk 23 (.slice ka kl kc)
  rz : Row W0 .u8 a zs
  rk : Row W0 .u8 ka key
  d : gw ≠ g ∧ gt ≠ g ∧ gk ≠ g
  za : ∀ x, a = some x → 0 < zs.length → x.block ≠ g
  ka' : ∀ x, ka = some x → 0 < key.length → x.block ≠ g
theorem SkE.upd {W0 W : World} {g gw gt gk : Nat} {a : Option Addr} {zs : List Int} {T : Nat} {ka : Option Addr} {kl kc : Nat} {key : List Int} (h : SkE W0 g gw gt gk a zs T ka kl kc key) (hu : Upd (fun i => i = g) W0 W) : SkE W g gw gt gk a zs T ka kl kc key :=
  ⟨hu.heap h.ow h.d.1, hu.heap h.ot h.d.2.1, hu.heap h.ok h.d.2.2, h.rz.upd hu h.za, h.rk.upd hu h.ka', h.d, h.za, h.ka'⟩
/-- The walker while seeking. -/
structure SkW (W0 W : World) (B g : Nat) (a : Option Addr) (l c n p num : Nat) (ls : List Int) (va : Value) : Prop where
  wk : WkR W B g a l c p n num ls va
  l8 : B8 ls
  l64 : ls.length ≤ 64
  nu : num ≤ 1000
  up : Upd (fun i => i = g) W0 W
  fr : ∀ i, WkM g va i → i = g ∨ W0.heap.size ≤ i
theorem SkW.drewN {W0 W : World} {B g : Nat} {a : Option Addr} {l c n p num : Nat} {ls : List Int} {va : Value} (h : SkW W0 W B g a l c n p num ls va) (m : Nat) : SkW W0 (W.drewN m) B g a l c n p num ls va :=
  ⟨h.wk.upd (Upd.of_below (below_of_drewN (Below.refl _ _) m) Noth) (fun _ _ e => e), h.l8, h.l64, h.nu, h.up.trans (Upd.of_below (below_of_drewN (Below.refl _ _) m) _), h.fr⟩
theorem SkW.below {W0 W W' : World} {B g : Nat} {a : Option Addr} {l c n p num : Nat} {ls : List Int} {va : Value} (h : SkW W0 W B g a l c n p num ls va) (hb : Below W.heap.size W W') : SkW W0 W' B g a l c n p num ls va :=
  ⟨h.wk.upd (Upd.of_below hb Noth) (fun _ _ e => e), h.l8, h.l64, h.nu, h.up.trans (Upd.of_below hb _), h.fr⟩

/-- entry, while seeking. -/
def EsPost (W0 W : World) (B g : Nat) (a : Option Addr) (l c n p num : Nat) (ls zs pv : List Int) (e : Ending) (w' : World) : Prop :=
  (eE pv ls zs p = 0 ∧ ∃ ka kc va vc vn, e = .returned (.agg #[.slice ka (xKy pv zs p).length kc, .slice va (xVl pv zs p).length vc]) ∧ OwnB w' W.heap.size 5 (.slice ka (xKy pv zs p).length kc) (xKy pv zs p) ∧ OwnB w' W.heap.size 5 (.slice va (xVl pv zs p).length vc) (xVl pv zs p) ∧ SkW W0 w' B g a l c n (xPl pv zs p) (num + 1) (xKy pv zs p) vn) ∨
  (eE pv ls zs p ≠ 0 ∧ e = fallen (eE pv ls zs p) (eP pv zs p : Nat) ∧ Upd (fun i => i = g) W0 w')
theorem eE_key {pv ls zs : List Int} {p : Nat} (h : eE pv ls zs p = 0) : xEr pv zs p = 0 := by
  unfold eE at h
  apply Classical.byContradiction
  intro hne
  rw [if_pos hne] at h
  exact hne h
theorem entry_sk {W0 W : World} {B g gw gt gk : Nat} {a : Option Addr} {l c n p num T : Nat} {ls zs : List Int} {va : Value} {ka : Option Addr} {kl kc : Nat} {key : List Int} (E : SkE W0 g gw gt gk a zs T ka kl kc key) (h : SkW W0 W B g a l c n p num ls va) (hn : num ≤ 999) (hl : zs.length = l) (hm : l ≤ 140737488351232) (hcl : l ≤ c) (na : a = none → l = 0 ∧ c = 0) (z8 : B8 zs) :
    Calls Try.prog 54 #[.pointer (some ⟨g, 0, none⟩)] W (EsPost W0 W B g a l c n p num ls zs (if num % 8 = 0 then [] else ls)) := by
  have hE := E.upd h.up
  have hra : ∀ x, a = some x → 0 < l → ¬ WkM g va x.block := fun x hx h0 e => by
    rcases h.fr _ e with h1 | h1
    · exact E.za x hx (by omega) h1
    · have := row_lt E.rz hx (by omega); omega
  have p8 : B8 (if num % 8 = 0 then [] else ls) := by
    split
    · exact B8.nil
    · exact h.l8
  refine (entry_any h.wk hl (by omega) hcl na hE.rz hra z8 h.l8 h.l64 (by have := h.nu; omega)).mono ?_
  generalize (if num % 8 = 0 then [] else ls) = pv at *
  rintro e w' (⟨h0, ⟨ka, kc, va', vc, N, vn, rfl, ok, ov, hN, hkN, wk, hu, hf, hsep⟩⟩ | ⟨h0, rfl, hb⟩)
  · obtain ⟨x1, x2, x3, x4, x5⟩ := x_back pv zs p z8 (eE_key h0)
    refine .inl ⟨h0, ka, kc, va', vc, vn, rfl, ok, ov.mono hN, wk, xKy_b8 pv zs p p8 z8, x2, by omega, h.up.then hu (fun i hi e => ?_), fun i hi => ?_⟩
    · rcases h.fr i e with h1 | h1
      · exact h1
      · omega
    · rcases hf i hi with h1 | h1
      · exact h.fr i h1
      · exact .inr (Nat.le_trans h.up.size h1)
  · exact .inr ⟨h0, rfl, h.up.trans (Upd.of_below hb _)⟩
/-- jump, while seeking. -/
theorem jump_sk {W0 W : World} {B g gw gt gk : Nat} {a : Option Addr} {l c n p num T : Nat} {ls zs : List Int} {va : Value} {ka : Option Addr} {kl kc : Nat} {key : List Int} (E : SkE W0 g gw gt gk a zs T ka kl kc key) (h : SkW W0 W B g a l c n p num ls va) (i : Nat) (hi : i ≤ 100) (hl : zs.length = l) (hm : l ≤ 140737488351232) (hT : T + i * 2 + 1 < l) (z8 : B8 zs) :
    Calls Try.prog 71 #[.pointer (some ⟨g, 0, none⟩), .int .i64 (i : Int), .int .i64 (T : Int)] W fun e w' => e = .returned (.tuple #[]) ∧ SkW W0 w' B g a l c n (plc zs T i) (i * 8) [] (.slice none 0 0) := by
  refine (jump_any h.wk i T hl hm hT (by omega) (E.upd h.up).rz z8).mono ?_
  rintro e w' ⟨rfl, wk, hu⟩
  refine ⟨rfl, wk, B8.nil, by simp, by omega, h.up.trans hu, fun k hk => ?_⟩
  rcases hk with h1 | h1
  · exact .inl h1
  · cases h1

theorem run_fld (x y : Option Addr) (n c m d : Nat) (w : World) : (Instr.field 25 (.agg #[.slice x n c, .slice y m d]) 0).run Try.prog w = .ok (.slice x n c) w := by kernel_rfl

def skF (zs key : List Int) (T i : Nat) : Prop := 0 < cmpI (xKy [] zs (plc zs T i)) key
/-- What seek's closure tells. -/
def S1Post (W0 : World) (B g : Nat) (a : Option Addr) (l c n : Nat) (zs key : List Int) (T i : Nat) (e : Ending) (w' : World) : Prop :=
  (eE [] [] zs (plc zs T i) = 0 ∧ (∃ b : Bool, e = .returned (.bool b) ∧ (b = true ↔ skF zs key T i)) ∧ ∃ p num ls va, SkW W0 w' B g a l c n p num ls va) ∨ (eE [] [] zs (plc zs T i) ≠ 0 ∧ (∃ er q, e = fallen er q) ∧ Upd (fun i => i = g) W0 w')

set_option maxRecDepth 100000 in
set_option maxHeartbeats 1600000 in
theorem seek1_any {W0 W : World} {B g gw gt gk : Nat} {a : Option Addr} {l c n p num T : Nat} {ls zs : List Int} {va : Value} {ka : Option Addr} {kl kc : Nat} {key : List Int} (E : SkE W0 g gw gt gk a zs T ka kl kc key) (h : SkW W0 W B g a l c n p num ls va) (i : Nat) (hi : i ≤ 100) (hl : zs.length = l) (hm : l ≤ 140737488351232) (hcl : l ≤ c) (na : a = none → l = 0 ∧ c = 0) (hT : T + i * 2 + 1 < l) (z8 : B8 zs) (hk : key.length = kl) (k8 : B8 key) :
    Calls Try.prog 70 #[.int .i64 (i : Int), .pointer (some ⟨gw, 0, none⟩), .pointer (some ⟨gt, 0, none⟩), .pointer (some ⟨gk, 0, none⟩)] W (S1Post W0 B g a l c n zs key T i) := by
  have c1 := (E.upd h.up).ow.cell
  have c2 := (E.upd h.up).ot.cell
  have HJ := hide (jump_sk E h i hi hl hm hT z8)
  have HE := hide E
  have HNA := hide na
  have HP : Hid (∀ e w', S1Post W0 B g a l c n zs key T i e w' ↔ ((eE [] [] zs (plc zs T i) = 0 ∧ (∃ b : Bool, e = .returned (.bool b) ∧ (b = true ↔ skF zs key T i)) ∧ ∃ p num ls va, SkW W0 w' B g a l c n p num ls va) ∨ (eE [] [] zs (plc zs T i) ≠ 0 ∧ (∃ er q, e = fallen er q) ∧ Upd (fun i => i = g) W0 w'))) := fun _ _ => Iff.rfl
  unfold skF at HP
  clear E h na
  go_enter Try.func70, Try.ntmps70
  go_wp2_with fail
  refine HJ.out.mono ?_
  rintro e w1 ⟨rfl, s1⟩
  have S1 := hide s1
  clear s1 c1 c2
  generalize plc zs T i = p1 at *
  have HEN := hide (entry_sk HE.out (S1.out.drewN 1) (by omega) hl hm hcl HNA.out z8)
  rw [show (if i * 8 % 8 = 0 then ([] : List Int) else []) = [] from by simp] at HEN
  rw [show w1.drewN 1 = w1.drew from rfl] at HEN
  have c1 := (HE.out.upd S1.out.up).ow.cell
  have c3 := (HE.out.upd S1.out.up).ok.cell
  by_cases h0 : eE [] [] zs p1 = 0
  · have hx := x_back [] zs p1 z8 (eE_key h0)
    have HK8 := hide (xKy_b8 [] zs p1 B8.nil z8)
    have HEN2 : Hid (Calls Try.prog 54 #[.pointer (some ⟨g, 0, none⟩)] w1.drew fun e w' => ∃ ka' kc' va' vc' nV p' num' ls' vn, e = .returned (.agg #[.slice ka' (xKy [] zs p1).length kc', .slice va' nV vc']) ∧ Hid (Row w' .u8 ka' (xKy [] zs p1)) ∧ Hid (SkW W0 w' B g a l c n p' num' ls' vn) ∧ w'.cell? ⟨gw, 0, none⟩ = some (.pointer (some ⟨g, 0, none⟩)) ∧ w'.cell? ⟨gk, 0, none⟩ = some (.slice ka kl kc)) := by
      refine HEN.out.mono ?_
      rintro e w' (⟨_, ka', kc', va', vc', vn, rfl, ok, _, sk⟩ | ⟨h1, _⟩)
      · exact ⟨ka', kc', va', vc', _, _, _, _, vn, rfl, ok.row, sk, (HE.out.upd sk.up).ow.cell, (HE.out.upd sk.up).ok.cell⟩
      · exact absurd h0 h1
    clear HEN
    generalize xKy [] zs p1 = K at *
    obtain ⟨nK, hnK⟩ : ∃ nK, K.length = nK := ⟨_, rfl⟩
    rw [hnK] at HEN2 hx
    replace hnK := hide hnK
    replace hk := hide hk
    have HK8' := hide k8
    have hfd := run_fld
    go_wp2_with fail
    go_region_held3 (fun W => W.cell? ⟨gw, 0, none⟩ = some (.pointer (some ⟨g, 0, none⟩)) ∧ W.cell? ⟨gk, 0, none⟩ = some (.slice ka kl kc)) (go_keep) (first
      | (go_at_call 56; refine (compare_any ka' ka nK kc' kl kc K key w2 hnK.out hk.out RK.out (HE.out.upd SK.out.up).rk HK8.out HK8'.out).mono ?_; rintro e w3 ⟨rfl, rfl⟩)
      | (go_at_call 54; refine HEN2.out.mono ?_; rintro e w2 ⟨ka', kc', va', vc', nV, p', num', ls', vn, rfl, RK, SK, d1, d3⟩)
      | fail)
    have HF : Hid (S1Post W0 B g a l c n zs key T i (.returned (.bool (decide (0 < cmpI K key)))) w3) := (HP.out _ _).2 (.inl ⟨h0, ⟨_, rfl, by simp⟩, _, _, _, _, SK.out⟩)
    clear d1 d3
    generalize decide (0 < cmpI K key) = bb at *
    go_wp2_with fail
    go_ret
    exact HF.out
  · have HEN2 : Hid (Calls Try.prog 54 #[.pointer (some ⟨g, 0, none⟩)] w1.drew fun e w' => ∃ er q, e = fallen er q ∧ S1Post W0 B g a l c n zs key T i e w') := by
      refine HEN.out.mono ?_
      rintro e w' (⟨h1, _⟩ | ⟨_, rfl, hu⟩)
      · exact absurd h1 h0
      · exact ⟨_, _, rfl, (HP.out _ _).2 (.inr ⟨h0, ⟨_, _, rfl⟩, hu⟩)⟩
    clear HEN HP
    go_wp2_with fail
    go_region_dies
    all_goals
      refine HEN2.out.mono ?_
      rintro e w2 ⟨er, q, rfl, hs⟩
      exact ⟨rfl, hs⟩

end Go.Proofs.Ytgdpghfjbbieaaa
