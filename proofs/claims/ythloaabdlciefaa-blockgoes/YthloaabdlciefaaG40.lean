/- The document's Entries. -/
import Derived.Test.YthloaabdlciefaaG39
import Derived.Test.YthloaabdlciefaaG36
import Derived.Test.YthloaabdlciefaaG30
import Derived.Deep.DeepCutAuto
import Derived.Deep.CutBlock
namespace Go.Proofs.Ythloaabdlciefaa
open Go.RowKit

/-- append of one element onto a row of one's own, and where it lies then. -/
theorem app_lies {P : Program} {ops : Array Oper} {o : Oper} {rest : List Oper} {a : Act} {w : World} {Q : Exit → Act → World → Prop} (hgd : o.guard = none) (s x : Operand) (t : TypeId)
    (ho : o.op = .call { callee := .builtin .append, args := #[s, x], argTypes := #[t, t] })
    (base : Nat) (e : TypeId) (i : TypeInfo) (z : Value) (size bytes : Nat) (ht : P.underlying t = some (.slice e)) (hi : P.info? e = some i) (hz : i.zero = some z) (hsize : i.size = size) (hby : i.bytes = bytes) (hzs : z.cells.size = size) (hsz : 0 < size)
    (v : Value) (n : Nat) (xs : List Value) (hs : a.eval s = v) (hown : w.ownsRow base e size v n xs)
    (ad : Addr) (c : Nat) (news : List Value) (hx : a.eval x = .slice (some ad) 1 c) (hl : news.length = size) (hnews : ∀ j u, news[j]? = some u → w.cell? (ad.add j) = some u) (h1 : ∀ u ∈ news, u.oneCell' = true)
    (hn : n ≤ 1000) (hb : bytes ≤ 1000) (hbase : base ≤ w.heap.size)
    (h : ∀ g cap w', w'.ownsRow base e size (.slice (some ⟨g, 0, none⟩) (n + 1) cap) (n + 1) (xs ++ news) → w.grownBy w' v.ownBlock → (v.ownBlock = some g ∨ w.heap.size ≤ g) → wpList P ops Q rest (a.put o.dst (.slice (some ⟨g, 0, none⟩) (n + 1) cap)) w') : wpList P ops Q (o :: rest) a w := by
  have hw : Region.wanted o (yielded ops a.tmps) = true := by simp [Region.wanted, hgd]
  have hbb : (n + 1) * bytes ≤ 1001 * 1000 := Nat.mul_le_mul (by omega) hb
  have h0 := step_append_lies (P := P) w (ops := ops) (K := wpList P ops Q rest) (Q := Q) (E := True) hgd s x t ho base e i z size bytes ht hi hz hsize hby hzs hsz v n xs hs hown ad 1 c news hx (by omega) hnews h1 (by omega) (by unfold maxLen; omega) (by omega) hbase w.heap.size rfl
    (fun g cap w' q1 q2 q3 _ => h g cap w' q1 q2 (q3.imp id (fun e => by omega)))
  rw [if_pos hw] at h0
  rw [wpList, if_pos hw]
  exact .inl h0
theorem infoI : (Try.prog.info? 3).map (fun i => (i.zero, i.size, i.bytes)) = some (some (.int .i64 0), 1, 8) := by kernel_rfl

def psV (ps : List Nat) : List Value := ps.map fun (p : Nat) => Value.int .i64 (p : Int)
/-- Entries as the document has them: two rows of one's own, apart from the keys and values. -/
structure EnI (w W : World) (s : RS) (Es : List Ent) (v1 v2 : Value) : Prop where
  o1 : W.ownsRow w.heap.size 25 2 v1 Es.length (cellsOf Es)
  o2 : W.ownsRow w.heap.size 3 1 v2 s.ps.length (psV s.ps)
  kv : kvs Es = s.l
  ok : ∀ i (h : i < Es.length), Es[i].Ok W
  sep : ∀ i (h : i < Es.length) x, (Es[i].ka = some x ∧ 0 < Es[i].ks.length) ∨ (Es[i].va = some x ∧ 0 < Es[i].vs.length) → v1.ownBlock ≠ some x.block ∧ v2.ownBlock ≠ some x.block
  d : ∀ b, v1.ownBlock = some b → v2.ownBlock ≠ some b
  bel : Below w.heap.size w W
  loc : ∀ i (h : i < Es.length) x, (Es[i].ka = some x ∧ 0 < Es[i].ks.length) ∨ (Es[i].va = some x ∧ 0 < Es[i].vs.length) → w.heap.size ≤ x.block
theorem own_upd2 {S : Nat → Prop} {w w' : World} {base size : Nat} {e : TypeId} {v : Value} {n : Nat} {xs : List Value} (h : w.ownsRow base e size v n xs) (hb : Upd S w w') (hs : ∀ k, v.ownBlock = some k → ¬ S k) : w'.ownsRow base e size v n xs := by
  refine ⟨h.1, ?_⟩
  rcases h.2 with h1 | ⟨g, cap, cur, h1, h2, h3, h4⟩
  · exact .inl h1
  · exact .inr ⟨g, cap, cur, h1, h2, hb.heap h3 (hs g (by rw [h1]; rfl)), h4⟩
theorem EnI.below {w W W' : World} {s : RS} {Es : List Ent} {v1 v2 : Value} (h : EnI w W s Es v1 v2) (hb : Below W.heap.size W W') : EnI w W' s Es v1 v2 :=
  ⟨own_upd2 h.o1 (Upd.of_below hb Noth) (fun _ _ e => e), own_upd2 h.o2 (Upd.of_below hb Noth) (fun _ _ e => e), h.kv, fun i hi => (h.ok i hi).below hb, h.sep, h.d, h.bel.trans (hb.mono h.bel.size), h.loc⟩
theorem row_lt {w : World} {k : IntKind} {a : Option Addr} {zs : List Int} (h : Row w k a zs) {x : Addr} (hx : a = some x) (hp : 0 < zs.length) : x.block < w.heap.size := by
  obtain ⟨b, o, h1, h2, _⟩ := h.cons hp
  rw [hx] at h1
  cases h1
  exact h2
/-- The list of entries as such. -/
theorem EnI.ens {w W : World} {s : RS} {Es : List Ent} {v1 v2 : Value} (h : EnI w W s Es v1 v2) : ∃ a b c, v1 = .slice a Es.length c ∧ (0 < Es.length → a = some ⟨b, 0, none⟩) ∧ Ens W b 0 Es ∧ (a = none → Es.length = 0 ∧ c = 0) := by
  by_cases h0 : 0 < Es.length
  · obtain ⟨g, cap, rfl, _⟩ := owns2_slice h.o1 h0
    have hc := h.o1.cells (g := g) rfl
    refine ⟨_, g, cap, rfl, fun _ => rfl, ⟨fun i hi => ?_, fun i hi => ?_, h.ok⟩, fun h => by cases h⟩
    · have := hc _ _ (cellsOf_get Es i hi).1
      rwa [Addr.add_lit] at this
    · have := hc _ _ (cellsOf_get Es i hi).2
      rwa [Addr.add_lit, ← Nat.add_assoc] at this
  · have h1 : Es.length = 0 := by omega
    rcases h.o1.2 with ⟨hv, _⟩ | ⟨g, cap, cur, hv, _⟩
    · exact ⟨none, 0, 0, by rw [hv, h1], fun h => absurd h h0, ⟨fun i hi => absurd hi (by omega), fun i hi => absurd hi (by omega), fun i hi => absurd hi (by omega)⟩, fun _ => ⟨h1, rfl⟩⟩
    · exact ⟨_, g, cap, by rw [hv], fun h => absurd h h0, ⟨fun i hi => absurd hi (by omega), fun i hi => absurd hi (by omega), fun i hi => absurd hi (by omega)⟩, fun h => by cases h⟩
/-- What Entries reads. -/
def entS (zs : List Int) : RS := if er zs 0 ≠ 0 then ⟨[], [], 0, er zs 0, nx zs 0⟩ else if nm zs 0 < 1 ∨ 64 < nm zs 0 then ⟨[], [], 0, 61, 0⟩ else rrun zs (nx zs 0) (nm zs 0)
def REnt (w : World) (zs : List Int) (e : Ending) (w' : World) : Prop :=
  ∃ Es v1 v2, e = .returned (.tuple #[v1, v2, .int .i64 ((entS zs).p : Nat), .int .i64 (entS zs).e, .int .i64 ((entS zs).q : Nat)]) ∧ EnI w w' (entS zs) Es v1 v2
theorem EnI.none {w W : World} {s : RS} (hb : Below w.heap.size w W) (hs : s.l = []) (hp : s.ps = []) : EnI w W s [] (.slice none 0 0) (.slice none 0 0) :=
  ⟨World.ownsRow_nil _ _ _ _, by rw [hp]; exact World.ownsRow_nil _ _ _ _, by rw [hs]; rfl, fun i h => absurd h (Nat.not_lt_zero i), fun i h => absurd h (Nat.not_lt_zero i), (fun b h => by cases h), hb, fun i h => absurd h (Nat.not_lt_zero i)⟩

theorem dec_neg (cv : Int) : decide (¬ cv < 0) = decide (0 ≤ cv) := by
  by_cases h : cv < 0
  · rw [decide_eq_false (by omega), decide_eq_false (by omega)]
  · rw [decide_eq_true h, decide_eq_true (by omega)]
theorem drewN_drewN (w : World) (q m : Nat) : (w.drewN q).drewN m = w.drewN (q + m) := by simp [World.drewN, Nat.add_assoc]
theorem cellsOf_one (Es : List Ent) (e : Ent) : cellsOf (Es ++ [e]) = cellsOf Es ++ [e.kv, e.vv] := by rw [cellsOf_app]; rfl
theorem psV_one (ps : List Nat) (p : Nat) : psV (ps ++ [p]) = psV ps ++ [.int .i64 (p : Int)] := by simp [psV]

/-- An entry is put behind, and its place. -/
theorem EnI.next {w W w5 w6 : World} {s : RS} {Es : List Ent} {v1 v2 v1' v2' : Value} {en : Ent} {pl : Nat} (h : EnI w W s Es v1 v2) (hok : en.Ok W) (hloc : ∀ x, (en.ka = some x ∧ 0 < en.ks.length) ∨ (en.va = some x ∧ 0 < en.vs.length) → v1.ownBlock ≠ some x.block ∧ v2.ownBlock ≠ some x.block) (hnew : ∀ x, (en.ka = some x ∧ 0 < en.ks.length) ∨ (en.va = some x ∧ 0 < en.vs.length) → w.heap.size ≤ x.block)
    (o1 : w5.ownsRow w.heap.size 25 2 v1' (Es.length + 1) (cellsOf Es ++ [en.kv, en.vv])) (g1 : W.grownBy w5 v1.ownBlock) (k1 : ∀ b, v1'.ownBlock = some b → v1.ownBlock = some b ∨ W.heap.size ≤ b)
    (o2 : w6.ownsRow w.heap.size 3 1 v2' (s.ps.length + 1) (psV s.ps ++ [.int .i64 (s.p : Int)])) (g2 : w5.grownBy w6 v2.ownBlock) (k2 : ∀ b, v2'.ownBlock = some b → v2.ownBlock = some b ∨ w5.heap.size ≤ b) :
    EnI w w6 ⟨s.l ++ [(en.ks, en.vs)], s.ps ++ [s.p], pl, 0, 0⟩ (Es ++ [en]) v1' v2' := by
  have u1 : Upd (fun i => v1.ownBlock = some i) W w5 := Upd.of_grown g1 (fun k hk _ => hk)
  have u2 : Upd (fun i => v2.ownBlock = some i) w5 w6 := Upd.of_grown g2 (fun k hk _ => hk)
  have hz := u1.size
  have hd1 : ∀ b, v1'.ownBlock = some b → v2.ownBlock ≠ some b := fun b hb e => (k1 b hb).elim (fun h1 => h.d b h1 e) (fun h1 => by have := (h.o2.lt b e).2; omega)
  have hlast : ∀ i (hi : i < (Es ++ [en]).length), (∃ h' : i < Es.length, (Es ++ [en])[i] = Es[i]) ∨ (Es ++ [en])[i] = en := fun i hi => by
    by_cases h' : i < Es.length
    · exact .inl ⟨h', List.getElem_append_left h'⟩
    · refine .inr ?_
      rw [List.getElem_append_right (by omega)]
      simp
  have hall : ∀ i (hi : i < (Es ++ [en]).length), (Es ++ [en])[i].Ok W ∧ ∀ x, ((Es ++ [en])[i].ka = some x ∧ 0 < (Es ++ [en])[i].ks.length) ∨ ((Es ++ [en])[i].va = some x ∧ 0 < (Es ++ [en])[i].vs.length) → v1.ownBlock ≠ some x.block ∧ v2.ownBlock ≠ some x.block := fun i hi => by
    rcases hlast i hi with ⟨h', e⟩ | e
    · rw [e]; exact ⟨h.ok i h', h.sep i h'⟩
    · rw [e]; exact ⟨hok, hloc⟩
  have hlt : ∀ i (hi : i < (Es ++ [en]).length) x, ((Es ++ [en])[i].ka = some x ∧ 0 < (Es ++ [en])[i].ks.length) ∨ ((Es ++ [en])[i].va = some x ∧ 0 < (Es ++ [en])[i].vs.length) → x.block < W.heap.size := fun i hi x hx => by
    rcases hx with ⟨h1, h2⟩ | ⟨h1, h2⟩
    · exact row_lt (hall i hi).1.k h1 h2
    · exact row_lt (hall i hi).1.v h1 h2
  refine ⟨?_, ?_, ?_, fun i hi => ?_, fun i hi x hx => ?_, fun b hb e => ?_, ?_, fun i hi => ?_⟩
  · rw [cellsOf_one, List.length_append, List.length_singleton]
    exact own_upd2 o1 u2 (fun b hb => hd1 b hb)
  · simp only [List.length_append, List.length_singleton]
    rw [psV_one]
    exact o2
  · simp only [kvs, List.map_append, List.map_cons, List.map_nil]
    rw [← h.kv]; rfl
  · refine (((hall i hi).1.upd u1 (fun x hx h0 => ((hall i hi).2 x (.inl ⟨hx, h0⟩)).1) (fun x hx h0 => ((hall i hi).2 x (.inr ⟨hx, h0⟩)).1))).upd u2 (fun x hx h0 => ((hall i hi).2 x (.inl ⟨hx, h0⟩)).2) (fun x hx h0 => ((hall i hi).2 x (.inr ⟨hx, h0⟩)).2)
  · have h1 := hlt i hi x hx
    have h2 := (hall i hi).2 x hx
    exact ⟨fun e => (k1 _ e).elim h2.1 (fun h3 => by omega), fun e => (k2 _ e).elim h2.2 (fun h3 => by omega)⟩
  · exact (k2 b e).elim (fun h3 => hd1 b hb h3) (fun h3 => by have := (o1.lt b hb).2; omega)
  · have hb5 := h.bel.grown g1 h.bel.size (fun k hk => (h.o1.lt k hk).1)
    exact hb5.grown g2 hb5.size (fun k hk => (h.o2.lt k hk).1)
  · rcases hlast i hi with ⟨h', e⟩ | e
    · rw [e]; exact h.loc i h'
    · rw [e]; exact hnew

set_option maxRecDepth 100000 in
set_option maxHeartbeats 3200000 in
theorem rentries_any (a : Option Addr) (l c : Nat) (zs : List Int) (w : World) (hl : zs.length = l) (hm : l ≤ 140737488351232) (hcl : l ≤ c) (na : a = none → l = 0 ∧ c = 0) (hr : Row w .u8 a zs) (z8 : B8 zs) :
    Calls Try.prog 24 #[.slice a l c] w (REnt w zs) := by
  obtain ⟨iE, hiE, hzE0, hzE1, hzE2⟩ := info_parts infoE
  obtain ⟨iI, hiI, hzI0, hzI1, hzI2⟩ := info_parts infoI
  obtain ⟨q1, q2, q3, q4, q5, q6⟩ := rd_at zs 0 z8 (Nat.zero_le _)
  have HR := hide (rread_any a l c 0 zs w hl (by unfold maxLen; omega) hr (b8_fits z8))
  rw [show ((0 : Nat) : Int) = 0 from rfl] at q1 q2 q3
  rw [q1, q2, q3] at HR
  have HRW := hide (fun (W : World) (h : Below w.heap.size w W) => hr.below2 h)
  have HNA := hide na
  have HP : Hid (∀ e w', REnt w zs e w' ↔ ∃ Es v1 v2, e = .returned (.tuple #[v1, v2, .int .i64 ((entS zs).p : Nat), .int .i64 (entS zs).e, .int .i64 ((entS zs).q : Nat)]) ∧ EnI w w' (entS zs) Es v1 v2) := fun _ _ => Iff.rfl
  have HS : Hid (entS zs = if er zs 0 ≠ 0 then ⟨[], [], 0, er zs 0, nx zs 0⟩ else if nm zs 0 < 1 ∨ 64 < nm zs 0 then ⟨[], [], 0, 61, 0⟩ else rrun zs (nx zs 0) (nm zs 0)) := rfl
  have hx0 : nx zs 0 ≤ zs.length := q4
  generalize entS zs = S at *
  generalize nm zs 0 = n at *
  generalize nx zs 0 = x0 at *
  generalize er zs 0 = r at *
  have HINV := hide (fun k (hk : k ≤ 64) => rinv z8 hx0 k hk)
  clear q1 q2 q3 q4 hr na
  go_enter Try.func24, Try.ntmps24
  go_wp2_with fail
  refine keep HR.out ?_
  by_cases hr0 : r = 0
  · subst hr0
    by_cases hn : n < 1 ∨ 64 < n
    · have HF : Hid (REnt w zs (.returned (.tuple #[.slice none 0 0, .slice none 0 0, .int .i64 0, .int .i64 61, .int .i64 0])) w) := by
        have hS := HS.out
        rw [if_neg (by simp), if_pos hn] at hS
        subst hS
        exact (HP.out _ _).2 ⟨[], _, _, rfl, EnI.none (Below.refl _ _) rfl rfl⟩
      rcases hn with hn | hn
      · have h1 : (n : Int) < 1 := by omega
        go_wp2_with fail
        exact bodyPost_ret (v := .tuple #[.slice none 0 0, .slice none 0 0, .int .i64 0, .int .i64 61, .int .i64 0]) (by simp [results, Try.results24, go_sem]) rfl HF.out
      · have h1 : ¬ (n : Int) < 1 := by omega
        have h2 : (64 : Int) < (n : Int) := by omega
        go_wp2_with fail
        exact bodyPost_ret (v := .tuple #[.slice none 0 0, .slice none 0 0, .int .i64 0, .int .i64 61, .int .i64 0]) (by simp [results, Try.results24, go_sem]) rfl HF.out
    · have h1 : ¬ (n : Int) < 1 := by omega
      have h2 : ¬ (64 : Int) < (n : Int) := by omega
      have hw : IntKind.i64.wrap (n : Int) = (n : Int) := by rw [IntKind.wrap_i64]; omega
      have HSn : Hid (S = rrun zs x0 n) := by
        have hS := HS.out
        rw [if_neg (by simp), if_neg hn] at hS
        exact hS
      have H0 : Hid (EnI w w (rrun zs x0 0) [] (.slice none 0 0) (.slice none 0 0)) := EnI.none (Below.refl _ _) rfl rfl
      have hd1 : decide ((n : Int) < 1) = false := decide_eq_false h1
      have hd2 : decide ((64 : Int) < (n : Int)) = false := decide_eq_false h2
      go_wp2_with fail
      clear hd1 hd2
      go_loopw [8, 10, 11, 12] (fun q8 q10 q11 q12 wr => ∃ (k : Nat) (Es : List Ent) (a1 : Option Addr) (c1 : Nat) (a2 : Option Addr) (c2 : Nat), k ≤ n ∧ q8 = .int .i64 ((rrun zs x0 k).p : Nat) ∧ q10 = .slice a1 k c1 ∧ q11 = .slice a2 k c2 ∧ q12 = .int .i64 (k : Int) ∧ Hid ((rrun zs x0 k).e = 0) ∧ Hid (EnI w wr (rrun zs x0 k) Es (.slice a1 k c1) (.slice a2 k c2))) (fun _ _ _ q _ => n - (intOf q).toNat)
      case atStart => exact ⟨0, [], none, 0, none, 0, Nat.zero_le _, rfl, rfl, rfl, rfl, rfl, H0⟩
      case round =>
        clear H0 HR
        obtain ⟨k, Es, a1, c1, a2, c2, hk, rfl, rfl, rfl, rfl, HE0, HI⟩ := hrel
        obtain ⟨hinv, hlk, _⟩ := HINV.out k (by omega)
        have hlk' := hlk HE0.out
        have hpz := hinv.p
        have hps := hinv.ps
        have hgood := hinv.good (by omega)
        have hq0 := hinv.e0 HE0.out
        obtain ⟨s, hs⟩ : ∃ s, s = rrun zs x0 k := ⟨_, rfl⟩
        have HSS := hide hs
        rw [← hs] at HE0 HI hlk' hpz hps hgood hq0
        rw [← hs]
        have HLK := hide hlk'
        have HPS : Hid (s.ps.length = k) := hide (by rw [hps, hlk'])
        have HGD := hide hgood
        have hEs : Es.length = k := by rw [← kvs_len, HI.out.kv, hlk']
        clear hinv hlk hs hps hgood hlk'
        by_cases hlt : k < n
        · have i1 : (k : Int) < (n : Int) := by omega
          obtain ⟨a1', b1, c1', hv1, ha1, hEn, hn1⟩ := HI.out.ens
          rw [hEs] at hv1 ha1 hn1
          cases hv1
          obtain ⟨pa, pc, hpr, hpn, hpcl, _, HPV⟩ := rprev_any a1 b1 0 k c1 k Es wr hEs (by omega) ha1 hEn (Nat.le_refl _)
          have hpx : pvOf (kvs Es) k = pvS s.l := by rw [HI.out.kv, pvS_eq, HLK.out]
          rw [hpx] at hpr hpn hpcl HPV
          obtain ⟨px, hpx'⟩ : ∃ px, px = pvS s.l := ⟨_, rfl⟩
          have hpx64 : px.length ≤ 64 := by rw [hpx', pvS_eq]; exact HGD.out.pvl _ (Nat.le_refl _)
          have p8 : B8 px := by rw [hpx', pvS_eq]; exact HGD.out.pv8 _ (Nat.le_refl _)
          rw [← hpx'] at hpr hpn hpcl HPV
          obtain ⟨np, hnp⟩ : ∃ np, px.length = np := ⟨_, rfl⟩
          rw [hnp] at hpn hpcl HPV hpx64
          have HPV1 := hide (HPV wr (Below.refl _ _))
          have HRD := hide (rrd_in pa a np pc l c s.p px zs wr hnp hl (by omega) (by omega) hpcl hcl (by omega) hpr (HRW.out wr HI.out.bel) z8 hpn HNA.out)
          have HX := hide (trip_back zs px s.p z8 hpz)
          have HK8 := hide (rKy_b8 px zs s.p p8 z8)
          have HV8 := hide (rVl_b8 px zs s.p z8)
          have hbad := hide (fun he => rstp_bad (zs := zs) (s := s) HE0.out he)
          have hord := hide (fun he hc => rstp_ord (zs := zs) (s := s) HE0.out he hc)
          have hokk := hide (fun he hc => rstp_ok (zs := zs) (s := s) HE0.out he hc)
          rw [← hpx'] at hbad hord hokk
          have HR1 : Hid (rrun zs x0 (k + 1) = rstp zs s) := by show _ = _; rw [rrun, HSS.out]
          have HST : Hid ((rstp zs s).e ≠ 0 → S = rstp zs s) := fun he => by
            have h1 : (rrun zs x0 (k + 1)).e ≠ 0 := by rw [HR1.out]; exact he
            obtain ⟨j, hj⟩ : ∃ j, n = k + 1 + j := ⟨n - (k + 1), by omega⟩
            rw [HSn.out, hj, rrun_stays zs x0 (k + 1) h1 j, HR1.out]
          clear hpr hpn HPV hpx hpx' hnp
          generalize rKy px zs s.p = K at *
          generalize rVl px zs s.p = V at *
          generalize rPl px zs s.p = pl at *
          generalize rEr px zs s.p = er at *
          obtain ⟨nK, hnK⟩ : ∃ x, K.length = x := ⟨_, rfl⟩
          obtain ⟨nV, hnV⟩ : ∃ x, V.length = x := ⟨_, rfl⟩
          have HEn := hide hEn
          have HA1 := hide ha1
          have HV12 : Hid (∀ b, (Value.slice a1 k c1).ownBlock = some b ∨ (Value.slice a2 k c2).ownBlock = some b → b < wr.heap.size) := fun b hb => hb.elim (fun h => (HI.out.o1.lt b h).2) (fun h => (HI.out.o2.lt b h).2)
          have HWR : Hid (w.heap.size ≤ wr.heap.size) := HI.out.bel.size
          clear hEn ha1 hn1
          go_wp2_with fail
          refine keep HPV1.out ?_
          go_wp2_with fail
          refine HRD.out.mono ?_
          rintro e w2 ⟨ka, kc, va, vc, rfl, hrk, hrv, hb2, lk, lv⟩
          rw [hnK] at lk
          rw [hnV] at lv
          rw [hnK, hnV]
          have hb3 : Below w2.heap.size w2 (w2.alloc (.cells #[.slice ka nK kc, .slice va nV vc] 25)) := (Below.refl _ _).alloc (Nat.le_refl _) _
          have hb23 : Below wr.heap.size wr (w2.alloc (.cells #[.slice ka nK kc, .slice va nV vc] 25)) := hb2.trans (hb3.mono hb2.size)
          have HI3 := hide (HI.out.below hb23)
          have HY := hide (two_new2 w2 (.slice ka nK kc) (.slice va nV vc) 25)
          have RK3 := hide (hrk.below2 hb3)
          have RV3 := hide (hrv.below2 hb3)
          have EN3 := hide (HEn.out.below hb23)
          have LK := hide lk
          have LV := hide lv
          have hsz3 : (w2.alloc (.cells #[.slice ka nK kc, .slice va nV vc] 25)).heap.size = w2.heap.size + 1 := by simp
          have SZ3 := hide hsz3
          have hz12 := hb2.size
          clear hrk hrv hb3 hb23 hb2 HRD HPV1 HI HEn lk lv hsz3
          obtain ⟨gx, hgx⟩ : ∃ gx, gx = w2.heap.size := ⟨_, rfl⟩
          rw [← hgx] at HY SZ3 hz12
          by_cases he : er = 0
          · subst he
            obtain ⟨x1, x2, x3, x4, x5, _⟩ := HX.out rfl
            rw [hnK] at x1 x2
            rw [hnV] at x3
            obtain ⟨cv, hcv⟩ : ∃ cv, cv = cmpI (ahd s.l) K := ⟨_, rfl⟩
            rw [← hcv] at hord hokk
            have y0 := HY.out.1
            have y1 := HY.out.2
            have HCV := hide hcv
            have hk8 := HK8.out
            clear HX
            go_upto_region 14 with fail
            rw [← hgx]
            replace hgx := hide hgx
            generalize w2.alloc (.cells #[.slice ka nK kc, .slice va nV vc] 25) = w3 at *
            go_cut [68] (fun s68 wx => s68 = .bool (decide (¬ cv < 0)) ∧ Hid (Below w3.heap.size w3 wx))
            case first =>
              by_cases hk0 : k = 0
              · subst hk0
                have hl0 : s.l = [] := List.eq_nil_of_length_eq_zero HLK.out
                have hcn : cv < 0 := by
                  rw [hcv, hl0, ahd_nil]
                  cases hK : K with
                  | nil => rw [hK] at hnK; simp at hnK; omega
                  | cons x y => rw [cmpI_nil_cons]; decide
                have hdd : Hid (decide (¬ cv < 0) = false) := decide_eq_false (by omega)
                clear hcv
                go_quiet (fail)
                go_wp2_with fail
                go_meet
                exact ⟨by rw [hdd.out], below_of_drewN (Below.refl _ _) _⟩
              · obtain ⟨j, rfl⟩ : ∃ j, k = j + 1 := ⟨k - 1, by omega⟩
                have hjE : j < Es.length := by omega
                have d0 := EN3.out.at0 j hjE
                have okj := hide (EN3.out.ok j hjE)
                have hah : ahd s.l = Es[j].ks := by
                  unfold ahd
                  rw [HLK.out, ← HI3.out.kv, Nat.add_sub_cancel, kvs_ky Es j hjE]
                rw [hah] at hcv
                obtain rfl := HA1.out (by omega)
                unfold Ent.kv at d0
                simp only [Nat.zero_add] at d0
                generalize Es[j] = en at *
                have HCM : Hid (∀ q, Calls Try.prog 49 #[.slice en.ka en.ks.length en.kc, .slice ka nK kc] (w3.drewN q) fun e w' => e = .returned (.int .i64 cv) ∧ ∃ m, w' = w3.drewN m) := fun q => by
                  rw [hcv]
                  refine (rcompare_any en.ka ka en.ks.length en.kc nK kc en.ks K (w3.drewN q) (by have := okj.out.zk; unfold maxLen; omega) (by unfold maxLen; omega) rfl hnK (show Row w3 .u8 _ _ from okj.out.k) (show Row w3 .u8 _ _ from RK3.out)).mono ?_
                  rintro e w' ⟨rfl, m, rfl⟩
                  exact ⟨rfl, _, drewN_drewN w3 q m⟩
                have hw1 : IntKind.i64.wrap ((j : Int) + 1 - 1) = (j : Int) := by rw [IntKind.wrap_i64]; omega
                have hw2 : IntKind.i64.wrap (((j + 1 : Nat) : Int) - 1) = (j : Int) := by rw [IntKind.wrap_i64]; omega
                have hw3 : IntKind.i64.wrap (j : Int) = (j : Int) := by rw [IntKind.wrap_i64]; omega
                have i2 : (j : Int) < (j : Int) + 1 := by omega
                have i3 : (0 : Int) < (j : Int) + 1 := by omega
                have i4 : (0 : Int) ≤ (j : Int) := by omega
                clear hcv hah
                go_quiet ((go_at_call 49; with_reducible exact HCM.out _))
                go_wp2_with fail
                go_meet
                exact ⟨rfl, below_of_drewN (Below.refl _ _) _⟩
            case rest =>
            obtain ⟨rfl, HB4⟩ := hcut
            rename World => w4
            have HI4 := hide (HI3.out.below HB4.out)
            have RK4 := hide (RK3.out.below2 HB4.out)
            have RV4 := hide (RV3.out.below2 HB4.out)
            have hz4 := HB4.out.size
            have hg3 : gx < w3.heap.size := by have := SZ3.out; omega
            have z0 := (HB4.out.cell (p := ⟨gx, 0, none⟩) hg3).trans y0
            have z1 := (HB4.out.cell (p := ⟨gx, 1, none⟩) hg3).trans y1
            clear HI3 RK3 RV3 EN3 y0 y1
            by_cases hcn : cv < 0
            · rw [decide_eq_false (by omega)]
              have HRR : Hid (rrun zs x0 (k + 1) = ⟨s.l ++ [(K, V)], s.ps ++ [s.p], pl, 0, 0⟩) := by show _ = _; rw [HR1.out]; exact hokk.out (by trivial) hcn
              have hokE : Ent.Ok w4 ⟨ka, kc, K, va, vc, V⟩ := ⟨RK4.out, RV4.out, fun h => by rw [show (⟨ka, kc, K, va, vc, V⟩ : Ent).ks.length = nK from hnK]; exact LK.out.1 h, fun h => by rw [show (⟨ka, kc, K, va, vc, V⟩ : Ent).vs.length = nV from hnV]; exact LV.out.1 h, by rw [show (⟨ka, kc, K, va, vc, V⟩ : Ent).ks.length = nK from hnK]; exact LK.out.2.1, by rw [show (⟨ka, kc, K, va, vc, V⟩ : Ent).vs.length = nV from hnV]; exact LV.out.2.1, HK8.out, HV8.out, by show K.length ≤ _; omega, by show V.length ≤ _; omega⟩
              have HOK := hide hokE
              have HLC : Hid (∀ x, (ka = some x ∧ 0 < K.length) ∨ (va = some x ∧ 0 < V.length) → wr.heap.size ≤ x.block) := fun x hx => by
                rcases hx with ⟨h1, _⟩ | ⟨h1, _⟩
                · exact LK.out.2.2 x h1
                · exact LV.out.2.2 x h1
              have hv12 : Hid (∀ b, (Value.slice a1 k c1).ownBlock = some b ∨ (Value.slice a2 k c2).ownBlock = some b → b < wr.heap.size) := HV12
              have hb5 : Below w4.heap.size w4 (w4.alloc (.cells #[.slice ka nK kc, .slice va nV vc] 25)) := (Below.refl _ _).alloc (Nat.le_refl _) _
              have HI5 := hide (HI4.out.below hb5)
              have HOK5 := hide (HOK.out.below hb5)
              have HB5 : Hid (w.heap.size ≤ (w4.alloc (.cells #[.slice ka nK kc, .slice va nV vc] 25)).heap.size) := HI5.out.bel.size
              have NW := hide (two_new w4 (.slice ka nK kc) (.slice va nV vc) 25)
              have hO1 : (w4.alloc (.cells #[.slice ka nK kc, .slice va nV vc] 25)).ownsRow w.heap.size 25 2 (.slice a1 k c1) k (cellsOf Es) := by have := HI5.out.o1; rw [hEs] at this; exact this
              have HO1 := hide hO1
              have hloc : Hid (∀ x, (ka = some x ∧ 0 < K.length) ∨ (va = some x ∧ 0 < V.length) → (Value.slice a1 k c1).ownBlock ≠ some x.block ∧ (Value.slice a2 k c2).ownBlock ≠ some x.block) := fun x hx => by
                have h1 := HLC.out x hx
                exact ⟨fun e => by have := HV12.out _ (.inl e); omega, fun e => by have := HV12.out _ (.inr e); omega⟩
              clear hokE hb5 hO1 HI4 HOK RK4 RV4 hv12
              go_upto_region 17 with (first
                | (at_builtin; refine app_lies rfl (.tmp 73) (.tmp 75) 26 rfl w.heap.size 25 iE (.agg #[.slice none 0 0, .slice none 0 0]) 2 48 Try.underlying26 hiE hzE0 hzE1 hzE2 rfl (by decide) (.slice a1 k c1) k (cellsOf Es) rfl HO1.out ⟨w4.heap.size, 0, none⟩ 1 [.slice ka nK kc, .slice va nV vc] rfl rfl NW.out (by intro u hu; simp at hu; rcases hu with rfl | rfl <;> rfl) (by omega) (by omega) HB5.out ?_; intro g6 c6 w6 o6 gr6 k6; have O6 := hide o6; have GR6 := hide gr6; have K6 := hide k6; clear o6 gr6 k6)
                | fail)
              have U6 : Hid (Upd (fun i => (Value.slice a1 k c1).ownBlock = some i) (w4.alloc (.cells #[.slice ka nK kc, .slice va nV vc] 25)) w6) := Upd.of_grown GR6.out (fun k hk _ => hk)
              have hO2 : (w6.alloc (.cells #[.int .i64 (s.p : Int)] 3)).ownsRow w.heap.size 3 1 (.slice a2 k c2) k (psV s.ps) := by
                have h1 := HI5.out.o2
                rw [HPS.out] at h1
                exact own_upd2 (own_upd2 h1 U6.out (fun b hb e => HI5.out.d b e hb)) (Upd.of_below ((Below.refl _ _).alloc (Nat.le_refl _) _) Noth) (fun _ _ e => e)
              have HO2 := hide hO2
              have HB6 : Hid (w.heap.size ≤ (w6.alloc (.cells #[.int .i64 (s.p : Int)] 3)).heap.size) := by have h1 := U6.out.size; have h2 := HB5.out; show _ ≤ _; simp at *; omega
              have NW2 := hide (one_cell w6 (.int .i64 (s.p : Int)) 3)
              clear hO2
              go_wp2_with (first
                | (at_builtin; refine app_lies rfl (.tmp 77) (.tmp 79) 46 rfl w.heap.size 3 iI (.int .i64 0) 1 8 Try.underlying46 hiI hzI0 hzI1 hzI2 rfl (by decide) (.slice a2 k c2) k (psV s.ps) rfl HO2.out ⟨w6.heap.size, 0, none⟩ 1 [.int .i64 (s.p : Int)] rfl rfl NW2.out (by intro u hu; simp at hu; rw [hu]; rfl) (by omega) (by omega) HB6.out ?_; intro g7 c7 w7 o7 gr7 k7; have O7 := hide o7; have GR7 := hide gr7; have K7 := hide k7; clear o7 gr7 k7)
                | fail)
              have HNEW : Hid (EnI w w7 (rrun zs x0 (k + 1)) (Es ++ [⟨ka, kc, K, va, vc, V⟩]) (.slice (some ⟨g6, 0, none⟩) (k + 1) c6) (.slice (some ⟨g7, 0, none⟩) (k + 1) c7)) := by
                rw [HRR.out]
                refine HI5.out.next (w5 := w6) HOK5.out hloc.out (fun x hx => Nat.le_trans HWR.out (HLC.out x hx)) ?_ GR6.out (fun b hb => K6.out.imp (fun h => by rw [h]; exact hb) (fun h => by cases hb; exact h)) ?_ (grown_alloc_then (grownBy_refl _ _) GR7.out) (fun b hb => K7.out.imp (fun h => by rw [h]; exact hb) (fun h => by cases hb; have h' : (w6.alloc _).heap.size ≤ g7 := h; simp at h'; show w6.heap.size ≤ g7; omega))
                · rw [hEs]
                  have : [(⟨ka, kc, K, va, vc, V⟩ : Ent).kv, (⟨ka, kc, K, va, vc, V⟩ : Ent).vv] = [.slice ka nK kc, .slice va nV vc] := by unfold Ent.kv Ent.vv; rw [hnK, hnV]
                  rw [this]; exact O6.out
                · rw [HPS.out]; exact O7.out
              have hE' : Hid ((rrun zs x0 (k + 1)).e = 0) := by show _ = _; rw [HRR.out]
              have hP' : Hid (((rrun zs x0 (k + 1)).p : Int) = (pl : Int)) := by show _ = _; rw [HRR.out]
              go_wp2_with fail
              go_roundw
              case rel => exact ⟨k + 1, _, some ⟨g6, 0, none⟩, c6, some ⟨g7, 0, none⟩, c7, by omega, by rw [hP'.out], rfl, rfl, by go_num, hE', HNEW⟩
              case measure => simp [intOf]; omega
            · rw [decide_eq_true hcn]
              have HF : Hid (REnt w zs (.returned (.tuple #[.slice a1 k c1, .slice a2 k c2, .int .i64 (s.p : Int), .int .i64 51, .int .i64 (s.p : Int)])) w4) := by
                have hrs := hord.out (by trivial) (by omega)
                have hS := HST.out (by rw [hrs]; simp)
                rw [hrs] at hS
                subst hS
                exact (HP.out _ _).2 ⟨Es, _, _, rfl, HI4.out.o1, HI4.out.o2, HI4.out.kv, HI4.out.ok, HI4.out.sep, HI4.out.d, HI4.out.bel, HI4.out.loc⟩
              go_wp2_with fail
              exact bodyPost_ret (v := .tuple #[.slice a1 k c1, .slice a2 k c2, .int .i64 (s.p : Int), .int .i64 51, .int .i64 (s.p : Int)]) (by simp [results, Try.results24, go_sem]) rfl HF.out
          · have hne : (er != 0) = true := by simp [he]
            have HF : Hid (REnt w zs (.returned (.tuple #[.slice a1 k c1, .slice a2 k c2, .int .i64 (s.p : Int), .int .i64 er, .int .i64 (pl : Int)])) (w2.alloc (.cells #[.slice ka nK kc, .slice va nV vc] 25))) := by
              have hrs := hbad.out he
              have hS := HST.out (by rw [hrs]; exact he)
              rw [hrs] at hS
              subst hS
              exact (HP.out _ _).2 ⟨Es, _, _, rfl, HI3.out.o1, HI3.out.o2, HI3.out.kv, HI3.out.ok, HI3.out.sep, HI3.out.d, HI3.out.bel, HI3.out.loc⟩
            go_wp2_with fail
            exact bodyPost_ret (v := .tuple #[.slice a1 k c1, .slice a2 k c2, .int .i64 (s.p : Int), .int .i64 er, .int .i64 (pl : Int)]) (by simp [results, Try.results24, go_sem]) rfl HF.out
        · obtain rfl : k = n := by omega
          have i1 : ¬ (k : Int) < (k : Int) := by omega
          have HF : Hid (REnt w zs (.returned (.tuple #[.slice a1 k c1, .slice a2 k c2, .int .i64 (s.p : Int), .int .i64 0, .int .i64 0])) wr) := by
            have hS : S = s := by rw [HSn.out, HSS.out]
            subst hS
            exact (HP.out _ _).2 ⟨Es, _, _, by rw [HE0.out, hq0]; rfl, HI.out⟩
          go_wp2_with fail
          exact bodyPost_ret (v := .tuple #[.slice a1 k c1, .slice a2 k c2, .int .i64 (s.p : Int), .int .i64 0, .int .i64 0]) (by simp [results, Try.results24, go_sem]) rfl HF.out
  · have hne : (r != 0) = true := by simp [hr0]
    have HF : Hid (REnt w zs (.returned (.tuple #[.slice none 0 0, .slice none 0 0, .int .i64 0, .int .i64 r, .int .i64 (x0 : Int)])) w) := by
      have hS := HS.out
      rw [if_pos hr0] at hS
      subst hS
      exact (HP.out _ _).2 ⟨[], _, _, rfl, EnI.none (Below.refl _ _) rfl rfl⟩
    go_wp2_with fail
    exact bodyPost_ret (v := .tuple #[.slice none 0 0, .slice none 0 0, .int .i64 0, .int .i64 r, .int .i64 (x0 : Int)]) (by simp [results, Try.results24, go_sem]) rfl HF.out

end Go.Proofs.Ythloaabdlciefaa
