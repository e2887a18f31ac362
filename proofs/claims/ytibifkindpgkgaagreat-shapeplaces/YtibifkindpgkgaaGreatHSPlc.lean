/- A sound tree's map: its keys rise, each is come to. No function is named here. -/
import Derived.Test.YtibifkindpgkgaaGreatG37
import Derived.Test.YtibifkindpgkgaaGreatG31
namespace Go.Proofs.YtibifkindpgkgaaGreat
open Go.RowKit
set_option maxRecDepth 100000

theorem chn_err {s : AS} {ck : NP → Int} {lev : Int} {old : List Int} : ∀ (f : Nat) (id : Int) (low : List Int) (cur : Chn) (i e : Int), s.chn ck lev old f id low cur = .inl (i, e) → Met s (old ++ cur.map (·.1)) → s.sl.length + 1 ≤ f + (old ++ cur.map (·.1)).length → e ≠ 0
  | 0, _, _, _, _, _, _, hm, hf => by have := hm.len; omega
  | f + 1, id, low, cur, i, e, h, hm, hf => by
    rw [AS.chn] at h
    split at h
    · rename_i he
      cases h
      exact he
    · rename_i he
      have he' : s.metE ck lev low (old ++ cur.map (·.1)) id = 0 := Decidable.not_not.1 he
      have e2 : old ++ (cur ++ [(id, low)]).map (·.1) = (old ++ cur.map (·.1)) ++ [id] := by rw [List.map_append, ← List.append_assoc]; rfl
      split at h
      · cases h
      · exact chn_err f _ _ _ _ _ h (by rw [e2]; exact hm.add he') (by rw [e2, List.length_append, List.length_singleton]; omega)
theorem lvs_err {s : AS} {ck : NP → Int} : ∀ (f : Nat) (lev id : Int) (outs : List Chn) (i e : Int), s.lvs ck f lev id outs = .inl (i, e) → Met s (idsOf outs) → s.sl.length + 1 ≤ f + (idsOf outs).length → e ≠ 0
  | 0, _, _, _, _, _, _, hm, hf => by have := hm.len; omega
  | f + 1, lev, id, outs, i, e, h, hm, hf => by
    have hl := hm.len
    rw [AS.lvs] at h
    split at h
    · rename_i x hc
      cases h
      exact chn_err _ _ _ _ _ _ hc (by rw [List.map_nil, List.append_nil]; exact hm) (by rw [List.map_nil, List.append_nil]; omega)
    · rename_i cur hc
      obtain ⟨r0, e0, hk⟩ := chn_lk _ _ _ _ _ hc
      rw [List.nil_append] at e0
      subst e0
      obtain ⟨hm1, _⟩ := wchn_ok _ _ _ _ _ hc (by rw [List.map_nil, List.append_nil]; exact hm) (ChnOk.nil _ _ _)
      rw [← ids_snoc] at hm1
      split at h
      · cases h; decide
      · split at h
        · cases h
        · refine lvs_err f _ _ _ _ _ h hm1 ?_
          rw [ids_snoc, List.length_append, List.length_map]
          have := List.length_pos_iff.2 hk.ne
          omega
theorem look_err {s : AS} {nd lf inn fl bk i e : Int} (h : s.look nd lf inn fl bk = .inl (i, e)) : e ≠ 0 := by
  unfold AS.look at h
  split at h
  · split at h
    · cases h; decide
    · exact lvs_err _ _ _ _ _ _ h (Met.nil s) (by omega)
  · cases h; decide
theorem cmp_ge_trans {a b c : List Int} (h1 : 0 ≤ cmpI a b) (h2 : 0 ≤ cmpI b c) : 0 ≤ cmpI a c := by
  have e1 := cmpI_swap a b
  have e2 := cmpI_swap b c
  have e3 := cmpI_swap a c
  have := (cmpI_trans c b a (by omega) (by omega)).1
  omega
theorem cmp_lt_ge {a b c : List Int} (h1 : cmpI a b < 0) (h2 : 0 ≤ cmpI c b) : cmpI a c < 0 := by
  have e1 := cmpI_swap c b
  exact (cmpI_trans a b c (by omega) (by omega)).2 h1
/-- What a chain's node tells of its low. -/
theorem ChnOk.lies {s : AS} {nd lf inn fl bk l : Int} {c : Chn} (h : ChnOk s (fun p => nchkE p nd lf inn fl bk) l c) {x : Int × List Int} (hx : x ∈ c) : liesP x.2 (s.n x.1) :=
  (lies_iff (nchk_more (h.ck x hx)).2.2.2.2).2 (h.ab x hx)
theorem ChnOk.tail {s : AS} {ck : NP → Int} {l : Int} {x : Int × List Int} {c : Chn} (h : ChnOk s ck l (x :: c)) : ChnOk s ck l c :=
  ⟨fun y hy => h.lv y (.tail _ hy), fun y hy => h.ck y (.tail _ hy), fun y hy => h.ab y (.tail _ hy)⟩
/-- Lows do not fall. -/
theorem Lk.lows {s : AS} {nd lf inn fl bk l : Int} : ∀ (c : Chn) (id : Int) (low : List Int), Lk s id low c → ChnOk s (fun p => nchkE p nd lf inn fl bk) l c → ∀ y ∈ c, 0 ≤ cmpI y.2 low
  | [], _, _, h, _, _, _ => h.elim
  | x :: c, id, low, h, hc, y, hy => by
    obtain ⟨rfl, h2⟩ := h
    rcases List.mem_cons.1 hy with rfl | hy
    · simp only [cmpI_refl]; decide
    · rcases h2 with ⟨_, rfl⟩ | ⟨hri, h3⟩
      · cases hy
      · have h4 := Lk.lows c _ _ h3 hc.tail y hy
        have h5 := (hc.lies List.mem_cons_self).2
        have h6 := (nchk_more (hc.ck _ List.mem_cons_self)).1
        simp only at h5 h6
        have h7 : 0 < cmpI (s.n id).hi low := by
          rcases h5 with h5 | h5
          · exact absurd (h6.1 h5) hri
          · exact h5
        exact cmp_ge_trans h4 (by omega)
/-- A key belongs to one node of a chain. -/
theorem Lk.uniq {s : AS} {nd lf inn fl bk l : Int} {key : List Int} : ∀ (c : Chn) (id : Int) (low : List Int), Lk s id low c → ChnOk s (fun p => nchkE p nd lf inn fl bk) l c → ∀ x ∈ c, ∀ y ∈ c, 0 ≤ cmpI key x.2 → beyB (s.n x.1).hi key = false → 0 ≤ cmpI key y.2 → beyB (s.n y.1).hi key = false → x = y
  | [], _, _, h, _, _, _, _, _, _, _, _, _ => h.elim
  | z :: c, id, low, h, hc, x, hx, y, hy, hx1, hx2, hy1, hy2 => by
    have h6 := (nchk_more (hc.ck _ List.mem_cons_self)).1
    obtain ⟨rfl, h2⟩ := h
    simp only at h6
    have far : ∀ q ∈ c, 0 ≤ cmpI key q.2 → beyB (s.n id).hi key = false → False := fun q hq h1 h3 => by
      rcases h2 with ⟨_, rfl⟩ | ⟨hri, h4⟩
      · cases hq
      · have h5 := Lk.lows c _ _ h4 hc.tail q hq
        have h7 := cmp_ge_trans h1 h5
        have h8 : 0 < (s.n id).hi.length := Nat.pos_of_ne_zero fun e => hri (h6.1 e)
        unfold beyB at h3
        simp only [h8, h7, decide_true, Bool.and_self] at h3
        cases h3
    rcases List.mem_cons.1 hx with rfl | hx
    · rcases List.mem_cons.1 hy with rfl | hy
      · rfl
      · exact (far y hy hy1 hx2).elim
    · rcases List.mem_cons.1 hy with rfl | hy
      · exact (far x hx hx1 hy2).elim
      · rcases h2 with ⟨_, rfl⟩ | ⟨hri, h4⟩
        · cases hx
        · exact Lk.uniq c _ _ h4 hc.tail x hx y hy hx1 hx2 hy1 hy2
theorem ky_mem {hi : List Int} {ks : List (List Int)} (h : KyP hi ks) {k : List Int} (hk : k ∈ ks) : beyB hi k = false := by
  obtain ⟨i, hi', rfl⟩ := List.getElem_of_mem hk
  have := (h i hi').1.2
  simpa [hi'] using this
theorem lies_mem {low : List Int} {p : NP} (h : liesP low p) {k : List Int} (hk : k ∈ p.ks) : 0 ≤ cmpI k low := by
  obtain ⟨i, hi', rfl⟩ := List.getElem_of_mem hk
  have := h.1 i hi'
  simpa [hi'] using this
/-- A chain's keys rise. -/
theorem Lk.rise {s : AS} {nd lf inn fl bk l : Int} : ∀ (c : Chn) (id : Int) (low : List Int), Lk s id low c → ChnOk s (fun p => nchkE p nd lf inn fl bk) l c → ((c.flatMap fun x => (s.n x.1).ks).Pairwise fun a b => cmpI a b < 0) ∧ ∀ k ∈ (c.flatMap fun x => (s.n x.1).ks), 0 ≤ cmpI k low
  | [], _, _, h, _ => h.elim
  | z :: c, id, low, h, hc => by
    have h6 := nchk_more (hc.ck _ List.mem_cons_self)
    have h7 := hc.lies List.mem_cons_self
    obtain ⟨rfl, h2⟩ := h
    simp only at h6 h7
    rw [List.flatMap_cons]
    rcases h2 with ⟨_, rfl⟩ | ⟨hri, h4⟩
    · rw [List.flatMap_nil, List.append_nil]
      exact ⟨h6.2.2.2.2.rs.pair, fun k hk => lies_mem h7 hk⟩
    · obtain ⟨r1, r2⟩ := Lk.rise c _ _ h4 hc.tail
      have h8 : 0 < (s.n id).hi.length := Nat.pos_of_ne_zero fun e => hri (h6.1.1 e)
      refine ⟨List.pairwise_append.2 ⟨h6.2.2.2.2.rs.pair, r1, fun a ha b hb => ?_⟩, fun k hk => ?_⟩
      · have h9 := ky_mem h6.2.2.2.2 ha
        unfold beyB at h9
        simp only [h8, decide_true, Bool.true_and, decide_eq_false_iff_not] at h9
        exact cmp_lt_ge (by omega) (r2 b hb)
      · rcases List.mem_append.1 hk with hk | hk
        · exact lies_mem h7 hk
        · refine cmp_ge_trans (r2 k hk) ?_
          rcases h7.2 with h9 | h9
          · omega
          · omega
/-- Along the leaves. -/
theorem map_leaves {s : AS} {ck : NP → Int} : ∀ (rest : Chn) (id : Int) (low : List Int) (f : Nat) (met : List Int) (leaf : Bool) (acc : List (List Int × List Int)), Lk s id low rest → ChnOk s ck 0 rest → (∀ x ∈ rest, s.inn x.1) → (met ++ rest.map (·.1)).Nodup → rest.length ≤ f → s.mapF f met leaf id acc = acc ++ rest.flatMap fun x => (s.n x.1).ents
  | [], _, _, _, _, _, _, h, _, _, _, _ => h.elim
  | x :: r, id, low, f, met, leaf, acc, h, hc, hin, hnd, hf => by
    obtain ⟨f, rfl⟩ : ∃ g, f = g + 1 := ⟨f - 1, by rw [List.length_cons] at hf; omega⟩
    obtain ⟨rfl, h2⟩ := h
    have hnm : id ∉ met := fun hm => by
      rw [List.map_cons] at hnd
      exact (List.nodup_append.1 hnd).2.2 id hm id List.mem_cons_self rfl
    have hlv := hc.lv _ List.mem_cons_self
    simp only at hlv
    have hi : s.inn id := hin _ List.mem_cons_self
    rw [mapF_leaf ⟨hi, hnm⟩ (by omega), List.flatMap_cons]
    rcases h2 with ⟨h0, rfl⟩ | ⟨_, h3⟩
    · rw [h0, List.flatMap_nil, List.append_nil]
      cases f with
      | zero => rfl
      | succ f => exact mapF_stop (fun hh => by have := hh.1.1; omega)
    · rw [map_leaves r _ _ f (met ++ [id]) true (acc ++ (s.n id).ents) h3 hc.tail (fun y hy => hin y (.tail _ hy)) (by rw [List.append_assoc]; exact hnd) (by rw [List.length_cons] at hf; omega), List.append_assoc]
/-- Down to the leaves. -/
theorem map_down {s : AS} {nd lf inn fl bk : Int} : ∀ (ls : List Chn) (lev id : Int) (up : Chn) (f : Nat) (met : List Int), Lv s (fun p => nchkE p nd lf inn fl bk) lev id up ls → (∀ c ∈ ls, ∀ x ∈ c, s.inn x.1) → (met ++ idsOf ls).Nodup → cntC ls ≤ f → s.mapF f met false id [] = (ls.getLastD []).flatMap fun x => (s.n x.1).ents
  | [], _, _, _, _, _, h, _, _, _ => h.elim
  | c :: r, lev, id, up, f, met, h, hin, hnd, hf => by
    obtain ⟨g1, g2, _, g4⟩ := h
    have e1 : idsOf (c :: r) = c.map (·.1) ++ idsOf r := by simp [idsOf]
    rw [cntC_cons] at hf
    rw [e1, ← List.append_assoc] at hnd
    rcases g4 with ⟨rfl, rfl⟩ | ⟨h0, h5⟩
    · rw [map_leaves c _ _ f met false [] g1 g2 (hin c List.mem_cons_self) ((List.nodup_append.1 hnd).1) (by omega)]
      rfl
    · obtain ⟨q, rfl⟩ := g1.head
      rw [List.length_cons] at hf
      obtain ⟨f, rfl⟩ : ∃ g, f = g + 1 := ⟨f - 1, by omega⟩
      have hi := hin _ List.mem_cons_self _ List.mem_cons_self
      have hnm : id ∉ met := fun hm => by
        have := (List.nodup_append.1 (List.nodup_append.1 hnd).1).2.2 id hm id (by simp)
        exact this rfl
      have hlv := g2.lv _ List.mem_cons_self
      obtain ⟨_, f2, f3, _⟩ := nchk_more (g2.ck _ List.mem_cons_self)
      simp only at hlv f2 f3 hi
      have hcs : (s.n id).cs ≠ [] := fun e => by have := f3 (by omega); rw [e] at this; simp at this
      rw [mapF_down ⟨hi, hnm⟩ (by omega) (fun e => e.elim (fun e => by cases e) hcs)]
      have e2 : (s.n id).cs.getD 0 0 = s.first ((id, []) :: q) := rfl
      rw [e2, map_down r _ _ _ f (met ++ [id]) h5 (fun d hd => hin d (.tail _ hd)) ?_ (by omega)]
      · cases r with
        | nil => exact h5.elim
        | cons d r => simp [List.getLastD_eq_getLast?]
      · refine hnd.sublist ?_
        refine List.Sublist.append ?_ (List.Sublist.refl _)
        refine List.Sublist.append (List.Sublist.refl _) ?_
        exact List.Sublist.cons_cons _ (List.nil_sublist _)
/-- The map of a sound tree: its leaves' entries. -/
theorem map_snd {s : AS} {nd lf inn fl bk : Int} {ls : List Chn} (h : Snd s nd lf inn fl bk ls) : s.map = (ls.getLastD []).flatMap fun x => (s.n x.1).ents :=
  map_down ls _ _ _ _ [] h.lv h.in_ (by rw [List.nil_append]; exact h.met.nd) (by have := h.cnt; omega)
theorem Lv.last {s : AS} {ck : NP → Int} : ∀ (ls : List Chn) (lev id : Int) (up : Chn), Lv s ck lev id up ls → ∃ i, Lk s i [] (ls.getLastD []) ∧ ChnOk s ck 0 (ls.getLastD []) ∧ ls.getLastD [] ∈ ls
  | [], _, _, _, h => h.elim
  | c :: r, lev, id, up, h => by
    obtain ⟨g1, g2, _, g4⟩ := h
    rcases g4 with ⟨rfl, rfl⟩ | ⟨_, h5⟩
    · exact ⟨id, g1, g2, List.mem_cons_self⟩
    · obtain ⟨i, h1, h2, h3⟩ := Lv.last r _ _ _ h5
      have e : (c :: r).getLastD [] = r.getLastD [] := by
        cases r with
        | nil => exact h5.elim
        | cons d r => simp [List.getLastD_eq_getLast?]
      rw [e]
      exact ⟨i, h1, h2, List.mem_cons_of_mem _ h3⟩
theorem ents_fst (p : NP) : p.ents.map (·.1) = p.ks := by
  refine List.ext_getElem (by simp [NP.ents]) fun i h1 h2 => ?_
  simp [NP.ents, h2]
/-- The map's keys rise. -/
theorem map_rise {s : AS} {nd lf inn fl bk : Int} {ls : List Chn} (h : Snd s nd lf inn fl bk ls) : (s.map.map (·.1)).Pairwise fun a b => cmpI a b < 0 := by
  obtain ⟨i, h1, h2, _⟩ := Lv.last _ _ _ _ h.lv
  rw [map_snd h, List.map_flatMap]
  simp only [ents_fst]
  exact (Lk.rise _ _ _ h1 h2).1
theorem map_len {s : AS} {nd lf inn fl bk : Int} {ls : List Chn} (h : Snd s nd lf inn fl bk ls) {c : Chn} (hc : ls.getLast? = some c) : s.map.length = (c.map fun x => (s.n x.1).ks.length).sum := by
  rw [map_snd h, List.length_flatMap]
  have e : ls.getLastD [] = c := by simp [List.getLastD_eq_getLast?, hc]
  rw [e]
  simp only [NP.ents_len]
/-- Is an entry come to? At most f nodes are looked at. -/
def AS.fnd (s : AS) (key val : List Int) : Nat → Int → Bool
  | 0, _ => false
  | f + 1, id =>
    if s.inn id then
      (if beyB (s.n id).hi key = true then s.fnd key val f (s.n id).ri
       else if 0 < (s.n id).lv then s.fnd key val f (chiN (s.n id).ks (s.n id).cs key)
       else isIn (s.n id).ks key && (decide (cntB (s.n id).ks key < (s.n id).vs.length) && decide ((s.n id).vs.getD (cntB (s.n id).ks key) [] = val)))
    else false
def leafHas (p : NP) (key val : List Int) : Bool := isIn p.ks key && (decide (cntB p.ks key < p.vs.length) && decide (p.vs.getD (cntB p.ks key) [] = val))
/-- From a node of a chain to the leaf that a key belongs to. -/
theorem fway {s : AS} {nd lf inn fl bk : Int} {key val : List Int} :
    ∀ (f : Nat) (l id : Int) (low : List Int) (rest up : Chn) (below : List Chn), rest.length + cntC below ≤ f → Lk s id low rest → (∀ x ∈ rest, x ∈ up) → ChnOk s (fun p => nchkE p nd lf inn fl bk) l up → (∀ x ∈ up, s.inn x.1) → (∀ c ∈ below, ∀ x ∈ c, s.inn x.1) →
      ((l = 0 ∧ below = []) ∨ (l ≠ 0 ∧ Lv s (fun p => nchkE p nd lf inn fl bk) (l - 1) (s.first up) up below)) → 0 ≤ cmpI key low → 
      ∃ x ∈ (up :: below).getLastD [], s.fnd key val f id = leafHas (s.n x.1) key val ∧ beyB (s.n x.1).hi key = false ∧ 0 ≤ cmpI key x.2
  | 0, l, id, low, rest, up, below, hn, hk, _, _, _, _, _, _ => by
    have := List.length_pos_iff.2 hk.ne; omega
  | n + 1, l, id, low, rest, up, below, hn, hk, hsub, hco, hin, hinb, hb, hlow => by
    obtain ⟨r, rfl⟩ := hk.head
    have hmem : (id, low) ∈ up := hsub _ List.mem_cons_self
    have hi := hin _ hmem
    have hlv := hco.lv _ hmem
    obtain ⟨f1, f2, f3, f4, f5⟩ := nchk_more (hco.ck _ hmem)
    simp only at hi hlv f1 f2 f3 f4 f5
    rw [AS.fnd, if_pos hi]
    rw [List.length_cons] at hn
    by_cases hbey : beyB (s.n id).hi key = true
    · rw [if_pos hbey]
      unfold beyB at hbey
      simp only [Bool.and_eq_true, decide_eq_true_eq] at hbey
      have hri : (s.n id).ri ≠ 0 := fun e => by have := f1.2 e; omega
      have hk2 : Lk s (s.n id).ri (s.n id).hi r := by
        rcases hk.2 with h | h
        · exact absurd h.1 hri
        · exact h.2
      exact fway n l _ _ r up below (by omega) hk2 (fun x hx => hsub x (List.mem_cons_of_mem _ hx)) hco hin hinb hb hbey.2
    · rw [if_neg hbey]
      have hbey' : beyB (s.n id).hi key = false := by simpa using hbey
      rcases hb with ⟨h0, rfl⟩ | ⟨h0, hL⟩
      · rw [if_neg (by omega)]
        exact ⟨(id, low), hmem, rfl, hbey', hlow⟩
      · rw [if_pos (by omega)]
        cases below with
        | nil => exact hL.elim
        | cons c b2 =>
          obtain ⟨g1, g2, g3, g4⟩ := hL
          have hkid := g3 _ hmem
          have hcs := f3 (by omega)
          have hcl := cntL_le (s.n id).ks key
          have hj : min (cntL (s.n id).ks key) ((s.n id).cs.length - 1) = cntL (s.n id).ks key := by omega
          have hy := hkid (cntL (s.n id).ks key) (by simp only; omega)
          have hch : chiN (s.n id).ks (s.n id).cs key = (s.kidAt (id, low) (cntL (s.n id).ks key)).1 := by
            unfold chiN AS.kidAt
            rw [if_neg (by omega), hj]
          have hlo2 : 0 ≤ cmpI key (s.kidAt (id, low) (cntL (s.n id).ks key)).2 := by
            unfold AS.kidAt
            simp only
            by_cases hz : cntL (s.n id).ks key = 0
            · rw [if_pos hz]; exact hlow
            · rw [if_neg hz]
              exact cntL_at f5.rs (by omega)
          generalize s.kidAt (id, low) (cntL (s.n id).ks key) = y at *
          obtain ⟨a, r2, e2, hk4⟩ := Lk.suf c _ _ g1 y hy
          rw [cntC_cons, e2, List.length_append] at hn
          obtain ⟨x, hx, e1, e3, e4⟩ := fway n (l - 1) _ _ r2 c b2 (by omega) hk4 (fun x hx => by rw [e2]; exact List.mem_append_right _ hx) g2 (hinb c List.mem_cons_self) (fun d hd => hinb d (List.mem_cons_of_mem _ hd)) g4 hlo2
          refine ⟨x, ?_, by rw [hch]; exact e1, e3, e4⟩
          simpa [List.getLastD_eq_getLast?] using hx
theorem cntB_at {ks : List (List Int)} (h : Rs ks) {i : Nat} (hi : i < ks.length) : cntB ks (ks.getD i []) = i := by
  have e : cntB ks (ks.getD i []) = cntB (ks.take i) (ks.getD i []) + cntB (ks.drop i) (ks.getD i []) := by
    unfold cntB
    rw [← List.countP_append, List.take_append_drop]
  have h1 : cntB (ks.take i) (ks.getD i []) = (ks.take i).length := cntB_all fun x hx => by
    obtain ⟨j, hj, rfl⟩ := List.getElem_of_mem hx
    rw [List.length_take] at hj
    have := h.far (i - 1 - j) j (by omega)
    rw [show j + (i - 1 - j) + 1 = i by omega] at this
    have hg : ks.getD j [] = ks[j]'(by omega) := by simp [show j < ks.length by omega]
    rw [List.getElem_take, ← hg]
    exact this
  have h2 : cntB (ks.drop i) (ks.getD i []) = 0 := cntB_zero fun x hx => by
    obtain ⟨j, hj, rfl⟩ := List.getElem_of_mem hx
    rw [List.length_drop] at hj
    have hg : ks.getD (i + j) [] = ks[i + j]'(by omega) := by simp [show i + j < ks.length by omega]
    rw [List.getElem_drop, ← hg]
    rcases Nat.eq_zero_or_pos j with rfl | hj0
    · rw [Nat.add_zero, cmpI_refl]; decide
    · have := h.far (j - 1) i (by omega)
      rw [show i + (j - 1) + 1 = i + j by omega] at this
      exact cmp_gt this
  rw [e, h1, h2, List.length_take]
  omega
theorem leaf_has {p : NP} (h : Rs p.ks) (hv : p.vs.length = p.ks.length) {x : List Int × List Int} (hx : x ∈ p.ents) : leafHas p x.1 x.2 = true ∧ x.1 ∈ p.ks := by
  unfold NP.ents at hx
  obtain ⟨i, hi, rfl⟩ := List.mem_map.1 hx
  rw [List.mem_range] at hi
  have hg : p.ks.getD i [] = p.ks[i] := by simp [hi]
  have hm : p.ks.getD i [] ∈ p.ks := by rw [hg]; exact List.getElem_mem hi
  refine ⟨?_, hm⟩
  unfold leafHas
  simp only
  rw [cntB_at h hi, isIn_iff.2 hm, decide_eq_true (by omega), decide_eq_true rfl]
  rfl
/-- Each entry of a sound tree's map is come to. -/
theorem map_found {s : AS} {nd lf inn fl bk : Int} {ls : List Chn} (h : Snd s nd lf inn fl bk ls) {f : Nat} (hf : s.sl.length ≤ f) {x : List Int × List Int} (hx : x ∈ s.map) : s.fnd x.1 x.2 f s.root = true := by
  obtain ⟨i, h1, h2, hl⟩ := Lv.last _ _ _ _ h.lv
  rw [map_snd h] at hx
  obtain ⟨y, hy, hxy⟩ := List.mem_flatMap.1 hx
  have hlv := h.lv
  have hin := h.in_
  have hcnt := h.cnt
  have hyc := nchk_more (h2.ck y hy)
  have hy0 := h2.lv y hy
  obtain ⟨hh, hk⟩ := leaf_has hyc.2.2.2.2.rs (hyc.2.2.2.1 hy0) hxy
  have hk1 : 0 ≤ cmpI x.1 y.2 := lies_mem (h2.lies hy) hk
  have hk2 := ky_mem hyc.2.2.2.2 hk
  generalize (s.rd s.root).lv = L at *
  cases ls with
  | nil => exact hlv.elim
  | cons c r =>
    obtain ⟨g1, g2, _, g4⟩ := hlv
    rw [cntC_cons] at hcnt
    obtain ⟨z, hz, e1, e2, e3⟩ := fway (nd := nd) (lf := lf) (inn := inn) (fl := fl) (bk := bk) (key := x.1) (val := x.2) f L s.root [] c c r (by omega) g1 (fun _ h => h) g2 (hin _ List.mem_cons_self) (fun d hd => hin d (List.mem_cons_of_mem _ hd)) g4 (cmp_nil_le _)
    have e : z = y := Lk.uniq _ _ _ h1 h2 z hz y hy e3 e2 hk1 hk2
    rw [e1, e]
    exact hh
theorem nchk_sz {p : NP} {nd lf inn fl bk : Int} (h : nchkE p nd lf inn fl bk = 0) : p.ks.length ≤ 64 := by
  unfold nchkE at h
  split at h
  · rename_i hc
    split at h
    · rename_i h2
      obtain ⟨_, _, h6, h5⟩ := h2
      unfold OvP at h6
      obtain ⟨_, ⟨_, hl⟩, ⟨_, hi⟩, _⟩ := hc
      by_cases hp : p.lv = 0
      · rw [if_pos hp] at h6
        omega
      · rw [if_neg hp] at h6 h5
        have := h5.1.2
        omega
    · omega
  · omega
/-- From a node of a sound tree Map comes to another one, or to none. -/
theorem Lv.steps {s : AS} {nd lf inn fl bk : Int} : ∀ (ls : List Chn) (lev id : Int) (up : Chn), Lv s (fun p => nchkE p nd lf inn fl bk) lev id up ls → ∀ c ∈ ls, ∀ x ∈ c, nchkE (s.n x.1) nd lf inn fl bk = 0 ∧ ((s.n x.1).ri = 0 ∨ ∃ y ∈ c, y.1 = (s.n x.1).ri) ∧ (¬ (s.n x.1).lv ≤ 0 → ∃ d ∈ ls, ∃ y ∈ d, y.1 = (s.n x.1).cs.getD 0 0)
  | [], _, _, _, h => h.elim
  | c :: r, lev, id, up, h => by
    obtain ⟨g1, g2, _, g4⟩ := h
    intro d hd x hx
    rcases List.mem_cons.1 hd with hd | hd
    · subst hd
      refine ⟨g2.ck x hx, ?_, fun hlv => ?_⟩
      · obtain ⟨a, r2, e, hk⟩ := Lk.suf d _ _ g1 x hx
        obtain ⟨q, rfl⟩ := hk.head
        rcases hk.2 with h1 | h1
        · exact .inl h1.1
        · obtain ⟨q2, e2⟩ := h1.2.head
          exact .inr ⟨((s.n x.1).ri, (s.n x.1).hi), by rw [e, e2]; simp, rfl⟩
      · rcases g4 with ⟨h0, _⟩ | ⟨h0, h5⟩
        · have := g2.lv x hx; omega
        · cases r with
          | nil => exact h5.elim
          | cons d2 r =>
            obtain ⟨_, _, h6, _⟩ := h5
            have h7 := (nchk_more (g2.ck x hx)).2.2.1 (by omega)
            have h8 := h6 x hx 0 (by omega)
            exact ⟨d2, List.mem_cons_of_mem _ List.mem_cons_self, _, h8, rfl⟩
    · rcases g4 with ⟨_, rfl⟩ | ⟨_, h5⟩
      · cases hd
      · obtain ⟨h1, h2, h3⟩ := Lv.steps r _ _ _ h5 d hd x hx
        exact ⟨h1, h2, fun hlv => by
          obtain ⟨d2, hd2, y, hy, e⟩ := h3 hlv
          exact ⟨d2, List.mem_cons_of_mem _ hd2, y, hy, e⟩⟩
/-- The numbers of a sound tree. -/
def onL (ls : List Chn) (id : Int) : Prop := id = 0 ∨ ∃ c ∈ ls, ∃ x ∈ c, x.1 = id
theorem snd_on {s : AS} {nd lf inn fl bk : Int} {ls : List Chn} (h : Snd s nd lf inn fl bk ls) : onL ls s.root ∧ (∀ id, onL ls id → s.inn id → (s.n id).lv ≤ 0 → onL ls (s.n id).ri) ∧ (∀ id, onL ls id → s.inn id → ¬ (s.n id).lv ≤ 0 → onL ls ((s.n id).cs.getD 0 0)) ∧ (∀ id, onL ls id → s.inn id → (s.n id).ks.length ≤ 1048576) := by
  have hst := Lv.steps ls _ _ _ h.lv
  refine ⟨?_, ?_, ?_, ?_⟩
  · have hl := h.lv
    cases ls with
    | nil => exact hl.elim
    | cons c r =>
      obtain ⟨q, hq⟩ := hl.1.head
      exact .inr ⟨c, List.mem_cons_self, (s.root, []), by rw [hq]; simp, rfl⟩
  · rintro id (rfl | ⟨c, hc, x, hx, rfl⟩) hin _
    · exact absurd hin.1 (by decide)
    · rcases (hst c hc x hx).2.1 with h1 | ⟨y, hy, e⟩
      · exact .inl h1
      · exact .inr ⟨c, hc, y, hy, e⟩
  · rintro id (rfl | ⟨c, hc, x, hx, rfl⟩) hin hlv
    · exact absurd hin.1 (by decide)
    · obtain ⟨d, hd, y, hy, e⟩ := (hst c hc x hx).2.2 hlv
      exact .inr ⟨d, hd, y, hy, e⟩
  · rintro id (rfl | ⟨c, hc, x, hx, rfl⟩) hin
    · exact absurd hin.1 (by decide)
    · have := nchk_sz (hst c hc x hx).1
      omega
end Go.Proofs.YtibifkindpgkgaaGreat
