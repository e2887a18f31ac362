/- The document's Chunks, of any reader. -/
import Derived.Test.YtcffekhlnidjnaaPRCopy
import Derived.Deep.AppendLies
namespace Go.Proofs.Ytcffekhlnidjnaa
open Go.RowKit

theorem infoCk : (Try.prog.info? 59).map (fun i => (i.zero, i.size, i.bytes)) = some (some (.agg #[.slice none 0 0, .int .i64 0]), 2, 32) := by kernel_rfl
theorem info_partsC {p : Program} {t : TypeId} {z : Value} {s b : Nat} (h : (p.info? t).map (fun i => (i.zero, i.size, i.bytes)) = some (some z, s, b)) : ∃ i, p.info? t = some i ∧ i.zero = some z ∧ i.size = s ∧ i.bytes = b := by
  cases hi : p.info? t with
  | none => rw [hi] at h; cases h
  | some i =>
    rw [hi] at h
    simp only [Option.map_some, Option.some.injEq, Prod.mk.injEq] at h
    exact ⟨i, rfl, h.1, h.2.1, h.2.2⟩

/-- append of one element onto a row of one's own, and where it lies then. -/
theorem app_liesC {P : Program} {ops : Array Oper} {o : Oper} {rest : List Oper} {a : Act} {w : World} {Q : Exit → Act → World → Prop} (hgd : o.guard = none) (s x : Operand) (t : TypeId)
    (ho : o.op = .call { callee := .builtin .append, args := #[s, x], argTypes := #[t, t] })
    (base : Nat) (e : TypeId) (i : TypeInfo) (z : Value) (size bytes : Nat) (ht : P.underlying t = some (.slice e)) (hi : P.info? e = some i) (hz : i.zero = some z) (hsize : i.size = size) (hby : i.bytes = bytes) (hzs : z.cells.size = size) (hsz : 0 < size)
    (v : Value) (n : Nat) (xs : List Value) (hs : a.eval s = v) (hown : w.ownsRow base e size v n xs)
    (ad : Addr) (c : Nat) (news : List Value) (hx : a.eval x = .slice (some ad) 1 c) (hl : news.length = size) (hnews : ∀ j u, news[j]? = some u → w.cell? (ad.add j) = some u) (h1 : ∀ u ∈ news, u.oneCell' = true)
    (h63 : n + 1 ≤ maxLen) (hb : (n + 1) * bytes ≤ 140737488355328) (hbase : base ≤ w.heap.size)
    (h : ∀ g cap w', w'.ownsRow base e size (.slice (some ⟨g, 0, none⟩) (n + 1) cap) (n + 1) (xs ++ news) → w.grownBy w' v.ownBlock → (v.ownBlock = some g ∨ w.heap.size ≤ g) → wpList P ops Q rest (a.put o.dst (.slice (some ⟨g, 0, none⟩) (n + 1) cap)) w') : wpList P ops Q (o :: rest) a w := by
  have hw : Region.wanted o (yielded ops a.tmps) = true := by simp [Region.wanted, hgd]
  have h0 := step_append_lies (P := P) w (ops := ops) (K := wpList P ops Q rest) (Q := Q) (E := True) hgd s x t ho base e i z size bytes ht hi hz hsize hby hzs hsz v n xs hs hown ad 1 c news hx (by omega) hnews h1 (by omega) h63 hb hbase w.heap.size rfl
    (fun g cap w' q1 q2 q3 _ => h g cap w' q1 q2 (q3.imp id (fun e => by omega)))
  rw [if_pos hw] at h0
  rw [wpList, if_pos hw]
  exact .inl h0

theorem row_ltC {w : World} {k : IntKind} {a : Option Addr} {zs : List Int} (h : Row w k a zs) {x : Addr} (hx : a = some x) (hp : 0 < zs.length) : x.block < w.heap.size := by
  obtain ⟨b, o, h1, h2, _⟩ := h.cons hp
  rw [hx] at h1
  cases h1
  exact h2
/-- A chunk in the document's list. -/
structure RC where
  ba : Option Addr
  bc : Nat
  b : List Int
  e : Int
def RC.bv (c : RC) : Value := .slice c.ba c.b.length c.bc
def RC.t (c : RC) : List Int × Int := (c.b, c.e)
def cellsC : List RC → List Value
  | [] => []
  | c :: r => c.bv :: .int .i64 c.e :: cellsC r
theorem cellsC_app (a b : List RC) : cellsC (a ++ b) = cellsC a ++ cellsC b := by
  induction a with
  | nil => rfl
  | cons c r ih => simp [cellsC, ih]
theorem cellsC_get : ∀ (l : List RC) (i : Nat) (h : i < l.length), (cellsC l)[i * 2]? = some l[i].bv ∧ (cellsC l)[i * 2 + 1]? = some (.int .i64 l[i].e)
  | c :: r, 0, _ => ⟨rfl, rfl⟩
  | c :: r, i + 1, h => by
    have := cellsC_get r i (by simpa using h)
    rw [show (i + 1) * 2 = i * 2 + 1 + 1 by omega]
    simpa [cellsC] using this

/-- Chunks in a row of one's own; M: a reader's memory, apart from them. -/
structure CLst (B : Nat) (W : World) (v : Value) (Cs : List RC) (M : Nat → Prop) : Prop where
  own : W.ownsRow B 59 2 v Cs.length (cellsC Cs)
  row : ∀ c ∈ Cs, Row W .u8 c.ba c.b
  loc : ∀ c ∈ Cs, ∀ x, c.ba = some x → 0 < c.b.length → B ≤ x.block ∧ v.ownBlock ≠ some x.block ∧ ¬ M x.block
  vm : ∀ k, v.ownBlock = some k → ¬ M k
theorem ownsC_upd {S : Nat → Prop} {w w' : World} {base size : Nat} {e : TypeId} {v : Value} {n : Nat} {xs : List Value} (h : w.ownsRow base e size v n xs) (hb : Upd S w w') (hs : ∀ k, v.ownBlock = some k → ¬ S k) : w'.ownsRow base e size v n xs := by
  refine ⟨h.1, ?_⟩
  rcases h.2 with h1 | ⟨g, cap, cur, h1, h2, h3, h4⟩
  · exact .inl h1
  · exact .inr ⟨g, cap, cur, h1, h2, hb.heap h3 (hs g (by rw [h1]; rfl)), h4⟩
theorem CLst.upd {B : Nat} {W W' : World} {v : Value} {Cs : List RC} {M S : Nat → Prop} (h : CLst B W v Cs M) (hu : Upd S W W') (hs : ∀ i, S i → M i ∨ i < B) : CLst B W' v Cs M :=
  ⟨ownsC_upd h.own hu (fun k hk e => (hs k e).elim (h.vm k hk) (fun e => by have := (h.own.lt k hk).1; omega)),
   fun c hc => (h.row c hc).upd hu (fun x hx h0 e => (hs _ e).elim (h.loc c hc x hx h0).2.2 (fun e => by have := (h.loc c hc x hx h0).1; omega)), h.loc, h.vm⟩
theorem CLst.reM {B : Nat} {W : World} {v : Value} {Cs : List RC} {M M' : Nat → Prop} (h : CLst B W v Cs M) (hm : ∀ i, M' i → M i ∨ W.heap.size ≤ i) : CLst B W v Cs M' := by
  refine ⟨h.own, h.row, fun c hc x hx h0 => ⟨(h.loc c hc x hx h0).1, (h.loc c hc x hx h0).2.1, fun e => (hm _ e).elim (h.loc c hc x hx h0).2.2 (fun e => ?_)⟩, fun k hk e => (hm _ e).elim (h.vm k hk) (fun e => by have := (h.own.lt k hk).2; omega)⟩
  have := row_ltC (h.row c hc) hx h0
  omega
theorem CLst.nil (B : Nat) (W : World) (M : Nat → Prop) : CLst B W (.slice none 0 0) [] M :=
  ⟨World.ownsRow_nil _ _ _ _, (fun c hc => by cases hc), (fun c hc => by cases hc), (fun k hk => by cases hk)⟩
/-- One is put behind. -/
theorem CLst.snoc {B : Nat} {W W' : World} {v v' : Value} {Cs : List RC} {M : Nat → Prop} {c : RC} (h : CLst B W v Cs M) (hg : W.grownBy W' v.ownBlock) (ho : W'.ownsRow B 59 2 v' (Cs.length + 1) (cellsC Cs ++ [c.bv, .int .i64 c.e])) (hk : ∀ k, v'.ownBlock = some k → v.ownBlock = some k ∨ W.heap.size ≤ k)
    (hr : Row W .u8 c.ba c.b) (hl : ∀ x, c.ba = some x → 0 < c.b.length → B ≤ x.block ∧ v.ownBlock ≠ some x.block ∧ ¬ M x.block) (hM : ∀ i, M i → i < W.heap.size) : CLst B W' v' (Cs ++ [c]) M := by
  have hu : Upd (fun k => v.ownBlock = some k) W W' := Upd.of_grown hg (fun k hk _ => hk)
  have hall : ∀ d ∈ Cs ++ [c], Row W .u8 d.ba d.b ∧ ∀ x, d.ba = some x → 0 < d.b.length → B ≤ x.block ∧ v.ownBlock ≠ some x.block ∧ ¬ M x.block := fun d hd => by
    rcases List.mem_append.1 hd with h1 | h1
    · exact ⟨h.row d h1, h.loc d h1⟩
    · rw [List.mem_singleton] at h1
      subst h1
      exact ⟨hr, hl⟩
  refine ⟨by rw [cellsC_app, List.length_append, List.length_singleton]; exact ho, fun d hd => (hall d hd).1.upd hu (fun x hx h0 e => ((hall d hd).2 x hx h0).2.1 e), fun d hd x hx h0 => ⟨((hall d hd).2 x hx h0).1, fun e => (hk _ e).elim ((hall d hd).2 x hx h0).2.1 (fun e => ?_), ((hall d hd).2 x hx h0).2.2⟩, fun k hk' e => (hk k hk').elim (fun e' => h.vm k e' e) (fun e' => by have := hM k e; omega)⟩
  have := row_ltC (hall d hd).1 hx h0
  omega

def endL {σ : Type} (s : σ) (l : List (List Int × Int × σ)) : σ := (l.getLast?.map fun c => c.2.2).getD s
theorem endL_nil {σ : Type} (s : σ) : endL s [] = s := rfl
theorem endL_snoc {σ : Type} (s : σ) (l : List (List Int × Int × σ)) (c : List Int × Int × σ) : endL s (l ++ [c]) = c.2.2 := by simp [endL]
def two2 {σ : Type} (l : List (List Int × Int × σ)) : List (List Int × Int) := l.map fun c => (c.1, c.2.1)

/-- What the document's Chunks tells: the first ones of all that comes. -/
def RChPost {σ : Type} (Rd : World → σ → (Nat → Prop) → Prop) (all : List (List Int × Int × σ)) (s0 : σ) (lim : Nat) (M0 : Nat → Prop) (W : World) (e : Ending) (W' : World) : Prop :=
  ∃ v Cs M', e = .returned v ∧ CLst W.heap.size W' v Cs M' ∧ Cs.map RC.t = two2 (all.take lim) ∧ Rd W' (endL s0 (all.take lim)) M' ∧ (∀ i, M' i → M0 i ∨ W.heap.size ≤ i) ∧ Upd M0 W W'

/-- At the head of a round. -/
structure RHI {σ : Type} (size : Nat) (rd : σ → Int × Int × List Int × σ) (cnt m : σ → Nat) (Rd : World → σ → (Nat → Prop) → Prop) (all : List (List Int × Int × σ)) (s0 : σ) (lim : Nat) (M0 : Nat → Prop) (W W' : World) (v : Value) (Cs : List RC) (cs : List (List Int × Int × σ)) (idle fu : Nat) (s : σ) (M : Nat → Prop) : Prop where
  hrd : Rd W' s M
  hcl : CLst W.heap.size W' v Cs M
  hcs : Cs.map RC.t = two2 cs
  hmb : ∀ i, M i → M0 i ∨ W.heap.size ≤ i
  hup : Upd M0 W W'
  hid : idle < 16
  hlm : cs.length < lim ∨ (cs.length = lim ∧ idle = 0)
  hst : idle = 0 → s = endL s0 cs
  heq : all = cs ++ chunkL (stp size rd) fu s idle
  hfu : 17 * m s + (16 - idle) ≤ fu
  hcn : cnt s + 17 * m s + (16 - idle) ≤ 4611686018427387903
def RHH {σ : Type} (size : Nat) (rd : σ → Int × Int × List Int × σ) (cnt m : σ → Nat) (Rd : World → σ → (Nat → Prop) → Prop) (all : List (List Int × Int × σ)) (s0 : σ) (lim : Nat) (M0 : Nat → Prop) (W : World) (a b : Value) (W' : World) (fu : Nat) : Prop :=
  ∃ (av : Option Addr) (cv : Nat) (Cs : List RC) (cs : List (List Int × Int × σ)) (idle : Nat) (s : σ) (M : Nat → Prop), a = .slice av Cs.length cv ∧ b = .int .i64 (idle : Int) ∧ RHI size rd cnt m Rd all s0 lim M0 W W' (.slice av Cs.length cv) Cs cs idle fu s M

theorem owns2_open {w : World} {base : Nat} {e : TypeId} {v : Value} {n : Nat} {xs : List Value} (h : w.ownsRow base e 2 v n xs) : ∃ a c, v = .slice a n c := by
  rcases h.2 with ⟨h1, h2⟩ | ⟨g, cap, cur, h1, _⟩
  · subst h2; exact ⟨none, 0, h1⟩
  · exact ⟨_, cap, h1⟩

theorem RHI.len {σ : Type} {size : Nat} {rd : σ → Int × Int × List Int × σ} {cnt m : σ → Nat} {Rd : World → σ → (Nat → Prop) → Prop} {all : List (List Int × Int × σ)} {s0 : σ} {lim : Nat} {M0 : Nat → Prop} {W W' : World} {v : Value} {Cs : List RC} {cs : List (List Int × Int × σ)} {idle fu : Nat} {s : σ} {M : Nat → Prop} (h : RHI size rd cnt m Rd all s0 lim M0 W W' v Cs cs idle fu s M) : Cs.length = cs.length := by
  have := congrArg List.length h.hcs
  simpa [two2] using this
theorem two2_snoc {σ : Type} (l : List (List Int × Int × σ)) (c : List Int × Int × σ) : two2 (l ++ [c]) = two2 l ++ [(c.1, c.2.1)] := by simp [two2]

/-- The list is told: one more is behind it, the last one. -/
theorem RHI.last {σ : Type} {size : Nat} {rd : σ → Int × Int × List Int × σ} {cnt m : σ → Nat} {Rd : World → σ → (Nat → Prop) → Prop} {all : List (List Int × Int × σ)} {s0 : σ} {lim : Nat} {M0 : Nat → Prop} {W W' : World} {v : Value} {Cs : List RC} {cs : List (List Int × Int × σ)} {idle fu : Nat} {s : σ} {M : Nat → Prop} (h : RHI size rd cnt m Rd all s0 lim M0 W W' v Cs cs idle fu s M) (hk : cs.length < lim)
    {w4 : World} {M' : Nat → Prop} {c : RC} {s2 : σ} {v' : Value} (hall : all = cs ++ [(c.b, c.e, s2)]) (hc : CLst W.heap.size w4 v' (Cs ++ [c]) M') (hr : Rd w4 s2 M') (hm : ∀ i, M' i → M0 i ∨ W.heap.size ≤ i) (hu : Upd M0 W w4) : RChPost Rd all s0 lim M0 W (.returned v') w4 := by
  have ht : all.take lim = cs ++ [(c.b, c.e, s2)] := by rw [hall, List.take_of_length_le (by simp; omega)]
  refine ⟨v', Cs ++ [c], M', rfl, hc, ?_, ?_, hm, hu⟩
  · rw [ht, two2_snoc, List.map_append, h.hcs]; rfl
  · rw [ht, endL_snoc]; exact hr

set_option maxRecDepth 100000 in
set_option maxHeartbeats 3200000 in
theorem rchunks_any {σ : Type} {size : Nat} {rd : σ → Int × Int × List Int × σ} {cnt m : σ → Nat} {B : Nat} {Rd : World → σ → (Nat → Prop) → Prop} (g : Nat)
    (R : Reader size rd cnt m 16 (.pointer (some ⟨g, 0, none⟩)) B Rd) (h0 : 1 ≤ size) (h1 : size ≤ 4096) (W : World) (s0 : σ) (M0 : Nat → Prop) (hB : B ≤ W.heap.size) (hR : Rd W s0 M0) (lim : Nat) (hl1 : 1 ≤ lim) (hl2 : lim ≤ 2147483648)
    (hcn : cnt s0 + 17 * m s0 + 16 ≤ 4611686018427387903) :
    Calls Try.prog 23 #[.pointer (some ⟨g, 0, none⟩), .int .i64 size, .int .i64 lim] W (RChPost Rd (chunkA size rd m s0) s0 lim M0 W) := by
  obtain ⟨iC, hiC, hzC0, hzC1, hzC2⟩ := info_partsC infoCk
  have H0 : Hid (RHH size rd cnt m Rd (chunkA size rd m s0) s0 lim M0 W (.slice none 0 0) (.int .i64 0) W (17 * m s0 + 16)) := hide ⟨none, 0, [], [], 0, s0, M0, rfl, rfl, hR, CLst.nil _ _ _, rfl, fun _ h => .inl h, Upd.refl _ _, by omega, .inl (by simp; omega), fun _ => rfl, rfl, by omega, by omega⟩
  have HR := hide R
  have HML := hide (R.lt hR)
  have g1 : ¬ (size : Int) < 1 := by omega
  have g3 : ¬ (4096 : Int) < (size : Int) := by omega
  have hmk := run_zeros size (by omega)
  obtain ⟨all, hall⟩ : ∃ all, all = chunkA size rd m s0 := ⟨_, rfl⟩
  rw [← hall] at H0 ⊢
  clear R hR hcn hall
  go_enter Try.func23, Try.ntmps23
  go_wp2_with fail
  go_loopw [7, 8] (fun a b wr => ∃ fu, RHH size rd cnt m Rd all s0 lim M0 W a b wr fu) (fun a b wr => Classical.epsilon fun n => RHH size rd cnt m Rd all s0 lim M0 W a b wr n ∧ ∀ k, RHH size rd cnt m Rd all s0 lim M0 W a b wr k → n ≤ k)
  case atStart => exact ⟨_, H0.out⟩
  case round =>
    clear H0
    obtain ⟨fu, hfu, av, cv, Cs, cs, idle, s, M, rfl, rfl, hI⟩ := least_get hrel
    clear hrel
    replace hfu := hide hfu
    have hlen := hI.len
    obtain ⟨k, hk⟩ : ∃ k, k = Cs.length := ⟨_, rfl⟩
    obtain ⟨wo, hwo⟩ : ∃ wo, wo = wr := ⟨_, rfl⟩
    subst hwo
    have HI := hide hI
    rw [← hk] at hlen HI hfu ⊢
    have HK := hide hk
    have HLEN := hide hlen
    have hlm := hI.hlm
    have hid := hI.hid
    clear hk hI
    by_cases hlt : cs.length < lim
    · have i1 : (k : Int) < (lim : Int) := by omega
      have hklim : k ≤ 2147483648 := by omega
      have hzo : W.heap.size ≤ wo.heap.size := HI.out.hup.size
      have hML := HR.out.lt HI.out.hrd
      have HRD := hide (HR.out.read (wo.alloc (.cells (zeros size).toArray 5)) s M wo.heap.size (zeros size) (HR.out.upd HI.out.hrd ((Upd.refl Noth _).alloc _) (fun i e => e.elim)) (by have := HI.out.hcn; omega) ⟨fun _ => rfl, heap_alloc_new wo _, by rw [zeros_len]; exact Nat.le_refl _⟩ (zeros_bytes size) (fun e => by have := hML _ e; omega) (by omega))
      have HLT := hide hlt
      clear hlen hlm hlt
      go_wp2_with fail
      refine HRD.out.mono ?_
      rintro e w2 ⟨M', rfl, hr2, hroom2, hu2, hm2, hn2⟩
      have hu2' : Upd M wo w2 := ⟨hu2.os, hu2.tape, hu2.output, Nat.le_trans (by simp) hu2.size, fun b hb hs => (hu2.block b (by simp; omega) (fun e => e.elim hs (fun e => by omega))).trans (Below.heap_alloc _ _ _ hb)⟩
      have hz2 : wo.heap.size < w2.heap.size := by have := hu2.size; simp at this; omega
      have HROW := hide (room_row hroom2)
      have hm2' : ∀ i, M' i → M i ∨ wo.heap.size < i := fun i hi => (hm2 i hi).imp id (fun h => by simp at h; omega)
      have HM' : Hid (∀ i, M' i → M0 i ∨ W.heap.size ≤ i) := hide (fun i hi => (hm2' i hi).elim (fun h => HI.out.hmb i h) (fun h => .inr (by omega)))
      have HUP2 : Hid (Upd M0 W w2) := hide (HI.out.hup.then hu2' (fun i hi e => (HI.out.hmb i e).elim id (fun h => by omega)))
      have HCL2 : Hid (CLst W.heap.size w2 (.slice av k cv) Cs M') := by
        have q := HI.out.hcl.upd hu2' (fun i hi => .inl hi)
        refine ⟨q.own, q.row, fun c hc x hx hp => ⟨(q.loc c hc x hx hp).1, (q.loc c hc x hx hp).2.1, fun e => (hm2' _ e).elim (q.loc c hc x hx hp).2.2 (fun e => ?_)⟩, fun i hi e => (hm2' _ e).elim (q.vm i hi) (fun e => ?_)⟩
        · have := row_ltC (HI.out.hcl.row c hc) hx hp
          omega
        · have := (HI.out.hcl.own.lt i hi).2
          omega
      have HRD2 := hide hr2
      have HN2 := hide hn2
      have HLT' := hide (HR.out.lt hr2)
      have HFT := hide (HR.out.fit s)
      have HSTP : Hid (stp size rd s = if (rd s).1 < 0 ∨ (size : Int) < (rd s).1 then ([], 34, (rd s).2.2.2) else ((rd s).2.2.1, (rd s).2.1, (rd s).2.2.2)) := rfl
      have HDEC := hide (stp_dec HR.out s)
      have HMLE := hide (stp_mle HR.out s)
      have HID := hide (fun hb he => chunkL_idle (step := stp size rd) (fu := fu) (s := s) (idle := idle) (by have := HI.out.hfu; have := HI.out.hid; omega) hb he)
      have HSM := hide (fun h => chunkL_some (step := stp size rd) (fu := fu) (s := s) (idle := idle) (by have := HI.out.hfu; have := HI.out.hid; omega) h)
      clear hu2 hu2' hm2 hm2' hn2 hr2 hroom2 hML HRD
      generalize rd s = q at *
      obtain ⟨n, er, bs, s2⟩ := q
      simp only at HSTP HFT HROW HRD2
      have HEQ := hide HI.out.heq
      have HBN : Hid ((k + 1) * 32 ≤ 140737488355328) := by show _ ≤ _; omega
      have HMX : Hid (k + 1 ≤ maxLen) := by show _ ≤ _; unfold maxLen; omega
      have HWS : Hid (W.heap.size ≤ w2.heap.size) := HUP2.out.size
      by_cases hbad : n < 0 ∨ (size : Int) < n
      · have hst : stp size rd s = ([], 34, s2) := by rw [HSTP.out, if_pos hbad]
        have hal : all = cs ++ [([], 34, s2)] := by rw [HEQ.out, HSM.out (by rw [hst]; simp), hst]; simp
        have u3 : Upd Noth w2 (w2.alloc (.cells #[.slice none 0 0, .int .i64 34] 59)) := (Upd.refl _ _).alloc _
        have HC3 := hide (HCL2.out.upd u3 (fun i e => e.elim))
        have HW3 : Hid (w2.heap.size < (w2.alloc (.cells #[.slice none 0 0, .int .i64 34] 59)).heap.size) := by show _ < _; rw [World.size_alloc]; omega
        have NW := hide (World.news_of_block (heap_alloc_new w2 (.cells #[.slice none 0 0, .int .i64 34] 59)))
        have HF : Hid (∀ g4 c4 w4, w4.ownsRow W.heap.size 59 2 (.slice (some ⟨g4, 0, none⟩) (k + 1) c4) (k + 1) (cellsC Cs ++ [.slice none 0 0, .int .i64 34]) → (w2.alloc (.cells #[.slice none 0 0, .int .i64 34] 59)).grownBy w4 (Value.slice av k cv).ownBlock → ((Value.slice av k cv).ownBlock = some g4 ∨ (w2.alloc (.cells #[.slice none 0 0, .int .i64 34] 59)).heap.size ≤ g4) → RChPost Rd all s0 lim M0 W (.returned (.slice (some ⟨g4, 0, none⟩) (k + 1) c4)) w4) := fun g4 c4 w4 ho hg hk4 => by
          have hu4 : Upd (fun i => (Value.slice av k cv).ownBlock = some i) (w2.alloc (.cells #[.slice none 0 0, .int .i64 34] 59)) w4 := Upd.of_grown hg (fun k hk _ => hk)
          refine HI.out.last HLT.out (c := ⟨none, 0, [], 34⟩) (s2 := s2) hal (HC3.out.snoc hg (by rw [← HK.out]; exact ho) (fun b hb => ?_) (row_nil _ _ _) (fun x hx => by cases hx) (fun i hi => by have := (HLT'.out i hi).2; have := HW3.out; omega)) (HR.out.upd (HR.out.upd HRD2.out u3 (fun i e => e.elim)) hu4 (fun i hi => ⟨by have := (HCL2.out.own.lt i hi).1; omega, fun e => HCL2.out.vm i hi e⟩)) HM'.out ((HUP2.out.trans u3.noth).then hu4 (fun i hi e => by have := (HCL2.out.own.lt i e).1; omega))
          have : g4 = b := by simpa [Value.ownBlock] using hb
          subst this
          exact hk4
        have HO3 := hide HC3.out.own
        rw [← HK.out] at HO3
        clear hst hal u3 HSTP HFT HDEC HMLE HID HSM
        have HWB : Hid (W.heap.size ≤ (w2.alloc (.cells #[.slice none 0 0, .int .i64 34] 59)).heap.size) := by show _ ≤ _; have := HW3.out; have := HWS.out; omega
        rcases hbad with hneg | hbig
        · go_wp2_with (first
            | (at_builtin; refine app_liesC rfl (.tmp 43) (.tmp 45) 53 rfl W.heap.size 59 iC (.agg #[.slice none 0 0, .int .i64 0]) 2 32 Try.underlying53 hiC hzC0 hzC1 hzC2 rfl (by decide) (.slice av k cv) k (cellsC Cs) rfl HO3.out ⟨w2.heap.size, 0, none⟩ 1 [.slice none 0 0, .int .i64 34] rfl rfl NW.out (by intro u hu; simp at hu; rcases hu with rfl | rfl <;> rfl) HMX.out HBN.out HWB.out ?_; intro g4 c4 w4 o4 gr4 k4; have HF4 := hide (HF.out g4 c4 w4 o4 gr4 k4); clear o4 gr4 k4)
            | fail)
          go_ret
          exact HF4.out
        · have hneg : ¬ n < 0 := by omega
          go_wp2_with (first
            | (at_builtin; refine app_liesC rfl (.tmp 43) (.tmp 45) 53 rfl W.heap.size 59 iC (.agg #[.slice none 0 0, .int .i64 0]) 2 32 Try.underlying53 hiC hzC0 hzC1 hzC2 rfl (by decide) (.slice av k cv) k (cellsC Cs) rfl HO3.out ⟨w2.heap.size, 0, none⟩ 1 [.slice none 0 0, .int .i64 34] rfl rfl NW.out (by intro u hu; simp at hu; rcases hu with rfl | rfl <;> rfl) HMX.out HBN.out HWB.out ?_; intro g4 c4 w4 o4 gr4 k4; have HF4 := hide (HF.out g4 c4 w4 o4 gr4 k4); clear o4 gr4 k4)
            | fail)
          go_ret
          exact HF4.out
      · obtain ⟨x, rfl⟩ : ∃ x : Nat, n = x := ⟨n.toNat, by omega⟩
        have hbl : bs.length = x := by have := HFT.out (by omega) (by omega); simpa using this
        have hst : stp size rd s = (bs, er, s2) := by rw [HSTP.out, if_neg hbad]
        rw [hst] at HDEC HMLE HID HSM
        simp only at HDEC HMLE HID HSM
        have n1 : ¬ (x : Int) < 0 := by omega
        have n2 : ¬ (size : Int) < (x : Int) := by omega
        have n3 : (0 : Int) ≤ (x : Int) := by omega
        have n4 : (x : Int) ≤ (size : Int) := by omega
        have hfu1 := hide HI.out.hfu
        have hcn1 := hide HI.out.hcn
        clear hbad HSTP HFT hst
        by_cases hidle : x = 0 ∧ er = 0
        · obtain ⟨rfl, rfl⟩ := hidle
          obtain rfl : bs = [] := List.eq_nil_of_length_eq_zero hbl
          by_cases h16 : idle + 1 = 16
          · obtain rfl : idle = 15 := by omega
            have hal : all = cs ++ [([], 33, s2)] := by rw [HEQ.out, HID.out rfl rfl, if_neg (by omega)]
            have u3 : Upd Noth w2 (w2.alloc (.cells #[.slice none 0 0, .int .i64 33] 59)) := (Upd.refl _ _).alloc _
            have HC3 := hide (HCL2.out.upd u3 (fun i e => e.elim))
            have HW3 : Hid (w2.heap.size < (w2.alloc (.cells #[.slice none 0 0, .int .i64 33] 59)).heap.size) := by show _ < _; rw [World.size_alloc]; omega
            have NW := hide (World.news_of_block (heap_alloc_new w2 (.cells #[.slice none 0 0, .int .i64 33] 59)))
            have HF : Hid (∀ g4 c4 w4, w4.ownsRow W.heap.size 59 2 (.slice (some ⟨g4, 0, none⟩) (k + 1) c4) (k + 1) (cellsC Cs ++ [.slice none 0 0, .int .i64 33]) → (w2.alloc (.cells #[.slice none 0 0, .int .i64 33] 59)).grownBy w4 (Value.slice av k cv).ownBlock → ((Value.slice av k cv).ownBlock = some g4 ∨ (w2.alloc (.cells #[.slice none 0 0, .int .i64 33] 59)).heap.size ≤ g4) → RChPost Rd all s0 lim M0 W (.returned (.slice (some ⟨g4, 0, none⟩) (k + 1) c4)) w4) := fun g4 c4 w4 ho hg hk4 => by
              have hu4 : Upd (fun i => (Value.slice av k cv).ownBlock = some i) (w2.alloc (.cells #[.slice none 0 0, .int .i64 33] 59)) w4 := Upd.of_grown hg (fun k hk _ => hk)
              refine HI.out.last HLT.out (c := ⟨none, 0, [], 33⟩) (s2 := s2) hal (HC3.out.snoc hg (by rw [← HK.out]; exact ho) (fun b hb => ?_) (row_nil _ _ _) (fun x hx => by cases hx) (fun i hi => by have := (HLT'.out i hi).2; have := HW3.out; omega)) (HR.out.upd (HR.out.upd HRD2.out u3 (fun i e => e.elim)) hu4 (fun i hi => ⟨by have := (HCL2.out.own.lt i hi).1; omega, fun e => HCL2.out.vm i hi e⟩)) HM'.out ((HUP2.out.trans u3.noth).then hu4 (fun i hi e => by have := (HCL2.out.own.lt i e).1; omega))
              have : g4 = b := by simpa [Value.ownBlock] using hb
              subst this
              exact hk4
            have HO3 := hide HC3.out.own
            rw [← HK.out] at HO3
            have HWB : Hid (W.heap.size ≤ (w2.alloc (.cells #[.slice none 0 0, .int .i64 33] 59)).heap.size) := by show _ ≤ _; have := HW3.out; have := HWS.out; omega
            rw [show ((15 : Nat) : Int) = 15 from rfl, show ((0 : Nat) : Int) = 0 from rfl]
            clear hal u3 HDEC HMLE HID HSM n1 n2 n3 n4 h16 hbl
            go_wp2_with (first
              | (at_builtin; refine app_liesC rfl (.tmp 68) (.tmp 70) 53 rfl W.heap.size 59 iC (.agg #[.slice none 0 0, .int .i64 0]) 2 32 Try.underlying53 hiC hzC0 hzC1 hzC2 rfl (by decide) (.slice av k cv) k (cellsC Cs) rfl HO3.out ⟨w2.heap.size, 0, none⟩ 1 [.slice none 0 0, .int .i64 33] rfl rfl NW.out (by intro u hu; simp at hu; rcases hu with rfl | rfl <;> rfl) HMX.out HBN.out HWB.out ?_; intro g4 c4 w4 o4 gr4 k4; have HF4 := hide (HF.out g4 c4 w4 o4 gr4 k4); clear o4 gr4 k4)
              | fail)
            go_ret
            exact HF4.out
          · have HN : Hid (RHH size rd cnt m Rd all s0 lim M0 W (.slice av k cv) (.int .i64 ((idle + 1 : Nat) : Int)) w2 (fu - 1)) := by
              refine ⟨av, cv, Cs, cs, idle + 1, s2, M', by rw [← HK.out], rfl, HRD2.out, by rw [← HK.out]; exact HCL2.out, HI.out.hcs, HM'.out, HUP2.out, by omega, .inl HLT.out, fun h => absurd h (by omega), by rw [HEQ.out, HID.out rfl rfl, if_pos (by omega)], ?_, ?_⟩
              · have := HMLE.out; have := hfu1.out; omega
              · have := HMLE.out; have := hcn1.out; omega
            rw [show ((idle + 1 : Nat) : Int) = (idle : Int) + 1 by omega] at HN
            have h16' : ¬ (idle : Int) + 1 = 16 := by omega
            rw [show ((0 : Nat) : Int) = 0 from rfl]
            clear HDEC HMLE HID HSM n1 n2 n3 n4 h16 hbl
            go_wp2_with fail
            go_roundw
            case rel => exact ⟨_, HN.out⟩
            case measure => exact least_lt (fu := fu) (k := fu - 1) hfu.out HN.out (by have := hfu1.out; have := HI.out.hid; omega)
        · have hbe : ¬ (bs = [] ∧ er = 0) := fun e => hidle ⟨by rw [← hbl, e.1]; rfl, e.2⟩
          have hal : all = cs ++ ((bs, er, s2) :: (if er = 0 then chunkL (stp size rd) (fu - 1) s2 0 else [])) := by rw [HEQ.out, HSM.out hbe]
          have u3 : Upd Noth w2 (w2.alloc (.cells #[.slice (some ⟨wo.heap.size, 0, none⟩) x size, .int .i64 er] 59)) := (Upd.refl _ _).alloc _
          have HC3 := hide (HCL2.out.upd u3 (fun i e => e.elim))
          have HW3 : Hid (w2.heap.size < (w2.alloc (.cells #[.slice (some ⟨wo.heap.size, 0, none⟩) x size, .int .i64 er] 59)).heap.size) := by show _ < _; rw [World.size_alloc]; omega
          have NW := hide (World.news_of_block (heap_alloc_new w2 (.cells #[.slice (some ⟨wo.heap.size, 0, none⟩) x size, .int .i64 er] 59)))
          have hvo : ∀ i, (Value.slice av k cv).ownBlock = some i → i ≠ wo.heap.size := fun i hi e => by
            have q := HI.out.hcl.own
            have := (q.lt i hi).2
            omega
          have HF : Hid (∀ g4 c4 w4, w4.ownsRow W.heap.size 59 2 (.slice (some ⟨g4, 0, none⟩) (k + 1) c4) (k + 1) (cellsC Cs ++ [.slice (some ⟨wo.heap.size, 0, none⟩) x size, .int .i64 er]) → (w2.alloc (.cells #[.slice (some ⟨wo.heap.size, 0, none⟩) x size, .int .i64 er] 59)).grownBy w4 (Value.slice av k cv).ownBlock → ((Value.slice av k cv).ownBlock = some g4 ∨ (w2.alloc (.cells #[.slice (some ⟨wo.heap.size, 0, none⟩) x size, .int .i64 er] 59)).heap.size ≤ g4) → CLst W.heap.size w4 (.slice (some ⟨g4, 0, none⟩) (k + 1) c4) (Cs ++ [⟨some ⟨wo.heap.size, 0, none⟩, size, bs, er⟩]) M' ∧ Rd w4 s2 M' ∧ Upd M0 W w4) := fun g4 c4 w4 ho hg hk4 => by
            have hu4 : Upd (fun i => (Value.slice av k cv).ownBlock = some i) (w2.alloc (.cells #[.slice (some ⟨wo.heap.size, 0, none⟩) x size, .int .i64 er] 59)) w4 := Upd.of_grown hg (fun k hk _ => hk)
            refine ⟨HC3.out.snoc hg ?_ (fun b hb => ?_) (HROW.out.upd u3 (fun _ _ _ e => e)) (fun y hy _ => ?_) (fun i hi => by have := (HLT'.out i hi).2; have := HW3.out; omega), HR.out.upd (HR.out.upd HRD2.out u3 (fun i e => e.elim)) hu4 (fun i hi => ⟨by have := (HCL2.out.own.lt i hi).1; omega, fun e => HCL2.out.vm i hi e⟩), (HUP2.out.trans u3.noth).then hu4 (fun i hi e => by have := (HCL2.out.own.lt i e).1; omega)⟩
            · rw [← HK.out]
              simp only [RC.bv]
              rw [hbl]
              exact ho
            · have : g4 = b := by simpa [Value.ownBlock] using hb
              subst this
              exact hk4
            · cases hy
              exact ⟨hzo, fun e => hvo _ e rfl, HN2.out⟩
          have HO3 := hide HC3.out.own
          rw [← HK.out] at HO3
          have HWB : Hid (W.heap.size ≤ (w2.alloc (.cells #[.slice (some ⟨wo.heap.size, 0, none⟩) x size, .int .i64 er] 59)).heap.size) := by show _ ≤ _; have := HW3.out; have := HWS.out; omega
          have HAL := hide hal
          have HBL := hide hbl
          have HBE := hide hbe
          have hl1' : (Cs ++ [(⟨some ⟨wo.heap.size, 0, none⟩, size, bs, er⟩ : RC)]).length = k + 1 := by rw [List.length_append, List.length_singleton, ← HK.out]
          have HL1 := hide hl1'
          have hcase : ((0 : Int) < (x : Int)) ∨ (¬ (0 : Int) < (x : Int) ∧ (er != 0) = true) := by
            by_cases hx : x = 0
            · exact .inr ⟨by omega, by simp; exact fun e => hidle ⟨hx, e⟩⟩
            · exact .inl (by omega)
          clear hal u3 hvo hbl hbe hidle HID HSM hl1'
          by_cases he : er = 0
          · subst he
            have q1 : (0 : Int) < (x : Int) := hcase.resolve_right (fun e => by simp at e)
            have HD2 := hide (HDEC.out (fun e => by have := HBL.out; rw [e] at this; simp at this; omega) rfl)
            have HAL2 : Hid (all = cs ++ [(bs, 0, s2)] ++ chunkL (stp size rd) (fu - 1) s2 0) := by show _ = _; rw [HAL.out, if_pos rfl, List.append_assoc]; rfl
            clear hcase HDEC HAL
            go_wp2_with (first
              | (at_builtin; refine app_liesC rfl (.tmp 53) (.tmp 59) 53 rfl W.heap.size 59 iC (.agg #[.slice none 0 0, .int .i64 0]) 2 32 Try.underlying53 hiC hzC0 hzC1 hzC2 rfl (by decide) (.slice av k cv) k (cellsC Cs) rfl HO3.out ⟨w2.heap.size, 0, none⟩ 1 [.slice (some ⟨wo.heap.size, 0, none⟩) x size, .int .i64 0] rfl rfl NW.out (by intro u hu; simp at hu; rcases hu with rfl | rfl <;> rfl) HMX.out HBN.out HWB.out ?_; intro g4 c4 w4 o4 gr4 k4; have HF4 := hide (HF.out g4 c4 w4 o4 gr4 k4); clear o4 gr4 k4)
              | fail)
            obtain ⟨r1, r2, r3⟩ := HF4.out
            have HN : Hid (RHH size rd cnt m Rd all s0 lim M0 W (.slice (some ⟨g4, 0, none⟩) (k + 1) c4) (.int .i64 0) w4 (fu - 1)) := by
              have hd := HD2.out
              refine ⟨some ⟨g4, 0, none⟩, c4, Cs ++ [⟨some ⟨wo.heap.size, 0, none⟩, size, bs, 0⟩], cs ++ [(bs, 0, s2)], 0, s2, M', by rw [HL1.out], rfl, r2, by rw [HL1.out]; exact r1, by rw [two2_snoc, List.map_append, HI.out.hcs]; rfl, HM'.out, r3, by omega, ?_, fun _ => by rw [endL_snoc], HAL2.out, ?_, ?_⟩
              · have := HLT.out; rw [List.length_append, List.length_singleton]; omega
              · have := hfu1.out; omega
              · have := hcn1.out; have := HMLE.out; omega
            clear r1 r2 r3
            go_wp2_with fail
            go_roundw
            case rel => exact ⟨_, HN.out⟩
            case measure => exact least_lt (fu := fu) (k := fu - 1) hfu.out HN.out (by have := hfu1.out; have := HI.out.hid; omega)
          · have he1 : (er != 0) = true := by simp [he]
            have HE := hide he
            clear he
            rcases hcase with q1 | ⟨q1, _⟩
            · go_wp2_with (first
                | (at_builtin; refine app_liesC rfl (.tmp 53) (.tmp 59) 53 rfl W.heap.size 59 iC (.agg #[.slice none 0 0, .int .i64 0]) 2 32 Try.underlying53 hiC hzC0 hzC1 hzC2 rfl (by decide) (.slice av k cv) k (cellsC Cs) rfl HO3.out ⟨w2.heap.size, 0, none⟩ 1 [.slice (some ⟨wo.heap.size, 0, none⟩) x size, .int .i64 er] rfl rfl NW.out (by intro u hu; simp at hu; rcases hu with rfl | rfl <;> rfl) HMX.out HBN.out HWB.out ?_; intro g4 c4 w4 o4 gr4 k4; have HF4 := hide (HF.out g4 c4 w4 o4 gr4 k4); clear o4 gr4 k4)
                | fail)
              obtain ⟨r1, r2, r3⟩ := HF4.out
              have HG : Hid (RChPost Rd all s0 lim M0 W (.returned (.slice (some ⟨g4, 0, none⟩) (k + 1) c4)) w4) := HI.out.last HLT.out (c := ⟨some ⟨wo.heap.size, 0, none⟩, size, bs, er⟩) (s2 := s2) (by rw [HAL.out, if_neg HE.out]) r1 r2 HM'.out r3
              clear r1 r2 r3
              go_wp2_with fail
              go_ret
              exact HG.out
            · obtain rfl : x = 0 := by omega
              rw [show ((0 : Nat) : Int) = 0 from rfl]
              go_wp2_with (first
                | (at_builtin; refine app_liesC rfl (.tmp 53) (.tmp 59) 53 rfl W.heap.size 59 iC (.agg #[.slice none 0 0, .int .i64 0]) 2 32 Try.underlying53 hiC hzC0 hzC1 hzC2 rfl (by decide) (.slice av k cv) k (cellsC Cs) rfl HO3.out ⟨w2.heap.size, 0, none⟩ 1 [.slice (some ⟨wo.heap.size, 0, none⟩) 0 size, .int .i64 er] rfl rfl NW.out (by intro u hu; simp at hu; rcases hu with rfl | rfl <;> rfl) HMX.out HBN.out HWB.out ?_; intro g4 c4 w4 o4 gr4 k4; have HF4 := hide (HF.out g4 c4 w4 o4 gr4 k4); clear o4 gr4 k4)
                | fail)
              obtain ⟨r1, r2, r3⟩ := HF4.out
              have HG : Hid (RChPost Rd all s0 lim M0 W (.returned (.slice (some ⟨g4, 0, none⟩) (k + 1) c4)) w4) := HI.out.last HLT.out (c := ⟨some ⟨wo.heap.size, 0, none⟩, size, bs, er⟩) (s2 := s2) (by rw [HAL.out, if_neg HE.out]) r1 r2 HM'.out r3
              clear r1 r2 r3
              go_wp2_with fail
              go_ret
              exact HG.out
    · have hke : cs.length = lim ∧ idle = 0 := hlm.resolve_left hlt
      obtain ⟨hke, rfl⟩ := hke
      have i1 : ¬ (k : Int) < (lim : Int) := by omega
      have ht : all.take lim = cs := by rw [HI.out.heq, ← hke, List.take_left']; rfl
      have HF : Hid (RChPost Rd all s0 lim M0 W (.returned (.slice av k cv)) wo) := ⟨_, Cs, M, rfl, HI.out.hcl, by rw [ht]; exact HI.out.hcs, by rw [ht, ← HI.out.hst rfl]; exact HI.out.hrd, HI.out.hmb, HI.out.hup⟩
      clear hlen hlm hlt hke ht
      go_wp2_with fail
      go_ret
      exact HF.out

end Go.Proofs.Ytcffekhlnidjnaa
