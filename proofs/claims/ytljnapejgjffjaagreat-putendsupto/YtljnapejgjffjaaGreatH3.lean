/- Texts of one's own. -/
import Derived.Test.YtljnapejgjffjaaGreatH2
import Derived.ArgAppend
namespace Go.Proofs.YtljnapejgjffjaaGreat
open Go.RowKit
set_option maxRecDepth 100000
theorem append_mineN {P : Program} {w : World} {ops : Array Oper} {rest : List Oper} {o : Oper} {a : Act} {Q : Exit → Act → World → Prop} (hgd : o.guard = none) (s x : Operand) (t : TypeId)
  (ho : o.op = .call { callee := .builtin .append,args := #[s,x],argTypes := #[t,t] })
  (base : Nat) (e : TypeId) (i : TypeInfo) (z : Value) (size bytes : Nat) (ht : P.underlying t = some (.slice e)) (hi : P.info? e = some i) (hz : i.zero = some z)
  (hsize : i.size = size) (hby : i.bytes = bytes) (hzs : z.cells.size = size) (hsz : 0 < size)
  (v : Value) (n : Nat) (xs : List Value) (hs : a.eval s = v) (hown : w.ownsRow base e size v n xs)
  (ad : Addr) (m c : Nat) (news : List Value) (hx : a.eval x = .slice (some ad) m c) (hl : news.length = m * size) (hnews : ∀ j u,news[j]? = some u → w.cell? (ad.add j) = some u) (h1 : ∀ u ∈ news,u.oneCell' = true)
  (hm : 0 < m) (h63 : n + m ≤ maxLen) (hbytes : (n + m) * bytes ≤ 140737488355328) (hbase : base ≤ w.heap.size)
  (h : ∀ g' cap' w',w'.ownsRow base e size (.slice (some ⟨g',0,none⟩) (n + m) cap') (n + m) (xs ++ news) → w.grownBy w' v.ownBlock → (v.ownBlock = some g' ∨ w.heap.size ≤ g') →
   wpList P ops Q rest (a.put o.dst (.slice (some ⟨g',0,none⟩) (n + m) cap')) w') : wpList P ops Q (o :: rest) a w := by
 have grow : ∀ (ao : Option Addr) (cap : Nat),v = .slice ao n cap → (ao = none → n = 0 ∧ cap = 0) → (∀ b,ao = some b → ∀ j u,xs[j]? = some u → w.cell? (b.add j) = some u) → cap < n + m → wpList P ops Q (o :: rest) a w := by
  intro ao cap hv hnone hcells hfull
  refine wpList_append_grows w hgd s x t ho e i z size bytes ht hi hz hsize hby hzs hsz ao n cap xs (by rw [hs,hv]) hnone hown.1 hcells ad m c news hx hl hnews h1 hfull h63 hbytes ?_
  intro v' w' r1 r2
  rcases r1.2 with ⟨_,h0⟩ | ⟨g,cap',cur,rfl,hg,r⟩
  ·omega
  ·refine h g cap' w' (owns_mono r1 hbase) ⟨r2.os,r2.tape,r2.output,r2.size,fun k hk _ => r2.block k hk (by simp)⟩ (.inr hg)
 rcases hown.2 with ⟨hv,hn0⟩ | ⟨g,cap,cur,hv,hb,hg,hn,hcm,hsz,htake⟩
 ·subst hn0
  exact grow none 0 hv (fun _ => ⟨rfl,rfl⟩) (fun b h => by cases h) (by omega)
 ·by_cases hroom : n + m ≤ cap
  ·refine wpList_append_fits w hgd s x t ho base e i size ht hi hsize g n cap xs (by rw [hs,hv]) (by rw [← hv]; exact hown) ad m c news hx hl hnews h1 hroom ?_
   intro w' r1 r2
   have hob : v.ownBlock = some g := by rw [hv]; rfl
   exact h g cap w' r1 (by rw [hob]; exact r2) (.inl hob)
  ·refine grow (some ⟨g,0,none⟩) cap hv (fun h => by cases h) (fun b h => ?_) (by omega)
   cases h
   exact hown.cells (by rw [hv]; rfl)
end Go.Proofs.YtljnapejgjffjaaGreat
