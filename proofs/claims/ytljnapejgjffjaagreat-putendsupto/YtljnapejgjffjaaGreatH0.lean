/- Texts of one's own. -/
import Derived.WalkKit
import Derived.Laws.BitsAllLaws
namespace Go.Proofs.YtljnapejgjffjaaGreat
def poly : Nat := 3988292384
def st (r : Nat) : Nat := if r % 2 = 1 then (r / 2) ^^^ poly else r / 2
def bk (r : Nat) : Nat := if 2147483648 ≤ r then 2 * (r ^^^ poly) + 1 else 2 * r
def B8 (zs : List Int) : Prop := ∀ c ∈ zs,0 ≤ c ∧ c ≤ 255
theorem B8.tail {c : Int} {cs : List Int} (h : B8 (c :: cs)) : B8 cs := fun x hx => h x (List.mem_cons_of_mem _ hx)
theorem B8.head {c : Int} {cs : List Int} (h : B8 (c :: cs)) : 0 ≤ c ∧ c ≤ 255 := h c List.mem_cons_self
theorem B8.take {a : List Int} (h : B8 a) (n : Nat) : B8 (a.take n) := fun x hx => h x (List.mem_of_mem_take hx)
theorem B8.drop {a : List Int} (h : B8 a) (n : Nat) : B8 (a.drop n) := fun x hx => h x (List.mem_of_mem_drop hx)
theorem B8.nil : B8 [] := fun _ h => by cases h
end Go.Proofs.YtljnapejgjffjaaGreat
