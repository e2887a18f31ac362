/- Texts of one's own. -/
import Derived.Test.YtljnapejgjffjaaGreatH2
import Derived.Lib.Bytealg
import Derived.Lib.Bytes
namespace Go.Proofs.YtljnapejgjffjaaGreat
open Go.RowKit
set_option maxRecDepth 100000
def comN : List Int → List Int → Nat
 | x :: xs,y :: ys => if x = y then comN xs ys + 1 else 0
 | _,_ => 0
theorem comN_nil_l (b : List Int) : comN [] b = 0 := by cases b <;> rfl
theorem comN_nil_r (a : List Int) : comN a [] = 0 := by cases a <;> rfl
theorem comN_same (x : Int) (a b : List Int) : comN (x :: a) (x :: b) = comN a b + 1 := by rw [comN,if_pos rfl]
theorem comN_unlike {x y : Int} (h : x ≠ y) (a b : List Int) : comN (x :: a) (y :: b) = 0 := by rw [comN,if_neg h]
theorem comN_of : ∀ (n : Nat) (a b : List Int),n ≤ a.length → n ≤ b.length → (∀ i,i < n → a.getD i 0 = b.getD i 0) → (n = a.length ∨ n = b.length ∨ a.getD n 0 ≠ b.getD n 0) → comN a b = n
 | 0,[],b,_,_,_,_ => comN_nil_l b
 | 0,x :: a,[],_,_,_,_ => comN_nil_r _
 | 0,x :: a,y :: b,_,_,_,h => by
  rcases h with h | h | h
  ·simp at h
  ·simp at h
  ·exact comN_unlike (by simpa using h) a b
 | n + 1,[],b,h,_,_,_ => by simp at h
 | n + 1,x :: a,[],_,h,_,_ => by simp at h
 | n + 1,x :: a,y :: b,h1,h2,h3,h4 => by
  have h0 := h3 0 (by omega)
  simp only [List.getD_cons_zero] at h0
  subst h0
  simp only [List.length_cons] at h1 h2 h4
  rw [comN_same,comN_of n a b (by omega) (by omega) (fun i hi => by have := h3 (i + 1) (by omega); simpa only [List.getD_cons_succ] using this) (by
   simp only [List.getD_cons_succ] at h4
   rcases h4 with h | h | h
   ·exact .inl (by omega)
   ·exact .inr (.inl (by omega))
   ·exact .inr (.inr h))]
def cmpI : List Int → List Int → Int
 | [],[] => 0
 | [],_ :: _ => -1
 | _ :: _,[] => 1
 | x :: xs,y :: ys => if x < y then -1 else if y < x then 1 else cmpI xs ys
theorem cmpI_same (x : Int) (a b : List Int) : cmpI (x :: a) (x :: b) = cmpI a b := by rw [cmpI,if_neg (Int.lt_irrefl x),if_neg (Int.lt_irrefl x)]
theorem cmpI_lt {x y : Int} (h : x < y) (a b : List Int) : cmpI (x :: a) (y :: b) = -1 := by rw [cmpI,if_pos h]
theorem cmpI_gt {x y : Int} (h : y < x) (a b : List Int) : cmpI (x :: a) (y :: b) = 1 := by rw [cmpI,if_neg (by omega),if_pos h]
theorem cmpI_cons_nil (x : Int) (a : List Int) : cmpI (x :: a) [] = 1 := rfl
theorem three (x y : Int) : x < y ∨ x = y ∨ y < x := by omega
theorem cmpI_range : ∀ a b : List Int,cmpI a b = -1 ∨ cmpI a b = 0 ∨ cmpI a b = 1
 | [],[] => .inr (.inl rfl)
 | [],_ :: _ => .inl rfl
 | _ :: _,[] => .inr (.inr rfl)
 | x :: a,y :: b => by
  rcases three x y with h | h | h
  ·exact .inl (cmpI_lt h a b)
  ·subst h; rw [cmpI_same]; exact cmpI_range a b
  ·exact .inr (.inr (cmpI_gt h a b))
theorem cmpI_swap : ∀ a b : List Int,cmpI b a = -cmpI a b
 | [],[] => rfl
 | [],_ :: _ => rfl
 | _ :: _,[] => rfl
 | x :: a,y :: b => by
  rcases three x y with h | h | h
  ·rw [cmpI_lt h,cmpI_gt h]; rfl
  ·subst h; rw [cmpI_same,cmpI_same]; exact cmpI_swap a b
  ·rw [cmpI_lt h,cmpI_gt h]
theorem cmpI_refl : ∀ a : List Int,cmpI a a = 0
 | [] => rfl
 | x :: a => by rw [cmpI_same]; exact cmpI_refl a
theorem cmpI_zero : ∀ a b : List Int,cmpI a b = 0 → a = b
 | [],[],_ => rfl
 | [],_ :: _,h => by simp [cmpI] at h
 | _ :: _,[],h => by simp [cmpI] at h
 | x :: a,y :: b,h => by
  rcases three x y with e | e | e
  ·rw [cmpI_lt e] at h; omega
  ·subst e; rw [cmpI_same] at h; rw [cmpI_zero a b h]
  ·rw [cmpI_gt e] at h; omega
theorem cmpI_trans : ∀ a b c : List Int,cmpI a b ≤ 0 → cmpI b c ≤ 0 → cmpI a c ≤ 0 ∧ (cmpI a b < 0 → cmpI a c < 0)
 | [],[],[],_,_ => by simp [cmpI]
 | [],[],_ :: _,_,_ => by simp [cmpI]
 | [],_ :: _,[],_,h => by simp [cmpI] at h
 | [],_ :: _,_ :: _,_,_ => by simp [cmpI]
 | _ :: _,[],_,h,_ => by simp [cmpI] at h
 | _ :: _,_ :: _,[],_,h => by simp [cmpI] at h
 | x :: a,y :: b,z :: c,h1,h2 => by
  rcases three x y with e | e | e
  ·rcases three y z with f | f | f
   ·rw [cmpI_lt (show x < z by omega)]; omega
   ·rw [cmpI_lt (show x < z by omega)]; omega
   ·rw [cmpI_gt f] at h2; omega
  ·subst e
   rcases three x z with f | f | f
   ·rw [cmpI_lt f]; omega
   ·subst f; rw [cmpI_same] at *; rw [cmpI_same] at *; exact cmpI_trans a b c h1 h2
   ·rw [cmpI_gt f] at h2; omega
  ·rw [cmpI_gt e] at h1; omega
theorem cmpI_com : ∀ a b : List Int,cmpI a b = if comN a b = a.length then (if comN a b = b.length then 0 else -1) else if comN a b = b.length then 1 else if a.getD (comN a b) 0 < b.getD (comN a b) 0 then -1 else 1
 | [],[] => rfl
 | [],_ :: _ => rfl
 | _ :: _,[] => rfl
 | x :: a,y :: b => by
  rcases three x y with e | e | e
  ·rw [cmpI_lt e,comN_unlike (by omega)]; simp [e]
  ·subst e
   rw [cmpI_same,comN_same,cmpI_com a b]
   simp only [List.length_cons,List.getD_cons_succ,Nat.add_right_cancel_iff]
  ·rw [cmpI_gt e,comN_unlike (by omega)]; simp; omega
theorem cmpI_bytes : ∀ (a b : List Int),B8 a → B8 b → Lib.compareBytes (Lib.bytesOf a) (Lib.bytesOf b) = cmpI a b
 | [],[],_,_ => rfl
 | [],_ :: _,_,_ => rfl
 | _ :: _,[],_,_ => rfl
 | x :: a,y :: b,ha,hb => by
  have hx := ha.head
  have hy := hb.head
  have ih := cmpI_bytes a b ha.tail hb.tail
  have lt : ∀ u v : Int,0 ≤ u ∧ u ≤ 255 → 0 ≤ v ∧ v ≤ 255 → ((UInt8.ofNat u.toNat < UInt8.ofNat v.toNat) ↔ u < v) := by
   intro u v hu hv
   rw [UInt8.lt_iff_toNat_lt]
   simp only [UInt8.toNat_ofNat']
   omega
  show Lib.compareBytes (UInt8.ofNat x.toNat :: Lib.bytesOf a) (UInt8.ofNat y.toNat :: Lib.bytesOf b) = _
  rw [Lib.compareBytes,cmpI,ih]
  simp only [lt x y hx hy,lt y x hy hx]
end Go.Proofs.YtljnapejgjffjaaGreat
