/- FootReads: the walk. -/
import Derived.Test.YtlachimmfjagbaaFWrites
import Derived.Test.YtlachimmfjagbaaFRRead
import Derived.Test.YtlachimmfjagbaaFSpoil
namespace Go.Proofs.Ytlachimmfjagbaa
open Go.RowKit

set_option maxRecDepth 100000 in
set_option maxHeartbeats 1600000 in
theorem footReads_any (a : Option Addr) (l c : Nat) (zs : List Int) (w : World) (hl : zs.length = l) (hm : l ≤ 140737488351232) (hlc : l ≤ c) (hna : a = none → l = 0 ∧ c = 0) (hr : Row w .u8 a zs) (z8 : B8 zs) :
    Calls Try.prog 5 #[.slice a l c] w fun e w' => e = .returned (.bool true) ∧ Below w.heap.size w w' := by
  have HR := hide (fun W (h : Below w.heap.size w W) => hr.below2 h)
  clear hr
  go_enter Try.func5, Try.ntmps5
  go_wp2_with fail
  refine (flives_any w).mono ?_
  rintro e w1 ⟨rfl, b1⟩
  have B1 := hide b1
  clear b1
  go_wp2_with fail
  refine (lent_any a l c zs w1 hl hm hna (HR.out w1 B1.out)).mono ?_
  rintro e w2 ⟨rfl, hL2, b2⟩
  have L2 := hide hL2
  have B2 : Hid (Below w.heap.size w w2) := B1.out.trans (b2.mono B1.out.size)
  generalize w1.heap.size = g at *
  clear hL2 b2
  go_wp2_with fail
  refine (fread_any (some ⟨g, 0, none⟩) l (l + 2) zs w2 hl hm (by omega) (fun h => by cases h) L2.out.row z8).mono ?_
  rintro e w3 ⟨v3, C3, rfl, li3, hr3, b3⟩
  have LI3 := hide li3
  have HR3 := hide hr3
  have BB3 := hide b3
  have B3 : Hid (Below w.heap.size w w3) := B2.out.trans (b3.mono B2.out.size)
  have L3 := hide (L2.out.below b3 L2.out.lt)
  clear li3 hr3 b3
  go_wp2_with fail
  refine (fread_any (some ⟨g, 0, none⟩) l (l + 2) zs w3 hl hm (by omega) (fun h => by cases h) L3.out.row z8).mono ?_
  rintro e w4 ⟨v4, C4, rfl, li4, hr4, b4⟩
  have LI4 := hide li4
  have HR4 := hide hr4
  have BB4 := hide (BB3.out.trans (b4.mono BB3.out.size))
  have B4 : Hid (Below w.heap.size w w4) := B3.out.trans (b4.mono B3.out.size)
  have LI34 := hide (LI3.out.below b4)
  have L4 := hide (L3.out.below b4 L3.out.lt)
  have BF4 := hide b4
  clear li4 hr4 b4
  go_wp2_with fail
  refine (rfread_any a l c zs w4 hl hm hlc hna (HR.out w4 B4.out) z8).mono ?_
  rintro e w5 ⟨v5, C5, rfl, li5, hr5, b5⟩
  have LI5 := hide li5
  have HR5 := hide hr5
  have BB5 := hide (BB4.out.trans (b5.mono BB4.out.size))
  have LI35 := hide (LI34.out.below b5)
  have LI45 := hide (LI4.out.below b5)
  have L5 := hide (L4.out.below b5 L4.out.lt)
  have BF5 := hide (BF4.out.trans (b5.mono BF4.out.size))
  have hz4 := BF4.out.size
  have hz5 := b5.size
  clear li5 hr5 b5 LI34
  generalize (rdF zs).2.1 = E at *
  generalize (rdF zs).2.2 = P at *
  have HE35 : Hid (rws C3 = rws C5) := HR3.out.trans HR5.out.symm
  have HE45 : Hid (rws C4 = rws C5) := HR4.out.trans HR5.out.symm
  have hn3 : C3.length = C5.length := by have := congrArg List.length HE35.out; rw [rws_len, rws_len] at this; exact this
  have hn4 : C4.length = C5.length := by have := congrArg List.length HE45.out; rw [rws_len, rws_len] at this; exact this
  have hn5 := LI5.out.n
  obtain ⟨n, hn⟩ : ∃ n, C5.length = n := ⟨_, rfl⟩
  rw [hn] at hn3 hn4 hn5
  obtain ⟨a3, g3, p3, hv3, ha3, s3⟩ := LI35.out.sps
  obtain ⟨a5, g5, p5, hv5, ha5, s5⟩ := LI5.out.sps
  rw [hn3] at hv3 ha3
  rw [hn] at hv5 ha5
  have HS := hide (fsame_any a3 a5 g3 0 g5 0 n p3 p5 C3 C5 w5 hn3 hn (by omega) ha3 ha5 s3 s5 HE35.out)
  rw [← hv3, ← hv5] at HS
  clear s3 s5 hv3 hv5 ha3 ha5
  go_wp2_with fail
  refine HS.out.mono ?_
  rintro e w6 ⟨rfl, b6⟩
  have BB6 := hide (BB5.out.trans (b6.mono BB5.out.size))
  have BF6 := hide (BF5.out.trans (b6.mono BF5.out.size))
  have LI46 := hide (LI45.out.below b6)
  have LI56 := hide (LI5.out.below b6)
  have L6 := hide (L5.out.below b6 L5.out.lt)
  clear b6 HS
  go_wp2_with fail
  refine (rfspoil_any LI3.out BF6.out).mono ?_
  rintro e w7 ⟨rfl, u7⟩
  have BB7 : Hid (Below w2.heap.size w2 w7) := BB6.out.trans (u7.below BB6.out.size (fun k hk e => by omega))
  have LI47 := hide (LI46.out.upd u7 (fun k h1 _ e => by omega))
  have LI57 := hide (LI56.out.upd u7 (fun k h1 _ e => by omega))
  have L7 := hide (L2.out.below BB7.out L2.out.lt)
  clear u7
  obtain ⟨a4, g4, p4, hv4, ha4, s4⟩ := LI47.out.sps
  obtain ⟨a5', g5', p5', hv5', ha5', s5⟩ := LI57.out.sps
  rw [hn4] at hv4 ha4
  rw [hn] at hv5' ha5'
  have HS := hide (fsame_any a4 a5' g4 0 g5' 0 n p4 p5' C4 C5 w7 hn4 hn (by omega) ha4 ha5' s4 s5 HE45.out)
  rw [← hv4, ← hv5'] at HS
  clear s4 s5 hv4 hv5' ha4 ha5'
  go_wp2_with fail
  refine HS.out.mono ?_
  rintro e w8 ⟨rfl, b8⟩
  have BB8 := hide (BB7.out.trans (b8.mono BB7.out.size))
  have L8 := hide (L7.out.below b8 L7.out.lt)
  have B8' : Hid (Below w.heap.size w w8) := B2.out.trans (BB8.out.mono B2.out.size)
  clear b8 HS
  go_wp2_with fail
  refine (kept_any g a l c zs w8 hl hm L8.out (HR.out w8 B8'.out)).mono ?_
  rintro e w9 ⟨rfl, s9⟩
  have B9 : Hid (Below w.heap.size w w9) := B8'.out.trans ((s9.below w8.heap.size).mono B8'.out.size)
  clear s9
  go_wp2_with fail
  go_ret
  exact ⟨rfl, B9.out⟩

end Go.Proofs.Ytlachimmfjagbaa
