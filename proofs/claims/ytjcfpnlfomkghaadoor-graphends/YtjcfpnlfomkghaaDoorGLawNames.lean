/-
  What is proved here: the law GraphNames answers true of any text, labels and properties that lie in memory; what was there is as it was.
-/
import Derived.Test.YtjcfpnlfomkghaaDoorGDrawn
import Derived.Test.YtjcfpnlfomkghaaDoorGIsName
import Derived.Test.YtjcfpnlfomkghaaDoorGOpen
namespace Go.Proofs.YtjcfpnlfomkghaaDoor
open Go.RowKit
set_option linter.unusedVariables false

theorem props_ok {w : World} {P : List Pr} {pa : Option Addr} {pl : Nat} (pc : Nat) (hP : PropsAt w P pa pl) (hO : ∀ p ∈ P, PrOk w p) (W : World) (k : Below w.heap.size w W) : Calls Tryd.prog 13 #[.slice pa pl pc] W fun e w' => e = .returned (.int .i64 (prsE P)) ∧ Below W.heap.size W w' :=
  props_of name_any P pa pl pc W (hP.below k) fun p hp w2 k2 => by
    obtain ⟨hs, L, _, _, hb, _⟩ := hO p hp
    exact check_of p.k p.n p.s p.a p.l p.c p.e w2 fun w3 k3 => (hb w3 (below2 (below2 k k2) k3)).1

theorem checkProps_ok {w : World} {P : List Pr} {pa : Option Addr} {pl : Nat} (pc : Nat) (hP : PropsAt w P pa pl) (hO : ∀ p ∈ P, PrOk w p) (W : World) (k : Below w.heap.size w W) : Calls Tryd.prog 14 #[.slice pa pl pc] W fun e w' => e = .returned (.int .i64 (prsE P)) ∧ Below W.heap.size W w' :=
  checkProps_of isName_any P pa pl pc W (hP.below k) fun p hp w2 k2 => by
    obtain ⟨hs, L, _, _, hb, _⟩ := hO p hp
    exact (hb w2 (below2 k k2)).2

set_option maxHeartbeats 4000000 in
set_option maxRecDepth 100000 in
theorem law_names (s : ByteArray) (L : List ByteArray) (la : Option Addr) (ll lc : Nat) (P : List Pr) (pa : Option Addr) (pl pc : Nat) (w : World) (hs : s.size ≤ 9223372036854775807) (hL : StrsAt w L la ll) (hP : PropsAt w P pa pl) (hO : ∀ p ∈ P, PrOk w p) :
    Calls Tryd.prog 3 #[.string s, .slice la ll lc, .slice pa pl pc] w fun e w' => e = .returned (.bool true) ∧ Below w.heap.size w w' := by
  obtain ⟨b, hb⟩ : ∃ b, b = nm s := ⟨_, rfl⟩
  obtain ⟨e1, he1⟩ : ∃ e, e = labsE L := ⟨_, rfl⟩
  obtain ⟨e2, he2⟩ : ∃ e, e = prsE P := ⟨_, rfl⟩
  have C1 : Hid (∀ W, Calls Tryd.prog 9 #[.string s] W fun e w' => e = .returned (.bool b) ∧ Below W.heap.size W w') := fun W => by rw [hb]; exact name_any s W hs
  have C2 : Hid (∀ W, Calls Tryd.prog 10 #[.string s] W fun e w' => e = .returned (.bool b) ∧ Below W.heap.size W w') := fun W => by rw [hb]; exact isName_any s W hs
  have C3 : Hid (∀ W, Below w.heap.size w W → Calls Tryd.prog 11 #[.slice la ll lc] W fun e w' => e = .returned (.int .i64 e1) ∧ Below W.heap.size W w') := fun W k => by rw [he1]; exact labels_of name_any L la ll lc W (hL.below k)
  have C4 : Hid (∀ W, Below w.heap.size w W → Calls Tryd.prog 12 #[.slice la ll lc] W fun e w' => e = .returned (.int .i64 e1) ∧ Below W.heap.size W w') := fun W k => by rw [he1]; exact checkLabels_of isName_any L la ll lc W (hL.below k)
  have C5 : Hid (∀ W, Below w.heap.size w W → Calls Tryd.prog 13 #[.slice pa pl pc] W fun e w' => e = .returned (.int .i64 e2) ∧ Below W.heap.size W w') := fun W k => by rw [he2]; exact props_ok pc hP hO W k
  have C6 : Hid (∀ W, Below w.heap.size w W → Calls Tryd.prog 14 #[.slice pa pl pc] W fun e w' => e = .returned (.int .i64 e2) ∧ Below W.heap.size W w') := fun W k => by rw [he2]; exact checkProps_ok pc hP hO W k
  clear hL hP hO hs hb he1 he2
  go_enter Tryd.func3, Tryd.ntmps3
  go_wp2_with fail
  refine (drawn_true w).mono ?_
  rintro e w1 ⟨rfl, k1⟩
  go_wp2_with fail
  refine (C1.out _).mono ?_
  rintro e w2 ⟨rfl, k2⟩
  have b2 := below2 k1 k2
  clear k1 k2
  go_wp2_with fail
  refine (C2.out _).mono ?_
  rintro e w3 ⟨rfl, k3⟩
  have b3 := below2 b2 k3
  clear b2 k3
  go_wp2_with fail
  refine (C3.out _ b3).mono ?_
  rintro e w4 ⟨rfl, k4⟩
  have b4 := below2 b3 k4
  clear b3 k4
  go_wp2_with fail
  refine (C4.out _ b4).mono ?_
  rintro e w5 ⟨rfl, k5⟩
  have b5 := below2 b4 k5
  clear b4 k5
  go_wp2_with fail
  refine (C5.out _ b5).mono ?_
  rintro e w6 ⟨rfl, k6⟩
  have b6 := below2 b5 k6
  clear b5 k6
  go_wp2_with fail
  refine (C6.out _ b6).mono ?_
  rintro e w7 ⟨rfl, k7⟩
  have b7 := below2 b6 k7
  clear b6 k7
  go_wp2_with fail
  go_ret
  exact ⟨by simp, b7⟩
end Go.Proofs.YtjcfpnlfomkghaaDoor
