/-
  What is proved here: the law GraphProp answers true of any graph that lies in memory, any number and any text; what was there is as it was.
-/
import Derived.Test.YtjcfpnlfomkghaaDoorGSame
namespace Go.Proofs.YtjcfpnlfomkghaaDoor
open Go.RowKit
set_option linter.unusedVariables false

theorem prE_ok : ∀ (P : List Pr) (ah : ByteArray), prE ah P = 0 → ∀ p ∈ P, p.e = 0
  | [], ah, _, p, hp => by cases hp
  | q :: r, ah, h, p, hp => by
    unfold prE at h
    split at h
    · split at h
      · rename_i h1 h2
        rcases List.mem_cons.1 hp with rfl | hp
        · exact h2
        · exact prE_ok r q.name h p hp
      · rename_i h1 h2
        exact absurd h h2
    · exact absurd h (by decide)

theorem prsE_ok {P : List Pr} (h : prsE P = 0) : ∀ p ∈ P, p.e = 0 := by
  unfold prsE at h
  split at h
  · exact absurd h (by decide)
  · exact prE_ok P _ h

theorem rise_inj {α : Type} {f : α → Int} {L : List α} (h : Rise (L.map f)) {x y : α} (hx : x ∈ L) (hy : y ∈ L) (e : f x = f y) : x = y := by
  obtain ⟨i, hi⟩ := List.getElem?_of_mem hx
  obtain ⟨j, hj⟩ := List.getElem?_of_mem hy
  have hi' : (L.map f)[i]? = some (f x) := by rw [List.getElem?_map, hi]; rfl
  have hj' : (L.map f)[j]? = some (f y) := by rw [List.getElem?_map, hj]; rfl
  rcases Nat.lt_trichotomy i j with hij | hij | hij
  · have := h i j _ _ hij hi' hj'
    omega
  · subst hij
    rw [hi] at hj
    injection hj
  · have := h j i _ _ hij hj' hi'
    omega

/-- NodeAt's and EdgeAt's answers, as pointers. -/
def NdP (N : List Nd) (na : Option Addr) (id : Int) (p : Option Addr) : Prop := (id ∉ N.map Nd.id ∧ p = none) ∨ ∃ (i : Nat) (x : Nd) (b off : Nat), na = some ⟨b, off, none⟩ ∧ N[i]? = some x ∧ x.id = id ∧ p = some ⟨b, off + i * 3, none⟩
def EdP (E : List Ed) (ea : Option Addr) (id : Int) (p : Option Addr) : Prop := (id ∉ E.map Ed.id ∧ p = none) ∨ ∃ (i : Nat) (x : Ed) (b off : Nat), ea = some ⟨b, off, none⟩ ∧ E[i]? = some x ∧ x.id = id ∧ p = some ⟨b, off + i * 5, none⟩

/-- What the law needs to know of Prop's answer. -/
def PropSays (w1 : World) (er : Int) (N : List Nd) (E : List Ed) (id : Int) (name : ByteArray) (k n : Int) (s : ByteArray) (a : Option Addr) (l c : Nat) (e1 : Int) : Prop :=
  (er ≠ 0 → (k = 0 ∧ n = 0 ∧ s = ⟨#[]⟩ ∧ a = none ∧ l = 0 ∧ c = 0) ∧ e1 = er) ∧ (er = 0 → hasN N id = false → id ∉ E.map Ed.id → (k = 0 ∧ n = 0 ∧ s = ⟨#[]⟩ ∧ a = none ∧ l = 0 ∧ c = 0) ∧ e1 = 5) ∧
  (er = 0 → ∀ P pa pl pc, Owner N E id P pa pl pc → e1 = 0 ∧ ∀ e', PofEnd P name e' → ∃ k' n' s' a' l' c', e' = .returned (.agg #[.int .i64 k', .int .i64 n', .string s', .slice a' l' c']) ∧ ∀ W, Below w1.heap.size w1 W → Calls Tryd.prog 21 #[.agg #[.int .i64 k, .int .i64 n, .string s, .slice a l c], .agg #[.int .i64 k', .int .i64 n', .string s', .slice a' l' c']] W fun e w' => e = .returned (.bool true) ∧ Below W.heap.size W w')

section
variable {w : World} {N : List Nd} {E : List Ed} {na : Option Addr} {nl : Nat} {ea : Option Addr} {el : Nat}

theorem owner_at (h : GrOk w N E na nl ea el) {id : Int} {P : List Pr} {pa : Option Addr} {pl pc : Nat} (ho : Owner N E id P pa pl pc) : PropsAt w P pa pl ∧ ∀ p ∈ P, PrOk w p := by
  rcases ho with ⟨x, hx, _, rfl, rfl, rfl, rfl⟩ | ⟨_, x, hx, _, rfl, rfl, rfl, rfl⟩
  · exact (h.2.2.1 x hx).2
  · exact h.2.2.2 x hx

theorem owner_right (r : Right N E) {id : Int} {P : List Pr} {pa : Option Addr} {pl pc : Nat} (ho : Owner N E id P pa pl pc) : prsE P = 0 := by
  rcases ho with ⟨x, hx, _, rfl, rfl, rfl, rfl⟩ | ⟨_, x, hx, _, rfl, rfl, rfl, rfl⟩
  · exact (r.nodes x hx).2
  · exact (r.edges x hx).2.2.2

theorem owner_one (r : Right N E) {id : Int} {P P' : List Pr} {pa pa' : Option Addr} {pl pl' pc pc' : Nat} (ho : Owner N E id P pa pl pc) (ho' : Owner N E id P' pa' pl' pc') : P = P' := by
  rcases ho with ⟨x, hx, hi, rfl, rfl, rfl, rfl⟩ | ⟨hn, x, hx, hi, rfl, rfl, rfl, rfl⟩
  · rcases ho' with ⟨y, hy, hj, rfl, rfl, rfl, rfl⟩ | ⟨hn, _⟩
    · rw [rise_inj r.riseN hx hy (hi.trans hj.symm)]
    · have h2 : hasN N id = true := decide_eq_true (List.mem_map.2 ⟨x, hx, hi⟩)
      rw [h2] at hn
      cases hn
  · rcases ho' with ⟨y, hy, hj, _⟩ | ⟨_, y, hy, hj, rfl, rfl, rfl, rfl⟩
    · have h2 : hasN N id = true := decide_eq_true (List.mem_map.2 ⟨y, hy, hj⟩)
      rw [h2] at hn
      cases hn
    · rw [rise_inj r.riseE hx hy (hi.trans hj.symm)]

theorem prop_ok (h : GrOk w N E na nl ea el) (nc ec : Nat) (next id : Int) (name : ByteArray) (W : World) (kW : Below w.heap.size w W) :
    Calls Tryd.prog 17 #[.agg #[.slice na nl nc, .slice ea el ec, .int .i64 next], .int .i64 id, .string name] W fun e w' => (∃ k n s a l c e1, e = .returned (.tuple #[.agg #[.int .i64 k, .int .i64 n, .string s, .slice a l c], .int .i64 e1]) ∧ PropSays w' (gE N E next) N E id name k n s a l c e1) ∧ Below W.heap.size W w' := by
  classical
  have hW := h.below kW
  obtain ⟨tr, htr⟩ : ∃ tr : Pr → List T, ∀ p, PrOk W p → InT (.node p.k p.n p.s (tr p)) ∧ LiesS W (tr p) p.a p.l ∧ (p.e = 0 → Ck 6 (.node p.k p.n p.s (tr p))) := by
    refine ⟨fun p => if hp : PrOk W p then Classical.choose hp.2 else [], fun p hp => ?_⟩
    have := Classical.choose_spec hp.2
    simp only [dif_pos hp]
    exact ⟨this.1, this.2.1, this.2.2.2⟩
  refine (prop_of N E na nl nc ea el ec next id name (gE N E next) tr W (fun W' k' => check_ok h nc ec next W' (below2 kW k'))
    (fun h0 W' k' => by
      have r := gE_ok h0
      have := r.fewN
      have := r.fewE
      have := h.1.1
      have := h.2.1.1
      exact propsOf_any N E na nl nc ea el ec next id W' ((h.below (below2 kW k')).1) ((h.below (below2 kW k')).2.1) (by omega) (by omega) r.riseN r.riseE)
    (fun P pa pl pc ho => (owner_at hW ho).1)
    (fun h0 P pa pl pc ho p hp W' k' => by
      have r := gE_ok h0
      obtain ⟨t1, t2, t3⟩ := htr p ((owner_at hW ho).2 p hp)
      exact fresh_any p.k p.n p.s p.a p.l p.c (tr p) W' (t2.below k') (ck_wtL (t3 (prsE_ok (owner_right r ho) p hp))))).mono ?_
  rintro e w' ⟨hP, kw⟩
  refine ⟨?_, kw⟩
  rcases hP with ⟨h1, rfl⟩ | ⟨h1, h2, h3, rfl⟩ | ⟨h1, P, pa, pl, pc, ho, hP⟩
  · exact ⟨0, 0, ⟨#[]⟩, none, 0, 0, gE N E next, rfl, fun _ => ⟨⟨rfl, rfl, rfl, rfl, rfl, rfl⟩, rfl⟩, fun h => absurd h h1, fun h => absurd h h1⟩
  · refine ⟨0, 0, ⟨#[]⟩, none, 0, 0, 5, rfl, fun h => absurd h1 h, fun _ _ _ => ⟨⟨rfl, rfl, rfl, rfl, rfl, rfl⟩, rfl⟩, fun _ P pa pl pc ho => ?_⟩
    rcases ho with ⟨x, hx, hi, _⟩ | ⟨_, x, hx, hi, _⟩
    · have h4 : hasN N id = true := decide_eq_true (List.mem_map.2 ⟨x, hx, hi⟩)
      rw [h4] at h2
      cases h2
    · exact absurd (List.mem_map.2 ⟨x, hx, hi⟩) h3
  · have r := gE_ok h1
    have hne : hasN N id = false → id ∉ E.map Ed.id → False := fun q1 q2 => by
      rcases ho with ⟨x, hx, hi, _⟩ | ⟨_, x, hx, hi, _⟩
      · have h4 : hasN N id = true := decide_eq_true (List.mem_map.2 ⟨x, hx, hi⟩)
        rw [h4] at q1
        cases q1
      · exact q2 (List.mem_map.2 ⟨x, hx, hi⟩)
    rcases hP with ⟨hf, rfl⟩ | ⟨p, a', c', hf, hp, rfl, hlc, hLL⟩
    · refine ⟨0, 0, ⟨#[]⟩, none, 0, 0, 0, rfl, fun h => absurd h1 h, fun _ q1 q2 => (hne q1 q2).elim, fun _ P' pa' pl' pc' ho' => ⟨rfl, fun e' hE => ?_⟩⟩
      obtain rfl := owner_one r ho ho'
      rcases hE with ⟨_, rfl⟩ | ⟨p, hf', _⟩
      · exact ⟨0, 0, ⟨#[]⟩, none, 0, 0, rfl, fun W' _ => same_copy 0 0 ⟨#[]⟩ [] none 0 0 none 0 0 W' (by decide) (by unfold LiesS; rfl) (by unfold LiesS; rfl)⟩
      · rw [hf] at hf'
        cases hf'
    · refine ⟨p.k, p.n, p.s, a', p.l, c', 0, rfl, fun h => absurd h1 h, fun _ q1 q2 => (hne q1 q2).elim, fun _ P' pa' pl' pc' ho' => ⟨rfl, fun e' hE => ?_⟩⟩
      obtain rfl := owner_one r ho ho'
      obtain ⟨t1, t2, t3⟩ := htr p ((owner_at hW ho).2 p hp)
      rcases hE with ⟨hf', _⟩ | ⟨q, hf', _, rfl⟩
      · rw [hf] at hf'
        cases hf'
      · rw [hf] at hf'
        injection hf' with hf'
        subst hf'
        exact ⟨p.k, p.n, p.s, p.a, p.l, p.c, rfl, fun W' k' => same_copy p.k p.n p.s (tr p) a' p.l c' p.a p.l p.c W' (ck_wtL (t3 (prsE_ok (owner_right r ho) p hp))) (hLL.below k') (t2.below (below2 kw k'))⟩
end

set_option maxHeartbeats 16000000 in
set_option maxRecDepth 100000 in
theorem law_prop (N : List Nd) (E : List Ed) (na : Option Addr) (nl nc : Nat) (ea : Option Addr) (el ec : Nat) (next id : Int) (name : ByteArray) (w : World) (h : GrOk w N E na nl ea el) :
    Calls Tryd.prog 5 #[.agg #[.slice na nl nc, .slice ea el ec, .int .i64 next], .int .i64 id, .string name] w fun e w' => e = .returned (.bool true) ∧ Below w.heap.size w w' := by
  obtain ⟨er, her⟩ : ∃ er, er = gE N E next := ⟨_, rfl⟩
  have C1 : Hid (∀ W, Below w.heap.size w W → Calls Tryd.prog 17 #[.agg #[.slice na nl nc, .slice ea el ec, .int .i64 next], .int .i64 id, .string name] W fun e w' => (∃ k n s a l c e1, e = .returned (.tuple #[.agg #[.int .i64 k, .int .i64 n, .string s, .slice a l c], .int .i64 e1]) ∧ PropSays w' er N E id name k n s a l c e1) ∧ Below W.heap.size W w') := fun W k => by rw [her]; exact prop_ok h nc ec next id name W k
  have C3 : Hid (∀ W, Below w.heap.size w W → Calls Tryd.prog 16 #[.agg #[.slice na nl nc, .slice ea el ec, .int .i64 next]] W fun e w' => e = .returned (.int .i64 er) ∧ Below W.heap.size W w') := fun W k => by rw [her]; exact checkGraph_ok h nc ec next W k
  have C4 : Hid (∀ W, Below w.heap.size w W → Calls Tryd.prog 19 #[.agg #[.slice na nl nc, .slice ea el ec, .int .i64 next], .int .i64 id] W fun e w' => (∃ p, e = .returned (.pointer p) ∧ NdP N na id p) ∧ Below W.heap.size W w') := fun W k => by
    refine (nodeAt_any N na nl nc ea el ec next id W (h.1.below k)).mono ?_
    rintro e w' ⟨hh, k'⟩
    refine ⟨?_, k'⟩
    rcases hh with ⟨h1, rfl⟩ | ⟨i, x, b, off, h1, h2, h3, rfl⟩
    · exact ⟨none, rfl, .inl ⟨h1, rfl⟩⟩
    · exact ⟨_, rfl, .inr ⟨i, x, b, off, h1, h2, h3, rfl⟩⟩
  have C5 : Hid (∀ W, Below w.heap.size w W → Calls Tryd.prog 20 #[.agg #[.slice na nl nc, .slice ea el ec, .int .i64 next], .int .i64 id] W fun e w' => (∃ p, e = .returned (.pointer p) ∧ EdP E ea id p) ∧ Below W.heap.size W w') := fun W k => by
    refine (edgeAt_any E na nl nc ea el ec next id W (h.2.1.below k)).mono ?_
    rintro e w' ⟨hh, k'⟩
    refine ⟨?_, k'⟩
    rcases hh with ⟨h1, rfl⟩ | ⟨i, x, b, off, h1, h2, h3, rfl⟩
    · exact ⟨none, rfl, .inl ⟨h1, rfl⟩⟩
    · exact ⟨_, rfl, .inr ⟨i, x, b, off, h1, h2, h3, rfl⟩⟩
  have HNA := toHid h.1
  have HEA := toHid h.2.1
  have HPAT : Hid (∀ P pa pl pc, Owner N E id P pa pl pc → PropsAt w P pa pl) := fun P pa pl pc ho => (owner_at h ho).1
  clear h her
  have b0 : Below w.heap.size w (w.alloc (.cells #[.slice na nl nc, .slice ea el ec, .int .i64 next] 33)) := (Below.refl _ _).alloc (Nat.le_refl _) _
  have z0 : (w.alloc (.cells #[.slice na nl nc, .slice ea el ec, .int .i64 next] 33)).heap.size = w.heap.size + 1 := by simp
  have hx := alloc_new w (.cells #[.slice na nl nc, .slice ea el ec, .int .i64 next] 33)
  have HY : Hid (∀ W, Below (w.heap.size + 1) (w.alloc (.cells #[.slice na nl nc, .slice ea el ec, .int .i64 next] 33)) W → W.cell? ⟨w.heap.size, 0, none⟩ = some (.slice na nl nc) ∧ W.cell? ⟨w.heap.size, 1, none⟩ = some (.slice ea el ec) ∧ W.cell? ⟨w.heap.size, 2, none⟩ = some (.int .i64 next)) := by
    intro W k
    have q : ∀ o, W.cell? ⟨w.heap.size, o, none⟩ = _ := fun o => (k.cell (p := ⟨w.heap.size, o, none⟩) (Nat.lt_succ_self _)).trans (cell_of hx o)
    exact ⟨q 0, q 1, q 2⟩
  have B0 := toHid b0
  have Z0 := toHid z0
  clear hx b0 z0
  go_enter Tryd.func5, Tryd.ntmps5
  go_wp2_with fail
  refine (C1.out _ B0.out).mono ?_
  have K0 := toHid (Below.refl (w.heap.size + 1) (w.alloc (.cells #[.slice na nl nc, .slice ea el ec, .int .i64 next] 33)))
  generalize w.alloc (.cells #[.slice na nl nc, .slice ea el ec, .int .i64 next] 33) = W0 at HY B0 Z0 K0 ⊢
  rintro e w1 ⟨⟨k, n, s, a, l, c, e1, rfl, hF1, hF2, hF3⟩, k1⟩
  have K1 := toHid (below3 K0.out (by rw [Z0.out]; exact Nat.le_refl _) k1)
  have B1 := toHid (below3 B0.out B0.out.size k1)
  have S1 : w.heap.size + 1 ≤ w1.heap.size := by have := k1.size; rw [Z0.out] at this; exact this
  have HF1 := toHid hF1
  have HF2 := toHid hF2
  have HF3 := toHid hF3
  clear k1 K0 C1 hF1 hF2 hF3
  obtain ⟨y0, y1, y2⟩ := HY.out w1 K1.out
  have hzl : w.heap.size < w1.heap.size := by omega
  go_wp2_with fail
  have B2 := toHid (B1.out.alloc B1.out.size (.cells #[.int .i64 k, .int .i64 n, .string s, .slice a l c] 38))
  have K2 := toHid (K1.out.alloc S1 (.cells #[.int .i64 k, .int .i64 n, .string s, .slice a l c] 38))
  have X2 := toHid ((Below.refl w1.heap.size w1).alloc (Nat.le_refl _) (.cells #[.int .i64 k, .int .i64 n, .string s, .slice a l c] 38))
  have VX2 := toHid (alloc_new w1 (.cells #[.int .i64 k, .int .i64 n, .string s, .slice a l c] 38))
  have S2 : w.heap.size + 1 ≤ (w1.alloc (.cells #[.int .i64 k, .int .i64 n, .string s, .slice a l c] 38)).heap.size := by simp; omega
  clear K1 B1 y0 y1 y2 hzl
  refine (C3.out _ B2.out).mono ?_
  obtain ⟨vb, hvb⟩ : ∃ vb, vb = w1.heap.size := ⟨_, rfl⟩
  rw [← hvb] at VX2 ⊢
  clear hvb
  generalize w1.alloc (.cells #[.int .i64 k, .int .i64 n, .string s, .slice a l c] 38) = w2 at B2 K2 X2 VX2 S2 ⊢
  rintro e w3 ⟨rfl, k3⟩
  have K3 := toHid (below3 K2.out S2 k3)
  have B3 := toHid (below3 B2.out B2.out.size k3)
  have S3 : w.heap.size + 1 ≤ w3.heap.size := Nat.le_trans S2 k3.size
  have X3 := toHid (below2 X2.out k3)
  have VX3 := toHid ((k3.block vb (lt_of_some VX2.out)).trans VX2.out)
  clear k3 K2 B2 S2 X2 VX2 C3
  go_wp2_with fail
  refine (drawn_true _).mono ?_
  rintro e w4 ⟨rfl, k4⟩
  have K4 := toHid (below3 K3.out S3 k4)
  have B4 := toHid (below3 B3.out B3.out.size k4)
  have S4 : w.heap.size + 1 ≤ w4.heap.size := Nat.le_trans S3 k4.size
  have X4 := toHid (below2 X3.out k4)
  have VX4 := toHid ((k4.block vb (lt_of_some VX3.out)).trans VX3.out)
  clear k4 K3 B3 S3 X3 VX3
  by_cases her : er = 0
  · have her' : (er != 0) = false := by simp [her]
    have HER := toHid her
    clear her HF1
    obtain ⟨x0, x1, x2⟩ := HY.out w4 K4.out
    have s7 : w.heap.size < w4.heap.size := by omega
    go_wp2_with fail
    have D0 : Below w4.heap.size w4 w4.drew := (Below.refl _ _).drew
    go_region_held3 (fun w' => w'.cell? ⟨w.heap.size, 0, none⟩ = some (.slice na nl nc) ∧ w'.cell? ⟨w.heap.size, 1, none⟩ = some (.slice ea el ec) ∧ w'.cell? ⟨w.heap.size, 2, none⟩ = some (.int .i64 next))
      (first
        | exact S2
        | exact S1
        | exact ⟨x0, x1, x2⟩
        | go_keep)
      (first
        | (go_at_call 19; refine (C4.out _ (below2 B4.out D0)).mono ?_; rintro e u1 ⟨⟨pn, rfl, hpn⟩, h1⟩; have k1 : Below w4.heap.size w4 u1 := D0.trans h1; have HPN := toHid hpn; clear hpn; have S1 : u1.cell? ⟨w.heap.size, 0, none⟩ = some (.slice na nl nc) ∧ u1.cell? ⟨w.heap.size, 1, none⟩ = some (.slice ea el ec) ∧ u1.cell? ⟨w.heap.size, 2, none⟩ = some (.int .i64 next) := ⟨(k1.cell (p := ⟨w.heap.size, 0, none⟩) s7).trans x0, (k1.cell (p := ⟨w.heap.size, 1, none⟩) s7).trans x1, (k1.cell (p := ⟨w.heap.size, 2, none⟩) s7).trans x2⟩)
        | (go_at_call 20; refine (C5.out _ (below2 B4.out k1)).mono ?_; rintro e w6 ⟨⟨px, rfl, hpx⟩, h2⟩; have k2 : Below w4.heap.size w4 w6 := below2 k1 h2; have HPX := toHid hpx; clear hpx; have S2 : w6.cell? ⟨w.heap.size, 0, none⟩ = some (.slice na nl nc) ∧ w6.cell? ⟨w.heap.size, 1, none⟩ = some (.slice ea el ec) ∧ w6.cell? ⟨w.heap.size, 2, none⟩ = some (.int .i64 next) := ⟨(k2.cell (p := ⟨w.heap.size, 0, none⟩) s7).trans x0, (k2.cell (p := ⟨w.heap.size, 1, none⟩) s7).trans x1, (k2.cell (p := ⟨w.heap.size, 2, none⟩) s7).trans x2⟩))
    all_goals
      have B6 := toHid (below2 B4.out k2)
      have X6 := toHid (below2 X4.out k2)
      have VX := toHid ((k2.block vb (lt_of_some VX4.out)).trans VX4.out)
      clear k1 k2 S1 S2 x0 x1 x2 D0 h1 h2 B4 X4 VX4 K4
      rcases HPN.out with ⟨hn1, rfl⟩ | ⟨i, x, b, off, hna, hi, hxi, rfl⟩
      · rcases HPX.out with ⟨hx1, rfl⟩ | ⟨i, x, b, off, hea, hi, hxi, rfl⟩
        · obtain ⟨⟨rfl, rfl, rfl, rfl, rfl, rfl⟩, rfl⟩ := HF2.out HER.out (decide_eq_false hn1) hx1
          have v0 := cell_of VX.out 0
          have v1 := cell_of VX.out 1
          have v2 := cell_of VX.out 2
          have v3 := cell_of VX.out 3
          simp at v0 v1 v2 v3
          clear hn1 hx1 HPN HPX
          go_wp2_with fail
          refine (none_zero _).mono ?_
          rintro e w7 ⟨rfl, k7⟩
          have B7 := toHid (below2 B6.out k7)
          go_wp2_with fail
          go_ret
          exact ⟨rfl, B7.out⟩
        · have hown : Owner N E id x.props x.pa x.pl x.pc := .inr ⟨decide_eq_false hn1, x, List.mem_of_getElem? hi, hxi, rfl, rfl, rfl, rfl⟩
          have HOWN := toHid hown
          obtain ⟨b', off', e0, hb, hc⟩ := HEA.out.2.2 (by have := (List.getElem?_eq_some_iff.1 hi).1; have := HEA.out.1; omega)
          rw [hea] at e0
          injection e0 with e0
          injection e0 with e0 e00
          subst e0 e00
          have d4 : w6.cell? ⟨b, off + i * 5 + 4, none⟩ = some (.slice x.pa x.pl x.pc) := (B6.out.cell (p := ⟨b, off + i * 5 + 4, none⟩) hb).trans (hc i x hi).2.2.2.2.2
          clear hn1 HPN HPX hi hxi hc hea hown
          obtain ⟨he1, hpof⟩ := HF3.out HER.out x.props x.pa x.pl x.pc (HOWN.out)
          subst he1
          have HPOF := toHid hpof
          have HPA := toHid (HPAT.out x.props x.pa x.pl x.pc (HOWN.out))
          clear hpof
          have v0 := cell_of VX.out 0
          have v1 := cell_of VX.out 1
          have v2 := cell_of VX.out 2
          have v3 := cell_of VX.out 3
          simp at v0 v1 v2 v3
          go_wp2_with fail
          have D9 : Below w6.heap.size w6 w6.drew := (Below.refl _ _).drew
          have s8 : vb < w6.heap.size := lt_of_some VX.out
          go_region_held3 (fun w' => w'.cell? ⟨vb, 0, none⟩ = some (.int .i64 k) ∧ w'.cell? ⟨vb, 1, none⟩ = some (.int .i64 n) ∧ w'.cell? ⟨vb, 2, none⟩ = some (.string s) ∧ w'.cell? ⟨vb, 3, none⟩ = some (.slice a l c))
            (first
              | exact S2
              | exact S1
              | exact ⟨v0, v1, v2, v3⟩
              | go_keep)
            (first
              | (go_at_call 22; refine (propOf_any x.props x.pa x.pl x.pc name _ (HPA.out.below (below2 B6.out D9))).mono ?_; rintro e u1 ⟨hP, h1⟩; obtain ⟨k', n', s', a', l', c', rfl, hS⟩ := HPOF.out _ hP; have k1 : Below w6.heap.size w6 u1 := D9.trans h1; have HS := toHid hS; clear hS hP; have S1 : u1.cell? ⟨vb, 0, none⟩ = some (.int .i64 k) ∧ u1.cell? ⟨vb, 1, none⟩ = some (.int .i64 n) ∧ u1.cell? ⟨vb, 2, none⟩ = some (.string s) ∧ u1.cell? ⟨vb, 3, none⟩ = some (.slice a l c) := ⟨(k1.cell (p := ⟨vb, 0, none⟩) s8).trans v0, (k1.cell (p := ⟨vb, 1, none⟩) s8).trans v1, (k1.cell (p := ⟨vb, 2, none⟩) s8).trans v2, (k1.cell (p := ⟨vb, 3, none⟩) s8).trans v3⟩)
              | (go_at_call 21; refine (HS.out _ (below2 X6.out k1)).mono ?_; rintro e u2 ⟨rfl, h2⟩; have k2 : Below w6.heap.size w6 u2 := below2 k1 h2; have S2 : u2.cell? ⟨vb, 0, none⟩ = some (.int .i64 k) ∧ u2.cell? ⟨vb, 1, none⟩ = some (.int .i64 n) ∧ u2.cell? ⟨vb, 2, none⟩ = some (.string s) ∧ u2.cell? ⟨vb, 3, none⟩ = some (.slice a l c) := ⟨(k2.cell (p := ⟨vb, 0, none⟩) s8).trans v0, (k2.cell (p := ⟨vb, 1, none⟩) s8).trans v1, (k2.cell (p := ⟨vb, 2, none⟩) s8).trans v2, (k2.cell (p := ⟨vb, 3, none⟩) s8).trans v3⟩))
          all_goals
            go_wp2_with fail
            go_ret
            exact ⟨rfl, below2 B6.out k2⟩
      · have hown : Owner N E id x.props x.pa x.pl x.pc := .inl ⟨x, List.mem_of_getElem? hi, hxi, rfl, rfl, rfl, rfl⟩
        have HOWN := toHid hown
        obtain ⟨b', off', e0, hb, hc⟩ := HNA.out.2.2 (by have := (List.getElem?_eq_some_iff.1 hi).1; have := HNA.out.1; omega)
        rw [hna] at e0
        injection e0 with e0
        injection e0 with e0 e00
        subst e0 e00
        have d2 : w6.cell? ⟨b, off + i * 3 + 2, none⟩ = some (.slice x.pa x.pl x.pc) := (B6.out.cell (p := ⟨b, off + i * 3 + 2, none⟩) hb).trans (hc i x hi).2.2
        clear HPN HPX hi hxi hc hna hown
        obtain ⟨he1, hpof⟩ := HF3.out HER.out x.props x.pa x.pl x.pc (HOWN.out)
        subst he1
        have HPOF := toHid hpof
        have HPA := toHid (HPAT.out x.props x.pa x.pl x.pc (HOWN.out))
        clear hpof
        have v0 := cell_of VX.out 0
        have v1 := cell_of VX.out 1
        have v2 := cell_of VX.out 2
        have v3 := cell_of VX.out 3
        simp at v0 v1 v2 v3
        go_wp2_with fail
        have D9 : Below w6.heap.size w6 w6.drew := (Below.refl _ _).drew
        have s8 : vb < w6.heap.size := lt_of_some VX.out
        go_region_held3 (fun w' => w'.cell? ⟨vb, 0, none⟩ = some (.int .i64 k) ∧ w'.cell? ⟨vb, 1, none⟩ = some (.int .i64 n) ∧ w'.cell? ⟨vb, 2, none⟩ = some (.string s) ∧ w'.cell? ⟨vb, 3, none⟩ = some (.slice a l c))
          (first
            | exact S2
            | exact S1
            | exact ⟨v0, v1, v2, v3⟩
            | go_keep)
          (first
            | (go_at_call 22; refine (propOf_any x.props x.pa x.pl x.pc name _ (HPA.out.below (below2 B6.out D9))).mono ?_; rintro e u1 ⟨hP, h1⟩; obtain ⟨k', n', s', a', l', c', rfl, hS⟩ := HPOF.out _ hP; have k1 : Below w6.heap.size w6 u1 := D9.trans h1; have HS := toHid hS; clear hS hP; have S1 : u1.cell? ⟨vb, 0, none⟩ = some (.int .i64 k) ∧ u1.cell? ⟨vb, 1, none⟩ = some (.int .i64 n) ∧ u1.cell? ⟨vb, 2, none⟩ = some (.string s) ∧ u1.cell? ⟨vb, 3, none⟩ = some (.slice a l c) := ⟨(k1.cell (p := ⟨vb, 0, none⟩) s8).trans v0, (k1.cell (p := ⟨vb, 1, none⟩) s8).trans v1, (k1.cell (p := ⟨vb, 2, none⟩) s8).trans v2, (k1.cell (p := ⟨vb, 3, none⟩) s8).trans v3⟩)
            | (go_at_call 21; refine (HS.out _ (below2 X6.out k1)).mono ?_; rintro e u2 ⟨rfl, h2⟩; have k2 : Below w6.heap.size w6 u2 := below2 k1 h2; have S2 : u2.cell? ⟨vb, 0, none⟩ = some (.int .i64 k) ∧ u2.cell? ⟨vb, 1, none⟩ = some (.int .i64 n) ∧ u2.cell? ⟨vb, 2, none⟩ = some (.string s) ∧ u2.cell? ⟨vb, 3, none⟩ = some (.slice a l c) := ⟨(k2.cell (p := ⟨vb, 0, none⟩) s8).trans v0, (k2.cell (p := ⟨vb, 1, none⟩) s8).trans v1, (k2.cell (p := ⟨vb, 2, none⟩) s8).trans v2, (k2.cell (p := ⟨vb, 3, none⟩) s8).trans v3⟩))
        all_goals
          go_wp2_with fail
          go_ret
          exact ⟨rfl, below2 B6.out k2⟩
  · have her' : (er != 0) = true := by simp [her]
    obtain ⟨⟨rfl, rfl, rfl, rfl, rfl, rfl⟩, rfl⟩ := HF1.out her
    clear her HF1 HF2 HF3
    go_wp2_with fail
    refine (drawn_true _).mono ?_
    rintro e w5 ⟨rfl, k5⟩
    have B5 := toHid (below3 B4.out B4.out.size k5)
    have VX5 := toHid ((k5.block vb (lt_of_some VX4.out)).trans VX4.out)
    have v0 := cell_of VX5.out 0
    have v1 := cell_of VX5.out 1
    have v2 := cell_of VX5.out 2
    have v3 := cell_of VX5.out 3
    simp at v0 v1 v2 v3
    go_wp2_with fail
    refine (none_zero _).mono ?_
    rintro e w6 ⟨rfl, k6⟩
    have B6 := toHid (below2 B5.out k6)
    go_wp2_with fail
    go_ret
    exact ⟨by simp, B6.out⟩
end Go.Proofs.YtjcfpnlfomkghaaDoor
