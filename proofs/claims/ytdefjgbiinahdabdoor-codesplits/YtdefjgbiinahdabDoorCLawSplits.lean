/-
  What is proved here: the law CodeSplits answers true of any list of values; what was there is as it was.
-/
import Derived.Test.YtdefjgbiinahdabDoorCLawBack
import Derived.Test.YtdefjgbiinahdabDoorPRTree
namespace Go.Proofs.YtdefjgbiinahdabDoor
open Go.RowKit
set_option linter.unusedVariables false

theorem rowG_at : ∀ (l : List Got) (k : Nat) (x : Got), l[k]? = some x → (rowG l)[k * 4]? = some (.int .i64 x.k) ∧ (rowG l)[k * 4 + 1]? = some (.int .i64 x.n) ∧ (rowG l)[k * 4 + 1 + 1]? = some (.string x.s) ∧ (rowG l)[k * 4 + 1 + 1 + 1]? = some (.slice x.a x.l x.c)
  | [], k, x, h => by simp at h
  | y :: l, 0, x, h => by
    simp at h
    subst h
    exact ⟨rfl, rfl, rfl, rfl⟩
  | y :: l, k + 1, x, h => by
    have h' : l[k]? = some x := by simpa using h
    obtain ⟨h0, h1, h2, h3⟩ := rowG_at l k x h'
    have e : rowG (y :: l) = y.cells ++ rowG l := rfl
    have hl : y.cells.length = 4 := rfl
    refine ⟨?_, ?_, ?_, ?_⟩
    · rw [e, List.getElem?_append_right (by omega), hl, show (k + 1) * 4 - 4 = k * 4 from by omega]; exact h0
    · rw [e, List.getElem?_append_right (by omega), hl, show (k + 1) * 4 + 1 - 4 = k * 4 + 1 from by omega]; exact h1
    · rw [e, List.getElem?_append_right (by omega), hl, show (k + 1) * 4 + 1 + 1 - 4 = k * 4 + 1 + 1 from by omega]; exact h2
    · rw [e, List.getElem?_append_right (by omega), hl, show (k + 1) * 4 + 1 + 1 + 1 - 4 = k * 4 + 1 + 1 + 1 from by omega]; exact h3

/-- The value at a place, with its tree. -/
def gotAt (V : Vals) (Lx : Nat → List T) (i : Nat) : Got := ⟨V.k i, V.n i, V.s i, Lx i, V.a i, V.l i, V.c i⟩

set_option maxHeartbeats 4000000 in
set_option maxRecDepth 100000 in
theorem ls_walk (a : Option Addr) (l c : Nat) (V : Vals) (Lx : Nat → List T) (Q : Got → Prop) (G : World → Got → Got → Prop) (w : World) (hl63 : l ≤ 9223372036854775807)
    (ha : 0 < l → ∃ b off, a = some ⟨b, off, none⟩ ∧ b < w.heap.size ∧ ListAt w b off l V)
    (hBy : ∀ i, i < l → ∃ (er : Int) (str : ByteArray), (er = 0 → str.data.toList = bT (gotAt V Lx i).tree ∧ str.size ≤ 8000 ∧ Q (gotAt V Lx i)) ∧ ∀ W, Below w.heap.size w W → Calls Tryd.prog 4 #[V.at i] W fun e w' => e = .returned (.tuple #[.string str, .int .i64 er]) ∧ Below W.heap.size W w')
    (hLo : ∀ W x all rest, Q x → Below w.heap.size w W → (all : ByteArray).data.toList = bT x.tree ++ rest → all.size ≤ 10000 → Calls Tryd.prog 5 #[.string all] W fun e w' => e = .returned (.tuple #[.int .i64 ((bT x.tree).length : Int), .bool true]) ∧ Below W.heap.size W w')
    (hV : ∀ W x s, Q x → Below w.heap.size w W → (s : ByteArray).data.toList = bT x.tree → Calls Tryd.prog 6 #[.string s] W fun e w' => ∃ y : Got, e = .returned (.tuple #[.agg #[.int .i64 y.k, .int .i64 y.n, .string y.s, .slice y.a y.l y.c], .int .i64 0]) ∧ G w' x y ∧ Below W.heap.size W w')
    (hS : ∀ W x y, Q x → G W x y → Below w.heap.size w W → ∀ W', Below W.heap.size W W' → Calls Tryd.prog 7 #[.agg #[.int .i64 x.k, .int .i64 x.n, .string x.s, .slice x.a x.l x.c], .agg #[.int .i64 y.k, .int .i64 y.n, .string y.s, .slice y.a y.l y.c]] W' fun e w' => e = .returned (.bool true) ∧ Below W'.heap.size W' w') :
    Calls Tryd.prog 3 #[.slice a l c] w fun e w' => e = .returned (.bool true) ∧ Below w.heap.size w w' := by
  have HA := toHid ha
  have HBY := toHid hBy
  have HLO := toHid hLo
  have HVA := toHid hV
  have HSA := toHid hS
  clear ha hBy hLo hV hS
  obtain ⟨i0, hi0, hiz, his, hib⟩ := info_value
  have HI0 := toHid hi0
  have HIZ := toHid hiz
  have HIS := toHid his
  have HIB := toHid hib
  clear hi0 hiz his hib
  go_enter Tryd.func3, Tryd.ntmps3
  go_wp2_with fail
  go_loopg [3, 4, 17] l (fun g s3 s4 s17 wr => ∃ (k : Nat) (sel : List Got) (all : ByteArray) (ov : Value), k ≤ l ∧ l - k ≤ g ∧ s3 = .string all ∧ ov = s4 ∧ s17 = .int .i64 k ∧ all.data.toList = bL (sel.map Got.tree) ∧ all.size ≤ 10000 ∧ sel.length ≤ all.size ∧ wr.ownsRow w.heap.size 24 4 ov sel.length (rowG sel) ∧ (∀ x ∈ sel, Q x) ∧ Below w.heap.size w wr)
  case atStart => exact ⟨0, [], ⟨#[]⟩, .slice none 0 0, Nat.zero_le _, by omega, rfl, rfl, rfl, by simp [bL], by decide, by decide, World.ownsRow_nil _ _ _ _, (fun x hx => by cases hx), Below.refl _ _⟩
  case round =>
    obtain ⟨k, sel, all, ov, hk, hg, rfl, rfl, rfl, hall, hsz, hsl, hown, hQ, hbw⟩ := hrel
    have HALL := toHid hall
    have HQ := toHid hQ
    have HOWN := toHid hown
    have HSL := toHid hsl
    clear hall hQ hown hsl
    by_cases hlt : k < l
    · obtain ⟨b, off, ha, hb, hat⟩ := HA.out (by omega)
      subst ha
      obtain ⟨g0, g1, g2, g3⟩ := hat k hlt
      have hbc : ∀ o, wr.cell? ⟨b, o, none⟩ = w.cell? ⟨b, o, none⟩ := fun o => hbw.cell (p := ⟨b, o, none⟩) hb
      have d0 := (hbc _).trans g0
      have d1 := (hbc _).trans g1
      have d2 := (hbc _).trans g2
      have d3 := (hbc _).trans g3
      clear g0 g1 g2 g3 hbc hat
      obtain ⟨er, str, hE, hC⟩ := HBY.out k hlt
      have HE := toHid hE
      have HC := toHid hC
      clear hE hC
      go_wp2_with fail
      refine (HC.out _ (hbw.alloc (hbw.size) _)).mono ?_
      rintro e w4 ⟨rfl, hb4⟩
      have hs4 : wr.heap.size + 1 ≤ w4.heap.size := by have := hb4.size; simpa using this
      have hbx : w4.heap[wr.heap.size]? = some (.cells #[.int .i64 (V.k k), .int .i64 (V.n k), .string (V.s k), .slice (V.a k) (V.l k) (V.c k)] 24 (0, 0)) := (hb4.block _ (by simp)).trans (alloc_new _ _)
      have hb5 : Below w.heap.size w w4 := (hbw.alloc (hbw.size) _).trans (hb4.mono (by have := hbw.size; simp; omega))
      have hown4 : w4.ownsRow w.heap.size 24 4 ov sel.length (rowG sel) := row_kept HOWN.out (fun j _ hj => (hb4.block j (by simp; omega)).trans (Below.heap_alloc _ _ _ hj))
      have HOWN4 := toHid hown4
      clear hb4 hown4 d0 d1 d2 d3
      have y := cell_of hbx
      have y0 := y 0
      have y1 := y 1
      have y2 := y 2
      have y3 := y 3
      simp at y0 y1 y2 y3
      clear y hbx
      by_cases hgo : er = 0 ∧ all.size < 2000
      · obtain ⟨he, h2⟩ := hgo
        subst he
        obtain ⟨e1, e2, e3⟩ := HE.out rfl
        have E1 := toHid e1
        have E3 := toHid e3
        have hd : (all.size : Int) < 2000 := by omega
        have hsl := HSL.out
        have HB : (sel.length + 1) * 56 ≤ 140737488355328 := by omega
        have HB2 : sel.length + 1 ≤ maxLen := by unfold maxLen; omega
        have hbase : w.heap.size ≤ w4.heap.size := hb5.size
        clear e1 e3 hsl
        go_wp2_with (at_builtin; refine wpList_append_lies _ rfl _ _ 22 rfl w.heap.size 24 i0 _ 4 56 Tryd.underlying22 HI0.out HIZ.out HIS.out HIB.out rfl (by omega) ov sel.length (rowG sel) rfl (HOWN4.out.alloc _) ⟨w4.heap.size, 0, none⟩ 1 1 (gotAt V Lx k).cells rfl rfl (World.news_of_block (cs := #[.int .i64 (V.k k), .int .i64 (V.n k), .string (V.s k), .slice (V.a k) (V.l k) (V.c k)]) (t := 24) (fr := (0, 0)) (alloc_new w4 _)) (by simp [Got.cells, Value.oneCell']) (by omega) HB2 HB (by simp; omega) (w4.heap.size + 1) (by simp) ?_)
        intro gg cap w5 hown5 hgrow hat5 hlt5
        rw [← rowG_more] at hown5
        have hb6 : Below w.heap.size w w5 := (hb5.alloc hbase _).grown hgrow (by simp; omega) (fun j hj => row_block HOWN4.out j hj)
        have HOWN5 := toHid hown5
        clear hown5 hgrow hat5 hlt5 y0 y1 y2 y3 HB HB2
        go_wp2_with fail
        go_roundg (l - (k + 1))
        case measure => omega
        case rel =>
          have h1 := HSL.out
          have h3 : 1 ≤ str.size := by
            have := List.length_pos_iff.2 (bT_ne (gotAt V Lx k).tree)
            rw [← E1.out] at this
            have h4 : 0 < str.size := by simpa using this
            omega
          refine ⟨k + 1, sel ++ [gotAt V Lx k], all ++ str, .slice (some ⟨gg, 0, none⟩) (sel.length + 1) cap, by omega, by omega, rfl, rfl, by go_num, ?_, by rw [ByteArray.size_append]; omega, by rw [ByteArray.size_append, List.length_append, List.length_singleton]; omega, ?_, ?_, hb6⟩
          · rw [data_join, HALL.out, E1.out, List.map_append, bL_append]
            simp [bL]
          · have := HOWN5.out
            rw [List.length_append, List.length_singleton]
            exact this
          · intro x hx
            rcases List.mem_append.1 hx with hx | hx
            · exact HQ.out x hx
            · obtain rfl := List.mem_singleton.1 hx
              exact E3.out
      · have hgo' : er = 0 → ¬ (all.size : Int) < 2000 := fun h h2 => hgo ⟨h, by omega⟩
        have hrel2 : ∃ (k' : Nat) (sel : List Got) (all' : ByteArray) (ov' : Value), k' ≤ l ∧ l - k' ≤ l - (k + 1) ∧ (.string all : Value) = .string all' ∧ ov' = ov ∧ (.int .i64 ((k : Int) + 1) : Value) = .int .i64 k' ∧ all'.data.toList = bL (sel.map Got.tree) ∧ all'.size ≤ 10000 ∧ sel.length ≤ all'.size ∧ w4.ownsRow w.heap.size 24 4 ov' sel.length (rowG sel) ∧ (∀ x ∈ sel, Q x) ∧ Below w.heap.size w w4 := ⟨k + 1, sel, all, ov, by omega, by omega, rfl, rfl, by go_num, HALL.out, hsz, HSL.out, HOWN4.out, HQ.out, hb5⟩
        have HREL := toHid hrel2
        clear hrel2 hgo y0 y1 y2 y3
        by_cases he : er = 0
        · have hd := hgo' he
          subst he
          clear hgo'
          go_wp2_with fail
          go_roundg (l - (k + 1))
          case measure => omega
          case rel => exact HREL.out
        · have he' : (er == 0) = false := by simp [he]
          clear hgo'
          go_wp2_with fail
          go_roundg (l - (k + 1))
          case measure => omega
          case rel => exact HREL.out
    · have hkk : k = l := by omega
      obtain ⟨ga, cap, hov⟩ : ∃ ga cap, ov = .slice ga sel.length cap := by
        rcases HOWN.out.2 with ⟨h0, h1⟩ | ⟨g, cap, cur, h0, _⟩
        · exact ⟨none, 0, by rw [h0, h1]⟩
        · exact ⟨_, cap, h0⟩
      subst hov
      have hcell : ∀ j, j < sel.length → ∃ g x, ga = some ⟨g, 0, none⟩ ∧ g < wr.heap.size ∧ sel[j]? = some x ∧ wr.cell? ⟨g, j * 4, none⟩ = some (.int .i64 x.k) ∧ wr.cell? ⟨g, j * 4 + 1, none⟩ = some (.int .i64 x.n) ∧ wr.cell? ⟨g, j * 4 + 1 + 1, none⟩ = some (.string x.s) ∧ wr.cell? ⟨g, j * 4 + 1 + 1 + 1, none⟩ = some (.slice x.a x.l x.c) := by
        intro j hj
        obtain ⟨g, cap', hv, _, hg⟩ := HOWN.out.form (by omega)
        injection hv with hv1 hv2 hv3
        subst hv1
        obtain ⟨x, hx⟩ : ∃ x, sel[j]? = some x := ⟨_, List.getElem?_eq_getElem hj⟩
        obtain ⟨h0, h1, h2, h3⟩ := rowG_at sel j x hx
        have hc := HOWN.out.cells (g := g) rfl
        have q : ∀ j u, (rowG sel)[j]? = some u → wr.cell? ⟨g, j, none⟩ = some u := fun j u h => by
          have := hc j u h
          by_cases h0 : j = 0
          · subst h0; simpa [Addr.add] using this
          · simpa [Addr.add, h0] using this
        exact ⟨g, x, rfl, hg, hx, q _ _ h0, q _ _ h1, q _ _ h2, q _ _ h3⟩
      have HCELL := toHid hcell
      clear hcell HOWN
      obtain ⟨W1, rfl⟩ : ∃ W1, W1 = wr := ⟨_, rfl⟩
      have HBW := toHid hbw
      clear hbw hkk hk hg
      have hslb : sel.length ≤ 10000 := Nat.le_trans HSL.out hsz
      go_wp2_with fail
      go_loopg [3, 43] sel.length (fun g s3 s43 wq => ∃ (k : Nat) (all : ByteArray), k ≤ sel.length ∧ sel.length - k ≤ g ∧ s3 = .string all ∧ s43 = .int .i64 k ∧ all.data.toList = bL ((sel.drop k).map Got.tree) ∧ all.size ≤ 10000 ∧ Below W1.heap.size W1 wq)
      case atStart => exact ⟨0, all, Nat.zero_le _, by omega, rfl, rfl, HALL.out, hsz, Below.refl _ _⟩
      case round =>
        clear hsz HALL HSL
        obtain ⟨k, all, hk, hg, rfl, rfl, hall, hsz, hbq⟩ := hrel
        have HALL := toHid hall
        clear hall
        have c0 := HBW.out.trans (hbq.mono HBW.out.size)
        by_cases hlt : k < sel.length
        · obtain ⟨g, x, hga, hgw, hx, p0, p1, p2, p3⟩ := HCELL.out k hlt
          subst hga
          have hbc : ∀ o, wr.cell? ⟨g, o, none⟩ = W1.cell? ⟨g, o, none⟩ := fun o => hbq.cell (p := ⟨g, o, none⟩) hgw
          have d0 := (hbc _).trans p0
          have d1 := (hbc _).trans p1
          have d2 := (hbc _).trans p2
          have d3 := (hbc _).trans p3
          clear p0 p1 p2 p3 hbc
          go_wp2_with fail
          have hq : Q x := HQ.out x (List.mem_of_getElem? hx)
          obtain ⟨rest, hrest⟩ : ∃ rest, rest = bL ((sel.drop (k + 1)).map Got.tree) := ⟨_, rfl⟩
          have hdr : sel.drop k = x :: sel.drop (k + 1) := by
            obtain ⟨h1, h2⟩ := List.getElem?_eq_some_iff.1 hx
            rw [List.drop_eq_getElem_cons hlt, h2]
          have hall : all.data.toList = bT x.tree ++ rest := by rw [HALL.out, hdr, List.map_cons, bL_cons, hrest]
          have hlen : all.size = (bT x.tree).length + rest.length := by
            have := congrArg List.length hall
            rw [List.length_append] at this
            have h2 : all.data.toList.length = all.size := by simp
            omega
          obtain ⟨m, hm⟩ : ∃ m, m = (bT x.tree).length := ⟨_, rfl⟩
          have b1 : Below wr.heap.size wr (wr.alloc (.cells #[.int .i64 x.k, .int .i64 x.n, .string x.s, .slice x.a x.l x.c] 24)) := (Below.refl _ _).alloc (Nat.le_refl _) _
          have v1 : (wr.alloc (.cells #[.int .i64 x.k, .int .i64 x.n, .string x.s, .slice x.a x.l x.c] 24)).heap[wr.heap.size]? = some (.cells #[.int .i64 x.k, .int .i64 x.n, .string x.s, .slice x.a x.l x.c] 24 (0, 0)) := alloc_new _ _
          have z1 : (wr.alloc (.cells #[.int .i64 x.k, .int .i64 x.n, .string x.s, .slice x.a x.l x.c] 24)).heap.size = wr.heap.size + 1 := by simp
          have cL := HLO.out (wr.alloc (.cells #[.int .i64 x.k, .int .i64 x.n, .string x.s, .slice x.a x.l x.c] 24)) x all rest hq (bel2 c0 b1) hall hsz
          rw [← hm] at cL hlen
          have hpre : (all.extract 0 m).data.toList = bT x.tree := by
            rw [ByteArray.data_extract, Array.toList_extract, hall, hm]; simp
          have hsuf : (all.extract m all.size).data.toList = rest := by
            rw [ByteArray.data_extract, Array.toList_extract, hall, hm, hlen, hm]; simp
          have HPRE := toHid hpre
          have HSUF := toHid hsuf
          have HM := toHid hm
          have HREST := toHid hrest
          have V1 := toHid v1
          have B1 := toHid b1
          have Z1 := toHid z1
          have CL := toHid cL
          clear hpre hsuf hm hrest v1 b1 z1 cL hall hdr HALL d0 d1 d2 d3
          refine CL.out.mono ?_
          generalize wr.alloc (.cells #[.int .i64 x.k, .int .i64 x.n, .string x.s, .slice x.a x.l x.c] 24) = W2 at V1 B1 Z1 CL ⊢
          rintro e w3 ⟨rfl, k3⟩
          have c3 := bel2 (bel2 c0 B1.out) k3
          have hmn : ¬ (all.size : Int) < (m : Int) := by omega
          have hmn2 : m ≤ all.size := by omega
          have HLEN := toHid hlen
          clear hlen
          have z := Z1.out
          have s3 := k3.size
          have v3 : w3.heap[wr.heap.size]? = some (.cells #[.int .i64 x.k, .int .i64 x.n, .string x.s, .slice x.a x.l x.c] 24 (0, 0)) := (k3.block _ (by omega)).trans V1.out
          have V3 := toHid v3
          clear v3
          go_wp2_with fail
          refine (HVA.out w3 x _ hq c3 HPRE.out).mono ?_
          rintro e w4 ⟨y, rfl, hgy, k4⟩
          have c4 := bel2 c3 k4
          have s4 := k4.size
          have b5 : Below w4.heap.size w4 (w4.alloc (.cells #[.int .i64 y.k, .int .i64 y.n, .string y.s, .slice y.a y.l y.c] 24)) := (Below.refl _ _).alloc (Nat.le_refl _) _
          have v5 : (w4.alloc (.cells #[.int .i64 y.k, .int .i64 y.n, .string y.s, .slice y.a y.l y.c] 24)).heap[w4.heap.size]? = some (.cells #[.int .i64 y.k, .int .i64 y.n, .string y.s, .slice y.a y.l y.c] 24 (0, 0)) := alloc_new _ _
          have v4 : w4.heap[wr.heap.size]? = some (.cells #[.int .i64 x.k, .int .i64 x.n, .string x.s, .slice x.a x.l x.c] 24 (0, 0)) := (k4.block _ (by omega)).trans V3.out
          have q0 := cell_of v4 0
          have q1 := cell_of v4 1
          have q2 := cell_of v4 2
          have q3 := cell_of v4 3
          simp at q0 q1 q2 q3
          have cS := HSA.out w4 x y hq hgy c4 _ b5
          have hbq5 : Below W1.heap.size W1 (w4.alloc (.cells #[.int .i64 y.k, .int .i64 y.n, .string y.s, .slice y.a y.l y.c] 24)) := bel2 (bel2 (bel2 (bel2 hbq B1.out) k3) k4) b5
          have CS := toHid cS
          have HBQ5 := toHid hbq5
          have hlt4 : wr.heap.size < w4.heap.size := by omega
          clear cS hbq5 v5 v4 b5 hgy k4 c4 k3 c3 s3 z
          go_wp2_with fail
          refine CS.out.mono ?_
          generalize w4.alloc (.cells #[.int .i64 y.k, .int .i64 y.n, .string y.s, .slice y.a y.l y.c] 24) = W5 at HBQ5 CS ⊢
          rintro e w6 ⟨rfl, k6⟩
          have HBQ6 := toHid (bel2 HBQ5.out k6)
          clear k6 q0 q1 q2 q3
          go_wp2_with fail
          go_roundg (sel.length - (k + 1))
          case measure => omega
          case rel =>
            refine ⟨k + 1, all.extract m all.size, by omega, by omega, rfl, by go_num, ?_, ?_, HBQ6.out⟩
            · rw [HSUF.out, HREST.out]
            · rw [ByteArray.size_extract]; omega
        · have hkk : k = sel.length := by omega
          have he : all = ⟨#[]⟩ := by
            have h := HALL.out
            rw [List.drop_eq_nil_of_le (by omega), List.map_nil] at h
            have h' : all.data.toList = [] := by simpa [bL] using h
            obtain ⟨d⟩ := all
            have : d = #[] := by simpa using h'
            rw [this]
          subst he
          have HK := toHid hkk
          clear hkk
          go_wp2_with fail
          refine (coded_true _).mono ?_
          rintro e w8 ⟨rfl, k8⟩
          have c8 := bel2 c0 k8
          go_wp2_with fail
          go_ret
          exact ⟨rfl, c8⟩

theorem law_splits (a : Option Addr) (l c : Nat) (L : List T) (w : World) (hT : Tabs w.heap.size w) (hin : InL L) (hL : LiesS w L a l) :
    Calls Tryd.prog 3 #[.slice a l c] w fun e w' => e = .returned (.bool true) ∧ Below w.heap.size w w' := by
  obtain ⟨hlen, hl63⟩ := hL.length
  have hTW : ∀ W, Below w.heap.size w W → Tabs w.heap.size W ∧ w.heap.size ≤ W.heap.size := fun W hW => ⟨hT.below hW, hW.size⟩
  refine ls_walk a l c (match a with | some ⟨b, off, _⟩ => valsAt w b off | none => valsAt w 0 0) (fun i => match (L.drop i).head? with | some (.node _ _ _ M) => M | none => []) (fun x => Ck 6 x.tree ∧ LiesS w x.L x.a x.l ∧ (bT x.tree).length ≤ 8000) (fun W x y => y.tree = x.tree ∧ y.ok (fun _ => True) W) w hl63 ?_ ?_ ?_ ?_ ?_
  · intro hz
    obtain ⟨b, off, _, rfl, hb, _⟩ := hL.get (i := 0) hz
    exact ⟨b, off, rfl, hb, hL.listAt⟩
  · intro i hi
    obtain ⟨b, off, _, rfl, hb, _⟩ := hL.get (i := 0) (by omega)
    obtain ⟨kt, nt, st, Lt, at', lt, ct, _, hd', p0, p1, p2, p3, hlc, hLt, _, hst⟩ := hL.at2 hi
    have hmem : T.node kt nt st Lt ∈ L := List.mem_of_mem_drop (by rw [hd']; exact List.mem_cons_self ..)
    have hat : (valsAt w b off).at i = .agg #[.int .i64 kt, .int .i64 nt, .string st, .slice at' lt ct] := vals_at p0 p1 p2 p3
    have hgot : gotAt (valsAt w b off) (fun i => match (L.drop i).head? with | some (.node _ _ _ M) => M | none => []) i = ⟨kt, nt, st, Lt, at', lt, ct⟩ := by
      simp only [gotAt, valsAt, cellInt, cellStr, cellSlA, cellSlL, cellSlC, p0, p1, p2, p3, hd', List.head?_cons]
    obtain ⟨er, hck, hBy⟩ := bytes_any w.heap.size kt nt st at' lt ct Lt w (Nat.le_refl _) hT hst (InL.mem hin hmem) hLt
    show ∃ (er : Int) (str : ByteArray), (er = 0 → str.data.toList = bT (gotAt (valsAt w b off) (fun i => match (L.drop i).head? with | some (.node _ _ _ M) => M | none => []) i).tree ∧ str.size ≤ 8000 ∧ _) ∧ ∀ W, Below w.heap.size w W → Calls Tryd.prog 4 #[(valsAt w b off).at i] W _
    rw [hat, hgot]
    by_cases he : er = 0
    · have ht := hck he
      subst he
      by_cases hq : (bT (.node kt nt st Lt)).length ≤ 8000
      · have hR : bytesR 0 (bT (.node kt nt st Lt)) = .tuple #[.string ⟨(bT (.node kt nt st Lt)).toArray⟩, .int .i64 0] := by unfold bytesR; rw [if_pos rfl, if_pos hq]
        rw [hR] at hBy
        exact ⟨0, ⟨(bT (.node kt nt st Lt)).toArray⟩, fun _ => ⟨by simp [Got.tree], by rw [text_sz]; exact hq, ht, hLt, hq⟩, hBy⟩
      · have hR : bytesR 0 (bT (.node kt nt st Lt)) = .tuple #[.string ⟨#[]⟩, .int .i64 2] := by unfold bytesR; rw [if_pos rfl, if_neg hq]
        rw [hR] at hBy
        exact ⟨2, ⟨#[]⟩, fun h => absurd h (by decide), hBy⟩
    · have hR : bytesR er (bT (.node kt nt st Lt)) = .tuple #[.string ⟨#[]⟩, .int .i64 er] := by unfold bytesR; rw [if_neg he]
      rw [hR] at hBy
      exact ⟨er, ⟨#[]⟩, fun h => absurd h he, hBy⟩
  · rintro W x all rest ⟨ht, _, _⟩ hW hall hsz
    refine (long_any w.heap.size _ W (by omega) (hTW W hW).2 (hTW W hW).1).mono ?_
    rintro e w' ⟨h1, hb⟩
    refine ⟨?_, hb⟩
    have hv := vd_bT 6 _ ht (by omega) rest
    rw [hall, hv] at h1
    rw [h1]
    have hl : all.size = (bT x.tree).length + rest.length := by
      have := congrArg List.length hall
      rw [List.length_append] at this
      have h2 : all.data.toList.length = all.size := by simp
      omega
    have : (all.size : Int) - (rest.length : Int) = ((bT x.tree).length : Int) := by omega
    simp only
    rw [this]
  · rintro W x s ⟨ht, _, hq⟩ hW hs
    have hl : s.size = (bT x.tree).length := by
      have := congrArg List.length hs
      have h2 : s.data.toList.length = s.size := by simp
      omega
    refine (codeValue_any w.heap.size s W (by omega) (hTW W hW).2 (hTW W hW).1).mono ?_
    rintro e w' ⟨h1, _, hb⟩
    have hv := vd_bT 6 _ ht (by omega) []
    rw [List.append_nil, ← hs] at hv
    obtain ⟨y, e1, e2, e3⟩ := h1 x.tree hv
    exact ⟨y, e1, ⟨e2, e3.kept (Nat.le_refl _) (fun i _ _ => ⟨trivial, rfl⟩)⟩, hb⟩
  · rintro W x y ⟨ht, hLx, hq⟩ ⟨hyt, hyo⟩ hW W' hW'
    have hyl : LiesS W y.L y.a y.l := hyo.2.2.lies _ _ _
    have hyt' : T.node y.k y.n y.s y.L = .node x.k x.n x.s x.L := hyt
    injection hyt' with e1 e2 e3 e4
    have hwt := wt_bT 6 _ ht
    have hbnd : wtL x.L ≤ 2097152 := by simp only [Got.tree, wtT] at hwt; simp only [Got.tree] at hq; omega
    refine same_of x.k x.n x.s x.a x.l x.c y.k y.n y.s y.a y.l y.c 0 W' (fun W2 k2 => ?_)
    have := ref_order (wtL x.L) x.k x.n x.s x.a x.l x.c x.L y.k y.n y.s y.a y.l y.c y.L W2 (Nat.le_refl _) hbnd (by rw [e4]; exact hbnd) (hLx.below (bel2 (bel2 hW hW') k2) _ _ _) (hyl.below (bel2 hW' k2) _ _ _)
    rw [e1, e2, e3, e4, ordT_self] at this
    rw [e1, e2, e3]
    exact this
end Go.Proofs.YtdefjgbiinahdabDoor
