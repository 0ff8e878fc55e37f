/-
  What is proved here: what graph.Around answers of any graph (given what Check answers): the numbers of the edges around a node, in memory of the call's own.
-/
import Derived.Test.YtlhagimfbdkdfaaDoorGCheck3
import Derived.Deep.AppendLies
namespace Go.Proofs.YtlhagimfbdkdfaaDoor
open Go.RowKit
set_option linter.unusedVariables false

theorem info_int0 : (Tryd.prog.info? 3).map (fun i => (i.zero, i.size, i.bytes)) = some (some (.int .i64 0), 1, 8) := by kernel_rfl

theorem info_int : ∃ i, Tryd.prog.info? 3 = some i ∧ i.zero = some (.int .i64 0) ∧ i.size = 1 ∧ i.bytes = 8 := by
  obtain ⟨i, h, e⟩ := Option.map_eq_some_iff.1 info_int0
  simp only [Prod.mk.injEq] at e
  exact ⟨i, h, e⟩

theorem rowI_kept {B n : Nat} {e : TypeId} {size : Nat} {v : Value} {xs : List Value} {w w' : World} (h : w.ownsRow B e size v n xs) (hk : ∀ k, B ≤ k → k < w.heap.size → w'.heap[k]? = w.heap[k]?) : w'.ownsRow B e size v n xs := by
  refine ⟨h.1, ?_⟩
  rcases h.2 with h0 | ⟨g, cap, cur, e1, e2, e3, e4⟩
  · exact .inl h0
  · exact .inr ⟨g, cap, cur, e1, e2, by rw [hk g e2 (Array.getElem?_eq_some_iff.1 e3).1]; exact e3, e4⟩

theorem rowI_block {B n : Nat} {e : TypeId} {size : Nat} {v : Value} {xs : List Value} {w : World} (h : w.ownsRow B e size v n xs) (k : Nat) (hk : v.ownBlock = some k) : B ≤ k := by
  rcases h.2 with ⟨rfl, _⟩ | ⟨g, cap, cur, rfl, e2, _⟩
  · simp [Value.ownBlock] at hk
  · simp [Value.ownBlock] at hk
    omega

theorem alloc_2nd (w : World) (o1 o2 : Obj) : ((w.alloc o1).alloc o2).heap[w.heap.size + 1]? = some o2 := by
  have := alloc_new (w.alloc o1) o2
  rw [show (w.alloc o1).heap.size = w.heap.size + 1 from by simp] at this
  exact this

/-- Numbers as values. -/
def ints (L : List Int) : List Value := L.map (fun n => .int .i64 n)

theorem ints_more (L : List Int) (x : Int) : ints (L ++ [x]) = ints L ++ [.int .i64 x] := by simp [ints]

/-- Is it an edge of that kind from (to) that node? -/
def selE (id : Int) (kind : ByteArray) (inn : Bool) (x : Ed) : Bool := ((if inn = true then x.dst else x.frm) == id) && (kind.toList.isEmpty || kind.toList == x.typ.toList)

def arL (id : Int) (kind : ByteArray) (inn : Bool) (E : List Ed) : List Int := (E.filter (selE id kind inn)).map Ed.id

theorem arL_yes {id : Int} {kind : ByteArray} {inn : Bool} {x : Ed} {E : List Ed} (h : selE id kind inn x = true) : arL id kind inn (x :: E) = x.id :: arL id kind inn E := by
  simp [arL, h]

theorem arL_no {id : Int} {kind : ByteArray} {inn : Bool} {x : Ed} {E : List Ed} (h : selE id kind inn x = false) : arL id kind inn (x :: E) = arL id kind inn E := by
  simp [arL, h]

/-- What Around answers. -/
def AroundEnd (w w' : World) (er : Int) (has : Bool) (L : List Int) (e : Ending) : Prop :=
  (er ≠ 0 ∧ e = .returned (.tuple #[.slice none 0 0, .int .i64 er])) ∨ (er = 0 ∧ has = false ∧ e = .returned (.tuple #[.slice none 0 0, .int .i64 5])) ∨ (er = 0 ∧ has = true ∧ ∃ v, e = .returned (.tuple #[v, .int .i64 0]) ∧ w'.ownsRow w.heap.size 3 1 v L.length (ints L))

set_option maxHeartbeats 8000000 in
set_option maxRecDepth 100000 in
theorem around_of (N : List Nd) (E : List Ed) (na : Option Addr) (nl nc : Nat) (ea : Option Addr) (el ec : Nat) (next id : Int) (kind : ByteArray) (inn : Bool) (er : Int) (w : World) (hNA : NodesAt w N na nl) (hEA : EdgesAt w E ea el)
    (hC : ∀ W, Below w.heap.size w W → Calls Tryd.prog 13 #[.agg #[.slice na nl nc, .slice ea el ec, .int .i64 next]] W fun e w' => e = .returned (.int .i64 er) ∧ Below W.heap.size W w')
    (hok : er = 0 → nl ≤ 40 ∧ el ≤ 60 ∧ Rise (N.map Nd.id)) :
    Calls Tryd.prog 6 #[.agg #[.slice na nl nc, .slice ea el ec, .int .i64 next], .int .i64 id, .string kind, .bool inn] w fun e w' => AroundEnd w w' er (hasN N id) (arL id kind inn E) e ∧ Below w.heap.size w w' := by
  have HNA := toHid hNA
  have HEA := toHid hEA
  have HC := toHid hC
  have HOK := toHid hok
  have HEL := toHid hEA.1
  clear hNA hEA hC hok
  obtain ⟨i0, hi0, hiz, his, hib⟩ := info_int
  have HI0 := toHid hi0
  have HIZ := toHid hiz
  have HIS := toHid his
  have HIB := toHid hib
  clear hi0 hiz his hib
  obtain ⟨A, hA⟩ : ∃ A, A = arL id kind inn E := ⟨_, rfl⟩
  rw [← hA]
  have HAR := toHid hA
  clear hA
  obtain ⟨hs, hhs⟩ : ∃ b, b = hasN N id := ⟨_, rfl⟩
  rw [← hhs]
  have HHS := toHid hhs
  clear hhs
  have b0 : Below w.heap.size w (w.alloc (.cells #[.slice na nl nc, .slice ea el ec, .int .i64 next] 25)) := (Below.refl _ _).alloc (Nat.le_refl _) _
  have z0 : (w.alloc (.cells #[.slice na nl nc, .slice ea el ec, .int .i64 next] 25)).heap.size = w.heap.size + 1 := by simp
  have hx := alloc_new w (.cells #[.slice na nl nc, .slice ea el ec, .int .i64 next] 25)
  have HY : Hid (∀ W, Below (w.heap.size + 1) (w.alloc (.cells #[.slice na nl nc, .slice ea el ec, .int .i64 next] 25)) W → W.cell? ⟨w.heap.size, 0, none⟩ = some (.slice na nl nc) ∧ W.cell? ⟨w.heap.size, 1, none⟩ = some (.slice ea el ec) ∧ W.cell? ⟨w.heap.size, 2, none⟩ = some (.int .i64 next)) := by
    intro W k
    have q : ∀ o, W.cell? ⟨w.heap.size, o, none⟩ = _ := fun o => (k.cell (p := ⟨w.heap.size, o, none⟩) (Nat.lt_succ_self _)).trans (cell_of hx o)
    exact ⟨q 0, q 1, q 2⟩
  have B0 := toHid b0
  have Z0 := toHid z0
  clear hx b0 z0
  go_enter Tryd.func6, Tryd.ntmps6
  go_wp2_with fail
  refine (HC.out _ B0.out).mono ?_
  have K0 := toHid (Below.refl (w.heap.size + 1) (w.alloc (.cells #[.slice na nl nc, .slice ea el ec, .int .i64 next] 25)))
  generalize w.alloc (.cells #[.slice na nl nc, .slice ea el ec, .int .i64 next] 25) = W0 at HY B0 Z0 K0 ⊢
  rintro e w1 ⟨rfl, k1⟩
  have K1 := toHid (below3 K0.out (by rw [Z0.out]; exact Nat.le_refl _) k1)
  have B1 := toHid (below3 B0.out B0.out.size k1)
  have S1 : w.heap.size + 1 ≤ w1.heap.size := by have := k1.size; rw [Z0.out] at this; exact this
  obtain ⟨y0, y1, y2⟩ := HY.out w1 K1.out
  clear k1 K0
  by_cases her : er = 0
  · have her' : (er != 0) = false := by simp [her]
    obtain ⟨h40, h60, hri⟩ := HOK.out her
    have HER := toHid her
    have HIN := toHid (isNode_any N na nl nc id w1 (HNA.out.below B1.out) (by omega) hri)
    clear her HOK hri
    rw [← HHS.out] at HIN
    go_wp2_with fail
    refine HIN.out.mono ?_
    rintro e w2 ⟨rfl, k2⟩
    have K2 := toHid (below3 K1.out S1 k2)
    have B2 := toHid (below3 B1.out B1.out.size k2)
    have S2 : w.heap.size + 1 ≤ w2.heap.size := Nat.le_trans S1 k2.size
    clear k2 K1 B1 S1 y0 y1 y2 HIN
    obtain ⟨y0, y1, y2⟩ := HY.out w2 K2.out
    clear HHS
    cases hs with
    | false =>
      go_wp2_with fail
      exact bodyPost_ret (v := .tuple #[.slice none 0 0, .int .i64 5]) (by simp [results, Tryd.results6, go_sem]) rfl ⟨.inr (.inl ⟨HER.out, rfl, rfl⟩), B2.out⟩
    | true =>
      have HA0 : Hid (A = [] ++ arL id kind inn (E.drop 0)) := HAR.out
      go_wp2_with fail
      go_loopg [11, 28] el (fun g s11 s28 wr => ∃ (i : Nat) (acc : List Int) (ov : Value), i ≤ el ∧ el - i ≤ g ∧ ov = s11 ∧ s28 = .int .i64 i ∧ acc.length ≤ i ∧ wr.ownsRow (w.heap.size + 1) 3 1 ov acc.length (ints acc) ∧ Below (w.heap.size + 1) W0 wr ∧ A = acc ++ arL id kind inn (E.drop i))
      case atStart => exact ⟨0, [], .slice none 0 0, Nat.zero_le _, by omega, rfl, rfl, Nat.le_refl _, World.ownsRow_nil _ _ _ _, K2.out, HA0.out⟩
      case round =>
        clear HA0 HAR y0 y1 y2 B2 S2 K2
        obtain ⟨i, acc, ov, hi, hg, rfl, rfl, hai, hown, hbw, hfe⟩ := hrel
        have HF := toHid hfe
        have HOWN := toHid hown
        clear hfe hown
        have hz : w.heap.size + 1 ≤ wr.heap.size := by have := hbw.size; rw [Z0.out] at this; exact this
        have hw0 : Below w.heap.size w wr := B0.out.trans (hbw.mono (by omega))
        by_cases hlt : i < el
        · obtain ⟨b, off, ha, hb, hc⟩ := HEA.out.2.2 (by omega)
          subst ha
          obtain ⟨x, hx, hd⟩ := drop_get (L := E) (i := i) (by have := HEL.out; omega)
          obtain ⟨ht, c0, c1, c2, c3, c4⟩ := hc i x hx
          have q : ∀ o, wr.cell? ⟨b, o, none⟩ = w.cell? ⟨b, o, none⟩ := fun o => hw0.cell (p := ⟨b, o, none⟩) hb
          have d0 := (q _).trans c0
          have d1 := (q _).trans c1
          have d2 := (q _).trans c2
          have d3 := (q _).trans c3
          have d4 := (q _).trans c4
          have HD := toHid hd
          clear hc hd hx c0 c1 c2 c3 c4 q ht
          have HB : (acc.length + 1) * 8 ≤ 140737488355328 := by omega
          have HB2 : acc.length + 1 ≤ maxLen := by unfold maxLen; omega
          have hb3 : Below (w.heap.size + 1) W0 (wr.alloc (.cells #[.int .i64 x.id, .int .i64 x.frm, .int .i64 x.dst, .string x.typ, .slice x.pa x.pl x.pc] 42)) := hbw.alloc hz _
          have HB3 := toHid hb3
          have OWN3 := toHid (HOWN.out.alloc (.cells #[.int .i64 x.id, .int .i64 x.frm, .int .i64 x.dst, .string x.typ, .slice x.pa x.pl x.pc] 42))
          clear hb3
          have HSEL : Hid (selE id kind inn x = (((if inn = true then x.dst else x.frm) == id) && (kind.toList.isEmpty || kind.toList == x.typ.toList))) := rfl
          cases inn with
          | false =>
            cases h1 : (x.frm == id) with
            | false =>
              have H3 := toHid (show A = acc ++ arL id kind false (E.drop (i + 1)) by rw [HF.out, HD.out, arL_no (by rw [HSEL.out]; simp [h1])])
              clear HF HD HSEL
              go_wp2_with fail
              go_roundg (el - (i + 1))
              case measure => omega
              case rel => exact ⟨i + 1, acc, ov, by omega, by omega, rfl, by go_num, by omega, OWN3.out, HB3.out, H3.out⟩
            | true =>
              cases h2 : kind.toList.isEmpty with
              | true =>
                have H3 := toHid (show A = (acc ++ [x.id]) ++ arL id kind false (E.drop (i + 1)) by rw [HF.out, HD.out, arL_yes (by rw [HSEL.out]; simp [h1, h2]), List.append_assoc]; rfl)
                clear HF HD HSEL
                go_wp2_with (at_builtin; refine wpList_append_lies _ rfl _ _ 26 rfl (w.heap.size + 1) 3 i0 _ 1 8 Tryd.underlying26 HI0.out HIZ.out HIS.out HIB.out rfl (by omega) ov acc.length (ints acc) rfl (OWN3.out.alloc _) ⟨wr.heap.size + 1, 0, none⟩ 1 1 [.int .i64 x.id] rfl rfl (World.news_of_block (cs := #[.int .i64 x.id]) (t := 3) (fr := (0, 0)) (alloc_2nd wr _ _)) (by simp [Value.oneCell']) (by omega) HB2 HB (by simp; omega) (wr.heap.size + 1 + 1) (by simp) ?_)
                intro gg cap w5 hown5 hgrow hat5 hlt5
                rw [← ints_more] at hown5
                have hb6 : Below (w.heap.size + 1) W0 w5 := (HB3.out.alloc (by simp; omega) _).grown hgrow (by simp; omega) (fun j hj => rowI_block HOWN.out j hj)
                have HOWN5 := toHid hown5
                clear hown5 hgrow hat5 hlt5
                go_wp2_with fail
                go_roundg (el - (i + 1))
                case measure => omega
                case rel => exact ⟨i + 1, acc ++ [x.id], .slice (some ⟨gg, 0, none⟩) (acc.length + 1) cap, by omega, by omega, rfl, by go_num, (by rw [List.length_append, List.length_singleton]; omega), (by rw [List.length_append, List.length_singleton]; exact HOWN5.out), hb6, H3.out⟩
              | false =>
                cases h3 : (kind.toList == x.typ.toList) with
                | true =>
                  have H3 := toHid (show A = (acc ++ [x.id]) ++ arL id kind false (E.drop (i + 1)) by rw [HF.out, HD.out, arL_yes (by rw [HSEL.out]; simp [h1, h2, h3]), List.append_assoc]; rfl)
                  clear HF HD HSEL
                  go_wp2_with (at_builtin; refine wpList_append_lies _ rfl _ _ 26 rfl (w.heap.size + 1) 3 i0 _ 1 8 Tryd.underlying26 HI0.out HIZ.out HIS.out HIB.out rfl (by omega) ov acc.length (ints acc) rfl (OWN3.out.alloc _) ⟨wr.heap.size + 1, 0, none⟩ 1 1 [.int .i64 x.id] rfl rfl (World.news_of_block (cs := #[.int .i64 x.id]) (t := 3) (fr := (0, 0)) (alloc_2nd wr _ _)) (by simp [Value.oneCell']) (by omega) HB2 HB (by simp; omega) (wr.heap.size + 1 + 1) (by simp) ?_)
                  intro gg cap w5 hown5 hgrow hat5 hlt5
                  rw [← ints_more] at hown5
                  have hb6 : Below (w.heap.size + 1) W0 w5 := (HB3.out.alloc (by simp; omega) _).grown hgrow (by simp; omega) (fun j hj => rowI_block HOWN.out j hj)
                  have HOWN5 := toHid hown5
                  clear hown5 hgrow hat5 hlt5
                  go_wp2_with fail
                  go_roundg (el - (i + 1))
                  case measure => omega
                  case rel => exact ⟨i + 1, acc ++ [x.id], .slice (some ⟨gg, 0, none⟩) (acc.length + 1) cap, by omega, by omega, rfl, by go_num, (by rw [List.length_append, List.length_singleton]; omega), (by rw [List.length_append, List.length_singleton]; exact HOWN5.out), hb6, H3.out⟩
                | false =>
                  have H3 := toHid (show A = acc ++ arL id kind false (E.drop (i + 1)) by rw [HF.out, HD.out, arL_no (by rw [HSEL.out]; simp [h1, h2, h3])])
                  clear HF HD HSEL
                  go_wp2_with fail
                  go_roundg (el - (i + 1))
                  case measure => omega
                  case rel => exact ⟨i + 1, acc, ov, by omega, by omega, rfl, by go_num, by omega, OWN3.out, HB3.out, H3.out⟩
          | true =>
            cases h1 : (x.dst == id) with
            | false =>
              have H3 := toHid (show A = acc ++ arL id kind true (E.drop (i + 1)) by rw [HF.out, HD.out, arL_no (by rw [HSEL.out]; simp [h1])])
              clear HF HD HSEL
              go_wp2_with fail
              go_roundg (el - (i + 1))
              case measure => omega
              case rel => exact ⟨i + 1, acc, ov, by omega, by omega, rfl, by go_num, by omega, OWN3.out, HB3.out, H3.out⟩
            | true =>
              cases h2 : kind.toList.isEmpty with
              | true =>
                have H3 := toHid (show A = (acc ++ [x.id]) ++ arL id kind true (E.drop (i + 1)) by rw [HF.out, HD.out, arL_yes (by rw [HSEL.out]; simp [h1, h2]), List.append_assoc]; rfl)
                clear HF HD HSEL
                go_wp2_with (at_builtin; refine wpList_append_lies _ rfl _ _ 26 rfl (w.heap.size + 1) 3 i0 _ 1 8 Tryd.underlying26 HI0.out HIZ.out HIS.out HIB.out rfl (by omega) ov acc.length (ints acc) rfl (OWN3.out.alloc _) ⟨wr.heap.size + 1, 0, none⟩ 1 1 [.int .i64 x.id] rfl rfl (World.news_of_block (cs := #[.int .i64 x.id]) (t := 3) (fr := (0, 0)) (alloc_2nd wr _ _)) (by simp [Value.oneCell']) (by omega) HB2 HB (by simp; omega) (wr.heap.size + 1 + 1) (by simp) ?_)
                intro gg cap w5 hown5 hgrow hat5 hlt5
                rw [← ints_more] at hown5
                have hb6 : Below (w.heap.size + 1) W0 w5 := (HB3.out.alloc (by simp; omega) _).grown hgrow (by simp; omega) (fun j hj => rowI_block HOWN.out j hj)
                have HOWN5 := toHid hown5
                clear hown5 hgrow hat5 hlt5
                go_wp2_with fail
                go_roundg (el - (i + 1))
                case measure => omega
                case rel => exact ⟨i + 1, acc ++ [x.id], .slice (some ⟨gg, 0, none⟩) (acc.length + 1) cap, by omega, by omega, rfl, by go_num, (by rw [List.length_append, List.length_singleton]; omega), (by rw [List.length_append, List.length_singleton]; exact HOWN5.out), hb6, H3.out⟩
              | false =>
                cases h3 : (kind.toList == x.typ.toList) with
                | true =>
                  have H3 := toHid (show A = (acc ++ [x.id]) ++ arL id kind true (E.drop (i + 1)) by rw [HF.out, HD.out, arL_yes (by rw [HSEL.out]; simp [h1, h2, h3]), List.append_assoc]; rfl)
                  clear HF HD HSEL
                  go_wp2_with (at_builtin; refine wpList_append_lies _ rfl _ _ 26 rfl (w.heap.size + 1) 3 i0 _ 1 8 Tryd.underlying26 HI0.out HIZ.out HIS.out HIB.out rfl (by omega) ov acc.length (ints acc) rfl (OWN3.out.alloc _) ⟨wr.heap.size + 1, 0, none⟩ 1 1 [.int .i64 x.id] rfl rfl (World.news_of_block (cs := #[.int .i64 x.id]) (t := 3) (fr := (0, 0)) (alloc_2nd wr _ _)) (by simp [Value.oneCell']) (by omega) HB2 HB (by simp; omega) (wr.heap.size + 1 + 1) (by simp) ?_)
                  intro gg cap w5 hown5 hgrow hat5 hlt5
                  rw [← ints_more] at hown5
                  have hb6 : Below (w.heap.size + 1) W0 w5 := (HB3.out.alloc (by simp; omega) _).grown hgrow (by simp; omega) (fun j hj => rowI_block HOWN.out j hj)
                  have HOWN5 := toHid hown5
                  clear hown5 hgrow hat5 hlt5
                  go_wp2_with fail
                  go_roundg (el - (i + 1))
                  case measure => omega
                  case rel => exact ⟨i + 1, acc ++ [x.id], .slice (some ⟨gg, 0, none⟩) (acc.length + 1) cap, by omega, by omega, rfl, by go_num, (by rw [List.length_append, List.length_singleton]; omega), (by rw [List.length_append, List.length_singleton]; exact HOWN5.out), hb6, H3.out⟩
                | false =>
                  have H3 := toHid (show A = acc ++ arL id kind true (E.drop (i + 1)) by rw [HF.out, HD.out, arL_no (by rw [HSEL.out]; simp [h1, h2, h3])])
                  clear HF HD HSEL
                  go_wp2_with fail
                  go_roundg (el - (i + 1))
                  case measure => omega
                  case rel => exact ⟨i + 1, acc, ov, by omega, by omega, rfl, by go_num, by omega, OWN3.out, HB3.out, H3.out⟩
        · have H3 := toHid (show A = acc by rw [HF.out, List.drop_eq_nil_of_le (by have := HEL.out; omega)]; simp [arL])
          clear HF
          go_wp2_with fail
          refine bodyPost_ret (v := .tuple #[ov, .int .i64 0]) (by simp [results, Tryd.results6, go_sem]) rfl ⟨.inr (.inr ⟨HER.out, rfl, ov, rfl, ?_⟩), hw0⟩
          rw [H3.out]
          exact ⟨HOWN.out.1, HOWN.out.2.elim .inl (fun ⟨g, cap, cur, e1, e2, e3⟩ => .inr ⟨g, cap, cur, e1, by omega, e3⟩)⟩
  · have her' : (er != 0) = true := by simp [her]
    have HER := toHid her
    clear her
    go_wp2_with fail
    exact bodyPost_ret (v := .tuple #[.slice none 0 0, .int .i64 er]) (by simp [results, Tryd.results6, go_sem]) rfl ⟨.inl ⟨HER.out, rfl⟩, B1.out⟩
end Go.Proofs.YtlhagimfbdkdfaaDoor
