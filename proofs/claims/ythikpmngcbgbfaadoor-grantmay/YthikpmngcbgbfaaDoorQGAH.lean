/-
  What is proved here: what the texts HEachP, HOrder, GProp, GProp2, GKnows, GDrawn1, GDrawn, GIsName, GLawNames prove, in one text.
-/
import Derived.Test.YthikpmngcbgbfaaDoorQGAG
import Derived.Deep.AppendLies
import Derived.Test.YthikpmngcbgbfaaDoorQGAC
import Derived.Deep.RegionHeld3
import Derived.Deep.DeepFit
import Derived.Deep.RegionLaw
import Derived.Deep.DeepCutAuto
import Derived.OwnWalk
import Derived.Test.YthikpmngcbgbfaaDoorQGAD
import Derived.Test.YthikpmngcbgbfaaDoorQGAB
import Derived.Test.YthikpmngcbgbfaaDoorShelfT
import Derived.Test.YthikpmngcbgbfaaDoorQGAE
namespace Go.Proofs.YthikpmngcbgbfaaDoor
open Go.RowKit
set_option linter.unusedVariables false

/-- A property whose value can be laid anew. -/
def AP.ok (x : AP) : Prop := wtT x.t ≤ 1099511627776

/-- Properties in a row of the call's own, their values' lists beside. -/
def PsOwn (A : Nat → Prop) (w : World) (X : List AP) (v : Value) : Prop := OwnB A v ∧ ∃ P, w.ownsRow 0 100 5 v P.length (rowP P) ∧ Pair2 (PrIn (fun i => A i ∧ v.ownBlock ≠ some i) w) P X

/-- The answer of each. -/
def PsOwnEnd (W w' : World) (X : List AP) (e : Ending) : Prop := ∃ v, e = .returned v ∧ PsOwn (fun i => W.heap.size ≤ i) w' X v

set_option maxHeartbeats 4000000 in
set_option maxRecDepth 100000 in
theorem each_props (X : List AP) (a : Option Addr) (l c : Nat) (w : World) (h : PsAt w X a l) (hl : l ≤ 1000) (hok : ∀ x ∈ X, x.ok) :
    Calls Tryd.prog 59 #[.slice a l c, .func (.func 60) #[] #[]] w fun e w' => PsOwnEnd w w' X e ∧ Below w.heap.size w w' := by
  obtain ⟨P0, ⟨hl0, hmx, hat⟩, hpair⟩ := h
  have HAT := toHid hat
  have HL := toHid hl0
  have HPAIR := toHid hpair
  have HOK := toHid hok
  clear hat hl0 hpair hok
  obtain ⟨i0, hi0, hiz, his, hib⟩ := info_prop
  have HI0 := toHid hi0
  have HIZ := toHid hiz
  have HIS := toHid his
  have HIB := toHid hib
  clear hi0 hiz his hib
  have HXL : Hid (X.length = l) := by rw [HL.out]; exact HPAIR.out.1.symm
  go_enter Tryd.func59, Tryd.ntmps59
  go_wp2_with fail
  go_loopg [5, 10] l (fun g s5 s10 wr => ∃ (i : Nat) (P : List Pr) (ov : Value), i ≤ l ∧ l - i ≤ g ∧ ov = s5 ∧ s10 = .int .i64 i ∧ P.length = i ∧ wr.ownsRow w.heap.size 100 5 ov i (rowP P) ∧ Below w.heap.size w wr ∧ Pair2 (PrIn (fun j => w.heap.size ≤ j ∧ ov.ownBlock ≠ some j) wr) P (X.take i))
  case atStart => exact ⟨0, [], .slice none 0 0, Nat.zero_le _, by omega, rfl, rfl, rfl, World.ownsRow_nil _ _ _ _, Below.refl _ _, Pair2.nil⟩
  case round =>
    obtain ⟨i, P, ov, hi, hg, rfl, rfl, hPl, hown, hbw, hpr⟩ := hrel
    have HOWN := toHid hown
    have HPR := toHid hpr
    have HPL := toHid hPl
    clear hown hpr hPl
    by_cases hlt : i < l
    · obtain ⟨b, off, ha, hb, hc⟩ := HAT.out (by omega)
      subst ha
      obtain ⟨x, hx, _⟩ := drop_get (L := P0) (i := i) (by have := HL.out; omega)
      obtain ⟨y, hy, hxy⟩ := HPAIR.out.left hx
      have HXY := toHid hxy
      have HY := toHid hy
      have HYO : Hid y.ok := HOK.out y (List.mem_of_getElem? hy)
      obtain ⟨hsz, c0, c1, c2, c3, c4⟩ := hc i x hx
      have q : ∀ o, wr.cell? ⟨b, o, none⟩ = w.cell? ⟨b, o, none⟩ := fun o => hbw.cell (p := ⟨b, o, none⟩) hb
      have d0 := (q _).trans c0
      have d1 := (q _).trans c1
      have d2 := (q _).trans c2
      have d3 := (q _).trans c3
      have d4 := (q _).trans c4
      clear hc hx c0 c1 c2 c3 c4 q hxy hy
      have hil : (i : Int) < l := by omega
      have hz : w.heap.size ≤ wr.heap.size := hbw.size
      have HONE : Hid (∀ W, Below w.heap.size w W → Calls Tryd.prog 60 #[.agg #[.string x.name, .int .i64 x.k, .int .i64 x.n, .string x.s, .slice x.a x.l x.c]] W fun e w' => PropEnd1 W w' y e ∧ Below W.heap.size W w') := fun W kW => prop_any x y W (HXY.out.below kW) HYO.out
      go_wp2_with fail
      refine (HONE.out _ (hbw.alloc hz _)).mono ?_
      have hbw1 : Below wr.heap.size wr (wr.alloc (.cells #[.string x.name, .int .i64 x.k, .int .i64 x.n, .string x.s, .slice x.a x.l x.c] 100)) := (Below.refl _ _).alloc (Nat.le_refl _) _
      have hz1 : (wr.alloc (.cells #[.string x.name, .int .i64 x.k, .int .i64 x.n, .string x.s, .slice x.a x.l x.c] 100)).heap.size = wr.heap.size + 1 := by simp
      generalize wr.alloc (.cells #[.string x.name, .int .i64 x.k, .int .i64 x.n, .string x.s, .slice x.a x.l x.c] 100) = W1 at hbw1 hz1 ⊢
      rintro e w2 ⟨⟨y', rfl, hin⟩, k2⟩
      have hs2 : wr.heap.size + 1 ≤ w2.heap.size := by have := k2.size; omega
      have kb2 : Below wr.heap.size wr w2 := hbw1.trans (k2.mono hbw1.size)
      have HIN := toHid hin
      have HKB2 := toHid kb2
      have HZ1 := toHid hz1
      have HB2 := toHid (hbw.trans (kb2.mono hz))
      have hlv : ∀ g, ov.ownBlock = some g → g < wr.heap.size := by
        intro g hg
        rcases HOWN.out.2 with ⟨h0, _⟩ | ⟨g', cap, cur, h0, _, h2, _⟩
        · rw [h0] at hg; cases hg
        · rw [h0] at hg
          have : g' = g := by simpa [Value.ownBlock] using hg
          subst this
          exact (Array.getElem?_eq_some_iff.1 h2).1
      have HLV := toHid hlv
      have OWN2 := toHid (row_keep HOWN.out (w' := w2) (fun g hg _ => kb2.block g (hlv g hg)))
      clear hin kb2 hz1 hbw1 k2 hlv d0 d1 d2 d3 d4 HONE HXY HYO
      unfold Pr.pv
      have HBy : (i + 1) * 72 ≤ 140737488355328 := by omega
      have HBm : i + 1 ≤ maxLen := by unfold maxLen; omega
      go_wp2_with (at_builtin; refine wpList_append_lies _ rfl _ _ 40 rfl w.heap.size 100 i0 _ 5 72 Tryd.underlying40 HI0.out HIZ.out HIS.out HIB.out rfl (by omega) ov i (rowP P) rfl (OWN2.out.alloc _) ⟨w2.heap.size, 0, none⟩ 1 1 [.string y'.name, .int .i64 y'.k, .int .i64 y'.n, .string y'.s, .slice y'.a y'.l y'.c] rfl rfl (World.news_of_block (cs := #[.string y'.name, .int .i64 y'.k, .int .i64 y'.n, .string y'.s, .slice y'.a y'.l y'.c]) (t := 100) (fr := (0, 0)) (alloc_new w2 _)) (by simp [Value.oneCell']) (by omega) HBm HBy (by simp; omega) (w2.heap.size + 1) (by simp) ?_)
      intro gg cap w5 hown5 hgrow hat5 hlt5
      have hb6 : Below w.heap.size w w5 := (HB2.out.alloc (by omega) _).grown hgrow (by simp; omega) (fun j hj => (by
        rcases HOWN.out.2 with ⟨h0, _⟩ | ⟨g', cap, cur, h0, h1, _⟩
        · rw [h0] at hj; cases hj
        · rw [h0] at hj
          have : g' = j := by simpa [Value.ownBlock] using hj
          subst this
          exact h1))
      have hsame : ∀ j, j < w2.heap.size → ov.ownBlock ≠ some j → w5.heap[j]? = w2.heap[j]? := fun j hj hn => (hgrow.block j (by simp; omega) (fun e => hn e.symm)).trans (Below.heap_alloc w2 _ j hj)
      have hsz5 : w2.heap.size ≤ w5.heap.size := Nat.le_trans (by simp) hgrow.size
      have hgg : ∀ j, j < w2.heap.size → ov.ownBlock ≠ some j → (Value.slice (some ⟨gg, 0, none⟩) (i + 1) cap).ownBlock ≠ some j := by
        intro j hj hn he
        have e1 : gg = j := by simpa [Value.ownBlock] using he
        rcases hat5 with h5 | h5
        · rw [e1] at h5; exact hn h5
        · omega
      have HPR5 : Hid (Pair2 (PrIn (fun j => w.heap.size ≤ j ∧ (Value.slice (some ⟨gg, 0, none⟩) (i + 1) cap).ownBlock ≠ some j) w5) (P ++ [y']) (X.take (i + 1))) := by
        have e1 : X.take (i + 1) = X.take i ++ [y] := by rw [List.take_add_one, HY.out]; rfl
        rw [e1]
        refine (HPR.out.mono fun p x _ _ hp => hp.kept ⟨by have := HKB2.out.size; omega, fun j hj hjl => ⟨⟨hj.1, hgg j (by omega) hj.2⟩, (hsame j (by omega) hj.2).trans (HKB2.out.block j hjl)⟩⟩).snoc (HIN.out.kept ⟨hsz5, fun j hj hjl => ?_⟩)
        have hj' : wr.heap.size + 1 ≤ j := by have := HZ1.out; omega
        have hn : ov.ownBlock ≠ some j := fun e => by have := HLV.out j e; omega
        exact ⟨⟨by omega, hgg j hjl hn⟩, hsame j hjl hn⟩
      have HOWN5 : Hid (w5.ownsRow w.heap.size 100 5 (.slice (some ⟨gg, 0, none⟩) (i + 1) cap) (i + 1) (rowP (P ++ [y']))) := by
        rw [rowP_snoc]
        exact hown5
      clear hown5 hgrow hat5 hlt5 hsame hsz5 hgg
      go_wp2_with fail
      go_roundg (l - (i + 1))
      case measure => omega
      case rel => exact ⟨i + 1, P ++ [y'], .slice (some ⟨gg, 0, none⟩) (i + 1) cap, by omega, by omega, rfl, by go_num, by rw [List.length_append, List.length_singleton, HPL.out], HOWN5.out, hb6, HPR5.out⟩
    · have hil : i = l := by omega
      subst hil
      have HFIN : Hid (PsOwn (fun j => w.heap.size ≤ j) wr X ov) := by
        refine ⟨fun g hg => ?_, P, ?_, ?_⟩
        · rcases HOWN.out.2 with ⟨h0, _⟩ | ⟨g', cap, cur, h0, h1, _⟩
          · rw [h0] at hg; cases hg
          · rw [h0] at hg
            have : g' = g := by simpa [Value.ownBlock] using hg
            subst this
            exact h1
        · rw [HPL.out]
          exact ⟨HOWN.out.1, HOWN.out.2.elim .inl (fun ⟨g, cap, cur, e1, e2, e3⟩ => .inr ⟨g, cap, cur, e1, Nat.zero_le _, e3⟩)⟩
        · have := HPR.out
          rw [List.take_of_length_le (by rw [HXL.out]; exact Nat.le_refl _)] at this
          exact this
      clear HPR HOWN
      go_wp2_with fail
      go_ret
      exact ⟨⟨ov, rfl, HFIN.out⟩, hbw⟩

/-- A row of the call's own is left alone by what leaves its blocks alone. -/
theorem row_kept {B n : Nat} {e : TypeId} {size : Nat} {v : Value} {xs : List Value} {w w' : World} (h : w.ownsRow B e size v n xs) (hk : ∀ k, B ≤ k → k < w.heap.size → w'.heap[k]? = w.heap[k]?) : w'.ownsRow B e size v n xs := by
  refine ⟨h.1, ?_⟩
  rcases h.2 with h0 | ⟨g, cap, cur, e1, e2, e3, e4⟩
  · exact .inl h0
  · exact .inr ⟨g, cap, cur, e1, e2, by rw [hk g e2 (Array.getElem?_eq_some_iff.1 e3).1]; exact e3, e4⟩


theorem compare_int (a b : Int) (w : World) : Calls Tryd.prog 90 #[.int .i64 a, .int .i64 b] w fun e w' => e = .returned (.int .i64 (cmpI a b)) ∧ w' = w := by
  refine (compare_num a b w).mono ?_
  rintro e w' ⟨rfl, rfl⟩
  refine ⟨ret_int ?_, rfl⟩
  unfold cmpN cmpI
  repeat' split <;> first | rfl | omega

/-- Two lists held against each other: what they are, and the slices that lie for them. -/
structure Ent where
  x : List T
  y : List T
  a : Option Addr
  la : Nat
  ca : Nat
  b : Option Addr
  lb : Nat
  cb : Nat

def Ent.cells (e : Ent) : List Value := [.slice e.a e.la e.ca, .slice e.b e.lb e.cb]

def Ent.ok (w : World) (e : Ent) : Prop := LiesS w e.x e.a e.la ∧ LiesS w e.y e.b e.lb ∧ e.la ≤ e.ca ∧ e.lb ≤ e.cb

def rowE (l : List Ent) : List Value := (l.map Ent.cells).flatten

theorem rowE_snoc (l : List Ent) (x : Ent) : rowE (l ++ [x]) = rowE l ++ x.cells := by simp [rowE]

theorem rowE_length (l : List Ent) : (rowE l).length = l.length * 2 := by
  induction l with
  | nil => rfl
  | cons x l ih =>
    show (x.cells ++ rowE l).length = _
    rw [List.length_append, ih, List.length_cons]
    show 2 + _ = _
    omega

/-- What the open pairs come to: the last is looked at first. -/
def ansE : List Ent → Int
  | [] => 0
  | e :: l => lex (ansE l) (ordL e.x e.y)

theorem ansE_snoc (l : List Ent) (e : Ent) : ansE (l ++ [e]) = lex (ordL e.x e.y) (ansE l) := by
  induction l with
  | nil => simp [ansE, lex]
  | cons x l ih =>
    show lex (ansE (l ++ [e])) _ = lex _ (lex _ _)
    rw [ih]
    unfold lex
    by_cases h : ordL e.x e.y = 0 <;> simp [h]

/-- How great the first sides of the open pairs are. -/
def wtE : List Ent → Nat
  | [] => 0
  | e :: l => wtL e.x + wtE l

theorem wtE_snoc (l : List Ent) (e : Ent) : wtE (l ++ [e]) = wtE l + wtL e.x := by
  induction l with
  | nil => simp [wtE]
  | cons x l ih => simp only [List.cons_append, wtE, ih]; omega

theorem wtE_length (l : List Ent) : l.length ≤ wtE l := by
  induction l with
  | nil => simp [wtE]
  | cons x l ih => have := wtL_pos x.x; simp only [List.length_cons, wtE]; omega

theorem heap_drew (w : World) (i : Nat) : w.drew.heap[i]? = w.heap[i]? := rfl

theorem snoc_of {α : Type} : ∀ (l : List α), l ≠ [] → ∃ l0 e, l = l0 ++ [e]
  | l, h => ⟨l.dropLast, l.getLast h, (List.dropLast_concat_getLast h).symm⟩

/-- The last two cells of a row. -/
theorem row_last {cur : Array Value} {n : Nat} {xs : List Value} {u v : Value} (hx : xs.length = n * 2) (h : cur.toList.take ((n + 1) * 2) = xs ++ [u, v]) : cur[n * 2]? = some u ∧ cur[n * 2 + 1]? = some v := by
  have g : ∀ j, j < 2 → cur[n * 2 + j]? = (xs ++ [u, v])[n * 2 + j]? := fun j hj => by
    rw [← h, List.getElem?_take, if_pos (by omega)]
    simp
  have g0 := g 0 (by omega)
  have g1 := g 1 (by omega)
  rw [List.getElem?_append_right (by omega)] at g0 g1
  simp only [hx, Nat.add_zero, Nat.sub_self] at g0
  rw [hx, show n * 2 + 1 - n * 2 = 1 from by omega] at g1
  exact ⟨g0, g1⟩

/-- The properties of the node or edge of that number, and where they lie. -/
def Owner (N : List Nd) (E : List Ed) (id : Int) (P : List Pr) (pa : Option Addr) (pl pc : Nat) : Prop :=
  (∃ x ∈ N, x.id = id ∧ x.props = P ∧ x.pa = pa ∧ x.pl = pl ∧ x.pc = pc) ∨ (hasN N id = false ∧ ∃ x ∈ E, x.id = id ∧ x.props = P ∧ x.pa = pa ∧ x.pl = pl ∧ x.pc = pc)

def PoEnd (N : List Nd) (E : List Ed) (id : Int) (e : Ending) : Prop :=
  (∃ P pa pl pc, Owner N E id P pa pl pc ∧ e = .returned (.tuple #[.slice pa pl pc, .bool true])) ∨ (hasN N id = false ∧ id ∉ E.map Ed.id ∧ e = .returned (.tuple #[.slice none 0 0, .bool false]))

def findP (P : List Pr) (name : ByteArray) : Option Pr := P.find? (fun p => p.name.toList == name.toList)

def zvV : Value := .agg #[.int .i64 0, .int .i64 0, .string ⟨#[]⟩, .slice none 0 0]

def PropEnd (w' : World) (er : Int) (N : List Nd) (E : List Ed) (id : Int) (name : ByteArray) (tr : Pr → List T) (e : Ending) : Prop :=
  (er ≠ 0 ∧ e = .returned (.tuple #[zvV, .int .i64 er])) ∨ (er = 0 ∧ hasN N id = false ∧ id ∉ E.map Ed.id ∧ e = .returned (.tuple #[zvV, .int .i64 5])) ∨
  (er = 0 ∧ ∃ P pa pl pc, Owner N E id P pa pl pc ∧ ((findP P name = none ∧ e = .returned (.tuple #[zvV, .int .i64 0])) ∨ ∃ p a' c', findP P name = some p ∧ p ∈ P ∧ e = .returned (.tuple #[.agg #[.int .i64 p.k, .int .i64 p.n, .string p.s, .slice a' p.l c'], .int .i64 0]) ∧ p.l ≤ c' ∧ LiesS w' (tr p) a' p.l))

def SofEnd (P : List Pr) (name : ByteArray) (e : Ending) : Prop := (findP P name = none ∧ e = .returned zvV) ∨ ∃ p, findP P name = some p ∧ p ∈ P ∧ e = .returned (.agg #[.int .i64 p.k, .int .i64 p.n, .string p.s, .slice p.a p.l p.c])

set_option maxHeartbeats 4000000 in
set_option maxRecDepth 100000 in
theorem fresh_zero (w : World) : Calls Tryd.prog 81 #[.agg #[.int .i64 0, .int .i64 0, .string ⟨#[]⟩, .slice none 0 0]] w fun e w' => e = .returned zvV ∧ Below w.heap.size w w' := by
  have HV : Hid (∀ W, Calls Tryd.prog 94 #[.slice none 0 0] W fun e w' => e = .returned (.slice none 0 0) ∧ Below W.heap.size W w') := fun W => values_none none 0 W
  have b0 : Below w.heap.size w ((w.alloc (.cells #[.int .i64 0, .int .i64 0, .string ⟨#[]⟩, .slice none 0 0] 39)).alloc (.cells #[.int .i64 0, .int .i64 0, .string ⟨#[]⟩, .slice none 0 0] 39)) := ((Below.refl _ _).alloc (Nat.le_refl _) _).alloc (by simp) _
  have hx := (Below.heap_alloc (w.alloc (.cells #[.int .i64 0, .int .i64 0, .string ⟨#[]⟩, .slice none 0 0] 39)) (.cells #[.int .i64 0, .int .i64 0, .string ⟨#[]⟩, .slice none 0 0] 39) w.heap.size (by simp)).trans (alloc_new w (.cells #[.int .i64 0, .int .i64 0, .string ⟨#[]⟩, .slice none 0 0] 39))
  have hy := alloc_two w (.cells #[.int .i64 0, .int .i64 0, .string ⟨#[]⟩, .slice none 0 0] 39) (.cells #[.int .i64 0, .int .i64 0, .string ⟨#[]⟩, .slice none 0 0] 39)
  have z0 : ((w.alloc (.cells #[.int .i64 0, .int .i64 0, .string ⟨#[]⟩, .slice none 0 0] 39)).alloc (.cells #[.int .i64 0, .int .i64 0, .string ⟨#[]⟩, .slice none 0 0] 39)).heap.size = w.heap.size + 2 := by simp
  have HB := toHid b0
  have HX := toHid hx
  have HY := toHid hy
  have HZ := toHid z0
  clear b0 hx hy z0
  go_enter Tryd.func81, Tryd.ntmps81
  go_wp2_with fail
  refine (HV.out _).mono ?_
  generalize (w.alloc (.cells #[.int .i64 0, .int .i64 0, .string ⟨#[]⟩, .slice none 0 0] 39)).alloc (.cells #[.int .i64 0, .int .i64 0, .string ⟨#[]⟩, .slice none 0 0] 39) = W at HB HX HY HZ ⊢
  rintro e w1 ⟨rfl, k1⟩
  have s1 : w.heap.size + 2 ≤ w1.heap.size := by have := k1.size; rw [HZ.out] at this; exact this
  have c1 := HB.out.trans (k1.mono HB.out.size)
  have hv1 := (k1.block w.heap.size (by rw [HZ.out]; omega)).trans HX.out
  have hr1 := (k1.block (w.heap.size + 1) (by rw [HZ.out]; omega)).trans HY.out
  have hv2 := cell3_here hv1 (.slice none 0 0)
  have hr2 := (Below.heap_setCell w1 ⟨w.heap.size, 3, none⟩ (.slice none 0 0) (w.heap.size + 1) (by show w.heap.size + 1 ≠ w.heap.size; omega)).trans hr1
  have c2 : Below w.heap.size w (w1.setCell ⟨w.heap.size, 3, none⟩ (.slice none 0 0)) := c1.setCell (p := ⟨w.heap.size, 3, none⟩) (Nat.le_refl _) _
  have s2 : (w1.setCell ⟨w.heap.size, 3, none⟩ (.slice none 0 0)).heap.size = w1.heap.size := by simp [World.setCell]
  have x3 := cell_of hv1 3
  have f3 := free_of hv1 3
  simp at x3
  have hl1 : w.heap.size < w1.heap.size := by omega
  have HV2 := toHid hv2
  have HR2 := toHid hr2
  have HC2 := toHid c2
  have HS2 := toHid s2
  clear hv1 hr1 hv2 hr2 c2 s2 k1 c1
  obtain ⟨X, hX⟩ : ∃ X, X = w1.setCell ⟨w.heap.size, 3, none⟩ (.slice none 0 0) := ⟨_, rfl⟩
  rw [← hX] at HV2 HR2 HC2 HS2
  have q0 := cell_of HV2.out 0
  have q1 := cell_of HV2.out 1
  have q2 := cell_of HV2.out 2
  have q3 := cell_of HV2.out 3
  simp at q0 q1 q2 q3
  have r0 := cell_of HR2.out 0
  have r1 := cell_of HR2.out 1
  have r2 := cell_of HR2.out 2
  have r3 := cell_of HR2.out 3
  simp at r0 r1 r2 r3
  have g0 := free_of HR2.out 0
  have g1 := free_of HR2.out 1
  have g2 := free_of HR2.out 2
  have g3 := free_of HR2.out 3
  have hXs : w1.setCell ⟨w.heap.size, 3, none⟩ (.slice none 0 0) = X := hX.symm
  have HE := toHid (put4_here HR2.out (.int .i64 0) (.int .i64 0) (.string ⟨#[]⟩) (.slice none 0 0))
  have HBB := toHid (HC2.out.trans ((put4_bel X (w.heap.size + 1) (.int .i64 0) (.int .i64 0) (.string ⟨#[]⟩) (.slice none 0 0)).mono (by omega)))
  clear hX HV2 HR2 HC2 HS2
  go_wp2_with fail
  have eP : ∀ X : World, (((X.setCell ⟨w.heap.size + 1, 0, none⟩ (.int .i64 0)).setCell ⟨w.heap.size + 1, 1, none⟩ (.int .i64 0)).setCell ⟨w.heap.size + 1, 2, none⟩ (.string ⟨#[]⟩)).setCell ⟨w.heap.size + 1, 3, none⟩ (.slice none 0 0) = put4 X (w.heap.size + 1) (.int .i64 0) (.int .i64 0) (.string ⟨#[]⟩) (.slice none 0 0) := fun _ => rfl
  rw [eP]
  have E := HE.out
  have hbb := HBB.out
  clear HE HBB
  generalize put4 X (w.heap.size + 1) (.int .i64 0) (.int .i64 0) (.string ⟨#[]⟩) (.slice none 0 0) = Y at E hbb ⊢
  have t0 := cell_of E 0
  have t1 := cell_of E 1
  have t2 := cell_of E 2
  have t3 := cell_of E 3
  simp at t0 t1 t2 t3
  exact bodyPost_ret (v := zvV) (by simp [zvV, results, Tryd.results81, go_sem, t0, t1, t2, t3]) rfl ⟨rfl, hbb⟩

/-- How that graph lies in memory. -/
def KnowsAt (w : World) (lb pb nb eb : Nat) : Prop :=
  w.heap[lb]? = some (.cells #[.string ⟨#[65]⟩] 9 (0, 0)) ∧ w.heap[pb]? = some (.cells #[.string ⟨#[110]⟩, .int .i64 2, .int .i64 5, .string ⟨#[]⟩, .slice none 0 0] 100 (0, 0)) ∧
  w.heap[nb]? = some (.cells #[.int .i64 1, .slice (some ⟨lb, 0, none⟩) 1 1, .slice (some ⟨pb, 0, none⟩) 1 1, .int .i64 2, .slice none 0 0, .slice none 0 0] 51 (0, 0)) ∧
  w.heap[eb]? = some (.cells #[.int .i64 3, .int .i64 1, .int .i64 2, .string ⟨#[75]⟩, .slice none 0 0] 71 (0, 0))

def KnowsEnd (w' : World) (e : Ending) : Prop := ∃ lb pb nb eb, e = .returned (.agg #[.slice (some ⟨nb, 0, none⟩) 2 2, .slice (some ⟨eb, 0, none⟩) 1 1, .int .i64 4]) ∧ KnowsAt w' lb pb nb eb

def prK : Pr := ⟨⟨#[110]⟩, 2, 5, ⟨#[]⟩, none, 0, 0, 0⟩
def ndsK (lb pb : Nat) : List Nd := [⟨1, [⟨#[65]⟩], some ⟨lb, 0, none⟩, 1, 1, [prK], some ⟨pb, 0, none⟩, 1, 1⟩, ⟨2, [], none, 0, 0, [], none, 0, 0⟩]
def edsK : List Ed := [⟨3, 1, 2, ⟨#[75]⟩, [], none, 0, 0⟩]

theorem lt_of_some {w : World} {b : Nat} {o : Obj} (h : w.heap[b]? = some o) : b < w.heap.size := (Array.getElem?_eq_some_iff.1 h).1

theorem KnowsAt.below {w w' : World} {lb pb nb eb : Nat} (h : KnowsAt w lb pb nb eb) (k : Below w.heap.size w w') : KnowsAt w' lb pb nb eb := by
  obtain ⟨h1, h2, h3, h4⟩ := h
  exact ⟨(k.block _ (lt_of_some h1)).trans h1, (k.block _ (lt_of_some h2)).trans h2, (k.block _ (lt_of_some h3)).trans h3, (k.block _ (lt_of_some h4)).trans h4⟩

theorem strs_none (w : World) (a : Option Addr) : StrsAt w [] a 0 := ⟨rfl, by omega, fun h => absurd h (Nat.lt_irrefl _)⟩
theorem props_none (w : World) (a : Option Addr) : PropsAt w [] a 0 := ⟨rfl, by omega, fun h => absurd h (Nat.lt_irrefl _)⟩

theorem KnowsAt.strs {w : World} {lb pb nb eb : Nat} (h : KnowsAt w lb pb nb eb) : StrsAt w [⟨#[65]⟩] (some ⟨lb, 0, none⟩) 1 := by
  refine ⟨rfl, by omega, fun _ => ⟨lb, 0, rfl, lt_of_some h.1, fun i s hs => ?_⟩⟩
  cases i with
  | zero =>
    simp at hs
    subst hs
    exact ⟨by decide, cell_of h.1 0⟩
  | succ i => simp at hs

theorem KnowsAt.props {w : World} {lb pb nb eb : Nat} (h : KnowsAt w lb pb nb eb) : PropsAt w [prK] (some ⟨pb, 0, none⟩) 1 := by
  refine ⟨rfl, by omega, fun _ => ⟨pb, 0, rfl, lt_of_some h.2.1, fun i s hs => ?_⟩⟩
  cases i with
  | zero =>
    simp at hs
    subst hs
    exact ⟨by decide, cell_of h.2.1 0, cell_of h.2.1 1, cell_of h.2.1 2, cell_of h.2.1 3, cell_of h.2.1 4⟩
  | succ i => simp at hs

theorem KnowsAt.nodes {w : World} {lb pb nb eb : Nat} (h : KnowsAt w lb pb nb eb) : NodesAt w (ndsK lb pb) (some ⟨nb, 0, none⟩) 2 := by
  refine ⟨rfl, by omega, fun _ => ⟨nb, 0, rfl, lt_of_some h.2.2.1, fun i s hs => ?_⟩⟩
  match i, hs with
  | 0, hs =>
    simp [ndsK] at hs
    subst hs
    exact ⟨cell_of h.2.2.1 0, cell_of h.2.2.1 1, cell_of h.2.2.1 2⟩
  | 1, hs =>
    simp [ndsK] at hs
    subst hs
    exact ⟨cell_of h.2.2.1 3, cell_of h.2.2.1 4, cell_of h.2.2.1 5⟩
  | i + 2, hs => simp [ndsK] at hs

theorem KnowsAt.edges {w : World} {lb pb nb eb : Nat} (h : KnowsAt w lb pb nb eb) : EdgesAt w edsK (some ⟨eb, 0, none⟩) 1 := by
  refine ⟨rfl, by omega, fun _ => ⟨eb, 0, rfl, lt_of_some h.2.2.2, fun i s hs => ?_⟩⟩
  cases i with
  | zero =>
    simp [edsK] at hs
    subst hs
    exact ⟨by decide, cell_of h.2.2.2 0, cell_of h.2.2.2 1, cell_of h.2.2.2 2, cell_of h.2.2.2 3, cell_of h.2.2.2 4⟩
  | succ i => simp [edsK] at hs

theorem leS_lit (s t : ByteArray) : leS s t = (Op.bytesLess s.data.toList t.data.toList || s.data.toList == t.data.toList) := by
  unfold leS
  rw [ByteArray.toList_eq, ByteArray.toList_eq]

theorem labs_K : labsE [⟨#[65]⟩] = 0 := by
  have h1 : nm ⟨#[65]⟩ = true := by decide
  have h2 : leS ⟨#[65]⟩ ⟨#[]⟩ = false := by rw [leS_lit]; decide
  simp [labsE, labE, h1, h2]

theorem prs_K : prsE [prK] = 0 := by
  have h1 : nm prK.name = true := by decide
  have h2 : leS prK.name ⟨#[]⟩ = false := by rw [leS_lit]; decide
  have h3 : prK.k ≠ 0 := by decide
  have h4 : prK.e = 0 := rfl
  simp [prsE, prE, h1, h2, h3, h4]

theorem gE_K (lb pb : Nat) : gE (ndsK lb pb) edsK 4 = 0 := by
  have a1 := labs_K
  have a2 := prs_K
  have a3 : labsE [] = 0 := by simp [labsE, labE]
  have a4 : prsE [] = 0 := by simp [prsE, prE]
  have a5 : nm ⟨#[75]⟩ = true := by decide
  have n1 : ndE 0 (ndsK lb pb) = 0 := by simp [ndE, ndOne, ndsK, a1, a2, a3, a4]
  have e1 : edE (ndsK lb pb) 0 edsK = 0 := by simp [edE, edOne, edsK, hasN, ndsK, a4, a5]
  have l1 : lastI 0 ((ndsK lb pb).map Nd.id) = 2 := rfl
  have l2 : lastI 0 (edsK.map Ed.id) = 3 := rfl
  rw [gE, n1, e1, l1, l2]
  simp [ndsK, edsK]

theorem val_K (w : World) : Calls Tryd.prog 93 #[prK.val] w fun e w' => e = .returned (.int .i64 prK.e) ∧ Below w.heap.size w w' :=
  check_of 2 5 ⟨#[]⟩ none 0 0 0 w fun w' k => within_plain 2 5 ⟨#[]⟩ none 0 0 0 0 w' rfl rfl fun w2 k2 => checkPlain_any 2 5 ⟨#[]⟩ none 0 0 0 w2 (fun _ _ _ => rfl) (fun h => absurd (.inr (.inr rfl)) h) (fun h => absurd rfl h) (fun h => absurd rfl h) (by omega)

theorem props_K {w : World} {lb pb nb eb : Nat} (h : KnowsAt w lb pb nb eb) (w' : World) (k : Below w.heap.size w w') (c : Nat) : Calls Tryd.prog 79 #[.slice (some ⟨pb, 0, none⟩) 1 c] w' fun e w'' => e = .returned (.int .i64 (prsE [prK])) ∧ Below w'.heap.size w' w'' :=
  props_of name_any [prK] _ 1 c w' (h.props.below k) fun p hp w2 k2 => by
    obtain rfl := List.mem_singleton.1 hp
    exact val_K w2

theorem props_E (w' : World) (a : Option Addr) (c : Nat) : Calls Tryd.prog 79 #[.slice a 0 c] w' fun e w'' => e = .returned (.int .i64 (prsE [])) ∧ Below w'.heap.size w' w'' :=
  props_of name_any [] _ 0 c w' (props_none _ _) fun p hp => by cases hp

theorem check_K {w : World} {lb pb nb eb : Nat} (h : KnowsAt w lb pb nb eb) : Calls Tryd.prog 35 #[.agg #[.slice (some ⟨nb, 0, none⟩) 2 2, .slice (some ⟨eb, 0, none⟩) 1 1, .int .i64 4]] w fun e w' => e = .returned (.int .i64 0) ∧ Below w.heap.size w w' := by
  have := check_graph (ndsK lb pb) edsK (some ⟨nb, 0, none⟩) 2 2 (some ⟨eb, 0, none⟩) 1 1 4 w h.nodes h.edges (fun x hx w' k => by
    rcases List.mem_cons.1 hx with rfl | hx
    · exact ⟨labels_of name_any _ _ _ _ w' (h.strs.below k), props_K h w' k 1⟩
    · obtain rfl := List.mem_singleton.1 hx
      exact ⟨labels_of name_any _ _ _ _ w' (strs_none _ _), props_E w' none 0⟩) (fun x hx w' k => by
    obtain rfl := List.mem_singleton.1 hx
    exact props_E w' none 0)
  rw [gE_K] at this
  exact this

theorem rise_N (lb pb : Nat) : Rise ((ndsK lb pb).map Nd.id) := by
  have h := gE_K lb pb
  have n1 : ndE 0 (ndsK lb pb) = 0 := by
    have a1 := labs_K
    have a2 := prs_K
    have a3 : labsE [] = 0 := by simp [labsE, labE]
    have a4 : prsE [] = 0 := by simp [prsE, prE]
    simp [ndE, ndOne, ndsK, a1, a2, a3, a4]
  exact (ndE_ok _ _ n1).1

theorem rise_E : Rise (edsK.map Ed.id) := by
  intro i j x y hij hx hy
  have h1 : j < 1 := (List.getElem?_eq_some_iff.1 hy).1
  omega

theorem owner_K {lb pb : Nat} {P : List Pr} {pa : Option Addr} {pl pc : Nat} (h : Owner (ndsK lb pb) edsK 1 P pa pl pc) : P = [prK] ∧ pa = some ⟨pb, 0, none⟩ ∧ pl = 1 ∧ pc = 1 := by
  rcases h with ⟨x, hx, h1, h2, h3, h4, h5⟩ | ⟨h1, _⟩
  · rcases List.mem_cons.1 hx with rfl | hx
    · exact ⟨h2.symm, h3.symm, h4.symm, h5.symm⟩
    · obtain rfl := List.mem_singleton.1 hx
      exact absurd h1 (by decide)
  · simp [hasN, ndsK] at h1

theorem fresh_K (w : World) : Calls Tryd.prog 81 #[.agg #[.int .i64 prK.k, .int .i64 prK.n, .string prK.s, .slice prK.a prK.l prK.c]] w fun e w' => ValEnd w w' prK.k prK.n prK.s [] prK.l e ∧ Below w.heap.size w w' := by
  refine value_of _ _ _ _ _ _ [] w fun W k => ?_
  refine (values_none none 0 W).mono ?_
  rintro e w' ⟨rfl, k'⟩
  exact ⟨⟨none, 0, rfl, Nat.le_refl _, by unfold LieA; rfl⟩, k'⟩

theorem same5 (a : Option Addr) (c : Nat) (w : World) : Calls Tryd.prog 73 #[.agg #[.int .i64 2, .int .i64 5, .string ⟨#[]⟩, .slice a 0 c], .agg #[.int .i64 2, .int .i64 5, .string ⟨#[]⟩, .slice none 0 0]] w fun e w' => e = .returned (.bool true) ∧ Below w.heap.size w w' :=
  same_of 2 5 ⟨#[]⟩ a 0 c 2 5 ⟨#[]⟩ none 0 0 0 w fun w' k => order_empty 2 5 ⟨#[]⟩ a none 0 c 0 0 0 w' (by omega) (by omega) (.inl rfl) (fun _ => rfl) (fun h => absurd h (Nat.lt_irrefl _)) (fun h => absurd h (Nat.lt_irrefl _))

theorem ints3 (w : World) : IntsAt (w.alloc (.cells #[.int .i64 3] 3)) [3] (some ⟨w.heap.size, 0, none⟩) 1 := by
  refine ⟨rfl, by omega, fun _ => ⟨w.heap.size, 0, rfl, by simp, fun i s hs => ?_⟩⟩
  cases i with
  | zero =>
    simp at hs
    subst hs
    exact cell_of (alloc_new w _) 0
  | succ i => simp at hs

/-- The letters, digits and the line below. -/
def nameSet : ByteArray := ⟨#[97, 98, 99, 100, 101, 102, 103, 104, 105, 106, 107, 108, 109, 110, 111, 112, 113, 114, 115, 116, 117, 118, 119, 120, 121, 122, 65, 66, 67, 68, 69, 70, 71, 72, 73, 74, 75, 76, 77, 78, 79, 80, 81, 82, 83, 84, 85, 86, 87, 88, 89, 90, 48, 49, 50, 51, 52, 53, 54, 55, 56, 57, 95]⟩

theorem inSet_all : (List.range 256).all (fun n => nameSet.data.toList.contains (UInt8.ofNat n) == (letN (n : Nat) || digN (n : Nat))) = true := by kernel_rfl

theorem inSet (c : UInt8) : nameSet.data.toList.contains c = (letN c.toNat || digN c.toNat) := by
  have h := List.all_eq_true.1 inSet_all c.toNat (List.mem_range.2 c.toNat_lt)
  have e : UInt8.ofNat c.toNat = c := by simp
  rw [e] at h
  simpa using h

theorem dw_nil (p : UInt8 → Bool) : ∀ l : List UInt8, l.dropWhile p = [] ↔ ∀ x ∈ l, p x = true
  | [] => by simp
  | c :: r => by
    have ih := dw_nil p r
    by_cases h : p c = true
    · rw [List.dropWhile_cons, if_pos h, ih]
      simp [h]
    · rw [List.dropWhile_cons, if_neg h]
      simp [h]

theorem dw_head (p : UInt8 → Bool) : ∀ (l : List UInt8) (y : UInt8) (ys : List UInt8), l.dropWhile p = y :: ys → p y = false
  | [], y, ys, h => by simp at h
  | c :: r, y, ys, h => by
    by_cases hc : p c = true
    · rw [List.dropWhile_cons, if_pos hc] at h
      exact dw_head p r y ys h
    · rw [List.dropWhile_cons, if_neg hc] at h
      injection h with h1 h2
      subst h1
      simpa using hc

theorem trim_nil (l cs : List UInt8) : Lib.trimS l cs = [] ↔ ∀ b ∈ l, cs.contains b = true := by
  unfold Lib.trimS Lib.trimLeftS Lib.trimRightS
  rw [dw_nil]
  constructor
  · intro h
    cases hd : l.reverse.dropWhile (cs.contains ·) with
    | nil =>
      rw [dw_nil] at hd
      exact fun b hb => hd b (List.mem_reverse.2 hb)
    | cons y ys =>
      exfalso
      have h1 := h y (by rw [hd]; simp)
      have h2 := dw_head _ _ _ _ hd
      rw [h1] at h2
      exact absurd h2 (by decide)
  · intro h b hb
    have : l.reverse.dropWhile (cs.contains ·) = [] := by
      rw [dw_nil]
      exact fun b hb => h b (List.mem_reverse.1 hb)
    rw [this] at hb
    simp at hb

theorem nmFrom_all : ∀ (l : List UInt8) (i : Nat), i ≠ 0 → (nmFrom i l = true ↔ ∀ b ∈ l, (letN b.toNat || digN b.toNat) = true)
  | [], i, _ => by simp [nmFrom]
  | c :: r, i, h => by
    have ih := nmFrom_all r (i + 1) (by omega)
    have hi : (i != 0) = true := by simpa using h
    unfold nmFrom
    rw [hi, Bool.true_and, Bool.and_eq_true, ih]
    simp

/-- A text that doesn't open with a digit. -/
theorem nmFrom_trim (c : UInt8) (r : List UInt8) (h : digN c.toNat = false) : nmFrom 0 (c :: r) = (Lib.trimS (c :: r) nameSet.data.toList).isEmpty := by
  rw [Bool.eq_iff_iff, List.isEmpty_iff, trim_nil]
  have := nmFrom_all r 1 (by decide)
  unfold nmFrom
  simp only [inSet]
  rw [Bool.and_eq_true, this]
  simp [h]

theorem empty_toList (l : List UInt8) : (⟨l.toArray⟩ : ByteArray).toList.isEmpty = l.isEmpty := by
  rw [ByteArray.toList_eq]

set_option maxHeartbeats 2000000 in
set_option maxRecDepth 100000 in
theorem isName_any (s : ByteArray) (w : World) (hs : s.size ≤ 9223372036854775807) : Calls Tryd.prog 24 #[.string s] w fun e w' => e = .returned (.bool (nm s)) ∧ Below w.heap.size w w' := by
  obtain ⟨R, hR⟩ : ∃ R, R = nm s := ⟨_, rfl⟩
  rw [← hR]
  have HR := toHid hR
  clear hR
  by_cases h0 : s = ⟨#[]⟩
  · subst h0
    have H3 := toHid (show R = false by rw [HR.out]; rfl)
    clear HR
    go_enter Tryd.func24, Tryd.ntmps24
    go_wp2
    go_ret
    exact ⟨ret_bool (by rw [H3.out]), Below.refl _ _⟩
  · have he := isEmpty_no h0
    have hp : 0 < s.size := size_pos h0
    clear h0
    by_cases h12 : 12 < s.size
    · have h12' : (12 : Int) < s.size := by omega
      have H3 := toHid (show R = false by rw [HR.out, nm, decide_eq_false (p := s.size ≤ 12) (by omega)]; simp)
      clear HR h12
      go_enter Tryd.func24, Tryd.ntmps24
      go_wp2
      go_ret
      exact ⟨ret_bool (by rw [H3.out]), Below.refl _ _⟩
    · have h12' : ¬ (12 : Int) < s.size := by omega
      have hd := drop_byte s 0 hp
      rw [List.drop_zero] at hd
      have HD := toHid hd
      have H3 := toHid (show R = nmFrom 0 s.data.toList by rw [HR.out, nm, decide_eq_true (p := s.size ≤ 12) (by omega), decide_eq_true hp]; simp)
      have Hh := toHid h12
      clear HR hd h12
      have hdg : (48 : Int) ≤ (s[0].toNat : Int) ∧ (s[0].toNat : Int) ≤ 57 ∨ ¬ (48 : Int) ≤ (s[0].toNat : Int) ∨ (48 : Int) ≤ (s[0].toNat : Int) ∧ ¬ (s[0].toNat : Int) ≤ 57 := by omega
      have two : (48 : Int) ≤ (s[0].toNat : Int) ∧ (s[0].toNat : Int) ≤ 57 → R = false := fun h => by
        rw [H3.out, HD.out]
        have : letN (s[0].toNat : Int) = false := by
          simp only [letN, Bool.or_eq_false_iff, Bool.and_eq_false_iff, decide_eq_false_iff_not, beq_eq_false_iff_ne]
          omega
        simp [nmFrom, this]
      have three : ¬ ((48 : Int) ≤ (s[0].toNat : Int) ∧ (s[0].toNat : Int) ≤ 57) → R = (⟨(Lib.trimS s.data.toList nameSet.data.toList).toArray⟩ : ByteArray).toList.isEmpty := fun h => by
        rw [empty_toList, H3.out, HD.out]
        refine nmFrom_trim _ _ ?_
        simp only [digN, Bool.and_eq_false_iff, decide_eq_false_iff_not]
        omega
      have H4 := toHid two
      have H5 := toHid three
      have HT : Hid (∀ W, Calls Tryd.prog 50 #[.string s, .string nameSet] W fun e w' => e = .returned (.string ⟨(Lib.trimS s.data.toList nameSet.data.toList).toArray⟩) ∧ Below W.heap.size W w') := fun W => Tryd.strings_Trim s nameSet W hs (by decide) (ascii_of_all (by decide))
      clear two three H3 HD
      rcases hdg with ⟨h1, h2⟩ | h1 | ⟨h1, h2⟩
      · have H6 := toHid (H4.out ⟨h1, h2⟩)
        clear H4 H5
        go_enter Tryd.func24, Tryd.ntmps24
        go_wp2_with fail
        go_ret
        exact ⟨ret_bool (by rw [H6.out]), Below.refl _ _⟩
      · have H6 := toHid (H5.out (fun h => h1 h.1))
        clear H4 H5
        generalize Lib.trimS s.data.toList nameSet.data.toList = tr at HT H6
        go_enter Tryd.func24, Tryd.ntmps24
        go_wp2_with fail
        refine (HT.out _).mono ?_
        rintro e w1 ⟨rfl, k1⟩
        go_wp2_with fail
        go_ret
        exact ⟨ret_bool (by rw [H6.out, empty_toList]), k1⟩
      · have H6 := toHid (H5.out (fun h => h2 h.2))
        clear H4 H5
        generalize Lib.trimS s.data.toList nameSet.data.toList = tr at HT H6
        go_enter Tryd.func24, Tryd.ntmps24
        go_wp2_with fail
        refine (HT.out _).mono ?_
        rintro e w1 ⟨rfl, k1⟩
        go_wp2_with fail
        go_ret
        exact ⟨ret_bool (by rw [H6.out, empty_toList]), k1⟩

theorem props_ok {w : World} {P : List Pr} {pa : Option Addr} {pl : Nat} (pc : Nat) (hP : PropsAt w P pa pl) (hO : ∀ p ∈ P, PrOk w p) (W : World) (k : Below w.heap.size w W) : Calls Tryd.prog 79 #[.slice pa pl pc] W fun e w' => e = .returned (.int .i64 (prsE P)) ∧ Below W.heap.size W w' :=
  props_of name_any P pa pl pc W (hP.below k) fun p hp w2 k2 => by
    obtain ⟨hs, L, _, _, hb, _⟩ := hO p hp
    exact check_of p.k p.n p.s p.a p.l p.c p.e w2 fun w3 k3 => (hb w3 (below2 (below2 k k2) k3)).1

theorem checkProps_ok {w : World} {P : List Pr} {pa : Option Addr} {pl : Nat} (pc : Nat) (hP : PropsAt w P pa pl) (hO : ∀ p ∈ P, PrOk w p) (W : World) (k : Below w.heap.size w W) : Calls Tryd.prog 46 #[.slice pa pl pc] W fun e w' => e = .returned (.int .i64 (prsE P)) ∧ Below W.heap.size W w' :=
  checkProps_of isName_any P pa pl pc W (hP.below k) fun p hp w2 k2 => by
    obtain ⟨hs, L, _, _, hb, _⟩ := hO p hp
    exact (hb w2 (below2 k k2)).2
end Go.Proofs.YthikpmngcbgbfaaDoor
