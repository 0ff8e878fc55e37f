/-
  What is proved here: what the texts RPairs2, RSort, RMapP, RWithout, GProp, GProp2, GKnows, GDrawn1, GDrawn prove, in one text.
-/
import Derived.Test.YtpjbjpickpiglaaGreatDoorQPAK
import Derived.Test.YtpjbjpickpiglaaGreatDoorShelfG
import Derived.Sort.OwnSortedInts
import Derived.Test.YtpjbjpickpiglaaGreatDoorQPAA
import Derived.ChangeKeysEq
import Derived.WideKeyRuns
import Derived.Deep.RegionLaw
import Derived.Test.YtpjbjpickpiglaaGreatDoorQPAH
import Derived.Test.YtpjbjpickpiglaaGreatDoorQPAD
namespace Go.Proofs.YtpjbjpickpiglaaGreatDoor
open Go.RowKit
set_option linter.unusedVariables false

set_option linter.unusedSimpArgs false

/-- What slices.SortFunc leaves of a row of pairs. -/
def SortOk (sortP : List (Int × Int) → List (Int × Int)) : Prop := ∀ (W : World) (B : Nat) (v : Value) (L : List (Int × Int)), W.ownsRow B 36 2 v L.length (pcells L) → L.length ≤ 1000000 → Calls Tryz.prog 59 #[v, .func (.func 60) #[] #[]] W fun e w' => e = .returned (.tuple #[]) ∧ w'.ownsRow B 36 2 v L.length (pcells (sortP L)) ∧ W.grownBy w' v.ownBlock

set_option maxHeartbeats 4000000 in
set_option maxRecDepth 100000 in
theorem pairs_any {sortP : List (Int × Int) → List (Int × Int)} (hso : SortOk sortP) (N : List Nd) (E : List Ed) (na : Option Addr) (nl nc : Nat) (ea : Option Addr) (el ec : Nat) (next : Int) (kind : ByteArray) (w : World) (hN : NodesAt w N na nl) (hE : EdgesAt w E ea el) (hnl : nl ≤ 100) (hel : el ≤ 1000) :
    Calls Tryz.prog 33 #[.agg #[.slice na nl nc, .slice ea el ec, .int .i64 next], .string kind] w fun e w' => ∃ v, e = .returned v ∧ w'.ownsRow w.heap.size 36 2 v (rawsF (N.map (·.id)) E kind).length (pcells (sortP (rawsF (N.map (·.id)) E kind))) ∧ Below w.heap.size w w' := by
  have hsz0 : ((w.alloc (.cells #[.slice na nl nc, .slice ea el ec, .int .i64 next] 25)).alloc (.cells #[.slice none 0 0] 62)).heap.size = w.heap.size + 2 := by simp
  have hb0 : Below w.heap.size w ((w.alloc (.cells #[.slice na nl nc, .slice ea el ec, .int .i64 next] 25)).alloc (.cells #[.slice none 0 0] 62)) := ((Below.refl _ _).alloc (Nat.le_refl _) _).alloc (by simp) _
  have hg0 : ((w.alloc (.cells #[.slice na nl nc, .slice ea el ec, .int .i64 next] 25)).alloc (.cells #[.slice none 0 0] 62)).heap[w.heap.size]? = some (.cells #[.slice na nl nc, .slice ea el ec, .int .i64 next] 25 (0, 0)) := (Below.heap_alloc _ _ _ (by simp)).trans (alloc_new w _)
  have ho0 := alloc_two w (.cells #[.slice na nl nc, .slice ea el ec, .int .i64 next] 25) (.cells #[.slice none 0 0] 62)
  have HSO := toHid hso
  have HLV : Hid (∀ X, Below w.heap.size w X → Calls Tryz.prog 16 #[.slice ea el ec, .string kind] X fun e w' => e = .returned (.map (some X.heap.size)) ∧ (∃ f, OwnWays w' X.heap.size X.heap.size (wayF E kind) f) ∧ Below X.heap.size X w') := fun X k => leaving_any E ea el ec kind X (hE.below k) hel
  have HEL : Hid (E.length ≤ 1000) := by show _ ≤ _; rw [← hE.1]; exact hel
  have HTY : Hid (∀ x ∈ E, x.typ.size ≤ 9223372036854775807) := fun x hx => by
    obtain ⟨j, hj⟩ := List.getElem?_of_mem hx
    obtain ⟨h1, h2, h3⟩ := hE
    obtain ⟨b, off, _, _, hc⟩ := h3 (by have := (List.getElem?_eq_some_iff.1 hj).1; omega)
    exact (hc j x hj).1
  obtain ⟨hnn, hnm, hnat⟩ := hN
  have HNN := toHid hnn
  have HNAT := toHid hnat
  clear hso hE hnn hnat
  go_enter Tryz.func33, Tryz.ntmps33
  have HB0 := toHid hb0
  have HG0 := toHid hg0
  have HO0 := toHid ho0
  have HZ0 := toHid hsz0
  clear hb0 hg0 ho0 hsz0
  go_upto_region 2 with fail
  generalize (w.alloc (.cells #[.slice na nl nc, .slice ea el ec, .int .i64 next] 25)).alloc (.cells #[.slice none 0 0] 62) = W1 at HB0 HG0 HO0 HZ0 ⊢
  have g0 := cell_of HG0.out 0
  have g1 := cell_of HG0.out 1
  simp at g0 g1
  have hgl : w.heap.size < W1.heap.size := by have := HZ0.out; omega
  go_wp2_with fail
  refine (HLV.out W1 HB0.out).mono ?_
  rintro e w2 ⟨rfl, ⟨f, how⟩, k2⟩
  have HOW := toHid how
  have HK2 := toHid k2
  have HG2 := toHid ((k2.block _ hgl).trans HG0.out)
  have HO2 := toHid ((k2.block (w.heap.size + 1) (by have := HZ0.out; omega)).trans HO0.out)
  have HB2 := toHid (HB0.out.trans (k2.mono HB0.out.size))
  clear how k2 g0 g1
  have g0 := cell_of HG2.out 0
  simp at g0
  have hgl2 : w.heap.size < w2.heap.size := blk_lt HG2.out
  go_wp2_with fail
  go_loopg [16] nl (fun g s16 wr => ∃ (i : Nat) (v : Value), i ≤ nl ∧ nl - i ≤ g ∧ s16 = .int .i64 i ∧ PLoop w2 wr (w.heap.size + 1) (rawsF ((N.take i).map (·.id)) E kind) v)
  case atStart => exact ⟨0, .slice none 0 0, Nat.zero_le _, by omega, rfl, HO2.out, World.ownsRow_nil _ _ _ _, Rst.refl _ _⟩
  case round =>
    obtain ⟨i, v, hi, hg, rfl, hpl⟩ := hrel
    have HPL := toHid hpl
    clear hpl
    have hbo : w.heap.size + 1 < w2.heap.size := blk_lt HO2.out
    by_cases hlt : i < nl
    · obtain ⟨b, off, ha, hb, hc⟩ := HNAT.out (by omega)
      subst ha
      obtain ⟨n, hn, _⟩ := drop_get (L := N) (i := i) (by have := HNN.out; omega)
      obtain ⟨c0, c1, c2⟩ := hc i n hn
      have hrs := HPL.out.rs
      have hbw : w2.heap[b]? = w.heap[b]? := HB2.out.block b hb
      have qq : ∀ o, wr.cell? ⟨b, o, none⟩ = w.cell? ⟨b, o, none⟩ := fun o => World.cell?_of_block (w := w) (w' := wr) (a := ⟨b, o, none⟩) ((hrs.block b (by have := HB2.out.size; omega) (by omega)).trans hbw)
      have d0 := (qq _).trans c0
      have d1 := (qq _).trans c1
      have d2 := (qq _).trans c2
      have HNI := toHid hn
      clear hc hn c0 c1 c2 qq hrs hbw
      have hil : (i : Int) < nl := by omega
      go_upto_region 6 with fail
      have HNB := toHid (alloc_new wr (.cells #[.int .i64 n.id, .slice n.la n.ll n.lc, .slice n.pa n.pl n.pc] 58))
      have HKW := toHid ((Below.refl wr.heap.size wr).alloc (Nat.le_refl _) (.cells #[.int .i64 n.id, .slice n.la n.ll n.lc, .slice n.pa n.pl n.pc] 58))
      generalize wr.alloc (.cells #[.int .i64 n.id, .slice n.la n.ll n.lc, .slice n.pa n.pl n.pc] 58) = Wp at HNB HKW ⊢
      clear d0 d1 d2
      have y0 := cell_of HNB.out 0
      simp at y0
      have hpl : wr.heap.size < Wp.heap.size := blk_lt HNB.out
      have HBW : Hid (w2.heap.size ≤ wr.heap.size) := HPL.out.rs.size
      have hacc : (rawsF ((N.take i).map (·.id)) E kind).length ≤ 100000 := by
        have h1 := raws_len E kind ((N.take i).map (·.id))
        have h2 : ((N.take i).map (·.id)).length ≤ 100 := by
          rw [List.length_map, List.length_take]
          have := HNN.out
          omega
        have h3 := Nat.mul_le_mul h2 HEL.out
        omega
      have HPI := toHid (node_pin HPL.out hbo rfl HKW.out HNB.out)
      have hmo : W1.heap.size ≠ w.heap.size + 1 := by have := HZ0.out; omega
      have HOWp : Hid (OwnWays Wp W1.heap.size W1.heap.size (wayF E kind) f) := (HOW.out.rst (O := fun k => k = w.heap.size + 1) hmo (fun j g hg e => by
        have := ((HOW.out.row j).lt g hg).1
        have := HZ0.out
        omega) HPL.out.rs).below HKW.out
      have HWK := toHid (walk_pairs E (wayF E kind) (fun j x hx => way_mem hx) (fun j => List.length_filter_le _ _) HEL.out HTY.out Wp W1.heap.size W1.heap.size f HOWp.out (vis_p w2.heap.size (w.heap.size + 1) wr.heap.size n.id n.la n.pa n.ll n.lc n.pl n.pc (rawsF ((N.take i).map (·.id)) E kind)) (w.heap.size + 1) wr.heap.size
        (fun X O out x hI hx hl => pairs1_any w2.heap.size (w.heap.size + 1) wr.heap.size (by have := HBW.out; omega) n.id n.la n.pa n.ll n.lc n.pl n.pc _ hacc X O out x (by
          obtain ⟨v0, hv0⟩ := hI
          have h1 := blk_lt hv0.node
          have h2 := HBW.out
          omega) hI (Nat.le_trans hl HEL.out))
        (fun k => k = w.heap.size + 1 ∨ k = wr.heap.size ∨ v.ownBlock = some k) HPI.out
        (fun h => by
          have hm := HOW.out.map.lt
          have hb3 := HBW.out
          rcases h with h | h | h
          · exact hmo h
          · omega
          · have := (HPL.out.row.lt _ h).1
            omega)
        (fun j g hg h => by
          have hr := (HOW.out.row j).lt g hg
          have hb3 := HBW.out
          have hz := HZ0.out
          rcases h with h | h | h
          · omega
          · omega
          · have := (HPL.out.row.lt _ h).1
            omega) n.id)
      go_wp2_with fail
      refine HWK.out.mono ?_
      rintro e wv ⟨rfl, O', p1, p2, p3⟩
      obtain ⟨v', hv'⟩ := loop_next HPL.out hbo rfl HKW.out p1 p3
      have HV' := toHid hv'
      clear p1 p2 p3 hv' HWK y0 hpl
      go_wp2_with fail
      go_roundg (nl - (i + 1))
      case measure => omega
      case rel => exact ⟨i + 1, v', by omega, by omega, by go_num, by rw [raws_take HNI.out]; exact HV'.out⟩
    · have he : i = nl := by omega
      subst he
      have htk : (N.take i).map (·.id) = N.map (·.id) := by rw [List.take_of_length_le (by have := HNN.out; omega)]
      rw [htk] at HPL
      have HLEN : Hid ((rawsF (N.map (·.id)) E kind).length ≤ 1000000) := by
        have h1 := raws_len E kind (N.map (·.id))
        have h2 : (N.map (·.id)).length ≤ 100 := by
          rw [List.length_map]
          have := HNN.out
          omega
        have h3 := Nat.mul_le_mul h2 HEL.out
        show _ ≤ _
        omega
      have o0 := cell_of HPL.out.box 0
      simp at o0
      have hol : w.heap.size + 1 < wr.heap.size := blk_lt HPL.out.box
      go_wp2_with fail
      refine (HSO.out wr w2.heap.size v _ HPL.out.row HLEN.out).mono ?_
      rintro e w5 ⟨rfl, hr5, hg5⟩
      have hb5 : w5.heap[w.heap.size + 1]? = some (.cells #[v] 62 (0, 0)) := (hg5.block _ hol (fun e => by
        have := (HPL.out.row.lt _ e.symm).1
        omega)).trans HPL.out.box
      have HR5 := toHid hr5
      have HBB : Hid (Below w.heap.size w w5) := by
        have h1 : Below w.heap.size w wr := HB2.out.trans ⟨HPL.out.rs.os, HPL.out.rs.tape, HPL.out.rs.output, HPL.out.rs.size, fun k hk => HPL.out.rs.block k (by omega) (by omega)⟩
        exact h1.grown hg5 h1.size (fun k hk => by
          have := (HPL.out.row.lt _ hk).1
          omega)
      clear hr5 hg5 o0 hol
      have o0 := cell_of hb5 0
      simp at o0
      have hol : w.heap.size + 1 < w5.heap.size := blk_lt hb5
      go_wp2_with fail
      go_ret
      refine ⟨v, rfl, ?_, HBB.out⟩
      have := HR5.out
      exact ⟨this.1, this.2.imp id fun ⟨g, cap, cur, e1, e2, e3⟩ => ⟨g, cap, cur, e1, by omega, e3⟩⟩

set_option linter.unusedSimpArgs false

def encP (p : Int × Int) : List Value := [.int .i64 p.1, .int .i64 p.2]

theorem pcells_get : ∀ (L : List (Int × Int)) (t : Nat), t < L.length * 2 → (pcells L)[t]? = some ((encP (L.toArray[t / 2]!))[t % 2]!)
  | [], t, h => by simp at h
  | p :: l, t, h => by
    have e : pcells (p :: l) = .int .i64 p.1 :: .int .i64 p.2 :: pcells l := rfl
    rw [e]
    match t, h with
    | 0, _ => rfl
    | 1, _ => rfl
    | t + 2, h =>
      have ih := pcells_get l t (by simp at h; omega)
      rw [List.getElem?_cons_succ, List.getElem?_cons_succ, ih]
      have e1 : (t + 2) / 2 = t / 2 + 1 := by omega
      have e2 : (t + 2) % 2 = t % 2 := by omega
      rw [e1, e2]
      simp

theorem flat_pcells (L : List (Int × Int)) : Sort.flatK encP 2 L.toArray = (pcells L).toArray := by
  apply Array.ext
  · simp [pcells_len]
  · intro t h1 h2
    have h3 : t < L.length * 2 := by simpa using h1
    have g := pcells_get L t h3
    have e1 := Sort.get_flatK encP 2 L.toArray t (by simpa using h3)
    rw [getElem!_pos _ t h1] at e1
    rw [e1]
    have e2 : (pcells L)[t]? = some ((pcells L).toArray[t]) := by simp
    rw [g] at e2
    injection e2

theorem ord_lt (x y : Int × Int) : ltOf ordP x y = decide (x.1 < y.1 ∨ (x.1 = y.1 ∧ x.2 < y.2)) := by
  unfold ltOf ordP cmpN
  rw [Bool.eq_iff_iff]
  simp only [decide_eq_true_eq]
  repeat' split
  all_goals omega

def sortP (L : List (Int × Int)) : List (Int × Int) := L.mergeSort fun x y => !ltOf ordP y x

theorem swo_p : Sort.SWO (ltOf ordP) where
  irrefl x := by rw [ord_lt]; simp
  trans x y z h1 h2 := by
    rw [ord_lt] at *
    simp only [decide_eq_true_eq] at *
    omega
  ntrans x y z h1 h2 := by
    rw [ord_lt] at *
    simp only [decide_eq_false_iff_not] at *
    omega

theorem tot_p (x y : Int × Int) (h1 : ltOf ordP x y = false) (h2 : ltOf ordP y x = false) : x = y := by
  rw [ord_lt] at h1 h2
  simp only [decide_eq_false_iff_not] at h1 h2
  obtain ⟨a, b⟩ := x
  obtain ⟨c, d⟩ := y
  simp only [Prod.mk.injEq] at h1 h2 ⊢
  omega

theorem heap_sortedV {w : World} {g n : Nat} {os : Array Obj} {cur : Array Value} {e : TypeId} {fr : Nat × Nat} (d : Array Value) (hb : w.heap[g]? = some (.cells cur e fr)) :
    (Sort.grow (Sort.putRow id (Sort.ahead w n) g 0 d) os).heap[g]? = some (.cells (Sort.putCells id 0 d cur) e fr) := by
  have hg : g < w.heap.size := (Array.getElem?_eq_some_iff.1 hb).1
  rw [Sort.heap_grow_old _ _ (by simpa using hg)]
  simp [Sort.putRow, Sort.mapBlock, Sort.ahead, Array.getElem?_modify, hb, Sort.onCells]

theorem grownBy_sortedV {w : World} {g n : Nat} {os : Array Obj} (d : Array Value) : w.grownBy (Sort.grow (Sort.putRow id (Sort.ahead w n) g 0 d) os) (some g) := by
  refine ⟨rfl, rfl, rfl, by simp, fun k hk hne => ?_⟩
  rw [Sort.heap_grow_old _ _ (by simpa using hk)]
  have : g ≠ k := fun e => hne (by rw [e])
  simp [Sort.putRow, Sort.mapBlock, Sort.ahead, Array.getElem?_modify, this]

theorem take_putCellsV (cur : Array Value) (ts : List Value) (h : ts.length ≤ cur.size) : (Sort.putCells id 0 ts.toArray cur).toList.take ts.length = ts := by
  apply List.ext_getElem?
  intro j
  by_cases hj : j < ts.length
  · rw [List.getElem?_take_of_lt hj, Array.getElem?_toList]
    simp [Sort.putCells, hj, show j < cur.size by omega]
  · rw [List.getElem?_take_eq_none (by omega), List.getElem?_eq_none (by omega)]

theorem len_sortP (L : List (Int × Int)) : (sortP L).length = L.length := List.length_mergeSort _

theorem sort_ok : SortOk sortP := by
  intro W B v L h hl
  rcases h.2 with ⟨rfl, h0⟩ | ⟨g, cap, cur, rfl, h1, h2, h3, h4, h5, h6⟩
  · have hL : L = [] := List.length_eq_zero_iff.1 h0
    subst hL
    have hc := AnyF.slices_SortFunc_none Tryz.sortLay none 0 (.func (.func 60) #[] #[]) W
    change Calls Tryz.prog 59 _ _ _ at hc
    refine hc.mono ?_
    rintro e w' ⟨rfl, rfl⟩
    exact ⟨rfl, (by rw [show sortP [] = [] from List.mergeSort_nil]; exact h), ⟨rfl, rfl, rfl, Nat.le_refl _, fun _ _ _ => rfl⟩⟩
  · have eg : ∀ args w, (callFunc 60 args).run Tryz.prog w = .ok (.enter 60 args) w := enters_of Tryz.func60 (by kernel_rfl) rfl
    have hcmp : CmpLays Tryz.prog 60 #[] encP 2 ordP g 0 L.toArray.size W := fun _ _ _ _ x y => orderP_any x y _
    have hH : Sort.HoldsK encP 2 W g 0 L.toArray := by
      unfold Sort.HoldsK
      rw [flat_pcells]
      intro j hj
      have hj' : j < (pcells L).length := by simpa using hj
      refine ⟨?_, by simp [World.frozen?, h2]⟩
      have e1 : (cur.toList.take (L.length * 2))[j]? = (pcells L)[j]? := by rw [h6]
      rw [List.getElem?_take_of_lt (by rw [pcells_len] at hj'; exact hj')] at e1
      simp only [World.cell?, h2, Nat.zero_add]
      simp only [Option.isSome_none, Bool.false_eq_true, if_false]
      rw [← Array.getElem?_toList, e1]
      simp [hj']
    have hc := AnyQ.slices_SortFunc_total Tryz.sortLay 2 Tryz.isAgg36 Tryz.sizeOf36 encP (fun _ => rfl) (fun x v hv => by simp [encP] at hv; rcases hv with rfl | rfl <;> rfl) ordP swo_p 60 #[] g 0 cap L.toArray W eg hcmp hH (blk_lt h2) (by simp; omega) tot_p
    change Calls Tryz.prog 59 _ _ _ at hc
    refine hc.mono ?_
    rintro e w' ⟨rfl, n, os, rfl⟩
    have eF : Sort.flatK encP 2 (L.toArray.toList.mergeSort fun x y => !ltOf ordP y x).toArray = (pcells (sortP L)).toArray := flat_pcells (sortP L)
    unfold sortWorldK Sort.putRowK
    rw [eF]
    refine ⟨rfl, ⟨by rw [pcells_len, len_sortP], .inr ⟨g, cap, _, rfl, h1, heap_sortedV _ h2, h3, h4, by simp [Sort.putCells, h5], ?_⟩⟩, grownBy_sortedV _⟩
    have e2 : L.length * 2 = (pcells (sortP L)).length := by rw [pcells_len, len_sortP]
    rw [e2]
    exact take_putCellsV cur _ (by rw [← e2, h5]; exact Nat.mul_le_mul_right 2 h3)

open Go.RowKit Go.MapKept
set_option linter.unusedVariables false
set_option linter.unusedSimpArgs false

abbrev pkey (p : Int × Int) : Value := .agg #[.int .i64 p.1, .int .i64 p.2]
abbrev PE := (Int × Int) × Value × Nat
def toE (t : PE) : MapEntry := ⟨pkey t.1, t.2.1, t.2.2⟩

def pget (p : Int × Int) : List PE → Option Value
  | [] => none
  | t :: l => if p = t.1 then some t.2.1 else pget p l

def pidx (p : Int × Int) : List PE → Nat → Option (Nat × Value)
  | [], _ => none
  | t :: l, i => if p = t.1 then some (i, t.2.1) else pidx p l (i + 1)

theorem check_p (b : Bool) (p : Int × Int) (w : World) : (Instr.checkKey b 10000 36 (pkey p)).run Tryz.prog w = .ok () w := by kernel_rfl

theorem part_0 (x y : Int) (w : World) : (part 3 #[.int .i64 x, .int .i64 y] 0).run Tryz.prog w = .ok (.int .i64 x) w := by kernel_rfl
theorem part_1 (x y : Int) (w : World) : (part 3 #[.int .i64 x, .int .i64 y] 1).run Tryz.prog w = .ok (.int .i64 y) w := by kernel_rfl

theorem equal_p (p q : Int × Int) (w : World) : (Op.equal 36 (pkey p) (pkey q)).run Tryz.prog w = .ok (decide (p = q)) w := by
  obtain ⟨a, b⟩ := p
  obtain ⟨c, d⟩ := q
  have hc : Tryz.prog.cellsOf 3 = 1 := by kernel_rfl
  cases hi : Tryz.prog.info? 3 with
  | none =>
    have : (Tryz.prog.info? 3).isSome = true := by kernel_rfl
    rw [hi] at this
    cases this
  | some i =>
    have h : (Op.equal 36 (pkey (a, b)) (pkey (c, d))).run Tryz.prog w = (Op.eqItems 9999 3 (Tryz.prog.cellsOf 3) #[.int .i64 a, .int .i64 b] #[.int .i64 c, .int .i64 d] (List.range 2)).run Tryz.prog w := run_equalIn_array w 9999 _ _ Tryz.underlying36 hi
    have e1 : ∀ x y : Int, (Op.equalIn 9999 3 (.int .i64 x) (.int .i64 y)).run Tryz.prog w = .ok (x == y) w := fun x y => run_equalIn_int w 9998 _ _ _ x y Tryz.underlying3
    rw [h, hc, show List.range 2 = [0, 1] from rfl]
    simp only [Op.eqItems, Sem.run_bind, Nat.zero_mul, Nat.one_mul, part_0, part_1, Result.andThen_ok, e1]
    cases h1 : (a == c) with
    | false =>
      have : ¬ a = c := by simpa using h1
      simp [this]
    | true =>
      have : a = c := by simpa using h1
      simp only [Bool.not_true, Bool.false_eq_true, if_false, Sem.run_bind, Nat.one_mul, part_1, Result.andThen_ok, e1]
      cases h2 : (b == d) with
      | false =>
        have : ¬ b = d := by simpa using h2
        simp [this]
      | true =>
        have : b = d := by simpa using h2
        simp [*]

theorem run_find_p (p : Int × Int) (w : World) : ∀ (L : List PE) (i : Nat), (Instr.findAsking 36 (pkey p) (L.map toE) i).run Tryz.prog w = .ok (pidx p L i) w
  | [], i => rfl
  | t :: l, i => by
    have ih := run_find_p p w l (i + 1)
    show (Instr.findAsking 36 (pkey p) (toE t :: l.map toE) i).run Tryz.prog w = _
    unfold Instr.findAsking
    simp only [Sem.run_bind]
    rw [show (toE t).key = pkey t.1 from rfl, equal_p p t.1 w]
    simp only [Result.andThen_ok, pidx]
    by_cases h : p = t.1
    · simp [h, toE]
    · simp only [h, decide_false, Bool.false_eq_true, if_false]
      exact ih

theorem run_findKey_p (p : Int × Int) (w : World) (L : List PE) : (Instr.findKey 36 (pkey p) (L.map toE)).run Tryz.prog w = .ok (pidx p L 0) w := (run_findKey_eq (P := Tryz.prog) (w := w) (k := 36) (by rw [Tryz.underlying36]) (pkey p) (L.map toE)).trans (run_find_p p w L 0)

theorem pidx_get (p : Int × Int) : ∀ (L : List PE) (i : Nat), (pidx p L i).map (·.2) = pget p L
  | [], i => rfl
  | t :: l, i => by
    unfold pidx pget
    by_cases h : p = t.1
    · simp [h]
    · simp only [h, if_false]
      exact pidx_get p l (i + 1)

/-- The map at block r: how often each pair was counted. -/
def MapP (w : World) (r : Nat) (f : Int × Int → Nat) : Prop := ∃ (L : List PE) (clk : Nat), w.heap[r]? = some (.map (L.map toE).toArray clk) ∧ (∀ t ∈ L, t.2.2 < clk) ∧ (L.map (·.2.2)).Nodup ∧ ∀ p, (pget p L).getD (.int .i64 0) = .int .i64 (f p)

theorem MapP.lt {w : World} {r : Nat} {f : Int × Int → Nat} (h : MapP w r f) : r < w.heap.size := by
  obtain ⟨L, clk, h1, _⟩ := h
  exact (Array.getElem?_eq_some_iff.1 h1).1

theorem MapP.of {w w' : World} {r : Nat} {f : Int × Int → Nat} (h : MapP w r f) (e : w'.heap[r]? = w.heap[r]?) : MapP w' r f := by
  obtain ⟨L, clk, h1, h2⟩ := h
  exact ⟨L, clk, e.trans h1, h2⟩

theorem mapP_new {w : World} {r : Nat} (h : w.heap[r]? = some (.map #[] 0)) : MapP w r (fun _ => 0) := ⟨[], 0, h, fun t ht => (by cases ht), List.nodup_nil, fun p => rfl⟩

theorem zero_intP (w : World) : (zeroValue 3).run Tryz.prog w = .ok (.int .i64 0) w := by kernel_rfl

/-- The entry at place j with another value. -/
def setV (L : List PE) (j : Nat) (v : Value) : List PE := L.modify j fun t => (t.1, v, t.2.2)

theorem pidx_spec (p : Int × Int) (v' : Value) : ∀ (L : List PE) (i k : Nat) (v : Value), pidx p L i = some (k, v) → ∃ j t, k = i + j ∧ L[j]? = some t ∧ t.1 = p ∧ t.2.1 = v ∧ ∀ q, pget q (setV L j v') = if q = p then some v' else pget q L
  | [], i, k, v, h => by cases h
  | t :: l, i, k, v, h => by
    unfold pidx at h
    by_cases hp : p = t.1
    · rw [if_pos hp] at h
      injection h with h
      injection h with h1 h2
      refine ⟨0, t, by omega, rfl, hp.symm, h2, fun q => ?_⟩
      have e : setV (t :: l) 0 v' = (t.1, v', t.2.2) :: l := rfl
      rw [e]
      unfold pget
      by_cases hq : q = p
      · subst hq
        simp [hp]
      · have hq2 : ¬ q = t.1 := fun e => hq (e.trans hp.symm)
        simp [hq, hq2]
    · rw [if_neg hp] at h
      obtain ⟨j, t', h1, h2, h3, h4, h5⟩ := pidx_spec p v' l (i + 1) k v h
      refine ⟨j + 1, t', by omega, by simpa using h2, h3, h4, fun q => ?_⟩
      have e : setV (t :: l) (j + 1) v' = t :: setV l j v' := rfl
      rw [e]
      unfold pget
      by_cases hq : q = t.1
      · have : ¬ q = p := fun e => hp (e.symm.trans hq)
        simp [hq, Ne.symm hp]
      · simp only [hq, if_false]
        exact h5 q

theorem pidx_push (p : Int × Int) (z : Value) (c : Nat) : ∀ (L : List PE) (i : Nat), pidx p L i = none → pidx p (L ++ [(p, z, c)]) i = some (i + L.length, z) ∧ ∀ q, q ≠ p → pget q (L ++ [(p, z, c)]) = pget q L
  | [], i, _ => ⟨by simp [pidx], fun q hq => by simp [pget, hq]⟩
  | t :: l, i, h => by
    unfold pidx at h
    by_cases hp : p = t.1
    · rw [if_pos hp] at h
      cases h
    · rw [if_neg hp] at h
      obtain ⟨h1, h2⟩ := pidx_push p z c l (i + 1) h
      refine ⟨?_, fun q hq => ?_⟩
      · show pidx p (t :: (l ++ [(p, z, c)])) i = _
        unfold pidx
        rw [if_neg hp, h1]
        simp
        omega
      · show pget q (t :: (l ++ [(p, z, c)])) = _
        unfold pget
        rw [h2 q hq]

theorem find_born : ∀ (L : List PE) (j : Nat) (t : PE), L[j]? = some t → (L.map (·.2.2)).Nodup → (L.map toE).findIdx? (fun e => (e.born : Int) == (t.2.2 : Int)) = some j
  | [], j, t, h, _ => by simp at h
  | x :: l, 0, t, h, _ => by
    simp at h
    subst h
    simp [List.findIdx?_cons, toE]
  | x :: l, j + 1, t, h, hn => by
    have h' : l[j]? = some t := by simpa using h
    rw [List.map_cons, List.nodup_cons] at hn
    have ih := find_born l j t h' hn.2
    have hne : ¬ x.2.2 = t.2.2 := fun e => hn.1 (e ▸ List.mem_map.2 ⟨t, List.mem_of_getElem? h', rfl⟩)
    rw [List.map_cons, List.findIdx?_cons, ih]
    have : ((toE x).born : Int) == (t.2.2 : Int) ↔ False := by simp [toE]; omega
    simp [toE, hne]
    omega

theorem setV_toE (L : List PE) (j : Nat) (v : Value) : (L.map toE).modify j (fun e => { e with val := v }) = (setV L j v).map toE := by
  unfold setV
  induction L generalizing j with
  | nil => simp
  | cons t l ih =>
    cases j with
    | zero => simp [toE]
    | succ j => simp [ih]

theorem setV_born (L : List PE) (j : Nat) (v : Value) : (setV L j v).map (·.2.2) = L.map (·.2.2) := by
  unfold setV
  induction L generalizing j with
  | nil => simp
  | cons t l ih =>
    cases j with
    | zero => simp
    | succ j => simp [ih]

theorem keep_toE (L : List PE) (j : Nat) (t : PE) (h : L[j]? = some t) (p : Int × Int) (hp : t.1 = p) : (L.map toE).modify j (fun e => { e with key := pkey p }) = L.map toE := by
  induction L generalizing j with
  | nil => simp
  | cons x l ih =>
    cases j with
    | zero =>
      simp at h
      subst h
      subst hp
      simp [toE]
    | succ j =>
      have := ih j (by simpa using h)
      simp [this]

theorem sameBits_p (p : Int × Int) : Instr.sameBits 10000 (pkey p) (pkey p) = true := by
  show (_ && _) = true
  simp [Instr.sameBits]

theorem stays_p (p : Int × Int) (w : World) : (Instr.keyThatStays (pkey p) (pkey p)).run Tryz.prog w = .ok (pkey p) w := by
  unfold Instr.keyThatStays
  rw [if_pos (sameBits_p p)]
  rfl

set_option linter.unusedSimpArgs false

/-- A row of pairs that may be read. -/
def PrsAt (w : World) (L : List (Int × Int)) (a : Option Addr) (l : Nat) : Prop := l = L.length ∧ l ≤ 1000000 ∧ (0 < l → ∃ b off, a = some ⟨b, off, none⟩ ∧ b < w.heap.size ∧ ∀ i p, L[i]? = some p → w.cell? ⟨b, off + i * 2, none⟩ = some (.int .i64 p.1) ∧ w.cell? ⟨b, off + i * 2 + 1, none⟩ = some (.int .i64 p.2))

theorem PrsAt.below {w w' : World} (k : Below w.heap.size w w') {L : List (Int × Int)} {a : Option Addr} {l : Nat} (h : PrsAt w L a l) : PrsAt w' L a l := by
  obtain ⟨h1, h2, h3⟩ := h
  refine ⟨h1, h2, fun h0 => ?_⟩
  obtain ⟨b, off, e, hb, hc⟩ := h3 h0
  refine ⟨b, off, e, Nat.lt_of_lt_of_le hb k.size, fun i p hp => ?_⟩
  obtain ⟨c0, c1⟩ := hc i p hp
  exact ⟨(k.cell (p := ⟨b, off + i * 2, none⟩) hb).trans c0, (k.cell (p := ⟨b, off + i * 2 + 1, none⟩) hb).trans c1⟩

def countP2 (L : List (Int × Int)) (p : Int × Int) : Nat := L.countP fun q => decide (q = p)

theorem count_take {L : List (Int × Int)} {i : Nat} {x : Int × Int} (h : L[i]? = some x) : (fun q => if q = x then countP2 (L.take i) q + 1 else countP2 (L.take i) q) = countP2 (L.take (i + 1)) := by
  funext q
  unfold countP2
  rw [List.take_add_one, h]
  by_cases hq : q = x
  · subst hq
    simp
  · have : ¬ x = q := fun e => hq e.symm
    simp [hq, this]

theorem less_take {L : List (Int × Int)} {j : Nat} {x : Int × Int} (h : L[j]? = some x) (M : List (Int × Int)) : lessP (L.take (j + 1)) M = if countP2 M x = 0 then lessP (L.take j) M ++ [x] else lessP (L.take j) M := by
  unfold lessP
  rw [List.take_add_one, h]
  simp only [Option.toList_some, List.filter_append]
  have hc : countP2 M x = 0 ↔ M.contains x = false := by
    unfold countP2
    rw [List.countP_eq_zero]
    constructor
    · intro hh
      cases hx : M.contains x with
      | false => rfl
      | true =>
        have hm : x ∈ M := by simpa using hx
        exact absurd (hh x hm) (by simp)
    · intro hh y hy e
      have e : y = x := by simpa using e
      subst e
      have : M.contains y = true := by simpa using hy
      rw [hh] at this
      cases this
  by_cases h0 : countP2 M x = 0
  · rw [if_pos h0]
    have hnm : ¬ x ∈ M := by simpa using hc.1 h0
    simp [hnm]
  · rw [if_neg h0]
    have : M.contains x = true := by
      cases hx : M.contains x with
      | true => rfl
      | false => exact absurd (hc.2 hx) h0
    have hm : x ∈ M := by simpa using this
    simp [hm]

/-- The properties of the node or edge of that number, and where they lie. -/
def Owner (N : List Nd) (E : List Ed) (id : Int) (P : List Pr) (pa : Option Addr) (pl pc : Nat) : Prop :=
  (∃ x ∈ N, x.id = id ∧ x.props = P ∧ x.pa = pa ∧ x.pl = pl ∧ x.pc = pc) ∨ (hasN N id = false ∧ ∃ x ∈ E, x.id = id ∧ x.props = P ∧ x.pa = pa ∧ x.pl = pl ∧ x.pc = pc)

def PoEnd (N : List Nd) (E : List Ed) (id : Int) (e : Ending) : Prop :=
  (∃ P pa pl pc, Owner N E id P pa pl pc ∧ e = .returned (.tuple #[.slice pa pl pc, .bool true])) ∨ (hasN N id = false ∧ id ∉ E.map Ed.id ∧ e = .returned (.tuple #[.slice none 0 0, .bool false]))

def findP (P : List Pr) (name : ByteArray) : Option Pr := P.find? (fun p => p.name.toList == name.toList)

def zvV : Value := .agg #[.int .i64 0, .int .i64 0, .string ⟨#[]⟩, .slice none 0 0]

def PropEnd (w' : World) (er : Int) (N : List Nd) (E : List Ed) (id : Int) (name : ByteArray) (tr : Pr → List T) (e : Ending) : Prop :=
  (er ≠ 0 ∧ e = .returned (.tuple #[zvV, .int .i64 er])) ∨ (er = 0 ∧ hasN N id = false ∧ id ∉ E.map Ed.id ∧ e = .returned (.tuple #[zvV, .int .i64 5])) ∨
  (er = 0 ∧ ∃ P pa pl pc, Owner N E id P pa pl pc ∧ ((findP P name = none ∧ e = .returned (.tuple #[zvV, .int .i64 0])) ∨ ∃ p a' c', findP P name = some p ∧ p ∈ P ∧ e = .returned (.tuple #[.agg #[.int .i64 p.k, .int .i64 p.n, .string p.s, .slice a' p.l c'], .int .i64 0]) ∧ p.l ≤ c' ∧ LiesS w' (tr p) a' p.l))

def SofEnd (P : List Pr) (name : ByteArray) (e : Ending) : Prop := (findP P name = none ∧ e = .returned zvV) ∨ ∃ p, findP P name = some p ∧ p ∈ P ∧ e = .returned (.agg #[.int .i64 p.k, .int .i64 p.n, .string p.s, .slice p.a p.l p.c])

/-- How that graph lies in memory. -/
def KnowsAt (w : World) (lb pb nb eb : Nat) : Prop :=
  w.heap[lb]? = some (.cells #[.string ⟨#[65]⟩] 9 (0, 0)) ∧ w.heap[pb]? = some (.cells #[.string ⟨#[110]⟩, .int .i64 2, .int .i64 5, .string ⟨#[]⟩, .slice none 0 0] 79 (0, 0)) ∧
  w.heap[nb]? = some (.cells #[.int .i64 1, .slice (some ⟨lb, 0, none⟩) 1 1, .slice (some ⟨pb, 0, none⟩) 1 1, .int .i64 2, .slice none 0 0, .slice none 0 0] 58 (0, 0)) ∧
  w.heap[eb]? = some (.cells #[.int .i64 3, .int .i64 1, .int .i64 2, .string ⟨#[75]⟩, .slice none 0 0] 41 (0, 0))

def KnowsEnd (w' : World) (e : Ending) : Prop := ∃ lb pb nb eb, e = .returned (.agg #[.slice (some ⟨nb, 0, none⟩) 2 2, .slice (some ⟨eb, 0, none⟩) 1 1, .int .i64 4]) ∧ KnowsAt w' lb pb nb eb

def prK : Pr := ⟨⟨#[110]⟩, 2, 5, ⟨#[]⟩, none, 0, 0, 0⟩
def ndsK (lb pb : Nat) : List Nd := [⟨1, [⟨#[65]⟩], some ⟨lb, 0, none⟩, 1, 1, [prK], some ⟨pb, 0, none⟩, 1, 1⟩, ⟨2, [], none, 0, 0, [], none, 0, 0⟩]
def edsK : List Ed := [⟨3, 1, 2, ⟨#[75]⟩, [], none, 0, 0⟩]

theorem lt_of_some {w : World} {b : Nat} {o : Obj} (h : w.heap[b]? = some o) : b < w.heap.size := (Array.getElem?_eq_some_iff.1 h).1

theorem KnowsAt.below {w w' : World} {lb pb nb eb : Nat} (h : KnowsAt w lb pb nb eb) (k : Below w.heap.size w w') : KnowsAt w' lb pb nb eb := by
  obtain ⟨h1, h2, h3, h4⟩ := h
  exact ⟨(k.block _ (lt_of_some h1)).trans h1, (k.block _ (lt_of_some h2)).trans h2, (k.block _ (lt_of_some h3)).trans h3, (k.block _ (lt_of_some h4)).trans h4⟩

theorem strs_none (w : World) (a : Option Addr) : StrsAt w [] a 0 := ⟨rfl, by omega, fun h => absurd h (Nat.lt_irrefl _)⟩
theorem props_none (w : World) (a : Option Addr) : PropsAt w [] a 0 := ⟨rfl, by omega, fun h => absurd h (Nat.lt_irrefl _)⟩

theorem KnowsAt.strs {w : World} {lb pb nb eb : Nat} (h : KnowsAt w lb pb nb eb) : StrsAt w [⟨#[65]⟩] (some ⟨lb, 0, none⟩) 1 := by
  refine ⟨rfl, by omega, fun _ => ⟨lb, 0, rfl, lt_of_some h.1, fun i s hs => ?_⟩⟩
  cases i with
  | zero =>
    simp at hs
    subst hs
    exact ⟨by decide, cell_of h.1 0⟩
  | succ i => simp at hs

theorem KnowsAt.props {w : World} {lb pb nb eb : Nat} (h : KnowsAt w lb pb nb eb) : PropsAt w [prK] (some ⟨pb, 0, none⟩) 1 := by
  refine ⟨rfl, by omega, fun _ => ⟨pb, 0, rfl, lt_of_some h.2.1, fun i s hs => ?_⟩⟩
  cases i with
  | zero =>
    simp at hs
    subst hs
    exact ⟨by decide, cell_of h.2.1 0, cell_of h.2.1 1, cell_of h.2.1 2, cell_of h.2.1 3, cell_of h.2.1 4⟩
  | succ i => simp at hs

theorem KnowsAt.nodes {w : World} {lb pb nb eb : Nat} (h : KnowsAt w lb pb nb eb) : NodesAt w (ndsK lb pb) (some ⟨nb, 0, none⟩) 2 := by
  refine ⟨rfl, by omega, fun _ => ⟨nb, 0, rfl, lt_of_some h.2.2.1, fun i s hs => ?_⟩⟩
  match i, hs with
  | 0, hs =>
    simp [ndsK] at hs
    subst hs
    exact ⟨cell_of h.2.2.1 0, cell_of h.2.2.1 1, cell_of h.2.2.1 2⟩
  | 1, hs =>
    simp [ndsK] at hs
    subst hs
    exact ⟨cell_of h.2.2.1 3, cell_of h.2.2.1 4, cell_of h.2.2.1 5⟩
  | i + 2, hs => simp [ndsK] at hs

theorem KnowsAt.edges {w : World} {lb pb nb eb : Nat} (h : KnowsAt w lb pb nb eb) : EdgesAt w edsK (some ⟨eb, 0, none⟩) 1 := by
  refine ⟨rfl, by omega, fun _ => ⟨eb, 0, rfl, lt_of_some h.2.2.2, fun i s hs => ?_⟩⟩
  cases i with
  | zero =>
    simp [edsK] at hs
    subst hs
    exact ⟨by decide, cell_of h.2.2.2 0, cell_of h.2.2.2 1, cell_of h.2.2.2 2, cell_of h.2.2.2 3, cell_of h.2.2.2 4⟩
  | succ i => simp [edsK] at hs

theorem leS_lit (s t : ByteArray) : leS s t = (Op.bytesLess s.data.toList t.data.toList || s.data.toList == t.data.toList) := by
  unfold leS
  rw [ByteArray.toList_eq, ByteArray.toList_eq]

theorem labs_K : labsE [⟨#[65]⟩] = 0 := by
  have h1 : nm ⟨#[65]⟩ = true := by decide
  have h2 : leS ⟨#[65]⟩ ⟨#[]⟩ = false := by rw [leS_lit]; decide
  simp [labsE, labE, h1, h2]

theorem prs_K : prsE [prK] = 0 := by
  have h1 : nm prK.name = true := by decide
  have h2 : leS prK.name ⟨#[]⟩ = false := by rw [leS_lit]; decide
  have h3 : prK.k ≠ 0 := by decide
  have h4 : prK.e = 0 := rfl
  simp [prsE, prE, h1, h2, h3, h4]

theorem gE_K (lb pb : Nat) : gE (ndsK lb pb) edsK 4 = 0 := by
  have a1 := labs_K
  have a2 := prs_K
  have a3 : labsE [] = 0 := by simp [labsE, labE]
  have a4 : prsE [] = 0 := by simp [prsE, prE]
  have a5 : nm ⟨#[75]⟩ = true := by decide
  have n1 : ndE 0 (ndsK lb pb) = 0 := by simp [ndE, ndOne, ndsK, a1, a2, a3, a4]
  have e1 : edE (ndsK lb pb) 0 edsK = 0 := by simp [edE, edOne, edsK, hasN, ndsK, a4, a5]
  have l1 : lastI 0 ((ndsK lb pb).map Nd.id) = 2 := rfl
  have l2 : lastI 0 (edsK.map Ed.id) = 3 := rfl
  rw [gE, n1, e1, l1, l2]
  simp [ndsK, edsK]

theorem val_K (w : World) : Calls Tryz.prog 66 #[prK.val] w fun e w' => e = .returned (.int .i64 prK.e) ∧ Below w.heap.size w w' :=
  check_of 2 5 ⟨#[]⟩ none 0 0 0 w fun w' k => within_plain 2 5 ⟨#[]⟩ none 0 0 0 0 w' rfl rfl fun w2 k2 => checkPlain_any 2 5 ⟨#[]⟩ none 0 0 0 w2 (fun _ _ _ => rfl) (fun h => absurd (.inr (.inr rfl)) h) (fun h => absurd rfl h) (fun h => absurd rfl h) (by omega)

theorem props_K {w : World} {lb pb nb eb : Nat} (h : KnowsAt w lb pb nb eb) (w' : World) (k : Below w.heap.size w w') (c : Nat) : Calls Tryz.prog 47 #[.slice (some ⟨pb, 0, none⟩) 1 c] w' fun e w'' => e = .returned (.int .i64 (prsE [prK])) ∧ Below w'.heap.size w' w'' :=
  props_of name_any [prK] _ 1 c w' (h.props.below k) fun p hp w2 k2 => by
    obtain rfl := List.mem_singleton.1 hp
    exact val_K w2

theorem props_E (w' : World) (a : Option Addr) (c : Nat) : Calls Tryz.prog 47 #[.slice a 0 c] w' fun e w'' => e = .returned (.int .i64 (prsE [])) ∧ Below w'.heap.size w' w'' :=
  props_of name_any [] _ 0 c w' (props_none _ _) fun p hp => by cases hp

theorem check_K {w : World} {lb pb nb eb : Nat} (h : KnowsAt w lb pb nb eb) : Calls Tryz.prog 14 #[.agg #[.slice (some ⟨nb, 0, none⟩) 2 2, .slice (some ⟨eb, 0, none⟩) 1 1, .int .i64 4]] w fun e w' => e = .returned (.int .i64 0) ∧ Below w.heap.size w w' := by
  have := check_graph (ndsK lb pb) edsK (some ⟨nb, 0, none⟩) 2 2 (some ⟨eb, 0, none⟩) 1 1 4 w h.nodes h.edges (fun x hx w' k => by
    rcases List.mem_cons.1 hx with rfl | hx
    · exact ⟨labels_of name_any _ _ _ _ w' (h.strs.below k), props_K h w' k 1⟩
    · obtain rfl := List.mem_singleton.1 hx
      exact ⟨labels_of name_any _ _ _ _ w' (strs_none _ _), props_E w' none 0⟩) (fun x hx w' k => by
    obtain rfl := List.mem_singleton.1 hx
    exact props_E w' none 0)
  rw [gE_K] at this
  exact this

theorem rise_N (lb pb : Nat) : Rise ((ndsK lb pb).map Nd.id) := by
  have h := gE_K lb pb
  have n1 : ndE 0 (ndsK lb pb) = 0 := by
    have a1 := labs_K
    have a2 := prs_K
    have a3 : labsE [] = 0 := by simp [labsE, labE]
    have a4 : prsE [] = 0 := by simp [prsE, prE]
    simp [ndE, ndOne, ndsK, a1, a2, a3, a4]
  exact (ndE_ok _ _ n1).1

theorem rise_E : Rise (edsK.map Ed.id) := by
  intro i j x y hij hx hy
  have h1 : j < 1 := (List.getElem?_eq_some_iff.1 hy).1
  omega

theorem owner_K {lb pb : Nat} {P : List Pr} {pa : Option Addr} {pl pc : Nat} (h : Owner (ndsK lb pb) edsK 1 P pa pl pc) : P = [prK] ∧ pa = some ⟨pb, 0, none⟩ ∧ pl = 1 ∧ pc = 1 := by
  rcases h with ⟨x, hx, h1, h2, h3, h4, h5⟩ | ⟨h1, _⟩
  · rcases List.mem_cons.1 hx with rfl | hx
    · exact ⟨h2.symm, h3.symm, h4.symm, h5.symm⟩
    · obtain rfl := List.mem_singleton.1 hx
      exact absurd h1 (by decide)
  · simp [hasN, ndsK] at h1

theorem equal3 (a : Option Addr) (c b : Nat) (w : World) (h : IntsAt w [3] a 1) (h' : IntsAt w [3] (some ⟨b, 0, none⟩) 1) : Calls Tryz.prog 13 #[.slice a 1 c, .slice (some ⟨b, 0, none⟩) 1 1] w fun e w' => e = .returned (.bool true) ∧ Below w.heap.size w w' :=
  equal_ints [3] [3] a 1 c (some ⟨b, 0, none⟩) 1 1 w h h'

theorem ints3 (w : World) : IntsAt (w.alloc (.cells #[.int .i64 3] 3)) [3] (some ⟨w.heap.size, 0, none⟩) 1 := by
  refine ⟨rfl, by omega, fun _ => ⟨w.heap.size, 0, rfl, by simp, fun i s hs => ?_⟩⟩
  cases i with
  | zero =>
    simp at hs
    subst hs
    exact cell_of (alloc_new w _) 0
  | succ i => simp at hs
end Go.Proofs.YtpjbjpickpiglaaGreatDoor
