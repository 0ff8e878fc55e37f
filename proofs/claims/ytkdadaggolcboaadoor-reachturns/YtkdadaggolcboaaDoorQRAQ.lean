/-
  What is proved here: what the texts RPairs2, RSort prove, in one text.
-/
import Derived.Test.YtkdadaggolcboaaDoorQRAP
import Derived.Test.YtkdadaggolcboaaDoorShelfG
import Derived.Sort.OwnSortedInts
namespace Go.Proofs.YtkdadaggolcboaaDoor
open Go.RowKit
set_option linter.unusedVariables false

set_option linter.unusedSimpArgs false

/-- What slices.SortFunc leaves of a row of pairs. -/
def SortOk (sortP : List (Int × Int) → List (Int × Int)) : Prop := ∀ (W : World) (B : Nat) (v : Value) (L : List (Int × Int)), W.ownsRow B 34 2 v L.length (pcells L) → L.length ≤ 1000000 → Calls Tryd.prog 20 #[v, .func (.func 21) #[] #[]] W fun e w' => e = .returned (.tuple #[]) ∧ w'.ownsRow B 34 2 v L.length (pcells (sortP L)) ∧ W.grownBy w' v.ownBlock

set_option maxHeartbeats 4000000 in
set_option maxRecDepth 100000 in
theorem pairs_any {sortP : List (Int × Int) → List (Int × Int)} (hso : SortOk sortP) (N : List Nd) (E : List Ed) (na : Option Addr) (nl nc : Nat) (ea : Option Addr) (el ec : Nat) (next : Int) (kind : ByteArray) (w : World) (hN : NodesAt w N na nl) (hE : EdgesAt w E ea el) (hnl : nl ≤ 100) (hel : el ≤ 1000) :
    Calls Tryd.prog 10 #[.agg #[.slice na nl nc, .slice ea el ec, .int .i64 next], .string kind] w fun e w' => ∃ v, e = .returned v ∧ w'.ownsRow w.heap.size 34 2 v (rawsF (N.map (·.id)) E kind).length (pcells (sortP (rawsF (N.map (·.id)) E kind))) ∧ Below w.heap.size w w' := by
  have hsz0 : ((w.alloc (.cells #[.slice na nl nc, .slice ea el ec, .int .i64 next] 25)).alloc (.cells #[.slice none 0 0] 26)).heap.size = w.heap.size + 2 := by simp
  have hb0 : Below w.heap.size w ((w.alloc (.cells #[.slice na nl nc, .slice ea el ec, .int .i64 next] 25)).alloc (.cells #[.slice none 0 0] 26)) := ((Below.refl _ _).alloc (Nat.le_refl _) _).alloc (by simp) _
  have hg0 : ((w.alloc (.cells #[.slice na nl nc, .slice ea el ec, .int .i64 next] 25)).alloc (.cells #[.slice none 0 0] 26)).heap[w.heap.size]? = some (.cells #[.slice na nl nc, .slice ea el ec, .int .i64 next] 25 (0, 0)) := (Below.heap_alloc _ _ _ (by simp)).trans (alloc_new w _)
  have ho0 := alloc_two w (.cells #[.slice na nl nc, .slice ea el ec, .int .i64 next] 25) (.cells #[.slice none 0 0] 26)
  have HSO := toHid hso
  have HLV : Hid (∀ X, Below w.heap.size w X → Calls Tryd.prog 17 #[.slice ea el ec, .string kind] X fun e w' => e = .returned (.map (some X.heap.size)) ∧ (∃ f, OwnWays w' X.heap.size X.heap.size (wayF E kind) f) ∧ Below X.heap.size X w') := fun X k => leaving_any E ea el ec kind X (hE.below k) hel
  have HEL : Hid (E.length ≤ 1000) := by show _ ≤ _; rw [← hE.1]; exact hel
  have HTY : Hid (∀ x ∈ E, x.typ.size ≤ 9223372036854775807) := fun x hx => by
    obtain ⟨j, hj⟩ := List.getElem?_of_mem hx
    obtain ⟨h1, h2, h3⟩ := hE
    obtain ⟨b, off, _, _, hc⟩ := h3 (by have := (List.getElem?_eq_some_iff.1 hj).1; omega)
    exact (hc j x hj).1
  obtain ⟨hnn, hnm, hnat⟩ := hN
  have HNN := toHid hnn
  have HNAT := toHid hnat
  clear hso hE hnn hnat
  go_enter Tryd.func10, Tryd.ntmps10
  have HB0 := toHid hb0
  have HG0 := toHid hg0
  have HO0 := toHid ho0
  have HZ0 := toHid hsz0
  clear hb0 hg0 ho0 hsz0
  go_upto_region 2 with fail
  generalize (w.alloc (.cells #[.slice na nl nc, .slice ea el ec, .int .i64 next] 25)).alloc (.cells #[.slice none 0 0] 26) = W1 at HB0 HG0 HO0 HZ0 ⊢
  have g0 := cell_of HG0.out 0
  have g1 := cell_of HG0.out 1
  simp at g0 g1
  have hgl : w.heap.size < W1.heap.size := by have := HZ0.out; omega
  go_wp2_with fail
  refine (HLV.out W1 HB0.out).mono ?_
  rintro e w2 ⟨rfl, ⟨f, how⟩, k2⟩
  have HOW := toHid how
  have HK2 := toHid k2
  have HG2 := toHid ((k2.block _ hgl).trans HG0.out)
  have HO2 := toHid ((k2.block (w.heap.size + 1) (by have := HZ0.out; omega)).trans HO0.out)
  have HB2 := toHid (HB0.out.trans (k2.mono HB0.out.size))
  clear how k2 g0 g1
  have g0 := cell_of HG2.out 0
  simp at g0
  have hgl2 : w.heap.size < w2.heap.size := blk_lt HG2.out
  go_wp2_with fail
  go_loopg [16] nl (fun g s16 wr => ∃ (i : Nat) (v : Value), i ≤ nl ∧ nl - i ≤ g ∧ s16 = .int .i64 i ∧ PLoop w2 wr (w.heap.size + 1) (rawsF ((N.take i).map (·.id)) E kind) v)
  case atStart => exact ⟨0, .slice none 0 0, Nat.zero_le _, by omega, rfl, HO2.out, World.ownsRow_nil _ _ _ _, Rst.refl _ _⟩
  case round =>
    obtain ⟨i, v, hi, hg, rfl, hpl⟩ := hrel
    have HPL := toHid hpl
    clear hpl
    have hbo : w.heap.size + 1 < w2.heap.size := blk_lt HO2.out
    by_cases hlt : i < nl
    · obtain ⟨b, off, ha, hb, hc⟩ := HNAT.out (by omega)
      subst ha
      obtain ⟨n, hn, _⟩ := drop_get (L := N) (i := i) (by have := HNN.out; omega)
      obtain ⟨c0, c1, c2⟩ := hc i n hn
      have hrs := HPL.out.rs
      have hbw : w2.heap[b]? = w.heap[b]? := HB2.out.block b hb
      have qq : ∀ o, wr.cell? ⟨b, o, none⟩ = w.cell? ⟨b, o, none⟩ := fun o => World.cell?_of_block (w := w) (w' := wr) (a := ⟨b, o, none⟩) ((hrs.block b (by have := HB2.out.size; omega) (by omega)).trans hbw)
      have d0 := (qq _).trans c0
      have d1 := (qq _).trans c1
      have d2 := (qq _).trans c2
      have HNI := toHid hn
      clear hc hn c0 c1 c2 qq hrs hbw
      have hil : (i : Int) < nl := by omega
      go_upto_region 6 with fail
      have HNB := toHid (alloc_new wr (.cells #[.int .i64 n.id, .slice n.la n.ll n.lc, .slice n.pa n.pl n.pc] 49))
      have HKW := toHid ((Below.refl wr.heap.size wr).alloc (Nat.le_refl _) (.cells #[.int .i64 n.id, .slice n.la n.ll n.lc, .slice n.pa n.pl n.pc] 49))
      generalize wr.alloc (.cells #[.int .i64 n.id, .slice n.la n.ll n.lc, .slice n.pa n.pl n.pc] 49) = Wp at HNB HKW ⊢
      clear d0 d1 d2
      have y0 := cell_of HNB.out 0
      simp at y0
      have hpl : wr.heap.size < Wp.heap.size := blk_lt HNB.out
      have HBW : Hid (w2.heap.size ≤ wr.heap.size) := HPL.out.rs.size
      have hacc : (rawsF ((N.take i).map (·.id)) E kind).length ≤ 100000 := by
        have h1 := raws_len E kind ((N.take i).map (·.id))
        have h2 : ((N.take i).map (·.id)).length ≤ 100 := by
          rw [List.length_map, List.length_take]
          have := HNN.out
          omega
        have h3 := Nat.mul_le_mul h2 HEL.out
        omega
      have HPI := toHid (node_pin HPL.out hbo rfl HKW.out HNB.out)
      have hmo : W1.heap.size ≠ w.heap.size + 1 := by have := HZ0.out; omega
      have HOWp : Hid (OwnWays Wp W1.heap.size W1.heap.size (wayF E kind) f) := (HOW.out.rst (O := fun k => k = w.heap.size + 1) hmo (fun j g hg e => by
        have := ((HOW.out.row j).lt g hg).1
        have := HZ0.out
        omega) HPL.out.rs).below HKW.out
      have HWK := toHid (walk_pairs E (wayF E kind) (fun j x hx => way_mem hx) (fun j => List.length_filter_le _ _) HEL.out HTY.out Wp W1.heap.size W1.heap.size f HOWp.out (vis_p w2.heap.size (w.heap.size + 1) wr.heap.size n.id n.la n.pa n.ll n.lc n.pl n.pc (rawsF ((N.take i).map (·.id)) E kind)) (w.heap.size + 1) wr.heap.size
        (fun X O out x hI hx hl => pairs1_any w2.heap.size (w.heap.size + 1) wr.heap.size (by have := HBW.out; omega) n.id n.la n.pa n.ll n.lc n.pl n.pc _ hacc X O out x (by
          obtain ⟨v0, hv0⟩ := hI
          have h1 := blk_lt hv0.node
          have h2 := HBW.out
          omega) hI (Nat.le_trans hl HEL.out))
        (fun k => k = w.heap.size + 1 ∨ k = wr.heap.size ∨ v.ownBlock = some k) HPI.out
        (fun h => by
          have hm := HOW.out.map.lt
          have hb3 := HBW.out
          rcases h with h | h | h
          · exact hmo h
          · omega
          · have := (HPL.out.row.lt _ h).1
            omega)
        (fun j g hg h => by
          have hr := (HOW.out.row j).lt g hg
          have hb3 := HBW.out
          have hz := HZ0.out
          rcases h with h | h | h
          · omega
          · omega
          · have := (HPL.out.row.lt _ h).1
            omega) n.id)
      go_wp2_with fail
      refine HWK.out.mono ?_
      rintro e wv ⟨rfl, O', p1, p2, p3⟩
      obtain ⟨v', hv'⟩ := loop_next HPL.out hbo rfl HKW.out p1 p3
      have HV' := toHid hv'
      clear p1 p2 p3 hv' HWK y0 hpl
      go_wp2_with fail
      go_roundg (nl - (i + 1))
      case measure => omega
      case rel => exact ⟨i + 1, v', by omega, by omega, by go_num, by rw [raws_take HNI.out]; exact HV'.out⟩
    · have he : i = nl := by omega
      subst he
      have htk : (N.take i).map (·.id) = N.map (·.id) := by rw [List.take_of_length_le (by have := HNN.out; omega)]
      rw [htk] at HPL
      have HLEN : Hid ((rawsF (N.map (·.id)) E kind).length ≤ 1000000) := by
        have h1 := raws_len E kind (N.map (·.id))
        have h2 : (N.map (·.id)).length ≤ 100 := by
          rw [List.length_map]
          have := HNN.out
          omega
        have h3 := Nat.mul_le_mul h2 HEL.out
        show _ ≤ _
        omega
      have o0 := cell_of HPL.out.box 0
      simp at o0
      have hol : w.heap.size + 1 < wr.heap.size := blk_lt HPL.out.box
      go_wp2_with fail
      refine (HSO.out wr w2.heap.size v _ HPL.out.row HLEN.out).mono ?_
      rintro e w5 ⟨rfl, hr5, hg5⟩
      have hb5 : w5.heap[w.heap.size + 1]? = some (.cells #[v] 26 (0, 0)) := (hg5.block _ hol (fun e => by
        have := (HPL.out.row.lt _ e.symm).1
        omega)).trans HPL.out.box
      have HR5 := toHid hr5
      have HBB : Hid (Below w.heap.size w w5) := by
        have h1 : Below w.heap.size w wr := HB2.out.trans ⟨HPL.out.rs.os, HPL.out.rs.tape, HPL.out.rs.output, HPL.out.rs.size, fun k hk => HPL.out.rs.block k (by omega) (by omega)⟩
        exact h1.grown hg5 h1.size (fun k hk => by
          have := (HPL.out.row.lt _ hk).1
          omega)
      clear hr5 hg5 o0 hol
      have o0 := cell_of hb5 0
      simp at o0
      have hol : w.heap.size + 1 < w5.heap.size := blk_lt hb5
      go_wp2_with fail
      go_ret
      refine ⟨v, rfl, ?_, HBB.out⟩
      have := HR5.out
      exact ⟨this.1, this.2.imp id fun ⟨g, cap, cur, e1, e2, e3⟩ => ⟨g, cap, cur, e1, by omega, e3⟩⟩

set_option linter.unusedSimpArgs false

def encP (p : Int × Int) : List Value := [.int .i64 p.1, .int .i64 p.2]

theorem pcells_get : ∀ (L : List (Int × Int)) (t : Nat), t < L.length * 2 → (pcells L)[t]? = some ((encP (L.toArray[t / 2]!))[t % 2]!)
  | [], t, h => by simp at h
  | p :: l, t, h => by
    have e : pcells (p :: l) = .int .i64 p.1 :: .int .i64 p.2 :: pcells l := rfl
    rw [e]
    match t, h with
    | 0, _ => rfl
    | 1, _ => rfl
    | t + 2, h =>
      have ih := pcells_get l t (by simp at h; omega)
      rw [List.getElem?_cons_succ, List.getElem?_cons_succ, ih]
      have e1 : (t + 2) / 2 = t / 2 + 1 := by omega
      have e2 : (t + 2) % 2 = t % 2 := by omega
      rw [e1, e2]
      simp

theorem flat_pcells (L : List (Int × Int)) : Sort.flatK encP 2 L.toArray = (pcells L).toArray := by
  apply Array.ext
  · simp [pcells_len]
  · intro t h1 h2
    have h3 : t < L.length * 2 := by simpa using h1
    have g := pcells_get L t h3
    have e1 := Sort.get_flatK encP 2 L.toArray t (by simpa using h3)
    rw [getElem!_pos _ t h1] at e1
    rw [e1]
    have e2 : (pcells L)[t]? = some ((pcells L).toArray[t]) := by simp
    rw [g] at e2
    injection e2

theorem ord_lt (x y : Int × Int) : ltOf ordP x y = decide (x.1 < y.1 ∨ (x.1 = y.1 ∧ x.2 < y.2)) := by
  unfold ltOf ordP cmpN
  rw [Bool.eq_iff_iff]
  simp only [decide_eq_true_eq]
  repeat' split
  all_goals omega

def sortP (L : List (Int × Int)) : List (Int × Int) := L.mergeSort fun x y => !ltOf ordP y x

theorem swo_p : Sort.SWO (ltOf ordP) where
  irrefl x := by rw [ord_lt]; simp
  trans x y z h1 h2 := by
    rw [ord_lt] at *
    simp only [decide_eq_true_eq] at *
    omega
  ntrans x y z h1 h2 := by
    rw [ord_lt] at *
    simp only [decide_eq_false_iff_not] at *
    omega

theorem tot_p (x y : Int × Int) (h1 : ltOf ordP x y = false) (h2 : ltOf ordP y x = false) : x = y := by
  rw [ord_lt] at h1 h2
  simp only [decide_eq_false_iff_not] at h1 h2
  obtain ⟨a, b⟩ := x
  obtain ⟨c, d⟩ := y
  simp only [Prod.mk.injEq] at h1 h2 ⊢
  omega

theorem heap_sortedV {w : World} {g n : Nat} {os : Array Obj} {cur : Array Value} {e : TypeId} {fr : Nat × Nat} (d : Array Value) (hb : w.heap[g]? = some (.cells cur e fr)) :
    (Sort.grow (Sort.putRow id (Sort.ahead w n) g 0 d) os).heap[g]? = some (.cells (Sort.putCells id 0 d cur) e fr) := by
  have hg : g < w.heap.size := (Array.getElem?_eq_some_iff.1 hb).1
  rw [Sort.heap_grow_old _ _ (by simpa using hg)]
  simp [Sort.putRow, Sort.mapBlock, Sort.ahead, Array.getElem?_modify, hb, Sort.onCells]

theorem grownBy_sortedV {w : World} {g n : Nat} {os : Array Obj} (d : Array Value) : w.grownBy (Sort.grow (Sort.putRow id (Sort.ahead w n) g 0 d) os) (some g) := by
  refine ⟨rfl, rfl, rfl, by simp, fun k hk hne => ?_⟩
  rw [Sort.heap_grow_old _ _ (by simpa using hk)]
  have : g ≠ k := fun e => hne (by rw [e])
  simp [Sort.putRow, Sort.mapBlock, Sort.ahead, Array.getElem?_modify, this]

theorem take_putCellsV (cur : Array Value) (ts : List Value) (h : ts.length ≤ cur.size) : (Sort.putCells id 0 ts.toArray cur).toList.take ts.length = ts := by
  apply List.ext_getElem?
  intro j
  by_cases hj : j < ts.length
  · rw [List.getElem?_take_of_lt hj, Array.getElem?_toList]
    simp [Sort.putCells, hj, show j < cur.size by omega]
  · rw [List.getElem?_take_eq_none (by omega), List.getElem?_eq_none (by omega)]

theorem len_sortP (L : List (Int × Int)) : (sortP L).length = L.length := List.length_mergeSort _

theorem sort_ok : SortOk sortP := by
  intro W B v L h hl
  rcases h.2 with ⟨rfl, h0⟩ | ⟨g, cap, cur, rfl, h1, h2, h3, h4, h5, h6⟩
  · have hL : L = [] := List.length_eq_zero_iff.1 h0
    subst hL
    have hc := AnyF.slices_SortFunc_none Tryd.sortLay none 0 (.func (.func 21) #[] #[]) W
    change Calls Tryd.prog 20 _ _ _ at hc
    refine hc.mono ?_
    rintro e w' ⟨rfl, rfl⟩
    exact ⟨rfl, (by rw [show sortP [] = [] from List.mergeSort_nil]; exact h), ⟨rfl, rfl, rfl, Nat.le_refl _, fun _ _ _ => rfl⟩⟩
  · have eg : ∀ args w, (callFunc 21 args).run Tryd.prog w = .ok (.enter 21 args) w := enters_of Tryd.func21 (by kernel_rfl) rfl
    have hcmp : CmpLays Tryd.prog 21 #[] encP 2 ordP g 0 L.toArray.size W := fun _ _ _ _ x y => orderP_any x y _
    have hH : Sort.HoldsK encP 2 W g 0 L.toArray := by
      unfold Sort.HoldsK
      rw [flat_pcells]
      intro j hj
      have hj' : j < (pcells L).length := by simpa using hj
      refine ⟨?_, by simp [World.frozen?, h2]⟩
      have e1 : (cur.toList.take (L.length * 2))[j]? = (pcells L)[j]? := by rw [h6]
      rw [List.getElem?_take_of_lt (by rw [pcells_len] at hj'; exact hj')] at e1
      simp only [World.cell?, h2, Nat.zero_add]
      simp only [Option.isSome_none, Bool.false_eq_true, if_false]
      rw [← Array.getElem?_toList, e1]
      simp [hj']
    have hc := AnyQ.slices_SortFunc_total Tryd.sortLay 2 Tryd.isAgg34 Tryd.sizeOf34 encP (fun _ => rfl) (fun x v hv => by simp [encP] at hv; rcases hv with rfl | rfl <;> rfl) ordP swo_p 21 #[] g 0 cap L.toArray W eg hcmp hH (blk_lt h2) (by simp; omega) tot_p
    change Calls Tryd.prog 20 _ _ _ at hc
    refine hc.mono ?_
    rintro e w' ⟨rfl, n, os, rfl⟩
    have eF : Sort.flatK encP 2 (L.toArray.toList.mergeSort fun x y => !ltOf ordP y x).toArray = (pcells (sortP L)).toArray := flat_pcells (sortP L)
    unfold sortWorldK Sort.putRowK
    rw [eF]
    refine ⟨rfl, ⟨by rw [pcells_len, len_sortP], .inr ⟨g, cap, _, rfl, h1, heap_sortedV _ h2, h3, h4, by simp [Sort.putCells, h5], ?_⟩⟩, grownBy_sortedV _⟩
    have e2 : L.length * 2 = (pcells (sortP L)).length := by rw [pcells_len, len_sortP]
    rw [e2]
    exact take_putCellsV cur _ (by rw [← e2, h5]; exact Nat.mul_le_mul_right 2 h3)
end Go.Proofs.YtkdadaggolcboaaDoor
