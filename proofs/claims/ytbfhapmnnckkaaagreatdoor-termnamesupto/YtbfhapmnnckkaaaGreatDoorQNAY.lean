/-
  What is proved here: what the texts EThing, EPure, EBind prove, in one text.
-/
import Derived.Test.YtbfhapmnnckkaaaGreatDoorQNAX
import Derived.Test.YtbfhapmnnckkaaaGreatDoorQNAC
import Derived.Test.YtbfhapmnnckkaaaGreatDoorQNAK
import Derived.Deep.RegionHeld3
import Derived.Deep.CutBlock
namespace Go.Proofs.YtbfhapmnnckkaaaGreatDoor
open Go.RowKit
set_option linter.unusedVariables false

set_option maxHeartbeats 4000000 in
set_option maxRecDepth 100000 in
theorem ofNode_any (id : Int) (la : Option Addr) (ll lc : Nat) (pa : Option Addr) (pl pc : Nat) (w : World) : Calls Tryz.prog 90 #[.agg #[.int .i64 id, .slice la ll lc, .slice pa pl pc]] w fun e w' => e = .returned (.agg #[.bool false, .int .i64 id, .string ⟨#[]⟩, .slice pa pl pc]) ∧ Below w.heap.size w w' := by
  go_enter Tryz.func90, Tryz.ntmps90
  go_wp2_with fail
  have hbb : Below w.heap.size w ((w.alloc (.cells #[.int .i64 id, .slice la ll lc, .slice pa pl pc] 70)).alloc (.cells #[.bool false, .int .i64 id, .string ⟨#[]⟩, .slice pa pl pc] 84)) := ((Below.refl _ _).alloc (Nat.le_refl _) _).alloc (by simp) _
  exact bodyPost_ret (v := .agg #[.bool false, .int .i64 id, .string ⟨#[]⟩, .slice pa pl pc]) (by simp [results, Tryz.results90, go_sem]) rfl ⟨rfl, hbb⟩

set_option maxHeartbeats 4000000 in
set_option maxRecDepth 100000 in
theorem ofEdge_any (id frm dst : Int) (typ : ByteArray) (pa : Option Addr) (pl pc : Nat) (w : World) : Calls Tryz.prog 92 #[.agg #[.int .i64 id, .int .i64 frm, .int .i64 dst, .string typ, .slice pa pl pc]] w fun e w' => e = .returned (.agg #[.bool true, .int .i64 id, .string typ, .slice pa pl pc]) ∧ Below w.heap.size w w' := by
  go_enter Tryz.func92, Tryz.ntmps92
  go_wp2_with fail
  have hbb : Below w.heap.size w ((w.alloc (.cells #[.int .i64 id, .int .i64 frm, .int .i64 dst, .string typ, .slice pa pl pc] 72)).alloc (.cells #[.bool true, .int .i64 id, .string typ, .slice pa pl pc] 84)) := ((Below.refl _ _).alloc (Nat.le_refl _) _).alloc (by simp) _
  exact bodyPost_ret (v := .agg #[.bool true, .int .i64 id, .string typ, .slice pa pl pc]) (by simp [results, Tryz.results92, go_sem]) rfl ⟨rfl, hbb⟩

/-- A thing by its cells. -/
structure ThR where
  edge : Bool
  id : Int
  typ : ByteArray
  pa : Option Addr
  pl : Nat
  pc : Nat
def ThR.val (x : ThR) : Value := .agg #[.bool x.edge, .int .i64 x.id, .string x.typ, .slice x.pa x.pl x.pc]
def ThR.zero : ThR := ⟨false, 0, ⟨#[]⟩, none, 0, 0⟩
def Nd.tr (x : Nd) : ThR := ⟨false, x.id, ⟨#[]⟩, x.pa, x.pl, x.pc⟩
def Ed.tr (x : Ed) : ThR := ⟨true, x.id, x.typ, x.pa, x.pl, x.pc⟩

/-- Which thing has that number. -/
def thingF (N : List Nd) (E : List Ed) (id : Int) : Option ThR :=
  match N.find? (fun x => x.id == id) with
  | some x => some x.tr
  | none => (E.find? (fun x => x.id == id)).map Ed.tr

theorem find_rise {α : Type} {g : α → Int} {L : List α} (h : Rise (L.map g)) {i : Nat} {x : α} {id : Int} (hx : L[i]? = some x) (hid : g x = id) : L.find? (fun y => g y == id) = some x := by
  obtain ⟨hi, hxi⟩ := List.getElem?_eq_some_iff.1 hx
  rw [List.find?_eq_some_iff_getElem]
  refine ⟨by simp [hid], i, hi, hxi, fun j hj => ?_⟩
  have hjl : j < L.length := by omega
  have := h j i (g L[j]) (g x) hj (by rw [List.getElem?_map, List.getElem?_eq_getElem hjl]; rfl) (by rw [List.getElem?_map, hx]; rfl)
  have hne : ¬ g L[j] = id := by omega
  simp [hne]

theorem find_no {α : Type} {g : α → Int} {L : List α} {id : Int} (h : id ∉ L.map g) : L.find? (fun y => g y == id) = none := by
  rw [List.find?_eq_none]
  intro y hy
  have : ¬ g y = id := fun e => h (List.mem_map.2 ⟨y, hy, e⟩)
  simp [this]

theorem ids_at {α : Type} {g : α → Int} {L : List α} {i : Nat} {id : Int} (h : (L.map g)[i]? = some id) : ∃ x, L[i]? = some x ∧ g x = id := by
  rw [List.getElem?_map] at h
  cases hx : L[i]? with
  | none => rw [hx] at h; cases h
  | some x => rw [hx] at h; exact ⟨x, rfl, by simpa using h⟩

set_option maxHeartbeats 4000000 in
set_option maxRecDepth 100000 in
theorem thing_any (w0 w : World) (N : List Nd) (E : List Ed) (na : Option Addr) (nl nc : Nat) (ea : Option Addr) (el ec : Nat) (next id : Int) (hw : Below w0.heap.size w0 w) (hN : NodesAt w0 N na nl) (hE : EdgesAt w0 E ea el) (h60 : nl ≤ 60) (e60 : el ≤ 60) (hrN : Rise (N.map Nd.id)) (hrE : Rise (E.map Ed.id)) : Calls Tryz.prog 43 #[.agg #[.slice na nl nc, .slice ea el ec, .int .i64 next], .int .i64 id] w fun e w' => e = .returned (.tuple #[((thingF N E id).getD ThR.zero).val, .bool (thingF N E id).isSome]) ∧ Below w.heap.size w w' := by
  obtain ⟨RV, hRV⟩ : ∃ z, z = ((thingF N E id).getD ThR.zero).val := ⟨_, rfl⟩
  obtain ⟨RB, hRB⟩ : ∃ z, z = (thingF N E id).isSome := ⟨_, rfl⟩
  rw [← hRV, ← hRB]
  have hb2 : Below w.heap.size w ((w.alloc (.cells #[.slice na nl nc, .slice ea el ec, .int .i64 next] 41)).alloc (.cells #[.bool false, .int .i64 0, .string ⟨#[]⟩, .slice none 0 0] 84)) := ((Below.refl _ _).alloc (Nat.le_refl _) _).alloc (by simp) _
  have h0 := alloc_two w (.cells #[.slice na nl nc, .slice ea el ec, .int .i64 next] 41) (.cells #[.bool false, .int .i64 0, .string ⟨#[]⟩, .slice none 0 0] 84)
  have h1 : ((w.alloc (.cells #[.slice na nl nc, .slice ea el ec, .int .i64 next] 41)).alloc (.cells #[.bool false, .int .i64 0, .string ⟨#[]⟩, .slice none 0 0] 84)).heap[w.heap.size]? = some (.cells #[.slice na nl nc, .slice ea el ec, .int .i64 next] 41 (0, 0)) := by
    have hb : Below (w.heap.size + 1) (w.alloc (.cells #[.slice na nl nc, .slice ea el ec, .int .i64 next] 41)) ((w.alloc (.cells #[.slice na nl nc, .slice ea el ec, .int .i64 next] 41)).alloc (.cells #[.bool false, .int .i64 0, .string ⟨#[]⟩, .slice none 0 0] 84)) := (Below.refl _ _).alloc (by simp) _
    exact (hb.block w.heap.size (by omega)).trans (alloc_new w (.cells #[.slice na nl nc, .slice ea el ec, .int .i64 next] 41))
  have hz : ((w.alloc (.cells #[.slice na nl nc, .slice ea el ec, .int .i64 next] 41)).alloc (.cells #[.bool false, .int .i64 0, .string ⟨#[]⟩, .slice none 0 0] 84)).heap.size = w.heap.size + 2 := by simp
  have HZ := toHid hz
  have HB := toHid hb2
  have H0 := toHid h0
  have H1 := toHid h1
  have HW := toHid hw
  have HNA := toHid hN
  have HEA := toHid hE
  have HRN := toHid hrN
  have HRE := toHid hrE
  have HC : Hid (∀ W, Below w0.heap.size w0 W → Calls Tryz.prog 89 #[.slice na nl nc, .int .i64 id] W fun e w' => FoundEnd (N.map Nd.id) id e ∧ Below W.heap.size W w') := fun W k => node_find N na nl nc id W (HNA.out.below k) h60 HRN.out
  have HD : Hid (∀ W, Below w0.heap.size w0 W → Calls Tryz.prog 91 #[.slice ea el ec, .int .i64 id] W fun e w' => FoundEnd (E.map Ed.id) id e ∧ Below W.heap.size W w') := fun W k => edge_find E ea el ec id W (HEA.out.below k) e60 HRE.out
  have HV := toHid hRV
  have HVB := toHid hRB
  clear hb2 h0 h1 hz hw hN hE hrN hrE hRV hRB
  go_enter Tryz.func43, Tryz.ntmps43
  go_wp2_with fail
  refine (HC.out _ (HW.out.trans (HB.out.mono HW.out.size))).mono ?_
  generalize (w.alloc (.cells #[.slice na nl nc, .slice ea el ec, .int .i64 next] 41)).alloc (.cells #[.bool false, .int .i64 0, .string ⟨#[]⟩, .slice none 0 0] 84) = W at HB H0 H1 HZ ⊢
  rintro e u1 ⟨⟨i, fb, rfl, hi, hno⟩, k1⟩
  have HB1 := toHid (below2 HB.out k1)
  have HW1 : Hid (Below w0.heap.size w0 u1) := HW.out.trans (HB1.out.mono HW.out.size)
  have h1 := (k1.block w.heap.size (by rw [HZ.out]; omega)).trans H1.out
  have h2 := (k1.block (w.heap.size + 1) (by rw [HZ.out]; omega)).trans H0.out
  have c0 := cell_of h1 0
  have c1 := cell_of h1 1
  simp at c0 c1
  have hsz : w.heap.size + 1 < u1.heap.size := lt_block' h2
  have H1' := toHid h1
  have H2' := toHid h2
  cases fb with
  | true =>
    obtain ⟨x, hx, hxi⟩ := ids_at (hi rfl)
    obtain ⟨xid, labs, la, ll, lc, props, pa, pl, pc⟩ := x
    have hxi : xid = id := hxi
    subst hxi
    have hth : thingF N E xid = some ⟨false, xid, ⟨#[]⟩, pa, pl, pc⟩ := by
      unfold thingF
      rw [find_rise HRN.out hx rfl]
      rfl
    have HRV : Hid (RV = .agg #[.bool false, .int .i64 xid, .string ⟨#[]⟩, .slice pa pl pc] ∧ RB = true) := by
      rw [HV.out, HVB.out, hth]
      exact ⟨rfl, rfl⟩
    have hlen := HNA.out.1
    have hlt : i < nl := by rw [hlen]; exact (List.getElem?_eq_some_iff.1 hx).1
    obtain ⟨b, off, ha, hbl, hcs⟩ := HNA.out.2.2 (by omega)
    obtain ⟨e0, e1, e2⟩ := hcs i _ hx
    subst ha
    have d0 : u1.cell? ⟨b, off + i * 3, none⟩ = some (.int .i64 xid) := (HW1.out.cell (p := ⟨b, off + i * 3, none⟩) hbl).trans e0
    have d1 : u1.cell? ⟨b, off + i * 3 + 1, none⟩ = some (.slice la ll lc) := (HW1.out.cell (p := ⟨b, off + i * 3 + 1, none⟩) hbl).trans e1
    have d2 : u1.cell? ⟨b, off + i * 3 + 2, none⟩ = some (.slice pa pl pc) := (HW1.out.cell (p := ⟨b, off + i * 3 + 1 + 1, none⟩) hbl).trans e2
    have hil : (i : Int) < nl := by omega
    have hi0 : (0 : Int) ≤ i := by omega
    have hbW : b < u1.heap.size := Nat.lt_of_lt_of_le hbl HW1.out.size
    have hns : nl ≤ 60 := h60
    clear hi hno h1 h2 k1 hx hth e0 e1 e2 hcs hlen HC HD
    go_wp2_with fail
    refine (ofNode_any xid la ll lc pa pl pc u1).mono ?_
    rintro e u2 ⟨rfl, k2⟩
    have hb1 := (k2.block (w.heap.size + 1) (by omega)).trans H2'.out
    have r0 := cell_of hb1 0
    have r1 := cell_of hb1 1
    have r2 := cell_of hb1 2
    have r3 := cell_of hb1 3
    have f0 := free_of hb1 0
    have f1 := free_of hb1 1
    have f2 := free_of hb1 2
    have f3 := free_of hb1 3
    simp at r0 r1 r2 r3
    have hs1 : w.heap.size + 1 < u2.heap.size := lt_block' hb1
    have HBQ := toHid hb1
    have HK := toHid (below2 HB1.out k2)
    clear hb1 k2 d0 d1 d2 c0 c1
    go_wp2_with fail
    have eP : ∀ X : World, (((X.setCell ⟨w.heap.size + 1, 0, none⟩ (.bool false)).setCell ⟨w.heap.size + 1, 1, none⟩ (.int .i64 xid)).setCell ⟨w.heap.size + 1, 2, none⟩ (.string ⟨#[]⟩)).setCell ⟨w.heap.size + 1, 3, none⟩ (.slice pa pl pc) = putL X (w.heap.size + 1) 0 [.bool false, .int .i64 xid, .string ⟨#[]⟩, .slice pa pl pc] := fun _ => rfl
    rw [eP]
    have E := box4 HBQ.out rfl (.bool false) (.int .i64 xid) (.string ⟨#[]⟩) (.slice pa pl pc)
    have hbb : Below w.heap.size w (putL u2 (w.heap.size + 1) 0 [.bool false, .int .i64 xid, .string ⟨#[]⟩, .slice pa pl pc]) := HK.out.trans ((putL_bel (w.heap.size + 1) _ _ u2).mono (by omega))
    generalize putL u2 (w.heap.size + 1) 0 [.bool false, .int .i64 xid, .string ⟨#[]⟩, .slice pa pl pc] = Y at E hbb ⊢
    have t0 := cell_of E 0
    have t1 := cell_of E 1
    have t2 := cell_of E 2
    have t3 := cell_of E 3
    simp at t0 t1 t2 t3
    exact bodyPost_ret (v := .tuple #[.agg #[.bool false, .int .i64 xid, .string ⟨#[]⟩, .slice pa pl pc], .bool true]) (by simp [results, Tryz.results43, go_sem, t0, t1, t2, t3]) rfl ⟨by rw [HRV.out.1, HRV.out.2], hbb⟩
  | false =>
    have HNN := toHid (find_no (hno rfl))
    clear hi hno h1 h2 k1 HC
    go_wp2_with fail
    refine (HD.out _ HW1.out).mono ?_
    rintro e u2 ⟨⟨i2, fb, rfl, hi, hno⟩, k2⟩
    have HB2 := toHid (below2 HB1.out k2)
    have HW2 : Hid (Below w0.heap.size w0 u2) := HW.out.trans (HB2.out.mono HW.out.size)
    have h1 := (k2.block w.heap.size (by omega)).trans H1'.out
    have h2 := (k2.block (w.heap.size + 1) (by omega)).trans H2'.out
    clear c0 c1
    have c1 := cell_of h1 1
    simp at c1
    have hsz2 : w.heap.size + 1 < u2.heap.size := lt_block' h2
    have H2q := toHid h2
    cases fb with
    | true =>
      obtain ⟨x, hx, hxi⟩ := ids_at (hi rfl)
      obtain ⟨xid, frm, dst, typ, props, pa, pl, pc⟩ := x
      have hxi : xid = id := hxi
      subst hxi
      have hth : thingF N E xid = some ⟨true, xid, typ, pa, pl, pc⟩ := by
        unfold thingF
        rw [HNN.out, find_rise HRE.out hx rfl]
        rfl
      have HRV : Hid (RV = .agg #[.bool true, .int .i64 xid, .string typ, .slice pa pl pc] ∧ RB = true) := by
        rw [HV.out, HVB.out, hth]
        exact ⟨rfl, rfl⟩
      have hlen := HEA.out.1
      have hlt : i2 < el := by rw [hlen]; exact (List.getElem?_eq_some_iff.1 hx).1
      obtain ⟨b, off, ha, hbl, hcs⟩ := HEA.out.2.2 (by omega)
      obtain ⟨hts, e0, e1, e2, e3, e4⟩ := hcs i2 _ hx
      subst ha
      have d0 : u2.cell? ⟨b, off + i2 * 5, none⟩ = some (.int .i64 xid) := (HW2.out.cell (p := ⟨b, off + i2 * 5, none⟩) hbl).trans e0
      have d1 : u2.cell? ⟨b, off + i2 * 5 + 1, none⟩ = some (.int .i64 frm) := (HW2.out.cell (p := ⟨b, off + i2 * 5 + 1, none⟩) hbl).trans e1
      have d2 : u2.cell? ⟨b, off + i2 * 5 + 2, none⟩ = some (.int .i64 dst) := (HW2.out.cell (p := ⟨b, off + i2 * 5 + 1 + 1, none⟩) hbl).trans e2
      have d3 : u2.cell? ⟨b, off + i2 * 5 + 3, none⟩ = some (.string typ) := (HW2.out.cell (p := ⟨b, off + i2 * 5 + 1 + 1 + 1, none⟩) hbl).trans e3
      have d4 : u2.cell? ⟨b, off + i2 * 5 + 4, none⟩ = some (.slice pa pl pc) := (HW2.out.cell (p := ⟨b, off + i2 * 5 + 1 + 1 + 1 + 1, none⟩) hbl).trans e4
      have hil : (i2 : Int) < el := by omega
      have hi0 : (0 : Int) ≤ i2 := by omega
      have hbW : b < u2.heap.size := Nat.lt_of_lt_of_le hbl HW2.out.size
      clear hi hno h1 h2 k2 hx hth e0 e1 e2 e3 e4 hcs hlen HD hts
      go_wp2_with fail
      refine (ofEdge_any xid frm dst typ pa pl pc u2).mono ?_
      rintro e u3 ⟨rfl, k3⟩
      have hb1 := (k3.block (w.heap.size + 1) (by omega)).trans H2q.out
      have r0 := cell_of hb1 0
      have r1 := cell_of hb1 1
      have r2 := cell_of hb1 2
      have r3 := cell_of hb1 3
      have f0 := free_of hb1 0
      have f1 := free_of hb1 1
      have f2 := free_of hb1 2
      have f3 := free_of hb1 3
      simp at r0 r1 r2 r3
      have hs1 : w.heap.size + 1 < u3.heap.size := lt_block' hb1
      have HBQ := toHid hb1
      have HK := toHid (below2 HB2.out k3)
      clear hb1 k3 d0 d1 d2 d3 d4 c1
      go_wp2_with fail
      have eP : ∀ X : World, (((X.setCell ⟨w.heap.size + 1, 0, none⟩ (.bool true)).setCell ⟨w.heap.size + 1, 1, none⟩ (.int .i64 xid)).setCell ⟨w.heap.size + 1, 2, none⟩ (.string typ)).setCell ⟨w.heap.size + 1, 3, none⟩ (.slice pa pl pc) = putL X (w.heap.size + 1) 0 [.bool true, .int .i64 xid, .string typ, .slice pa pl pc] := fun _ => rfl
      rw [eP]
      have E := box4 HBQ.out rfl (.bool true) (.int .i64 xid) (.string typ) (.slice pa pl pc)
      have hbb : Below w.heap.size w (putL u3 (w.heap.size + 1) 0 [.bool true, .int .i64 xid, .string typ, .slice pa pl pc]) := HK.out.trans ((putL_bel (w.heap.size + 1) _ _ u3).mono (by omega))
      generalize putL u3 (w.heap.size + 1) 0 [.bool true, .int .i64 xid, .string typ, .slice pa pl pc] = Y at E hbb ⊢
      have t0 := cell_of E 0
      have t1 := cell_of E 1
      have t2 := cell_of E 2
      have t3 := cell_of E 3
      simp at t0 t1 t2 t3
      exact bodyPost_ret (v := .tuple #[.agg #[.bool true, .int .i64 xid, .string typ, .slice pa pl pc], .bool true]) (by simp [results, Tryz.results43, go_sem, t0, t1, t2, t3]) rfl ⟨by rw [HRV.out.1, HRV.out.2], hbb⟩
    | false =>
      have hth : thingF N E id = none := by
        unfold thingF
        rw [HNN.out, find_no (hno rfl)]
        rfl
      have HRV : Hid (RV = .agg #[.bool false, .int .i64 0, .string ⟨#[]⟩, .slice none 0 0] ∧ RB = false) := by
        rw [HV.out, HVB.out, hth]
        exact ⟨rfl, rfl⟩
      have r0 := cell_of h2 0
      have r1 := cell_of h2 1
      have r2 := cell_of h2 2
      have r3 := cell_of h2 3
      have f0 := free_of h2 0
      have f1 := free_of h2 1
      have f2 := free_of h2 2
      have f3 := free_of h2 3
      simp at r0 r1 r2 r3
      have HBQ := toHid h2
      have HK := HB2
      clear hi hno h1 h2 k2 hth HD c1
      go_wp2_with fail
      have eP : ∀ X : World, (((X.setCell ⟨w.heap.size + 1, 0, none⟩ (.bool false)).setCell ⟨w.heap.size + 1, 1, none⟩ (.int .i64 0)).setCell ⟨w.heap.size + 1, 2, none⟩ (.string ⟨#[]⟩)).setCell ⟨w.heap.size + 1, 3, none⟩ (.slice none 0 0) = putL X (w.heap.size + 1) 0 [.bool false, .int .i64 0, .string ⟨#[]⟩, .slice none 0 0] := fun _ => rfl
      rw [eP]
      have E := box4 HBQ.out rfl (.bool false) (.int .i64 0) (.string ⟨#[]⟩) (.slice none 0 0)
      have hbb : Below w.heap.size w (putL u2 (w.heap.size + 1) 0 [.bool false, .int .i64 0, .string ⟨#[]⟩, .slice none 0 0]) := HK.out.trans ((putL_bel (w.heap.size + 1) _ _ u2).mono (by omega))
      generalize putL u2 (w.heap.size + 1) 0 [.bool false, .int .i64 0, .string ⟨#[]⟩, .slice none 0 0] = Y at E hbb ⊢
      have t0 := cell_of E 0
      have t1 := cell_of E 1
      have t2 := cell_of E 2
      have t3 := cell_of E 3
      simp at t0 t1 t2 t3
      exact bodyPost_ret (v := .tuple #[.agg #[.bool false, .int .i64 0, .string ⟨#[]⟩, .slice none 0 0], .bool false]) (by simp [results, Tryz.results43, go_sem, t0, t1, t2, t3]) rfl ⟨by rw [HRV.out.1, HRV.out.2], hbb⟩

theorem RightP.up {env : ByteArray → Option Th} : ∀ (d : Nat) (t : Tm), RightP env d t → RightP env (d + 1) t
  | 0, t, h => h.elim
  | d + 1, .node k v nmx A, h => by
    obtain ⟨hv, h⟩ := h
    refine ⟨hv, ?_⟩
    rcases h with h | h | ⟨h1, h2, x, h3, h4, h5⟩ | ⟨h1, h2, h3, h4⟩
    · exact .inl h
    · exact .inr (.inl h)
    · exact .inr (.inr (.inl ⟨h1, h2, x, h3, h4, RightP.up d x h5⟩))
    · exact .inr (.inr (.inr ⟨h1, h2, fun x hx => RightP.up d x (h3 x hx), h4⟩))

theorem RightP.le {env : ByteArray → Option Th} {d d' : Nat} (h : d ≤ d') {t : Tm} (ht : RightP env d t) : RightP env d' t := by
  induction h with
  | refl => exact ht
  | step _ ih => exact ih.up

/-- More steps say the same of a right term. -/
theorem evalF_up {env : ByteArray → Option Th} : ∀ (d : Nat) (t : Tm), RightP env d t → evalF env (d + 1) t = evalF env d t
  | 0, t, h => h.elim
  | d + 1, .node k v nmx A, h => by
    obtain ⟨hv, h⟩ := h
    have e1 : ∀ n, evalF env (n + 1) (.node k v nmx A) = if k = 1 then v else if k = 2 then tInt ((env nmx).getD Th.zero).id else if k = 3 then fstF env (propF nmx) A else callF env A (A.map (evalF env n)) (opOf nmx) := fun n => rfl
    rw [e1, e1]
    rcases h with ⟨h1, _⟩ | ⟨h1, _⟩ | ⟨h1, _⟩ | ⟨h1, h2, h3, h4⟩
    · rw [if_pos h1, if_pos h1]
    · simp [h1]
    · simp [h1]
    · have hm : A.map (evalF env (d + 1)) = A.map (evalF env d) := List.map_congr_left fun x hx => evalF_up d x (h3 x hx)
      rw [hm]

theorem evalF_le {env : ByteArray → Option Th} {d d' : Nat} (h : d ≤ d') {t : Tm} (ht : RightP env d t) : evalF env d' t = evalF env d t := by
  induction h with
  | refl => rfl
  | step hle ih => rw [evalF_up _ t (ht.le hle)]; exact ih

/-- What is bound, as the entries of a map. -/
def entsFrom : List (ByteArray × ThR) → Nat → List MapEntry
  | [], _ => []
  | p :: l, i => ⟨.string p.1, p.2.val, i⟩ :: entsFrom l (i + 1)

theorem ents_snoc : ∀ (l : List (ByteArray × ThR)) (i : Nat) (p : ByteArray × ThR), entsFrom (l ++ [p]) i = entsFrom l i ++ [⟨.string p.1, p.2.val, i + l.length⟩]
  | [], i, p => rfl
  | q :: l, i, p => by
    show _ :: entsFrom (l ++ [p]) (i + 1) = _ :: (entsFrom l (i + 1) ++ _)
    rw [ents_snoc l (i + 1) p, List.length_cons, show i + 1 + l.length = i + (l.length + 1) by omega]

theorem ents_keys : ∀ (l : List (ByteArray × ThR)) (i : Nat), StrKeys (entsFrom l i)
  | [], i => fun e he => by cases he
  | p :: l, i => fun e he => by
    rcases List.mem_cons.1 he with rfl | he
    · exact ⟨p.1, rfl⟩
    · exact ents_keys l (i + 1) e he

theorem ents_find (s : ByteArray) : ∀ (l : List (ByteArray × ThR)) (i : Nat), mfind s (entsFrom l i) = (l.find? (fun p => s == p.1)).map fun p => p.2.val
  | [], i => rfl
  | p :: l, i => by
    show (if (s == p.1) = true then some p.2.val else mfind s (entsFrom l (i + 1))) = _
    cases h : (s == p.1) with
    | true => rw [if_pos rfl, List.find?_cons_of_pos (by simp [h])]; rfl
    | false => rw [if_neg (by simp), List.find?_cons_of_neg (by simp [h])]; exact ents_find s l (i + 1)

/-- What names stand for, out of a list. -/
def envOf (l : List (ByteArray × Th)) (s : ByteArray) : Option Th := (l.find? (fun p => s == p.1)).map Prod.snd

/-- A bound name in both forms. -/
def BdIn (w : World) (p : ByteArray × ThR) (q : ByteArray × Th) : Prop := p.1 = q.1 ∧ ThIn w q.2 p.2.val

theorem bd_find {w : World} (s : ByteArray) : ∀ (l : List (ByteArray × ThR)) (m : List (ByteArray × Th)), Pair2 (BdIn w) l m → match m.find? (fun p => s == p.1) with
    | some q => ∃ p, l.find? (fun p => s == p.1) = some p ∧ ThIn w q.2 p.2.val
    | none => l.find? (fun p => s == p.1) = none
  | [], m, h => by
    have : m = [] := List.length_eq_zero_iff.1 h.1.symm
    subst this
    rfl
  | p :: l, [], h => by have := h.1; simp at this
  | p :: l, q :: m, h => by
    have h0 : BdIn w p q := h.2 0 p q rfl rfl
    have ht : Pair2 (BdIn w) l m := ⟨by have := h.1; simpa using this, fun i x y hx hy => h.2 (i + 1) x y (by simpa using hx) (by simpa using hy)⟩
    cases hs : (s == q.1) with
    | true =>
      have hs' : (s == p.1) = true := by rw [h0.1]; exact hs
      rw [List.find?_cons_of_pos (by simpa using hs)]
      exact ⟨p, List.find?_cons_of_pos (by simpa using hs'), h0.2⟩
    | false =>
      have hs' : (s == p.1) = false := by rw [h0.1]; exact hs
      rw [List.find?_cons_of_neg (by simp [hs]), List.find?_cons_of_neg (by simp [hs'])]
      exact bd_find s l m ht

/-- A map that was filled so holds them. -/
theorem names_at {w : World} {m : Nat} {l : List (ByteArray × ThR)} {q : List (ByteArray × Th)} (h : w.heap[m]? = some (.map (entsFrom l 0).toArray l.length)) (hp : Pair2 (BdIn w) l q) : NamesAt w m (envOf q) := by
  refine ⟨_, _, h, by simpa using ents_keys l 0, fun s => ?_⟩
  have hf := bd_find s l q hp
  have he := ents_find s l 0
  cases hq : q.find? (fun p => s == p.1) with
  | none =>
    rw [hq] at hf
    have hf : l.find? (fun p => s == p.1) = none := hf
    have e : envOf q s = none := by unfold envOf; rw [hq]; rfl
    rw [e]
    show mfind s (entsFrom l 0).toArray.toList = none
    rw [List.toList_toArray, he, hf]
    rfl
  | some y =>
    rw [hq] at hf
    obtain ⟨p, hf, hin⟩ := hf
    have e : envOf q s = some y.2 := by unfold envOf; rw [hq]; rfl
    rw [e]
    refine ⟨p.2.val, ?_, hin⟩
    rw [List.toList_toArray, he, hf]
    rfl

/-- Names bound, one after another: the error, and what is bound. -/
def bindF (N : List Nd) (E : List Ed) : List ByteArray → List Int → List (ByteArray × ThR) → Int × List (ByteArray × ThR)
  | [], _, l => (0, l)
  | s :: ss, ids, l =>
    if (l.find? (fun p => s == p.1)).isSome = true then (7, [])
    else match thingF N E (ids.headD 0) with
      | none => (5, [])
      | some x => bindF N E ss ids.tail (l ++ [(s, x)])

/-- What bind hands back. -/
def BindEnd (R : Int × List (ByteArray × ThR)) (e : Ending) (w' : World) : Prop := (R.1 ≠ 0 ∧ e = .returned (.tuple #[.map none, .int .i64 R.1])) ∨ (R.1 = 0 ∧ ∃ r, e = .returned (.tuple #[.map (some r), .int .i64 0]) ∧ w'.heap[r]? = some (.map (entsFrom R.2 0).toArray R.2.length))

theorem make_names (w : World) : (Instr.makeMap 57 none).run Tryz.prog w = .ok (.map (some w.heap.size)) (w.alloc (.map #[] 0)) := by kernel_rfl

set_option maxHeartbeats 4000000 in
set_option maxRecDepth 100000 in
theorem bind_any (w0 w : World) (N : List Nd) (E : List Ed) (na : Option Addr) (nl nc : Nat) (ea : Option Addr) (el ec : Nat) (next : Int) (S : List ByteArray) (sa : Option Addr) (sl sc : Nat) (I : List Int) (ia : Option Addr) (il ic : Nat) (hw : Below w0.heap.size w0 w) (hN : NodesAt w0 N na nl) (hE : EdgesAt w0 E ea el) (h60 : nl ≤ 60) (e60 : el ≤ 60) (hrN : Rise (N.map Nd.id)) (hrE : Rise (E.map Ed.id)) (hS : StrsAt w0 S sa sl) (hI : IntsAt w0 I ia il) (hsi : il = sl) : Calls Tryz.prog 27 #[.agg #[.slice na nl nc, .slice ea el ec, .int .i64 next], .slice sa sl sc, .slice ia il ic] w fun e w' => BindEnd (bindF N E S I []) e w' ∧ Below w.heap.size w w' := by
  obtain ⟨BR, hBR⟩ : ∃ z, z = bindF N E S I [] := ⟨_, rfl⟩
  rw [← hBR]
  have HC : Hid (∀ (id : Int) (W : World), Below w0.heap.size w0 W → Calls Tryz.prog 43 #[.agg #[.slice na nl nc, .slice ea el ec, .int .i64 next], .int .i64 id] W fun e w' => e = .returned (.tuple #[((thingF N E id).getD ThR.zero).val, .bool (thingF N E id).isSome]) ∧ Below W.heap.size W w') := fun id W k => thing_any w0 W N E na nl nc ea el ec next id k hN hE h60 e60 hrN hrE
  subst hsi
  have hb2 : Below w.heap.size w ((w.alloc (.cells #[.slice na nl nc, .slice ea el ec, .int .i64 next] 41)).alloc (.map #[] 0)) := ((Below.refl _ _).alloc (Nat.le_refl _) _).alloc (by simp) _
  have h0 := alloc_two w (.cells #[.slice na nl nc, .slice ea el ec, .int .i64 next] 41) (.map #[] 0)
  have h1 : ((w.alloc (.cells #[.slice na nl nc, .slice ea el ec, .int .i64 next] 41)).alloc (.map #[] 0)).heap[w.heap.size]? = some (.cells #[.slice na nl nc, .slice ea el ec, .int .i64 next] 41 (0, 0)) := by
    have hb : Below (w.heap.size + 1) (w.alloc (.cells #[.slice na nl nc, .slice ea el ec, .int .i64 next] 41)) ((w.alloc (.cells #[.slice na nl nc, .slice ea el ec, .int .i64 next] 41)).alloc (.map #[] 0)) := (Below.refl _ _).alloc (by simp) _
    exact (hb.block w.heap.size (by omega)).trans (alloc_new w (.cells #[.slice na nl nc, .slice ea el ec, .int .i64 next] 41))
  have hz : ((w.alloc (.cells #[.slice na nl nc, .slice ea el ec, .int .i64 next] 41)).alloc (.map #[] 0)).heap.size = w.heap.size + 2 := by simp
  have HZ := toHid hz
  have HB := toHid hb2
  have H0 := toHid h0
  have H1 := toHid h1
  have HW := toHid hw
  have HSA := toHid hS
  have HIA := toHid hI
  have HBR : Hid (BR = bindF N E (S.drop 0) (I.drop 0) []) := hBR
  have hsm := hS.2.1
  have hmk := make_names (w.alloc (.cells #[.slice na nl nc, .slice ea el ec, .int .i64 next] 41))
  clear hb2 h0 h1 hz hw hN hE hrN hrE hS hI hBR h60 e60
  go_enter Tryz.func27, Tryz.ntmps27
  go_wp2_with fail
  clear hmk
  generalize (w.alloc (.cells #[.slice na nl nc, .slice ea el ec, .int .i64 next] 41)).alloc (.map #[] 0) = W at HB H0 H1 HZ ⊢
  go_loopg [18] il (fun q s18 wr => ∃ (i : Nat) (l : List (ByteArray × ThR)), i ≤ il ∧ il - i ≤ q ∧ s18 = .int .i64 i ∧ wr.heap[w.heap.size + 1]? = some (.map (entsFrom l 0).toArray l.length) ∧ Below (w.heap.size + 1) W wr ∧ BR = bindF N E (S.drop i) (I.drop i) l)
  case atStart => exact ⟨0, [], Nat.zero_le _, by omega, rfl, H0.out, Below.refl _ _, HBR.out⟩
  case round =>
    clear HBR
    obtain ⟨i, l, hi, hg, rfl, hmap, hbw, hbr⟩ := hrel
    have HMP := toHid hmap
    have HBR := toHid hbr
    have hzw : w.heap.size + 2 ≤ wr.heap.size := by have := hbw.size; rw [HZ.out] at this; exact this
    have hw0 : Below w.heap.size w wr := HB.out.trans (hbw.mono (by omega))
    have hw00 : Below w0.heap.size w0 wr := HW.out.trans (hw0.mono HW.out.size)
    clear hmap hbr
    by_cases hlt : i < il
    · obtain ⟨b, off, ha, hbl, hcs⟩ := HSA.out.2.2 (by omega)
      obtain ⟨b2, off2, ha2, hbl2, hcs2⟩ := HIA.out.2.2 (by omega)
      have hsl : i < S.length := by rw [← HSA.out.1]; exact hlt
      have hil2 : i < I.length := by rw [← HIA.out.1]; exact hlt
      obtain ⟨s, hs⟩ : ∃ s, S[i]? = some s := ⟨S[i], List.getElem?_eq_getElem hsl⟩
      obtain ⟨id, hid⟩ : ∃ s, I[i]? = some s := ⟨I[i], List.getElem?_eq_getElem hil2⟩
      obtain ⟨hss, e0⟩ := hcs i s hs
      have e2 := hcs2 i id hid
      have hds : S.drop i = s :: S.drop (i + 1) := by
        rw [List.drop_eq_getElem_cons hsl]
        congr 1
        rw [List.getElem?_eq_getElem hsl] at hs
        exact Option.some.inj hs
      have hdi : I.drop i = id :: I.drop (i + 1) := by
        rw [List.drop_eq_getElem_cons hil2]
        congr 1
        rw [List.getElem?_eq_getElem hil2] at hid
        exact Option.some.inj hid
      have HDS := toHid hds
      have HDI := toHid hdi
      subst ha ha2
      have d0 : wr.cell? ⟨b, off + i, none⟩ = some (.string s) := (hw00.cell (p := ⟨b, off + i, none⟩) hbl).trans e0
      have HE2 := toHid e2
      have hbW : b < wr.heap.size := Nat.lt_of_lt_of_le hbl hw00.size
      have hil : (i : Int) < il := by omega
      have r1 := run_lookup_str (P := Tryz.prog) (w := wr) Tryz.underlying57 Tryz.underlying9 HMP.out (by simpa using ents_keys l 0) s (zero_thing wr) true
      rw [List.toList_toArray, ents_find] at r1
      clear hcs hcs2 hs hid e0 e2 hds hdi hsl hil2
      cases hf : l.find? (fun p => s == p.1) with
      | some p =>
        rw [hf] at r1
        obtain ⟨ps, xr⟩ := p
        have r2 : (Instr.lookup 57 (.map (some (w.heap.size + 1))) (.string s) true).run Tryz.prog wr = .ok (.tuple #[.agg #[.bool xr.edge, .int .i64 xr.id, .string xr.typ, .slice xr.pa xr.pl xr.pc], .bool true]) wr := r1
        have HRR : Hid (BR = (7, [])) := by
          show BR = _
          rw [HBR.out, HDS.out]
          unfold bindF
          rw [hf]
          rfl
        have HBX := toHid (show Below w.heap.size w (wr.alloc (.cells #[.bool xr.edge, .int .i64 xr.id, .string xr.typ, .slice xr.pa xr.pl xr.pc] 84)) from hw0.alloc hw0.size _)
        clear r1 hbw hw0 hw00 hf
        go_wp2_with fail
        exact bodyPost_ret (v := .tuple #[.map none, .int .i64 7]) (by simp [results, Tryz.results27, go_sem]) rfl ⟨.inl ⟨by rw [HRR.out]; decide, by rw [HRR.out]⟩, HBX.out⟩
      | none =>
        rw [hf] at r1
        have r2 : (Instr.lookup 57 (.map (some (w.heap.size + 1))) (.string s) true).run Tryz.prog wr = .ok (.tuple #[.agg #[.bool false, .int .i64 0, .string ⟨#[]⟩, .slice none 0 0], .bool false]) wr := r1
        obtain ⟨th, hth⟩ : ∃ z, z = thingF N E id := ⟨_, rfl⟩
        obtain ⟨xr, hxr⟩ : ∃ z, z = th.getD ThR.zero := ⟨_, rfl⟩
        obtain ⟨ok, hok⟩ : ∃ z, z = th.isSome := ⟨_, rfl⟩
        have HCI : Hid (∀ W, Below w0.heap.size w0 W → Calls Tryz.prog 43 #[.agg #[.slice na nl nc, .slice ea el ec, .int .i64 next], .int .i64 id] W fun e w' => e = .returned (.tuple #[.agg #[.bool xr.edge, .int .i64 xr.id, .string xr.typ, .slice xr.pa xr.pl xr.pc], .bool ok]) ∧ Below W.heap.size W w') := fun W k => by
          have := HC.out id W k
          rw [← hth, ← hxr, ← hok] at this
          exact this
        have HTH := toHid hth
        have HXR := toHid hxr
        have HOK := toHid hok
        have HF := toHid hf
        have HWX : Hid (Below wr.heap.size wr (wr.alloc (.cells #[.bool false, .int .i64 0, .string ⟨#[]⟩, .slice none 0 0] 84))) := (Below.refl _ _).alloc (Nat.le_refl _) _
        have HMX : Hid ((wr.alloc (.cells #[.bool false, .int .i64 0, .string ⟨#[]⟩, .slice none 0 0] 84)).heap[w.heap.size + 1]? = _) := (HWX.out.block (w.heap.size + 1) (by omega)).trans HMP.out
        have HBX : Hid (Below (w.heap.size + 1) W (wr.alloc (.cells #[.bool false, .int .i64 0, .string ⟨#[]⟩, .slice none 0 0] 84))) := hbw.alloc (by omega) _
        have HW0 : Hid (Below w0.heap.size w0 (wr.alloc (.cells #[.bool false, .int .i64 0, .string ⟨#[]⟩, .slice none 0 0] 84))) := hw00.alloc hw00.size _
        have HWW : Hid (Below w.heap.size w (wr.alloc (.cells #[.bool false, .int .i64 0, .string ⟨#[]⟩, .slice none 0 0] 84))) := hw0.alloc hw0.size _
        have hzX : (wr.alloc (.cells #[.bool false, .int .i64 0, .string ⟨#[]⟩, .slice none 0 0] 84)).heap.size = wr.heap.size + 1 := by simp
        have HZX := toHid hzX
        clear r1 hth hxr hok hf hbw hw0 hw00 hzX HC
        go_upto_region 8 with fail
        clear r2 d0
        generalize wr.alloc (.cells #[.bool false, .int .i64 0, .string ⟨#[]⟩, .slice none 0 0] 84) = WX at HWX HMX HBX HW0 HWW HZX ⊢
        have HS : Hid (∀ W', Below WX.heap.size WX W' → (W'.cell? ⟨b2, off2 + i, none⟩ = some (.int .i64 id)) ∧ (W'.cell? ⟨w.heap.size, 0, none⟩ = some (.slice na nl nc) ∧ W'.cell? ⟨w.heap.size, 1, none⟩ = some (.slice ea el ec) ∧ W'.cell? ⟨w.heap.size, 2, none⟩ = some (.int .i64 next))) := fun W' kk => by
          have q := (kk.block w.heap.size (by rw [HZX.out]; omega)).trans ((HBX.out.block w.heap.size (by omega)).trans H1.out)
          have q0 := cell_of q 0
          have q1 := cell_of q 1
          have q2 := cell_of q 2
          simp at q0 q1 q2
          exact ⟨((HW0.out.trans (kk.mono HW0.out.size)).cell (p := ⟨b2, off2 + i, none⟩) hbl2).trans HE2.out, q0, q1, q2⟩
        have D0 : Below WX.heap.size WX WX.drew := (Below.refl _ _).drew
        obtain ⟨y0, y1, y2, y3⟩ := HS.out WX (Below.refl _ _)
        have hb2W : b2 < WX.heap.size := Nat.lt_of_lt_of_le hbl2 HW0.out.size
        have hwW : w.heap.size < WX.heap.size := by rw [HZX.out]; omega
        have HST : Hid (∀ u, Below WX.heap.size WX u → ∀ v0 v1 v2 v3 : Value, (((((u.setCell ⟨WX.heap.size, 0, none⟩ v0).setCell ⟨WX.heap.size, 1, none⟩ v1).setCell ⟨WX.heap.size, 2, none⟩ v2).setCell ⟨WX.heap.size, 3, none⟩ v3).cell? ⟨b2, off2 + i, none⟩ = some (.int .i64 id)) ∧ (((((u.setCell ⟨WX.heap.size, 0, none⟩ v0).setCell ⟨WX.heap.size, 1, none⟩ v1).setCell ⟨WX.heap.size, 2, none⟩ v2).setCell ⟨WX.heap.size, 3, none⟩ v3).cell? ⟨w.heap.size, 0, none⟩ = some (.slice na nl nc) ∧ ((((u.setCell ⟨WX.heap.size, 0, none⟩ v0).setCell ⟨WX.heap.size, 1, none⟩ v1).setCell ⟨WX.heap.size, 2, none⟩ v2).setCell ⟨WX.heap.size, 3, none⟩ v3).cell? ⟨w.heap.size, 1, none⟩ = some (.slice ea el ec) ∧ ((((u.setCell ⟨WX.heap.size, 0, none⟩ v0).setCell ⟨WX.heap.size, 1, none⟩ v1).setCell ⟨WX.heap.size, 2, none⟩ v2).setCell ⟨WX.heap.size, 3, none⟩ v3).cell? ⟨w.heap.size, 2, none⟩ = some (.int .i64 next))) := fun u kk v0 v1 v2 v3 => HS.out _ ((((kk.setCell (p := ⟨WX.heap.size, 0, none⟩) (Nat.le_refl _) _).setCell (p := ⟨WX.heap.size, 1, none⟩) (Nat.le_refl _) _).setCell (p := ⟨WX.heap.size, 2, none⟩) (Nat.le_refl _) _).setCell (p := ⟨WX.heap.size, 3, none⟩) (Nat.le_refl _) _)
        go_cut [13, 14] (fun s13 s14 wx => ∃ p, s13 = .pointer (some ⟨p, 0, none⟩) ∧ s14 = .bool ok ∧ wx.heap[p]? = some (.cells #[.bool xr.edge, .int .i64 xr.id, .string xr.typ, .slice xr.pa xr.pl xr.pc] 84 (0, 0)) ∧ Below WX.heap.size WX wx)
        case first =>
          go_region_held3 (fun W' => (W'.cell? ⟨b2, off2 + i, none⟩ = some (.int .i64 id)) ∧ (W'.cell? ⟨w.heap.size, 0, none⟩ = some (.slice na nl nc) ∧ W'.cell? ⟨w.heap.size, 1, none⟩ = some (.slice ea el ec) ∧ W'.cell? ⟨w.heap.size, 2, none⟩ = some (.int .i64 next)))
            (first
              | with_reducible exact HS.out _ k1
              | with_reducible exact HS.out _ D0
              | with_reducible exact HS.out _ (k1.alloc k1.size _)
              | with_reducible exact HS.out _ (D0.alloc (Nat.le_refl _) _)
              | with_reducible exact HST.out _ k1 _ _ _ _
              | exact ⟨y0, y1, y2, y3⟩
              | go_keep)
            (first
              | (go_at_call 43; go_fit (HCI.out WX.drew (HW0.out.trans (D0.mono HW0.out.size))); rintro e u1 ⟨rfl, h1⟩; have k1 : Below WX.heap.size WX u1 := D0.trans h1)
              | (go_at_call 43; go_fit (HCI.out (WX.drew.alloc (.cells #[.bool false, .int .i64 0, .string ⟨#[]⟩, .slice none 0 0] 84)) (HW0.out.trans ((D0.alloc (Nat.le_refl _) _).mono HW0.out.size))); rintro e u1 ⟨rfl, h1⟩; have k1 : Below WX.heap.size WX u1 := (D0.alloc (Nat.le_refl _) _).trans (h1.mono (by simp)); have hq : u1.heap[WX.heap.size]? = some (.cells #[.bool false, .int .i64 0, .string ⟨#[]⟩, .slice none 0 0] 84 (0, 0)) := (h1.block WX.heap.size (by simp)).trans (alloc_new WX.drew (.cells #[.bool false, .int .i64 0, .string ⟨#[]⟩, .slice none 0 0] 84)); have r0 := cell_of hq 0; have r1 := cell_of hq 1; have r2 := cell_of hq 2; have r3 := cell_of hq 3; have f0 := free_of hq 0; have f1 := free_of hq 1; have f2 := free_of hq 2; have f3 := free_of hq 3; simp at r0 r1 r2 r3; have hsz1 : WX.heap.size < u1.heap.size := lt_block' hq))
          all_goals
            go_wp2_with fail
            go_meet
          · exact ⟨u1.heap.size, rfl, rfl, alloc_new u1 _, k1.alloc k1.size _⟩
          · have E4 := box4 hq rfl (.bool xr.edge) (.int .i64 xr.id) (.string xr.typ) (.slice xr.pa xr.pl xr.pc)
            have K4 : Below WX.heap.size WX (putL u1 WX.heap.size 0 [.bool xr.edge, .int .i64 xr.id, .string xr.typ, .slice xr.pa xr.pl xr.pc]) := k1.trans (putL_bel WX.heap.size _ _ u1)
            exact ⟨WX.heap.size, rfl, rfl, E4, K4⟩
        case rest =>
          obtain ⟨p, rfl, rfl, hpb, kx⟩ := hcut
          have HKX := toHid kx
          have HWC := toHid (show Below w.heap.size w wc from HWW.out.trans (kx.mono HWW.out.size))
          have g0 := cell_of hpb 0
          have g1 := cell_of hpb 1
          have g2 := cell_of hpb 2
          have g3 := cell_of hpb 3
          simp at g0 g1 g2 g3
          have hpw : p < wc.heap.size := lt_block' hpb
          have hmw := (kx.block (w.heap.size + 1) (by rw [HZX.out]; omega)).trans HMX.out
          have hrun := run_update_new (P := Tryz.prog) Tryz.underlying57 Tryz.underlying9 hmw (by simpa using ents_keys l 0) s (by rw [List.toList_toArray, ents_find, HF.out]; rfl) (.agg #[.bool xr.edge, .int .i64 xr.id, .string xr.typ, .slice xr.pa xr.pl xr.pc])
          obtain ⟨W5, hW5⟩ : ∃ z, z = putB wc (w.heap.size + 1) (.map ((entsFrom l 0).toArray.push ⟨.string s, .agg #[.bool xr.edge, .int .i64 xr.id, .string xr.typ, .slice xr.pa xr.pl xr.pc], l.length⟩) (l.length + 1)) := ⟨_, rfl⟩
          rw [← hW5] at hrun
          have HM5 : Hid (W5.heap[w.heap.size + 1]? = some (.map (entsFrom (l ++ [(s, xr)]) 0).toArray (l ++ [(s, xr)]).length)) := by
            show W5.heap[w.heap.size + 1]? = _
            rw [hW5, putB_here (lt_block' hmw), ents_snoc]
            simp [ThR.val]
          have HB5 : Hid (Below (w.heap.size + 1) W W5) := by
            rw [hW5]
            exact (HBX.out.trans (kx.mono (by rw [HZX.out]; omega))).trans (putB_bel _ wc _ _ (Nat.le_refl _))
          clear hW5 hmw hpb kx
          cases ok with
          | false =>
            have HRR : Hid (BR = (5, [])) := by
              show BR = _
              rw [HBR.out, HDS.out, HDI.out]
              unfold bindF
              have hn : thingF N E id = none := by
                rw [← HTH.out]
                cases hx : th with
                | none => rfl
                | some y => have := HOK.out; rw [hx] at this; cases this
              rw [HF.out]
              simp [hn]
            go_wp2_with fail
            exact bodyPost_ret (v := .tuple #[.map none, .int .i64 5]) (by simp [results, Tryz.results27, go_sem]) rfl ⟨.inl ⟨by rw [HRR.out]; decide, by rw [HRR.out]⟩, HWC.out⟩
          | true =>
            have HRR : Hid (BR = bindF N E (S.drop (i + 1)) (I.drop (i + 1)) (l ++ [(s, xr)])) := by
              show BR = _
              have hn : thingF N E id = some xr := by
                rw [← HTH.out]
                cases hx : th with
                | none => have := HOK.out; rw [hx] at this; cases this
                | some y => rw [HXR.out, hx]; rfl
              rw [HBR.out, HDS.out, HDI.out]
              conv => lhs; unfold bindF
              rw [HF.out]
              simp [hn]
            go_wp2_with fail
            go_roundg (il - (i + 1))
            case measure => omega
            case rel => exact ⟨i + 1, l ++ [(s, xr)], by omega, by omega, by go_num, HM5.out, HB5.out, HRR.out⟩
    · have hil : ¬ (i : Int) < il := by omega
      have HRR : Hid (BR = (0, l)) := by
        show BR = _
        rw [HBR.out, List.drop_eq_nil_of_le (by have := HSA.out.1; omega)]
        rfl
      have HBX := toHid hw0
      clear hbw hw0 hw00
      go_wp2_with fail
      exact bodyPost_ret (v := .tuple #[.map (some (w.heap.size + 1)), .int .i64 0]) (by simp [results, Tryz.results27, go_sem]) rfl ⟨.inr ⟨by rw [HRR.out], w.heap.size + 1, rfl, by rw [HRR.out]; exact HMP.out⟩, HBX.out⟩
end Go.Proofs.YtbfhapmnnckkaaaGreatDoor
