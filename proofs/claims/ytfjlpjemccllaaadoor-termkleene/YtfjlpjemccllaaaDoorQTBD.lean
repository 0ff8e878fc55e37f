/-
  What is proved here: what the texts EThing, EPure prove, in one text.
-/
import Derived.Test.YtfjlpjemccllaaaDoorERight
import Derived.Test.YtfjlpjemccllaaaDoorGFind
namespace Go.Proofs.YtfjlpjemccllaaaDoor
open Go.RowKit
set_option linter.unusedVariables false

set_option maxHeartbeats 4000000 in
set_option maxRecDepth 100000 in
theorem ofNode_any (id : Int) (la : Option Addr) (ll lc : Nat) (pa : Option Addr) (pl pc : Nat) (w : World) : Calls Tryd.prog 54 #[.agg #[.int .i64 id, .slice la ll lc, .slice pa pl pc]] w fun e w' => e = .returned (.agg #[.bool false, .int .i64 id, .string ⟨#[]⟩, .slice pa pl pc]) ∧ Below w.heap.size w w' := by
  go_enter Tryd.func54, Tryd.ntmps54
  go_wp2_with fail
  have hbb : Below w.heap.size w ((w.alloc (.cells #[.int .i64 id, .slice la ll lc, .slice pa pl pc] 60)).alloc (.cells #[.bool false, .int .i64 id, .string ⟨#[]⟩, .slice pa pl pc] 66)) := ((Below.refl _ _).alloc (Nat.le_refl _) _).alloc (by simp) _
  exact bodyPost_ret (v := .agg #[.bool false, .int .i64 id, .string ⟨#[]⟩, .slice pa pl pc]) (by simp [results, Tryd.results54, go_sem]) rfl ⟨rfl, hbb⟩

set_option maxHeartbeats 4000000 in
set_option maxRecDepth 100000 in
theorem ofEdge_any (id frm dst : Int) (typ : ByteArray) (pa : Option Addr) (pl pc : Nat) (w : World) : Calls Tryd.prog 56 #[.agg #[.int .i64 id, .int .i64 frm, .int .i64 dst, .string typ, .slice pa pl pc]] w fun e w' => e = .returned (.agg #[.bool true, .int .i64 id, .string typ, .slice pa pl pc]) ∧ Below w.heap.size w w' := by
  go_enter Tryd.func56, Tryd.ntmps56
  go_wp2_with fail
  have hbb : Below w.heap.size w ((w.alloc (.cells #[.int .i64 id, .int .i64 frm, .int .i64 dst, .string typ, .slice pa pl pc] 63)).alloc (.cells #[.bool true, .int .i64 id, .string typ, .slice pa pl pc] 66)) := ((Below.refl _ _).alloc (Nat.le_refl _) _).alloc (by simp) _
  exact bodyPost_ret (v := .agg #[.bool true, .int .i64 id, .string typ, .slice pa pl pc]) (by simp [results, Tryd.results56, go_sem]) rfl ⟨rfl, hbb⟩

/-- A thing by its cells. -/
structure ThR where
  edge : Bool
  id : Int
  typ : ByteArray
  pa : Option Addr
  pl : Nat
  pc : Nat
def ThR.val (x : ThR) : Value := .agg #[.bool x.edge, .int .i64 x.id, .string x.typ, .slice x.pa x.pl x.pc]
def ThR.zero : ThR := ⟨false, 0, ⟨#[]⟩, none, 0, 0⟩
def Nd.tr (x : Nd) : ThR := ⟨false, x.id, ⟨#[]⟩, x.pa, x.pl, x.pc⟩
def Ed.tr (x : Ed) : ThR := ⟨true, x.id, x.typ, x.pa, x.pl, x.pc⟩

/-- Which thing has that number. -/
def thingF (N : List Nd) (E : List Ed) (id : Int) : Option ThR :=
  match N.find? (fun x => x.id == id) with
  | some x => some x.tr
  | none => (E.find? (fun x => x.id == id)).map Ed.tr

theorem find_rise {α : Type} {g : α → Int} {L : List α} (h : Rise (L.map g)) {i : Nat} {x : α} {id : Int} (hx : L[i]? = some x) (hid : g x = id) : L.find? (fun y => g y == id) = some x := by
  obtain ⟨hi, hxi⟩ := List.getElem?_eq_some_iff.1 hx
  rw [List.find?_eq_some_iff_getElem]
  refine ⟨by simp [hid], i, hi, hxi, fun j hj => ?_⟩
  have hjl : j < L.length := by omega
  have := h j i (g L[j]) (g x) hj (by rw [List.getElem?_map, List.getElem?_eq_getElem hjl]; rfl) (by rw [List.getElem?_map, hx]; rfl)
  have hne : ¬ g L[j] = id := by omega
  simp [hne]

theorem find_no {α : Type} {g : α → Int} {L : List α} {id : Int} (h : id ∉ L.map g) : L.find? (fun y => g y == id) = none := by
  rw [List.find?_eq_none]
  intro y hy
  have : ¬ g y = id := fun e => h (List.mem_map.2 ⟨y, hy, e⟩)
  simp [this]

theorem ids_at {α : Type} {g : α → Int} {L : List α} {i : Nat} {id : Int} (h : (L.map g)[i]? = some id) : ∃ x, L[i]? = some x ∧ g x = id := by
  rw [List.getElem?_map] at h
  cases hx : L[i]? with
  | none => rw [hx] at h; cases h
  | some x => rw [hx] at h; exact ⟨x, rfl, by simpa using h⟩

set_option maxHeartbeats 4000000 in
set_option maxRecDepth 100000 in
theorem thing_any (w0 w : World) (N : List Nd) (E : List Ed) (na : Option Addr) (nl nc : Nat) (ea : Option Addr) (el ec : Nat) (next id : Int) (hw : Below w0.heap.size w0 w) (hN : NodesAt w0 N na nl) (hE : EdgesAt w0 E ea el) (h60 : nl ≤ 60) (e60 : el ≤ 60) (hrN : Rise (N.map Nd.id)) (hrE : Rise (E.map Ed.id)) : Calls Tryd.prog 26 #[.agg #[.slice na nl nc, .slice ea el ec, .int .i64 next], .int .i64 id] w fun e w' => e = .returned (.tuple #[((thingF N E id).getD ThR.zero).val, .bool (thingF N E id).isSome]) ∧ Below w.heap.size w w' := by
  obtain ⟨RV, hRV⟩ : ∃ z, z = ((thingF N E id).getD ThR.zero).val := ⟨_, rfl⟩
  obtain ⟨RB, hRB⟩ : ∃ z, z = (thingF N E id).isSome := ⟨_, rfl⟩
  rw [← hRV, ← hRB]
  have hb2 : Below w.heap.size w ((w.alloc (.cells #[.slice na nl nc, .slice ea el ec, .int .i64 next] 25)).alloc (.cells #[.bool false, .int .i64 0, .string ⟨#[]⟩, .slice none 0 0] 66)) := ((Below.refl _ _).alloc (Nat.le_refl _) _).alloc (by simp) _
  have h0 := alloc_two w (.cells #[.slice na nl nc, .slice ea el ec, .int .i64 next] 25) (.cells #[.bool false, .int .i64 0, .string ⟨#[]⟩, .slice none 0 0] 66)
  have h1 : ((w.alloc (.cells #[.slice na nl nc, .slice ea el ec, .int .i64 next] 25)).alloc (.cells #[.bool false, .int .i64 0, .string ⟨#[]⟩, .slice none 0 0] 66)).heap[w.heap.size]? = some (.cells #[.slice na nl nc, .slice ea el ec, .int .i64 next] 25 (0, 0)) := by
    have hb : Below (w.heap.size + 1) (w.alloc (.cells #[.slice na nl nc, .slice ea el ec, .int .i64 next] 25)) ((w.alloc (.cells #[.slice na nl nc, .slice ea el ec, .int .i64 next] 25)).alloc (.cells #[.bool false, .int .i64 0, .string ⟨#[]⟩, .slice none 0 0] 66)) := (Below.refl _ _).alloc (by simp) _
    exact (hb.block w.heap.size (by omega)).trans (alloc_new w (.cells #[.slice na nl nc, .slice ea el ec, .int .i64 next] 25))
  have hz : ((w.alloc (.cells #[.slice na nl nc, .slice ea el ec, .int .i64 next] 25)).alloc (.cells #[.bool false, .int .i64 0, .string ⟨#[]⟩, .slice none 0 0] 66)).heap.size = w.heap.size + 2 := by simp
  have HZ := toHid hz
  have HB := toHid hb2
  have H0 := toHid h0
  have H1 := toHid h1
  have HW := toHid hw
  have HNA := toHid hN
  have HEA := toHid hE
  have HRN := toHid hrN
  have HRE := toHid hrE
  have HC : Hid (∀ W, Below w0.heap.size w0 W → Calls Tryd.prog 53 #[.slice na nl nc, .int .i64 id] W fun e w' => FoundEnd (N.map Nd.id) id e ∧ Below W.heap.size W w') := fun W k => node_find N na nl nc id W (HNA.out.below k) h60 HRN.out
  have HD : Hid (∀ W, Below w0.heap.size w0 W → Calls Tryd.prog 55 #[.slice ea el ec, .int .i64 id] W fun e w' => FoundEnd (E.map Ed.id) id e ∧ Below W.heap.size W w') := fun W k => edge_find E ea el ec id W (HEA.out.below k) e60 HRE.out
  have HV := toHid hRV
  have HVB := toHid hRB
  clear hb2 h0 h1 hz hw hN hE hrN hrE hRV hRB
  go_enter Tryd.func26, Tryd.ntmps26
  go_wp2_with fail
  refine (HC.out _ (HW.out.trans (HB.out.mono HW.out.size))).mono ?_
  generalize (w.alloc (.cells #[.slice na nl nc, .slice ea el ec, .int .i64 next] 25)).alloc (.cells #[.bool false, .int .i64 0, .string ⟨#[]⟩, .slice none 0 0] 66) = W at HB H0 H1 HZ ⊢
  rintro e u1 ⟨⟨i, fb, rfl, hi, hno⟩, k1⟩
  have HB1 := toHid (below2 HB.out k1)
  have HW1 : Hid (Below w0.heap.size w0 u1) := HW.out.trans (HB1.out.mono HW.out.size)
  have h1 := (k1.block w.heap.size (by rw [HZ.out]; omega)).trans H1.out
  have h2 := (k1.block (w.heap.size + 1) (by rw [HZ.out]; omega)).trans H0.out
  have c0 := cell_of h1 0
  have c1 := cell_of h1 1
  simp at c0 c1
  have hsz : w.heap.size + 1 < u1.heap.size := lt_block' h2
  have H1' := toHid h1
  have H2' := toHid h2
  cases fb with
  | true =>
    obtain ⟨x, hx, hxi⟩ := ids_at (hi rfl)
    obtain ⟨xid, labs, la, ll, lc, props, pa, pl, pc⟩ := x
    have hxi : xid = id := hxi
    subst hxi
    have hth : thingF N E xid = some ⟨false, xid, ⟨#[]⟩, pa, pl, pc⟩ := by
      unfold thingF
      rw [find_rise HRN.out hx rfl]
      rfl
    have HRV : Hid (RV = .agg #[.bool false, .int .i64 xid, .string ⟨#[]⟩, .slice pa pl pc] ∧ RB = true) := by
      rw [HV.out, HVB.out, hth]
      exact ⟨rfl, rfl⟩
    have hlen := HNA.out.1
    have hlt : i < nl := by rw [hlen]; exact (List.getElem?_eq_some_iff.1 hx).1
    obtain ⟨b, off, ha, hbl, hcs⟩ := HNA.out.2.2 (by omega)
    obtain ⟨e0, e1, e2⟩ := hcs i _ hx
    subst ha
    have d0 : u1.cell? ⟨b, off + i * 3, none⟩ = some (.int .i64 xid) := (HW1.out.cell (p := ⟨b, off + i * 3, none⟩) hbl).trans e0
    have d1 : u1.cell? ⟨b, off + i * 3 + 1, none⟩ = some (.slice la ll lc) := (HW1.out.cell (p := ⟨b, off + i * 3 + 1, none⟩) hbl).trans e1
    have d2 : u1.cell? ⟨b, off + i * 3 + 2, none⟩ = some (.slice pa pl pc) := (HW1.out.cell (p := ⟨b, off + i * 3 + 1 + 1, none⟩) hbl).trans e2
    have hil : (i : Int) < nl := by omega
    have hi0 : (0 : Int) ≤ i := by omega
    have hbW : b < u1.heap.size := Nat.lt_of_lt_of_le hbl HW1.out.size
    have hns : nl ≤ 60 := h60
    clear hi hno h1 h2 k1 hx hth e0 e1 e2 hcs hlen HC HD
    go_wp2_with fail
    refine (ofNode_any xid la ll lc pa pl pc u1).mono ?_
    rintro e u2 ⟨rfl, k2⟩
    have hb1 := (k2.block (w.heap.size + 1) (by omega)).trans H2'.out
    have r0 := cell_of hb1 0
    have r1 := cell_of hb1 1
    have r2 := cell_of hb1 2
    have r3 := cell_of hb1 3
    have f0 := free_of hb1 0
    have f1 := free_of hb1 1
    have f2 := free_of hb1 2
    have f3 := free_of hb1 3
    simp at r0 r1 r2 r3
    have hs1 : w.heap.size + 1 < u2.heap.size := lt_block' hb1
    have HBQ := toHid hb1
    have HK := toHid (below2 HB1.out k2)
    clear hb1 k2 d0 d1 d2 c0 c1
    go_wp2_with fail
    have eP : ∀ X : World, (((X.setCell ⟨w.heap.size + 1, 0, none⟩ (.bool false)).setCell ⟨w.heap.size + 1, 1, none⟩ (.int .i64 xid)).setCell ⟨w.heap.size + 1, 2, none⟩ (.string ⟨#[]⟩)).setCell ⟨w.heap.size + 1, 3, none⟩ (.slice pa pl pc) = putL X (w.heap.size + 1) 0 [.bool false, .int .i64 xid, .string ⟨#[]⟩, .slice pa pl pc] := fun _ => rfl
    rw [eP]
    have E := box4 HBQ.out rfl (.bool false) (.int .i64 xid) (.string ⟨#[]⟩) (.slice pa pl pc)
    have hbb : Below w.heap.size w (putL u2 (w.heap.size + 1) 0 [.bool false, .int .i64 xid, .string ⟨#[]⟩, .slice pa pl pc]) := HK.out.trans ((putL_bel (w.heap.size + 1) _ _ u2).mono (by omega))
    generalize putL u2 (w.heap.size + 1) 0 [.bool false, .int .i64 xid, .string ⟨#[]⟩, .slice pa pl pc] = Y at E hbb ⊢
    have t0 := cell_of E 0
    have t1 := cell_of E 1
    have t2 := cell_of E 2
    have t3 := cell_of E 3
    simp at t0 t1 t2 t3
    exact bodyPost_ret (v := .tuple #[.agg #[.bool false, .int .i64 xid, .string ⟨#[]⟩, .slice pa pl pc], .bool true]) (by simp [results, Tryd.results26, go_sem, t0, t1, t2, t3]) rfl ⟨by rw [HRV.out.1, HRV.out.2], hbb⟩
  | false =>
    have HNN := toHid (find_no (hno rfl))
    clear hi hno h1 h2 k1 HC
    go_wp2_with fail
    refine (HD.out _ HW1.out).mono ?_
    rintro e u2 ⟨⟨i2, fb, rfl, hi, hno⟩, k2⟩
    have HB2 := toHid (below2 HB1.out k2)
    have HW2 : Hid (Below w0.heap.size w0 u2) := HW.out.trans (HB2.out.mono HW.out.size)
    have h1 := (k2.block w.heap.size (by omega)).trans H1'.out
    have h2 := (k2.block (w.heap.size + 1) (by omega)).trans H2'.out
    clear c0 c1
    have c1 := cell_of h1 1
    simp at c1
    have hsz2 : w.heap.size + 1 < u2.heap.size := lt_block' h2
    have H2q := toHid h2
    cases fb with
    | true =>
      obtain ⟨x, hx, hxi⟩ := ids_at (hi rfl)
      obtain ⟨xid, frm, dst, typ, props, pa, pl, pc⟩ := x
      have hxi : xid = id := hxi
      subst hxi
      have hth : thingF N E xid = some ⟨true, xid, typ, pa, pl, pc⟩ := by
        unfold thingF
        rw [HNN.out, find_rise HRE.out hx rfl]
        rfl
      have HRV : Hid (RV = .agg #[.bool true, .int .i64 xid, .string typ, .slice pa pl pc] ∧ RB = true) := by
        rw [HV.out, HVB.out, hth]
        exact ⟨rfl, rfl⟩
      have hlen := HEA.out.1
      have hlt : i2 < el := by rw [hlen]; exact (List.getElem?_eq_some_iff.1 hx).1
      obtain ⟨b, off, ha, hbl, hcs⟩ := HEA.out.2.2 (by omega)
      obtain ⟨hts, e0, e1, e2, e3, e4⟩ := hcs i2 _ hx
      subst ha
      have d0 : u2.cell? ⟨b, off + i2 * 5, none⟩ = some (.int .i64 xid) := (HW2.out.cell (p := ⟨b, off + i2 * 5, none⟩) hbl).trans e0
      have d1 : u2.cell? ⟨b, off + i2 * 5 + 1, none⟩ = some (.int .i64 frm) := (HW2.out.cell (p := ⟨b, off + i2 * 5 + 1, none⟩) hbl).trans e1
      have d2 : u2.cell? ⟨b, off + i2 * 5 + 2, none⟩ = some (.int .i64 dst) := (HW2.out.cell (p := ⟨b, off + i2 * 5 + 1 + 1, none⟩) hbl).trans e2
      have d3 : u2.cell? ⟨b, off + i2 * 5 + 3, none⟩ = some (.string typ) := (HW2.out.cell (p := ⟨b, off + i2 * 5 + 1 + 1 + 1, none⟩) hbl).trans e3
      have d4 : u2.cell? ⟨b, off + i2 * 5 + 4, none⟩ = some (.slice pa pl pc) := (HW2.out.cell (p := ⟨b, off + i2 * 5 + 1 + 1 + 1 + 1, none⟩) hbl).trans e4
      have hil : (i2 : Int) < el := by omega
      have hi0 : (0 : Int) ≤ i2 := by omega
      have hbW : b < u2.heap.size := Nat.lt_of_lt_of_le hbl HW2.out.size
      clear hi hno h1 h2 k2 hx hth e0 e1 e2 e3 e4 hcs hlen HD hts
      go_wp2_with fail
      refine (ofEdge_any xid frm dst typ pa pl pc u2).mono ?_
      rintro e u3 ⟨rfl, k3⟩
      have hb1 := (k3.block (w.heap.size + 1) (by omega)).trans H2q.out
      have r0 := cell_of hb1 0
      have r1 := cell_of hb1 1
      have r2 := cell_of hb1 2
      have r3 := cell_of hb1 3
      have f0 := free_of hb1 0
      have f1 := free_of hb1 1
      have f2 := free_of hb1 2
      have f3 := free_of hb1 3
      simp at r0 r1 r2 r3
      have hs1 : w.heap.size + 1 < u3.heap.size := lt_block' hb1
      have HBQ := toHid hb1
      have HK := toHid (below2 HB2.out k3)
      clear hb1 k3 d0 d1 d2 d3 d4 c1
      go_wp2_with fail
      have eP : ∀ X : World, (((X.setCell ⟨w.heap.size + 1, 0, none⟩ (.bool true)).setCell ⟨w.heap.size + 1, 1, none⟩ (.int .i64 xid)).setCell ⟨w.heap.size + 1, 2, none⟩ (.string typ)).setCell ⟨w.heap.size + 1, 3, none⟩ (.slice pa pl pc) = putL X (w.heap.size + 1) 0 [.bool true, .int .i64 xid, .string typ, .slice pa pl pc] := fun _ => rfl
      rw [eP]
      have E := box4 HBQ.out rfl (.bool true) (.int .i64 xid) (.string typ) (.slice pa pl pc)
      have hbb : Below w.heap.size w (putL u3 (w.heap.size + 1) 0 [.bool true, .int .i64 xid, .string typ, .slice pa pl pc]) := HK.out.trans ((putL_bel (w.heap.size + 1) _ _ u3).mono (by omega))
      generalize putL u3 (w.heap.size + 1) 0 [.bool true, .int .i64 xid, .string typ, .slice pa pl pc] = Y at E hbb ⊢
      have t0 := cell_of E 0
      have t1 := cell_of E 1
      have t2 := cell_of E 2
      have t3 := cell_of E 3
      simp at t0 t1 t2 t3
      exact bodyPost_ret (v := .tuple #[.agg #[.bool true, .int .i64 xid, .string typ, .slice pa pl pc], .bool true]) (by simp [results, Tryd.results26, go_sem, t0, t1, t2, t3]) rfl ⟨by rw [HRV.out.1, HRV.out.2], hbb⟩
    | false =>
      have hth : thingF N E id = none := by
        unfold thingF
        rw [HNN.out, find_no (hno rfl)]
        rfl
      have HRV : Hid (RV = .agg #[.bool false, .int .i64 0, .string ⟨#[]⟩, .slice none 0 0] ∧ RB = false) := by
        rw [HV.out, HVB.out, hth]
        exact ⟨rfl, rfl⟩
      have r0 := cell_of h2 0
      have r1 := cell_of h2 1
      have r2 := cell_of h2 2
      have r3 := cell_of h2 3
      have f0 := free_of h2 0
      have f1 := free_of h2 1
      have f2 := free_of h2 2
      have f3 := free_of h2 3
      simp at r0 r1 r2 r3
      have HBQ := toHid h2
      have HK := HB2
      clear hi hno h1 h2 k2 hth HD c1
      go_wp2_with fail
      have eP : ∀ X : World, (((X.setCell ⟨w.heap.size + 1, 0, none⟩ (.bool false)).setCell ⟨w.heap.size + 1, 1, none⟩ (.int .i64 0)).setCell ⟨w.heap.size + 1, 2, none⟩ (.string ⟨#[]⟩)).setCell ⟨w.heap.size + 1, 3, none⟩ (.slice none 0 0) = putL X (w.heap.size + 1) 0 [.bool false, .int .i64 0, .string ⟨#[]⟩, .slice none 0 0] := fun _ => rfl
      rw [eP]
      have E := box4 HBQ.out rfl (.bool false) (.int .i64 0) (.string ⟨#[]⟩) (.slice none 0 0)
      have hbb : Below w.heap.size w (putL u2 (w.heap.size + 1) 0 [.bool false, .int .i64 0, .string ⟨#[]⟩, .slice none 0 0]) := HK.out.trans ((putL_bel (w.heap.size + 1) _ _ u2).mono (by omega))
      generalize putL u2 (w.heap.size + 1) 0 [.bool false, .int .i64 0, .string ⟨#[]⟩, .slice none 0 0] = Y at E hbb ⊢
      have t0 := cell_of E 0
      have t1 := cell_of E 1
      have t2 := cell_of E 2
      have t3 := cell_of E 3
      simp at t0 t1 t2 t3
      exact bodyPost_ret (v := .tuple #[.agg #[.bool false, .int .i64 0, .string ⟨#[]⟩, .slice none 0 0], .bool false]) (by simp [results, Tryd.results26, go_sem, t0, t1, t2, t3]) rfl ⟨by rw [HRV.out.1, HRV.out.2], hbb⟩

theorem RightP.up {env : ByteArray → Option Th} : ∀ (d : Nat) (t : Tm), RightP env d t → RightP env (d + 1) t
  | 0, t, h => h.elim
  | d + 1, .node k v nmx A, h => by
    obtain ⟨hv, h⟩ := h
    refine ⟨hv, ?_⟩
    rcases h with h | h | ⟨h1, h2, x, h3, h4, h5⟩ | ⟨h1, h2, h3, h4⟩
    · exact .inl h
    · exact .inr (.inl h)
    · exact .inr (.inr (.inl ⟨h1, h2, x, h3, h4, RightP.up d x h5⟩))
    · exact .inr (.inr (.inr ⟨h1, h2, fun x hx => RightP.up d x (h3 x hx), h4⟩))

theorem RightP.le {env : ByteArray → Option Th} {d d' : Nat} (h : d ≤ d') {t : Tm} (ht : RightP env d t) : RightP env d' t := by
  induction h with
  | refl => exact ht
  | step _ ih => exact ih.up

/-- More steps say the same of a right term. -/
theorem evalF_up {env : ByteArray → Option Th} : ∀ (d : Nat) (t : Tm), RightP env d t → evalF env (d + 1) t = evalF env d t
  | 0, t, h => h.elim
  | d + 1, .node k v nmx A, h => by
    obtain ⟨hv, h⟩ := h
    have e1 : ∀ n, evalF env (n + 1) (.node k v nmx A) = if k = 1 then v else if k = 2 then tInt ((env nmx).getD Th.zero).id else if k = 3 then fstF env (propF nmx) A else callF env A (A.map (evalF env n)) (opOf nmx) := fun n => rfl
    rw [e1, e1]
    rcases h with ⟨h1, _⟩ | ⟨h1, _⟩ | ⟨h1, _⟩ | ⟨h1, h2, h3, h4⟩
    · rw [if_pos h1, if_pos h1]
    · simp [h1]
    · simp [h1]
    · have hm : A.map (evalF env (d + 1)) = A.map (evalF env d) := List.map_congr_left fun x hx => evalF_up d x (h3 x hx)
      rw [hm]

theorem evalF_le {env : ByteArray → Option Th} {d d' : Nat} (h : d ≤ d') {t : Tm} (ht : RightP env d t) : evalF env d' t = evalF env d t := by
  induction h with
  | refl => rfl
  | step hle ih => rw [evalF_up _ t (ht.le hle)]; exact ih

/-- What is bound, as the entries of a map. -/
def entsFrom : List (ByteArray × ThR) → Nat → List MapEntry
  | [], _ => []
  | p :: l, i => ⟨.string p.1, p.2.val, i⟩ :: entsFrom l (i + 1)

theorem ents_snoc : ∀ (l : List (ByteArray × ThR)) (i : Nat) (p : ByteArray × ThR), entsFrom (l ++ [p]) i = entsFrom l i ++ [⟨.string p.1, p.2.val, i + l.length⟩]
  | [], i, p => rfl
  | q :: l, i, p => by
    show _ :: entsFrom (l ++ [p]) (i + 1) = _ :: (entsFrom l (i + 1) ++ _)
    rw [ents_snoc l (i + 1) p, List.length_cons, show i + 1 + l.length = i + (l.length + 1) by omega]

theorem ents_keys : ∀ (l : List (ByteArray × ThR)) (i : Nat), StrKeys (entsFrom l i)
  | [], i => fun e he => by cases he
  | p :: l, i => fun e he => by
    rcases List.mem_cons.1 he with rfl | he
    · exact ⟨p.1, rfl⟩
    · exact ents_keys l (i + 1) e he

theorem ents_find (s : ByteArray) : ∀ (l : List (ByteArray × ThR)) (i : Nat), mfind s (entsFrom l i) = (l.find? (fun p => s == p.1)).map fun p => p.2.val
  | [], i => rfl
  | p :: l, i => by
    show (if (s == p.1) = true then some p.2.val else mfind s (entsFrom l (i + 1))) = _
    cases h : (s == p.1) with
    | true => rw [if_pos rfl, List.find?_cons_of_pos (by simp [h])]; rfl
    | false => rw [if_neg (by simp), List.find?_cons_of_neg (by simp [h])]; exact ents_find s l (i + 1)

/-- What names stand for, out of a list. -/
def envOf (l : List (ByteArray × Th)) (s : ByteArray) : Option Th := (l.find? (fun p => s == p.1)).map Prod.snd

/-- A bound name in both forms. -/
def BdIn (w : World) (p : ByteArray × ThR) (q : ByteArray × Th) : Prop := p.1 = q.1 ∧ ThIn w q.2 p.2.val

theorem bd_find {w : World} (s : ByteArray) : ∀ (l : List (ByteArray × ThR)) (m : List (ByteArray × Th)), Pair2 (BdIn w) l m → match m.find? (fun p => s == p.1) with
    | some q => ∃ p, l.find? (fun p => s == p.1) = some p ∧ ThIn w q.2 p.2.val
    | none => l.find? (fun p => s == p.1) = none
  | [], m, h => by
    have : m = [] := List.length_eq_zero_iff.1 h.1.symm
    subst this
    rfl
  | p :: l, [], h => by have := h.1; simp at this
  | p :: l, q :: m, h => by
    have h0 : BdIn w p q := h.2 0 p q rfl rfl
    have ht : Pair2 (BdIn w) l m := ⟨by have := h.1; simpa using this, fun i x y hx hy => h.2 (i + 1) x y (by simpa using hx) (by simpa using hy)⟩
    cases hs : (s == q.1) with
    | true =>
      have hs' : (s == p.1) = true := by rw [h0.1]; exact hs
      rw [List.find?_cons_of_pos (by simpa using hs)]
      exact ⟨p, List.find?_cons_of_pos (by simpa using hs'), h0.2⟩
    | false =>
      have hs' : (s == p.1) = false := by rw [h0.1]; exact hs
      rw [List.find?_cons_of_neg (by simp [hs]), List.find?_cons_of_neg (by simp [hs'])]
      exact bd_find s l m ht

/-- A map that was filled so holds them. -/
theorem names_at {w : World} {m : Nat} {l : List (ByteArray × ThR)} {q : List (ByteArray × Th)} (h : w.heap[m]? = some (.map (entsFrom l 0).toArray l.length)) (hp : Pair2 (BdIn w) l q) : NamesAt w m (envOf q) := by
  refine ⟨_, _, h, by simpa using ents_keys l 0, fun s => ?_⟩
  have hf := bd_find s l q hp
  have he := ents_find s l 0
  cases hq : q.find? (fun p => s == p.1) with
  | none =>
    rw [hq] at hf
    have hf : l.find? (fun p => s == p.1) = none := hf
    have e : envOf q s = none := by unfold envOf; rw [hq]; rfl
    rw [e]
    show mfind s (entsFrom l 0).toArray.toList = none
    rw [List.toList_toArray, he, hf]
    rfl
  | some y =>
    rw [hq] at hf
    obtain ⟨p, hf, hin⟩ := hf
    have e : envOf q s = some y.2 := by unfold envOf; rw [hq]; rfl
    rw [e]
    refine ⟨p.2.val, ?_, hin⟩
    rw [List.toList_toArray, he, hf]
    rfl

/-- Names bound, one after another: the error, and what is bound. -/
def bindF (N : List Nd) (E : List Ed) : List ByteArray → List Int → List (ByteArray × ThR) → Int × List (ByteArray × ThR)
  | [], _, l => (0, l)
  | s :: ss, ids, l =>
    if (l.find? (fun p => s == p.1)).isSome = true then (7, [])
    else match thingF N E (ids.headD 0) with
      | none => (5, [])
      | some x => bindF N E ss ids.tail (l ++ [(s, x)])
end Go.Proofs.YtfjlpjemccllaaaDoor
