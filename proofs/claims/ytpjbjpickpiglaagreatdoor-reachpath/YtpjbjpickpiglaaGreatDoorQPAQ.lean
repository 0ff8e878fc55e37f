/-
  What is proved here: what the texts RPLawM, RPLawO prove, in one text.
-/
import Derived.Test.YtpjbjpickpiglaaGreatDoorQPAP
namespace Go.Proofs.YtpjbjpickpiglaaGreatDoor
open Go.RowKit
set_option linter.unusedVariables false

set_option linter.unusedSimpArgs false

theorem wys_one (w : World) : WysAt (w.alloc (.cells #[.slice none 0 0] 26)) [⟨[], none, 0, 0⟩] (some ⟨w.heap.size, 0, none⟩) 1 := by
  refine ⟨rfl, by decide, fun _ => ⟨w.heap.size, 0, rfl, by simp, fun k x hx => ?_⟩, fun x hx => ?_⟩
  · cases k with
    | zero =>
      simp at hx
      subst hx
      exact cell_of (alloc_new w (.cells #[.slice none 0 0] 26)) 0
    | succ k => simp at hx
  · rw [List.mem_singleton] at hx
    subst hx
    exact ⟨rfl, by decide, fun h => absurd h (by decide)⟩

theorem cells_not_map {w : World} {b o : Nat} {v : Value} (h : w.cell? ⟨b, o, none⟩ = some v) {m : Nat} {f : Int → Option Value} (hm : MapI w m f) : b ≠ m := by
  intro e
  subst e
  obtain ⟨es, clk, hr, _⟩ := hm
  simp [World.cell?, hr] at h

/-- Another map in the map's place: the rows beside it stay. -/
theorem LongOk.onMap {B : Nat} {D : List Wy} {v : Value} {w : World} {m : Nat} {o : Obj} (h : LongOk B D v w) (hB : m < B) (hm : ∀ y ∈ D, ∀ ad, 0 < y.l → y.a = some ad → ad.block ≠ m) : LongOk B D v (putB w m o) := by
  refine ⟨rowKw h.row fun g hg => putB_other _ _ _ _ (by have := (rowLw h.row hg).1; omega), fun y hy => ?_⟩
  obtain ⟨⟨h1, h2, h3⟩, h4⟩ := h.lie y hy
  refine ⟨⟨h1, h2, fun h0 => ?_⟩, h4⟩
  obtain ⟨b, off, ha, hb, hc⟩ := h3 h0
  have hne : b ≠ m := hm y hy _ h0 ha
  exact ⟨b, off, ha, by rw [putB_size]; exact hb, fun k x hx => (World.cell?_of_block (w := w) (w' := putB w m o) (a := ⟨b, off + k, none⟩) (putB_other _ _ _ _ hne)).trans (hc k x hx)⟩

theorem long_map {B : Nat} {D : List Wy} {v : Value} {w : World} {m : Nat} {f : Int → Option Value} (h : LongOk B D v w) (hm : MapI w m f) : ∀ y ∈ D, ∀ ad, 0 < y.l → y.a = some ad → ad.block ≠ m := by
  intro y hy ad h0 ha
  obtain ⟨⟨h1, h2, h3⟩, h4⟩ := h.lie y hy
  obtain ⟨b, off, ha', hb, hc⟩ := h3 h0
  rw [ha] at ha'
  injection ha' with e
  have hL : 0 < y.L.length := by omega
  have := hc 0 _ (List.getElem?_eq_getElem hL)
  rw [e]
  exact cells_not_map this hm

theorem look_seen {w : World} {m : Nat} {i : Int} {ws : List (List Ed)} (h : MapI w m (seenV i ws)) (d : Int) (b : Bool) (hb : b = decide (d ∈ ws.map (wEnd i))) : (Instr.lookup 38 (.map (some m)) (.int .i64 d) false).run Tryz.prog w = .ok (.bool b) w := by
  have h1 := run_lookup_int (P := Tryz.prog) Tryz.underlying38 Tryz.underlying3 h d (zero_boolP w) false
  rw [h1, hb]
  unfold seenV
  by_cases hd : d ∈ ws.map (wEnd i)
  · simp [hd]
  · simp [hd]

theorem put_seen {w : World} {m : Nat} {i : Int} {ws : List (List Ed)} (h : MapI w m (seenV i ws)) (v : List Ed) (d : Int) (hd : d = wEnd i v) : ∃ o, (Instr.mapUpdate 38 (.map (some m)) (.int .i64 d) (.bool true)).run Tryz.prog w = .ok () (putB w m o) ∧ ∀ w' : World, w'.heap[m]? = some o → MapI w' m (seenV i (ws ++ [v])) := by
  obtain ⟨o, h1, h2⟩ := run_update_int (P := Tryz.prog) Tryz.underlying38 Tryz.underlying3 h d (.bool true)
  refine ⟨o, h1, fun w' hw' => ?_⟩
  have := h2 w' hw'
  rw [hd, seen_add] at this
  exact this

theorem ints_info0 : (Tryz.prog.info? 26).map (fun i => (i.zero, i.size, i.bytes)) = some (some (.slice none 0 0), 1, 24) := by kernel_rfl

theorem ints_info : ∃ i, Tryz.prog.info? 26 = some i ∧ i.zero = some (.slice none 0 0) ∧ i.size = 1 ∧ i.bytes = 24 := by
  have h := ints_info0
  cases hi : Tryz.prog.info? 26 with
  | none => rw [hi] at h; cases h
  | some i =>
    rw [hi] at h
    simp at h
    exact ⟨i, rfl, h.1, h.2.1, h.2.2⟩

theorem wayF_len (E : List Ed) (kind : ByteArray) (d : Int) : (wayF E kind d).length ≤ E.length := List.length_filter_le _ _

theorem ext_len (E : List Ed) (kind : ByteArray) (i : Int) (ws : List (List Ed)) : (extW (wayF E kind) i (firstsW i ws [])).length ≤ E.length := by
  have h := (firsts_ends i ws []).1
  have h1 := ways_len kind _ E h
  have e : (extW (wayF E kind) i (firstsW i ws [])).length = (((firstsW i ws []).map (wEnd i)).flatMap (wayF E kind)).length := by
    unfold extW
    rw [List.flatMap_map, List.length_flatMap, List.length_flatMap]
    simp
  omega

theorem row_lower {w : World} {B B' n size : Nat} {e : TypeId} {v : Value} {xs : List Value} (h : w.ownsRow B e size v n xs) (hB : B' ≤ B) : w.ownsRow B' e size v n xs := by
  refine ⟨h.1, ?_⟩
  rcases h.2 with h0 | ⟨g, cap, cur, e1, e2, e3⟩
  · exact .inl h0
  · exact .inr ⟨g, cap, cur, e1, Nat.le_trans hB e2, e3⟩

/-- A row of numbers with one more. -/
theorem way_made {w : World} {B : Nat} {v : Value} {L : List Int} {x : Int} (h : w.ownsRow B 3 1 v (L.length + 1) (ints L ++ [.int .i64 x])) (hl : L.length ≤ 1000) : ∃ a c, v = .slice a (L.length + 1) c ∧ IntsAt w (L ++ [x]) a (L.length + 1) := by
  have e1 : (L ++ [x]).length = L.length + 1 := by simp
  have e2 : ints (L ++ [x]) = ints L ++ [.int .i64 x] := by simp [ints]
  have h3 := ints_of_row (w := w) (B := B) (v := v) (L := L ++ [x]) (by rw [e1, e2]; exact h) (by rw [e1]; omega)
  rw [e1] at h3
  exact h3

theorem intsB_new {w : World} {B : Nat} {a : Option Addr} {n l c : Nat} {L : List Int} {xs : List Value} {o : Option Nat} (h : IntsAt w L a l) (hr : w.ownsRow B 3 1 (.slice a l c) n xs) (ho : ∀ g, o = some g → g < B) : IntsB w o L a l := by
  refine ⟨h, fun h0 ad ha e => ?_⟩
  have h1 := ho _ e
  have h2 : (Value.slice a l c).ownBlock = some ad.block := by
    rw [ha]
    rfl
  have := (rowLw hr h2).1
  omega

theorem find_at {α : Type} (p : α → Bool) : ∀ (L : List α) (t : Nat) (u : α), (∀ k x, k < t → L[k]? = some x → p x = false) → L[t]? = some u → p u = true → L.find? p = some u
  | [], t, u, _, h, _ => by simp at h
  | y :: L, 0, u, _, h, hp => by
    simp at h
    subst h
    simp [hp]
  | y :: L, t + 1, u, hn, h, hp => by
    rw [List.find?_cons, hn 0 y (by omega) rfl]
    exact find_at p L t u (fun k x hk hx => hn (k + 1) x (by omega) (by simpa using hx)) (by simpa using h) hp

/-- A way's last edge is one of the graph. -/
theorem wlk_last {E : List Ed} {kind : ByteArray} {i : Int} {w : List Ed} (h : Wlk (wayF E kind) i w) (hne : w ≠ []) : ∃ u x, w = u ++ [x] ∧ x ∈ E ∧ wEnd i w = x.dst := by
  cases h with
  | nil => exact absurd rfl hne
  | snoc u x hu hx => exact ⟨u, x, rfl, ((mem_way E kind _ x).1 hx).1, wEnd_snoc ..⟩

theorem take_snoc {α : Type} {L : List α} {j : Nat} {x : α} (h : L[j]? = some x) : L.take (j + 1) = L.take j ++ [x] := by rw [List.take_add_one, h, Option.toList_some]

/-- What is made of one way more. -/
theorem ext_step (E : List Ed) (kind : ByteArray) (i : Int) (ws : List (List Ed)) (j : Nat) (v : List Ed) (h : ws[j]? = some v) : extW (wayF E kind) i (firstsW i (ws.take (j + 1)) []) = extW (wayF E kind) i (firstsW i (ws.take j) []) ++ if wEnd i v ∈ (ws.take j).map (wEnd i) then [] else (wayF E kind (wEnd i v)).map fun x => v ++ [x] := by
  rw [take_snoc h, firsts_snoc]
  simp only [List.not_mem_nil, false_or]
  by_cases hv : wEnd i v ∈ (ws.take j).map (wEnd i)
  · rw [if_pos hv, if_pos hv, List.append_nil, List.append_nil]
  · rw [if_neg hv, if_neg hv, ext_snoc]

theorem wayE_step (E : List Ed) (kind : ByteArray) (d : Int) (k : Nat) (x : Ed) (h : E[k]? = some x) : wayF (E.take (k + 1)) kind d = wayF (E.take k) kind d ++ if decide (x.frm = d) && goesB kind x then [x] else [] := by
  unfold wayF
  rw [take_snoc h, List.filter_append]
  congr 1
  by_cases hx : (decide (x.frm = d) && goesB kind x) = true
  · rw [if_pos hx, List.filter_cons, if_pos hx, List.filter_nil]
  · rw [if_neg hx, List.filter_cons, if_neg hx, List.filter_nil]

set_option linter.unusedSimpArgs false

set_option maxHeartbeats 8000000 in
set_option maxRecDepth 100000 in
theorem law_path_no (N : List Nd) (E : List Ed) (na : Option Addr) (nl nc : Nat) (ea : Option Addr) (el ec : Nat) (nx : Int) (kind : ByteArray) (i tgt : Int) (w : World) (h : GrOk w N E na nl ea el) (hg : gE N E nx = 0) (hr : ¬ Rch (wayF E kind) i tgt) :
    Calls Tryz.prog 3 #[.agg #[.slice na nl nc, .slice ea el ec, .int .i64 nx], .string kind, .int .i64 i, .int .i64 tgt] w fun e w' => e = .returned (.bool true) ∧ Below w.heap.size w w' := by
  have hb0 : Below w.heap.size w (w.alloc (.cells #[.slice na nl nc, .slice ea el ec, .int .i64 nx] 25)) := (Below.refl _ _).alloc (Nat.le_refl _) _
  have HB := toHid hb0
  have HG := toHid (alloc_new w (.cells #[.slice na nl nc, .slice ea el ec, .int .i64 nx] 25))
  have HCK : Hid (∀ X, Below w.heap.size w X → Calls Tryz.prog 5 #[.agg #[.slice na nl nc, .slice ea el ec, .int .i64 nx]] X fun e w' => e = .returned (.int .i64 0) ∧ Below X.heap.size X w') := fun X kx => by
    have := checkGraph_ok h nc ec nx X kx
    rw [hg] at this
    exact this
  clear hb0
  have HA : Hid (∀ X, Below w.heap.size w X → Calls Tryz.prog 4 #[.agg #[.slice na nl nc, .slice ea el ec, .int .i64 nx], .string kind, .int .i64 i, .int .i64 tgt] X fun e w' => e = .returned (.tuple #[.slice none 0 0, .int .i64 5]) ∧ Below X.heap.size X w') := fun X kx => path_no h hg nc ec kind i tgt hr X kx
  have HND : Hid (∀ id, id ∈ N.map Nd.id → ∀ X, Below w.heap.size w X → Calls Tryz.prog 7 #[.agg #[.slice na nl nc, .slice ea el ec, .int .i64 nx], .int .i64 id] X fun e w' => (∃ ad : Addr, e = .returned (.pointer (some ad))) ∧ Below X.heap.size X w') := fun id hid X kx => node_there h nc ec nx id hid X kx
  have HNL : Hid (∀ id, id ∉ N.map Nd.id → ∀ X, Below w.heap.size w X → Calls Tryz.prog 7 #[.agg #[.slice na nl nc, .slice ea el ec, .int .i64 nx], .int .i64 id] X fun e w' => e = .returned (.pointer none) ∧ Below X.heap.size X w') := fun id hid X kx => node_lacks h nc ec nx id hid X kx
  have HRM : Hid (∀ X, Below w.heap.size w X → Calls Tryz.prog 8 #[.agg #[.slice na nl nc, .slice ea el ec, .int .i64 nx], .string kind] X fun e w' => ∃ m, e = .returned (.map (some m)) ∧ (Instr.lookup 34 (.map (some m)) (.agg #[.int .i64 i, .int .i64 tgt]) false).run Tryz.prog w' = .ok (.bool false) w' ∧ Below X.heap.size X w') := fun X kx => reached_in h hg nc ec kind i tgt false (by simp [hr]) X kx
  have hnn : ∀ w, (binOp .eql 32 (.pointer none) (.pointer none)).run Tryz.prog w = .ok (.bool true) w := nilP_none
  have hns : ∀ w (ad : Addr), (binOp .eql 32 (.pointer (some ad)) (.pointer none)).run Tryz.prog w = .ok (.bool false) w := nilP_some
  clear h hg hr
  go_enter Tryz.func3, Tryz.ntmps3
  go_upto_region 1 with fail
  generalize w.alloc (.cells #[.slice na nl nc, .slice ea el ec, .int .i64 nx] 25) = X at HB HG ⊢
  have x0 := cell_of HG.out 0
  have x1 := cell_of HG.out 1
  have x2 := cell_of HG.out 2
  simp at x0 x1 x2
  have hl0 : w.heap.size < X.heap.size := blk_lt HG.out
  go_wp2_with fail
  refine (HA.out X HB.out).mono ?_
  rintro e w1 ⟨rfl, k1⟩
  have HB1 := toHid (below2 HB.out k1)
  have HG1 := toHid ((k1.block _ hl0).trans HG.out)
  clear x0 x1 x2 k1 hl0
  have x0 := cell_of HG1.out 0
  have x1 := cell_of HG1.out 1
  have x2 := cell_of HG1.out 2
  simp at x0 x1 x2
  have hl1 : w.heap.size < w1.heap.size := blk_lt HG1.out
  go_wp2_with fail
  refine (HCK.out w1 HB1.out).mono ?_
  rintro e w2 ⟨rfl, k2⟩
  have HB2 := toHid (below2 HB1.out k2)
  have HG2 := toHid ((k2.block _ hl1).trans HG1.out)
  clear x0 x1 x2 k2 hl1
  go_wp2_with fail
  refine (reached_true _).mono ?_
  rintro e w3 ⟨rfl, k3⟩
  have HB3 := toHid (below2 HB2.out k3)
  have HG3 := toHid ((k3.block _ (blk_lt HG2.out)).trans HG2.out)
  clear k3
  have x0 := cell_of HG3.out 0
  have x1 := cell_of HG3.out 1
  have x2 := cell_of HG3.out 2
  simp at x0 x1 x2
  have hl3 : w.heap.size < w3.heap.size := blk_lt HG3.out
  go_wp2_with fail
  by_cases hi : i ∈ N.map Nd.id
  case neg =>
    refine (HNL.out i hi w3 HB3.out).mono ?_
    rintro e w4 ⟨rfl, k4⟩
    have HB4 := toHid (below2 HB3.out k4)
    clear x0 x1 x2 k4 hl3
    go_wp2_with fail
    go_ret
    exact ⟨rfl, HB4.out⟩
  refine (HND.out i hi w3 HB3.out).mono ?_
  rintro e w4 ⟨⟨ad, rfl⟩, k4⟩
  have HB4 := toHid (below2 HB3.out k4)
  have HG4 := toHid ((k4.block _ hl3).trans HG3.out)
  clear x0 x1 x2 k4 hl3
  have x0 := cell_of HG4.out 0
  have x1 := cell_of HG4.out 1
  have x2 := cell_of HG4.out 2
  simp at x0 x1 x2
  have hl4 : w.heap.size < w4.heap.size := blk_lt HG4.out
  go_wp2_with fail
  by_cases ht : tgt ∈ N.map Nd.id
  case neg =>
    refine (HNL.out tgt ht w4 HB4.out).mono ?_
    rintro e w5 ⟨rfl, k5⟩
    have HB5 := toHid (below2 HB4.out k5)
    clear x0 x1 x2 k5 hl4
    go_wp2_with fail
    go_ret
    exact ⟨rfl, HB5.out⟩
  refine (HND.out tgt ht w4 HB4.out).mono ?_
  rintro e w5 ⟨⟨ad', rfl⟩, k5⟩
  have HB5 := toHid (below2 HB4.out k5)
  have HG5 := toHid ((k5.block _ hl4).trans HG4.out)
  clear x0 x1 x2 k5 hl4
  have x0 := cell_of HG5.out 0
  have x1 := cell_of HG5.out 1
  have x2 := cell_of HG5.out 2
  simp at x0 x1 x2
  have hl5 : w.heap.size < w5.heap.size := blk_lt HG5.out
  go_wp2_with fail
  refine (HRM.out w5 HB5.out).mono ?_
  rintro e w6 ⟨m, rfl, hlk, k6⟩
  have HB6 := toHid (below2 HB5.out k6)
  clear x0 x1 x2 k6 hl5
  go_wp2_with fail
  go_ret
  exact ⟨rfl, HB6.out⟩
end Go.Proofs.YtpjbjpickpiglaaGreatDoor
