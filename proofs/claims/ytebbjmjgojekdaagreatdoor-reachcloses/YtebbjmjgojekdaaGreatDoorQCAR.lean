/-
  What is proved here: what the texts RPairsW, RReachM, RChangeP prove, in one text.
-/
import Derived.Test.YtebbjmjgojekdaaGreatDoorQCAQ
import Derived.Deep.RegionLaw
import Derived.Deep.LoopGhost
import Derived.Test.YtebbjmjgojekdaaGreatDoorQCAP
namespace Go.Proofs.YtebbjmjgojekdaaGreatDoor
open Go.RowKit
set_option linter.unusedVariables false

set_option linter.unusedSimpArgs false

theorem sortP_perm {M K : List (Int × Int)} (h : M.Perm K) : sortP M = sortP K := sorted_one ((List.mergeSort_perm M _).trans h) ((sortP_rises M).imp fun h => by simpa using h)

set_option maxHeartbeats 4000000 in
set_option maxRecDepth 100000 in
theorem pairsM_any (w : World) (r : Nat) (K : List (Int × Int)) (h : MapB w r K) (hl : K.length ≤ 1000000) :
    Calls Tryz.prog 11 #[.map (some r)] w fun e w' => ∃ v, e = .returned v ∧ w'.ownsRow w.heap.size 33 2 v K.length (pcells (sortP K)) ∧ Below w.heap.size w w' := by
  obtain ⟨i0, hi0, hz0, hs0, hb0⟩ := pair_info
  have h1 : MapB (w.alloc (.cells #[.slice none 0 0] 26)) r K := h.of (Below.heap_alloc _ _ _ h.lt)
  obtain ⟨o, hrg, hr0⟩ := run_range_b h1
  have ez : (w.alloc (.cells #[.slice none 0 0] 26)).heap.size = w.heap.size + 1 := by simp
  rw [ez] at hrg hr0
  have HB0 : Hid (Below w.heap.size w ((w.alloc (.cells #[.slice none 0 0] 26)).alloc o)) := ((Below.refl _ _).alloc (Nat.le_refl _) _).alloc (by simp) _
  have HX0 : Hid (((w.alloc (.cells #[.slice none 0 0] 26)).alloc o).heap[w.heap.size]? = some (.cells #[.slice none 0 0] 26 (0, 0))) := (Below.heap_alloc _ _ _ (by simp)).trans (alloc_new w _)
  have HR0 := toHid hr0
  have HRL : Hid (r < w.heap.size) := h.lt
  clear h h1 hr0 ez
  go_enter Tryz.func11, Tryz.ntmps11
  go_wp2_with fail
  clear hrg
  go_loopg [4] K.length (fun g s4 wr => ∃ (D : List (Int × Int)) (va : Option Addr) (n cap : Nat), K.length - D.length ≤ g ∧ RgB wr r (w.heap.size + 1) K D ∧ wr.heap[w.heap.size]? = some (.cells #[.slice va n cap] 26 (0, 0)) ∧ wr.ownsRow (w.heap.size + 2) 33 2 (.slice va n cap) D.length (pcells D) ∧ Below w.heap.size w wr)
  case atStart => exact ⟨[], none, 0, 0, Nat.sub_le _ _, HR0.out, HX0.out, World.ownsRow_nil _ _ _ _, HB0.out⟩
  case round =>
    clear HR0 HX0 HB0
    obtain ⟨D, va, n, cap, hg, hrg, hbx, hrow, hbw⟩ := hrel
    have HRG := toHid hrg
    have HBX := toHid hbx
    have HROW := toHid hrow
    have HBW := toHid hbw
    clear hrg hbx hrow hbw
    rcases run_next_b HRG.out with ⟨hnx, hpm⟩ | ⟨p, w1, hnx, hrg1, hoth, hsz1, hbe1, hen⟩
    · have HPM := toHid hpm
      have hdl : D.length ≤ 1000000 := by rw [hpm.length_eq]; exact hl
      have r0 := cell_of HBX.out 0
      simp at r0
      have hlt : w.heap.size < wr.heap.size := blk_lt HBX.out
      have HSL := toHid (sliceP_any wr (w.heap.size + 2) va n cap D w.heap.size HROW.out hdl HBX.out (by omega))
      clear hpm
      go_wp2_with fail
      refine HSL.out.mono ?_
      rintro e w2 ⟨rfl, hr2, hg2⟩
      have hbx2 : w2.heap[w.heap.size]? = some (.cells #[.slice va n cap] 26 (0, 0)) := (hg2.block _ hlt (fun e => by have := (HROW.out.lt _ e.symm).1; omega)).trans HBX.out
      have r2 := cell_of hbx2 0
      simp at r2
      have hlt2 : w.heap.size < w2.heap.size := blk_lt hbx2
      have HR2 := toHid hr2
      have HB2 := toHid (HBW.out.grown hg2 (by omega) (fun k hk => by have := (HROW.out.lt k hk).1; omega))
      clear r0 hnx hr2 hg2 hbx2
      go_wp2_with fail
      go_ret
      refine ⟨_, rfl, ?_, HB2.out⟩
      have h4 := HR2.out
      rw [sortP_perm HPM.out, HPM.out.length_eq] at h4
      exact row_up h4 (by omega)
    · have hlen := hrg1.len
      rw [List.length_append, List.length_singleton] at hlen
      have hbx1 : w1.heap[w.heap.size]? = some (.cells #[.slice va n cap] 26 (0, 0)) := (hoth _ (by omega)).trans HBX.out
      have hrow1 : w1.ownsRow (w.heap.size + 2) 33 2 (.slice va n cap) D.length (pcells D) := row_kept1 HROW.out fun g hg => hoth g (by have := (HROW.out.lt g hg).1; omega)
      have hbw1 : Below w.heap.size w w1 := HBW.out.trans (hbe1 _ (by omega))
      have HRG1 := toHid hrg1
      have HBX1 := toHid hbx1
      have HROW1 := toHid hrow1
      have HBW1 := toHid hbw1
      have hit : w.heap.size + 1 < w1.heap.size := hrg1.lt.2
      clear hrg1 hoth hsz1 hbe1 hbx1 hrow1 hbw1 HRG HBX HROW HBW
      obtain ⟨p1, p2⟩ := p
      go_upto_region 5 with fail
      clear hnx hen
      have HPX := toHid (alloc_new w1 (.cells #[.int .i64 p1, .int .i64 p2] 33))
      have HRG2 : Hid (RgB (w1.alloc (.cells #[.int .i64 p1, .int .i64 p2] 33)) r (w.heap.size + 1) K (D ++ [(p1, p2)])) := HRG1.out.of (Below.heap_alloc _ _ _ HRG1.out.lt.1) (Below.heap_alloc _ _ _ HRG1.out.lt.2)
      have HBX2 : Hid ((w1.alloc (.cells #[.int .i64 p1, .int .i64 p2] 33)).heap[w.heap.size]? = some (.cells #[.slice va n cap] 26 (0, 0))) := (Below.heap_alloc _ _ _ (blk_lt HBX1.out)).trans HBX1.out
      have HROW2 : Hid ((w1.alloc (.cells #[.int .i64 p1, .int .i64 p2] 33)).ownsRow (w.heap.size + 2) 33 2 (.slice va n cap) D.length (pcells D)) := row_kept1 HROW1.out fun g hg => Below.heap_alloc _ _ _ (HROW1.out.lt g hg).2
      have HBW2 := toHid (HBW1.out.alloc HBW1.out.size (.cells #[.int .i64 p1, .int .i64 p2] 33))
      generalize w1.alloc (.cells #[.int .i64 p1, .int .i64 p2] 33) = Wp at HPX HRG2 HBX2 HROW2 HBW2 ⊢
      have hpl : w1.heap.size < Wp.heap.size := blk_lt HPX.out
      generalize w1.heap.size = pb at HPX hpl hit ⊢
      have y0 := cell_of HPX.out 0
      have y1 := cell_of HPX.out 1
      have r0 := cell_of HBX2.out 0
      simp at y0 y1 r0
      have hbl : w.heap.size < Wp.heap.size := blk_lt HBX2.out
      obtain ⟨nn, hnn⟩ : ∃ nn, nn = D.length := ⟨_, rfl⟩
      have HNN := toHid hnn
      have hnl : nn ≤ 1000000 := by omega
      have HR3 : Hid ((Wp.alloc (.cells #[.int .i64 p1, .int .i64 p2] 33)).ownsRow (w.heap.size + 2) 33 2 (.slice va n cap) nn (pcells D)) := by
        rw [hnn]
        exact row_kept1 HROW2.out fun g hg => Below.heap_alloc _ _ _ (HROW2.out.lt g hg).2
      have HN3 := toHid (alloc_new Wp (.cells #[.int .i64 p1, .int .i64 p2] 33))
      have HB3 := toHid (HBW2.out.alloc HBW2.out.size (.cells #[.int .i64 p1, .int .i64 p2] 33))
      have HBX3 : Hid ((Wp.alloc (.cells #[.int .i64 p1, .int .i64 p2] 33)).heap[w.heap.size]? = some (.cells #[.slice va n cap] 26 (0, 0))) := (Below.heap_alloc _ _ _ (blk_lt HBX2.out)).trans HBX2.out
      have HRG3 : Hid (RgB (Wp.alloc (.cells #[.int .i64 p1, .int .i64 p2] 33)) r (w.heap.size + 1) K (D ++ [(p1, p2)])) := HRG2.out.of (Below.heap_alloc _ _ _ HRG2.out.lt.1) (Below.heap_alloc _ _ _ HRG2.out.lt.2)
      clear hnn
      go_wp2_with (at_builtin; refine wpList_append_both _ (by rfl) _ _ _ (by rfl) (w.heap.size + 2) 33 i0 _ 2 16 Tryz.underlying26 hi0 hz0 hs0 hb0 rfl (by omega) (.slice va n cap) nn (pcells D) (by rfl) HR3.out (some ⟨Wp.heap.size, 0, none⟩) 1 1 [.int .i64 p1, .int .i64 p2] (by rfl) (by rfl) (fun q u hu => ⟨_, rfl, World.news_of_block (cs := #[.int .i64 p1, .int .i64 p2]) (t := 33) (fr := (0, 0)) HN3.out q u hu⟩) (by simp [Value.oneCell']) (by unfold maxLen; omega) (by omega) (by simp; omega) ?_; intro v' w3 hown1 hgrow hob; have hbx3 : w3.heap[w.heap.size]? = some (.cells #[.slice va n cap] 26 (0, 0)) := (hgrow.block _ (blk_lt HBX3.out) (fun e => by have := (HR3.out.lt _ e.symm).1; omega)).trans HBX3.out; have r3 := cell_of hbx3 0; have f3 := free_of hbx3 0; simp at r3; obtain ⟨gg, cc, rfl, hgg, _⟩ := hown1.form (by omega))
      have hox : ∀ j, j ≠ w.heap.size → (w3.setCell ⟨w.heap.size, 0, none⟩ (.slice (some ⟨gg, 0, none⟩) (nn + 1) cc)).heap[j]? = w3.heap[j]? := fun j hj => Below.heap_setCell _ _ _ j hj
      have hbf : (w3.setCell ⟨w.heap.size, 0, none⟩ (.slice (some ⟨gg, 0, none⟩) (nn + 1) cc)).heap[w.heap.size]? = some (.cells #[.slice (some ⟨gg, 0, none⟩) (nn + 1) cc] 26 (0, 0)) := set_one hbx3 _
      have hown2 : (w3.setCell ⟨w.heap.size, 0, none⟩ (.slice (some ⟨gg, 0, none⟩) (nn + 1) cc)).ownsRow (w.heap.size + 2) 33 2 (.slice (some ⟨gg, 0, none⟩) (nn + 1) cc) (nn + 1) (pcells D ++ [.int .i64 p1, .int .i64 p2]) := row_kept1 hown1 fun g hg => hox g (by have := (hown1.lt g hg).1; omega)
      have hk3 : ∀ j, j < (Wp.alloc (.cells #[.int .i64 p1, .int .i64 p2] 33)).heap.size → j < w.heap.size + 2 → w3.heap[j]? = (Wp.alloc (.cells #[.int .i64 p1, .int .i64 p2] 33)).heap[j]? := fun j hj h2 => hgrow.block j hj fun e => by have := (HR3.out.lt _ e.symm).1; omega
      have hrgf : RgB (w3.setCell ⟨w.heap.size, 0, none⟩ (.slice (some ⟨gg, 0, none⟩) (nn + 1) cc)) r (w.heap.size + 1) K (D ++ [(p1, p2)]) := HRG3.out.of ((hox r (by have := HRL.out; omega)).trans (hk3 r HRG3.out.lt.1 (by have := HRL.out; omega))) ((hox _ (by omega)).trans (hk3 _ HRG3.out.lt.2 (by omega)))
      have hbwf : Below w.heap.size w (w3.setCell ⟨w.heap.size, 0, none⟩ (.slice (some ⟨gg, 0, none⟩) (nn + 1) cc)) := (HB3.out.grown hgrow (by simp; omega) (fun k hk => by have := (HR3.out.lt k hk).1; omega)).setCell (p := ⟨w.heap.size, 0, none⟩) (Nat.le_refl _) _
      have HF1 := toHid hbf
      have HF2 := toHid hown2
      have HF3 := toHid hrgf
      have HF4 := toHid hbwf
      clear hbf hown2 hrgf hbwf hk3 hox hown1 hgrow hob hbx3 r3 f3 y0 y1 r0
      go_roundg (K.length - (D.length + 1))
      case measure => omega
      case rel =>
        refine ⟨D ++ [(p1, p2)], _, _, _, ?_, HF3.out, HF1.out, ?_, HF4.out⟩
        · rw [List.length_append, List.length_singleton]
          exact Nat.le_refl _
        · rw [pcells_snoc, List.length_append, List.length_singleton, ← HNN.out]
          exact HF2.out

/-- The memory of Reached: the set, and blocks that stay. -/
def Rs (w : World) (m : Nat) (P : List (Nat × Obj)) (K : List (Int × Int)) (X : World) : Prop := Below w.heap.size w X ∧ MapB X m K ∧ w.heap.size ≤ m ∧ ∀ q ∈ P, X.heap[q.1]? = some q.2 ∧ q.1 ≠ m

theorem Rs.lt {w : World} {m : Nat} {P : List (Nat × Obj)} {K : List (Int × Int)} {X : World} (h : Rs w m P K X) {q : Nat × Obj} (hq : q ∈ P) : q.1 < X.heap.size := (Array.getElem?_eq_some_iff.1 (h.2.2.2 q hq).1).1

theorem Rs.alloc {w : World} {m : Nat} {P : List (Nat × Obj)} {K : List (Int × Int)} {X : World} (h : Rs w m P K X) (o : Obj) : Rs w m ((X.heap.size, o) :: P) K (X.alloc o) := by
  refine ⟨h.1.alloc h.1.size _, h.2.1.of (Below.heap_alloc _ _ _ h.2.1.lt), h.2.2.1, fun q hq => ?_⟩
  rcases List.mem_cons.1 hq with rfl | hq
  · exact ⟨alloc_new X o, by have := h.2.1.lt; show X.heap.size ≠ m; omega⟩
  · exact ⟨(Below.heap_alloc _ _ _ (h.lt hq)).trans (h.2.2.2 q hq).1, (h.2.2.2 q hq).2⟩

theorem Rs.less {w : World} {m : Nat} {P P' : List (Nat × Obj)} {K : List (Int × Int)} {X : World} (h : Rs w m P K X) (hs : ∀ q ∈ P', q ∈ P) : Rs w m P' K X := ⟨h.1, h.2.1, h.2.2.1, fun q hq => h.2.2.2 q (hs q hq)⟩

theorem Rs.put {w : World} {m : Nat} {P : List (Nat × Obj)} {K : List (Int × Int)} {X : World} (h : Rs w m P K X) (a b : Int) : ∃ o, (Instr.mapUpdate 35 (.map (some m)) (.agg #[.int .i64 a, .int .i64 b]) (.bool true)).run Tryz.prog X = .ok () (putB X m o) ∧ Rs w m P (putS K (a, b)) (putB X m o) := by
  obtain ⟨o, h1, h2⟩ := run_update_b h.2.1 (a, b)
  exact ⟨o, h1, h.1.trans (putB_bel _ _ _ _ h.2.2.1), h2 _ (putB_here h.2.1.lt _), h.2.2.1, fun q hq => ⟨(putB_other _ _ _ _ (h.2.2.2 q hq).2).trans (h.2.2.2 q hq).1, (h.2.2.2 q hq).2⟩⟩

theorem Rs.ask {w : World} {m : Nat} {P : List (Nat × Obj)} {K : List (Int × Int)} {X : World} (h : Rs w m P K X) (a b : Int) : (Instr.lookup 35 (.map (some m)) (.agg #[.int .i64 a, .int .i64 b]) false).run Tryz.prog X = .ok (.bool (decide ((a, b) ∈ K))) X := run_lookup_b h.2.1 (a, b)

theorem take_fold {α β : Type} (f : β → α → β) (L : List α) (i : Nat) (x : α) (h : L[i]? = some x) (z : β) : (L.take (i + 1)).foldl f z = f ((L.take i).foldl f z) x := by
  rw [List.take_add_one, h, Option.toList_some, List.foldl_append]
  rfl

abbrev gObj (na : Option Addr) (nl nc : Nat) (ea : Option Addr) (el ec : Nat) (next : Int) : Obj := .cells #[.slice na nl nc, .slice ea el ec, .int .i64 next] 25
abbrev nObj (x : Nd) : Obj := .cells #[.int .i64 x.id, .slice x.la x.ll x.lc, .slice x.pa x.pl x.pc] 72

set_option maxHeartbeats 4000000 in
set_option maxRecDepth 100000 in
theorem reached_any (N : List Nd) (E : List Ed) (na : Option Addr) (nl nc : Nat) (ea : Option Addr) (el ec : Nat) (next : Int) (kind : ByteArray) (w : World) (hN : NodesAt w N na nl) (hE : EdgesAt w E ea el) (hl : el ≤ 1000) (hnl : nl ≤ 1000) :
    Calls Tryz.prog 12 #[.agg #[.slice na nl nc, .slice ea el ec, .int .i64 next], .string kind] w fun e w' => e = .returned (.map (some (w.heap.size + 1))) ∧ MapB w' (w.heap.size + 1) (reachedF E (N.map (·.id)) kind) ∧ Below w.heap.size w w' := by
  obtain ⟨hle, hmx, hat⟩ := hE
  have HL := toHid hle
  have HAT := toHid hat
  have HN := toHid hN
  clear hle hat hN
  have hmm : ∀ X : World, (Instr.makeMap 35 none).run Tryz.prog X = .ok (.map (some X.heap.size)) (X.alloc (.map #[] 0)) := fun X => rfl
  go_enter Tryz.func12, Tryz.ntmps12
  go_wp2_with fail
  go_loopg [18] el (fun g s18 wr => ∃ (i : Nat), i ≤ el ∧ el - i ≤ g ∧ s18 = .int .i64 i ∧ Rs w (w.heap.size + 1) [(w.heap.size, gObj na nl nc ea el ec next)] ((E.take i).foldl (edB kind) []) wr)
  case atStart =>
    refine ⟨0, Nat.zero_le _, by omega, rfl, ((Below.refl _ _).alloc (Nat.le_refl _) _).alloc (by simp) _, mapB_new (alloc_two w _ _), by omega, fun q hq => ?_⟩
    rw [List.mem_singleton] at hq
    subst hq
    exact ⟨(Below.heap_alloc _ _ _ (by simp)).trans (alloc_new w _), by show w.heap.size ≠ w.heap.size + 1; omega⟩
  case round =>
    obtain ⟨i, hi, hg, rfl, hrs⟩ := hrel
    have HR := toHid hrs
    clear hrs
    by_cases hlt : i < el
    · obtain ⟨b, off, ha, hb, hc⟩ := HAT.out (by omega)
      subst ha
      obtain ⟨x, hx, _⟩ := drop_get (L := E) (i := i) (by have := HL.out; omega)
      obtain ⟨hsz, c0, c1, c2, c3, c4⟩ := hc i x hx
      have qq : ∀ o, wr.cell? ⟨b, o, none⟩ = w.cell? ⟨b, o, none⟩ := fun o => HR.out.1.cell (p := ⟨b, o, none⟩) hb
      have d0 := (qq _).trans c0
      have d1 := (qq _).trans c1
      have d2 := (qq _).trans c2
      have d3 := (qq _).trans c3
      have d4 := (qq _).trans c4
      have HX := toHid hx
      clear hc hx c0 c1 c2 c3 c4 qq
      have hil : (i : Int) < el := by omega
      go_upto_region 5 with fail
      have HR1 := toHid (HR.out.alloc (.cells #[.int .i64 x.id, .int .i64 x.frm, .int .i64 x.dst, .string x.typ, .slice x.pa x.pl x.pc] 47))
      generalize wr.alloc (.cells #[.int .i64 x.id, .int .i64 x.frm, .int .i64 x.dst, .string x.typ, .slice x.pa x.pl x.pc] 47) = Wp at HR1 ⊢
      clear HR d0 d1 d2 d3 d4
      have HBX := (HR1.out.2.2.2 _ (List.mem_cons_self ..)).1
      have y1 := cell_of HBX 1
      have y2 := cell_of HBX 2
      have y3 := cell_of HBX 3
      simp at y1 y2 y3
      have hpl : wr.heap.size < Wp.heap.size := (Array.getElem?_eq_some_iff.1 HBX).1
      have HT := toHid (take_fold (edB kind) E i x HX.out [])
      cases hgo : goesB kind x with
      | false =>
        have hk1 : kind.toList.isEmpty = false := by
          cases h : kind.toList.isEmpty with
          | false => rfl
          | true => simp [goesB, h] at hgo
        have hk2 : (kind.toList == x.typ.toList) = false := by
          cases h : (kind.toList == x.typ.toList) with
          | false => rfl
          | true => simp [goesB, h] at hgo
        have hk2' : (x.typ.toList == kind.toList) = false := by rw [beq_eq_false_iff_ne] at hk2 ⊢; exact Ne.symm hk2
        have hk3 : ¬ kind.toList = [] := fun e => by rw [e] at hk1; cases hk1
        go_wp2_with fail
        go_roundg (el - (i + 1))
        case measure => omega
        case rel => exact ⟨i + 1, by omega, Nat.le_refl _, by go_num, by rw [HT.out]; unfold edB; rw [if_neg (by rw [hgo]; decide)]; exact HR1.out.less fun q hq => List.mem_cons_of_mem _ hq⟩
      | true =>
        have hk : (kind.toList = [] ∧ kind.toList.isEmpty = true) ∨ (¬ kind.toList = [] ∧ kind.toList.isEmpty = false ∧ (x.typ.toList == kind.toList) = true) := by
          cases h : kind.toList.isEmpty with
          | true => exact .inl ⟨List.isEmpty_iff.1 h, rfl⟩
          | false => exact .inr ⟨(fun e => by rw [e] at h; cases h), rfl, by have := hgo; simp [goesB, h] at this; simp [this]⟩
        obtain ⟨o, hup, hro⟩ := HR1.out.put x.frm x.dst
        have HRO := toHid hro
        clear hro
        rcases hk with ⟨hk1, hk2⟩ | ⟨hk1, hk2, hk3⟩
        all_goals
          go_wp2_with fail
          go_roundg (el - (i + 1))
          case measure => omega
          case rel => exact ⟨i + 1, by omega, Nat.le_refl _, by go_num, by rw [HT.out]; unfold edB; rw [if_pos hgo]; exact HRO.out.less fun q hq => List.mem_cons_of_mem _ hq⟩
    · have he : i = el := by omega
      subst he
      have hall : E.take i = E := List.take_of_length_le (by have := HL.out; omega)
      rw [hall] at HR
      have HF : Hid (reachedF E (N.map (·.id)) kind = (N.map (·.id)).foldl (wK (N.map (·.id))) (E.foldl (edB kind) [])) := rfl
      generalize E.foldl (edB kind) [] = K0 at HR HF
      have HB0 := (HR.out.2.2.2 _ (List.mem_cons_self ..)).1
      have g0 := cell_of HB0 0
      simp at g0
      have hgl : w.heap.size < wr.heap.size := (Array.getElem?_eq_some_iff.1 HB0).1
      clear HB0
      go_wp2_with fail
      go_loopg [40] nl (fun g s40 wr => ∃ (k : Nat), k ≤ nl ∧ nl - k ≤ g ∧ s40 = .int .i64 k ∧ Rs w (w.heap.size + 1) [(w.heap.size, gObj na nl nc ea i ec next)] (((N.map (·.id)).take k).foldl (wK (N.map (·.id))) K0) wr)
      case atStart => exact ⟨0, Nat.zero_le _, by omega, rfl, HR.out⟩
      case round =>
        clear HR g0 hgl
        obtain ⟨k, hk, hg, rfl, hrs⟩ := hrel
        have HR := toHid hrs
        clear hrs
        by_cases hlt : k < nl
        · skip
          obtain ⟨b, off, ha, hb, hc⟩ := HN.out.2.2 (by omega)
          subst ha
          have HNC := toHid (And.intro hb hc)
          obtain ⟨x, hx, _⟩ := drop_get (L := N) (i := k) (by have := HN.out.1; omega)
          obtain ⟨c0, c1, c2⟩ := hc k x hx
          have qq : ∀ o, wr.cell? ⟨b, o, none⟩ = w.cell? ⟨b, o, none⟩ := fun o => HR.out.1.cell (p := ⟨b, o, none⟩) hb
          have d0 := (qq _).trans c0
          have d1 := (qq _).trans c1
          have d2 := (qq _).trans c2
          have HXx : Hid ((N.map (·.id))[k]? = some x.id) := by show _ = _; rw [List.getElem?_map, hx]; rfl
          clear hb hc hx c0 c1 c2 qq
          have hil : (k : Int) < nl := by omega
          go_upto_region 11 with fail
          have HRx := toHid (HR.out.alloc (nObj x))
          generalize wr.alloc (nObj x) = Wp at HRx ⊢
          generalize wr.heap.size = pk at HRx ⊢
          clear HR d0 d1 d2
          have HTx := toHid (take_fold (wK (N.map (·.id))) (N.map (·.id)) k x.id HXx.out K0)
          generalize ((N.map (·.id)).take k).foldl (wK (N.map (·.id))) K0 = Kk at HRx HTx
          have HB0 := (HRx.out.2.2.2 _ (List.mem_cons_of_mem _ (List.mem_cons_self ..))).1
          have g0 := cell_of HB0 0
          simp at g0
          have hgl : w.heap.size < Wp.heap.size := (Array.getElem?_eq_some_iff.1 HB0).1
          clear HB0
          go_wp2_with fail
          go_loopg [47] nl (fun g s47 wr => ∃ (j : Nat), j ≤ nl ∧ nl - j ≤ g ∧ s47 = .int .i64 j ∧ Rs w (w.heap.size + 1) [(pk, nObj x), (w.heap.size, gObj (some ⟨b, off, none⟩) nl nc ea i ec next)] (((N.map (·.id)).take j).foldl (wA (N.map (·.id)) x.id) Kk) wr)
          case atStart => exact ⟨0, Nat.zero_le _, by omega, rfl, HRx.out⟩
          case round =>
            clear HRx g0 hgl
            obtain ⟨j, hj, hgj, rfl, hrs⟩ := hrel
            have HR := toHid hrs
            clear hrs
            by_cases hltj : j < nl
            · skip
              obtain ⟨hb, hc⟩ := HNC.out
              obtain ⟨y, hx, _⟩ := drop_get (L := N) (i := j) (by have := HN.out.1; omega)
              obtain ⟨c0, c1, c2⟩ := hc j y hx
              have qq : ∀ o, wr.cell? ⟨b, o, none⟩ = w.cell? ⟨b, o, none⟩ := fun o => HR.out.1.cell (p := ⟨b, o, none⟩) hb
              have d0 := (qq _).trans c0
              have d1 := (qq _).trans c1
              have d2 := (qq _).trans c2
              have HXy : Hid ((N.map (·.id))[j]? = some y.id) := by show _ = _; rw [List.getElem?_map, hx]; rfl
              clear hb hc hx c0 c1 c2 qq
              have hil : (j : Int) < nl := by omega
              go_upto_region 14 with fail
              have HRy := toHid (HR.out.alloc (nObj y))
              generalize wr.alloc (nObj y) = Wp at HRy ⊢
              generalize wr.heap.size = pj at HRy ⊢
              clear HR d0 d1 d2
              have HTy := toHid (take_fold (wA (N.map (·.id)) x.id) (N.map (·.id)) j y.id HXy.out Kk)
              generalize ((N.map (·.id)).take j).foldl (wA (N.map (·.id)) x.id) Kk = Ka at HRy HTy
              have HB1 := (HRy.out.2.2.2 _ (List.mem_cons_self ..)).1
              have HB2 := (HRy.out.2.2.2 _ (List.mem_cons_of_mem _ (List.mem_cons_self ..))).1
              have HB3 := (HRy.out.2.2.2 _ (List.mem_cons_of_mem _ (List.mem_cons_of_mem _ (List.mem_cons_self ..)))).1
              have y0 := cell_of HB1 0
              have x0 := cell_of HB2 0
              have g0 := cell_of HB3 0
              simp at y0 x0 g0
              have z1 : pj < Wp.heap.size := (Array.getElem?_eq_some_iff.1 HB1).1
              have z2 : pk < Wp.heap.size := (Array.getElem?_eq_some_iff.1 HB2).1
              have z3 : w.heap.size < Wp.heap.size := (Array.getElem?_eq_some_iff.1 HB3).1
              clear HB1 HB2 HB3
              have ask := HRy.out.ask y.id x.id
              by_cases hin : (y.id, x.id) ∈ Ka
              case neg =>
                rw [decide_eq_false hin] at ask
                go_wp2_with fail
                go_roundg (nl - (j + 1))
                case measure => omega
                case rel => exact ⟨j + 1, by omega, Nat.le_refl _, by go_num, by rw [HTy.out]; unfold wA; rw [if_neg hin]; exact HRy.out.less fun q hq => List.mem_cons_of_mem _ hq⟩
              rw [decide_eq_true hin] at ask
              go_wp2_with fail
              go_loopg [62] nl (fun g s62 wr => ∃ (t : Nat), t ≤ nl ∧ nl - t ≤ g ∧ s62 = .int .i64 t ∧ Rs w (w.heap.size + 1) [(pj, nObj y), (pk, nObj x), (w.heap.size, gObj (some ⟨b, off, none⟩) nl nc ea i ec next)] (((N.map (·.id)).take t).foldl (wB x.id y.id) Ka) wr)
              case atStart => exact ⟨0, Nat.zero_le _, by omega, rfl, HRy.out⟩
              case round =>
                clear HRy g0 x0 y0 z1 z2 z3 ask
                obtain ⟨t, ht, hgt, rfl, hrs⟩ := hrel
                have HR := toHid hrs
                clear hrs
                by_cases hltt : t < nl
                · skip
                  obtain ⟨hb, hc⟩ := HNC.out
                  obtain ⟨z, hx, _⟩ := drop_get (L := N) (i := t) (by have := HN.out.1; omega)
                  obtain ⟨c0, c1, c2⟩ := hc t z hx
                  have qq : ∀ o, wr.cell? ⟨b, o, none⟩ = w.cell? ⟨b, o, none⟩ := fun o => HR.out.1.cell (p := ⟨b, o, none⟩) hb
                  have d0 := (qq _).trans c0
                  have d1 := (qq _).trans c1
                  have d2 := (qq _).trans c2
                  have HXz : Hid ((N.map (·.id))[t]? = some z.id) := by show _ = _; rw [List.getElem?_map, hx]; rfl
                  clear hb hc hx c0 c1 c2 qq
                  have hil : (t : Int) < nl := by omega
                  go_upto_region 18 with fail
                  have HRz := toHid (HR.out.alloc (nObj z))
                  generalize wr.alloc (nObj z) = Wp at HRz ⊢
                  generalize wr.heap.size = pt at HRz ⊢
                  clear HR d0 d1 d2
                  have HTz := toHid (take_fold (wB x.id y.id) (N.map (·.id)) t z.id HXz.out Ka)
                  generalize ((N.map (·.id)).take t).foldl (wB x.id y.id) Ka = Kb at HRz HTz
                  have HB0 := (HRz.out.2.2.2 _ (List.mem_cons_self ..)).1
                  have HB1 := (HRz.out.2.2.2 _ (List.mem_cons_of_mem _ (List.mem_cons_self ..))).1
                  have HB2 := (HRz.out.2.2.2 _ (List.mem_cons_of_mem _ (List.mem_cons_of_mem _ (List.mem_cons_self ..)))).1
                  have v0 := cell_of HB0 0
                  have y0 := cell_of HB1 0
                  have x0 := cell_of HB2 0
                  simp at v0 y0 x0
                  have z0 : pt < Wp.heap.size := (Array.getElem?_eq_some_iff.1 HB0).1
                  have z1 : pj < Wp.heap.size := (Array.getElem?_eq_some_iff.1 HB1).1
                  have z2 : pk < Wp.heap.size := (Array.getElem?_eq_some_iff.1 HB2).1
                  clear HB0 HB1 HB2
                  have ask := HRz.out.ask x.id z.id
                  by_cases hit : (x.id, z.id) ∈ Kb
                  case neg =>
                    rw [decide_eq_false hit] at ask
                    go_wp2_with fail
                    go_roundg (nl - (t + 1))
                    case measure => omega
                    case rel => exact ⟨t + 1, by omega, Nat.le_refl _, by go_num, by rw [HTz.out]; unfold wB; rw [if_neg hit]; exact HRz.out.less fun q hq => List.mem_cons_of_mem _ hq⟩
                  rw [decide_eq_true hit] at ask
                  obtain ⟨o, hup, hro⟩ := HRz.out.put y.id z.id
                  have HRO := toHid hro
                  clear hro
                  go_wp2_with fail
                  go_roundg (nl - (t + 1))
                  case measure => omega
                  case rel => exact ⟨t + 1, by omega, Nat.le_refl _, by go_num, by rw [HTz.out]; unfold wB; rw [if_pos hit]; exact HRO.out.less fun q hq => List.mem_cons_of_mem _ hq⟩
                · have he : t = nl := by omega
                  subst he
                  have hall2 : (N.map (·.id)).take t = N.map (·.id) := List.take_of_length_le (by have := HN.out.1; rw [List.length_map]; omega)
                  rw [hall2] at HR
                  go_wp2_with fail
                  go_roundg (t - (j + 1))
                  case measure => omega
                  case rel => exact ⟨j + 1, by omega, Nat.le_refl _, by go_num, by rw [HTy.out]; unfold wA; rw [if_pos hin]; exact HR.out.less fun q hq => List.mem_cons_of_mem _ hq⟩
            · have he : j = nl := by omega
              subst he
              have hall2 : (N.map (·.id)).take j = N.map (·.id) := List.take_of_length_le (by have := HN.out.1; rw [List.length_map]; omega)
              rw [hall2] at HR
              go_wp2_with fail
              go_roundg (j - (k + 1))
              case measure => omega
              case rel => exact ⟨k + 1, by omega, Nat.le_refl _, by go_num, by rw [HTx.out]; exact HR.out.less fun q hq => List.mem_cons_of_mem _ hq⟩
        · have he : k = nl := by omega
          subst he
          have hall2 : (N.map (·.id)).take k = N.map (·.id) := List.take_of_length_le (by have := HN.out.1; rw [List.length_map]; omega)
          rw [hall2] at HR
          go_wp2_with fail
          go_ret
          exact ⟨rfl, by rw [HF.out]; exact HR.out.2.1, HR.out.1⟩

set_option linter.unusedSimpArgs false

theorem all_perm {N : List Nd} {E : List Ed} (kind : ByteArray) (hn : (N.map (·.id)).Nodup) (he : ∀ x ∈ E, x.frm ∈ N.map (·.id) ∧ x.dst ∈ N.map (·.id)) : (allF N E kind).Perm (reachedF E (N.map (·.id)) kind) := by
  unfold allF
  exact (List.mergeSort_perm _ _).trans (raws_perm kind hn he)

theorem mem_all {N : List Nd} {E : List Ed} (kind : ByteArray) (hn : (N.map (·.id)).Nodup) (he : ∀ x ∈ E, x.frm ∈ N.map (·.id) ∧ x.dst ∈ N.map (·.id)) (a b : Int) : (a, b) ∈ allF N E kind ↔ Rch (wayF E kind) a b := by
  rw [(all_perm kind hn he).mem_iff, mem_reached kind he]

theorem all_rises (N : List Nd) (E : List Ed) (kind : ByteArray) : (allF N E kind).Pairwise fun x y => ltOf ordP y x = false := (sortP_rises _).imp fun h => by simpa using h

theorem nodup_all {N : List Nd} {E : List Ed} (kind : ByteArray) (hn : (N.map (·.id)).Nodup) (he : ∀ x ∈ E, x.frm ∈ N.map (·.id) ∧ x.dst ∈ N.map (·.id)) : (allF N E kind).Nodup := (all_perm kind hn he).nodup_iff.2 (nodup_reached _ _ _)

/-- A rising list of those of one closed set that the other hasn't is what Change answers. -/
theorem less_reached {N : List Nd} {E : List Ed} {M : List Nd} {F : List Ed} (kind : ByteArray) (hn : (N.map (·.id)).Nodup) (he : ∀ x ∈ E, x.frm ∈ N.map (·.id) ∧ x.dst ∈ N.map (·.id)) (hn' : (M.map (·.id)).Nodup) (he' : ∀ x ∈ F, x.frm ∈ M.map (·.id) ∧ x.dst ∈ M.map (·.id)) {L : List (Int × Int)} (hd : L.Nodup) (hp : ∀ p, p ∈ L ↔ p ∈ reachedF E (N.map (·.id)) kind ∧ p ∉ reachedF F (M.map (·.id)) kind) (hl : L.Pairwise fun x y => ltOf ordP y x = false) : L = lessP (allF N E kind) (allF M F kind) := by
  refine List.Perm.eq_of_pairwise (le := fun x y => ltOf ordP y x = false) (fun a b _ _ h1 h2 => tot_p a b h2 h1) hl ((all_rises N E kind).filter _) ?_
  unfold lessP
  rw [List.perm_ext_iff_of_nodup hd (List.Pairwise.filter _ (nodup_all kind hn he))]
  intro p
  rw [hp p, List.mem_filter, (all_perm kind hn he).mem_iff]
  simp [(all_perm kind hn' he').mem_iff]

theorem all_trans {N : List Nd} {E : List Ed} (kind : ByteArray) (hn : (N.map (·.id)).Nodup) (he : ∀ x ∈ E, x.frm ∈ N.map (·.id) ∧ x.dst ∈ N.map (·.id)) {a b c : Int} (h1 : (a, b) ∈ allF N E kind) (h2 : (b, c) ∈ allF N E kind) : (a, c) ∈ allF N E kind := by
  rw [mem_all kind hn he] at *
  exact h1.trans h2

theorem rch_more {E F : List Ed} {kind : ByteArray} (h : ∀ x ∈ E, ∃ y ∈ F, y.frm = x.frm ∧ y.dst = x.dst ∧ y.typ = x.typ) {a b : Int} (hr : Rch (wayF E kind) a b) : Rch (wayF F kind) a b := by
  have one : ∀ (i : Int) (x : Ed), x ∈ wayF E kind i → ∃ y ∈ wayF F kind i, y.dst = x.dst := fun i x hx => by
    obtain ⟨h1, h2, h3⟩ := (mem_way E kind i x).1 hx
    obtain ⟨y, hy, e1, e2, e3⟩ := h x h1
    refine ⟨y, (mem_way F kind i y).2 ⟨hy, e1.trans h2, ?_⟩, e2⟩
    unfold goesB at h3 ⊢
    rw [e3]
    exact h3
  induction hr with
  | one x hx =>
    obtain ⟨y, hy, e⟩ := one a x hx
    rw [← e]
    exact .one y hy
  | step j x _ hx ih =>
    obtain ⟨y, hy, e⟩ := one j x hx
    rw [← e]
    exact .step j y ih hy
end Go.Proofs.YtebbjmjgojekdaaGreatDoor
