/-
  What is proved here: what the texts RReachM, RPLawN, RPWay, RPClone, RPLawH prove, in one text.
-/
import Derived.Deep.RegionLaw
import Derived.Deep.LoopGhost
import Derived.Test.YtpjbjpickpiglaaGreatDoorQPAO
import Derived.Test.YtpjbjpickpiglaaGreatDoorQPAJ
import Derived.Test.YtpjbjpickpiglaaGreatDoorQPAN
import Derived.Test.YtpjbjpickpiglaaGreatDoorQPAM
import Derived.Test.YtpjbjpickpiglaaGreatDoorQPAG
import Derived.Test.YtpjbjpickpiglaaGreatDoorQPAF
import Derived.Test.YtpjbjpickpiglaaGreatDoorQPAA
namespace Go.Proofs.YtpjbjpickpiglaaGreatDoor
open Go.RowKit
set_option linter.unusedVariables false

/-- The memory of Reached: the set, and blocks that stay. -/
def Rs (w : World) (m : Nat) (P : List (Nat × Obj)) (K : List (Int × Int)) (X : World) : Prop := Below w.heap.size w X ∧ MapB X m K ∧ w.heap.size ≤ m ∧ ∀ q ∈ P, X.heap[q.1]? = some q.2 ∧ q.1 ≠ m

theorem Rs.lt {w : World} {m : Nat} {P : List (Nat × Obj)} {K : List (Int × Int)} {X : World} (h : Rs w m P K X) {q : Nat × Obj} (hq : q ∈ P) : q.1 < X.heap.size := (Array.getElem?_eq_some_iff.1 (h.2.2.2 q hq).1).1

theorem Rs.alloc {w : World} {m : Nat} {P : List (Nat × Obj)} {K : List (Int × Int)} {X : World} (h : Rs w m P K X) (o : Obj) : Rs w m ((X.heap.size, o) :: P) K (X.alloc o) := by
  refine ⟨h.1.alloc h.1.size _, h.2.1.of (Below.heap_alloc _ _ _ h.2.1.lt), h.2.2.1, fun q hq => ?_⟩
  rcases List.mem_cons.1 hq with rfl | hq
  · exact ⟨alloc_new X o, by have := h.2.1.lt; show X.heap.size ≠ m; omega⟩
  · exact ⟨(Below.heap_alloc _ _ _ (h.lt hq)).trans (h.2.2.2 q hq).1, (h.2.2.2 q hq).2⟩

theorem Rs.less {w : World} {m : Nat} {P P' : List (Nat × Obj)} {K : List (Int × Int)} {X : World} (h : Rs w m P K X) (hs : ∀ q ∈ P', q ∈ P) : Rs w m P' K X := ⟨h.1, h.2.1, h.2.2.1, fun q hq => h.2.2.2 q (hs q hq)⟩

theorem Rs.put {w : World} {m : Nat} {P : List (Nat × Obj)} {K : List (Int × Int)} {X : World} (h : Rs w m P K X) (a b : Int) : ∃ o, (Instr.mapUpdate 34 (.map (some m)) (.agg #[.int .i64 a, .int .i64 b]) (.bool true)).run Tryz.prog X = .ok () (putB X m o) ∧ Rs w m P (putS K (a, b)) (putB X m o) := by
  obtain ⟨o, h1, h2⟩ := run_update_b h.2.1 (a, b)
  exact ⟨o, h1, h.1.trans (putB_bel _ _ _ _ h.2.2.1), h2 _ (putB_here h.2.1.lt _), h.2.2.1, fun q hq => ⟨(putB_other _ _ _ _ (h.2.2.2 q hq).2).trans (h.2.2.2 q hq).1, (h.2.2.2 q hq).2⟩⟩

theorem Rs.ask {w : World} {m : Nat} {P : List (Nat × Obj)} {K : List (Int × Int)} {X : World} (h : Rs w m P K X) (a b : Int) : (Instr.lookup 34 (.map (some m)) (.agg #[.int .i64 a, .int .i64 b]) false).run Tryz.prog X = .ok (.bool (decide ((a, b) ∈ K))) X := run_lookup_b h.2.1 (a, b)

theorem take_fold {α β : Type} (f : β → α → β) (L : List α) (i : Nat) (x : α) (h : L[i]? = some x) (z : β) : (L.take (i + 1)).foldl f z = f ((L.take i).foldl f z) x := by
  rw [List.take_add_one, h, Option.toList_some, List.foldl_append]
  rfl

abbrev gObj (na : Option Addr) (nl nc : Nat) (ea : Option Addr) (el ec : Nat) (next : Int) : Obj := .cells #[.slice na nl nc, .slice ea el ec, .int .i64 next] 25
abbrev nObj (x : Nd) : Obj := .cells #[.int .i64 x.id, .slice x.la x.ll x.lc, .slice x.pa x.pl x.pc] 58

set_option maxHeartbeats 4000000 in
set_option maxRecDepth 100000 in
theorem reached_any (N : List Nd) (E : List Ed) (na : Option Addr) (nl nc : Nat) (ea : Option Addr) (el ec : Nat) (next : Int) (kind : ByteArray) (w : World) (hN : NodesAt w N na nl) (hE : EdgesAt w E ea el) (hl : el ≤ 1000) (hnl : nl ≤ 1000) :
    Calls Tryz.prog 8 #[.agg #[.slice na nl nc, .slice ea el ec, .int .i64 next], .string kind] w fun e w' => e = .returned (.map (some (w.heap.size + 1))) ∧ MapB w' (w.heap.size + 1) (reachedF E (N.map (·.id)) kind) ∧ Below w.heap.size w w' := by
  obtain ⟨hle, hmx, hat⟩ := hE
  have HL := toHid hle
  have HAT := toHid hat
  have HN := toHid hN
  clear hle hat hN
  have hmm : ∀ X : World, (Instr.makeMap 34 none).run Tryz.prog X = .ok (.map (some X.heap.size)) (X.alloc (.map #[] 0)) := fun X => rfl
  go_enter Tryz.func8, Tryz.ntmps8
  go_wp2_with fail
  go_loopg [18] el (fun g s18 wr => ∃ (i : Nat), i ≤ el ∧ el - i ≤ g ∧ s18 = .int .i64 i ∧ Rs w (w.heap.size + 1) [(w.heap.size, gObj na nl nc ea el ec next)] ((E.take i).foldl (edB kind) []) wr)
  case atStart =>
    refine ⟨0, Nat.zero_le _, by omega, rfl, ((Below.refl _ _).alloc (Nat.le_refl _) _).alloc (by simp) _, mapB_new (alloc_two w _ _), by omega, fun q hq => ?_⟩
    rw [List.mem_singleton] at hq
    subst hq
    exact ⟨(Below.heap_alloc _ _ _ (by simp)).trans (alloc_new w _), by show w.heap.size ≠ w.heap.size + 1; omega⟩
  case round =>
    obtain ⟨i, hi, hg, rfl, hrs⟩ := hrel
    have HR := toHid hrs
    clear hrs
    by_cases hlt : i < el
    · obtain ⟨b, off, ha, hb, hc⟩ := HAT.out (by omega)
      subst ha
      obtain ⟨x, hx, _⟩ := drop_get (L := E) (i := i) (by have := HL.out; omega)
      obtain ⟨hsz, c0, c1, c2, c3, c4⟩ := hc i x hx
      have qq : ∀ o, wr.cell? ⟨b, o, none⟩ = w.cell? ⟨b, o, none⟩ := fun o => HR.out.1.cell (p := ⟨b, o, none⟩) hb
      have d0 := (qq _).trans c0
      have d1 := (qq _).trans c1
      have d2 := (qq _).trans c2
      have d3 := (qq _).trans c3
      have d4 := (qq _).trans c4
      have HX := toHid hx
      clear hc hx c0 c1 c2 c3 c4 qq
      have hil : (i : Int) < el := by omega
      go_upto_region 5 with fail
      have HR1 := toHid (HR.out.alloc (.cells #[.int .i64 x.id, .int .i64 x.frm, .int .i64 x.dst, .string x.typ, .slice x.pa x.pl x.pc] 41))
      generalize wr.alloc (.cells #[.int .i64 x.id, .int .i64 x.frm, .int .i64 x.dst, .string x.typ, .slice x.pa x.pl x.pc] 41) = Wp at HR1 ⊢
      clear HR d0 d1 d2 d3 d4
      have HBX := (HR1.out.2.2.2 _ (List.mem_cons_self ..)).1
      have y1 := cell_of HBX 1
      have y2 := cell_of HBX 2
      have y3 := cell_of HBX 3
      simp at y1 y2 y3
      have hpl : wr.heap.size < Wp.heap.size := (Array.getElem?_eq_some_iff.1 HBX).1
      have HT := toHid (take_fold (edB kind) E i x HX.out [])
      cases hgo : goesB kind x with
      | false =>
        have hk1 : kind.toList.isEmpty = false := by
          cases h : kind.toList.isEmpty with
          | false => rfl
          | true => simp [goesB, h] at hgo
        have hk2 : (kind.toList == x.typ.toList) = false := by
          cases h : (kind.toList == x.typ.toList) with
          | false => rfl
          | true => simp [goesB, h] at hgo
        have hk2' : (x.typ.toList == kind.toList) = false := by rw [beq_eq_false_iff_ne] at hk2 ⊢; exact Ne.symm hk2
        have hk3 : ¬ kind.toList = [] := fun e => by rw [e] at hk1; cases hk1
        go_wp2_with fail
        go_roundg (el - (i + 1))
        case measure => omega
        case rel => exact ⟨i + 1, by omega, Nat.le_refl _, by go_num, by rw [HT.out]; unfold edB; rw [if_neg (by rw [hgo]; decide)]; exact HR1.out.less fun q hq => List.mem_cons_of_mem _ hq⟩
      | true =>
        have hk : (kind.toList = [] ∧ kind.toList.isEmpty = true) ∨ (¬ kind.toList = [] ∧ kind.toList.isEmpty = false ∧ (x.typ.toList == kind.toList) = true) := by
          cases h : kind.toList.isEmpty with
          | true => exact .inl ⟨List.isEmpty_iff.1 h, rfl⟩
          | false => exact .inr ⟨(fun e => by rw [e] at h; cases h), rfl, by have := hgo; simp [goesB, h] at this; simp [this]⟩
        obtain ⟨o, hup, hro⟩ := HR1.out.put x.frm x.dst
        have HRO := toHid hro
        clear hro
        rcases hk with ⟨hk1, hk2⟩ | ⟨hk1, hk2, hk3⟩
        all_goals
          go_wp2_with fail
          go_roundg (el - (i + 1))
          case measure => omega
          case rel => exact ⟨i + 1, by omega, Nat.le_refl _, by go_num, by rw [HT.out]; unfold edB; rw [if_pos hgo]; exact HRO.out.less fun q hq => List.mem_cons_of_mem _ hq⟩
    · have he : i = el := by omega
      subst he
      have hall : E.take i = E := List.take_of_length_le (by have := HL.out; omega)
      rw [hall] at HR
      have HF : Hid (reachedF E (N.map (·.id)) kind = (N.map (·.id)).foldl (wK (N.map (·.id))) (E.foldl (edB kind) [])) := rfl
      generalize E.foldl (edB kind) [] = K0 at HR HF
      have HB0 := (HR.out.2.2.2 _ (List.mem_cons_self ..)).1
      have g0 := cell_of HB0 0
      simp at g0
      have hgl : w.heap.size < wr.heap.size := (Array.getElem?_eq_some_iff.1 HB0).1
      clear HB0
      go_wp2_with fail
      go_loopg [40] nl (fun g s40 wr => ∃ (k : Nat), k ≤ nl ∧ nl - k ≤ g ∧ s40 = .int .i64 k ∧ Rs w (w.heap.size + 1) [(w.heap.size, gObj na nl nc ea i ec next)] (((N.map (·.id)).take k).foldl (wK (N.map (·.id))) K0) wr)
      case atStart => exact ⟨0, Nat.zero_le _, by omega, rfl, HR.out⟩
      case round =>
        clear HR g0 hgl
        obtain ⟨k, hk, hg, rfl, hrs⟩ := hrel
        have HR := toHid hrs
        clear hrs
        by_cases hlt : k < nl
        · skip
          obtain ⟨b, off, ha, hb, hc⟩ := HN.out.2.2 (by omega)
          subst ha
          have HNC := toHid (And.intro hb hc)
          obtain ⟨x, hx, _⟩ := drop_get (L := N) (i := k) (by have := HN.out.1; omega)
          obtain ⟨c0, c1, c2⟩ := hc k x hx
          have qq : ∀ o, wr.cell? ⟨b, o, none⟩ = w.cell? ⟨b, o, none⟩ := fun o => HR.out.1.cell (p := ⟨b, o, none⟩) hb
          have d0 := (qq _).trans c0
          have d1 := (qq _).trans c1
          have d2 := (qq _).trans c2
          have HXx : Hid ((N.map (·.id))[k]? = some x.id) := by show _ = _; rw [List.getElem?_map, hx]; rfl
          clear hb hc hx c0 c1 c2 qq
          have hil : (k : Int) < nl := by omega
          go_upto_region 11 with fail
          have HRx := toHid (HR.out.alloc (nObj x))
          generalize wr.alloc (nObj x) = Wp at HRx ⊢
          generalize wr.heap.size = pk at HRx ⊢
          clear HR d0 d1 d2
          have HTx := toHid (take_fold (wK (N.map (·.id))) (N.map (·.id)) k x.id HXx.out K0)
          generalize ((N.map (·.id)).take k).foldl (wK (N.map (·.id))) K0 = Kk at HRx HTx
          have HB0 := (HRx.out.2.2.2 _ (List.mem_cons_of_mem _ (List.mem_cons_self ..))).1
          have g0 := cell_of HB0 0
          simp at g0
          have hgl : w.heap.size < Wp.heap.size := (Array.getElem?_eq_some_iff.1 HB0).1
          clear HB0
          go_wp2_with fail
          go_loopg [47] nl (fun g s47 wr => ∃ (j : Nat), j ≤ nl ∧ nl - j ≤ g ∧ s47 = .int .i64 j ∧ Rs w (w.heap.size + 1) [(pk, nObj x), (w.heap.size, gObj (some ⟨b, off, none⟩) nl nc ea i ec next)] (((N.map (·.id)).take j).foldl (wA (N.map (·.id)) x.id) Kk) wr)
          case atStart => exact ⟨0, Nat.zero_le _, by omega, rfl, HRx.out⟩
          case round =>
            clear HRx g0 hgl
            obtain ⟨j, hj, hgj, rfl, hrs⟩ := hrel
            have HR := toHid hrs
            clear hrs
            by_cases hltj : j < nl
            · skip
              obtain ⟨hb, hc⟩ := HNC.out
              obtain ⟨y, hx, _⟩ := drop_get (L := N) (i := j) (by have := HN.out.1; omega)
              obtain ⟨c0, c1, c2⟩ := hc j y hx
              have qq : ∀ o, wr.cell? ⟨b, o, none⟩ = w.cell? ⟨b, o, none⟩ := fun o => HR.out.1.cell (p := ⟨b, o, none⟩) hb
              have d0 := (qq _).trans c0
              have d1 := (qq _).trans c1
              have d2 := (qq _).trans c2
              have HXy : Hid ((N.map (·.id))[j]? = some y.id) := by show _ = _; rw [List.getElem?_map, hx]; rfl
              clear hb hc hx c0 c1 c2 qq
              have hil : (j : Int) < nl := by omega
              go_upto_region 14 with fail
              have HRy := toHid (HR.out.alloc (nObj y))
              generalize wr.alloc (nObj y) = Wp at HRy ⊢
              generalize wr.heap.size = pj at HRy ⊢
              clear HR d0 d1 d2
              have HTy := toHid (take_fold (wA (N.map (·.id)) x.id) (N.map (·.id)) j y.id HXy.out Kk)
              generalize ((N.map (·.id)).take j).foldl (wA (N.map (·.id)) x.id) Kk = Ka at HRy HTy
              have HB1 := (HRy.out.2.2.2 _ (List.mem_cons_self ..)).1
              have HB2 := (HRy.out.2.2.2 _ (List.mem_cons_of_mem _ (List.mem_cons_self ..))).1
              have HB3 := (HRy.out.2.2.2 _ (List.mem_cons_of_mem _ (List.mem_cons_of_mem _ (List.mem_cons_self ..)))).1
              have y0 := cell_of HB1 0
              have x0 := cell_of HB2 0
              have g0 := cell_of HB3 0
              simp at y0 x0 g0
              have z1 : pj < Wp.heap.size := (Array.getElem?_eq_some_iff.1 HB1).1
              have z2 : pk < Wp.heap.size := (Array.getElem?_eq_some_iff.1 HB2).1
              have z3 : w.heap.size < Wp.heap.size := (Array.getElem?_eq_some_iff.1 HB3).1
              clear HB1 HB2 HB3
              have ask := HRy.out.ask y.id x.id
              by_cases hin : (y.id, x.id) ∈ Ka
              case neg =>
                rw [decide_eq_false hin] at ask
                go_wp2_with fail
                go_roundg (nl - (j + 1))
                case measure => omega
                case rel => exact ⟨j + 1, by omega, Nat.le_refl _, by go_num, by rw [HTy.out]; unfold wA; rw [if_neg hin]; exact HRy.out.less fun q hq => List.mem_cons_of_mem _ hq⟩
              rw [decide_eq_true hin] at ask
              go_wp2_with fail
              go_loopg [62] nl (fun g s62 wr => ∃ (t : Nat), t ≤ nl ∧ nl - t ≤ g ∧ s62 = .int .i64 t ∧ Rs w (w.heap.size + 1) [(pj, nObj y), (pk, nObj x), (w.heap.size, gObj (some ⟨b, off, none⟩) nl nc ea i ec next)] (((N.map (·.id)).take t).foldl (wB x.id y.id) Ka) wr)
              case atStart => exact ⟨0, Nat.zero_le _, by omega, rfl, HRy.out⟩
              case round =>
                clear HRy g0 x0 y0 z1 z2 z3 ask
                obtain ⟨t, ht, hgt, rfl, hrs⟩ := hrel
                have HR := toHid hrs
                clear hrs
                by_cases hltt : t < nl
                · skip
                  obtain ⟨hb, hc⟩ := HNC.out
                  obtain ⟨z, hx, _⟩ := drop_get (L := N) (i := t) (by have := HN.out.1; omega)
                  obtain ⟨c0, c1, c2⟩ := hc t z hx
                  have qq : ∀ o, wr.cell? ⟨b, o, none⟩ = w.cell? ⟨b, o, none⟩ := fun o => HR.out.1.cell (p := ⟨b, o, none⟩) hb
                  have d0 := (qq _).trans c0
                  have d1 := (qq _).trans c1
                  have d2 := (qq _).trans c2
                  have HXz : Hid ((N.map (·.id))[t]? = some z.id) := by show _ = _; rw [List.getElem?_map, hx]; rfl
                  clear hb hc hx c0 c1 c2 qq
                  have hil : (t : Int) < nl := by omega
                  go_upto_region 18 with fail
                  have HRz := toHid (HR.out.alloc (nObj z))
                  generalize wr.alloc (nObj z) = Wp at HRz ⊢
                  generalize wr.heap.size = pt at HRz ⊢
                  clear HR d0 d1 d2
                  have HTz := toHid (take_fold (wB x.id y.id) (N.map (·.id)) t z.id HXz.out Ka)
                  generalize ((N.map (·.id)).take t).foldl (wB x.id y.id) Ka = Kb at HRz HTz
                  have HB0 := (HRz.out.2.2.2 _ (List.mem_cons_self ..)).1
                  have HB1 := (HRz.out.2.2.2 _ (List.mem_cons_of_mem _ (List.mem_cons_self ..))).1
                  have HB2 := (HRz.out.2.2.2 _ (List.mem_cons_of_mem _ (List.mem_cons_of_mem _ (List.mem_cons_self ..)))).1
                  have v0 := cell_of HB0 0
                  have y0 := cell_of HB1 0
                  have x0 := cell_of HB2 0
                  simp at v0 y0 x0
                  have z0 : pt < Wp.heap.size := (Array.getElem?_eq_some_iff.1 HB0).1
                  have z1 : pj < Wp.heap.size := (Array.getElem?_eq_some_iff.1 HB1).1
                  have z2 : pk < Wp.heap.size := (Array.getElem?_eq_some_iff.1 HB2).1
                  clear HB0 HB1 HB2
                  have ask := HRz.out.ask x.id z.id
                  by_cases hit : (x.id, z.id) ∈ Kb
                  case neg =>
                    rw [decide_eq_false hit] at ask
                    go_wp2_with fail
                    go_roundg (nl - (t + 1))
                    case measure => omega
                    case rel => exact ⟨t + 1, by omega, Nat.le_refl _, by go_num, by rw [HTz.out]; unfold wB; rw [if_neg hit]; exact HRz.out.less fun q hq => List.mem_cons_of_mem _ hq⟩
                  rw [decide_eq_true hit] at ask
                  obtain ⟨o, hup, hro⟩ := HRz.out.put y.id z.id
                  have HRO := toHid hro
                  clear hro
                  go_wp2_with fail
                  go_roundg (nl - (t + 1))
                  case measure => omega
                  case rel => exact ⟨t + 1, by omega, Nat.le_refl _, by go_num, by rw [HTz.out]; unfold wB; rw [if_pos hit]; exact HRO.out.less fun q hq => List.mem_cons_of_mem _ hq⟩
                · have he : t = nl := by omega
                  subst he
                  have hall2 : (N.map (·.id)).take t = N.map (·.id) := List.take_of_length_le (by have := HN.out.1; rw [List.length_map]; omega)
                  rw [hall2] at HR
                  go_wp2_with fail
                  go_roundg (t - (j + 1))
                  case measure => omega
                  case rel => exact ⟨j + 1, by omega, Nat.le_refl _, by go_num, by rw [HTy.out]; unfold wA; rw [if_pos hin]; exact HR.out.less fun q hq => List.mem_cons_of_mem _ hq⟩
            · have he : j = nl := by omega
              subst he
              have hall2 : (N.map (·.id)).take j = N.map (·.id) := List.take_of_length_le (by have := HN.out.1; rw [List.length_map]; omega)
              rw [hall2] at HR
              go_wp2_with fail
              go_roundg (j - (k + 1))
              case measure => omega
              case rel => exact ⟨k + 1, by omega, Nat.le_refl _, by go_num, by rw [HTx.out]; exact HR.out.less fun q hq => List.mem_cons_of_mem _ hq⟩
        · have he : k = nl := by omega
          subst he
          have hall2 : (N.map (·.id)).take k = N.map (·.id) := List.take_of_length_le (by have := HN.out.1; rw [List.length_map]; omega)
          rw [hall2] at HR
          go_wp2_with fail
          go_ret
          exact ⟨rfl, by rw [HF.out]; exact HR.out.2.1, HR.out.1⟩

set_option linter.unusedSimpArgs false

set_option maxHeartbeats 8000000 in
set_option maxRecDepth 100000 in
theorem law_path_bad (N : List Nd) (E : List Ed) (na : Option Addr) (nl nc : Nat) (ea : Option Addr) (el ec : Nat) (nx : Int) (kind : ByteArray) (i tgt : Int) (w : World) (h : GrOk w N E na nl ea el) (hg : ¬ gE N E nx = 0) :
    Calls Tryz.prog 3 #[.agg #[.slice na nl nc, .slice ea el ec, .int .i64 nx], .string kind, .int .i64 i, .int .i64 tgt] w fun e w' => e = .returned (.bool true) ∧ Below w.heap.size w w' := by
  have hb0 : Below w.heap.size w (w.alloc (.cells #[.slice na nl nc, .slice ea el ec, .int .i64 nx] 25)) := (Below.refl _ _).alloc (Nat.le_refl _) _
  have HB := toHid hb0
  have HG := toHid (alloc_new w (.cells #[.slice na nl nc, .slice ea el ec, .int .i64 nx] 25))
  have HCK : Hid (∀ X, Below w.heap.size w X → Calls Tryz.prog 5 #[.agg #[.slice na nl nc, .slice ea el ec, .int .i64 nx]] X fun e w' => e = .returned (.int .i64 (gE N E nx)) ∧ Below X.heap.size X w') := fun X kx => checkGraph_ok h nc ec nx X kx
  clear hb0
  have HA : Hid (∀ X, Below w.heap.size w X → Calls Tryz.prog 4 #[.agg #[.slice na nl nc, .slice ea el ec, .int .i64 nx], .string kind, .int .i64 i, .int .i64 tgt] X fun e w' => e = .returned (.tuple #[.slice none 0 0, .int .i64 (gE N E nx)]) ∧ Below X.heap.size X w') := fun X kx => path_bad h hg nc ec kind i tgt X kx
  generalize gE N E nx = er at HA HCK hg
  have hz1 : (er != 0) = true := by simp [hg]
  have hz2 : (er == er) = true := by simp
  clear h hg
  go_enter Tryz.func3, Tryz.ntmps3
  go_upto_region 1 with fail
  generalize w.alloc (.cells #[.slice na nl nc, .slice ea el ec, .int .i64 nx] 25) = X at HB HG ⊢
  have x0 := cell_of HG.out 0
  have x1 := cell_of HG.out 1
  have x2 := cell_of HG.out 2
  simp at x0 x1 x2
  have hl0 : w.heap.size < X.heap.size := blk_lt HG.out
  go_wp2_with fail
  refine (HA.out X HB.out).mono ?_
  rintro e w1 ⟨rfl, k1⟩
  have HB1 := toHid (below2 HB.out k1)
  have HG1 := toHid ((k1.block _ hl0).trans HG.out)
  clear x0 x1 x2 k1 hl0
  have x0 := cell_of HG1.out 0
  have x1 := cell_of HG1.out 1
  have x2 := cell_of HG1.out 2
  simp at x0 x1 x2
  have hl1 : w.heap.size < w1.heap.size := blk_lt HG1.out
  go_wp2_with fail
  refine (HCK.out w1 HB1.out).mono ?_
  rintro e w2 ⟨rfl, k2⟩
  have HB2 := toHid (below2 HB1.out k2)
  clear x0 x1 x2 k2 hl1
  go_wp2_with fail
  refine (reached_true _).mono ?_
  rintro e w3 ⟨rfl, k3⟩
  have HB3 := toHid (below2 HB2.out k3)
  clear k3
  go_wp2_with fail
  refine (reached_true _).mono ?_
  rintro e w4 ⟨rfl, k4⟩
  have HB4 := toHid (below2 HB3.out k4)
  clear k4
  go_wp2_with fail
  go_ret
  exact ⟨rfl, HB4.out⟩

/-- What NodeAt tells: nil or not. -/
theorem node_nil {w : World} {N : List Nd} {E : List Ed} {na : Option Addr} {nl : Nat} {ea : Option Addr} {el : Nat} (h : GrOk w N E na nl ea el) (nc ec : Nat) (nx id : Int) (X : World) (k : Below w.heap.size w X) :
    Calls Tryz.prog 7 #[.agg #[.slice na nl nc, .slice ea el ec, .int .i64 nx], .int .i64 id] X fun e w' => (∃ p : Option Addr, e = .returned (.pointer p) ∧ (p = none ↔ id ∉ N.map Nd.id)) ∧ Below X.heap.size X w' := by
  refine (nodeAt_any N na nl nc ea el ec nx id X (h.below k).1).mono ?_
  rintro e w' ⟨h1, h2⟩
  refine ⟨?_, h2⟩
  rcases h1 with ⟨h3, rfl⟩ | ⟨j, x, b, off, _, h4, h5, rfl⟩
  · exact ⟨none, rfl, by simp [h3]⟩
  · refine ⟨_, rfl, ?_⟩
    have : id ∈ N.map Nd.id := List.mem_map.2 ⟨x, List.mem_of_getElem? h4, h5⟩
    simp only [reduceCtorEq, false_iff, Classical.not_not]
    exact this

theorem nilP_none (w : World) : (binOp .eql 32 (.pointer none) (.pointer none)).run Tryz.prog w = .ok (.bool true) w := by kernel_rfl
theorem nilP_some (w : World) (ad : Addr) : (binOp .eql 32 (.pointer (some ad)) (.pointer none)).run Tryz.prog w = .ok (.bool false) w := by kernel_rfl

set_option linter.unusedSimpArgs false

theorem lex_cmp : ∀ a b : List Int, lexI a b → cmpLw a b = -1
  | [], b, h => by unfold lexI at h; exact h.elim
  | a :: as1, [], h => by unfold lexI at h; exact h.elim
  | a :: as1, b :: bs, h => by
    unfold lexI at h
    unfold cmpLw
    rcases h with h | ⟨h1, h2⟩
    · have : cmpN a b = -1 := by simp [cmpN, h]
      rw [this]
      rfl
    · have : cmpN a b = 0 := by simp [cmpN, h1]
      rw [if_pos this]
      exact lex_cmp as1 bs h2

theorem riseEd {N : List Nd} {E : List Ed} {next : Int} (hg : gE N E next = 0) : E.Pairwise fun y x => y.id < x.id := by
  rw [List.pairwise_iff_getElem]
  intro i j hi hj hij
  exact (gE_ok hg).riseE i j _ _ hij (by rw [List.getElem?_map, List.getElem?_eq_getElem hi]; rfl) (by rw [List.getElem?_map, List.getElem?_eq_getElem hj]; rfl)

theorem asc_lev {E : List Ed} (hE : E.Pairwise fun y x => y.id < x.id) (kind : ByteArray) (i : Int) (n : Nat) {D : List Wy} (hD : D.map Wy.L = (levW (wayF E kind) i n).map idsW) : AscW D := by
  obtain ⟨h1, h2, _⟩ := lev_ok (W := wayF E kind) (fun j => hE.filter _) i n
  have h3 : ((levW (wayF E kind) i n).map idsW).Pairwise fun a b => cmpLw a b = -1 := by
    rw [List.pairwise_map]
    refine List.Pairwise.imp_of_mem ?_ h1
    intro a b ha hb hs
    have e1 := (h2 a ha).2
    have e2 := (h2 b hb).2
    rcases hs with hs | hs
    · omega
    · exact lex_cmp _ _ hs.2
  rw [← hD, List.pairwise_map] at h3
  exact h3

theorem edV_frm {c d : Ed} (h : edV c = edV d) : c.frm = d.frm := by
  unfold edV at h
  simp at h
  exact h.2.1

theorem chain_len {f : Int → Option Value} {i : Int} : ∀ (C C' : List Ed) (c c' : Ed), c.frm = c'.frm → Chain f i (c :: C) → Chain f i (c' :: C') → C.length = C'.length
  | [], [], c, c', _, _, _ => rfl
  | [], d' :: l', c, c', e, h, h' => absurd (show c.frm = i from h) (by rw [e]; exact h'.1)
  | d :: l, [], c, c', e, h, h' => absurd (show c'.frm = i from h') (by rw [← e]; exact h.1)
  | d :: l, d' :: l', c, c', e, h, h' => by
    have e1 := h.2.1
    have e2 := h'.2.1
    rw [e, e2] at e1
    injection e1 with e1
    rw [List.length_cons, List.length_cons, chain_len l l' d d' (edV_frm e1).symm h.2.2 h'.2.2]

theorem path_way {w : World} {N : List Nd} {E : List Ed} {na : Option Addr} {nl : Nat} {ea : Option Addr} {el : Nat} (h : GrOk w N E na nl ea el) {next : Int} (hg : gE N E next = 0) (nc ec : Nat) (kind : ByteArray) (i tgt : Int) (hr : Rch (wayF E kind) i tgt) :
    ∃ v ∈ waysP E kind i, wEnd i v = tgt ∧ v.length ≤ 1000 ∧ ∀ W, Below w.heap.size w W → Calls Tryz.prog 4 #[.agg #[.slice na nl nc, .slice ea el ec, .int .i64 next], .string kind, .int .i64 i, .int .i64 tgt] W fun e w' => ∃ v', e = .returned (.tuple #[v', .int .i64 0]) ∧ w'.ownsRow W.heap.size 3 1 v' (idsW v).length (intsV (idsW v)) ∧ Below W.heap.size W w' := by
  have hE := riseEd hg
  have ht := (told_iff E kind i tgt).2 hr
  obtain ⟨c', C', g1, g2, g3, g4, g5, g6⟩ := led_chain (walk_led0 E kind i) tgt ht
  obtain ⟨x, hx, hxd⟩ := List.mem_map.1 ht
  have hmem : some x ∈ (waysP E kind i).map (·.getLast?) := by
    rw [(ways_ok hE kind i).2]
    exact List.mem_map.2 ⟨x, hx, rfl⟩
  obtain ⟨v, hv, hvx⟩ := List.mem_map.1 hmem
  have hve : wEnd i v = tgt := by
    unfold wEnd
    rw [hvx]
    exact hxd
  obtain ⟨c, C, e1, e2, e3, e4⟩ := way_chain hE kind i v.length v rfl hv
  rw [hve] at e3
  have hcc : edV c = edV c' := by
    rw [e3] at g1
    injection g1
  have hlen := chain_len C C' c c' (edV_frm hcc) e4 g3
  have hl : (walkF (wayF E kind) (E.length + 2) (st0 i)).length ≤ E.length := by
    have := raw_len E kind i
    unfold rawF at this
    rw [List.length_map] at this
    exact this
  have he := (gE_ok hg).fewE
  rw [List.length_cons] at g4
  have hvl : v.length = C.length + 1 := by
    have := congrArg List.length e1
    simpa using this
  refine ⟨v, hv, hve, by omega, fun W k => ?_⟩
  have := path_good h hg nc ec kind i tgt c C e3 e4 (by omega) W k
  have e5 : ((c :: C).map (·.id)).reverse = idsW v := by
    rw [← e1, List.map_reverse, List.reverse_reverse]
    rfl
  have e6 : (c :: C).length = (idsW v).length := by
    unfold idsW
    rw [List.length_map, List.length_cons, hvl]
  rw [e5, e6] at this
  exact this

/-- EdgeAt of the number of an edge of the graph. -/
theorem edge_to {w : World} {N : List Nd} {E : List Ed} {na : Option Addr} {nl : Nat} {ea : Option Addr} {el : Nat} (h : GrOk w N E na nl ea el) {next : Int} (hg : gE N E next = 0) (nc ec : Nat) (x : Ed) (hx : x ∈ E) :
    ∃ b o, b < w.heap.size ∧ w.cell? ⟨b, o + 1 + 1, none⟩ = some (.int .i64 x.dst) ∧ ∀ X, Below w.heap.size w X → Calls Tryz.prog 9 #[.agg #[.slice na nl nc, .slice ea el ec, .int .i64 next], .int .i64 x.id] X fun e w' => e = .returned (.pointer (some ⟨b, o, none⟩)) ∧ Below X.heap.size X w' := by
  obtain ⟨k, hk⟩ := List.getElem?_of_mem hx
  have hkl := (List.getElem?_eq_some_iff.1 hk).1
  obtain ⟨b, off, ha, hb, hc⟩ := h.2.1.2.2 (by rw [h.2.1.1]; omega)
  refine ⟨b, off + k * 5, hb, (hc k x hk).2.2.2.1, fun X kX => ?_⟩
  refine (edgeAt_any E na nl nc ea el ec next x.id X (h.2.1.below kX)).mono ?_
  rintro e w' ⟨h1, h2⟩
  refine ⟨?_, h2⟩
  rcases h1 with ⟨h3, _⟩ | ⟨j, y, b', off', ha', hy, hyx, rfl⟩
  · exact absurd (List.mem_map.2 ⟨x, hx, rfl⟩) h3
  · rw [ha] at ha'
    injection ha' with ha'
    injection ha' with q1 q2
    have hjk : j = k := by
      have hR := (gE_ok hg).riseE
      have hj' : (E.map Ed.id)[j]? = some y.id := by rw [List.getElem?_map, hy]; rfl
      have hk' : (E.map Ed.id)[k]? = some x.id := by rw [List.getElem?_map, hk]; rfl
      rcases Nat.lt_trichotomy j k with hjk | hjk | hjk
      · have := hR j k _ _ hjk hj' hk'
        omega
      · exact hjk
      · have := hR k j _ _ hjk hk' hj'
        omega
    rw [hjk, ← q1, ← q2]

set_option linter.unusedSimpArgs false

theorem nilI_none (w : World) (l c : Nat) : (binOp .eql 26 (.slice none l c) (.slice none 0 0)).run Tryz.prog w = .ok (.bool true) w := by kernel_rfl
theorem nilI_some (w : World) (ad : Addr) (l c : Nat) : (binOp .eql 26 (.slice (some ad) l c) (.slice none 0 0)).run Tryz.prog w = .ok (.bool false) w := by kernel_rfl

theorem ints_one (L : List Int) : ∀ u ∈ ints L, u.oneCell' = true := fun u hu => by
  unfold ints at hu
  obtain ⟨x, _, rfl⟩ := List.mem_map.1 hu
  rfl

theorem add_plainW (b off j : Nat) : (⟨b, off, none⟩ : Addr).add j = ⟨b, off + j, none⟩ := by
  by_cases h0 : j = 0
  · subst h0; simp [Addr.add]
  · simp [Addr.add, h0]

theorem IntsAt.news {w : World} {L : List Int} {a : Option Addr} {l : Nat} (h : IntsAt w L a l) : ∀ j u, (ints L)[j]? = some u → ∃ ad, a = some ad ∧ w.cell? (ad.add j) = some u := by
  intro j u hu
  rw [ints, List.getElem?_map] at hu
  cases hx : L[j]? with
  | none => rw [hx] at hu; cases hu
  | some x =>
    rw [hx] at hu
    have hi := (List.getElem?_eq_some_iff.1 hx).1
    obtain ⟨b, off, ha, hb, hcc⟩ := h.2.2 (by rw [h.1]; omega)
    refine ⟨_, ha, ?_⟩
    rw [add_plainW, hcc j x hx]
    exact hu

set_option maxHeartbeats 4000000 in
set_option maxRecDepth 100000 in
theorem cloneI_any (L : List Int) (a : Option Addr) (l c : Nat) (w : World) (h : IntsAt w L a l) (hl : l ≤ 1000000) :
    Calls Tryz.prog 10 #[.slice a l c] w fun e w' => (∃ v, e = .returned v ∧ w'.ownsRow w.heap.size 3 1 v L.length (ints L)) ∧ Below w.heap.size w w' := by
  have HN : Hid (∀ W, Below w.heap.size w W → ∀ j u, (ints L)[j]? = some u → ∃ ad, a = some ad ∧ W.cell? (ad.add j) = some u) := fun W k => (h.below k).news
  have HL := toHid h.1
  have HFL := toHid (show (ints L).length = l * 1 by rw [HL.out, ints, List.length_map, Nat.mul_one])
  have HO := toHid (ints_one L)
  obtain ⟨i0, hi0, hiz, his, hib⟩ := int_info
  have HI0 := toHid hi0
  have HIZ := toHid hiz
  have HIS := toHid his
  have HIB := toHid hib
  clear hi0 hiz his hib h
  cases a with
  | none =>
    have hr : ints L = [] := by
      cases hc : ints L with
      | nil => rfl
      | cons u us =>
        obtain ⟨_, e1, _⟩ := HN.out w (Below.refl _ _) 0 u (by rw [hc]; rfl)
        cases e1
    have h0 : l = 0 := by have := HFL.out; rw [hr] at this; simp at this; omega
    subst h0
    have HNN : Hid (L.length = 0) := HL.out.symm
    have HR := toHid hr
    have hnil : ∀ w, (binOp .eql 26 (.slice none 0 c) (.slice none 0 0)).run Tryz.prog w = .ok (.bool true) w := fun w => nilI_none w 0 c
    clear hr
    go_enter Tryz.func10, Tryz.ntmps10
    go_wp2_with fail
    go_ret
    refine ⟨⟨_, rfl, ?_⟩, Below.refl _ _⟩
    rw [HR.out, HNN.out]
    exact World.ownsRow_nil _ _ _ _
  | some ad =>
    have HB1 : l ≤ maxLen := by unfold maxLen; omega
    have hnil : ∀ w, (binOp .eql 26 (.slice (some ad) l c) (.slice none 0 0)).run Tryz.prog w = .ok (.bool false) w := fun w => nilI_some w ad l c
    go_enter Tryz.func10, Tryz.ntmps10
    go_wp2_with (at_builtin; refine wpList_append_both _ rfl _ _ 26 rfl w.heap.size 3 i0 _ 1 8 Tryz.underlying26 HI0.out HIZ.out HIS.out HIB.out rfl (by omega) (.slice (some ⟨w.heap.size, 0, none⟩) 0 0) 0 [] (by rfl) (World.ownsRow_made _ #[] 0 (Nat.le_refl _) (by decide) rfl) (some ad) l c (ints L) (by rfl) HFL.out (HN.out _ ((Below.refl w.heap.size w).alloc (Nat.le_refl _) _)) HO.out (by omega) (by omega) (by simp) ?_)
    intro v' w' h1 h2 h3
    have hb : Below w.heap.size w w' := ((Below.refl w.heap.size w).alloc (Nat.le_refl _) _).grown h2 (by simp) (fun k hk => by
      have : w.heap.size = k := by simpa [Value.ownBlock] using hk
      omega)
    have HBB := toHid hb
    have HOW := toHid h1
    clear hb h1 h2 h3
    go_wp2_with fail
    go_ret
    refine ⟨⟨v', rfl, ?_⟩, HBB.out⟩
    rw [← HL.out]
    exact HOW.out

set_option linter.unusedSimpArgs false

theorem hasN_mem {N : List Nd} {i : Int} (h : hasN N i = true) : i ∈ N.map (·.id) := by
  unfold hasN at h
  simpa [eq_comm] using h

theorem ends_in {N : List Nd} {E : List Ed} {next : Int} (hg : gE N E next = 0) : ∀ x ∈ E, x.frm ∈ N.map (·.id) ∧ x.dst ∈ N.map (·.id) := fun x hx =>
  ⟨hasN_mem ((gE_ok hg).edges x hx).2.1, hasN_mem ((gE_ok hg).edges x hx).2.2.1⟩

theorem rch_in {N : List Nd} {E : List Ed} {next : Int} (hg : gE N E next = 0) {kind : ByteArray} {i d : Int} (h : Rch (wayF E kind) i d) : i ∈ N.map Nd.id ∧ d ∈ N.map Nd.id := by
  induction h with
  | one x hx =>
    obtain ⟨h1, h2, _⟩ := (mem_way E kind i x).1 hx
    have := ends_in hg x h1
    exact ⟨by rw [← h2]; exact this.1, this.2⟩
  | step j x hj hx ih =>
    obtain ⟨h1, h2, _⟩ := (mem_way E kind j x).1 hx
    exact ⟨ih.1, (ends_in hg x h1).2⟩

/-- NodeAt of a node's number isn't nil. -/
theorem node_there {w : World} {N : List Nd} {E : List Ed} {na : Option Addr} {nl : Nat} {ea : Option Addr} {el : Nat} (h : GrOk w N E na nl ea el) (nc ec : Nat) (nx id : Int) (hid : id ∈ N.map Nd.id) (X : World) (k : Below w.heap.size w X) :
    Calls Tryz.prog 7 #[.agg #[.slice na nl nc, .slice ea el ec, .int .i64 nx], .int .i64 id] X fun e w' => (∃ ad : Addr, e = .returned (.pointer (some ad))) ∧ Below X.heap.size X w' := by
  refine (node_nil h nc ec nx id X k).mono ?_
  rintro e w' ⟨⟨p, rfl, hp⟩, h2⟩
  refine ⟨?_, h2⟩
  cases p with
  | none => exact absurd hid (hp.1 rfl)
  | some ad => exact ⟨ad, rfl⟩

theorem node_lacks {w : World} {N : List Nd} {E : List Ed} {na : Option Addr} {nl : Nat} {ea : Option Addr} {el : Nat} (h : GrOk w N E na nl ea el) (nc ec : Nat) (nx id : Int) (hid : id ∉ N.map Nd.id) (X : World) (k : Below w.heap.size w X) :
    Calls Tryz.prog 7 #[.agg #[.slice na nl nc, .slice ea el ec, .int .i64 nx], .int .i64 id] X fun e w' => e = .returned (.pointer none) ∧ Below X.heap.size X w' := by
  refine (node_nil h nc ec nx id X k).mono ?_
  rintro e w' ⟨⟨p, rfl, hp⟩, h2⟩
  exact ⟨by rw [hp.2 hid], h2⟩

theorem reached_in {w : World} {N : List Nd} {E : List Ed} {na : Option Addr} {nl : Nat} {ea : Option Addr} {el : Nat} (h : GrOk w N E na nl ea el) {next : Int} (hg : gE N E next = 0) (nc ec : Nat) (kind : ByteArray) (i tgt : Int) (b : Bool) (hb : b = true ↔ Rch (wayF E kind) i tgt) (X : World) (k : Below w.heap.size w X) :
    Calls Tryz.prog 8 #[.agg #[.slice na nl nc, .slice ea el ec, .int .i64 next], .string kind] X fun e w' => ∃ m, e = .returned (.map (some m)) ∧ (Instr.lookup 34 (.map (some m)) (.agg #[.int .i64 i, .int .i64 tgt]) false).run Tryz.prog w' = .ok (.bool b) w' ∧ Below X.heap.size X w' := by
  have hX := h.below k
  have hf := few_of h hg
  refine (reached_any N E na nl nc ea el ec next kind X hX.1 hX.2.1 hf.2 (by omega)).mono ?_
  rintro e w' ⟨rfl, h1, h2⟩
  refine ⟨_, rfl, ?_, h2⟩
  have h3 := run_lookup_b h1 (i, tgt)
  have h4 : decide ((i, tgt) ∈ reachedF E (N.map (·.id)) kind) = b := by
    rw [Bool.eq_iff_iff, hb, decide_eq_true_eq]
    exact mem_reached kind (ends_in hg) i tgt
  rw [h4] at h3
  exact h3

/-- The ends of these ways have been seen. -/
def seenV (i : Int) (ws : List (List Ed)) (d : Int) : Option Value := if d ∈ ws.map (wEnd i) then some (.bool true) else none

theorem seen_add (i : Int) (ws : List (List Ed)) (v : List Ed) : (fun d => if d = wEnd i v then some (.bool true) else seenV i ws d) = seenV i (ws ++ [v]) := by
  funext d
  unfold seenV
  rw [List.map_append, List.map_singleton]
  by_cases h : d = wEnd i v
  · simp [h]
  · simp [h]

theorem seen_same (i : Int) (ws : List (List Ed)) (v : List Ed) (h : wEnd i v ∈ ws.map (wEnd i)) : seenV i (ws ++ [v]) = seenV i ws := by
  funext d
  unfold seenV
  rw [List.map_append, List.map_singleton]
  by_cases h1 : d = wEnd i v
  · subst h1
    rw [if_pos h, if_pos (List.mem_append_left _ h)]
  · simp [h1]
end Go.Proofs.YtpjbjpickpiglaaGreatDoor
