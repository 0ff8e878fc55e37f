/-
  What is proved here: the law ReachCloses answers true of any graph that lies in memory, any text and any two whole numbers; what was there is as it was.
-/
import Derived.Test.YtebbjmjgojekdaaGreatDoorQCAS
import Derived.Test.YtebbjmjgojekdaaGreatDoorQCBM
namespace Go.Proofs.YtebbjmjgojekdaaGreatDoor
open Go.RowKit
set_option linter.unusedVariables false
set_option linter.unusedSimpArgs false

theorem mem_foldS (p : Int × Int) : ∀ (A K : List (Int × Int)), p ∈ A.foldl putS K ↔ p ∈ K ∨ p ∈ A
  | [], K => by simp
  | q :: A, K => by
    rw [List.foldl_cons, mem_foldS p A, mem_putS]
    simp only [List.mem_cons]
    constructor
    · rintro ((h | h) | h)
      · exact .inl h
      · exact .inr (.inl h)
      · exact .inr (.inr h)
    · rintro (h | h | h)
      · exact .inl (.inl h)
      · exact .inl (.inr h)
      · exact .inr h

theorem less_none {N : List Nd} {E : List Ed} {nx : Int} {M : List Nd} {F : List Ed} {mx : Int} (h1 : gE N E nx = 0) (h2 : gE M F mx = 0) (hs : ∀ x ∈ E, ∃ y ∈ F, y.frm = x.frm ∧ y.dst = x.dst ∧ y.typ = x.typ) (kind : ByteArray) : (lessP (allF N E kind) (allF M F kind)).length = 0 := by
  obtain ⟨hn, he⟩ := right_ids h1
  obtain ⟨hn', he'⟩ := right_ids h2
  rw [List.length_eq_zero_iff]
  unfold lessP
  rw [List.filter_eq_nil_iff]
  rintro ⟨a, b⟩ hp
  have : (a, b) ∈ allF M F kind := (mem_all kind hn' he' a b).2 (rch_more hs ((mem_all kind hn he a b).1 hp))
  simp [this]

/-- Where an edge of a right graph stands, and that none ahead has its number. -/
theorem edge_place {N : List Nd} {E : List Ed} {nx : Int} (hg : gE N E nx = 0) {x : Ed} (hx : x ∈ E) : ∃ k, E[k]? = some x ∧ ∀ (i : Nat) (y : Ed), i < k → E[i]? = some y → y.id ≠ x.id := by
  obtain ⟨k, hk⟩ := List.getElem?_of_mem hx
  refine ⟨k, hk, fun i y hi hy e => ?_⟩
  have := (gE_ok hg).riseE i k y.id x.id hi (by rw [List.getElem?_map, hy]; rfl) (by rw [List.getElem?_map, hk]; rfl)
  omega

set_option maxHeartbeats 16000000 in
set_option maxRecDepth 100000 in
theorem law_closes (N : List Nd) (E : List Ed) (na : Option Addr) (nl nc : Nat) (ea : Option Addr) (el ec : Nat) (nx : Int) (kind : ByteArray) (fr tt : Int) (w : World) (h : GrOk w N E na nl ea el) (hT : Tabs w.heap.size w) (hf : -9223372036854775808 ≤ fr) (htt : -9223372036854775808 ≤ tt) :
    Calls Tryz.prog 6 #[.agg #[.slice na nl nc, .slice ea el ec, .int .i64 nx], .string kind, .int .i64 fr, .int .i64 tt] w fun e w' => e = .returned (.bool true) ∧ Below w.heap.size w w' := by
  have hb0 : Below w.heap.size w (w.alloc (.cells #[.slice na nl nc, .slice ea el ec, .int .i64 nx] 25)) := (Below.refl _ _).alloc (Nat.le_refl _) _
  have HB := toHid hb0
  have HG := toHid (alloc_new w (.cells #[.slice na nl nc, .slice ea el ec, .int .i64 nx] 25))
  have HF := toHid hf
  have HTT := toHid htt
  have HT := toHid hT
  clear hb0 hf htt hT
  by_cases hg : gE N E nx = 0
  case neg =>
    have HA : Hid (∀ X, Below w.heap.size w X → Calls Tryz.prog 7 #[.agg #[.slice na nl nc, .slice ea el ec, .int .i64 nx], .string kind] X fun e w' => e = .returned (.tuple #[.slice none 0 0, .int .i64 (gE N E nx)]) ∧ Below X.heap.size X w') := fun X kx => all_bad h hg nc ec kind X kx
    generalize gE N E nx = er at HA hg
    have hz1 : (er != 0) = true := by simp [hg]
    clear h hg
    go_enter Tryz.func6, Tryz.ntmps6
    go_upto_region 1 with fail
    generalize w.alloc (.cells #[.slice na nl nc, .slice ea el ec, .int .i64 nx] 25) = X at HB HG ⊢
    have x0 := cell_of HG.out 0
    have x1 := cell_of HG.out 1
    have x2 := cell_of HG.out 2
    simp at x0 x1 x2
    have hl0 : w.heap.size < X.heap.size := blk_lt HG.out
    go_wp2_with fail
    refine (HA.out X HB.out).mono ?_
    rintro e w1 ⟨rfl, k1⟩
    have HB1 := toHid (below2 HB.out k1)
    clear x0 x1 x2 k1 hl0
    go_wp2_with fail
    refine (reached_true _).mono ?_
    rintro e w3 ⟨rfl, k3⟩
    have HB3 := toHid (below2 HB1.out k3)
    clear k3
    go_wp2_with fail
    refine (reached_true _).mono ?_
    rintro e w4 ⟨rfl, k4⟩
    have HB4 := toHid (below2 HB3.out k4)
    clear k4
    go_wp2_with fail
    go_ret
    exact ⟨rfl, HB4.out⟩
  have HGE := toHid hg
  have H := toHid h
  have HA : Hid (∀ X, Below w.heap.size w X → Calls Tryz.prog 7 #[.agg #[.slice na nl nc, .slice ea el ec, .int .i64 nx], .string kind] X fun e w' => ∃ v, e = .returned (.tuple #[v, .int .i64 0]) ∧ w'.ownsRow X.heap.size 33 2 v (allF N E kind).length (pcells (allF N E kind)) ∧ Below X.heap.size X w') := fun X kx => all_good h hg nc ec kind X kx
  have HAL : Hid ((allF N E kind).length ≤ 1000000) := (reached_facts hg kind).2.2.1
  have HTR : Hid (∀ p q : Int × Int, p ∈ allF N E kind → q ∈ allF N E kind → p.2 = q.1 → (p.1, q.2) ∈ allF N E kind) := by
    rintro ⟨a, b⟩ ⟨c, d⟩ h1 h2 e
    obtain ⟨hn, he⟩ := right_ids hg
    have e : b = c := e
    subst e
    exact all_trans kind hn he h1 h2
  have HRC : Hid ((fr, tt) ∈ allF N E kind ↔ Rch (wayF E kind) fr tt) := by
    obtain ⟨hn, he⟩ := right_ids hg
    exact mem_all kind hn he fr tt
  obtain ⟨A, hA⟩ : ∃ A, A = allF N E kind := ⟨_, rfl⟩
  rw [← hA] at HA HAL HTR HRC
  clear hA h hg
  have hmm : ∀ X : World, (Instr.makeMap 35 none).run Tryz.prog X = .ok (.map (some X.heap.size)) (X.alloc (.map #[] 0)) := fun X => rfl
  go_enter Tryz.func6, Tryz.ntmps6
  go_upto_region 1 with fail
  generalize w.alloc (.cells #[.slice na nl nc, .slice ea el ec, .int .i64 nx] 25) = X at HB HG ⊢
  have x0 := cell_of HG.out 0
  have x1 := cell_of HG.out 1
  have x2 := cell_of HG.out 2
  simp at x0 x1 x2
  have hl0 : w.heap.size < X.heap.size := blk_lt HG.out
  go_wp2_with fail
  refine (HA.out X HB.out).mono ?_
  rintro e w1 ⟨v1, rfl, hv1, k1⟩
  obtain ⟨a1, l1, c1, rfl⟩ := slice_row hv1
  have HP1 := toHid (prs_row hv1 HAL.out)
  have HB1 := toHid (below2 HB.out k1)
  have HG1 := toHid ((k1.block _ hl0).trans HG.out)
  clear x0 x1 x2 k1 hl0 hv1
  go_wp2_with fail
  refine (reached_true _).mono ?_
  rintro e w2 ⟨rfl, k2⟩
  have HB2 := toHid (below2 HB1.out k2)
  have HG2 := toHid ((k2.block _ (blk_lt HG1.out)).trans HG1.out)
  have HP2 := toHid (HP1.out.below k2)
  clear k2 HP1 HB1 HG1 HB HG
  go_wp2_with fail
  clear hmm
  go_loopg [44] l1 (fun g s44 wr => ∃ (i : Nat), i ≤ l1 ∧ l1 - i ≤ g ∧ s44 = .int .i64 i ∧ Rs w2 w2.heap.size [] ((A.take i).foldl putS []) wr)
  case atStart => exact ⟨0, Nat.zero_le _, by omega, rfl, (Below.refl _ _).alloc (Nat.le_refl _) _, mapB_new (alloc_new w2 _), Nat.le_refl _, fun q hq => by cases hq⟩
  case round =>
    obtain ⟨i, hi, hg, rfl, hrs⟩ := hrel
    have HR := toHid hrs
    clear hrs
    have hlb : l1 ≤ 1000000 := HP2.out.2.1
    by_cases hlt : i < l1
    · obtain ⟨b, off, ha, hb, hc⟩ := HP2.out.2.2 (by omega)
      subst ha
      obtain ⟨x, hx, _⟩ := drop_get (L := A) (i := i) (by have := HP2.out.1; omega)
      obtain ⟨c0, c1⟩ := hc i x hx
      have d0 := (HR.out.1.cell (p := ⟨b, off + i * 2, none⟩) hb).trans c0
      have d1 := (HR.out.1.cell (p := ⟨b, off + i * 2 + 1, none⟩) hb).trans c1
      have HX := toHid hx
      clear hc hx c0 c1 hb
      have hil : (i : Int) < l1 := by omega
      go_upto_region 8 with fail
      have HR1 := toHid (HR.out.alloc (.cells #[.int .i64 x.1, .int .i64 x.2] 33))
      generalize wr.alloc (.cells #[.int .i64 x.1, .int .i64 x.2] 33) = Wp at HR1 ⊢
      generalize wr.heap.size = pb at HR1 ⊢
      clear HR d0 d1
      have HBX := (HR1.out.2.2.2 _ (List.mem_cons_self ..)).1
      have y0 := cell_of HBX 0
      have y1 := cell_of HBX 1
      simp at y0 y1
      have hpl : pb < Wp.heap.size := (Array.getElem?_eq_some_iff.1 HBX).1
      have HTK := toHid (take_fold putS A i x HX.out [])
      obtain ⟨o, hup, hro⟩ := HR1.out.put x.1 x.2
      have HRO := toHid hro
      clear hro HBX
      go_wp2_with fail
      go_roundg (l1 - (i + 1))
      case measure => omega
      case rel => exact ⟨i + 1, by omega, Nat.le_refl _, by go_num, by rw [HTK.out]; exact HRO.out.less fun q hq => List.mem_cons_of_mem _ hq⟩
    · have he : i = l1 := by omega
      subst he
      have hall : A.take i = A := List.take_of_length_le (by have := HP2.out.1; omega)
      rw [hall] at HR
      have HKA : Hid (∀ p, p ∈ A.foldl putS [] ↔ p ∈ A) := fun p => by rw [mem_foldS]; simp
      generalize A.foldl putS [] = KA at HR HKA
      clear hall hlt hi hg hlb
      obtain ⟨l1, hl1⟩ : ∃ l, l = i := ⟨_, rfl⟩
      subst hl1
      go_wp2_with fail
      go_loopg [53] l1 (fun g s53 wr => ∃ (i : Nat), i ≤ l1 ∧ l1 - i ≤ g ∧ s53 = .int .i64 i ∧ Rs w2 w2.heap.size [] KA wr)
      case atStart => exact ⟨0, Nat.zero_le _, by omega, rfl, HR.out⟩
      case round =>
        clear HR
        obtain ⟨i, hi, hg, rfl, hrs⟩ := hrel
        have HR := toHid hrs
        clear hrs
        have hlb : l1 ≤ 1000000 := HP2.out.2.1
        by_cases hlt : i < l1
        · obtain ⟨b, off, ha, hb, hc⟩ := HP2.out.2.2 (by omega)
          subst ha
          have HC := toHid hc
          have HBL := toHid hb
          obtain ⟨x, hx, _⟩ := drop_get (L := A) (i := i) (by have := HP2.out.1; omega)
          obtain ⟨c0, c1⟩ := hc i x hx
          have d0 := (HR.out.1.cell (p := ⟨b, off + i * 2, none⟩) hb).trans c0
          have d1 := (HR.out.1.cell (p := ⟨b, off + i * 2 + 1, none⟩) hb).trans c1
          have HX := toHid (List.mem_of_getElem? hx)
          clear hc hx c0 c1 hb
          have hil : (i : Int) < l1 := by omega
          go_upto_region 13 with fail
          have HR1 := toHid (HR.out.alloc (.cells #[.int .i64 x.1, .int .i64 x.2] 33))
          generalize wr.alloc (.cells #[.int .i64 x.1, .int .i64 x.2] 33) = Wx at HR1 ⊢
          generalize wr.heap.size = pi at HR1 ⊢
          clear HR d0 d1
          go_wp2_with fail
          go_loopg [59] l1 (fun g s59 wr => ∃ (j : Nat), j ≤ l1 ∧ l1 - j ≤ g ∧ s59 = .int .i64 j ∧ Rs w2 w2.heap.size [(pi, .cells #[.int .i64 x.1, .int .i64 x.2] 33)] KA wr)
          case atStart => exact ⟨0, Nat.zero_le _, by omega, rfl, HR1.out⟩
          case round =>
            clear HR1
            obtain ⟨j, hj, hgj, rfl, hrs⟩ := hrel
            have HR := toHid hrs
            clear hrs
            by_cases hltj : j < l1
            · obtain ⟨y, hy, _⟩ := drop_get (L := A) (i := j) (by have := HP2.out.1; omega)
              obtain ⟨c0, c1⟩ := HC.out j y hy
              have d0 := (HR.out.1.cell (p := ⟨b, off + j * 2, none⟩) HBL.out).trans c0
              have d1 := (HR.out.1.cell (p := ⟨b, off + j * 2 + 1, none⟩) HBL.out).trans c1
              have HY := toHid (List.mem_of_getElem? hy)
              clear hy c0 c1
              have hjl : (j : Int) < l1 := by omega
              go_upto_region 16 with fail
              have HR2 := toHid (HR.out.alloc (.cells #[.int .i64 y.1, .int .i64 y.2] 33))
              generalize wr.alloc (.cells #[.int .i64 y.1, .int .i64 y.2] 33) = Wy at HR2 ⊢
              generalize wr.heap.size = pj at HR2 ⊢
              clear HR d0 d1
              have B1 := (HR2.out.2.2.2 _ (List.mem_cons_self ..)).1
              have B2 := (HR2.out.2.2.2 _ (List.mem_cons_of_mem _ (List.mem_cons_self ..))).1
              have y0 := cell_of B1 0
              have y1 := cell_of B1 1
              have x0 := cell_of B2 0
              have x1 := cell_of B2 1
              simp at y0 y1 x0 x1
              have hp1 : pj < Wy.heap.size := (Array.getElem?_eq_some_iff.1 B1).1
              have hp2 : pi < Wy.heap.size := (Array.getElem?_eq_some_iff.1 B2).1
              have ask := HR2.out.ask x.1 y.2
              clear B1 B2
              by_cases hxy : x.2 = y.1
              · have hin : (x.1, y.2) ∈ KA := (HKA.out _).2 (HTR.out x y HX.out HY.out hxy)
                rw [decide_eq_true hin] at ask
                have he : (x.2 == y.1) = true := by simp [hxy]
                clear hxy hin
                go_wp2_with fail
                go_roundg (l1 - (j + 1))
                case measure => omega
                case rel => exact ⟨j + 1, by omega, Nat.le_refl _, by go_num, HR2.out.less fun q hq => List.mem_cons_of_mem _ hq⟩
              · have he : (x.2 == y.1) = false := by simp [hxy]
                clear hxy ask
                go_wp2_with fail
                go_roundg (l1 - (j + 1))
                case measure => omega
                case rel => exact ⟨j + 1, by omega, Nat.le_refl _, by go_num, HR2.out.less fun q hq => List.mem_cons_of_mem _ hq⟩
            · have he : j = l1 := by omega
              subst he
              go_wp2_with fail
              go_roundg (j - (i + 1))
              case measure => omega
              case rel => exact ⟨i + 1, by omega, Nat.le_refl _, by go_num, HR.out.less fun q hq => by cases hq⟩
        · have he : i = l1 := by omega
          subst he
          have HBR := toHid (below2 HB2.out HR.out.1)
          have HGR := toHid ((HR.out.1.block _ (blk_lt HG2.out)).trans HG2.out)
          have HMR := toHid HR.out.2.1
          clear HR HTR hlt hi hg hlb
          by_cases hr : Rch (wayF E kind) fr tt
          case neg =>
            have HPN := toHid fun (W : World) (k : Below w.heap.size w W) => path_no H.out HGE.out nc ec kind fr tt hr W k
            have hin : ¬ (fr, tt) ∈ KA := fun e => hr (HRC.out.1 ((HKA.out _).1 e))
            have HIN := toHid hin
            clear hr hin
            have x0 := cell_of HGR.out 0
            have x1 := cell_of HGR.out 1
            have x2 := cell_of HGR.out 2
            simp at x0 x1 x2
            have hlg : w.heap.size < wr.heap.size := blk_lt HGR.out
            go_wp2_with fail
            refine (HPN.out wr HBR.out).mono ?_
            rintro e w4 ⟨rfl, k4⟩
            have HB4 := toHid (below2 HBR.out k4)
            have HG4 := toHid ((k4.block _ hlg).trans HGR.out)
            have HM4 := toHid (HMR.out.of (k4.block _ HMR.out.lt))
            have ask : (Instr.lookup 35 (.map (some w2.heap.size)) (.agg #[.int .i64 fr, .int .i64 tt]) false).run Tryz.prog w4 = .ok (.bool (decide ((fr, tt) ∈ KA))) w4 := run_lookup_b HM4.out (fr, tt)
            rw [decide_eq_false HIN.out] at ask
            clear x0 x1 x2 k4 hlg HPN HBR HGR HMR
            go_wp2_with fail
            clear ask
            go_loopg [99] 0 (fun g s99 wr => s99 = .int .i64 0 ∧ wr = w4)
            case atStart => exact ⟨rfl, rfl⟩
            case round =>
              obtain ⟨rfl, rfl⟩ := hrel
              have HBr := HB4
              have HGr := HG4
              clear HB4 HG4 HM4
              go_upto_region 34 with fail
              -- an edge more
              have x0 := cell_of HGr.out 0
              have x1 := cell_of HGr.out 1
              have x2 := cell_of HGr.out 2
              simp at x0 x1 x2
              have hlr : w.heap.size < wr.heap.size := blk_lt HGr.out
              have HBo : Hid (Below w.heap.size w (wr.alloc (.cells #[.int .i64 2, .int .i64 0, .int .i64 fr, .int .i64 tt, .string ⟨#[75]⟩, .int .i64 0, .int .i64 0, .string ⟨#[]⟩, .slice none 0 0, .slice none 0 0, .slice none 0 0] 68))) := HBr.out.alloc HBr.out.size _
              have HGo : Hid ((wr.alloc (.cells #[.int .i64 2, .int .i64 0, .int .i64 fr, .int .i64 tt, .string ⟨#[75]⟩, .int .i64 0, .int .i64 0, .string ⟨#[]⟩, .slice none 0 0, .slice none 0 0, .slice none 0 0] 68)).heap[w.heap.size]? = some (.cells #[.slice na nl nc, .slice ea el ec, .int .i64 nx] 25 (0, 0))) := (Below.heap_alloc _ _ _ hlr).trans HGr.out
              have HAP := toHid (apply_edge (H.out.below HBo.out) HGE.out nc ec HBo.out.size (HT.out.below HBo.out) fr tt HF.out HTT.out wr.heap.size (alloc_new wr (.cells #[.int .i64 2, .int .i64 0, .int .i64 fr, .int .i64 tt, .string ⟨#[75]⟩, .int .i64 0, .int .i64 0, .string ⟨#[]⟩, .slice none 0 0, .slice none 0 0, .slice none 0 0] 68)))
              go_wp2_with fail
              refine HAP.out.mono ?_
              clear x0 x1 x2
              rintro e w6 ⟨hend, k6⟩
              have HB6 := toHid (below2 HBo.out k6)
              have HG6 := toHid ((k6.block _ (blk_lt HGo.out)).trans HGo.out)
              clear k6 HAP
              rcases hend with ⟨i6, er6, her6, rfl⟩ | ⟨N', E', na', nl', nc', ea', el', ec', nx', ma, ml, mc, rfl, hG', hg', hsub⟩
              · have hz6 : (er6 != 0) = true := by simp [her6]
                have HB7 : Hid (Below w.heap.size w (w6.alloc (.cells #[.slice none 0 0, .slice none 0 0, .int .i64 0] 25))) := HB6.out.alloc HB6.out.size _
                unfold zeroGr
                go_wp2_with fail
                go_ret
                exact ⟨rfl, HB7.out⟩
              · have HB7 : Hid (Below w.heap.size w (w6.alloc (.cells #[.slice na' nl' nc', .slice ea' el' ec', .int .i64 nx'] 25))) := HB6.out.alloc HB6.out.size _
                have HG7 : Hid ((w6.alloc (.cells #[.slice na' nl' nc', .slice ea' el' ec', .int .i64 nx'] 25)).heap[w.heap.size]? = some (.cells #[.slice na nl nc, .slice ea el ec, .int .i64 nx] 25 (0, 0))) := (Below.heap_alloc _ _ _ (blk_lt HG6.out)).trans HG6.out
                have HH7 := toHid (alloc_new w6 (.cells #[.slice na' nl' nc', .slice ea' el' ec', .int .i64 nx'] 25))
                have hk7 : Below w6.heap.size w6 (w6.alloc (.cells #[.slice na' nl' nc', .slice ea' el' ec', .int .i64 nx'] 25)) := (Below.refl _ _).alloc (Nat.le_refl _) _
                have HCH := toHid (change_full (H.out.below HB6.out) nx hG' nx' nc ec nc' ec' kind _ hk7 0 (by rw [if_pos HGE.out]; exact hg'.symm))
                have HNO := toHid (less_none HGE.out hg' hsub kind)
                clear hk7 hG' hg' hsub
                go_upto_region 35 with fail
                generalize w6.alloc (.cells #[.slice na' nl' nc', .slice ea' el' ec', .int .i64 nx'] 25) = w7 at HB7 HG7 HH7 HCH ⊢
                have x0 := cell_of HG7.out 0
                have x1 := cell_of HG7.out 1
                have x2 := cell_of HG7.out 2
                have z0 := cell_of HH7.out 0
                have z1 := cell_of HH7.out 1
                have z2 := cell_of HH7.out 2
                simp at x0 x1 x2 z0 z1 z2
                have hl7 := blk_lt HG7.out
                have hh7 := blk_lt HH7.out
                go_wp2_with fail
                refine HCH.out.mono ?_
                rintro e w8 ⟨b1, q1, d1, b2, q2, d2, rfl, _, hr8, k8⟩
                have hq : q1 = 0 := by
                  have h8 := (row_len (hr8 (by simp)).1).1
                  rw [HNO.out] at h8
                  exact h8
                subst hq
                have HB8 := toHid (below2 HB7.out k8)
                clear hr8 k8 x0 x1 x2 z0 z1 z2 hl7 hh7
                go_wp2_with fail
                go_ret
                exact ⟨rfl, HB8.out⟩
          case pos =>
            obtain ⟨L, hL0, hway, hmem, hLl, hpath⟩ := path_yes H.out HGE.out nc ec kind fr tt hr
            have HPY := toHid hpath
            have hin : (fr, tt) ∈ KA := (HKA.out _).2 (HRC.out.2 hr)
            have HIN := toHid hin
            have HL0 := toHid hL0
            have HWAY := toHid hway
            have HMEM := toHid hmem
            clear hr hin hL0 hway hmem hpath
            have x0 := cell_of HGR.out 0
            have x1 := cell_of HGR.out 1
            have x2 := cell_of HGR.out 2
            simp at x0 x1 x2
            have hlg : w.heap.size < wr.heap.size := blk_lt HGR.out
            go_wp2_with fail
            refine (HPY.out wr HBR.out).mono ?_
            rintro e w4 ⟨v4, rfl, hv4, k4⟩
            obtain ⟨a4, l4, c4, rfl⟩ := slice_int hv4
            have HI4 : Hid (IntsAt w4 (L.map (·.id)) a4 l4) := toHid (ints_row (L := L.map (fun x : Ed => x.id)) (by rw [List.length_map]; exact hv4))
            have HB4 := toHid (below2 HBR.out k4)
            have HG4 := toHid ((k4.block _ hlg).trans HGR.out)
            have HM4 := toHid (HMR.out.of (k4.block _ HMR.out.lt))
            have ask : (Instr.lookup 35 (.map (some w2.heap.size)) (.agg #[.int .i64 fr, .int .i64 tt]) false).run Tryz.prog w4 = .ok (.bool (decide ((fr, tt) ∈ KA))) w4 := run_lookup_b HM4.out (fr, tt)
            rw [decide_eq_true HIN.out] at ask
            clear x0 x1 x2 k4 hlg HPY HBR HGR HMR hv4
            go_wp2_with fail
            clear ask HM4
            go_loopg [19, 99] l4 (fun g s19 s99 wr => ∃ (k : Nat) (p : Int), k ≤ l4 ∧ l4 - k ≤ g ∧ s19 = .int .i64 p ∧ s99 = .int .i64 k ∧ WayL p (L.drop k) tt ∧ Below w4.heap.size w4 wr)
            case atStart => exact ⟨0, fr, Nat.zero_le _, by omega, rfl, rfl, HWAY.out, Below.refl _ _⟩
            case round =>
              obtain ⟨k, p, hk, hgk, rfl, rfl, hwy, hbw⟩ := hrel
              have HWY := toHid hwy
              have HBW := toHid hbw
              clear hwy hbw
              have HLL : Hid (l4 = L.length) := by
                show _ = _
                have := HI4.out.1
                rw [List.length_map] at this
                exact this
              have hl4b : l4 ≤ 1000 := by have := HLL.out; omega
              by_cases hlt : k < l4
              · obtain ⟨x, hx, hdr⟩ := drop_get (L := L) (i := k) (by have := HLL.out; omega)
                obtain ⟨b, off, ha, hb, hc⟩ := HI4.out.2.2 (by omega)
                subst ha
                have c0 := hc k x.id (by rw [List.getElem?_map, hx]; rfl)
                have d0 := (HBW.out.cell (p := ⟨b, off + k, none⟩) hb).trans c0
                have HXE := toHid (HMEM.out x (List.mem_of_getElem? hx))
                have hw2 := HWY.out
                rw [hdr] at hw2
                obtain ⟨hpx, hw3⟩ := hw2
                have HW3 := toHid hw3
                subst hpx
                clear hc c0 hb hx hdr hw3 HWY
                obtain ⟨n, hn, hun⟩ := edge_place HGE.out HXE.out
                have HN := toHid hn
                have HUN := toHid hun
                clear hn hun
                have hkl : (k : Int) < l4 := by omega
                go_upto_region 27 with fail
                have HBX := toHid (alloc_new wr (.cells #[.int .i64 x.id] 3))
                have HBp := toHid (HBW.out.alloc HBW.out.size (.cells #[.int .i64 x.id] 3))
                generalize wr.alloc (.cells #[.int .i64 x.id] 3) = Wp at HBX HBp ⊢
                generalize wr.heap.size = pb at HBX ⊢
                clear HBW d0
                have HBQ := toHid (below2 HB4.out HBp.out)
                have HGQ := toHid ((HBp.out.block _ (blk_lt HG4.out)).trans HG4.out)
                have hel : el ≤ 1000 := (few_of H.out HGE.out).2
                have HEX := toHid (H.out.below HBQ.out).2.1
                have HIX := toHid (edgeIdx_any E ea el ec n x pb Wp HEX.out HN.out HUN.out HBX.out hel)
                have hnl : n < el := by rw [HEX.out.1]; exact (List.getElem?_eq_some_iff.1 HN.out).1
                have x1 := cell_of HGQ.out 1
                simp at x1
                have hlg : w.heap.size < Wp.heap.size := blk_lt HGQ.out
                have hpb : pb < Wp.heap.size := blk_lt HBX.out
                go_wp2_with fail
                refine HIX.out.mono ?_
                rintro e w5 ⟨rfl, k5⟩
                have HBw := toHid (below2 HBp.out k5)
                have HG5 := toHid ((k5.block _ hlg).trans HGQ.out)
                obtain ⟨be, oe, hae, hbe, hce⟩ := HEX.out.2.2 (by omega)
                subst hae
                obtain ⟨_, _, q1, q2, _, _⟩ := hce n x HN.out
                have e1 := (k5.cell (p := ⟨be, oe + n * 5 + 1, none⟩) hbe).trans q1
                have e2 := (k5.cell (p := ⟨be, oe + n * 5 + 1 + 1, none⟩) hbe).trans q2
                clear x1 hlg hpb k5 hce q1 q2 hbe HIX HEX HGQ HBQ HBX HBp
                have x1 := cell_of HG5.out 1
                simp at x1
                have hlg : w.heap.size < w5.heap.size := blk_lt HG5.out
                have hn0 : ¬ ((n : Int) < 0) := by omega
                have hn1 : decide ((n : Int) < 0) = false := by simp
                have hni : (n : Int) < el := by omega
                have hne : (x.frm != x.frm) = false := by simp
                go_wp2_with fail
                go_roundg (l4 - (k + 1))
                case measure => omega
                case rel => exact ⟨k + 1, x.dst, by omega, Nat.le_refl _, rfl, by go_num, HW3.out, HBw.out⟩
              · have he : k = l4 := by omega
                have hdn : L.drop k = [] := List.drop_eq_nil_of_le (by have := HLL.out; omega)
                have hpt : p = tt := by
                  have := HWY.out
                  rw [hdn] at this
                  exact this
                have hl4 : 0 < l4 := by
                  have h1 := HLL.out
                  have h2 : 0 < L.length := List.length_pos_iff.2 HL0.out
                  omega
                have hl4e : ((l4 : Int) == 0) = false := by simp; omega
                subst he
                subst hpt
                have hpe : (p != p) = false := by simp
                clear hdn HWY HLL
                have HBr := toHid (below2 HB4.out HBW.out)
                have HGr := toHid ((HBW.out.block _ (blk_lt HG4.out)).trans HG4.out)
                clear HB4 HG4 HBW hlt
                go_upto_region 34 with fail
                -- an edge more
                have x0 := cell_of HGr.out 0
                have x1 := cell_of HGr.out 1
                have x2 := cell_of HGr.out 2
                simp at x0 x1 x2
                have hlr : w.heap.size < wr.heap.size := blk_lt HGr.out
                have HBo : Hid (Below w.heap.size w (wr.alloc (.cells #[.int .i64 2, .int .i64 0, .int .i64 fr, .int .i64 p, .string ⟨#[75]⟩, .int .i64 0, .int .i64 0, .string ⟨#[]⟩, .slice none 0 0, .slice none 0 0, .slice none 0 0] 68))) := HBr.out.alloc HBr.out.size _
                have HGo : Hid ((wr.alloc (.cells #[.int .i64 2, .int .i64 0, .int .i64 fr, .int .i64 p, .string ⟨#[75]⟩, .int .i64 0, .int .i64 0, .string ⟨#[]⟩, .slice none 0 0, .slice none 0 0, .slice none 0 0] 68)).heap[w.heap.size]? = some (.cells #[.slice na nl nc, .slice ea el ec, .int .i64 nx] 25 (0, 0))) := (Below.heap_alloc _ _ _ hlr).trans HGr.out
                have HAP := toHid (apply_edge (H.out.below HBo.out) HGE.out nc ec HBo.out.size (HT.out.below HBo.out) fr p HF.out HTT.out wr.heap.size (alloc_new wr (.cells #[.int .i64 2, .int .i64 0, .int .i64 fr, .int .i64 p, .string ⟨#[75]⟩, .int .i64 0, .int .i64 0, .string ⟨#[]⟩, .slice none 0 0, .slice none 0 0, .slice none 0 0] 68)))
                go_wp2_with fail
                refine HAP.out.mono ?_
                clear x0 x1 x2
                rintro e w6 ⟨hend, k6⟩
                have HB6 := toHid (below2 HBo.out k6)
                have HG6 := toHid ((k6.block _ (blk_lt HGo.out)).trans HGo.out)
                clear k6 HAP
                rcases hend with ⟨i6, er6, her6, rfl⟩ | ⟨N', E', na', nl', nc', ea', el', ec', nx', ma, ml, mc, rfl, hG', hg', hsub⟩
                · have hz6 : (er6 != 0) = true := by simp [her6]
                  have HB7 : Hid (Below w.heap.size w (w6.alloc (.cells #[.slice none 0 0, .slice none 0 0, .int .i64 0] 25))) := HB6.out.alloc HB6.out.size _
                  unfold zeroGr
                  go_wp2_with fail
                  go_ret
                  exact ⟨rfl, HB7.out⟩
                · have HB7 : Hid (Below w.heap.size w (w6.alloc (.cells #[.slice na' nl' nc', .slice ea' el' ec', .int .i64 nx'] 25))) := HB6.out.alloc HB6.out.size _
                  have HG7 : Hid ((w6.alloc (.cells #[.slice na' nl' nc', .slice ea' el' ec', .int .i64 nx'] 25)).heap[w.heap.size]? = some (.cells #[.slice na nl nc, .slice ea el ec, .int .i64 nx] 25 (0, 0))) := (Below.heap_alloc _ _ _ (blk_lt HG6.out)).trans HG6.out
                  have HH7 := toHid (alloc_new w6 (.cells #[.slice na' nl' nc', .slice ea' el' ec', .int .i64 nx'] 25))
                  have hk7 : Below w6.heap.size w6 (w6.alloc (.cells #[.slice na' nl' nc', .slice ea' el' ec', .int .i64 nx'] 25)) := (Below.refl _ _).alloc (Nat.le_refl _) _
                  have HCH := toHid (change_full (H.out.below HB6.out) nx hG' nx' nc ec nc' ec' kind _ hk7 0 (by rw [if_pos HGE.out]; exact hg'.symm))
                  have HNO := toHid (less_none HGE.out hg' hsub kind)
                  clear hk7 hG' hg' hsub
                  go_upto_region 35 with fail
                  generalize w6.alloc (.cells #[.slice na' nl' nc', .slice ea' el' ec', .int .i64 nx'] 25) = w7 at HB7 HG7 HH7 HCH ⊢
                  have x0 := cell_of HG7.out 0
                  have x1 := cell_of HG7.out 1
                  have x2 := cell_of HG7.out 2
                  have z0 := cell_of HH7.out 0
                  have z1 := cell_of HH7.out 1
                  have z2 := cell_of HH7.out 2
                  simp at x0 x1 x2 z0 z1 z2
                  have hl7 := blk_lt HG7.out
                  have hh7 := blk_lt HH7.out
                  go_wp2_with fail
                  refine HCH.out.mono ?_
                  rintro e w8 ⟨b1, q1, d1, b2, q2, d2, rfl, _, hr8, k8⟩
                  have hq : q1 = 0 := by
                    have h8 := (row_len (hr8 (by simp)).1).1
                    rw [HNO.out] at h8
                    exact h8
                  subst hq
                  have HB8 := toHid (below2 HB7.out k8)
                  clear hr8 k8 x0 x1 x2 z0 z1 z2 hl7 hh7
                  go_wp2_with fail
                  go_ret
                  exact ⟨rfl, HB8.out⟩
end Go.Proofs.YtebbjmjgojekdaaGreatDoor
