/-
  What is proved here: what the texts RWithout, GProp, GProp2, GKnows prove, in one text.
-/
import Derived.Test.YtkdadaggolcboaaDoorRMapP
import Derived.Test.YtkdadaggolcboaaDoorQRAP
import Derived.Deep.RegionLaw
import Derived.Test.YtkdadaggolcboaaDoorQRAL
import Derived.Test.YtkdadaggolcboaaDoorQRAF
namespace Go.Proofs.YtkdadaggolcboaaDoor
open Go.RowKit
set_option linter.unusedVariables false

set_option linter.unusedSimpArgs false

/-- A row of pairs that may be read. -/
def PrsAt (w : World) (L : List (Int × Int)) (a : Option Addr) (l : Nat) : Prop := l = L.length ∧ l ≤ 1000000 ∧ (0 < l → ∃ b off, a = some ⟨b, off, none⟩ ∧ b < w.heap.size ∧ ∀ i p, L[i]? = some p → w.cell? ⟨b, off + i * 2, none⟩ = some (.int .i64 p.1) ∧ w.cell? ⟨b, off + i * 2 + 1, none⟩ = some (.int .i64 p.2))

theorem PrsAt.below {w w' : World} (k : Below w.heap.size w w') {L : List (Int × Int)} {a : Option Addr} {l : Nat} (h : PrsAt w L a l) : PrsAt w' L a l := by
  obtain ⟨h1, h2, h3⟩ := h
  refine ⟨h1, h2, fun h0 => ?_⟩
  obtain ⟨b, off, e, hb, hc⟩ := h3 h0
  refine ⟨b, off, e, Nat.lt_of_lt_of_le hb k.size, fun i p hp => ?_⟩
  obtain ⟨c0, c1⟩ := hc i p hp
  exact ⟨(k.cell (p := ⟨b, off + i * 2, none⟩) hb).trans c0, (k.cell (p := ⟨b, off + i * 2 + 1, none⟩) hb).trans c1⟩

def countP2 (L : List (Int × Int)) (p : Int × Int) : Nat := L.countP fun q => decide (q = p)

theorem count_take {L : List (Int × Int)} {i : Nat} {x : Int × Int} (h : L[i]? = some x) : (fun q => if q = x then countP2 (L.take i) q + 1 else countP2 (L.take i) q) = countP2 (L.take (i + 1)) := by
  funext q
  unfold countP2
  rw [List.take_add_one, h]
  by_cases hq : q = x
  · subst hq
    simp
  · have : ¬ x = q := fun e => hq e.symm
    simp [hq, this]

theorem less_take {L : List (Int × Int)} {j : Nat} {x : Int × Int} (h : L[j]? = some x) (M : List (Int × Int)) : lessP (L.take (j + 1)) M = if countP2 M x = 0 then lessP (L.take j) M ++ [x] else lessP (L.take j) M := by
  unfold lessP
  rw [List.take_add_one, h]
  simp only [Option.toList_some, List.filter_append]
  have hc : countP2 M x = 0 ↔ M.contains x = false := by
    unfold countP2
    rw [List.countP_eq_zero]
    constructor
    · intro hh
      cases hx : M.contains x with
      | false => rfl
      | true =>
        have hm : x ∈ M := by simpa using hx
        exact absurd (hh x hm) (by simp)
    · intro hh y hy e
      have e : y = x := by simpa using e
      subst e
      have : M.contains y = true := by simpa using hy
      rw [hh] at this
      cases this
  by_cases h0 : countP2 M x = 0
  · rw [if_pos h0]
    have hnm : ¬ x ∈ M := by simpa using hc.1 h0
    simp [hnm]
  · rw [if_neg h0]
    have : M.contains x = true := by
      cases hx : M.contains x with
      | true => rfl
      | false => exact absurd (hc.2 hx) h0
    have hm : x ∈ M := by simpa using this
    simp [hm]

theorem run_among (w : World) : (Instr.makeMap 60 none).run Tryd.prog w = .ok (.map (some w.heap.size)) (w.alloc (.map #[] 0)) := rfl

set_option maxHeartbeats 4000000 in
set_option maxRecDepth 100000 in
theorem without_any (L M : List (Int × Int)) (a : Option Addr) (l c : Nat) (a' : Option Addr) (l' c' : Nat) (w : World) (hL : PrsAt w L a l) (hM : PrsAt w M a' l') :
    Calls Tryd.prog 11 #[.slice a l c, .slice a' l' c'] w fun e w' => ∃ v, e = .returned v ∧ w'.ownsRow w.heap.size 34 2 v (lessP L M).length (pcells (lessP L M)) ∧ Below w.heap.size w w' := by
  obtain ⟨hl1, hl2, hl3⟩ := hL
  obtain ⟨hm1, hm2, hm3⟩ := hM
  have HL1 := toHid hl1
  have HL3 := toHid hl3
  have HM1 := toHid hm1
  have HM3 := toHid hm3
  clear hl1 hl3 hm1 hm3
  have hmm := fun X : World => run_among X
  go_enter Tryd.func11, Tryd.ntmps11
  go_wp2_with fail
  go_loopg [14] l' (fun g s14 wr => ∃ (i : Nat), i ≤ l' ∧ l' - i ≤ g ∧ s14 = .int .i64 i ∧ MapP wr w.heap.size (countP2 (M.take i)) ∧ Below w.heap.size w wr)
  case atStart => exact ⟨0, Nat.zero_le _, by omega, rfl, mapP_new (alloc_new w (.map #[] 0)), (Below.refl _ _).alloc (Nat.le_refl _) _⟩
  case round =>
    obtain ⟨i, hi, hg, rfl, hmp, hbw⟩ := hrel
    by_cases hlt : i < l'
    · obtain ⟨b, off, ha, hb, hc⟩ := HM3.out (by omega)
      subst ha
      obtain ⟨x, hx, _⟩ := drop_get (L := M) (i := i) (by have := HM1.out; omega)
      obtain ⟨c0, c1⟩ := hc i x hx
      have d0 := (hbw.cell (p := ⟨b, off + i * 2, none⟩) hb).trans c0
      have d1 := (hbw.cell (p := ⟨b, off + i * 2 + 1, none⟩) hb).trans c1
      have HX := toHid hx
      have HMP := toHid hmp
      clear hc hx c0 c1 hmp
      have hil : (i : Int) < l' := by omega
      go_upto_region 5 with fail
      have HBX := toHid (alloc_new wr (.cells #[.int .i64 x.1, .int .i64 x.2] 34))
      have HBW := toHid (hbw.alloc hbw.size (.cells #[.int .i64 x.1, .int .i64 x.2] 34))
      have HMQ : Hid (MapP (wr.alloc (.cells #[.int .i64 x.1, .int .i64 x.2] 34)).drew w.heap.size (countP2 (M.take i))) := HMP.out.of (by
        exact Below.heap_alloc _ _ _ HMP.out.lt)
      generalize wr.alloc (.cells #[.int .i64 x.1, .int .i64 x.2] 34) = Wp at HBX HBW HMQ ⊢
      have hcb : countP2 (M.take i) x ≤ 1000000 := by
        refine Nat.le_trans List.countP_le_length ?_
        rw [List.length_take]
        omega
      have l1 := run_lookup_p HMQ.out x
      obtain ⟨stamp, v0, o1, m1, mm, hst⟩ := run_count_p HMQ.out x (.int .i64 ((countP2 (M.take i) x : Int) + 1))
      have hlt1 : w.heap.size < Wp.drew.heap.size := HMQ.out.lt
      have hh1 : (putB Wp.drew w.heap.size o1).heap[w.heap.size]? = some o1 := putB_here hlt1 o1
      have l2 := run_lookup_p (mm _ hh1) x
      obtain ⟨o2, s1, hfin⟩ := hst _ hh1
      have hh2 : (putB (putB Wp.drew w.heap.size o1) w.heap.size o2).heap[w.heap.size]? = some o2 := putB_here (by rw [putB_size]; exact hlt1) o2
      have HFIN := toHid (hfin rfl _ hh2)
      have HBF : Hid (Below w.heap.size w (putB (putB Wp.drew w.heap.size o1) w.heap.size o2)) := (HBW.out.drew.trans (putB_bel _ _ _ _ (Nat.le_refl _))).trans (putB_bel _ _ _ _ (Nat.le_refl _))
      have hne : wr.heap.size ≠ w.heap.size := by have := HMP.out.lt; omega
      have hbq : (putB Wp.drew w.heap.size o1).heap[wr.heap.size]? = some (.cells #[.int .i64 x.1, .int .i64 x.2] 34 (0, 0)) := (putB_other _ _ _ _ hne).trans HBX.out
      have y0 := cell_of HBX.out 0
      have y1 := cell_of HBX.out 1
      have z0 := cell_of hbq 0
      have z1 := cell_of hbq 1
      simp at y0 y1 z0 z1
      have hwrap : IntKind.i64.wrap ((countP2 (M.take i) x : Int) + 1) = (countP2 (M.take i) x : Int) + 1 := by
        simp [IntKind.wrap, IntKind.bits, IntKind.signed]
        omega
      have hpl : wr.heap.size < Wp.heap.size := blk_lt HBX.out
      clear hst hfin mm hh1 hh2 hbq d0 d1
      go_region_law (fail)
      all_goals
        clear l1 l2 m1 s1 y0 y1 z0 z1
        generalize putB (putB Wp.drew w.heap.size o1) w.heap.size o2 = WZ at HFIN HBF ⊢
        go_wp2_with fail
        go_roundg (l' - (i + 1))
        case measure => omega
        case rel => exact ⟨i + 1, by omega, by omega, by go_num, by rw [← count_take HX.out]; exact HFIN.out, HBF.out⟩
    · have he : i = l' := by omega
      subst he
      have htk : M.take i = M := List.take_of_length_le (by have := HM1.out; omega)
      rw [htk] at hmp
      have HMP := toHid hmp
      have HBW := toHid hbw
      clear hmp hbw HM1 HM3
      go_wp2_with fail
      obtain ⟨i0, hi0, hz0, hs0, hb0⟩ := pair_info
      have HLT := toHid HMP.out.lt
      go_loopg [8, 27] l (fun g s8 s27 wr => ∃ (j : Nat) (va : Option Addr) (n cap : Nat), j ≤ l ∧ l - j ≤ g ∧ s27 = .int .i64 j ∧ s8 = .slice va n cap ∧ wr.ownsRow (w.heap.size + 1) 34 2 (.slice va n cap) (lessP (L.take j) M).length (pcells (lessP (L.take j) M)) ∧ MapP wr w.heap.size (countP2 M) ∧ Below w.heap.size w wr)
      case atStart => exact ⟨0, none, 0, 0, Nat.zero_le _, by omega, rfl, rfl, World.ownsRow_nil _ _ _ _, HMP.out, HBW.out⟩
      case round =>
        clear HMP HBW HLT
        obtain ⟨j, va, n, cap, hj, hg2, rfl, rfl, hrow, hmp, hbw⟩ := hrel
        have HROW := toHid hrow
        have HMP := toHid hmp
        clear hrow hmp
        by_cases hlt : j < l
        · obtain ⟨b, off, ha, hb, hc⟩ := HL3.out (by omega)
          subst ha
          obtain ⟨x, hx, _⟩ := drop_get (L := L) (i := j) (by have := HL1.out; omega)
          obtain ⟨c0, c1⟩ := hc j x hx
          have d0 := (hbw.cell (p := ⟨b, off + j * 2, none⟩) hb).trans c0
          have d1 := (hbw.cell (p := ⟨b, off + j * 2 + 1, none⟩) hb).trans c1
          have HX := toHid hx
          have HBW := toHid (hbw.alloc hbw.size (.cells #[.int .i64 x.1, .int .i64 x.2] 34))
          have HLT := toHid HMP.out.lt
          clear hc hx c0 c1 hbw
          have hjl : (j : Int) < l := by omega
          go_upto_region 11 with fail
          have HBX := toHid (alloc_new wr (.cells #[.int .i64 x.1, .int .i64 x.2] 34))
          have HMQ : Hid (MapP (wr.alloc (.cells #[.int .i64 x.1, .int .i64 x.2] 34)) w.heap.size (countP2 M)) := HMP.out.of (Below.heap_alloc _ _ _ HMP.out.lt)
          have HRQ : Hid ((wr.alloc (.cells #[.int .i64 x.1, .int .i64 x.2] 34)).ownsRow (w.heap.size + 1) 34 2 (.slice va n cap) (lessP (L.take j) M).length (pcells (lessP (L.take j) M))) := row_kept1 HROW.out fun g hg => Below.heap_alloc _ _ _ (HROW.out.lt g hg).2
          generalize wr.alloc (.cells #[.int .i64 x.1, .int .i64 x.2] 34) = Wp at HBX HBW HMQ HRQ ⊢
          clear d0 d1
          have y0 := cell_of HBX.out 0
          have y1 := cell_of HBX.out 1
          simp at y0 y1
          have hpl : wr.heap.size < Wp.heap.size := blk_lt HBX.out
          have l1 := run_lookup_p HMQ.out x
          have HLS := toHid (less_take HX.out M)
          obtain ⟨cn, hcn⟩ : ∃ cn, cn = countP2 M x := ⟨_, rfl⟩
          rw [← hcn] at l1
          have HCN := toHid hcn
          clear hcn
          by_cases h0 : cn = 0
          · subst h0
            have hls : lessP (L.take (j + 1)) M = lessP (L.take j) M ++ [x] := by rw [HLS.out, if_pos HCN.out.symm]
            have hlen : (lessP (L.take j) M).length ≤ 1000000 := by
              refine Nat.le_trans (List.length_filter_le _ _) ?_
              rw [List.length_take]
              omega
            obtain ⟨nn, hnn⟩ : ∃ nn, nn = (lessP (L.take j) M).length := ⟨_, rfl⟩
            have HNN := toHid hnn
            have hrq := HRQ.out
            rw [← hnn] at hrq hlen
            have HR2 : Hid ((Wp.alloc (.cells #[.int .i64 x.1, .int .i64 x.2] 34)).ownsRow (w.heap.size + 1) 34 2 (.slice va n cap) nn (pcells (lessP (L.take j) M))) := row_kept1 hrq fun g hg => Below.heap_alloc _ _ _ (hrq.lt g hg).2
            have HN2 := toHid (alloc_new Wp (.cells #[.int .i64 x.1, .int .i64 x.2] 34))
            have HBQ := toHid (HBW.out.alloc HBW.out.size (.cells #[.int .i64 x.1, .int .i64 x.2] 34))
            have HLQ := toHid HMQ.out.lt
            clear hnn hrq
            go_wp2_with (at_builtin; refine wpList_append_both _ (by rfl) _ _ _ (by rfl) (w.heap.size + 1) 34 i0 _ 2 16 Tryd.underlying26 hi0 hz0 hs0 hb0 rfl (by omega) (.slice va n cap) nn (pcells (lessP (L.take j) M)) (by rfl) HR2.out (some ⟨Wp.heap.size, 0, none⟩) 1 1 [.int .i64 x.1, .int .i64 x.2] (by rfl) (by rfl) (fun q u hu => ⟨_, rfl, World.news_of_block (cs := #[.int .i64 x.1, .int .i64 x.2]) (t := 34) (fr := (0, 0)) HN2.out q u hu⟩) (by simp [Value.oneCell']) (by unfold maxLen; omega) (by omega) (by have := HLQ.out; simp; omega) ?_; intro v' w1 hown1 hgrow hob; obtain ⟨gg, cc, rfl, _, _⟩ := hown1.form (by omega))
            have hbl : Below w.heap.size w w1 := HBQ.out.grown hgrow (by have := HLQ.out; simp; omega) (fun k hk => by have := (HR2.out.lt k hk).1; omega)
            have hmp1 : MapP w1 w.heap.size (countP2 M) := HMQ.out.of ((hgrow.block _ (by have := HLQ.out; simp; omega) (fun e => by have := (HR2.out.lt _ e.symm).1; omega)).trans (Below.heap_alloc _ _ _ HLQ.out))
            have HOW1 := toHid hown1
            have HBL := toHid hbl
            have HM1 := toHid hmp1
            clear hown1 hgrow hob hbl hmp1 l1 y0 y1
            go_roundg (l - (j + 1))
            case measure => omega
            case rel =>
              refine ⟨j + 1, _, _, _, by omega, by omega, by go_num, rfl, ?_, HM1.out, HBL.out⟩
              rw [hls, pcells_snoc, List.length_append, List.length_singleton, ← HNN.out]
              exact HOW1.out
          · have hne : ((cn : Int) == 0) = false := by simp; omega
            have hls : lessP (L.take (j + 1)) M = lessP (L.take j) M := by rw [HLS.out, if_neg (by rw [← HCN.out]; exact h0)]
            go_wp2_with fail
            go_roundg (l - (j + 1))
            case measure => omega
            case rel => exact ⟨j + 1, _, _, _, by omega, by omega, by go_num, rfl, by rw [hls]; exact HRQ.out, HMQ.out, HBW.out⟩
        · have he : j = l := by omega
          subst he
          have htk : L.take j = L := List.take_of_length_le (by have := HL1.out; omega)
          rw [htk] at HROW
          go_wp2_with fail
          go_ret
          refine ⟨_, rfl, ?_, hbw⟩
          have := HROW.out
          exact ⟨this.1, this.2.imp id fun ⟨g, cap, cur, e1, e2, e3⟩ => ⟨g, cap, cur, e1, by omega, e3⟩⟩

/-- The properties of the node or edge of that number, and where they lie. -/
def Owner (N : List Nd) (E : List Ed) (id : Int) (P : List Pr) (pa : Option Addr) (pl pc : Nat) : Prop :=
  (∃ x ∈ N, x.id = id ∧ x.props = P ∧ x.pa = pa ∧ x.pl = pl ∧ x.pc = pc) ∨ (hasN N id = false ∧ ∃ x ∈ E, x.id = id ∧ x.props = P ∧ x.pa = pa ∧ x.pl = pl ∧ x.pc = pc)

def PoEnd (N : List Nd) (E : List Ed) (id : Int) (e : Ending) : Prop :=
  (∃ P pa pl pc, Owner N E id P pa pl pc ∧ e = .returned (.tuple #[.slice pa pl pc, .bool true])) ∨ (hasN N id = false ∧ id ∉ E.map Ed.id ∧ e = .returned (.tuple #[.slice none 0 0, .bool false]))

def findP (P : List Pr) (name : ByteArray) : Option Pr := P.find? (fun p => p.name.toList == name.toList)

def zvV : Value := .agg #[.int .i64 0, .int .i64 0, .string ⟨#[]⟩, .slice none 0 0]

def PropEnd (w' : World) (er : Int) (N : List Nd) (E : List Ed) (id : Int) (name : ByteArray) (tr : Pr → List T) (e : Ending) : Prop :=
  (er ≠ 0 ∧ e = .returned (.tuple #[zvV, .int .i64 er])) ∨ (er = 0 ∧ hasN N id = false ∧ id ∉ E.map Ed.id ∧ e = .returned (.tuple #[zvV, .int .i64 5])) ∨
  (er = 0 ∧ ∃ P pa pl pc, Owner N E id P pa pl pc ∧ ((findP P name = none ∧ e = .returned (.tuple #[zvV, .int .i64 0])) ∨ ∃ p a' c', findP P name = some p ∧ p ∈ P ∧ e = .returned (.tuple #[.agg #[.int .i64 p.k, .int .i64 p.n, .string p.s, .slice a' p.l c'], .int .i64 0]) ∧ p.l ≤ c' ∧ LiesS w' (tr p) a' p.l))

def SofEnd (P : List Pr) (name : ByteArray) (e : Ending) : Prop := (findP P name = none ∧ e = .returned zvV) ∨ ∃ p, findP P name = some p ∧ p ∈ P ∧ e = .returned (.agg #[.int .i64 p.k, .int .i64 p.n, .string p.s, .slice p.a p.l p.c])

/-- How that graph lies in memory. -/
def KnowsAt (w : World) (lb pb nb eb : Nat) : Prop :=
  w.heap[lb]? = some (.cells #[.string ⟨#[65]⟩] 9 (0, 0)) ∧ w.heap[pb]? = some (.cells #[.string ⟨#[110]⟩, .int .i64 2, .int .i64 5, .string ⟨#[]⟩, .slice none 0 0] 79 (0, 0)) ∧
  w.heap[nb]? = some (.cells #[.int .i64 1, .slice (some ⟨lb, 0, none⟩) 1 1, .slice (some ⟨pb, 0, none⟩) 1 1, .int .i64 2, .slice none 0 0, .slice none 0 0] 49 (0, 0)) ∧
  w.heap[eb]? = some (.cells #[.int .i64 3, .int .i64 1, .int .i64 2, .string ⟨#[75]⟩, .slice none 0 0] 52 (0, 0))

def KnowsEnd (w' : World) (e : Ending) : Prop := ∃ lb pb nb eb, e = .returned (.agg #[.slice (some ⟨nb, 0, none⟩) 2 2, .slice (some ⟨eb, 0, none⟩) 1 1, .int .i64 4]) ∧ KnowsAt w' lb pb nb eb
end Go.Proofs.YtkdadaggolcboaaDoor
