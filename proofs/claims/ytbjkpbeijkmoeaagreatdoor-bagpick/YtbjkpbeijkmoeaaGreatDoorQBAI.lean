/-
  What is proved here: what the texts GCheck3, GAround, GSlices, GCopy2, BSame prove, in one text.
-/
import Derived.Test.YtbjkpbeijkmoeaaGreatDoorQBAD
import Derived.Deep.AppendLies
import Derived.Deep.QuietTactic
import Derived.BigQuiet
import Derived.Test.YtbjkpbeijkmoeaaGreatDoorQBAF
namespace Go.Proofs.YtbjkpbeijkmoeaaGreatDoor
open Go.RowKit
set_option linter.unusedVariables false

def ndE : Int → List Nd → Int
  | _, [] => 0
  | ah, x :: r => if ndOne ah x = 0 then ndE x.id r else ndOne ah x

def edE (N : List Nd) : Int → List Ed → Int
  | _, [] => 0
  | ah, x :: r => if edOne N ah x = 0 then edE N x.id r else edOne N ah x

/-- The last number. -/
def lastI : Int → List Int → Int
  | ah, [] => ah
  | _, x :: r => lastI x r

/-- What is wrong with a graph. -/
def gE (N : List Nd) (E : List Ed) (next : Int) : Int :=
  if 40 < N.length ∨ 60 < E.length then 2 else if ndE 0 N = 0 then (if edE N 0 E = 0 then (if next ≤ lastI 0 (N.map Nd.id) ∨ next ≤ lastI 0 (E.map Ed.id) ∨ 1099511627776 < next then 9 else 0) else edE N 0 E) else ndE 0 N

theorem ndE_ok : ∀ (N : List Nd) (ah : Int), ndE ah N = 0 → Rise (N.map Nd.id) ∧ (∀ x ∈ N, ah < x.id ∧ labsE x.labs = 0 ∧ prsE x.props = 0)
  | [], ah, _ => ⟨fun i j x y _ h => by simp at h, fun x h => by cases h⟩
  | x :: r, ah, h => by
    unfold ndE at h
    split at h
    · rename_i h1
      have h2 : ¬ x.id ≤ ah ∧ labsE x.labs = 0 ∧ prsE x.props = 0 := by
        unfold ndOne at h1
        split at h1
        · exact absurd h1 (by decide)
        · split at h1
          · rename_i h3 h4
            exact ⟨h3, h4, h1⟩
          · rename_i h3 h4
            exact absurd h1 h4
      obtain ⟨hr, hall⟩ := ndE_ok r x.id h
      refine ⟨fun i j u v hij hu hv => ?_, fun y hy => ?_⟩
      · cases j with
        | zero => omega
        | succ j =>
          cases i with
          | zero =>
            simp only [List.map_cons, List.getElem?_cons_zero, Option.some.injEq] at hu
            simp only [List.map_cons, List.getElem?_cons_succ] at hv
            obtain ⟨y, hy, rfl⟩ := List.mem_map.1 (List.mem_of_getElem? hv)
            rw [← hu]
            exact (hall y hy).1
          | succ i =>
            simp only [List.map_cons, List.getElem?_cons_succ] at hu hv
            exact hr i j u v (by omega) hu hv
      · rcases List.mem_cons.1 hy with rfl | hy
        · exact ⟨by omega, h2.2⟩
        · have := hall y hy
          exact ⟨by omega, this.2⟩
    · rename_i h1
      exact absurd h h1

theorem info_int0 : (Tryz.prog.info? 3).map (fun i => (i.zero, i.size, i.bytes)) = some (some (.int .i64 0), 1, 8) := by kernel_rfl

theorem info_int : ∃ i, Tryz.prog.info? 3 = some i ∧ i.zero = some (.int .i64 0) ∧ i.size = 1 ∧ i.bytes = 8 := by
  obtain ⟨i, h, e⟩ := Option.map_eq_some_iff.1 info_int0
  simp only [Prod.mk.injEq] at e
  exact ⟨i, h, e⟩

theorem rowI_kept {B n : Nat} {e : TypeId} {size : Nat} {v : Value} {xs : List Value} {w w' : World} (h : w.ownsRow B e size v n xs) (hk : ∀ k, B ≤ k → k < w.heap.size → w'.heap[k]? = w.heap[k]?) : w'.ownsRow B e size v n xs := by
  refine ⟨h.1, ?_⟩
  rcases h.2 with h0 | ⟨g, cap, cur, e1, e2, e3, e4⟩
  · exact .inl h0
  · exact .inr ⟨g, cap, cur, e1, e2, by rw [hk g e2 (Array.getElem?_eq_some_iff.1 e3).1]; exact e3, e4⟩

theorem rowI_block {B n : Nat} {e : TypeId} {size : Nat} {v : Value} {xs : List Value} {w : World} (h : w.ownsRow B e size v n xs) (k : Nat) (hk : v.ownBlock = some k) : B ≤ k := by
  rcases h.2 with ⟨rfl, _⟩ | ⟨g, cap, cur, rfl, e2, _⟩
  · simp [Value.ownBlock] at hk
  · simp [Value.ownBlock] at hk
    omega

theorem alloc_2nd (w : World) (o1 o2 : Obj) : ((w.alloc o1).alloc o2).heap[w.heap.size + 1]? = some o2 := by
  have := alloc_new (w.alloc o1) o2
  rw [show (w.alloc o1).heap.size = w.heap.size + 1 from by simp] at this
  exact this

/-- Numbers as values. -/
def ints (L : List Int) : List Value := L.map (fun n => .int .i64 n)

theorem ints_more (L : List Int) (x : Int) : ints (L ++ [x]) = ints L ++ [.int .i64 x] := by simp [ints]

/-- Is it an edge of that kind from (to) that node? -/
def selE (id : Int) (kind : ByteArray) (inn : Bool) (x : Ed) : Bool := ((if inn = true then x.dst else x.frm) == id) && (kind.toList.isEmpty || kind.toList == x.typ.toList)

def arL (id : Int) (kind : ByteArray) (inn : Bool) (E : List Ed) : List Int := (E.filter (selE id kind inn)).map Ed.id

theorem arL_yes {id : Int} {kind : ByteArray} {inn : Bool} {x : Ed} {E : List Ed} (h : selE id kind inn x = true) : arL id kind inn (x :: E) = x.id :: arL id kind inn E := by
  simp [arL, h]

theorem arL_no {id : Int} {kind : ByteArray} {inn : Bool} {x : Ed} {E : List Ed} (h : selE id kind inn x = false) : arL id kind inn (x :: E) = arL id kind inn E := by
  simp [arL, h]

/-- What Around answers. -/
def AroundEnd (w w' : World) (er : Int) (has : Bool) (L : List Int) (e : Ending) : Prop :=
  (er ≠ 0 ∧ e = .returned (.tuple #[.slice none 0 0, .int .i64 er])) ∨ (er = 0 ∧ has = false ∧ e = .returned (.tuple #[.slice none 0 0, .int .i64 5])) ∨ (er = 0 ∧ has = true ∧ ∃ v, e = .returned (.tuple #[v, .int .i64 0]) ∧ w'.ownsRow w.heap.size 3 1 v L.length (ints L))

/-- Numbers lie where a slice says. -/
def IntsAt (w : World) (L : List Int) (a : Option Addr) (l : Nat) : Prop :=
  l = L.length ∧ l ≤ 9223372036854775807 ∧ (0 < l → ∃ b off, a = some ⟨b, off, none⟩ ∧ b < w.heap.size ∧ ∀ i x, L[i]? = some x → w.cell? ⟨b, off + i, none⟩ = some (.int .i64 x))

theorem IntsAt.below {w w' : World} (k : Below w.heap.size w w') {L : List Int} {a : Option Addr} {l : Nat} (h : IntsAt w L a l) : IntsAt w' L a l := by
  obtain ⟨h1, h2, h3⟩ := h
  refine ⟨h1, h2, fun h0 => ?_⟩
  obtain ⟨b, off, ha, hb, hc⟩ := h3 h0
  exact ⟨b, off, ha, Nat.lt_of_lt_of_le hb k.size, fun i s hs => (k.cell (p := ⟨b, off + i, none⟩) hb).trans (hc i s hs)⟩

/-- A row of the call's own, as numbers. -/
theorem ints_of_row {w : World} {B : Nat} {v : Value} {L : List Int} (h : w.ownsRow B 3 1 v L.length (ints L)) (hl : L.length ≤ 9223372036854775807) : ∃ a c, v = .slice a L.length c ∧ IntsAt w L a L.length := by
  rcases h.2 with ⟨h0, h1⟩ | ⟨g, cap, cur, h0, h1⟩
  · exact ⟨none, 0, by rw [h0, h1], rfl, hl, fun h => by omega⟩
  · refine ⟨some ⟨g, 0, none⟩, cap, h0, rfl, hl, fun hp => ?_⟩
    subst h0
    obtain ⟨g', cap', hv, _, hg⟩ := h.form (by omega)
    injection hv with hv1 hv2 hv3
    injection hv1 with hv1
    injection hv1 with hv1
    subst hv1
    refine ⟨g, 0, rfl, hg, fun i x hx => ?_⟩
    have hc := h.cells (g := g) rfl i (.int .i64 x) (by rw [ints, List.getElem?_map, hx]; rfl)
    by_cases h0 : i = 0
    · subst h0; simpa [Addr.add] using hc
    · simpa [Addr.add, h0] using hc

/-- A text is among others. -/
def hasS (L : List ByteArray) (t : ByteArray) : Bool := L.any (fun x => t.toList == x.toList)

theorem info_val0 : (Tryz.prog.info? 45).map (fun i => (i.zero, i.size, i.bytes)) = some (some (.agg #[.int .i64 0, .int .i64 0, .string ⟨#[]⟩, .slice none 0 0]), 4, 56) := by kernel_rfl
theorem info_val : ∃ i, Tryz.prog.info? 45 = some i ∧ i.zero = some (.agg #[.int .i64 0, .int .i64 0, .string ⟨#[]⟩, .slice none 0 0]) ∧ i.size = 4 ∧ i.bytes = 56 := by
  obtain ⟨i, h, e⟩ := Option.map_eq_some_iff.1 info_val0
  simp only [Prod.mk.injEq] at e
  exact ⟨i, h, e⟩
theorem info_sl0 : (Tryz.prog.info? 29).map (fun i => (i.zero, i.size, i.bytes)) = some (some (.slice none 0 0), 1, 24) := by kernel_rfl
theorem info_sl : ∃ i, Tryz.prog.info? 29 = some i ∧ i.zero = some (.slice none 0 0) ∧ i.size = 1 ∧ i.bytes = 24 := by
  obtain ⟨i, h, e⟩ := Option.map_eq_some_iff.1 info_sl0
  simp only [Prod.mk.injEq] at e
  exact ⟨i, h, e⟩

theorem snoc_pd (P : List Pd) (h : P ≠ []) : ∃ P' p, P = P' ++ [p] := ⟨P.dropLast, P.getLast h, (List.dropLast_concat_getLast h).symm⟩

/-- The stack, its last taken off. -/
theorem stack_last {w : World} {B sb cap : Nat} {P : List Pd} {p : Pd} (h : w.ownsRow B 29 1 (.slice (some ⟨sb, 0, none⟩) (P.length + 1) cap) (P.length + 1) (pdVals (P ++ [p]))) :
    w.ownsRow B 29 1 (.slice (some ⟨sb, 0, none⟩) P.length cap) P.length (pdVals P) ∧ w.cell? ⟨sb, P.length, none⟩ = some p.val ∧ P.length + 1 ≤ cap ∧ cap ≤ 9223372036854775807 := by
  have hm : maxLen ≤ 9223372036854775807 := by unfold maxLen; decide
  rcases h.2 with ⟨e, _⟩ | ⟨g', cap', cur, e, h1, h2, h3, h4, h5, h6⟩
  · cases e
  · simp only [Value.slice.injEq, Option.some.injEq, Addr.mk.injEq, and_true, true_and] at e
    obtain ⟨rfl, rfl⟩ := e
    have hl : (pdVals P).length = P.length := by simp [pdVals]
    have hsp : pdVals (P ++ [p]) = pdVals P ++ [p.val] := by simp [pdVals]
    rw [hsp, Nat.mul_one] at h6
    refine ⟨⟨by rw [hl, Nat.mul_one], .inr ⟨sb, cap, cur, rfl, h1, h2, by omega, h4, h5, ?_⟩⟩, ?_, h3, by omega⟩
    · rw [Nat.mul_one]
      have e1 : cur.toList.take P.length = (cur.toList.take (P.length + 1)).take P.length := by rw [List.take_take]; congr 1; omega
      rw [e1, h6, List.take_append_of_le_length (by rw [hl]; exact Nat.le_refl _), List.take_of_length_le (by rw [hl]; exact Nat.le_refl _)]
    · rw [cell_of h2]
      have h7 : (cur.toList.take (P.length + 1))[P.length]? = some p.val := by
        rw [h6, List.getElem?_append_right (by rw [hl]; exact Nat.le_refl _), hl, Nat.sub_self]
        rfl
      rw [List.getElem?_take] at h7
      split at h7
      · simpa using h7
      · cases h7

theorem row_same {w w' : World} {B sb cap n size : Nat} {e : TypeId} {xs : List Value} (h : w.ownsRow B e size (.slice (some ⟨sb, 0, none⟩) n cap) n xs) (hk : w'.heap[sb]? = w.heap[sb]?) : w'.ownsRow B e size (.slice (some ⟨sb, 0, none⟩) n cap) n xs := by
  refine ⟨h.1, ?_⟩
  rcases h.2 with ⟨e0, _⟩ | ⟨g', cap', cur, e0, h1, h2, h3⟩
  · cases e0
  · have e1 := e0
    simp only [Value.slice.injEq, Option.some.injEq, Addr.mk.injEq, and_true, true_and] at e1
    obtain ⟨rfl, rfl⟩ := e1
    exact .inr ⟨sb, cap, cur, rfl, h1, hk.trans h2, h3⟩

theorem wt_len (L : List T) : L.length + 1 ≤ wtL L := by
  induction L with
  | nil => unfold wtL; exact Nat.le_refl _
  | cons t ts ih =>
    unfold wtL
    rw [List.length_cons]
    obtain ⟨k, n, s, Lt⟩ := t
    unfold wtT
    have := wt_pos Lt
    omega

set_option maxHeartbeats 16000000 in
set_option maxRecDepth 100000 in
theorem values_some (L : List T) (b off l c : Nat) (W : World) (hL : LiesS W L (some ⟨b, off, none⟩) l) (hb : b < W.heap.size) (hl0 : 0 < l) (hw : wtL L ≤ 1099511627776) :
    Calls Tryz.prog 121 #[.slice (some ⟨b, off, none⟩) l c] W fun e w' => ValsEnd W w' L l e ∧ Below W.heap.size W w' := by
  have hll := hL.length.1
  have HLL := toHid hll
  obtain ⟨cs, hcl, hcc, hc1, hcd⟩ := copy_cells L b off (by rw [← hll]; exact hL)
  have hwl := wt_len L
  have HW := toHid hw
  have hl40 : l ≤ 1099511627776 := by omega
  have HCD := toHid hcd
  have HC1 := toHid hc1
  have hcl' : cs.length = l * 4 := by rw [hcl, hll]
  have HCL := toHid hcl'
  have HCC : Hid (∀ j u, cs[j]? = some u → W.cell? ((⟨b, off, none⟩ : Addr).add j) = some u) := fun j u hu => by rw [add_none]; exact hcc j u hu
  clear hcl hcl' hcc hc1 hcd hL hw hll hwl
  obtain ⟨i4, hi0, hiz, his, hib⟩ := info_val
  have HI0 := toHid hi0
  have HIZ := toHid hiz
  have HIS := toHid his
  have HIB := toHid hib
  obtain ⟨i1, hj0, hjz, hjs, hjb⟩ := info_sl
  have HJ0 := toHid hj0
  have HJZ := toHid hjz
  have HJS := toHid hjs
  have HJB := toHid hjb
  clear hi0 hiz his hib hj0 hjz hjs hjb
  have HB : (0 + l) * 56 ≤ 140737488355328 := by omega
  have HB2 : 0 + l ≤ maxLen := by unfold maxLen; omega
  go_enter Tryz.func121, Tryz.ntmps121
  go_wp2_with (at_builtin; refine wpList_append_lies _ rfl _ _ 29 rfl W.heap.size 45 i4 _ 4 56 Tryz.underlying29 HI0.out HIZ.out HIS.out HIB.out rfl (by omega) (.slice none 0 0) 0 [] rfl (World.ownsRow_nil _ _ _ _) ⟨b, off, none⟩ l c cs rfl HCL.out HCC.out HC1.out hl0 HB2 HB (Nat.le_refl _) W.heap.size rfl ?_)
  intro gg cap w1 hown hgrow hor hlt
  obtain rfl : gg = W.heap.size := by
    rcases hor with h | h
    · cases h
    · exact h
  have hm0 := (mix_of_row hown HCD.out).1
  have hlc := (mix_of_row hown HCD.out).2
  have b1 : Below W.heap.size W w1 := (Below.refl _ _).grown hgrow (Nat.le_refl _) (fun k hk => by cases hk)
  have HM0 := toHid hm0
  have HB1 := toHid b1
  have HLC := toHid hlc
  have HLT := toHid hlt
  clear hm0 b1 hlc hlt hown hgrow hor HCC HC1 HCL HCD HB HB2
  go_wp2_with fail
  go_loopg [4] (wtL L) (fun gm s4 wr => ∃ (P : List Pd) (sb cp : Nat) (D : Nat → Prop), s4 = .slice (some ⟨sb, 0, none⟩) P.length cp ∧ pdW P ≤ gm ∧ pdW P ≤ wtL L ∧ wr.ownsRow W.heap.size 29 1 (.slice (some ⟨sb, 0, none⟩) P.length cp) P.length (pdVals P) ∧ Sep W wr P D sb ∧ Whole W wr L W.heap.size P D ∧ W.heap.size ≤ sb ∧ sb < wr.heap.size ∧ Below W.heap.size W wr)
  case atStart =>
    have hz1 : W.heap.size < w1.heap.size := HLT.out
    have hlen : L.length ≤ 9223372036854775807 := by have := HLL.out; omega
    refine ⟨[⟨W.heap.size, cap, L⟩], w1.heap.size, 1, fun _ => False, by simp, by simp [pdW], by simp [pdW], ?_, ⟨fun p hp => ?_, by simp, fun i hi => hi.elim⟩, ?_, by omega, by simp, HB1.out.alloc HB1.out.size _⟩
    · refine ⟨by simp [pdVals], .inr ⟨w1.heap.size, 1, #[.slice (some ⟨W.heap.size, 0, none⟩) l cap], rfl, by omega, alloc_new _ _, by simp, by unfold maxLen; decide, rfl, ?_⟩⟩
      have := HLL.out
      subst this
      rfl
    · obtain rfl := List.mem_singleton.1 hp
      refine ⟨Nat.le_refl _, by simp; omega, by show W.heap.size ≠ _; omega, fun h => h, ?_, hlen, HM0.out.kept (Below.heap_alloc _ _ _ hz1)⟩
      show 0 < L.length
      have := HLL.out
      omega
    · intro w' hz hD hp
      exact hp _ (List.mem_singleton_self _)
  case round =>
    obtain ⟨P, sb, cp, D, rfl, hg, hpw, hrow, hsep, hwhole, hsb, hsb2, hbw⟩ := hrel
    have HROW := toHid hrow
    have HSEP := toHid hsep
    have HWH := toHid hwhole
    have HBW := toHid hbw
    clear hrow hsep hwhole hbw HM0
    rcases Classical.em (P = []) with he | he
    · subst he
      have HLIE := toHid (HWH.out wr (Nat.le_refl _) (fun _ _ => rfl) (fun p hp => by cases hp))
      clear HWH HSEP HROW
      go_wp2_with fail
      go_ret
      refine ⟨⟨_, cap, rfl, HLC.out, ?_⟩, HBW.out⟩
      have := HLIE.out
      rw [← HLL.out] at this
      exact this
    · obtain ⟨P', p, rfl⟩ := snoc_pd P he
      clear he
      have hlen : (P' ++ [p]).length = P'.length + 1 := by simp
      rw [hlen] at HROW ⊢
      obtain ⟨hr0, q0, hcp1, hcp2⟩ := stack_last HROW.out
      obtain ⟨hpg1, hpg2, hpg3, hpg4, hpl, hpl2, hpm⟩ := HSEP.out.pend p (List.mem_append_right _ (List.mem_singleton_self _))
      have HSEP2 := toHid HSEP.out.pop
      have HR0 := toHid hr0
      have HPM := toHid hpm
      have HPG4 := toHid hpg4
      have hpw2 : pdW P' + wtL p.L ≤ wtL L := by rw [pdW_append] at hpw; simpa [pdW] using hpw
      have hpw3 : pdW P' + wtL p.L ≤ gk := by rw [pdW_append] at hg; simpa [pdW] using hg
      obtain ⟨g, pc, Lg⟩ := p
      obtain ⟨m, hm⟩ : ∃ m, m = Lg.length := ⟨_, rfl⟩
      have q0' : wr.cell? ⟨sb, P'.length, none⟩ = some (.slice (some ⟨g, 0, none⟩) m pc) := by rw [hm]; exact q0
      have HMM := toHid hm
      have hm63 : m ≤ 9223372036854775807 := by rw [hm]; exact hpl2
      obtain ⟨n0, hn0⟩ : ∃ n0, P'.length = n0 := ⟨_, rfl⟩
      rw [hn0] at q0' hcp1 ⊢
      have HN0 := toHid hn0
      have hpg1' : W.heap.size ≤ g := hpg1
      have hpg2' : g < wr.heap.size := hpg2
      have hpg3' : g ≠ sb := hpg3
      have HG3 := toHid hpg3'
      have HP2 := toHid hpw2
      have HP3 := toHid hpw3
      clear hlen q0 hr0 hpm hpg1 hpg2 hpg3 hpg4 hpl hpl2 hm hn0 HROW HSEP hpw hg hpg3' hpw2 hpw3
      go_wp2_with fail
      obtain ⟨W1, rfl⟩ : ∃ W1, W1 = wr := ⟨_, rfl⟩
      clear q0'
      go_loopg [4, 28] m (fun gi s4 s28 wq => ∃ (i nn : Nat) (news : List Pd) (sb cp : Nat), i ≤ m ∧ m - i ≤ gi ∧ s4 = .slice (some ⟨sb, 0, none⟩) nn cp ∧ s28 = .int .i64 i ∧ nn = (P' ++ news).length ∧ wq.ownsRow W.heap.size 29 1 (.slice (some ⟨sb, 0, none⟩) nn cp) nn (pdVals (P' ++ news)) ∧ Sep W wq (P' ++ news) (fun i => D i ∨ i = g) sb ∧ Mix W wq g Lg i news ∧ Whole W wq L W.heap.size (P' ++ [⟨g, pc, Lg⟩]) D ∧ pdW news + wtL (Lg.drop i) ≤ wtL Lg ∧ W.heap.size ≤ sb ∧ sb < wq.heap.size ∧ Below W.heap.size W wq ∧ g < wq.heap.size)
      case atStart =>
        refine ⟨0, n0, [], sb, cp, Nat.zero_le _, by omega, rfl, rfl, by rw [List.append_nil]; exact HN0.out.symm, ?_, ?_, HPM.out, HWH.out, by simp [pdW], hsb, hsb2, HBW.out, hpg2'⟩
        · rw [List.append_nil, ← HN0.out]
          exact HR0.out
        · rw [List.append_nil]
          exact HSEP2.out
      case round =>
        clear HR0 HSEP2 HPM HWH HBW hsb hsb2 hpg2' hcp1 hcp2 HG3
        obtain ⟨i, nn, news, sb, cp, hi, hgi, rfl, rfl, hnn, hrow, hsep, hmix, hwhole, hpn, hsb, hsb2, hbw, hgz⟩ := hrel
        have HNN := toHid hnn
        have HROW := toHid hrow
        have HSEP := toHid hsep
        have HMIX := toHid hmix
        have HWH := toHid hwhole
        have HPN := toHid hpn
        have HBW := toHid hbw
        clear hnn hrow hsep hmix hwhole hpn hbw
        have hgsb : g ≠ sb := (HSEP.out.done g (.inr rfl)).2
        by_cases hlt : i < m
        · obtain ⟨t, ht, hd⟩ := drop_get (L := Lg) (i := i) (by have := HMM.out; omega)
          obtain ⟨k, n, st, Lt⟩ := t
          obtain ⟨cu, hcu, hall⟩ := HMIX.out
          obtain ⟨a0, a1, a2, a3, v, a4, -, a6⟩ := hall i k n st Lt ht
          obtain ⟨ax, lx, cx, rfl, hlx, hLt⟩ := a6 (Nat.le_refl _)
          have d0 := (cell_of hcu (i * 4)).trans a1
          have d1 := (cell_of hcu (i * 4 + 1)).trans a2
          have d2 := (cell_of hcu (i * 4 + 1 + 1)).trans a3
          have d3 := (cell_of hcu (i * 4 + 1 + 1 + 1)).trans a4
          have d3' := (cell_of hcu (i * 4 + 3)).trans a4
          have f3 := free_of hcu (i * 4 + 3)
          have HCU := toHid hcu
          have HTI := toHid ht
          have HSZ := toHid (Array.getElem?_eq_some_iff.1 a4).1
          have HLT := toHid hLt
          have hlxl := hLt.length.1
          have HWT := toHid (show wtL (Lg.drop i) = wtL Lt + 1 + wtL (Lg.drop (i + 1)) by rw [hd, wtL, wtT])
          have HDN := toHid (fun j hj => HSEP.out.done j (.inl hj))
          have HPD := toHid (fun q hq => HSEP.out.pend q hq)
          clear hall hcu a0 a1 a2 a3 a4 a6 ht hd hLt
          by_cases hz : lx = 0
          · subst hz
            have hLt0 : Lt = [] := List.length_eq_zero_iff.1 hlxl.symm
            subst hLt0
            obtain ⟨X, hX⟩ : ∃ X, X = (wr.alloc (.cells #[.int .i64 k, .int .i64 n, .string st, .slice ax 0 cx] 45)).setCell ⟨g, i * 4 + 3, none⟩ (.slice none 0 0) := ⟨_, rfl⟩
            have hXs : (wr.alloc (.cells #[.int .i64 k, .int .i64 n, .string st, .slice ax 0 cx] 45)).setCell ⟨g, i * 4 + 3, none⟩ (.slice none 0 0) = X := hX.symm
            have hXz : X.heap.size = wr.heap.size + 1 := by rw [hX]; simp [World.setCell]
            have hXo : ∀ j, j ≠ g → j < wr.heap.size → X.heap[j]? = wr.heap[j]? := fun j h1 h2 => by
              rw [hX]
              exact (Below.heap_setCell _ _ _ j h1).trans (Below.heap_alloc _ _ j h2)
            have hXb : X.heap[wr.heap.size]? = some (.cells #[.int .i64 k, .int .i64 n, .string st, .slice ax 0 cx] 45 (0, 0)) := by
              rw [hX]
              exact (Below.heap_setCell _ _ _ _ (by show wr.heap.size ≠ g; omega)).trans (alloc_new _ _)
            have hXg : ∃ cu', X.heap[g]? = some (.cells cu' 45 (0, 0)) ∧ cu'.size = cu.size ∧ (∀ x, x ≠ i * 4 + 3 → cu'[x]? = cu[x]?) ∧ (i * 4 + 3 < cu.size → cu'[i * 4 + 3]? = some (.slice none 0 0)) := by
              rw [hX]
              exact set_block ((Below.heap_alloc _ _ g hgz).trans HCU.out) _ _
            have x3 : X.cell? ⟨wr.heap.size, 3, none⟩ = some (.slice ax 0 cx) := cell_of hXb 3
            have hXB : Below W.heap.size W X := by
              rw [hX]
              exact (HBW.out.alloc HBW.out.size _).setCell (p := ⟨g, i * 4 + 3, none⟩) hpg1' _
            have HXZ := toHid hXz
            have HXO := toHid hXo
            have HXG := toHid hXg
            have HXB := toHid hXB
            clear hX hXz hXo hXb hXg hXB hlxl hlx
            go_wp2_with fail
            go_roundg (m - (i + 1))
            case measure => omega
            case rel =>
              have z := HXZ.out
              refine ⟨i + 1, nn, news, sb, cp, by omega, by omega, rfl, by go_num, HNN.out, row_same HROW.out (HXO.out sb (Ne.symm hgsb) hsb2), ?_, ?_, ?_, ?_, hsb, by omega, HXB.out, by omega⟩
              · refine HSEP.out.kept (by omega) (fun q hq => ?_) (.inl rfl)
                obtain ⟨h1, h2, h3, h4, _⟩ := HPD.out q hq
                exact HXO.out _ (fun e => h4 (.inr e)) h2
              · refine HMIX.out.put HTI.out (.inl ⟨rfl, rfl⟩) (fun q hq => hq) (fun cu2 h2 => ?_)
                obtain ⟨cu', e1, _, e2, e3⟩ := HXG.out
                rw [HCU.out] at h2
                injection h2 with h2
                injection h2 with h2
                subst h2
                exact ⟨cu', e1, e2, e3⟩
              · refine HWH.out.kept (by omega) (fun j hj => ?_)
                exact HXO.out j (fun e => HPG4.out (by rw [e] at hj; exact hj)) (HDN.out j hj).1
              · have := HWT.out
                have := HPN.out
                omega
          · obtain ⟨bx, ox, hax, hbx⟩ : ∃ bx ox, ax = some ⟨bx, ox, none⟩ ∧ bx < W.heap.size := by
              cases Lt with
              | nil => exact absurd hlxl hz
              | cons t ts =>
                have h := HLT.out
                unfold LiesS at h
                obtain ⟨b1, o1, h1, _, _, h2, _⟩ := h
                exact ⟨b1, o1, h1, h2⟩
            subst hax
            obtain ⟨cs2, hcl, hcc, hc1, hcd⟩ := copy_cells Lt bx ox (by rw [← hlxl]; exact HLT.out)
            have hwlt := wt_len Lt
            have hwt := HWT.out
            have hpn := HPN.out
            have hp2 := HP2.out
            have hww := HW.out
            have hlx40 : lx ≤ 1099511627776 := by omega
            have hnn40 : nn ≤ 1099511627776 := by
              have h1 := pd_length (P' ++ news)
              rw [pdW_append, ← HNN.out] at h1
              omega
            have hcl' : cs2.length = lx * 4 := by rw [hcl, hlxl]
            have hlx0 : 0 < lx := by omega
            have HLX := toHid hlxl
            have HB : (0 + lx) * 56 ≤ 140737488355328 := by omega
            have HB2 : 0 + lx ≤ maxLen := by unfold maxLen; omega
            have HB3 : (nn + 1) * 24 ≤ 140737488355328 := by omega
            have HB4 : nn + 1 ≤ maxLen := by unfold maxLen; omega
            obtain ⟨X, hX⟩ : ∃ X, X = (wr.alloc (.cells #[.int .i64 k, .int .i64 n, .string st, .slice (some ⟨bx, ox, none⟩) lx cx] 45)).setCell ⟨g, i * 4 + 3, none⟩ (.slice none 0 0) := ⟨_, rfl⟩
            have hXs : (wr.alloc (.cells #[.int .i64 k, .int .i64 n, .string st, .slice (some ⟨bx, ox, none⟩) lx cx] 45)).setCell ⟨g, i * 4 + 3, none⟩ (.slice none 0 0) = X := hX.symm
            have hXz : X.heap.size = wr.heap.size + 1 := by rw [hX]; simp [World.setCell]
            have hXo : ∀ j, j ≠ g → j < wr.heap.size → X.heap[j]? = wr.heap[j]? := fun j h1 h2 => by
              rw [hX]
              exact (Below.heap_setCell _ _ _ j h1).trans (Below.heap_alloc _ _ j h2)
            have hXb : X.heap[wr.heap.size]? = some (.cells #[.int .i64 k, .int .i64 n, .string st, .slice (some ⟨bx, ox, none⟩) lx cx] 45 (0, 0)) := by
              rw [hX]
              exact (Below.heap_setCell _ _ _ _ (by show wr.heap.size ≠ g; omega)).trans (alloc_new _ _)
            have hXg : ∃ cu', X.heap[g]? = some (.cells cu' 45 (0, 0)) ∧ cu'.size = cu.size ∧ (∀ x, x ≠ i * 4 + 3 → cu'[x]? = cu[x]?) ∧ (i * 4 + 3 < cu.size → cu'[i * 4 + 3]? = some (.slice none 0 0)) := by
              rw [hX]
              exact set_block ((Below.heap_alloc _ _ g hgz).trans HCU.out) _ _
            have x3 : X.cell? ⟨wr.heap.size, 3, none⟩ = some (.slice (some ⟨bx, ox, none⟩) lx cx) := cell_of hXb 3
            have hXB : Below W.heap.size W X := by
              rw [hX]
              exact (HBW.out.alloc HBW.out.size _).setCell (p := ⟨g, i * 4 + 3, none⟩) hpg1' _
            have HCC : Hid (∀ j u, cs2[j]? = some u → X.cell? ((⟨bx, ox, none⟩ : Addr).add j) = some u) := fun j u hu => by
              rw [add_none]
              exact (hXB.cell (p := ⟨bx, ox + j, none⟩) hbx).trans (hcc j u hu)
            have HCL := toHid hcl'
            have HC1 := toHid hc1
            have HCD := toHid hcd
            have HXZ := toHid hXz
            have HXO := toHid hXo
            have HXG := toHid hXg
            have HXB := toHid hXB
            have hXW : W.heap.size ≤ X.heap.size := hXB.size
            clear hX hXz hXo hXb hXg hXB hlxl hlx hcl hcl' hcc hc1 hcd hwlt hwt hpn hp2 hww
            go_wp2_with (at_builtin; refine wpList_append_lies _ rfl _ _ 29 rfl W.heap.size 45 i4 _ 4 56 Tryz.underlying29 HI0.out HIZ.out HIS.out HIB.out rfl (by omega) (.slice none 0 0) 0 [] rfl (World.ownsRow_nil _ _ _ _) ⟨bx, ox, none⟩ lx cx cs2 rfl HCL.out HCC.out HC1.out hlx0 HB2 HB hXW X.heap.size rfl ?_)
            intro gg cap2 w4 hown4 hgrow4 hor4 hlt4
            obtain rfl : gg = X.heap.size := by
              rcases hor4 with h | h
              · cases h
              · exact h
            have hz4 : X.heap.size < w4.heap.size := hlt4
            have hm4 := (mix_of_row hown4 HCD.out).1
            have hlc4 := (mix_of_row hown4 HCD.out).2
            have ho4 : ∀ j, j < X.heap.size → w4.heap[j]? = X.heap[j]? := fun j hj => hgrow4.block j hj (by simp [Value.ownBlock])
            have hXgz : g < X.heap.size := by rw [HXZ.out]; omega
            have hB4 : Below W.heap.size W w4 := HXB.out.grown hgrow4 HXB.out.size (fun k hk => by cases hk)
            obtain ⟨cu1, hcu1, hcs1, hco1, hcv1⟩ := HXG.out
            have h4g := (ho4 g hXgz).trans hcu1
            have e3 : w4.cell? ⟨g, i * 4 + 3, none⟩ = some (.slice none 0 0) := (cell_of h4g _).trans (hcv1 HSZ.out)
            have g3 := free_of h4g (i * 4 + 3)
            obtain ⟨Y, hY⟩ : ∃ Y, Y = w4.setCell ⟨g, i * 4 + 3, none⟩ (.slice (some ⟨X.heap.size, 0, none⟩) lx cap2) := ⟨_, rfl⟩
            have hYs : w4.setCell ⟨g, i * 4 + 3, none⟩ (.slice (some ⟨X.heap.size, 0, none⟩) lx cap2) = Y := hY.symm
            have hYz : Y.heap.size = w4.heap.size := by rw [hY]; simp [World.setCell]
            have hYo : ∀ j, j ≠ g → Y.heap[j]? = w4.heap[j]? := fun j h1 => by rw [hY]; exact Below.heap_setCell _ _ _ j h1
            have hYg : ∃ cu', Y.heap[g]? = some (.cells cu' 45 (0, 0)) ∧ (∀ x, x ≠ i * 4 + 3 → cu'[x]? = cu[x]?) ∧ (i * 4 + 3 < cu.size → cu'[i * 4 + 3]? = some (.slice (some ⟨X.heap.size, 0, none⟩) lx cap2)) := by
              rw [hY]
              obtain ⟨cu', q1, q2, q3, q4⟩ := set_block h4g (i * 4 + 3) (.slice (some ⟨X.heap.size, 0, none⟩) lx cap2)
              exact ⟨cu', q1, fun x hx => (q3 x hx).trans (hco1 x hx), fun h => q4 (by omega)⟩
            have y3 : Y.cell? ⟨g, i * 4 + 3, none⟩ = some (.slice (some ⟨X.heap.size, 0, none⟩) lx cap2) := by
              obtain ⟨cu', q1, q2, q3⟩ := hYg
              exact (cell_of q1 _).trans (q3 HSZ.out)
            have hYB : Below W.heap.size W Y := by rw [hY]; exact hB4.setCell (p := ⟨g, i * 4 + 3, none⟩) hpg1' _
            have hrY : Y.ownsRow W.heap.size 29 1 (.slice (some ⟨sb, 0, none⟩) nn cp) nn (pdVals (P' ++ news)) := row_same HROW.out ((hYo sb (Ne.symm hgsb)).trans ((ho4 sb (by rw [HXZ.out]; omega)).trans (HXO.out sb (Ne.symm hgsb) hsb2)))
            have HM4 := toHid hm4
            have HLC4 := toHid hlc4
            have HO4 := toHid ho4
            have HYZ := toHid hYz
            have HYO := toHid hYo
            have HYG := toHid hYg
            have HYB := toHid hYB
            have HRY := toHid hrY
            have hYW : W.heap.size ≤ Y.heap.size := hYB.size
            have hgY : g < Y.heap.size := by rw [hYz]; omega
            have HZ4 := toHid hz4
            clear hY hm4 hlc4 ho4 hYz hYo hYg hYB hrY hown4 hgrow4 hor4 hlt4 hB4 h4g hcu1 hcs1 hco1 hcv1 HCC HCL HC1 HCD HB HB2 x3 hXs hXgz d0 d1 d2 d3 d3' f3 hz4
            go_wp2_with (at_builtin; refine wpList_append_lies _ rfl _ _ 160 rfl W.heap.size 29 i1 _ 1 24 Tryz.underlying160 HJ0.out HJZ.out HJS.out HJB.out rfl (by omega) (.slice (some ⟨sb, 0, none⟩) nn cp) nn (pdVals (P' ++ news)) rfl (HRY.out.alloc _) ⟨Y.heap.size, 0, none⟩ 1 1 [.slice (some ⟨X.heap.size, 0, none⟩) lx cap2] rfl rfl (World.news_of_block (cs := #[.slice (some ⟨X.heap.size, 0, none⟩) lx cap2]) (t := 29) (fr := (0, 0)) (alloc_new Y _)) (by simp [Value.oneCell']) (by omega) HB4 HB3 (by simp; omega) (Y.heap.size + 1) (by simp) ?_)
            intro sb2 cp2 w7 hown7 hgrow7 hor7 hlt7
            have hsb7 : sb2 = sb ∨ sb2 = Y.heap.size + 1 := by
              rcases hor7 with h | h
              · simp [Value.ownBlock] at h
                exact .inl h.symm
              · exact .inr h
            have ho7 : ∀ j, j < Y.heap.size → j ≠ sb → w7.heap[j]? = Y.heap[j]? := fun j hj hne => (hgrow7.block j (by simp; omega) (by simp [Value.ownBlock]; exact hne)).trans (Below.heap_alloc _ _ j hj)
            have hz7 : Y.heap.size + 1 ≤ w7.heap.size := by have := hgrow7.size; simpa using this
            have hB7 : Below W.heap.size W w7 := (HYB.out.alloc HYB.out.size _).grown hgrow7 (by simp; omega) (fun k hk => by simp [Value.ownBlock] at hk; omega)
            have HOWN7 := toHid hown7
            have HSB7 := toHid hsb7
            have HO7 := toHid ho7
            have HZ7 := toHid hz7
            have HB7 := toHid hB7
            have HL7 := toHid hlt7
            clear hown7 hgrow7 hor7 hlt7 hsb7 ho7 hz7 hB7 HRY e3 g3 y3 HB3 HB4
            go_wp2_with fail
            go_roundg (m - (i + 1))
            case measure => omega
            case rel =>
              have zx := HXZ.out
              have zy := HYZ.out
              have z4 := HZ4.out
              have z7 := HZ7.out
              have s7 := HSB7.out
              have old : ∀ j, j ≠ g → j ≠ sb → j < wr.heap.size → w7.heap[j]? = wr.heap[j]? := fun j h1 h2 h3 =>
                (HO7.out j (by omega) h2).trans ((HYO.out j h1).trans ((HO4.out j (by omega)).trans (HXO.out j h1 h3)))
              have hq : ∀ q ∈ news, q ∈ news ++ [⟨X.heap.size, cap2, Lt⟩] := fun q hq => List.mem_append_left _ hq
              refine ⟨i + 1, nn + 1, news ++ [⟨X.heap.size, cap2, Lt⟩], sb2, cp2, by omega, by omega, rfl, by go_num, ?_, ?_, ?_, ?_, ?_, ?_, by omega, HL7.out, HB7.out, by omega⟩
              · rw [HNN.out]
                simp only [List.length_append, List.length_singleton]
                omega
              · have h := HOWN7.out
                have e : pdVals (P' ++ (news ++ [⟨X.heap.size, cap2, Lt⟩])) = pdVals (P' ++ news) ++ [.slice (some ⟨X.heap.size, 0, none⟩) lx cap2] := by
                  rw [HLX.out]
                  simp [pdVals, Pd.val]
                rw [e]
                exact h
              · rw [← List.append_assoc]
                refine Sep.more (HSEP.out.kept (by omega) (fun q hq => ?_) (by omega)) ⟨by show W.heap.size ≤ X.heap.size; omega, by show X.heap.size < _; omega, by show X.heap.size ≠ sb2; omega, ?_, by show 0 < Lt.length; rw [← HLX.out]; exact hlx0, by show Lt.length ≤ _; rw [← HLX.out]; omega, ?_⟩ (fun q hq => ?_)
                · obtain ⟨h1, h2, h3, h4, _⟩ := HPD.out q hq
                  exact old _ (fun e => h4 (.inr e)) h3 h2
                · rintro (h | h)
                  · have h2 := (HDN.out _ h).1
                    have h3 : X.heap.size < wr.heap.size := h2
                    omega
                  · have h3 : X.heap.size = g := h
                    omega
                · exact HM4.out.kept ((HO7.out _ (by show X.heap.size < _; omega) (by show X.heap.size ≠ sb; omega)).trans (HYO.out _ (by show X.heap.size ≠ g; omega)))
                · have h2 := (HPD.out q hq).2.1
                  show q.g ≠ X.heap.size
                  omega
              · have h7 := HO7.out g (by omega) hgsb
                refine HMIX.out.put (v := .slice (some ⟨X.heap.size, 0, none⟩) lx cap2) HTI.out (.inr ⟨⟨X.heap.size, cap2, Lt⟩, List.mem_append_right _ (List.mem_singleton_self _), rfl, by rw [← HLX.out]; omega, cap2, by rw [HLX.out], by rw [← HLX.out]; exact HLC4.out⟩) hq (fun cu2 h2 => ?_)
                obtain ⟨cu', e1, e2, e3⟩ := HYG.out
                rw [HCU.out] at h2
                injection h2 with h2
                injection h2 with h2
                subst h2
                exact ⟨cu', h7.trans e1, e2, e3⟩
              · refine HWH.out.kept (by omega) (fun j hj => ?_)
                have h2 := HDN.out j hj
                exact old j (fun e => HPG4.out (by rw [e] at hj; exact hj)) h2.2 h2.1
              · have := HWT.out
                have := HPN.out
                rw [pdW_append]
                simp only [pdW]
                omega
        · have him : i = m := by omega
          have HMX : Hid (Mix W wr g Lg Lg.length news) := by
            have h1 := HMIX.out
            rw [him, HMM.out] at h1
            exact h1
          have HW2 := toHid (Whole.next HWH.out HMX.out (by show Lg.length ≤ _; rw [← HMM.out]; exact hm63) hpg1' hgz)
          have hmeas : pdW (P' ++ news) + 1 ≤ pdW P' + wtL Lg := by
            have h1 := HPN.out
            rw [him, HMM.out, List.drop_length] at h1
            rw [pdW_append]
            simp only [wtL] at h1
            omega
          have HME := toHid hmeas
          clear hmeas him
          go_wp2_with fail
          go_roundg (pdW (P' ++ news))
          case measure =>
            have := HME.out
            have := HP3.out
            omega
          case rel =>
            have h1 := HME.out
            have h2 := HP2.out
            refine ⟨P' ++ news, sb, cp, _, ?_, Nat.le_refl _, by omega, ?_, HSEP.out, HW2.out, hsb, hsb2, HBW.out⟩
            · rw [HNN.out]
            · have h3 := HROW.out
              rw [HNN.out] at h3
              exact h3

theorem values_any (L : List T) (a : Option Addr) (l c : Nat) (W : World) (hL : LiesS W L a l) (hw : wtL L ≤ 1099511627776) :
    Calls Tryz.prog 121 #[.slice a l c] W fun e w' => ValsEnd W w' L l e ∧ Below W.heap.size W w' := by
  have hl := hL.length.1
  cases L with
  | nil =>
    simp only [List.length_nil] at hl
    subst hl
    refine (values_none a c W).mono ?_
    rintro e w' ⟨rfl, k⟩
    exact ⟨⟨none, 0, rfl, Nat.le_refl _, by unfold LieA; rfl⟩, k⟩
  | cons t ts =>
    have h := hL
    unfold LiesS at h
    obtain ⟨b, off, rfl, _, _, hb, _⟩ := h
    exact values_some (t :: ts) b off l c W hL hb (by rw [hl]; exact Nat.succ_pos _) hw

set_option linter.unusedSimpArgs false


theorem ref_ord63 : ∀ (N : Nat) (k n : Int) (s : ByteArray) (a : Option Addr) (l c : Nat) (L : List T) (k' n' : Int) (s' : ByteArray) (a' : Option Addr) (l' c' : Nat) (L' : List T) (w : World), wtL L ≤ N → N ≤ 9223372036854775806 → wtL L' ≤ 9223372036854775806 → LiesS w L a l → LiesS w L' a' l' →
    Calls Tryz.prog 45 #[.agg #[.int .i64 k, .int .i64 n, .string s, .slice a l c], .agg #[.int .i64 k', .int .i64 n', .string s', .slice a' l' c']] w fun e w' => e = .returned (.int .i64 (ordT (.node k n s L) (.node k' n' s' L'))) ∧ Below w.heap.size w w' := by
  intro N
  induction N using Nat.strongRecOn with
  | _ N ih =>
  intro k n s a l c L k' n' s' a' l' c' L' w hN hN2 hN' hL hL'
  rw [ordT_lex]
  by_cases hz : cmpP k n s k' n' s' = 0
  · obtain ⟨rfl, rfl, rfl⟩ := cmpP_zero hz
    rw [hz]
    have e : lex 0 (ordL L L') = ordL L L' := rfl
    rw [e]
    have hlen := hL.length.1
    have hlen' := hL'.length.1
    have hb := len_wt L
    have hb' := len_wt L'
    by_cases h0 : l = 0 ∨ l' = 0
    · refine order_empty k n s a a' l c l' c' _ w (by omega) (by omega) h0 ?_ ?_ ?_
      · intro e
        have e1 : L = [] := List.length_eq_zero_iff.1 (by omega)
        have e2 : L' = [] := List.length_eq_zero_iff.1 (by omega)
        rw [e1, e2, ordL_nil]
      · intro e
        have e1 : L = [] := List.length_eq_zero_iff.1 (by omega)
        obtain ⟨u, us, e2⟩ : ∃ u us, L' = u :: us := List.exists_cons_of_length_pos (by omega)
        rw [e1, e2, ordL_nil_cons]
      · intro e
        have e1 : L' = [] := List.length_eq_zero_iff.1 (by omega)
        obtain ⟨u, us, e2⟩ : ∃ u us, L = u :: us := List.exists_cons_of_length_pos (by omega)
        rw [e1, e2, ordL_cons_nil]
    · obtain ⟨b, off, _, rfl, hbb, _⟩ := hL.get (i := 0) (by omega)
      obtain ⟨b', off', _, rfl, hbb', _⟩ := hL'.get (i := 0) (by omega)
      have := order_lists k n s b off l c b' off' l' c' (valsAt w b off) (valsAt w b' off') (ordAt L L') (ordLen l l') w hbb hbb' hL.listAt hL'.listAt (by omega) (by omega) (by intro e; simp [ordLen, e]) (by intro e; simp [ordLen, e]) (by intro e; simp only [ordLen]; rw [if_neg (by omega), if_pos e]) (fun i hi hi' w' hw' => by
        obtain ⟨kt, nt, st, Lt, at', lt, ct, _, hd, p0, p1, p2, p3, hlc, hLt, hwt⟩ := hL.at hi
        obtain ⟨ku, nu, su, Lu, au', lu, cu, _, hd', q0, q1, q2, q3, hluc, hLu, hwu⟩ := hL'.at hi'
        rw [vals_at p0 p1 p2 p3, vals_at q0 q1 q2 q3, ordAt_drop hd hd']
        exact ih (wtL Lt) (by omega) kt nt st at' lt ct Lt ku nu su au' lu cu Lu w' (Nat.le_refl _) (by omega) (by omega) (hLt.below hw' _ _ _) (hLu.below hw' _ _ _))
      rw [hlen, hlen', firstNZ_ord] at this
      rw [hlen, hlen']
      exact this
  · have e : lex (cmpP k n s k' n' s') (ordL L L') = cmpP k n s k' n' s' := by unfold lex; rw [if_neg hz]
    rw [e]
    exact order_heads k n s a l c k' n' s' a' l' c' w hz

theorem wtL_le (b : Nat) : ∀ L : List T, (∀ t ∈ L, wtT t ≤ b) → wtL L ≤ L.length * b + 1
  | [], _ => by simp [wtL]
  | t :: ts, h => by
    have h1 := wtL_le b ts (fun u hu => h u (List.mem_cons_of_mem _ hu))
    have h2 := h t (List.mem_cons_self ..)
    rw [wtL, List.length_cons, Nat.add_mul]
    omega

theorem ck_wt : ∀ (d : Nat) (t : T), Ck d t → wtT t ≤ 2 * 32 ^ d := by
  intro d
  induction d with
  | zero =>
    intro t h
    cases h <;> simp [wtT, wtL]
  | succ d ih =>
    intro t h
    have hp : 0 < 32 ^ d := Nat.pow_pos (by decide)
    have e : 2 * 32 ^ (d + 1) = 64 * 32 ^ d := by rw [Nat.pow_succ]; omega
    rw [e]
    cases h with
    | null => simp only [wtT, wtL]; omega
    | bool => simp only [wtT, wtL]; omega
    | int => simp only [wtT, wtL]; omega
    | text => simp only [wtT, wtL]; omega
    | list _ L h0 h1 =>
      have h2 := wtL_le (2 * 32 ^ d) L (fun t ht => ih t (h1 t ht))
      have h3 : L.length * (2 * 32 ^ d) ≤ 30 * (2 * 32 ^ d) := Nat.mul_le_mul_right _ h0
      simp only [wtT]
      omega

theorem ck_wtL {k n : Int} {s : ByteArray} {L : List T} (h : Ck 6 (.node k n s L)) : wtL L ≤ 1099511627776 := by
  have := ck_wt 6 _ h
  simp only [wtT] at this
  have e : 2 * 32 ^ 6 = 2147483648 := by decide
  omega
end Go.Proofs.YtbjkpbeijkmoeaaGreatDoor
