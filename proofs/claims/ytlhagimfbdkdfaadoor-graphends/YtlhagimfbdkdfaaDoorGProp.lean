/-
  What is proved here: what graph.propsOf and Prop answer of any graph (given what Check and fresh.Value answer): a property's value in memory of its own, Null, or an error.
-/
import Derived.Test.YtlhagimfbdkdfaaDoorGAround
import Derived.Test.YtlhagimfbdkdfaaDoorGFreshV
namespace Go.Proofs.YtlhagimfbdkdfaaDoor
open Go.RowKit
set_option linter.unusedVariables false

/-- The properties of the node or edge of that number, and where they lie. -/
def Owner (N : List Nd) (E : List Ed) (id : Int) (P : List Pr) (pa : Option Addr) (pl pc : Nat) : Prop :=
  (∃ x ∈ N, x.id = id ∧ x.props = P ∧ x.pa = pa ∧ x.pl = pl ∧ x.pc = pc) ∨ (hasN N id = false ∧ ∃ x ∈ E, x.id = id ∧ x.props = P ∧ x.pa = pa ∧ x.pl = pl ∧ x.pc = pc)

def PoEnd (N : List Nd) (E : List Ed) (id : Int) (e : Ending) : Prop :=
  (∃ P pa pl pc, Owner N E id P pa pl pc ∧ e = .returned (.tuple #[.slice pa pl pc, .bool true])) ∨ (hasN N id = false ∧ id ∉ E.map Ed.id ∧ e = .returned (.tuple #[.slice none 0 0, .bool false]))

set_option maxHeartbeats 4000000 in
set_option maxRecDepth 100000 in
theorem propsOf_any (N : List Nd) (E : List Ed) (na : Option Addr) (nl nc : Nat) (ea : Option Addr) (el ec : Nat) (next id : Int) (w : World) (hNA : NodesAt w N na nl) (hEA : EdgesAt w E ea el) (h40 : nl ≤ 60) (h60 : el ≤ 60) (hrN : Rise (N.map Nd.id)) (hrE : Rise (E.map Ed.id)) :
    Calls Tryd.prog 31 #[.agg #[.slice na nl nc, .slice ea el ec, .int .i64 next], .int .i64 id] w fun e w' => PoEnd N E id e ∧ Below w.heap.size w w' := by
  have HNA := toHid hNA
  have HEA := toHid hEA
  have HFN : Hid (∀ W, Below w.heap.size w W → Calls Tryd.prog 28 #[.slice na nl nc, .int .i64 id] W fun e w' => FoundEnd (N.map Nd.id) id e ∧ Below W.heap.size W w') := fun W k => node_find N na nl nc id W (hNA.below k) h40 hrN
  have HFE : Hid (∀ W, Below w.heap.size w W → Calls Tryd.prog 60 #[.slice ea el ec, .int .i64 id] W fun e w' => FoundEnd (E.map Ed.id) id e ∧ Below W.heap.size W w') := fun W k => edge_find E ea el ec id W (hEA.below k) h60 hrE
  clear hNA hEA hrN hrE
  have b0 : Below w.heap.size w (w.alloc (.cells #[.slice na nl nc, .slice ea el ec, .int .i64 next] 25)) := (Below.refl _ _).alloc (Nat.le_refl _) _
  have z0 : (w.alloc (.cells #[.slice na nl nc, .slice ea el ec, .int .i64 next] 25)).heap.size = w.heap.size + 1 := by simp
  have hx := alloc_new w (.cells #[.slice na nl nc, .slice ea el ec, .int .i64 next] 25)
  have HY : Hid (∀ W, Below (w.heap.size + 1) (w.alloc (.cells #[.slice na nl nc, .slice ea el ec, .int .i64 next] 25)) W → W.cell? ⟨w.heap.size, 0, none⟩ = some (.slice na nl nc) ∧ W.cell? ⟨w.heap.size, 1, none⟩ = some (.slice ea el ec) ∧ W.cell? ⟨w.heap.size, 2, none⟩ = some (.int .i64 next)) := by
    intro W k
    have q : ∀ o, W.cell? ⟨w.heap.size, o, none⟩ = _ := fun o => (k.cell (p := ⟨w.heap.size, o, none⟩) (Nat.lt_succ_self _)).trans (cell_of hx o)
    exact ⟨q 0, q 1, q 2⟩
  have B0 := toHid b0
  have Z0 := toHid z0
  clear hx b0 z0
  go_enter Tryd.func31, Tryd.ntmps31
  go_wp2_with fail
  refine (HFN.out _ B0.out).mono ?_
  have K0 := toHid (Below.refl (w.heap.size + 1) (w.alloc (.cells #[.slice na nl nc, .slice ea el ec, .int .i64 next] 25)))
  generalize w.alloc (.cells #[.slice na nl nc, .slice ea el ec, .int .i64 next] 25) = W0 at HY B0 Z0 K0 ⊢
  rintro e w1 ⟨⟨i, f, rfl, hf1, hf2⟩, k1⟩
  have K1 := toHid (below3 K0.out (by rw [Z0.out]; exact Nat.le_refl _) k1)
  have B1 := toHid (below3 B0.out B0.out.size k1)
  have S1 : w.heap.size + 1 ≤ w1.heap.size := by have := k1.size; rw [Z0.out] at this; exact this
  obtain ⟨y0, y1, y2⟩ := HY.out w1 K1.out
  clear k1 K0
  cases f with
  | true =>
    have h1 := hf1 rfl
    rw [List.getElem?_map] at h1
    obtain ⟨x, hx, hxi⟩ := Option.map_eq_some_iff.1 h1
    have hil : i < nl := by have := (List.getElem?_eq_some_iff.1 hx).1; have := HNA.out.1; omega
    obtain ⟨b, off, ha, hb, hc⟩ := HNA.out.2.2 (by omega)
    subst ha
    obtain ⟨c0, c1, c2⟩ := hc i x hx
    have d2 : w1.cell? ⟨b, off + i * 3 + 2, none⟩ = some (.slice x.pa x.pl x.pc) := (B1.out.cell (p := ⟨b, off + i * 3 + 2, none⟩) hb).trans c2
    have HX := toHid (List.mem_of_getElem? hx)
    have HXI := toHid hxi
    clear hc c0 c1 c2 hx hxi h1 hf1 hf2
    go_wp2_with fail
    exact bodyPost_ret (v := .tuple #[.slice x.pa x.pl x.pc, .bool true]) (by simp [results, Tryd.results31, go_sem]) rfl ⟨.inl ⟨x.props, x.pa, x.pl, x.pc, .inl ⟨x, HX.out, HXI.out, rfl, rfl, rfl, rfl⟩, rfl⟩, B1.out⟩
  | false =>
    have HH := toHid (show hasN N id = false from decide_eq_false (hf2 rfl))
    clear hf1 hf2
    go_wp2_with fail
    refine (HFE.out _ B1.out).mono ?_
    rintro e w2 ⟨⟨i, f, rfl, hf1, hf2⟩, k2⟩
    have K2 := toHid (below3 K1.out S1 k2)
    have B2 := toHid (below3 B1.out B1.out.size k2)
    clear y0 y1 y2 K1 B1 S1 k2
    obtain ⟨y0, y1, y2⟩ := HY.out w2 K2.out
    cases f with
    | true =>
      have h1 := hf1 rfl
      rw [List.getElem?_map] at h1
      obtain ⟨x, hx, hxi⟩ := Option.map_eq_some_iff.1 h1
      have hil : i < el := by have := (List.getElem?_eq_some_iff.1 hx).1; have := HEA.out.1; omega
      obtain ⟨b, off, ha, hb, hc⟩ := HEA.out.2.2 (by omega)
      subst ha
      obtain ⟨_, c0, c1, c2, c3, c4⟩ := hc i x hx
      have d2 : w2.cell? ⟨b, off + i * 5 + 4, none⟩ = some (.slice x.pa x.pl x.pc) := (B2.out.cell (p := ⟨b, off + i * 5 + 4, none⟩) hb).trans c4
      have HX := toHid (List.mem_of_getElem? hx)
      have HXI := toHid hxi
      clear hc c0 c1 c2 c3 c4 hx hxi h1 hf1 hf2
      go_wp2_with fail
      exact bodyPost_ret (v := .tuple #[.slice x.pa x.pl x.pc, .bool true]) (by simp [results, Tryd.results31, go_sem]) rfl ⟨.inl ⟨x.props, x.pa, x.pl, x.pc, .inr ⟨HH.out, x, HX.out, HXI.out, rfl, rfl, rfl, rfl⟩, rfl⟩, B2.out⟩
    | false =>
      have HE := toHid (hf2 rfl)
      clear hf1 hf2
      go_wp2_with fail
      exact bodyPost_ret (v := .tuple #[.slice none 0 0, .bool false]) (by simp [results, Tryd.results31, go_sem]) rfl ⟨.inr ⟨HH.out, HE.out, rfl⟩, B2.out⟩
end Go.Proofs.YtlhagimfbdkdfaaDoor
