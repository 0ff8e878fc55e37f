/-
  What is proved here: plain facts for the law GraphEnds: the edges around all nodes, one behind the other and sorted, are all edges; and what slices.Sort answers of a row of numbers of the call's own.
-/
import Derived.Test.YtlhagimfbdkdfaaDoorGFacts
import Derived.Test.YtlhagimfbdkdfaaDoorShelfS
import Derived.Sort.OwnSortedInts
namespace Go.Proofs.YtlhagimfbdkdfaaDoor
open Go.RowKit
set_option linter.unusedVariables false

def endOf (inn : Bool) (x : Ed) : Int := if inn = true then x.dst else x.frm

theorem arL_any (n : Int) (inn : Bool) (E : List Ed) : arL n ⟨#[]⟩ inn E = (E.filter (fun x => endOf inn x == n)).map Ed.id := by
  unfold arL
  congr 1
  apply List.filter_congr
  intro x _
  unfold selE endOf
  rw [ByteArray.toList_eq]
  simp

/-- The edges around nodes, one behind the other. -/
def ccL (inn : Bool) (E : List Ed) (ids : List Int) : List Int := ids.flatMap (fun n => arL n ⟨#[]⟩ inn E)

theorem filter_or {α : Type} (p q : α → Bool) : ∀ (L : List α), (∀ x ∈ L, ¬ (p x = true ∧ q x = true)) → (L.filter p ++ L.filter q).Perm (L.filter (fun x => p x || q x))
  | [], _ => by simp
  | x :: L, h => by
    have ih := filter_or p q L (fun y hy => h y (List.mem_cons_of_mem _ hy))
    have hx := h x (List.mem_cons_self ..)
    cases hp : p x with
    | true =>
      have hq : q x = false := by
        cases hq : q x with
        | true => exact absurd ⟨hp, hq⟩ hx
        | false => rfl
      simp only [List.filter_cons, hp, hq, Bool.true_or, if_true, Bool.false_eq_true, if_false, List.cons_append]
      exact ih.cons x
    | false =>
      cases hq : q x with
      | true =>
        simp only [List.filter_cons, hp, hq, Bool.or_true, if_true, Bool.false_eq_true, if_false]
        exact List.perm_middle.trans (ih.cons x)
      | false =>
        simp only [List.filter_cons, hp, hq, Bool.or_self, Bool.false_eq_true, if_false]
        exact ih

theorem cc_perm (inn : Bool) (E : List Ed) : ∀ ids : List Int, ids.Nodup → (ccL inn E ids).Perm ((E.filter (fun x => decide (endOf inn x ∈ ids))).map Ed.id)
  | [], _ => by simp [ccL]
  | n :: ids, h => by
    rw [List.nodup_cons] at h
    have ih := cc_perm inn E ids h.2
    have e : ccL inn E (n :: ids) = arL n ⟨#[]⟩ inn E ++ ccL inn E ids := by simp [ccL]
    rw [e, arL_any]
    refine (List.Perm.append_left _ ih).trans ?_
    rw [← List.map_append]
    refine List.Perm.map _ ?_
    refine (filter_or _ _ E (fun x _ hx => ?_)).trans (List.Perm.of_eq ?_)
    · have h1 : endOf inn x = n := by simpa using hx.1
      have h2 : endOf inn x ∈ ids := by simpa using hx.2
      rw [h1] at h2
      exact h.1 h2
    · apply List.filter_congr
      intro x _
      rw [Bool.eq_iff_iff]
      simp

theorem rise_pair {L : List Int} (h : Rise L) : L.Pairwise (· < ·) := by
  rw [List.pairwise_iff_getElem]
  intro i j hi hj hij
  exact h i j _ _ hij (List.getElem?_eq_getElem hi) (List.getElem?_eq_getElem hj)

theorem cc_sorted {N : List Nd} {E : List Ed} (r : Right N E) (inn : Bool) : (ccL inn E (N.map Nd.id)).Perm (E.map Ed.id) ∧ (ccL inn E (N.map Nd.id)).mergeSort (fun x y => decide (x ≤ y)) = E.map Ed.id := by
  have hn : (N.map Nd.id).Nodup := by
    refine (rise_pair r.riseN).imp ?_
    intro a b hab
    omega
  have hp := cc_perm inn E (N.map Nd.id) hn
  have hf : E.filter (fun x => decide (endOf inn x ∈ N.map Nd.id)) = E := by
    rw [List.filter_eq_self]
    intro x hx
    have hx' := r.edges x hx
    unfold endOf
    cases inn with
    | true => simpa [hasN] using hx'.2.2.1
    | false => simpa [hasN] using hx'.2.1
  rw [hf] at hp
  refine ⟨hp, ?_⟩
  refine List.Perm.eq_of_pairwise (le := fun a b => decide (a ≤ b) = true) ?_ ?_ ?_ ((List.mergeSort_perm _ _).trans hp)
  · intro a b _ _ h1 h2
    simp at h1 h2
    omega
  · refine List.pairwise_mergeSort ?_ ?_ _
    · intro a b c h1 h2
      simp at h1 h2 ⊢
      omega
    · intro a b
      simp
      omega
  · refine (rise_pair r.riseE).imp ?_
    intro a b hab
    simp
    omega

theorem lbL_any (N : List Nd) : lbL ⟨#[]⟩ N = N.map Nd.id := by
  unfold lbL
  congr 1
  rw [List.filter_eq_self]
  intro x _
  unfold selN
  rw [ByteArray.toList_eq]
  rfl

theorem sort_row (L : List Int) (B : Nat) (v : Value) (w : World) (h : w.ownsRow B 3 1 v L.length (ints L)) (hl : L.length ≤ 1000) :
    Calls Tryd.prog 12 #[v] w fun e w' => e = .returned (.tuple #[]) ∧ w'.ownsRow B 3 1 v L.length (ints (L.mergeSort (fun x y => decide (x ≤ y)))) ∧ w.grownBy w' v.ownBlock := by
  rcases h.2 with ⟨rfl, h0⟩ | ⟨g, cap, cur, rfl, h1, h2, h3, h4, h5, h6⟩
  · have hL : L = [] := List.length_eq_zero_iff.1 h0
    subst hL
    refine (Tryd.slices_Sort_int_none none 0 w).mono ?_
    rintro e w' ⟨rfl, rfl⟩
    exact ⟨rfl, by simpa [ints] using h, ⟨rfl, rfl, rfl, Nat.le_refl _, fun _ _ _ => rfl⟩⟩
  · refine (Tryd.slices_Sort_int g 0 cap L w (holds_of_blockI h2 (by rw [Nat.mul_one] at h6; exact h6)) (Array.getElem?_eq_some_iff.1 h2).1 (by omega)).mono ?_
    rintro e w' ⟨rfl, n, os, rfl⟩
    refine ⟨rfl, ownsRow_sortedI (ss := L) (ts := L.mergeSort (fun x y => decide (x ≤ y))) (List.length_mergeSort _) h1 h2 h3 h4 h5, grownBy_sortedI _⟩
end Go.Proofs.YtlhagimfbdkdfaaDoor
