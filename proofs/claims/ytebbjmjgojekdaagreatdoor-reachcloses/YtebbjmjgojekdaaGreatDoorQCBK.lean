/-
  What is proved here: what the texts KRight, KGr, KIff prove, in one text.
-/
import Derived.Test.YtebbjmjgojekdaaGreatDoorQCBJ
import Derived.Test.YtebbjmjgojekdaaGreatDoorQCAN
import Derived.Test.YtebbjmjgojekdaaGreatDoorPM
namespace Go.Proofs.YtebbjmjgojekdaaGreatDoor
open Go.RowKit
set_option linter.unusedVariables false

/-- Right labels, right properties. -/
def RtL (L : List ByteArray) : Prop := RiseS L ∧ L.length ≤ 4 ∧ ∀ s ∈ L, nm s = true
def kT : T → Int
  | .node k _ _ _ => k
def RtP (P : List AP) : Prop := RiseS (P.map AP.name) ∧ P.length ≤ 6 ∧ ∀ p ∈ P, nm p.name = true ∧ kT p.t ≠ 0 ∧ Ck 6 p.t

/-- A right work. -/
structure Rt (S : WS) : Prop where
  n40 : S.N.length ≤ 40
  e60 : S.E.length ≤ 60
  nri : Rise (S.N.map AN.id)
  eri : Rise (S.E.map AE.id)
  pos : 0 < S.next
  next : S.next ≤ 1099511627776
  nid : ∀ X ∈ S.N, 0 < X.id ∧ X.id < S.next
  eid : ∀ X ∈ S.E, 0 < X.id ∧ X.id < S.next ∧ X.id ∉ S.N.map AN.id
  nds : ∀ X ∈ S.N, RtL X.labs ∧ RtP X.props
  eds : ∀ X ∈ S.E, nm X.typ = true ∧ X.frm ∈ S.N.map AN.id ∧ X.dst ∈ S.N.map AN.id ∧ RtP X.props

theorem Rt.fit {S : WS} (h : Rt S) (hm : S.made.length ≤ 1000) : Fit S :=
  ⟨by have := h.n40; omega, h.e60, h.nri, h.eri, fun X hX => ⟨(h.nds X hX).1.1, by have := (h.nds X hX).1.2.1; omega⟩, fun X hX => ⟨(h.nds X hX).2.1, by have := (h.nds X hX).2.2.1; omega⟩, fun X hX => ⟨(h.eds X hX).2.2.2.1, by have := (h.eds X hX).2.2.2.2.1; omega⟩, hm, by have := h.pos; omega⟩

theorem rise_snoc {L : List Int} {n : Int} (h : Rise L) (hn : ∀ x ∈ L, x < n) : Rise (L ++ [n]) := by
  intro i j x y hij hx hy
  rcases Nat.lt_or_ge j L.length with hj | hj
  · rw [List.getElem?_append_left hj] at hy
    rw [List.getElem?_append_left (by omega)] at hx
    exact h i j x y hij hx hy
  · rw [List.getElem?_append_right hj] at hy
    have hj0 : j - L.length = 0 := by
      have := (List.getElem?_eq_some_iff.1 hy).1
      simp at this
      omega
    rw [hj0] at hy
    simp at hy
    subst hy
    rw [List.getElem?_append_left (by omega)] at hx
    exact hn x (List.mem_of_getElem? hx)

theorem rise_of_pair {L : List Int} (h : L.Pairwise (· < ·)) : Rise L := by
  intro i j x y hij hx hy
  rw [List.pairwise_iff_getElem] at h
  obtain ⟨hi, e1⟩ := List.getElem?_eq_some_iff.1 hx
  obtain ⟨hj, e2⟩ := List.getElem?_eq_some_iff.1 hy
  rw [← e1, ← e2]
  exact h i j hi hj hij

theorem pair_of_rise {L : List Int} (h : Rise L) : L.Pairwise (· < ·) := by
  rw [List.pairwise_iff_getElem]
  intro i j hi hj hij
  exact h i j _ _ hij (List.getElem?_eq_getElem hi) (List.getElem?_eq_getElem hj)

theorem rise_filt {α : Type} {f : α → Int} {L : List α} (h : Rise (L.map f)) (p : α → Bool) : Rise ((L.filter p).map f) :=
  rise_of_pair ((pair_of_rise h).sublist (List.filter_sublist.map f))

theorem rise_one {α : Type} {f : α → Int} {L : List α} (h : Rise (L.map f)) {x y : α} (hx : x ∈ L) (hy : y ∈ L) (e : f x = f y) : x = y := by
  obtain ⟨i, hi⟩ := List.getElem?_of_mem hx
  obtain ⟨j, hj⟩ := List.getElem?_of_mem hy
  have gi : (L.map f)[i]? = some (f x) := by rw [List.getElem?_map, hi]; rfl
  have gj : (L.map f)[j]? = some (f y) := by rw [List.getElem?_map, hj]; rfl
  rcases Nat.lt_trichotomy i j with hij | rfl | hij
  · have := h i j _ _ hij gi gj; omega
  · rw [hi] at hj; injection hj
  · have := h j i _ _ hij gj gi; omega

theorem map_keep {α : Type} {f : α → Int} {g : α → α} (hg : ∀ x, f (g x) = f x) (L : List α) : (L.map g).map f = L.map f := by
  rw [List.map_map]
  exact List.map_congr_left fun x _ => hg x

/-- The length of what change makes. -/
theorem chg_len {α : Type} {f : α → ByteArray} {L : List α} {x : α} {stays : Bool} (hr : RiseS (L.map f)) : (chgL f L x stays).length ≤ L.length + 1 ∧ (stays = false ∨ f x ∈ L.map f → (chgL f L x stays).length ≤ L.length) := by
  have hlh : (loS f (f x) L).length + (hiS f (f x) L).length ≤ L.length ∧ (f x ∈ L.map f → (loS f (f x) L).length + (hiS f (f x) L).length + 1 ≤ L.length) := by
    clear hr
    induction L with
    | nil => simp [loS, hiS]
    | cons y L ih =>
      have hn := cmpS_neg (f y) (f x)
      unfold loS hiS at ih ⊢
      rw [List.filter_cons, List.filter_cons]
      by_cases h1 : cmpS (f y) (f x) < 0
      · have h2 : ¬ cmpS (f x) (f y) < 0 := by omega
        simp only [h1, h2, decide_true, decide_false, if_true, Bool.false_eq_true, if_false, List.length_cons]
        refine ⟨by omega, fun hm => ?_⟩
        have hne : f x ≠ f y := fun e => by rw [e, cmpS_self] at h1; omega
        have := ih.2 (by simpa [hne] using hm)
        omega
      · by_cases h2 : cmpS (f x) (f y) < 0
        · simp only [h1, h2, decide_true, decide_false, if_true, Bool.false_eq_true, if_false, List.length_cons]
          refine ⟨by omega, fun hm => ?_⟩
          have hne : f x ≠ f y := fun e => by rw [e, cmpS_self] at h2; omega
          have := ih.2 (by simpa [hne] using hm)
          omega
        · simp only [h1, h2, decide_false, Bool.false_eq_true, if_false, List.length_cons]
          exact ⟨by omega, fun _ => by omega⟩
  unfold chgL
  rw [List.length_append, List.length_append]
  cases stays with
  | false => simp; omega
  | true =>
    simp only [if_true, List.length_singleton]
    refine ⟨by omega, fun h => ?_⟩
    rcases h with h | h
    · cases h
    · have := hlh.2 h
      omega

theorem chg_most {α : Type} {f : α → ByteArray} {L : List α} {x : α} {stays : Bool} {most : Nat} (hr : RiseS (L.map f)) (hl : L.length ≤ most) (h : chgE f L (f x) stays most = 0) : (chgL f L x stays).length ≤ most := by
  have hc := chg_len (x := x) (stays := stays) hr
  unfold chgE at h
  split at h
  · exact absurd h (by decide)
  · rename_i hn
    by_cases h1 : stays = false ∨ f x ∈ L.map f
    · have := hc.2 h1
      omega
    · have h2 : stays = true := by cases stays with
        | true => rfl
        | false => exact absurd (.inl rfl) h1
      have h3 : f x ∉ L.map f := fun e => h1 (.inr e)
      have : ¬ most ≤ L.length := fun e => hn ⟨h2, h3, e⟩
      omega

theorem RtL.chg {L : List ByteArray} {s : ByteArray} {has : Bool} (h : RtL L) (hs : nm s = true) (he : chgE (fun s => s) L s has 4 = 0) : RtL (chgL (fun s => s) L s has) := by
  have hr : RiseS (L.map fun s => s) := by simpa using h.1
  refine ⟨by have := chg_rise (fun s : ByteArray => s) (x := s) (stays := has) hr; simpa using this, chg_most hr h.2.1 he, fun y hy => ?_⟩
  rcases chg_mem _ hy with ⟨rfl, _⟩ | hy
  · exact hs
  · exact h.2.2 y hy

theorem RtP.chg {P : List AP} {x : AP} {stays : Bool} (h : RtP P) (hs : nm x.name = true) (hx : stays = true → kT x.t ≠ 0 ∧ Ck 6 x.t) (he : chgE AP.name P x.name stays 6 = 0) : RtP (chgL AP.name P x stays) := by
  refine ⟨chg_rise AP.name h.1, chg_most h.1 h.2.1 he, fun y hy => ?_⟩
  rcases chg_mem _ hy with ⟨rfl, hst⟩ | hy
  · exact ⟨hs, hx hst⟩
  · exact h.2.2 y hy

theorem find_id {α : Type} {f : α → Int} {L : List α} {id : Int} : (L.find? (fun X => f X = id) = none → id ∉ L.map f) ∧ ∀ X, L.find? (fun X => f X = id) = some X → X ∈ L ∧ f X = id := by
  refine ⟨fun h hm => ?_, fun X h => ⟨List.mem_of_find?_eq_some h, by simpa using List.find?_some h⟩⟩
  obtain ⟨y, hy, e⟩ := List.mem_map.1 hm
  have := List.find?_eq_none.1 h y hy
  simp [e] at this

/-- What is asked of an operation: what is not wrong with it is right. -/
structure OpRt (d : OpD) : Prop where
  labs : d.eL = 0 → RtL d.labs
  props : d.eP = 0 → RtP d.X
  val : d.eC = 0 → Ck 6 d.ap.t

theorem step_right (S : WS) (d : OpD) (hS : Rt S) (hd : OpRt d) (h0 : stepE S d = 0) : Rt (stepS S d) := by
  by_cases h1 : d.o.k = 1
  · rw [stepE, if_pos h1] at h0
    rw [stepS, if_pos h1]
    unfold addNE at h0
    obtain ⟨z, hz⟩ : ∃ z, z = (if d.eL = 0 then d.eP else d.eL) := ⟨_, rfl⟩
    rw [← hz] at h0
    split at h0
    · rename_i h; exact absurd h0 h
    split at h0
    · exact absurd h0 (by decide)
    rename_i he hf
    have he : (if d.eL = 0 then d.eP else d.eL) = 0 := hz.symm.trans (Decidable.not_not.1 he)
    have hl : d.eL = 0 := by
      by_cases hl : d.eL = 0
      · exact hl
      · rw [if_neg hl] at he; exact absurd he hl
    rw [if_pos hl] at he
    refine ⟨by simp; omega, hS.e60, ?_, hS.eri, by have := hS.pos; show 0 < S.next + 1; omega, by show S.next + 1 ≤ _; omega, fun X hX => ?_, fun X hX => ?_, fun X hX => ?_, fun X hX => ?_⟩
    · rw [List.map_append]
      exact rise_snoc hS.nri fun x hx => by
        obtain ⟨y, hy, rfl⟩ := List.mem_map.1 hx
        exact (hS.nid y hy).2
    · rcases List.mem_append.1 hX with hX | hX
      · have := hS.nid X hX
        exact ⟨this.1, by show X.id < S.next + 1; omega⟩
      · rw [List.mem_singleton.1 hX]
        exact ⟨hS.pos, by show S.next < S.next + 1; omega⟩
    · have := hS.eid X hX
      refine ⟨this.1, by show X.id < S.next + 1; omega, fun hm => ?_⟩
      rw [List.map_append] at hm
      rcases List.mem_append.1 hm with hm | hm
      · exact this.2.2 hm
      · have := List.mem_singleton.1 hm
        simp at this
        omega
    · rcases List.mem_append.1 hX with hX | hX
      · exact hS.nds X hX
      · rw [List.mem_singleton.1 hX]
        exact ⟨hd.labs hl, hd.props he⟩
    · have := hS.eds X hX
      refine ⟨this.1, ?_, ?_, this.2.2.2⟩
      · rw [List.map_append]; exact List.mem_append_left _ this.2.1
      · rw [List.map_append]; exact List.mem_append_left _ this.2.2.1
  by_cases h2 : d.o.k = 2
  · rw [stepE, if_neg h1, if_pos h2] at h0
    rw [stepS, if_neg h1, if_pos h2]
    unfold addEE at h0
    split at h0
    · exact absurd h0 (by decide)
    split at h0
    · exact absurd h0 (by decide)
    split at h0
    · rename_i h; exact absurd h0 h
    split at h0
    · exact absurd h0 (by decide)
    rename_i ha hb hc hf
    have hc : d.eP = 0 := Decidable.not_not.1 hc
    have hfm : (d.at S.made).frm ∈ S.N.map AN.id := by
      by_cases h : (d.at S.made).frm ∈ S.N.map AN.id
      · exact h
      · exact absurd (.inl (by simp only [hasA, decide_eq_false_iff_not]; exact h)) ha
    have hdm : (d.at S.made).dst ∈ S.N.map AN.id := by
      by_cases h : (d.at S.made).dst ∈ S.N.map AN.id
      · exact h
      · exact absurd (.inr (by simp only [hasA, decide_eq_false_iff_not]; exact h)) ha
    have hnm : nm d.o.name = true := by
      cases hq : nm d.o.name with
      | true => rfl
      | false => exact absurd hq hb
    refine ⟨hS.n40, by simp; omega, hS.nri, ?_, by have := hS.pos; show 0 < S.next + 1; omega, by show S.next + 1 ≤ _; omega, fun X hX => ?_, fun X hX => ?_, hS.nds, fun X hX => ?_⟩
    · rw [List.map_append]
      exact rise_snoc hS.eri fun x hx => by
        obtain ⟨y, hy, rfl⟩ := List.mem_map.1 hx
        exact (hS.eid y hy).2.1
    · have := hS.nid X hX
      exact ⟨this.1, by show X.id < S.next + 1; omega⟩
    · rcases List.mem_append.1 hX with hX | hX
      · have := hS.eid X hX
        exact ⟨this.1, by show X.id < S.next + 1; omega, this.2.2⟩
      · rw [List.mem_singleton.1 hX]
        refine ⟨hS.pos, by show S.next < S.next + 1; omega, fun hm => ?_⟩
        obtain ⟨y, hy, e⟩ := List.mem_map.1 hm
        have := (hS.nid y hy).2
        have e : y.id = S.next := e
        omega
    · rcases List.mem_append.1 hX with hX | hX
      · exact hS.eds X hX
      · rw [List.mem_singleton.1 hX]
        exact ⟨hnm, hfm, hdm, hd.props hc⟩
  by_cases h3 : d.o.k = 3
  · rw [stepE, if_neg h1, if_neg h2, if_pos h3] at h0
    rw [stepS, if_neg h1, if_neg h2, if_pos h3]
    unfold dropNE at h0
    split at h0
    · split at h0
      · exact absurd h0 (by decide)
      rename_i hin hno
      have hkeep : ∀ i, i ∈ S.N.map AN.id → i ≠ (d.at S.made).id → i ∈ (S.N.filter fun x => x.id != (d.at S.made).id).map AN.id := fun i hi hne => by
        obtain ⟨y, hy, rfl⟩ := List.mem_map.1 hi
        exact List.mem_map.2 ⟨y, List.mem_filter.2 ⟨hy, by simpa using hne⟩, rfl⟩
      have hsub : ∀ i, i ∈ (S.N.filter fun x => x.id != (d.at S.made).id).map AN.id → i ∈ S.N.map AN.id := fun i hi => by
        obtain ⟨y, hy, rfl⟩ := List.mem_map.1 hi
        exact List.mem_map.2 ⟨y, (List.mem_filter.1 hy).1, rfl⟩
      refine ⟨Nat.le_trans (List.length_filter_le _ _) hS.n40, hS.e60, rise_filt hS.nri _, hS.eri, hS.pos, hS.next, fun X hX => hS.nid X (List.mem_filter.1 hX).1, fun X hX => ⟨(hS.eid X hX).1, (hS.eid X hX).2.1, fun hm => (hS.eid X hX).2.2 (hsub _ hm)⟩, fun X hX => hS.nds X (List.mem_filter.1 hX).1, fun X hX => ?_⟩
      have ht : touchE (d.at S.made).id X = false := by
        cases hq : touchE (d.at S.made).id X with
        | false => rfl
        | true => exact absurd (List.any_eq_true.2 ⟨X, hX, hq⟩) hno
      unfold touchE at ht
      simp only [Bool.or_eq_false_iff, beq_eq_false_iff_ne] at ht
      have := hS.eds X hX
      exact ⟨this.1, hkeep _ this.2.1 ht.1, hkeep _ this.2.2.1 ht.2, this.2.2.2⟩
    · exact absurd h0 (by decide)
  by_cases h4 : d.o.k = 4
  · rw [stepS, if_neg h1, if_neg h2, if_neg h3, if_pos h4]
    exact ⟨hS.n40, Nat.le_trans (List.length_filter_le _ _) hS.e60, hS.nri, rise_filt hS.eri _, hS.pos, hS.next, hS.nid, fun X hX => hS.eid X (List.mem_filter.1 hX).1, hS.nds, fun X hX => hS.eds X (List.mem_filter.1 hX).1⟩
  by_cases h5 : d.o.k = 5
  · rw [stepE, if_neg h1, if_neg h2, if_neg h3, if_neg h4, if_pos h5] at h0
    rw [stepS, if_neg h1, if_neg h2, if_neg h3, if_neg h4, if_pos h5]
    have hval : ∀ {b : Bool}, b = (d.o.vk != 0) → d.eC = 0 → b = true → kT d.ap.t ≠ 0 ∧ Ck 6 d.ap.t := fun hb hc ht => ⟨by rw [ht] at hb; show d.o.vk ≠ 0; simpa using hb.symm, hd.val hc⟩
    unfold setEr at h0
    unfold setS
    split at h0
    · rename_i X hX
      have hX' := find_id.2 X hX
      split at h0
      · exact absurd h0 (by decide)
      split at h0
      · rename_i h; exact absurd h0 h
      rename_i hn hc
      have hn : nm d.ap.name = true := by simpa using hn
      have hc : d.eC = 0 := Decidable.not_not.1 hc
      rw [if_pos (List.mem_map.2 ⟨X, hX'.1, hX'.2⟩)]
      have hids : (setN S.N (d.at S.made).id d.ap (d.o.vk != 0)).map AN.id = S.N.map AN.id := map_keep (fun x => by split <;> rfl) _
      have hmem : ∀ Y ∈ setN S.N (d.at S.made).id d.ap (d.o.vk != 0), ∃ Z ∈ S.N, Y.id = Z.id ∧ Y.labs = Z.labs ∧ (Y.props = Z.props ∨ Z.id = (d.at S.made).id ∧ Y.props = chgL AP.name Z.props d.ap (d.o.vk != 0)) := fun Y hY => by
        obtain ⟨Z, hZ, rfl⟩ := List.mem_map.1 hY
        refine ⟨Z, hZ, ?_⟩
        split
        · rename_i e; exact ⟨rfl, rfl, .inr ⟨e, rfl⟩⟩
        · exact ⟨rfl, rfl, .inl rfl⟩
      refine ⟨by simp [setN]; exact hS.n40, hS.e60, by rw [hids]; exact hS.nri, hS.eri, hS.pos, hS.next, fun Y hY => ?_, fun Y hY => by show _ ∧ _ ∧ _ ∉ (setN S.N _ _ _).map AN.id; rw [hids]; exact hS.eid Y hY, fun Y hY => ?_, fun Y hY => by show _ ∧ _ ∈ (setN S.N _ _ _).map AN.id ∧ _ ∈ (setN S.N _ _ _).map AN.id ∧ _; rw [hids]; exact hS.eds Y hY⟩
      · obtain ⟨Z, hZ, e1, _, _⟩ := hmem Y hY
        rw [e1]
        exact hS.nid Z hZ
      · obtain ⟨Z, hZ, e1, e2, e3⟩ := hmem Y hY
        rw [e2]
        refine ⟨(hS.nds Z hZ).1, ?_⟩
        rcases e3 with e3 | ⟨e4, e3⟩
        · rw [e3]; exact (hS.nds Z hZ).2
        · have : Z = X := rise_one hS.nri hZ hX'.1 (e4.trans hX'.2.symm)
          subst this
          rw [e3]
          exact (hS.nds Z hZ).2.chg hn (hval rfl hc) h0
    · rename_i X hN hX
      have hX' := find_id.2 X hX
      split at h0
      · exact absurd h0 (by decide)
      split at h0
      · rename_i h; exact absurd h0 h
      rename_i hn hc
      have hn : nm d.ap.name = true := by simpa using hn
      have hc : d.eC = 0 := Decidable.not_not.1 hc
      rw [if_neg (find_id.1 hN)]
      have hids : (setE S.E (d.at S.made).id d.ap (d.o.vk != 0)).map AE.id = S.E.map AE.id := map_keep (fun x => by split <;> rfl) _
      have hmem : ∀ Y ∈ setE S.E (d.at S.made).id d.ap (d.o.vk != 0), ∃ Z ∈ S.E, Y.id = Z.id ∧ Y.frm = Z.frm ∧ Y.dst = Z.dst ∧ Y.typ = Z.typ ∧ (Y.props = Z.props ∨ Z.id = (d.at S.made).id ∧ Y.props = chgL AP.name Z.props d.ap (d.o.vk != 0)) := fun Y hY => by
        obtain ⟨Z, hZ, rfl⟩ := List.mem_map.1 hY
        refine ⟨Z, hZ, ?_⟩
        split
        · rename_i e; exact ⟨rfl, rfl, rfl, rfl, .inr ⟨e, rfl⟩⟩
        · exact ⟨rfl, rfl, rfl, rfl, .inl rfl⟩
      refine ⟨hS.n40, by simp [setE]; exact hS.e60, hS.nri, by rw [hids]; exact hS.eri, hS.pos, hS.next, hS.nid, fun Y hY => ?_, hS.nds, fun Y hY => ?_⟩
      · obtain ⟨Z, hZ, e1, _⟩ := hmem Y hY
        rw [e1]
        exact hS.eid Z hZ
      · obtain ⟨Z, hZ, e1, e2, e3, e4, e5⟩ := hmem Y hY
        rw [e2, e3, e4]
        refine ⟨(hS.eds Z hZ).1, (hS.eds Z hZ).2.1, (hS.eds Z hZ).2.2.1, ?_⟩
        rcases e5 with e5 | ⟨e6, e5⟩
        · rw [e5]; exact (hS.eds Z hZ).2.2.2
        · have : Z = X := rise_one hS.eri hZ hX'.1 (e6.trans hX'.2.symm)
          subst this
          rw [e5]
          exact (hS.eds Z hZ).2.2.2.chg hn (hval rfl hc) h0
    · exact absurd h0 (by decide)
  by_cases h67 : d.o.k = 6 ∨ d.o.k = 7
  · rw [stepE, if_neg h1, if_neg h2, if_neg h3, if_neg h4, if_neg h5, if_pos h67] at h0
    rw [stepS, if_neg h1, if_neg h2, if_neg h3, if_neg h4, if_neg h5]
    unfold labEr at h0
    split at h0
    · exact absurd h0 (by decide)
    rename_i X hX
    have hX' := find_id.2 X hX
    split at h0
    · exact absurd h0 (by decide)
    rename_i hn
    have hn : nm d.o.name = true := by simpa using hn
    have hids : (labN S.N (d.at S.made).id d.o.name (d.o.k == 6)).map AN.id = S.N.map AN.id := map_keep (fun x => by split <;> rfl) _
    have hmem : ∀ Y ∈ labN S.N (d.at S.made).id d.o.name (d.o.k == 6), ∃ Z ∈ S.N, Y.id = Z.id ∧ Y.props = Z.props ∧ (Y.labs = Z.labs ∨ Z.id = (d.at S.made).id ∧ Y.labs = chgL (fun s => s) Z.labs d.o.name (d.o.k == 6)) := fun Y hY => by
      obtain ⟨Z, hZ, rfl⟩ := List.mem_map.1 hY
      refine ⟨Z, hZ, ?_⟩
      split
      · rename_i e; exact ⟨rfl, rfl, .inr ⟨e, rfl⟩⟩
      · exact ⟨rfl, rfl, .inl rfl⟩
    refine ⟨by simp [labN]; exact hS.n40, hS.e60, by rw [hids]; exact hS.nri, hS.eri, hS.pos, hS.next, fun Y hY => ?_, fun Y hY => by show _ ∧ _ ∧ _ ∉ (labN S.N _ _ _).map AN.id; rw [hids]; exact hS.eid Y hY, fun Y hY => ?_, fun Y hY => by show _ ∧ _ ∈ (labN S.N _ _ _).map AN.id ∧ _ ∈ (labN S.N _ _ _).map AN.id ∧ _; rw [hids]; exact hS.eds Y hY⟩
    · obtain ⟨Z, hZ, e1, _, _⟩ := hmem Y hY
      rw [e1]
      exact hS.nid Z hZ
    · obtain ⟨Z, hZ, e1, e2, e3⟩ := hmem Y hY
      rw [e2]
      refine ⟨?_, (hS.nds Z hZ).2⟩
      rcases e3 with e3 | ⟨e4, e3⟩
      · rw [e3]; exact (hS.nds Z hZ).1
      · have : Z = X := rise_one hS.nri hZ hX'.1 (e4.trans hX'.2.symm)
        subst this
        rw [e3]
        exact (hS.nds Z hZ).1.chg hn h0
  · rw [stepE, if_neg h1, if_neg h2, if_neg h3, if_neg h4, if_neg h5, if_neg h67] at h0
    exact absurd h0 (by decide)

theorem leS_iff (s t : ByteArray) : leS s t = false ↔ cmpS t s < 0 := by
  rw [cmpS_neg s t]
  unfold leS cmpS
  cases h1 : Op.bytesLess s.toList t.toList with
  | true => simp
  | false =>
    cases h2 : (s.toList == t.toList) with
    | true => simp
    | false => simp

theorem nm_ahead {s : ByteArray} (h : nm s = true) : cmpS ⟨#[]⟩ s < 0 := by
  unfold nm at h
  simp only [Bool.and_eq_true, decide_eq_true_eq] at h
  rcases cmpS_three ⟨#[]⟩ s with h1 | h1 | h1
  · omega
  · have := cmpS_zero h1
    rw [← this] at h
    exact absurd h.1.1 (by decide)
  · rw [cmpS_eq] at h1
    have e0 : ByteArray.toList ⟨#[]⟩ = [] := by rw [ByteArray.toList_eq]
    rw [e0] at h1
    cases hl : s.toList with
    | nil => rw [hl] at h1; exact absurd h1 (by decide)
    | cons a l => rw [hl] at h1; exact absurd h1 (by simp [cmpB])

abbrev Asc (L : List ByteArray) : Prop := L.Pairwise (fun x y => cmpS x y < 0)

theorem asc_cons {ah s : ByteArray} {r : List ByteArray} : Asc (ah :: s :: r) ↔ cmpS ah s < 0 ∧ Asc (s :: r) := by
  unfold Asc
  rw [List.pairwise_cons]
  refine ⟨fun h => ⟨h.1 s (List.mem_cons_self ..), h.2⟩, fun h => ⟨fun y hy => ?_, h.2⟩⟩
  rcases List.mem_cons.1 hy with rfl | hy
  · exact h.1
  · exact cmpS_trans h.1 (by have := (List.pairwise_cons.1 h.2).1 y hy; omega)

theorem labE_iff : ∀ (L : List ByteArray) (ah : ByteArray), labE ah L = 0 ↔ (∀ s ∈ L, nm s = true) ∧ Asc (ah :: L)
  | [], ah => by simp [labE, Asc]
  | s :: r, ah => by
    rw [labE, asc_cons]
    have ih := labE_iff r s
    simp only [leS_iff]
    split
    · rename_i h
      rw [ih]
      exact ⟨fun k => ⟨fun x hx => by rcases List.mem_cons.1 hx with rfl | hx; exact h.1; exact k.1 x hx, h.2, k.2⟩, fun k => ⟨fun x hx => k.1 x (List.mem_cons_of_mem _ hx), k.2.2⟩⟩
    · rename_i h
      exact ⟨fun k => absurd k (by decide), fun k => absurd ⟨k.1 s (List.mem_cons_self ..), k.2.1⟩ h⟩

theorem asc_first {L : List ByteArray} (h : ∀ s ∈ L, nm s = true) : Asc (⟨#[]⟩ :: L) ↔ RiseS L := by
  rw [rise_iff]
  unfold Asc
  rw [List.pairwise_cons]
  exact ⟨fun k => k.2, fun k => ⟨fun s hs => nm_ahead (h s hs), k⟩⟩

theorem labsE_iff (L : List ByteArray) : labsE L = 0 ↔ RtL L := by
  unfold labsE RtL
  split
  · rename_i h
    exact ⟨fun k => absurd k (by decide), fun k => by omega⟩
  · rename_i h
    rw [labE_iff]
    exact ⟨fun k => ⟨(asc_first k.1).1 k.2, by omega, k.1⟩, fun k => ⟨k.2.2, (asc_first k.2.2).2 k.1⟩⟩

theorem prE_iff : ∀ (L : List Pr) (ah : ByteArray), prE ah L = 0 ↔ (∀ p ∈ L, nm p.name = true ∧ p.k ≠ 0 ∧ p.e = 0) ∧ Asc (ah :: L.map Pr.name)
  | [], ah => by simp [prE, Asc]
  | p :: r, ah => by
    rw [prE, List.map_cons, asc_cons]
    have ih := prE_iff r p.name
    simp only [leS_iff]
    split
    · rename_i h
      split
      · rename_i he
        rw [ih]
        exact ⟨fun k => ⟨fun x hx => by rcases List.mem_cons.1 hx with rfl | hx; exact ⟨h.1, h.2.2, he⟩; exact k.1 x hx, h.2.1, k.2⟩, fun k => ⟨fun x hx => k.1 x (List.mem_cons_of_mem _ hx), k.2.2⟩⟩
      · rename_i he
        exact ⟨fun k => absurd k he, fun k => absurd (k.1 p (List.mem_cons_self ..)).2.2 he⟩
    · rename_i h
      exact ⟨fun k => absurd k (by decide), fun k => absurd ⟨(k.1 p (List.mem_cons_self ..)).1, k.2.1, (k.1 p (List.mem_cons_self ..)).2.1⟩ h⟩

theorem prsE_iff (L : List Pr) : prsE L = 0 ↔ RiseS (L.map Pr.name) ∧ L.length ≤ 6 ∧ ∀ p ∈ L, nm p.name = true ∧ p.k ≠ 0 ∧ p.e = 0 := by
  unfold prsE
  have hn : (∀ p ∈ L, nm p.name = true ∧ p.k ≠ 0 ∧ p.e = 0) → ∀ s ∈ L.map Pr.name, nm s = true := fun h s hs => by
    obtain ⟨p, hp, rfl⟩ := List.mem_map.1 hs
    exact (h p hp).1
  split
  · rename_i h
    exact ⟨fun k => absurd k (by decide), fun k => by omega⟩
  · rename_i h
    rw [prE_iff]
    exact ⟨fun k => ⟨(asc_first (hn k.1)).1 k.2, by omega, k.1⟩, fun k => ⟨k.2.2, (asc_first (hn k.2.2)).2 k.1⟩⟩

theorem up_cons {ah s : Int} {r : List Int} : (ah :: s :: r).Pairwise (· < ·) ↔ ah < s ∧ (s :: r).Pairwise (· < ·) := by
  rw [List.pairwise_cons]
  refine ⟨fun h => ⟨h.1 s (List.mem_cons_self ..), h.2⟩, fun h => ⟨fun y hy => ?_, h.2⟩⟩
  rcases List.mem_cons.1 hy with rfl | hy
  · exact h.1
  · have := (List.pairwise_cons.1 h.2).1 y hy
    have := h.1
    omega

theorem ndE_of : ∀ (N : List Nd) (ah : Int), (ah :: N.map Nd.id).Pairwise (· < ·) → (∀ x ∈ N, labsE x.labs = 0 ∧ prsE x.props = 0) → ndE ah N = 0
  | [], _, _, _ => rfl
  | x :: r, ah, h, k => by
    rw [List.map_cons, up_cons] at h
    have hx := k x (List.mem_cons_self ..)
    have h1 : ndOne ah x = 0 := by
      unfold ndOne
      rw [if_neg (by have := h.1; omega), if_pos hx.1, hx.2]
    rw [ndE, if_pos h1]
    exact ndE_of r x.id h.2 fun y hy => k y (List.mem_cons_of_mem _ hy)

theorem edE_of (N : List Nd) : ∀ (E : List Ed) (ah : Int), (ah :: E.map Ed.id).Pairwise (· < ·) → (∀ x ∈ E, hasN N x.id = false ∧ nm x.typ = true ∧ hasN N x.frm = true ∧ hasN N x.dst = true ∧ prsE x.props = 0) → edE N ah E = 0
  | [], _, _, _ => rfl
  | x :: r, ah, h, k => by
    rw [List.map_cons, up_cons] at h
    have hx := k x (List.mem_cons_self ..)
    have h1 : edOne N ah x = 0 := by
      unfold edOne
      rw [if_neg (by have := h.1; rw [hx.1, hx.2.1]; simp; omega), if_neg (by rw [hx.2.2.1, hx.2.2.2.1]; simp), hx.2.2.2.2]
    rw [edE, if_pos h1]
    exact edE_of N r x.id h.2 fun y hy => k y (List.mem_cons_of_mem _ hy)

theorem lastI_mem : ∀ (L : List Int) (ah : Int), lastI ah L = ah ∨ lastI ah L ∈ L
  | [], _ => .inl rfl
  | x :: r, ah => by
    rw [lastI]
    rcases lastI_mem r x with h | h
    · rw [h]; exact .inr (List.mem_cons_self ..)
    · exact .inr (List.mem_cons_of_mem _ h)

theorem lastI_le : ∀ (L : List Int) (ah : Int), (ah :: L).Pairwise (· < ·) → ∀ x ∈ ah :: L, x ≤ lastI ah L
  | [], ah, _, x, hx => by rw [List.mem_singleton.1 hx]; exact Int.le_refl _
  | s :: r, ah, h, x, hx => by
    rw [up_cons] at h
    rw [lastI]
    have ih := lastI_le r s h.2
    rcases List.mem_cons.1 hx with rfl | hx
    · have := ih s (List.mem_cons_self ..)
      have := h.1
      omega
    · exact ih x hx

/-- What is asked of a graph. -/
structure GR (N : List Nd) (E : List Ed) (next : Int) : Prop where
  n40 : N.length ≤ 40
  e60 : E.length ≤ 60
  nri : Rise (N.map Nd.id)
  eri : Rise (E.map Ed.id)
  pos : 0 < next
  most : next ≤ 1099511627776
  nid : ∀ x ∈ N, 0 < x.id ∧ x.id < next
  eid : ∀ x ∈ E, 0 < x.id ∧ x.id < next
  nds : ∀ x ∈ N, labsE x.labs = 0 ∧ prsE x.props = 0
  eds : ∀ x ∈ E, hasN N x.id = false ∧ nm x.typ = true ∧ hasN N x.frm = true ∧ hasN N x.dst = true ∧ prsE x.props = 0

theorem up_of {α : Type} {f : α → Int} {L : List α} (hr : Rise (L.map f)) (h : ∀ x ∈ L, 0 < f x) : ((0 : Int) :: L.map f).Pairwise (· < ·) :=
  List.pairwise_cons.2 ⟨fun y hy => by obtain ⟨x, hx, rfl⟩ := List.mem_map.1 hy; exact h x hx, pair_of_rise hr⟩

theorem gE_iff (N : List Nd) (E : List Ed) (next : Int) : gE N E next = 0 ↔ GR N E next := by
  constructor
  · intro h
    unfold gE at h
    split at h
    · exact absurd h (by decide)
    rename_i h1
    split at h
    · rename_i h2
      split at h
      · rename_i h3
        split at h
        · exact absurd h (by decide)
        rename_i h4
        obtain ⟨r1, a1⟩ := ndE_ok N 0 h2
        obtain ⟨r2, a2⟩ := edE_ok N E 0 h3
        have u1 := lastI_le _ 0 (up_of r1 fun x hx => (a1 x hx).1)
        have u2 := lastI_le _ 0 (up_of r2 fun x hx => (a2 x hx).1)
        have z1 := u1 0 (List.mem_cons_self ..)
        refine ⟨by omega, by omega, r1, r2, by omega, by omega, fun x hx => ⟨(a1 x hx).1, ?_⟩, fun x hx => ⟨(a2 x hx).1, ?_⟩, fun x hx => (a1 x hx).2, fun x hx => (a2 x hx).2⟩
        · have := u1 x.id (List.mem_cons_of_mem _ (List.mem_map.2 ⟨x, hx, rfl⟩))
          omega
        · have := u2 x.id (List.mem_cons_of_mem _ (List.mem_map.2 ⟨x, hx, rfl⟩))
          omega
      · rename_i h3; exact absurd h h3
    · rename_i h2; exact absurd h h2
  · intro h
    have h2 := ndE_of N 0 (up_of h.nri fun x hx => (h.nid x hx).1) h.nds
    have h3 := edE_of N E 0 (up_of h.eri fun x hx => (h.eid x hx).1) h.eds
    unfold gE
    rw [if_neg (by have := h.n40; have := h.e60; omega), if_pos h2, if_pos h3, if_neg]
    have p0 := h.pos
    have l1 : lastI 0 (N.map Nd.id) < next := by
      rcases lastI_mem (N.map Nd.id) 0 with e | e
      · omega
      · obtain ⟨x, hx, e⟩ := List.mem_map.1 e
        have := (h.nid x hx).2
        omega
    have l2 : lastI 0 (E.map Ed.id) < next := by
      rcases lastI_mem (E.map Ed.id) 0 with e | e
      · omega
      · obtain ⟨x, hx, e⟩ := List.mem_map.1 e
        have := (h.eid x hx).2
        omega
    have := h.most
    omega

theorem firstErr_zero (es : Nat → Int) (z : Int) : ∀ (n i : Nat), (∀ j, j < n → es (i + j) = 0) → firstErr es i n z = z
  | 0, i, _ => by simp [firstErr]
  | n + 1, i, h => by
    have h0 := h 0 (by omega)
    rw [Nat.add_zero] at h0
    rw [firstErr, if_pos h0]
    exact firstErr_zero es z n (i + 1) fun j hj => by
      have := h (j + 1) (by omega)
      rw [show i + 1 + j = i + (j + 1) from by omega]
      exact this

theorem bi_plain (B : Nat) (w : World) (hB : B ≤ w.heap.size) (hT : Tabs B w) (d : Nat) (k n : Int) (s : ByteArray) (a : Option Addr) (l c lists : Nat) (L : List T) (h4 : k ≠ 4) (hs : s.size ≤ 9223372036854775807) (hin : InT (.node k n s L)) (hL : LiesS w L a l) : ∃ e, Both w (.agg #[.int .i64 k, .int .i64 n, .string s, .slice a l c]) lists e ∧ (e = 0 → Ck d (.node k n s L)) ∧ (Ck d (.node k n s L) → e = 0) := by
  have hl := hL.length
  by_cases h3 : k = 3
  · subst h3
    have hv : ∀ w1, Below w.heap.size w w1 → ∀ w', Below w1.heap.size w1 w' → Calls Tryz.prog 85 #[.string s] w' fun e w'' => e = .returned (.bool (Lib.validD s.data.toList)) ∧ Below w'.heap.size w' w'' := fun w1 k1 w' k' => Tryz.utf8_ValidString s w' hs (hT.below ((below2 k1 k').mono hB)).now
    refine ⟨if s.size > 4000 then 2 else if Lib.validD s.data.toList = true ∧ n = 0 ∧ l = 0 then 0 else 6, fun w' k => ⟨within_text n s a l c lists _ w' fun w2 k2 => checkText_any n s a l c (Lib.validD s.data.toList) w2 hs hl.2 (hv w2 (below2 k k2)), by first | exact ref_text n s a l c (lists + 1) (Lib.validD s.data.toList) _ w' hs hl.2 rfl (hv w' k) | exact trivial⟩, fun e => ?_, fun h => by cases h with | text _ _ g0 g1 => rw [if_neg (by omega), if_pos ⟨g1, rfl, hl.1⟩]⟩
    split at e
    · exact absurd e (by decide)
    · split at e
      · rename_i h1 h2
        obtain ⟨h2, rfl, h5⟩ := h2
        have e1 : L = [] := List.length_eq_zero_iff.1 (by omega)
        subst e1
        exact .text d s (by omega) h2
      · exact absurd e (by decide)
  · obtain ⟨z, hz0, hz1, hz2, hz3, hz4⟩ : ∃ z : Int, ((k = 0 ∧ n = 0 ∨ k = 1 ∧ (n = 0 ∨ n = 1) ∨ k = 2) → s = ⟨#[]⟩ → l = 0 → z = 0) ∧ (¬ (k = 0 ∧ n = 0 ∨ k = 1 ∧ (n = 0 ∨ n = 1) ∨ k = 2) → z = 6) ∧ (s ≠ ⟨#[]⟩ → z = 6) ∧ (l ≠ 0 → z = 6) ∧ (z = 0 → (k = 0 ∧ n = 0 ∨ k = 1 ∧ (n = 0 ∨ n = 1) ∨ k = 2) ∧ s = ⟨#[]⟩ ∧ l = 0) := by
      by_cases hk : (k = 0 ∧ n = 0 ∨ k = 1 ∧ (n = 0 ∨ n = 1) ∨ k = 2)
      · by_cases hs : s = ⟨#[]⟩
        · by_cases hl0 : l = 0
          · exact ⟨0, fun _ _ _ => rfl, fun h => absurd hk h, fun h => absurd hs h, fun h => absurd hl0 h, fun _ => ⟨hk, hs, hl0⟩⟩
          · exact ⟨6, fun _ _ h => absurd h hl0, fun _ => rfl, fun _ => rfl, fun _ => rfl, fun h => absurd h (by decide)⟩
        · exact ⟨6, fun _ h => absurd h hs, fun _ => rfl, fun _ => rfl, fun _ => rfl, fun h => absurd h (by decide)⟩
      · exact ⟨6, fun h => absurd h hk, fun _ => rfl, fun _ => rfl, fun _ => rfl, fun h => absurd h (by decide)⟩
    refine ⟨z, fun w' kk => ⟨within_plain k n s a l c lists z w' (by simpa using h4) (by simpa using h3) fun w2 k2 => checkPlain_any k n s a l c z w2 hz0 hz1 hz2 hz3 hl.2, by first | exact ref_plain k n s a l c (lists + 1) z w' hl.2 (by simpa using h4) (by simpa using h3) hz0 hz1 hz2 hz3 | exact trivial⟩, fun e => ?_, fun h => ?_⟩
    rotate_left
    · cases h with
      | null => exact hz0 (.inl ⟨rfl, rfl⟩) rfl hl.1
      | bool _ _ g => exact hz0 (.inr (.inl ⟨rfl, g⟩)) rfl hl.1
      | int => exact hz0 (.inr (.inr rfl)) rfl hl.1
      | text => exact absurd rfl h3
      | list => exact absurd rfl h4
    obtain ⟨hk, rfl, h0⟩ := hz4 e
    have e1 : L = [] := List.length_eq_zero_iff.1 (by omega)
    subst e1
    unfold InT at hin
    rcases hk with ⟨rfl, rfl⟩ | ⟨rfl, h⟩ | rfl
    · exact .null d
    · exact .bool d n h
    · exact .int d n hin.1.1 hin.1.2

theorem bi_all (B : Nat) (w : World) (hB : B ≤ w.heap.size) (hT : Tabs B w) : ∀ (f lists : Nat), lists + f = 6 → ∀ (k n : Int) (s : ByteArray) (a : Option Addr) (l c : Nat) (L : List T), s.size ≤ 9223372036854775807 → InT (.node k n s L) → LiesS w L a l → ∃ e, Both w (.agg #[.int .i64 k, .int .i64 n, .string s, .slice a l c]) lists e ∧ (e = 0 → Ck f (.node k n s L)) ∧ (Ck f (.node k n s L) → e = 0) := by
  intro f
  induction f with
  | zero =>
    intro lists hd k n s a l c L hs hin hL
    by_cases h4 : k = 4
    · subst h4
      exact ⟨2, both_list_many w n s a l c lists hL.length.2 (.inr (by omega)), fun e => absurd e (by decide), fun h => by cases h⟩
    · exact bi_plain B w hB hT _ k n s a l c lists L h4 hs hin hL
  | succ f ih =>
    intro lists hd k n s a l c L hs hin hL
    by_cases h4 : k = 4
    · subst h4
      by_cases hm : 30 < l
      · exact ⟨2, both_list_many w n s a l c lists hL.length.2 (.inl hm), fun e => absurd e (by decide), fun h => by cases h with | list _ _ g0 g1 => have := hL.length.1; omega⟩
      · obtain ⟨z, hz0, hz1, hz2, hz3⟩ := bare_of n s
        by_cases h0 : l = 0
        · subst h0
          have e1 : L = [] := List.length_eq_zero_iff.1 hL.length.1.symm
          subst e1
          exact ⟨z, fun w' k => ⟨within_list n s a 0 c lists z w' fun w2 k2 => checkList_empty 4 n s a c lists z w2 (by omega) hz0 hz1 hz2, by first | exact ref_empty n s a c (lists + 1) z w' (by omega) hz0 hz1 hz2 | exact trivial⟩, fun e => by obtain ⟨rfl, rfl⟩ := hz3 e; exact .list f [] (by simp) (fun t ht => by cases ht), fun h => by cases h with | list _ _ g0 g1 => exact hz0 rfl rfl⟩
        · obtain ⟨b, off, _, rfl, hb, _⟩ := hL.get (i := 0) (by omega)
          have hel : ∀ i, i < l → ∃ e, Both w ((valsAt w b off).at i) (lists + 1) e ∧ (e = 0 → ∀ t, L.drop i = t :: L.drop (i + 1) → Ck f t) ∧ ((∀ t ∈ L, Ck f t) → e = 0) := by
            intro i hi
            obtain ⟨kt, nt, st, Lt, at', lt, ct, _, hd', p0, p1, p2, p3, hlc, hLt, _, hst⟩ := hL.at2 hi
            rw [vals_at p0 p1 p2 p3]
            have hmem : T.node kt nt st Lt ∈ L := List.mem_of_mem_drop (by rw [hd']; exact List.mem_cons_self ..)
            obtain ⟨e, he, hwe, hwi⟩ := ih (lists + 1) (by omega) kt nt st at' lt ct Lt hst (InL.mem (by unfold InT at hin; exact hin.2) hmem) hLt
            refine ⟨e, he, fun e0 t ht => ?_, fun h => hwi (h _ hmem)⟩
            rw [hd'] at ht
            simp only [List.cons.injEq, and_true] at ht
            rw [← ht]
            exact hwe e0
          obtain ⟨es, hes⟩ : ∃ es : Nat → Int, ∀ i, i < l → Both w ((valsAt w b off).at i) (lists + 1) (es i) ∧ (es i = 0 → ∀ t, L.drop i = t :: L.drop (i + 1) → Ck f t) ∧ ((∀ t ∈ L, Ck f t) → es i = 0) := by
            refine ⟨fun i => if h : i < l then Classical.choose (hel i h) else 0, fun i hi => ?_⟩
            have := Classical.choose_spec (hel i hi)
            simp only [dif_pos hi]
            exact this
          refine ⟨firstErr es 0 l z, fun w' k => ⟨?_, ?_⟩, fun e => ?_, fun h => ?_⟩
          · refine within_list n s (some ⟨b, off, none⟩) l c lists _ w' fun w2 k2 => ?_
            have kk := below2 k k2
            refine checkList_any 4 n s b off l c lists es (valsAt w b off) z w2 hz0 hz1 hz2 (by omega) (by omega) (by omega) (by have := kk.size; omega) (listAt_below hL.listAt hb kk) fun i hi w3 k3 => ?_
            have := ((hes i hi).1 w3 (below2 kk k3)).1
            rw [show ((lists + 1 : Nat) : Int) = (lists : Int) + 1 from by omega] at this
            exact this
          · first
            | exact trivial
            | (refine ref_list n s b off l c (lists + 1) es (valsAt w b off) z w' hz0 hz1 hz2 (by omega) (by omega) (by omega) (by have := k.size; omega) (listAt_below hL.listAt hb k) fun i hi w3 k3 => ?_
               have := ((hes i hi).1 w3 (below2 k k3)).2
               rw [show ((lists + 1 : Nat) : Int) = (lists : Int) + 1 from by omega] at this
               exact this)
          · obtain ⟨hz, hall⟩ := firstErr_none es z l 0 e
            obtain ⟨rfl, rfl⟩ := hz3 hz
            refine .list f L (by rw [← hL.length.1]; omega) (fun t ht => ?_)
            obtain ⟨i, hi, hdi⟩ := mem_drop ht
            have hi' : i < l := by rw [hL.length.1]; exact hi
            have h0 := hall i hi'
            rw [Nat.zero_add] at h0
            exact (hes i hi').2.1 h0 t hdi
          · cases h with
            | list _ _ g0 g1 => rw [firstErr_zero es z l 0 (fun i hi => by rw [Nat.zero_add]; exact (hes i hi).2.2 g1)]; exact hz0 rfl rfl
    · exact bi_plain B w hB hT _ k n s a l c lists L h4 hs hin hL
end Go.Proofs.YtebbjmjgojekdaaGreatDoor
