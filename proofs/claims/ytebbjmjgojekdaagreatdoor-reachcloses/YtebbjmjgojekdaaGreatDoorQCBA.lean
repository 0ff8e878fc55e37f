/-
  What is proved here: what the texts KPure, KChgS prove, in one text.
-/
import Derived.Test.YtebbjmjgojekdaaGreatDoorKIns
import Derived.Deep.RegionHeld3
namespace Go.Proofs.YtebbjmjgojekdaaGreatDoor
open Go.RowKit
set_option linter.unusedVariables false

section
variable {α : Type} (f : α → ByteArray)

/-- Those ahead of a name, and those behind it. -/
def loS (t : ByteArray) (L : List α) : List α := L.filter (fun y => decide (cmpS (f y) t < 0))
def hiS (t : ByteArray) (L : List α) : List α := L.filter (fun y => decide (cmpS t (f y) < 0))

/-- The list with x in the place of the one of its name, or without that one. -/
def chgL (L : List α) (x : α) (stays : Bool) : List α := loS f (f x) L ++ (if stays then [x] else []) ++ hiS f (f x) L

open Classical in
/-- ErrFull, if it would be too long. -/
noncomputable def chgE (L : List α) (t : ByteArray) (stays : Bool) (most : Nat) : Int := if stays = true ∧ t ∉ L.map f ∧ most ≤ L.length then 10 else 0

theorem names_at {L : List α} {k : Nat} {y : α} (h : L[k]? = some y) : (L.map f)[k]? = some (f y) := by rw [List.getElem?_map, h]; rfl

theorem spot_lo {L : List α} {t : ByteArray} {i : Nat} {b : Bool} (h : SpotS (L.map f) t i b) : L.take i = loS f t L := by
  obtain ⟨h1, h2, h3, _, _⟩ := h
  unfold loS
  conv => rhs; rw [← List.take_append_drop i L]
  rw [List.filter_append]
  have e1 : (L.take i).filter (fun y => decide (cmpS (f y) t < 0)) = L.take i := by
    rw [List.filter_eq_self]
    intro y hy
    obtain ⟨k, hk⟩ := List.getElem?_of_mem hy
    rw [List.getElem?_take] at hk
    split at hk
    · rename_i hki
      simpa using h2 k (f y) hki (names_at f hk)
    · cases hk
  have e2 : (L.drop i).filter (fun y => decide (cmpS (f y) t < 0)) = [] := by
    rw [List.filter_eq_nil_iff]
    intro y hy
    obtain ⟨k, hk⟩ := List.getElem?_of_mem hy
    rw [List.getElem?_drop] at hk
    have := h3 (i + k) (f y) (by omega) (names_at f hk)
    rw [cmpS_neg] at this
    simp
    omega
  rw [e1, e2, List.append_nil]

theorem spot_hi {L : List α} {t : ByteArray} {i : Nat} {b : Bool} (hr : RiseS (L.map f)) (h : SpotS (L.map f) t i b) : L.drop (i + if b then 1 else 0) = hiS f t L := by
  have hl := spot_lo f h
  obtain ⟨h1, h2, h3, h4, h5⟩ := h
  obtain ⟨m, hm⟩ : ∃ m, m = i + if b then 1 else 0 := ⟨_, rfl⟩
  rw [← hm]
  have hm0 : b = false → m = i := fun e => by rw [hm, e]; rfl
  have hm1 : b = true → m = i + 1 := fun e => by rw [hm, e]; rfl
  clear hm
  unfold hiS
  conv => rhs; rw [← List.take_append_drop m L]
  rw [List.filter_append]
  have e1 : (L.take m).filter (fun y => decide (cmpS t (f y) < 0)) = [] := by
    rw [List.filter_eq_nil_iff]
    intro y hy
    obtain ⟨k, hk⟩ := List.getElem?_of_mem hy
    rw [List.getElem?_take] at hk
    split at hk
    · rename_i hki
      have hn := names_at f hk
      rcases Nat.lt_or_ge k i with hlt | hge
      · have := h2 k (f y) hlt hn
        rw [cmpS_neg] at this
        simp
        omega
      · cases b with
        | false => have := hm0 rfl; omega
        | true =>
          have : k = i := by have := hm1 rfl; omega
          subst this
          rw [h4 rfl] at hn
          injection hn with hn
          simp [← hn, cmpS_self]
    · cases hk
  have e2 : (L.drop m).filter (fun y => decide (cmpS t (f y) < 0)) = L.drop m := by
    rw [List.filter_eq_self]
    intro y hy
    obtain ⟨k, hk⟩ := List.getElem?_of_mem hy
    rw [List.getElem?_drop] at hk
    have hn := names_at f hk
    simp only [decide_eq_true_eq]
    cases b with
    | false =>
      have h6 := h3 _ (f y) (by have := hm0 rfl; omega) hn
      rcases cmpS_three t (f y) with h7 | h7 | h7
      · omega
      · exact absurd (List.mem_of_getElem? hn) (by rw [← cmpS_zero h7]; exact h5 rfl)
      · omega
    | true =>
      exact hr i (m + k) t (f y) (by have := hm1 rfl; omega) (h4 rfl) hn
  rw [e1, e2, List.nil_append]

theorem spot_len {L : List α} {t : ByteArray} {i : Nat} (h : SpotS (L.map f) t i true) : i < L.length := by
  have := (List.getElem?_eq_some_iff.1 (h.2.2.2.1 rfl)).1
  simpa using this

theorem spot_mem {L : List α} {t : ByteArray} {i : Nat} (h : SpotS (L.map f) t i true) : t ∈ L.map f := List.mem_of_getElem? (h.2.2.2.1 rfl)

theorem chg_set {L : List α} {x : α} {i : Nat} (hr : RiseS (L.map f)) (h : SpotS (L.map f) (f x) i true) : L.set i x = chgL f L x true := by
  have h1 := spot_lo f h
  have h2 := spot_hi f hr h
  simp only [if_true] at h2
  rw [List.set_eq_take_append_cons_drop, if_pos (spot_len f h), h1, h2]
  simp [chgL]

theorem chg_ins {L : List α} {x : α} {i : Nat} (hr : RiseS (L.map f)) (h : SpotS (L.map f) (f x) i false) : insL L i x = chgL f L x true := by
  have h1 := spot_lo f h
  have h2 := spot_hi f hr h
  simp only [Bool.false_eq_true, if_false, Nat.add_zero] at h2
  rw [insL, h1, h2]
  simp [chgL]

theorem chg_erase {L : List α} {x : α} {i : Nat} (hr : RiseS (L.map f)) (h : SpotS (L.map f) (f x) i true) : L.eraseIdx i = chgL f L x false := by
  have h1 := spot_lo f h
  have h2 := spot_hi f hr h
  simp only [if_true] at h2
  rw [List.eraseIdx_eq_take_drop_succ, h1, h2]
  simp [chgL]

theorem chg_none {L : List α} {x : α} {i : Nat} (hr : RiseS (L.map f)) (h : SpotS (L.map f) (f x) i false) : L = chgL f L x false := by
  have h1 := spot_lo f h
  have h2 := spot_hi f hr h
  simp only [Bool.false_eq_true, if_false, Nat.add_zero] at h2
  rw [chgL, ← h1, ← h2]
  simp

theorem rise_filter {L : List α} (hr : RiseS (L.map f)) (p : α → Bool) : RiseS ((L.filter p).map f) := by
  have hp : (L.map f).Pairwise (fun x y => cmpS x y < 0) := by
    rw [List.pairwise_iff_getElem]
    intro i j hi hj hij
    exact hr i j _ _ hij (List.getElem?_eq_getElem hi) (List.getElem?_eq_getElem hj)
  have hq : ((L.filter p).map f).Pairwise (fun x y => cmpS x y < 0) := hp.sublist (List.filter_sublist.map f)
  intro i j x y hij hx hy
  rw [List.pairwise_iff_getElem] at hq
  obtain ⟨hi, e1⟩ := List.getElem?_eq_some_iff.1 hx
  obtain ⟨hj, e2⟩ := List.getElem?_eq_some_iff.1 hy
  rw [← e1, ← e2]
  exact hq i j hi hj hij

theorem rise_iff {ns : List ByteArray} : RiseS ns ↔ ns.Pairwise (fun x y => cmpS x y < 0) := by
  constructor
  · intro hr
    rw [List.pairwise_iff_getElem]
    intro i j hi hj hij
    exact hr i j _ _ hij (List.getElem?_eq_getElem hi) (List.getElem?_eq_getElem hj)
  · intro hq i j x y hij hx hy
    rw [List.pairwise_iff_getElem] at hq
    obtain ⟨hi, e1⟩ := List.getElem?_eq_some_iff.1 hx
    obtain ⟨hj, e2⟩ := List.getElem?_eq_some_iff.1 hy
    rw [← e1, ← e2]
    exact hq i j hi hj hij

theorem chg_rise {L : List α} {x : α} {stays : Bool} (hr : RiseS (L.map f)) : RiseS ((chgL f L x stays).map f) := by
  have hlo : ∀ y ∈ loS f (f x) L, cmpS (f y) (f x) < 0 := fun y hy => by simpa using (List.mem_filter.1 hy).2
  have hhi : ∀ y ∈ hiS f (f x) L, cmpS (f x) (f y) < 0 := fun y hy => by simpa using (List.mem_filter.1 hy).2
  rw [rise_iff]
  unfold chgL
  rw [List.map_append, List.map_append, List.pairwise_append, List.pairwise_append]
  refine ⟨⟨rise_iff.1 (rise_filter f hr _), ?_, ?_⟩, rise_iff.1 (rise_filter f hr _), ?_⟩
  · cases stays <;> simp
  · intro a ha b hb
    obtain ⟨y, hy, rfl⟩ := List.mem_map.1 ha
    cases stays with
    | false => simp at hb
    | true =>
      simp at hb
      subst hb
      exact hlo y hy
  · intro a ha b hb
    obtain ⟨z, hz, rfl⟩ := List.mem_map.1 hb
    rcases List.mem_append.1 ha with ha | ha
    · obtain ⟨y, hy, rfl⟩ := List.mem_map.1 ha
      exact cmpS_trans (hlo y hy) (by have := hhi z hz; omega)
    · cases stays with
      | false => simp at ha
      | true =>
        simp at ha
        subst ha
        exact hhi z hz

theorem chg_mem {L : List α} {x : α} {stays : Bool} {y : α} (h : y ∈ chgL f L x stays) : y = x ∧ stays = true ∨ y ∈ L := by
  unfold chgL at h
  rcases List.mem_append.1 h with h | h
  · rcases List.mem_append.1 h with h | h
    · exact .inr (List.mem_filter.1 h).1
    · cases stays with
      | false => simp at h
      | true =>
        simp at h
        exact .inl ⟨h, rfl⟩
  · exact .inr (List.mem_filter.1 h).1
end

/-- What change leaves: the error; and, if there is none, the list as it is then, in its old row or in a new one. -/
def ChgEnd {α : Type} (f : α → List Value) (k : Nat) (T : TypeId) (nm : α → ByteArray) (L : List α) (x : α) (stays : Bool) (most : Nat) (pb po : Nat) (pcs : Array Value) (pt : TypeId) (v : Value) (w w' : World) (e : Ending) : Prop :=
  e = .returned (.int .i64 (chgE nm L (nm x) stays most)) ∧ Rest (fun j => j = pb ∨ v.ownBlock = some j) w w' ∧
  (chgE nm L (nm x) stays most = 0 → ∃ v', w'.heap[pb]? = some (.cells (pcs.setIfInBounds po v') pt (0, 0)) ∧ w'.ownsRow 0 T k v' (chgL nm L x stays).length (((chgL nm L x stays).map f).flatten) ∧ ∀ g, v'.ownBlock = some g → v.ownBlock = some g ∨ w.heap.size ≤ g)

theorem set_same {cs : Array Value} {o : Nat} {v : Value} (h : cs[o]? = some v) : cs.setIfInBounds o v = cs := by
  obtain ⟨hlt, e⟩ := Array.getElem?_eq_some_iff.1 h
  apply Array.ext
  · simp
  · intro i h1 h2
    rw [Array.getElem_setIfInBounds]
    split
    · rename_i hi
      subst hi
      exact e.symm
    · rfl

theorem set_block2 {w : World} {b : Nat} {cu : Array Value} {t : TypeId} (h : w.heap[b]? = some (.cells cu t (0, 0))) (j : Nat) (v : Value) : (w.setCell ⟨b, j, none⟩ v).heap[b]? = some (.cells (cu.setIfInBounds j v) t (0, 0)) := by
  simp [World.setCell, Array.getElem?_modify, h]

theorem own_drew {w : World} {B n size : Nat} {e : TypeId} {v : Value} {xs : List Value} (h : w.ownsRow B e size v n xs) : w.drew.ownsRow B e size v n xs := h

theorem own_set {α : Type} (f : α → List Value) (k : Nat) (hk : ∀ x, (f x).length = k) {w w' : World} {e : TypeId} {g cap : Nat} (L : List α) (i : Nat) (x : α) (hi : i < L.length) (h : w.ownsRow 0 e k (.slice (some ⟨g, 0, none⟩) L.length cap) L.length ((L.map f).flatten))
    (hb : ∀ cur, w.heap[g]? = some (.cells cur e (0, 0)) → w'.heap[g]? = some (.cells (setL cur (i * k) (f x)) e (0, 0))) : w'.ownsRow 0 e k (.slice (some ⟨g, 0, none⟩) L.length cap) L.length (((L.set i x).map f).flatten) := by
  rcases h.2 with ⟨h0, _⟩ | ⟨g', cap', cur, h0, h1, h2, h3, h4, h5, h6⟩
  · cases h0
  · injection h0 with e1 _ e3
    injection e1 with e1
    injection e1 with e1
    subst e1 e3
    have hle : L.length * k ≤ cap * k := Nat.mul_le_mul_right k h3
    have hik : (i + 1) * k ≤ L.length * k := Nat.mul_le_mul_right k hi
    have e2 : (i + 1) * k = i * k + k := Nat.succ_mul i k
    refine ⟨by rw [flat_len f k hk, List.length_set], .inr ⟨g, cap, _, rfl, h1, hb cur h2, h3, h4, by rw [setL_size]; exact h5, ?_⟩⟩
    rw [setL_list (f x) (i * k) cur (by rw [hk x, h5]; omega)]
    have c1 : cur.toList.take (i * k) = ((L.take i).map f).flatten := by
      rw [show cur.toList.take (i * k) = (cur.toList.take (L.length * k)).take (i * k) by rw [List.take_take, Nat.min_eq_left (by omega)], h6, flat_take f k hk L i (by omega)]
    have l1 : ((L.take i).map f).flatten.length = i * k := by rw [flat_len f k hk, List.length_take, Nat.min_eq_left (by omega)]
    have c2 : (cur.toList.take (L.length * k)).drop (i * k + k) = ((L.drop (i + 1)).map f).flatten := by
      rw [h6, ← e2]
      have := flat_take f k hk L (i + 1) (by omega)
      have e4 : (L.map f).flatten = ((L.take (i + 1)).map f).flatten ++ ((L.drop (i + 1)).map f).flatten := by
        rw [← List.flatten_append, ← List.map_append, List.take_append_drop]
      have l2 : ((L.take (i + 1)).map f).flatten.length = (i + 1) * k := by rw [flat_len f k hk, List.length_take, Nat.min_eq_left (by omega)]
      rw [e4, ← l2, List.drop_left]
    have e5 : ((L.set i x).map f).flatten = ((L.take i).map f).flatten ++ f x ++ ((L.drop (i + 1)).map f).flatten := by
      rw [List.set_eq_take_append_cons_drop, if_pos hi]
      simp
    rw [e5, c1, ← c2]
    have l3 : (((L.take i).map f).flatten ++ f x).length = i * k + k := by rw [List.length_append, l1, hk x]
    rw [List.take_append, List.take_of_length_le (by rw [l3]; omega), l3, hk x, List.drop_take]

set_option maxHeartbeats 8000000 in
set_option maxRecDepth 100000 in
theorem changeS_any (pb po : Nat) (pcs : Array Value) (pt : TypeId) (L : List ByteArray) (a : Option Addr) (n cap : Nat) (x : ByteArray) (stays : Bool) (w : World) (hpb : w.heap[pb]? = some (.cells pcs pt (0, 0))) (hpo : pcs[po]? = some (.slice a n cap))
    (h : w.ownsRow 0 9 1 (.slice a n cap) n (strs L)) (hn : n = L.length) (hl : n ≤ 60) (hsz : ∀ s ∈ L, s.size ≤ 9223372036854775807) (hr : RiseS L) (hne : ∀ g, (Value.slice a n cap).ownBlock = some g → g ≠ pb) :
    Calls Tryz.prog 164 #[.pointer (some ⟨pb, po, none⟩), .string x, .func (.func 165) #[] #[], .bool stays, .int .i64 4] w fun e w' => ChgEnd strCell 1 9 (fun s => s) L x stays 4 pb po pcs pt (.slice a n cap) w w' e := by
  have hrm : RiseS (L.map (fun s => s)) := by rw [List.map_id']; exact hr
  obtain ⟨er, hER⟩ : ∃ z, z = chgE (fun s => s) L x stays 4 := ⟨_, rfl⟩
  obtain ⟨RL, hRL⟩ : ∃ z, z = chgL (fun s => s) L x stays := ⟨_, rfl⟩
  have hat : StrsAt w L a n := row_strs (c := cap) (by rw [← hn]; exact h) hsz
  have HPB := toHid hpb
  have HPO := toHid hpo
  have HH := toHid h
  have HN := toHid hn
  have HRM := toHid hrm
  have HNE := toHid hne
  have HRI := toHid hr
  have HAT := toHid hat
  have HER := toHid hER
  unfold ChgEnd
  rw [← hER, ← hRL]
  have HRL := toHid hRL
  clear hpb hpo h hn hr hrm hne hat hsz hER hRL
  have b0 : Below w.heap.size w (w.alloc (.cells #[.func (.func 165) #[] #[]] 214)) := (Below.refl _ _).alloc (Nat.le_refl _) _
  have q0 := alloc_new w (.cells #[.func (.func 165) #[] #[]] 214)
  have z0 : (w.alloc (.cells #[.func (.func 165) #[] #[]] 214)).heap.size = w.heap.size + 1 := by simp
  have HB0 := toHid b0
  have HQ0 := toHid q0
  have HZ0 := toHid z0
  clear b0 q0 z0
  go_enter Tryz.func164, Tryz.ntmps164
  go_upto_region 1 with fail
  generalize w.alloc (.cells #[.func (.func 165) #[] #[]] 214) = W at HB0 HQ0 HZ0 ⊢
  have HPW : Hid (W.heap[pb]? = some (.cells pcs pt (0, 0))) := toHid ((HB0.out.block pb (Array.getElem?_eq_some_iff.1 HPB.out).1).trans HPB.out)
  have hpbl : pb < w.heap.size := (Array.getElem?_eq_some_iff.1 HPB.out).1
  have c0 : W.cell? ⟨pb, po, none⟩ = some (.slice a n cap) := (cell_of HPW.out po).trans HPO.out
  have y0 : W.cell? ⟨w.heap.size, 0, none⟩ = some (.func (.func 165) #[] #[]) := cell_of HQ0.out 0
  have D0 : Below W.heap.size W W.drew := (Below.refl _ _).drew
  have HS : Hid (∀ W' : World, Below W.heap.size W W' → W'.cell? ⟨pb, po, none⟩ = some (.slice a n cap) ∧ W'.cell? ⟨w.heap.size, 0, none⟩ = some (.func (.func 165) #[] #[])) := fun W' kk =>
    ⟨(kk.cell (p := ⟨pb, po, none⟩) (by rw [HZ0.out]; show pb < _; omega)).trans c0, (kk.cell (p := ⟨w.heap.size, 0, none⟩) (by rw [HZ0.out]; show w.heap.size < _; omega)).trans y0⟩
  have HF : Hid (∀ V, Below W.heap.size W V → Calls Tryz.prog 183 #[.slice a n cap, .string x, .func (.func 184) #[] #[.pointer (some ⟨w.heap.size, 0, none⟩)]] V fun e w' => FoundS L x e ∧ Below V.heap.size V w') := fun V kV => strK_search L a n cap x w.heap.size V (HS.out V kV).2 (by have := kV.size; rw [HZ0.out] at this; omega) ((HAT.out.below HB0.out).below kV) hl HRI.out
  have HNM : Hid (∀ V, Calls Tryz.prog 165 #[.string x] V fun e w' => e = .returned (.string x) ∧ Below V.heap.size V w') := fun V => strK_name x V
  go_cut [11, 12] (fun s11 s12 wx => ∃ (i : Nat) (f : Bool), s11 = .int .i64 i ∧ s12 = .bool f ∧ SpotS L x i f ∧ Below W.heap.size W wx)
  case first =>
    go_region_held3 (fun W' => W'.cell? ⟨pb, po, none⟩ = some (.slice a n cap) ∧ W'.cell? ⟨w.heap.size, 0, none⟩ = some (.func (.func 165) #[] #[]))
      (first
        | with_reducible exact HS.out _ k2
        | with_reducible exact HS.out _ k1
        | with_reducible exact HS.out _ D0
        | exact ⟨c0, y0⟩
        | go_keep)
      (first
        | (go_at_call 183; refine (HF.out _ k1).mono ?_; rintro e u2 ⟨⟨i, f, rfl, hsp⟩, h2⟩; have k2 : Below W.heap.size W u2 := below2 k1 h2; have HSP := toHid hsp; clear hsp)
        | (go_at_call 165; refine (HNM.out _).mono ?_; rintro e u1 ⟨rfl, h1⟩; have k1 : Below W.heap.size W u1 := D0.trans h1))
    all_goals
      go_wp2_with fail
      go_meet
      exact ⟨i, f, rfl, rfl, HSP.out, k2⟩
  case rest =>
    obtain ⟨i, f, rfl, rfl, hsp, kc⟩ := hcut
    have hspm : SpotS (L.map (fun s => s)) x i f := by rw [List.map_id']; exact hsp
    have HSP := toHid hspm
    have k0 := HB0.out.trans (kc.mono HB0.out.size)
    have hwc : w.heap.size + 1 ≤ wc.heap.size := by have := kc.size; rw [HZ0.out] at this; exact this
    have hpc : wc.heap[pb]? = some (.cells pcs pt (0, 0)) := (k0.block pb hpbl).trans HPB.out
    have hrow : wc.ownsRow 0 9 1 (.slice a n cap) n ((L.map strCell).flatten) := by rw [← strs_flat]; exact row_keep HH.out fun g _ hl => k0.block g hl
    have hil : i ≤ n := by have := hsp.1; have := HN.out; omega
    have HPC := toHid hpc
    have HROW := toHid hrow
    have HK0 := toHid k0
    have d0 : wc.cell? ⟨pb, po, none⟩ = some (.slice a n cap) := (cell_of hpc po).trans HPO.out
    have g0 := free_of hpc po
    have hpl : pb < wc.heap.size := by omega
    have hlt : ∀ g, (Value.slice a n cap).ownBlock = some g → g < wc.heap.size := fun g hg => (hrow.lt g hg).2
    have HLT := toHid hlt
    clear hspm hsp k0 kc hpc hrow hlt c0 y0 D0 HS HF HNM HPW HQ0 HB0 HAT HH
    cases stays
    · cases f
      · have hE : er = 0 := by rw [HER.out, chgE, if_neg (by simp)]
        have hR : RL = L := by rw [HRL.out]; exact (chg_none (fun s => s) HRM.out HSP.out).symm
        have HE := toHid hE
        have HR := toHid hR
        go_wp2_with fail
        go_ret
        refine ⟨by rw [HE.out]; rfl, Rest.of_below HK0.out, fun _ => ⟨.slice a n cap, ?_, ?_, fun g hg => .inl hg⟩⟩
        · rw [set_same HPO.out]; exact HPC.out
        · rw [HR.out, ← HN.out]; exact HROW.out
      · have hE : er = 0 := by rw [HER.out, chgE, if_neg (by simp)]
        have hR : RL = L.eraseIdx i := by rw [HRL.out]; exact (chg_erase (fun s => s) HRM.out HSP.out).symm
        have hii : i < n := by rw [HN.out]; exact spot_len (fun s => s) HSP.out
        have HE := toHid hE
        have HR := toHid hR
        clear hE hR
        obtain ⟨g, cap', hv, _, hgl⟩ := HROW.out.form (by omega)
        injection hv with hv1 hv2 hv3
        subst hv1
        obtain ⟨r, hr⟩ : ∃ r, n = i + 1 + r := ⟨n - (i + 1), by omega⟩
        have HR2 := toHid hr
        subst hr
        have hgb : g ≠ pb := HNE.out g rfl
        have HDEL : Hid _ := toHid (deleteS_any L g cap i r wc HN.out.symm (by rw [strs_flat]; exact HROW.out) (by omega))
        have hsum : (i : Int) + 1 ≤ 9223372036854775807 := by omega
        have HLL := toHid hl
        have HPL2 := toHid hpl
        clear hil hii HR2 hl hv2 hv3 hgl hwc
        go_wp2_with fail
        refine HDEL.out.mono ?_
        rintro e u ⟨rfl, hown, hrest⟩
        have hbu := (hrest.block pb hpl (fun e => hgb e.symm)).trans HPC.out
        have d1 := (cell_of hbu po).trans HPO.out
        have f1 := free_of hbu po
        have hbl2 : pb < u.heap.size := Nat.lt_of_lt_of_le hpl hrest.size
        have HOWN := toHid hown
        have HREST := toHid hrest
        have HBU := toHid hbu
        clear hown hrest hbu HDEL
        go_wp2_with fail
        go_ret
        refine ⟨by rw [HE.out]; rfl, ?_, fun _ => ⟨.slice (some ⟨g, 0, none⟩) (i + r) cap, set_block2 HBU.out po _, ?_, fun g hg => .inl hg⟩⟩
        · have r1 := (Rest.of_below (O := fun j => j = pb ∨ (Value.slice (some ⟨g, 0, none⟩) (i + 1 + r) cap).ownBlock = some j) HK0.out).trans HREST.out (fun j _ q => .inr (by rw [q]; rfl))
          refine ⟨r1.os, r1.tape, r1.output, Nat.le_trans r1.size (by simp [World.setCell]), fun j hj hn => (Below.heap_setCell u ⟨pb, po, none⟩ _ j (fun e => hn (.inl e))).trans (r1.block j hj hn)⟩
        · have hlen : (L.eraseIdx i).length = i + r := by rw [List.length_eraseIdx, if_pos (by have := HN.out; omega), ← HN.out]; omega
          rw [HR.out, hlen, ← strs_flat]
          exact row_keep HOWN.out fun j hj _ => Below.heap_setCell u ⟨pb, po, none⟩ _ j (by
            have : g = j := Option.some.inj hj
            rw [← this]
            exact hgb)
    · cases f
      · by_cases hm : 4 ≤ n
        · have hE : er = 10 := by
            rw [HER.out, chgE, if_pos]
            exact ⟨rfl, HSP.out.2.2.2.2 rfl, by have := HN.out; omega⟩
          have HE := toHid hE
          have hm' : (4 : Int) ≤ (n : Int) := by omega
          go_wp2_with fail
          go_ret
          exact ⟨by rw [HE.out]; rfl, Rest.of_below HK0.out, fun h => by rw [HE.out] at h; cases h⟩
        · have hE : er = 0 := by
            rw [HER.out, chgE, if_neg]
            rintro ⟨_, _, h3⟩
            have := HN.out
            omega
          have hR : RL = insL L i x := by rw [HRL.out]; exact (chg_ins (fun s => s) HRM.out HSP.out).symm
          have HE := toHid hE
          have HR := toHid hR
          clear hE hR
          have hm' : ¬ ((4 : Int) ≤ (n : Int)) := by omega
          have HINS : Hid (Calls Tryz.prog 185 #[.slice a n cap, .int .i64 i, .slice (some ⟨wc.heap.size, 0, none⟩) 1 1] (wc.alloc (.cells #[.string x] 9)) fun e w' => InsEnd strCell 1 9 L i x (.slice a n cap) (wc.alloc (.cells #[.string x] 9)) w' e) := insS_any L a n cap i x wc.heap.size (wc.alloc (.cells #[.string x] 9)) (HROW.out.alloc _) HN.out (by omega) hil (alloc_new _ _) (fun g hg => by have := HLT.out g hg; omega)
          go_wp2_with fail
          refine HINS.out.mono ?_
          rintro e u ⟨⟨v', rfl, hown, hat⟩, hrest⟩
          have hbu := (hrest.block pb (by simp; omega) (fun e => HNE.out pb e rfl)).trans ((Below.heap_alloc wc (.cells #[.string x] 9) pb hpl).trans HPC.out)
          have d1 := (cell_of hbu po).trans HPO.out
          have f1 := free_of hbu po
          have hbl2 : pb < u.heap.size := (Array.getElem?_eq_some_iff.1 hbu).1
          obtain ⟨av, cv, hv, hcv⟩ := slice_of_row hown
          subst hv
          have HOWN := toHid hown
          have HREST := toHid hrest
          have HAT2 := toHid hat
          have HBU := toHid hbu
          clear hown hrest hbu hat HINS
          go_wp2_with fail
          go_ret
          refine ⟨by rw [HE.out]; rfl, ?_, fun _ => ⟨.slice av (L.length + 1) cv, set_block2 HBU.out po _, ?_, fun g hg => ?_⟩⟩
          · have r0 : Rest (fun j => j = pb ∨ (Value.slice a n cap).ownBlock = some j) w (wc.alloc (.cells #[.string x] 9)) := (Rest.of_below HK0.out).alloc _
            have r1 := r0.trans HREST.out (fun j _ q => .inr q)
            refine ⟨r1.os, r1.tape, r1.output, Nat.le_trans r1.size (by simp [World.setCell]), fun j hj hn => (Below.heap_setCell u ⟨pb, po, none⟩ _ j (fun e => hn (.inl e))).trans (r1.block j hj hn)⟩
          · rw [HR.out, insL_len L i x (by have := HN.out; omega)]
            exact row_keep HOWN.out fun j hj _ => Below.heap_setCell u ⟨pb, po, none⟩ _ j (by
              rcases HAT2.out j hj with q | q
              · exact HNE.out j q
              · have : wc.heap.size + 1 ≤ j := by simpa using q
                show j ≠ pb
                omega)
          · rcases HAT2.out g hg with q | q
            · exact .inl q
            · exact .inr (by have : wc.heap.size + 1 ≤ g := by simpa using q
                             omega)
      · have hE : er = 0 := by
          rw [HER.out, chgE, if_neg]
          rintro ⟨_, h2, _⟩
          exact h2 (spot_mem (fun s => s) HSP.out)
        have hR : RL = L.set i x := by rw [HRL.out]; exact (chg_set (fun s => s) HRM.out HSP.out).symm
        have hii : i < n := by rw [HN.out]; exact spot_len (fun s => s) HSP.out
        have HE := toHid hE
        have HR := toHid hR
        clear hE hR
        obtain ⟨g, cap', hv, _, hgl⟩ := HROW.out.form (by omega)
        injection hv with hv1 hv2 hv3
        subst hv1
        have hgb : g ≠ pb := HNE.out g rfl
        have hin : (i : Int) < (n : Int) := by omega
        obtain ⟨cur, hcur, hcsz⟩ : ∃ cur, wc.heap[g]? = some (.cells cur 9 (0, 0)) ∧ n * 1 ≤ cur.size := by
          rcases HROW.out.2 with ⟨h0, _⟩ | ⟨g', cp, cur, h0, _, h2, h3, _, h5, _⟩
          · cases h0
          · injection h0 with e1 _ e3
            injection e1 with e1
            injection e1 with e1
            subst e1
            exact ⟨cur, h2, by rw [h5]; omega⟩
        obtain ⟨old, hold⟩ : ∃ old, cur[i]? = some old := ⟨cur[i]'(by omega), Array.getElem?_eq_getElem (by omega)⟩
        have p0 : wc.cell? ⟨g, i, none⟩ = some old := (cell_of hcur i).trans hold
        have fz := free_of hcur i
        have HCUR := toHid hcur
        clear hcur hold
        go_wp2_with fail
        go_ret
        refine ⟨by rw [HE.out]; rfl, ?_, fun _ => ⟨.slice (some ⟨g, 0, none⟩) n cap, ?_, ?_, fun g hg => .inl hg⟩⟩
        · have r1 : Rest (fun j => j = pb ∨ (Value.slice (some ⟨g, 0, none⟩) n cap).ownBlock = some j) w wc := Rest.of_below HK0.out
          refine ⟨r1.os, r1.tape, r1.output, Nat.le_trans r1.size (by simp [World.setCell]), fun j hj hn => (Below.heap_setCell wc ⟨g, i, none⟩ _ j (fun e => hn (.inr (by rw [e]; rfl)))).trans (r1.block j hj hn)⟩
        · rw [set_same HPO.out]
          exact (Below.heap_setCell wc ⟨g, i, none⟩ _ pb (fun e => hgb e.symm)).trans HPC.out
        · rw [HR.out, List.length_set]
          have hrow := HROW.out
          rw [HN.out] at hrow ⊢
          refine own_set strCell 1 (fun _ => rfl) L i x (by have := HN.out; omega) hrow (fun cu hcu => ?_)
          rw [set_block2 hcu, Nat.mul_one]
          rfl
end Go.Proofs.YtebbjmjgojekdaaGreatDoor
