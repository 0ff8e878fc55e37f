/-
  What is proved here: what the texts NShelfU, NFree, NOf prove, in one text.
-/
import Derived.Test.YtbfhapmnnckkaaaGreatDoorShelfN
import Derived.Test.YtbfhapmnnckkaaaGreatDoorQNAS
import Derived.Sort.OwnSorted
import Derived.Sort.KeysCollected
namespace Go.Proofs.YtbfhapmnnckkaaaGreatDoor
open Go.RowKit
set_option linter.unusedVariables false

open Go.RowKit Go.Sort Go.Shelf
set_option linter.unusedVariables false
set_option linter.unusedSimpArgs false

theorem sortsIn (m : Nat) : AnyZ.SortsIn Tryz.prog Tryz.sortedLay_ren Fence.wide m :=
  ⟨fun blk off cap ss W hH hblk hsz => callsIn_wide.2 (AnyM.slices_Sort_string Tryz.sortLay blk off cap ss W hH hblk hsz),
   fun p cap W => callsIn_wide.2 (AnyM.slices_Sort_string_none Tryz.sortLay p cap W)⟩

theorem maps_keys (mb : Option Nat) (W : World) : Calls Tryz.prog 23 #[.map mb] W fun e w' => e = .returned (.func (.func 38) #[] #[.pointer (some ⟨W.heap.size, 0, none⟩)]) ∧ w' = W.alloc (.cells #[.map mb] 46) :=
  (callsIn_wide (n := 5)).1 (AnyZ.keys_in Tryz.keysLay Fence.wide 5 trivial rfl mb W)

set_option maxHeartbeats 1000000 in
theorem sorted_keys {H : Type} (b nn : Nat) (D0 : DataW H) (R : Value → Option (DataW H × List MemPlace)) (w : World) (hown : w.ownsMap Tryz.prog 9 R b nn D0) (hmax : Maps.size D0 ≤ maxLen) (hbytes : Maps.size D0 * 16 ≤ 140737488355328) :
    Calls Tryz.prog 22 #[.func (.func 38) #[] #[.pointer (some ⟨w.heap.size, 0, none⟩)]] (w.alloc (.cells #[.map (some b)] 46)) fun e w' => ∃ (v : Value) (ss : List (List UInt8)), e = .returned v ∧ ss.Perm (strKeys D0) ∧
      w'.ownsRow (w.alloc (.cells #[.map (some b)] 46)).heap.size 9 1 v ss.length ((ss.mergeSort (fun x y => decide (x ≤ y))).map encStr) ∧ (v = .slice none 0 0 ↔ ss = []) ∧ Below (w.alloc (.cells #[.map (some b)] 46)).heap.size (w.alloc (.cells #[.map (some b)] 46)) w' := by
  have hbl := hown.lt
  have hseq : SeqGives Fence.wide 2 Tryz.prog 38 #[.pointer (some ⟨w.heap.size, 0, none⟩)] encStr (fun ss => ss.Perm (strKeys D0)) (Maps.size D0) (w.alloc (.cells #[.map (some b)] 46)) :=
    AnyZ.keys_gives (ρ := Tryz.keysLay_ren) { Tryz.keysLay with } Fence.wide _ trivial rfl (by omega) w.heap.size b nn D0 _ (by simp) (by simp) (by
      obtain ⟨es, clock, hb, Ft, hs, hD⟩ := hown
      exact ⟨es, clock, (Below.heap_alloc _ _ b hbl).trans hb, Ft, hs, hD⟩)
  exact (callsIn_wide (n := 5)).1 (AnyZ.sorted_in Tryz.sortedLay Fence.wide 5 trivial trivial trivial trivial rfl (by omega) (sortsIn _) (enters_of Tryz.func24 (by kernel_rfl) rfl) 38 #[.pointer (some ⟨w.heap.size, 0, none⟩)] trivial (enters_of Tryz.func38 (by kernel_rfl) rfl) _ _ hmax hbytes _ hseq)

/-- One text ahead of another. -/
def ltB (x y : List UInt8) : Prop := x ≤ y ∧ x ≠ y

theorem ltB_irr (x : List UInt8) : ¬ ltB x x := fun h => h.2 rfl
theorem ltB_trans (x y z : List UInt8) (h : ltB x y) (k : ltB y z) : ltB x z := ⟨List.le_trans h.1 k.1, fun e => h.2 (List.le_antisymm h.1 (by rw [e]; exact k.1))⟩

theorem keys_of {w : World} {R : Value → Option (DataW Unit × List MemPlace)} {b n : Nat} {D : DataW Unit} (h : w.ownsMap Tryz.prog 9 R b n D) : (strKeys D).Nodup ∧ (∀ x, x ∈ strKeys D ↔ Maps.has D (.string x) = true) ∧ Maps.size D ≤ n := by
  have K := Maps.string_keyed (P := Tryz.prog) Tryz.underlying9
  have h0 := h
  obtain ⟨es, hD, hpw, _⟩ := h.entries K
  obtain ⟨es', hD', hko⟩ := h.keysOf
  obtain rfl : es = es' := by rw [hD] at hD'; simpa using hD'
  subst hD
  have hk : ∀ p ∈ es, ∃ x, p.1 = .string x := fun p hp => by
    obtain ⟨v, hv⟩ := hko p hp
    obtain ⟨x, _, hx, _⟩ := Maps.keyOf_str Tryz.underlying9 hv
    exact ⟨x, hx⟩
  have hnd : (es.map fun p => strOf p.1).Nodup := by
    refine List.pairwise_map.2 (hpw.imp_of_mem fun {p q} hp' hq' hne e => hne ?_)
    obtain ⟨a, ha⟩ := hk p hp'
    obtain ⟨b, hb⟩ := hk q hq'
    rw [ha, hb] at e ⊢
    exact congrArg _ e
  refine ⟨hnd, fun x => ?_, ?_⟩
  · rw [Maps.has_eq, List.any_eq_true]
    show x ∈ es.map (fun p => strOf p.1) ↔ _
    rw [List.mem_map]
    constructor
    · rintro ⟨p, hp', rfl⟩
      obtain ⟨a, ha⟩ := hk p hp'
      exact ⟨p, hp', by rw [ha]; simp [Lit.sameKey, strOf]⟩
    · rintro ⟨p, hp', hs⟩
      obtain ⟨a, ha⟩ := hk p hp'
      rw [ha] at hs
      exact ⟨p, hp', by rw [ha]; simpa [Lit.sameKey, strOf] using hs⟩
  · obtain ⟨es2, clock, _, _, hs, e⟩ := h0
    injection e with e
    rw [Maps.size_eq, e, length_sorted]
    simpa using hs

theorem le_sorted (L : List (List UInt8)) : (L.mergeSort (fun x y => decide (x ≤ y))).Pairwise fun x y => x ≤ y := by
  have h := List.pairwise_mergeSort (le := fun x y : List UInt8 => decide (x ≤ y)) (fun a b c h1 h2 => by simp only [decide_eq_true_eq] at *; exact List.le_trans h1 h2) (fun a b => by simp only [Bool.or_eq_true, decide_eq_true_eq]; exact List.le_total a b) L
  exact h.imp fun h => by simpa using h

theorem rise_sorted {L : List (List UInt8)} (h : L.Nodup) : (L.mergeSort (fun x y => decide (x ≤ y))).Pairwise ltB := by
  have h1 := le_sorted L
  have h2 : (L.mergeSort (fun x y => decide (x ≤ y))).Pairwise (· ≠ ·) := (List.mergeSort_perm L _).nodup_iff.2 h
  exact h1.and h2

/-- What is left when what stands twice is left out. -/
theorem compact_inv (d : Array (List UInt8)) (hs : ∀ i j, i < j → j < d.size → d[i]! ≤ d[j]!) : ∀ m, m ≤ d.size → (Lib.compactUpTo d m).Pairwise ltB ∧ (∀ x, x ∈ Lib.compactUpTo d m ↔ ∃ i, i < m ∧ d[i]! = x) := by
  intro m
  induction m with
  | zero => intro _; exact ⟨by simp [Lib.compactUpTo], fun x => by simp [Lib.compactUpTo]⟩
  | succ m ih =>
    intro hm
    obtain ⟨i1, i2⟩ := ih (by omega)
    rw [Lib.compactUpTo_succ]
    by_cases hk : Lib.keeps d m = true
    · rw [if_pos hk]
      have hlt : ∀ x ∈ Lib.compactUpTo d m, ltB x d[m]! := fun x hx => by
        obtain ⟨i, hi, rfl⟩ := (i2 x).1 hx
        have h1 := hs i m hi (by omega)
        refine ⟨h1, fun e => ?_⟩
        have hne : d[m]! ≠ d[m - 1]! := by
          intro e2
          rw [Lib.keeps_neg (by omega) e2] at hk
          cases hk
        have h2 : d[m - 1]! ≤ d[m]! := hs (m - 1) m (by omega) (by omega)
        have h3 : d[m]! ≤ d[m - 1]! := by
          rw [← e]
          rcases Nat.lt_or_ge i (m - 1) with h | h
          · exact hs i (m - 1) h (by omega)
          · have : i = m - 1 := by omega
            rw [this]
            exact List.le_refl _
        exact hne (List.le_antisymm h3 h2)
      refine ⟨List.pairwise_append.2 ⟨i1, List.pairwise_singleton _ _, fun x hx y hy => ?_⟩, fun x => ?_⟩
      · have : y = d[m]! := by simpa using hy
        rw [this]
        exact hlt x hx
      · rw [List.mem_append, i2, List.mem_singleton]
        constructor
        · rintro (⟨i, hi, e⟩ | e)
          · exact ⟨i, by omega, e⟩
          · exact ⟨m, by omega, e.symm⟩
        · rintro ⟨i, hi, e⟩
          rcases Nat.lt_or_ge i m with h | h
          · exact .inl ⟨i, h, e⟩
          · have : i = m := by omega
            exact .inr (by rw [← e, this])
    · rw [if_neg hk, List.append_nil]
      refine ⟨i1, fun x => ?_⟩
      rw [i2]
      constructor
      · rintro ⟨i, hi, e⟩
        exact ⟨i, by omega, e⟩
      · rintro ⟨i, hi, e⟩
        rcases Nat.lt_or_ge i m with h | h
        · exact ⟨i, h, e⟩
        · have him : i = m := by omega
          subst him
          have h0 : 0 < i := by
            rcases Nat.eq_zero_or_pos i with h0 | h0
            · subst h0
              exact absurd (Lib.keeps_lt_one d 0 (by omega)) hk
            · exact h0
          refine ⟨i - 1, by omega, ?_⟩
          rw [← e]
          by_cases h1 : d[i]! = d[i - 1]!
          · exact h1.symm
          · exact absurd (Lib.keeps_pos h1) hk

theorem compact_sorted (L : List (List UInt8)) : (Lib.compact (L.mergeSort (fun x y => decide (x ≤ y)))).Pairwise ltB ∧ (∀ x, x ∈ Lib.compact (L.mergeSort (fun x y => decide (x ≤ y))) ↔ x ∈ L) ∧ (Lib.compact (L.mergeSort (fun x y => decide (x ≤ y)))).length ≤ L.length := by
  obtain ⟨S, hS⟩ : ∃ S, S = L.mergeSort (fun x y => decide (x ≤ y)) := ⟨_, rfl⟩
  have hp : S.Perm L := by rw [hS]; exact List.mergeSort_perm L _
  have hs := le_sorted L
  rw [← hS] at hs ⊢
  have hg : ∀ i (hi : i < S.length), S.toArray[i]! = S[i] := fun i hi => by simp [hi]
  have hinv := compact_inv S.toArray (fun i j hij hj => by
    have hj' : j < S.length := by simpa using hj
    rw [hg i (by omega), hg j hj']
    exact List.pairwise_iff_getElem.1 hs i j (by omega) hj' hij) S.length (by simp)
  refine ⟨hinv.1, fun x => ?_, ?_⟩
  · have h1 := hinv.2 x
    show x ∈ Lib.compactUpTo S.toArray S.length ↔ _
    rw [h1, ← hp.mem_iff]
    constructor
    · rintro ⟨i, hi, e⟩
      rw [← e, hg i hi]
      exact List.getElem_mem hi
    · intro hx
      obtain ⟨i, hi, e⟩ := List.getElem_of_mem hx
      exact ⟨i, hi, by rw [hg i hi]; exact e⟩
  · rw [← hp.length_eq]
    show (Lib.compactUpTo S.toArray S.length).length ≤ _
    unfold Lib.compactUpTo
    rw [List.length_map]
    exact Nat.le_trans (List.length_filter_le _ _) (by simp)

theorem sort_rowS (L : List (List UInt8)) (B : Nat) (v : Value) (w : World) (h : w.ownsRow B 9 1 v L.length (L.map encStr)) (hl : L.length ≤ 4000000) :
    Calls Tryz.prog 24 #[v] w fun e w' => e = .returned (.tuple #[]) ∧ w'.ownsRow B 9 1 v L.length ((L.mergeSort (fun x y => decide (x ≤ y))).map encStr) ∧ w.grownBy w' v.ownBlock := by
  rcases h.2 with ⟨rfl, h0⟩ | ⟨g, cap, cur, rfl, h1, h2, h3, h4, h5, h6⟩
  · have hL : L = [] := List.length_eq_zero_iff.1 h0
    subst hL
    refine (AnyM.slices_Sort_string_none Tryz.sortLay none 0 w).mono ?_
    rintro e w' ⟨rfl, rfl⟩
    exact ⟨rfl, by simpa using h, ⟨rfl, rfl, rfl, Nat.le_refl _, fun _ _ _ => rfl⟩⟩
  · refine (AnyM.slices_Sort_string Tryz.sortLay g 0 cap L w (holds_of_block h2 (by rw [Nat.mul_one] at h6; exact h6)) (Array.getElem?_eq_some_iff.1 h2).1 (by omega)).mono ?_
    rintro e w' ⟨rfl, n, os, rfl⟩
    refine ⟨rfl, ownsRow_sorted (ss := L) (ts := L.mergeSort (fun x y => decide (x ≤ y))) (List.length_mergeSort _) h1 h2 h3 h4 h5, grownBy_sorted _⟩

theorem own1_short {w : World} {B : Nat} {e : TypeId} {g n cap : Nat} {xs ys : List Value} (h : w.ownsRow B e 1 (.slice (some ⟨g, 0, none⟩) n cap) n (xs ++ ys)) : w.ownsRow B e 1 (.slice (some ⟨g, 0, none⟩) xs.length cap) xs.length xs := by
  obtain ⟨cur, h1, h2, h3, h4, h5, h6, h7⟩ := own1_open h
  rw [List.length_append] at h7
  refine ⟨by rw [Nat.mul_one], .inr ⟨g, cap, cur, rfl, h1, h2, by omega, h4, by rw [Nat.mul_one]; exact h5, ?_⟩⟩
  rw [Nat.mul_one]
  have h8 := congrArg (fun l => l.take xs.length) h6
  simp only [List.take_take] at h8
  rw [Nat.min_eq_left (by omega)] at h8
  rw [h8]
  simp

theorem compact_rowS (L : List (List UInt8)) (B : Nat) (v : Value) (w : World) (h : w.ownsRow B 9 1 v L.length (L.map encStr)) (hl : L.length ≤ 4000000) :
    Calls Tryz.prog 25 #[v] w fun e w' => (∃ v', e = .returned v' ∧ w'.ownsRow B 9 1 v' (Lib.compact L).length ((Lib.compact L).map encStr)) ∧ w.grownBy w' v.ownBlock := by
  rcases h.2 with ⟨rfl, h0⟩ | ⟨g, cap, cur, rfl, h1, h2, h3, h4, h5, h6⟩
  · have hL : L = [] := List.length_eq_zero_iff.1 h0
    subst hL
    refine (Any.slices_Compact_string_empty Tryz.compactLay none 0 w).mono ?_
    rintro e w' ⟨rfl, rfl⟩
    exact ⟨⟨_, rfl, by simpa [Lib.compact, Lib.compactUpTo] using h⟩, ⟨rfl, rfl, rfl, Nat.le_refl _, fun _ _ _ => rfl⟩⟩
  · refine (Any.slices_Compact_string Tryz.compactLay g 0 cap L w (holds_of_block h2 (by rw [Nat.mul_one] at h6; exact h6)) (by omega) h3).mono ?_
    rintro e w' ⟨rfl, q, rfl⟩
    have hcl : (Lib.compact L).length ≤ L.length := by
      unfold Lib.compact Lib.compactUpTo
      rw [List.length_map]
      exact Nat.le_trans (List.length_filter_le _ _) (by simp)
    have hr := ownsRow_sorted (n := q) (os := #[]) (ss := L) (ts := Lib.compact L ++ List.replicate (L.length - (Lib.compact L).length) []) (by rw [List.length_append, List.length_replicate]; omega) h1 h2 h3 h4 h5
    rw [grow_empty, List.map_append] at hr
    have hr2 := own1_short hr
    rw [List.length_map] at hr2
    have hg := grownBy_sorted (w := w) (g := g) (n := q) (os := #[]) (Lib.compact L ++ List.replicate (L.length - (Lib.compact L).length) []).toArray
    rw [grow_empty] at hg
    exact ⟨⟨_, rfl, hr2⟩, hg⟩

open Go.RowKit Go.Sort
set_option linter.unusedVariables false
set_option linter.unusedSimpArgs false

theorem make_met (w : World) : (Instr.makeMap 46 none).run Tryz.prog w = .ok (.map (some w.heap.size)) (w.alloc (.map #[] 0)) := by kernel_rfl

/-- A row of one's own that holds the names of a term, each once, rising. -/
def FreeEnd (B : Nat) (t : Tm) (w' : World) (e : Ending) : Prop := ∃ (v : Value) (ts : List (List UInt8)), e = .returned v ∧ w'.ownsRow B 9 1 v ts.length (ts.map encStr) ∧ ts.Pairwise ltB ∧ (∀ s, s ∈ ts ↔ s ∈ varsM t) ∧ ts.length ≤ 4000000

set_option maxHeartbeats 4000000 in
set_option maxRecDepth 100000 in
theorem free_any (k vk vn : Int) (vs : ByteArray) (va : Option Addr) (vl vc : Nat) (nm : ByteArray) (a : Option Addr) (l c : Nat) (Lv : List T) (A : List Tm) (w : World) (hT : TmAt w k vk vn vs va vl vc nm a l c Lv A) (hN : szMs A + 1 ≤ 1048576) :
    Calls Tryz.prog 10 #[.agg #[.int .i64 k, .int .i64 vk, .int .i64 vn, .string vs, .slice va vl vc, .string nm, .slice a l c]] w fun e w' => FreeEnd w.heap.size (.node k (.node vk vn vs Lv) nm A) w' e ∧ Below w.heap.size w w' := by
  obtain ⟨W0, hW0⟩ : ∃ W0, W0 = w.alloc (tmObj k vk vn vs va vl vc nm a l c) := ⟨_, rfl⟩
  have z0 : W0.heap.size = w.heap.size + 1 := by rw [hW0]; simp
  have b0 : Below w.heap.size w W0 := by rw [hW0]; exact (Below.refl _ _).alloc (Nat.le_refl _) _
  have q0 : W0.heap[w.heap.size]? = some (tmObj k vk vn vs va vl vc nm a l c) := by rw [hW0]; exact alloc_new w _
  have hmk := make_met W0
  obtain ⟨W1, hW1⟩ : ∃ W1, W1 = (W0.alloc (.map #[] 0)).alloc (.cells #[.map (some W0.heap.size)] 46) := ⟨_, rfl⟩
  have b1 : Below W0.heap.size W0 W1 := by rw [hW1]; exact ((Below.refl _ _).alloc (Nat.le_refl _) _).alloc (by simp) _
  have q1 : W1.heap[W0.heap.size + 1]? = some (.cells #[.map (some W0.heap.size)] 46 (0, 0)) := by rw [hW1]; exact alloc_two W0 _ _
  have k1 : KeyMap W1 W0.heap.size 0 [] := (kmap_made W0).keep (by rw [hW1]; exact Below.heap_alloc _ _ _ (by simp))
  have q0' := (b1.block w.heap.size (by omega)).trans q0
  have bw := b0.trans (b1.mono b0.size)
  have HE := toHid (each_any k vk vn vs va vl vc nm a l c Lv A (W0.heap.size + 1) W0.heap.size w W1 bw (by omega) hT hN q1 (by omega) k1)
  have x0 := cell_of q0' 0
  have x1 := cell_of q0' 1
  have x2 := cell_of q0' 2
  have x3 := cell_of q0' 3
  have x4 := cell_of q0' 4
  have x5 := cell_of q0' 5
  have x6 := cell_of q0' 6
  simp at x0 x1 x2 x3 x4 x5 x6
  have g0 : w.heap.size < W1.heap.size := (Array.getElem?_eq_some_iff.1 q0').1
  have HBW := toHid bw
  have HQ1 := toHid q1
  have HZ0 := toHid z0
  have HKL := toHid k1.lt
  clear b0 b1 q0 q0' q1 k1 bw hT hN z0
  go_enter Tryz.func10, Tryz.ntmps10
  go_upto_region 1 with fail
  rw [← hW0]
  clear hW0
  go_upto_region 2 with fail
  rw [← hW1]
  clear hmk hW1
  go_wp2_with fail
  refine HE.out.mono ?_
  rintro e w2 ⟨rfl, ⟨n, K, hn, hkm, hK⟩, hg⟩
  have hq2 := (hg.block (W0.heap.size + 1) (Array.getElem?_eq_some_iff.1 HQ1.out).1 (by intro e; injection e with e; omega)).trans HQ1.out
  have y0 := cell_of hq2 0
  simp at y0
  have g2 : W0.heap.size + 1 < w2.heap.size := (Array.getElem?_eq_some_iff.1 hq2).1
  obtain ⟨D, hown, hD⟩ := hkm
  obtain ⟨hnd, hmem, hsz⟩ := keys_of hown
  have hb2 : Below w.heap.size w w2 := ⟨hg.os.trans HBW.out.os, hg.tape.trans HBW.out.tape, hg.output.trans HBW.out.output, Nat.le_trans HBW.out.size hg.size, fun i hi => (hg.block i (Nat.lt_of_lt_of_le hi HBW.out.size) (by intro e; injection e with e; have := HZ0.out; omega)).trans (HBW.out.block i hi)⟩
  have HSK := toHid (sorted_keys W0.heap.size n D _ w2 hown (by unfold maxLen; omega) (by omega))
  have HMK := toHid (maps_keys (some W0.heap.size) w2)
  have HB2 := toHid hb2
  have HND := toHid hnd
  have HMEM : Hid (∀ s, s ∈ strKeys D ↔ s ∈ varsM (.node k (.node vk vn vs Lv) nm A)) := fun s => by rw [hmem, hD, hK]
  have HSZ : Hid (Maps.size D ≤ 1048576) := Nat.le_trans hsz hn
  have HB3 : Hid (Below w2.heap.size w2 (w2.alloc (.cells #[.map (some W0.heap.size)] 46))) := (Below.refl _ _).alloc (Nat.le_refl _) _
  have HLK : Hid ((strKeys D).length ≤ 1048576) := by
    obtain ⟨es, _, _, _, hs3, e3⟩ := hown
    subst e3
    have h5 := HSZ.out
    rw [Maps.size_eq] at h5
    show (List.map _ _).length ≤ _
    rw [List.length_map]
    exact h5
  clear hK hg hq2 hown hD hnd hmem hsz hb2 x0 x1 x2 x3 x4 x5 x6 HE HQ1
  go_wp2_with fail
  refine HMK.out.mono ?_
  rintro e w3 ⟨rfl, rfl⟩
  go_wp2_with fail
  refine HSK.out.mono ?_
  rintro e w4 ⟨v, ss, rfl, hp, hrow, _, hb4⟩
  have HFE : Hid (FreeEnd w.heap.size (.node k (.node vk vn vs Lv) nm A) w4 (.returned v)) := by
    refine ⟨v, ss.mergeSort (fun x y => decide (x ≤ y)), rfl, ?_, rise_sorted (hp.nodup_iff.2 HND.out), fun s => ?_, ?_⟩
    · rw [List.length_mergeSort]
      refine ⟨hrow.1, ?_⟩
      rcases hrow.2 with h | ⟨g, cap, cur, h1, h2, h3⟩
      · exact .inl h
      · exact .inr ⟨g, cap, cur, h1, Nat.le_trans (Nat.le_trans HB2.out.size HB3.out.size) h2, h3⟩
    · rw [(List.mergeSort_perm ss _).mem_iff, hp.mem_iff]
      exact HMEM.out s
    · rw [List.length_mergeSort, hp.length_eq]
      have := HLK.out
      omega
  have HB4 := toHid ((HB2.out.trans (HB3.out.mono HB2.out.size)).trans (hb4.mono (Nat.le_trans HB2.out.size HB3.out.size)))
  clear hp hrow hb4
  go_wp2_with fail
  go_ret
  exact ⟨HFE.out, HB4.out⟩

open Go.RowKit Go.Sort
set_option linter.unusedVariables false
set_option linter.unusedSimpArgs false

def OfEnd (B : Nat) (t : Tm) (w' : World) (e : Ending) : Prop := ∃ (v : Value) (ts : List (List UInt8)), e = .returned v ∧ w'.ownsRow B 9 1 v ts.length (ts.map encStr) ∧ ts.Pairwise ltB ∧ (∀ s, s ∈ ts ↔ s ∈ varsM t) ∧ ts.length ≤ szM t

theorem info_str0 : (Tryz.prog.info? 9).map (fun i => (i.zero, i.size, i.bytes)) = some (some (.string ⟨#[]⟩), 1, 16) := by kernel_rfl
theorem info_str : ∃ i, Tryz.prog.info? 9 = some i ∧ i.zero = some (.string ⟨#[]⟩) ∧ i.size = 1 ∧ i.bytes = 16 := by
  obtain ⟨i, h, e⟩ := Option.map_eq_some_iff.1 info_str0
  simp only [Prod.mk.injEq] at e
  exact ⟨i, h, e⟩

theorem row_news {w : World} {B n : Nat} {e : TypeId} {v : Value} {xs : List Value} (h : w.ownsRow B e 1 v n xs) : ∃ ax c, v = .slice ax n c ∧ ∀ j u, xs[j]? = some u → ∃ ad, ax = some ad ∧ w.cell? (ad.add j) = some u := by
  have hl := h.1
  rcases h.2 with ⟨h0, h1⟩ | ⟨g, cap, cur, h0, h1, h2, h3, h4, h5, h6⟩
  · subst h1
    have : xs = [] := List.length_eq_zero_iff.1 (by simpa using hl)
    subst this
    exact ⟨none, 0, h0, fun j u hu => by simp at hu⟩
  · refine ⟨_, _, h0, fun j u hu => ⟨_, rfl, ?_⟩⟩
    rw [add_none, Nat.zero_add, cell_of h2, ← Array.getElem?_toList]
    rw [Nat.mul_one] at h6
    rw [← h6, List.getElem?_take] at hu
    split at hu
    · exact hu
    · cases hu

theorem enc_one (ts : List (List UInt8)) : ∀ u ∈ ts.map encStr, u.oneCell' = true := fun u hu => by
  obtain ⟨x, _, rfl⟩ := List.mem_map.1 hu
  rfl

theorem Below.grownR {B : Nat} {w w1 w2 : World} {row : Option Nat} (h : Below B w w1) (g : w1.grownBy w2 row) (hB : B ≤ w1.heap.size) (hr : ∀ j, row = some j → B ≤ j) : Below B w w2 :=
  ⟨g.os.trans h.os, g.tape.trans h.tape, g.output.trans h.output, Nat.le_trans h.size g.size, fun i hi => (g.block i (by omega) (fun e => by have := hr i e.symm; omega)).trans (h.block i hi)⟩

set_option maxHeartbeats 8000000 in
set_option maxRecDepth 100000 in
theorem of_var (k vk vn : Int) (vs : ByteArray) (va : Option Addr) (vl vc : Nat) (nm : ByteArray) (a : Option Addr) (l c : Nat) (Lv : List T) (A : List Tm) (w : World) (hT : TmAt w k vk vn vs va vl vc nm a l c Lv A) (hN : szMs A + 1 ≤ 1048576) (hk : k = 2)
    (ih : ∀ (k vk vn : Int) (vs : ByteArray) (va : Option Addr) (vl vc : Nat) (nm : ByteArray) (a : Option Addr) (l c : Nat) (Lv : List T) (A' : List Tm) (w : World), szMs A' + 1 ≤ szMs A → TmAt w k vk vn vs va vl vc nm a l c Lv A' → Calls Tryz.prog 11 #[.agg #[.int .i64 k, .int .i64 vk, .int .i64 vn, .string vs, .slice va vl vc, .string nm, .slice a l c]] w fun e w' => OfEnd w.heap.size (.node k (.node vk vn vs Lv) nm A') w' e ∧ Below w.heap.size w w') :
    Calls Tryz.prog 11 #[.agg #[.int .i64 k, .int .i64 vk, .int .i64 vn, .string vs, .slice va vl vc, .string nm, .slice a l c]] w fun e w' => OfEnd w.heap.size (.node k (.node vk vn vs Lv) nm A) w' e ∧ Below w.heap.size w w' := by
  obtain ⟨W0, hW0⟩ : ∃ W0, W0 = w.alloc (tmObj k vk vn vs va vl vc nm a l c) := ⟨_, rfl⟩
  have b0 : Below w.heap.size w W0 := by rw [hW0]; exact (Below.refl _ _).alloc (Nat.le_refl _) _
  have q0 : W0.heap[w.heap.size]? = some (tmObj k vk vn vs va vl vc nm a l c) := by rw [hW0]; exact alloc_new w _
  have x0 := cell_of q0 0
  have x5 := cell_of q0 5
  have x6 := cell_of q0 6
  simp at x0 x5 x6
  have g0 : w.heap.size < W0.heap.size := (Array.getElem?_eq_some_iff.1 q0).1
  have HLI := toHid hT.args
  have hlm : l ≤ 9223372036854775807 := hT.args.len.2
  have HLL : Hid (l = A.length) := hT.args.len.1
  have HNN := toHid hN
  have hl6 : l ≤ 1048576 := by
    have h5 := len_sz A
    have h6 := HLL.out
    omega
  have HIH := toHid ih
  have HB0 := toHid b0
  obtain ⟨tt, htt⟩ : ∃ tt, tt = Tm.node k (.node vk vn vs Lv) nm A := ⟨_, rfl⟩
  rw [← htt]
  have HVT : Hid (∀ s, s ∈ varsM tt ↔ s ∈ ([nm.data.toList] : List (List UInt8)) ∨ s ∈ varsMs A) := fun s => by
    rw [htt]
    unfold varsM
    rw [if_pos hk]
    simp
  have HST : Hid (szM tt = szMs A + 1) := by rw [htt]; rfl
  obtain ⟨iS, hiS, hizS, hisS, hibS⟩ := info_str
  have hkb : (k == 2) = true := by simp [hk]
  clear hT hN ih b0 q0 htt hk
  go_enter Tryz.func11, Tryz.ntmps11
  go_upto_region 1 with fail
  rw [← hW0]
  clear hW0
  have HB1 : Hid (Below W0.heap.size W0 (W0.alloc (.cells #[.string nm] 9))) := (Below.refl _ _).alloc (Nat.le_refl _) _
  have HN1 := toHid (alloc_new W0 (.cells #[.string nm] 9))
  have z6 := (HB1.out.cell (p := ⟨w.heap.size, 6, none⟩) g0).trans x6
  have gz : w.heap.size < (W0.alloc (.cells #[.string nm] 9)).heap.size := Nat.lt_of_lt_of_le g0 HB1.out.size
  go_wp2_with (at_builtin; (refine wpList_append_both _ (by rfl) _ _ _ (by rfl) W0.heap.size 9 iS _ 1 16 Tryz.underlying31 hiS hizS hisS hibS rfl (by omega) (.slice none 0 0) 0 [] (by rfl) (World.ownsRow_nil _ _ _ _) (some ⟨W0.heap.size, 0, none⟩) 1 1 [.string nm] (by rfl) (by rfl) (fun j u hu => ⟨_, rfl, World.news_of_block (cs := #[.string nm]) (t := 9) (fr := (0, 0)) HN1.out j u hu⟩) (by simp [Value.oneCell']) (by unfold maxLen; omega) (by omega) HB1.out.size ?_; intro v1 w2 hown1 hgrow1 hob1; have u6 := (World.cell?_of_block (a := ⟨w.heap.size, 6, none⟩) (hgrow1.block w.heap.size gz (by intro e; cases e))).trans z6; have gu : w.heap.size < w2.heap.size := Nat.lt_of_lt_of_le gz hgrow1.size))
  have HR1 : Hid (w2.ownsRow w.heap.size 9 1 v1 1 ([nm.data.toList].map encStr)) := by
    refine ⟨rfl, ?_⟩
    rcases hown1.2 with ⟨h5, h6⟩ | ⟨g5, cap5, cur5, h5, h6, h7⟩
    · cases h6
    · refine .inr ⟨g5, cap5, cur5, h5, Nat.le_trans HB0.out.size h6, h7.1, h7.2.1, h7.2.2.1, h7.2.2.2.1, ?_⟩
      have h8 := h7.2.2.2.2
      simpa [encStr] using h8
  have HBB : Hid (Below w.heap.size w w2) := Below.grownR (HB0.out.trans (HB1.out.mono HB0.out.size)) hgrow1 (Nat.le_trans HB0.out.size HB1.out.size) (fun j hj => by cases hj)
  clear hown1 hgrow1 hob1 z6 gz x0 x5 x6 g0 HN1 HB1 u6 gu
  go_loopg [3, 17] l (fun g s3 s17 wr => ∃ (i : Nat) (v : Value) (acc : List (List UInt8)) (na : Nat), i ≤ l ∧ l - i ≤ g ∧ s17 = .int .i64 i ∧ v = s3 ∧ na = acc.length ∧ wr.ownsRow w.heap.size 9 1 v na (acc.map encStr) ∧ (∀ s, s ∈ acc ↔ s ∈ ([nm.data.toList] : List (List UInt8)) ∨ s ∈ varsMs (A.take i)) ∧ na ≤ 1 + szMs (A.take i) ∧ Below w.heap.size w wr)
  case atStart => exact ⟨0, v1, [nm.data.toList], 1, Nat.zero_le _, by omega, rfl, rfl, rfl, HR1.out, fun s => by simp [varsMs], by omega, HBB.out⟩
  case round =>
    obtain ⟨i, v, acc, na, hi, hg, rfl, rfl, hna, hrow, hmem, hsz, hbw⟩ := hrel
    have HROW := toHid hrow
    have HMEM := toHid hmem
    have HSZ := toHid hsz
    have HBW := toHid hbw
    have HNA := toHid hna
    clear hrow hmem hsz hbw hna
    by_cases hlt : i < l
    · have hil : (i : Int) < l := by omega
      obtain ⟨b, off, kx, vkx, vnx, vsx, vax, vlx, vcx, nmx, ax, lx, cx, Lvx, Ax, hta, hbl, hdr, ⟨p0, p1, p2, p3, p4, p5, p6⟩, htx⟩ := HLI.out.at hlt
      subst hta
      have d0 := (HBW.out.cell (p := ⟨b, off + i * 7, none⟩) hbl).trans p0
      have d1 := (HBW.out.cell (p := ⟨b, off + i * 7 + 1, none⟩) hbl).trans p1
      have d2 := (HBW.out.cell (p := ⟨b, off + i * 7 + 2, none⟩) hbl).trans p2
      have d3 := (HBW.out.cell (p := ⟨b, off + i * 7 + 3, none⟩) hbl).trans p3
      have d4 := (HBW.out.cell (p := ⟨b, off + i * 7 + 4, none⟩) hbl).trans p4
      have d5 := (HBW.out.cell (p := ⟨b, off + i * 7 + 5, none⟩) hbl).trans p5
      have d6 := (HBW.out.cell (p := ⟨b, off + i * 7 + 6, none⟩) hbl).trans p6
      have hblr : b < wr.heap.size := Nat.lt_of_lt_of_le hbl HBW.out.size
      have hget := get_drop hdr
      have HTKV := toHid (vars_take hget)
      have HTKS := toHid (sz_take hget)
      have hle := sz_take_le A (i + 1)
      have hszx : szM (.node kx (.node vkx vnx vsx Lvx) nmx Ax) = szMs Ax + 1 := rfl
      have hmemA : szMs Ax + 1 ≤ szMs A := by
        have := sz_mem (List.mem_of_getElem? hget)
        omega
      have hna6 : na ≤ 1048577 := by
        have h5 := HSZ.out
        have h6 := sz_take_le A i
        have h7 := HNN.out
        omega
      have hsx6 : szMs Ax + 1 ≤ 1048576 := by
        have h7 := HNN.out
        omega
      have HA : Hid (Below wr.heap.size wr (wr.alloc (tmObj kx vkx vnx vsx vax vlx vcx nmx ax lx cx))) := (Below.refl _ _).alloc (Nat.le_refl _) _
      have HN := toHid (alloc_new wr (tmObj kx vkx vnx vsx vax vlx vcx nmx ax lx cx))
      have HBA := toHid (HBW.out.trans (HA.out.mono HBW.out.size))
      have HCALL := toHid (HIH.out kx vkx vnx vsx vax vlx vcx nmx ax lx cx Lvx Ax (wr.alloc (tmObj kx vkx vnx vsx vax vlx vcx nmx ax lx cx)) hmemA (htx.below HBA.out))
      clear p0 p1 p2 p3 p4 p5 p6 hdr hget hle hmemA htx hbl
      go_upto_region 7 with fail
      clear d0 d1 d2 d3 d4 d5 d6
      have HRA : Hid ((wr.alloc (tmObj kx vkx vnx vsx vax vlx vcx nmx ax lx cx)).ownsRow w.heap.size 9 1 v na (acc.map encStr)) := own1_keep HROW.out fun j _ hj => HA.out.block j hj
      generalize wr.alloc (tmObj kx vkx vnx vsx vax vlx vcx nmx ax lx cx) = WX at HA HN HRA HBA HCALL ⊢
      generalize wr.heap.size = bX at HN ⊢
      have y0 := cell_of HN.out 0
      have y1 := cell_of HN.out 1
      have y2 := cell_of HN.out 2
      have y3 := cell_of HN.out 3
      have y4 := cell_of HN.out 4
      have y5 := cell_of HN.out 5
      have y6 := cell_of HN.out 6
      simp at y0 y1 y2 y3 y4 y5 y6
      have hbX : bX < WX.heap.size := (Array.getElem?_eq_some_iff.1 HN.out).1
      clear HA HROW HBW
      go_wp2_with fail
      refine HCALL.out.mono ?_
      rintro e w2 ⟨⟨v2, ts, rfl, hrow2, _, hmem2, hlen2⟩, k2⟩
      have HB2 := toHid (HBA.out.trans (k2.mono HBA.out.size))
      have HR2 : Hid (w2.ownsRow w.heap.size 9 1 v na (acc.map encStr)) := own1_keep HRA.out fun j _ hj => k2.block j hj
      obtain ⟨ax2, cx2, hv2, hnews⟩ := row_news hrow2
      obtain ⟨nt, hnt⟩ : ∃ nt, nt = ts.length := ⟨_, rfl⟩
      rw [← hnt] at hv2 hlen2
      subst hv2
      have HNEWS := toHid hnews
      have HMEM2 := toHid hmem2
      have HNT := toHid hnt
      have HONE := toHid (enc_one ts)
      have HTL : Hid ((ts.map encStr).length = nt * 1) := by show _ = _; rw [List.length_map, Nat.mul_one]; exact hnt.symm
      have hnt6 : nt ≤ 1048576 := by omega
      have HNTS : Hid (nt ≤ szMs Ax + 1) := hlen2
      clear hrow2 hmem2 k2 hnews hnt hlen2 y0 y1 y2 y3 y4 y5 y6 hbX HN HRA HCALL HBA
      go_wp2_with (at_builtin; (refine wpList_append_both _ (by rfl) _ _ _ (by rfl) w.heap.size 9 iS _ 1 16 Tryz.underlying31 hiS hizS hisS hibS rfl (by omega) v na (acc.map encStr) (by rfl) HR2.out ax2 nt cx2 (ts.map encStr) (by rfl) HTL.out HNEWS.out HONE.out (by unfold maxLen; omega) (by omega) HB2.out.size ?_; intro v5 w5 hown5 hgrow hob))
      have HB5 : Hid (Below w.heap.size w w5) := Below.grownR HB2.out hgrow HB2.out.size (fun j hj => (own1_block HR2.out hj).1)
      have HR5 : Hid (w5.ownsRow w.heap.size 9 1 v5 (na + nt) ((acc ++ ts).map encStr)) := by
        rw [List.map_append]
        exact hown5
      have HN5 : Hid (na + nt = (acc ++ ts).length) := by
        show _ = _
        rw [List.length_append, HNA.out, HNT.out]
      have HM5 : Hid (∀ s, s ∈ acc ++ ts ↔ s ∈ ([nm.data.toList] : List (List UInt8)) ∨ s ∈ varsMs (A.take (i + 1))) := fun s => by
        rw [List.mem_append, HMEM.out, HMEM2.out, HTKV.out, List.mem_append, or_assoc]
      have HS5 : Hid (na + nt ≤ 1 + szMs (A.take (i + 1))) := by
        have h5 := HTKS.out
        have h6 := HSZ.out
        have h7 := HNTS.out
        show _ ≤ _
        omega
      clear hown5 hgrow hob
      go_wp2_with fail
      go_roundg (l - (i + 1))
      case measure => omega
      case rel => exact ⟨i + 1, v5, acc ++ ts, na + nt, by omega, Nat.le_refl _, by go_num, rfl, HN5.out, HR5.out, HM5.out, HS5.out, HB5.out⟩
    · have he : i = l := by omega
      have htk : A.take i = A := List.take_of_length_le (by have := HLL.out; omega)
      have HM5 : Hid (∀ s, s ∈ acc ↔ s ∈ varsM tt) := fun s => by rw [HMEM.out, htk, HVT.out]
      have HS5 : Hid (na ≤ szM tt) := by
        have h5 := HSZ.out
        rw [htk] at h5
        show _ ≤ _
        rw [HST.out]
        omega
      have hal : acc.length ≤ 4000000 := by
        have h5 := HS5.out
        have h6 := HST.out
        have h7 := HNN.out
        have h8 := HNA.out
        omega
      have hrow := HROW.out
      rw [HNA.out] at hrow
      have HSORT := toHid (sort_rowS acc w.heap.size v wr hrow hal)
      clear htk hrow HMEM HSZ
      subst he
      go_wp2_with fail
      refine HSORT.out.mono ?_
      rintro e w3 ⟨rfl, hr3, hg3⟩
      have HB3 : Hid (Below w.heap.size w w3) := Below.grownR HBW.out hg3 HBW.out.size (fun j hj => (own1_block HROW.out hj).1)
      have HCMP : Hid (Calls Tryz.prog 25 #[v] w3 fun e w' => (∃ v', e = .returned v' ∧ w'.ownsRow w.heap.size 9 1 v' (Lib.compact (acc.mergeSort (fun x y => decide (x ≤ y)))).length ((Lib.compact (acc.mergeSort (fun x y => decide (x ≤ y)))).map encStr)) ∧ w3.grownBy w' v.ownBlock) := compact_rowS (acc.mergeSort (fun x y => decide (x ≤ y))) w.heap.size v w3 (by rw [List.length_mergeSort]; exact hr3) (by rw [List.length_mergeSort]; exact hal)
      have HBLK : Hid (∀ j, v.ownBlock = some j → w.heap.size ≤ j) := fun j hj => (own1_block HROW.out hj).1
      clear hr3 hg3 HSORT
      go_wp2_with fail
      refine HCMP.out.mono ?_
      rintro e w4 ⟨⟨v4, rfl, hr4⟩, hg4⟩
      have HB4 : Hid (Below w.heap.size w w4) := Below.grownR HB3.out hg4 HB3.out.size HBLK.out
      obtain ⟨c1, c2, c3⟩ := compact_sorted acc
      have HFE : Hid (OfEnd w.heap.size tt w4 (.returned v4)) := ⟨v4, _, rfl, hr4, c1, fun s => (c2 s).trans (HM5.out s), Nat.le_trans c3 (by rw [← HNA.out]; exact HS5.out)⟩
      clear hr4 hg4 c1 c2 c3 HCMP
      go_wp2_with fail
      go_ret
      exact ⟨HFE.out, HB4.out⟩

set_option maxHeartbeats 8000000 in
set_option maxRecDepth 100000 in
theorem of_other (k vk vn : Int) (vs : ByteArray) (va : Option Addr) (vl vc : Nat) (nm : ByteArray) (a : Option Addr) (l c : Nat) (Lv : List T) (A : List Tm) (w : World) (hT : TmAt w k vk vn vs va vl vc nm a l c Lv A) (hN : szMs A + 1 ≤ 1048576) (hk : ¬ k = 2)
    (ih : ∀ (k vk vn : Int) (vs : ByteArray) (va : Option Addr) (vl vc : Nat) (nm : ByteArray) (a : Option Addr) (l c : Nat) (Lv : List T) (A' : List Tm) (w : World), szMs A' + 1 ≤ szMs A → TmAt w k vk vn vs va vl vc nm a l c Lv A' → Calls Tryz.prog 11 #[.agg #[.int .i64 k, .int .i64 vk, .int .i64 vn, .string vs, .slice va vl vc, .string nm, .slice a l c]] w fun e w' => OfEnd w.heap.size (.node k (.node vk vn vs Lv) nm A') w' e ∧ Below w.heap.size w w') :
    Calls Tryz.prog 11 #[.agg #[.int .i64 k, .int .i64 vk, .int .i64 vn, .string vs, .slice va vl vc, .string nm, .slice a l c]] w fun e w' => OfEnd w.heap.size (.node k (.node vk vn vs Lv) nm A) w' e ∧ Below w.heap.size w w' := by
  obtain ⟨W0, hW0⟩ : ∃ W0, W0 = w.alloc (tmObj k vk vn vs va vl vc nm a l c) := ⟨_, rfl⟩
  have b0 : Below w.heap.size w W0 := by rw [hW0]; exact (Below.refl _ _).alloc (Nat.le_refl _) _
  have q0 : W0.heap[w.heap.size]? = some (tmObj k vk vn vs va vl vc nm a l c) := by rw [hW0]; exact alloc_new w _
  have x0 := cell_of q0 0
  have x5 := cell_of q0 5
  have x6 := cell_of q0 6
  simp at x0 x5 x6
  have g0 : w.heap.size < W0.heap.size := (Array.getElem?_eq_some_iff.1 q0).1
  have HLI := toHid hT.args
  have hlm : l ≤ 9223372036854775807 := hT.args.len.2
  have HLL : Hid (l = A.length) := hT.args.len.1
  have HNN := toHid hN
  have hl6 : l ≤ 1048576 := by
    have h5 := len_sz A
    have h6 := HLL.out
    omega
  have HIH := toHid ih
  have HB0 := toHid b0
  obtain ⟨tt, htt⟩ : ∃ tt, tt = Tm.node k (.node vk vn vs Lv) nm A := ⟨_, rfl⟩
  rw [← htt]
  have HVT : Hid (∀ s, s ∈ varsM tt ↔ s ∈ ([] : List (List UInt8)) ∨ s ∈ varsMs A) := fun s => by
    rw [htt]
    unfold varsM
    rw [if_neg hk]
    simp
  have HST : Hid (szM tt = szMs A + 1) := by rw [htt]; rfl
  obtain ⟨iS, hiS, hizS, hisS, hibS⟩ := info_str
  have hkb : (k == 2) = false := by simp [hk]
  clear hT hN ih b0 q0 htt hk
  go_enter Tryz.func11, Tryz.ntmps11
  go_upto_region 1 with fail
  rw [← hW0]
  clear hW0
  go_wp2_with fail
  clear x0 x5 x6 g0
  go_loopg [3, 17] l (fun g s3 s17 wr => ∃ (i : Nat) (v : Value) (acc : List (List UInt8)) (na : Nat), i ≤ l ∧ l - i ≤ g ∧ s17 = .int .i64 i ∧ v = s3 ∧ na = acc.length ∧ wr.ownsRow w.heap.size 9 1 v na (acc.map encStr) ∧ (∀ s, s ∈ acc ↔ s ∈ ([] : List (List UInt8)) ∨ s ∈ varsMs (A.take i)) ∧ na ≤ 1 + szMs (A.take i) ∧ Below w.heap.size w wr)
  case atStart => exact ⟨0, _, [], 0, Nat.zero_le _, by omega, rfl, rfl, rfl, World.ownsRow_nil _ _ _ _, fun s => by simp [varsMs], by omega, HB0.out⟩
  case round =>
    obtain ⟨i, v, acc, na, hi, hg, rfl, rfl, hna, hrow, hmem, hsz, hbw⟩ := hrel
    have HROW := toHid hrow
    have HMEM := toHid hmem
    have HSZ := toHid hsz
    have HBW := toHid hbw
    have HNA := toHid hna
    clear hrow hmem hsz hbw hna
    by_cases hlt : i < l
    · have hil : (i : Int) < l := by omega
      obtain ⟨b, off, kx, vkx, vnx, vsx, vax, vlx, vcx, nmx, ax, lx, cx, Lvx, Ax, hta, hbl, hdr, ⟨p0, p1, p2, p3, p4, p5, p6⟩, htx⟩ := HLI.out.at hlt
      subst hta
      have d0 := (HBW.out.cell (p := ⟨b, off + i * 7, none⟩) hbl).trans p0
      have d1 := (HBW.out.cell (p := ⟨b, off + i * 7 + 1, none⟩) hbl).trans p1
      have d2 := (HBW.out.cell (p := ⟨b, off + i * 7 + 2, none⟩) hbl).trans p2
      have d3 := (HBW.out.cell (p := ⟨b, off + i * 7 + 3, none⟩) hbl).trans p3
      have d4 := (HBW.out.cell (p := ⟨b, off + i * 7 + 4, none⟩) hbl).trans p4
      have d5 := (HBW.out.cell (p := ⟨b, off + i * 7 + 5, none⟩) hbl).trans p5
      have d6 := (HBW.out.cell (p := ⟨b, off + i * 7 + 6, none⟩) hbl).trans p6
      have hblr : b < wr.heap.size := Nat.lt_of_lt_of_le hbl HBW.out.size
      have hget := get_drop hdr
      have HTKV := toHid (vars_take hget)
      have HTKS := toHid (sz_take hget)
      have hle := sz_take_le A (i + 1)
      have hszx : szM (.node kx (.node vkx vnx vsx Lvx) nmx Ax) = szMs Ax + 1 := rfl
      have hmemA : szMs Ax + 1 ≤ szMs A := by
        have := sz_mem (List.mem_of_getElem? hget)
        omega
      have hna6 : na ≤ 1048577 := by
        have h5 := HSZ.out
        have h6 := sz_take_le A i
        have h7 := HNN.out
        omega
      have hsx6 : szMs Ax + 1 ≤ 1048576 := by
        have h7 := HNN.out
        omega
      have HA : Hid (Below wr.heap.size wr (wr.alloc (tmObj kx vkx vnx vsx vax vlx vcx nmx ax lx cx))) := (Below.refl _ _).alloc (Nat.le_refl _) _
      have HN := toHid (alloc_new wr (tmObj kx vkx vnx vsx vax vlx vcx nmx ax lx cx))
      have HBA := toHid (HBW.out.trans (HA.out.mono HBW.out.size))
      have HCALL := toHid (HIH.out kx vkx vnx vsx vax vlx vcx nmx ax lx cx Lvx Ax (wr.alloc (tmObj kx vkx vnx vsx vax vlx vcx nmx ax lx cx)) hmemA (htx.below HBA.out))
      clear p0 p1 p2 p3 p4 p5 p6 hdr hget hle hmemA htx hbl
      go_upto_region 7 with fail
      clear d0 d1 d2 d3 d4 d5 d6
      have HRA : Hid ((wr.alloc (tmObj kx vkx vnx vsx vax vlx vcx nmx ax lx cx)).ownsRow w.heap.size 9 1 v na (acc.map encStr)) := own1_keep HROW.out fun j _ hj => HA.out.block j hj
      generalize wr.alloc (tmObj kx vkx vnx vsx vax vlx vcx nmx ax lx cx) = WX at HA HN HRA HBA HCALL ⊢
      generalize wr.heap.size = bX at HN ⊢
      have y0 := cell_of HN.out 0
      have y1 := cell_of HN.out 1
      have y2 := cell_of HN.out 2
      have y3 := cell_of HN.out 3
      have y4 := cell_of HN.out 4
      have y5 := cell_of HN.out 5
      have y6 := cell_of HN.out 6
      simp at y0 y1 y2 y3 y4 y5 y6
      have hbX : bX < WX.heap.size := (Array.getElem?_eq_some_iff.1 HN.out).1
      clear HA HROW HBW
      go_wp2_with fail
      refine HCALL.out.mono ?_
      rintro e w2 ⟨⟨v2, ts, rfl, hrow2, _, hmem2, hlen2⟩, k2⟩
      have HB2 := toHid (HBA.out.trans (k2.mono HBA.out.size))
      have HR2 : Hid (w2.ownsRow w.heap.size 9 1 v na (acc.map encStr)) := own1_keep HRA.out fun j _ hj => k2.block j hj
      obtain ⟨ax2, cx2, hv2, hnews⟩ := row_news hrow2
      obtain ⟨nt, hnt⟩ : ∃ nt, nt = ts.length := ⟨_, rfl⟩
      rw [← hnt] at hv2 hlen2
      subst hv2
      have HNEWS := toHid hnews
      have HMEM2 := toHid hmem2
      have HNT := toHid hnt
      have HONE := toHid (enc_one ts)
      have HTL : Hid ((ts.map encStr).length = nt * 1) := by show _ = _; rw [List.length_map, Nat.mul_one]; exact hnt.symm
      have hnt6 : nt ≤ 1048576 := by omega
      have HNTS : Hid (nt ≤ szMs Ax + 1) := hlen2
      clear hrow2 hmem2 k2 hnews hnt hlen2 y0 y1 y2 y3 y4 y5 y6 hbX HN HRA HCALL HBA
      go_wp2_with (at_builtin; (refine wpList_append_both _ (by rfl) _ _ _ (by rfl) w.heap.size 9 iS _ 1 16 Tryz.underlying31 hiS hizS hisS hibS rfl (by omega) v na (acc.map encStr) (by rfl) HR2.out ax2 nt cx2 (ts.map encStr) (by rfl) HTL.out HNEWS.out HONE.out (by unfold maxLen; omega) (by omega) HB2.out.size ?_; intro v5 w5 hown5 hgrow hob))
      have HB5 : Hid (Below w.heap.size w w5) := Below.grownR HB2.out hgrow HB2.out.size (fun j hj => (own1_block HR2.out hj).1)
      have HR5 : Hid (w5.ownsRow w.heap.size 9 1 v5 (na + nt) ((acc ++ ts).map encStr)) := by
        rw [List.map_append]
        exact hown5
      have HN5 : Hid (na + nt = (acc ++ ts).length) := by
        show _ = _
        rw [List.length_append, HNA.out, HNT.out]
      have HM5 : Hid (∀ s, s ∈ acc ++ ts ↔ s ∈ ([] : List (List UInt8)) ∨ s ∈ varsMs (A.take (i + 1))) := fun s => by
        rw [List.mem_append, HMEM.out, HMEM2.out, HTKV.out, List.mem_append, or_assoc]
      have HS5 : Hid (na + nt ≤ 1 + szMs (A.take (i + 1))) := by
        have h5 := HTKS.out
        have h6 := HSZ.out
        have h7 := HNTS.out
        show _ ≤ _
        omega
      clear hown5 hgrow hob
      go_wp2_with fail
      go_roundg (l - (i + 1))
      case measure => omega
      case rel => exact ⟨i + 1, v5, acc ++ ts, na + nt, by omega, Nat.le_refl _, by go_num, rfl, HN5.out, HR5.out, HM5.out, HS5.out, HB5.out⟩
    · have he : i = l := by omega
      have htk : A.take i = A := List.take_of_length_le (by have := HLL.out; omega)
      have HM5 : Hid (∀ s, s ∈ acc ↔ s ∈ varsM tt) := fun s => by rw [HMEM.out, htk, HVT.out]
      have HS5 : Hid (na ≤ szM tt) := by
        have h5 := HSZ.out
        rw [htk] at h5
        show _ ≤ _
        rw [HST.out]
        omega
      have hal : acc.length ≤ 4000000 := by
        have h5 := HS5.out
        have h6 := HST.out
        have h7 := HNN.out
        have h8 := HNA.out
        omega
      have hrow := HROW.out
      rw [HNA.out] at hrow
      have HSORT := toHid (sort_rowS acc w.heap.size v wr hrow hal)
      clear htk hrow HMEM HSZ
      subst he
      go_wp2_with fail
      refine HSORT.out.mono ?_
      rintro e w3 ⟨rfl, hr3, hg3⟩
      have HB3 : Hid (Below w.heap.size w w3) := Below.grownR HBW.out hg3 HBW.out.size (fun j hj => (own1_block HROW.out hj).1)
      have HCMP : Hid (Calls Tryz.prog 25 #[v] w3 fun e w' => (∃ v', e = .returned v' ∧ w'.ownsRow w.heap.size 9 1 v' (Lib.compact (acc.mergeSort (fun x y => decide (x ≤ y)))).length ((Lib.compact (acc.mergeSort (fun x y => decide (x ≤ y)))).map encStr)) ∧ w3.grownBy w' v.ownBlock) := compact_rowS (acc.mergeSort (fun x y => decide (x ≤ y))) w.heap.size v w3 (by rw [List.length_mergeSort]; exact hr3) (by rw [List.length_mergeSort]; exact hal)
      have HBLK : Hid (∀ j, v.ownBlock = some j → w.heap.size ≤ j) := fun j hj => (own1_block HROW.out hj).1
      clear hr3 hg3 HSORT
      go_wp2_with fail
      refine HCMP.out.mono ?_
      rintro e w4 ⟨⟨v4, rfl, hr4⟩, hg4⟩
      have HB4 : Hid (Below w.heap.size w w4) := Below.grownR HB3.out hg4 HB3.out.size HBLK.out
      obtain ⟨c1, c2, c3⟩ := compact_sorted acc
      have HFE : Hid (OfEnd w.heap.size tt w4 (.returned v4)) := ⟨v4, _, rfl, hr4, c1, fun s => (c2 s).trans (HM5.out s), Nat.le_trans c3 (by rw [← HNA.out]; exact HS5.out)⟩
      clear hr4 hg4 c1 c2 c3 HCMP
      go_wp2_with fail
      go_ret
      exact ⟨HFE.out, HB4.out⟩

theorem freeOf_any : ∀ (N : Nat) (k vk vn : Int) (vs : ByteArray) (va : Option Addr) (vl vc : Nat) (nm : ByteArray) (a : Option Addr) (l c : Nat) (Lv : List T) (A : List Tm) (w : World), szMs A + 1 ≤ N → N ≤ 1048576 → TmAt w k vk vn vs va vl vc nm a l c Lv A →
    Calls Tryz.prog 11 #[.agg #[.int .i64 k, .int .i64 vk, .int .i64 vn, .string vs, .slice va vl vc, .string nm, .slice a l c]] w fun e w' => OfEnd w.heap.size (.node k (.node vk vn vs Lv) nm A) w' e ∧ Below w.heap.size w w' := by
  intro N
  induction N with
  | zero => intro k vk vn vs va vl vc nm a l c Lv A w h; omega
  | succ N ih =>
    intro k vk vn vs va vl vc nm a l c Lv A w h1 h2 hT
    have ih' := fun (k vk vn : Int) (vs : ByteArray) (va : Option Addr) (vl vc : Nat) (nm : ByteArray) (a : Option Addr) (l c : Nat) (Lv : List T) (A' : List Tm) (w : World) (h : szMs A' + 1 ≤ szMs A) (ht : TmAt w k vk vn vs va vl vc nm a l c Lv A') => ih k vk vn vs va vl vc nm a l c Lv A' w (by omega) (by omega) ht
    by_cases hk : k = 2
    · exact of_var k vk vn vs va vl vc nm a l c Lv A w hT (by omega) hk ih'
    · exact of_other k vk vn vs va vl vc nm a l c Lv A w hT (by omega) hk ih'
end Go.Proofs.YtbfhapmnnckkaaaGreatDoor
