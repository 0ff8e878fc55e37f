/-
  What is proved here: what the texts RWarsh, RLed, RWalkP prove, in one text.
-/
import Derived.Test.YtpjbjpickpiglaaGreatDoorQPAI
import Derived.Test.YtpjbjpickpiglaaGreatDoorQPAH
import Derived.Test.YtpjbjpickpiglaaGreatDoorQPAG
namespace Go.Proofs.YtpjbjpickpiglaaGreatDoor
open Go.RowKit
set_option linter.unusedVariables false

set_option linter.unusedSimpArgs false

def putS (K : List (Int × Int)) (p : Int × Int) : List (Int × Int) := if p ∈ K then K else K ++ [p]
def wB (k a : Int) (K : List (Int × Int)) (b : Int) : List (Int × Int) := if (k, b) ∈ K then putS K (a, b) else K
def wA (ids : List Int) (k : Int) (K : List (Int × Int)) (a : Int) : List (Int × Int) := if (a, k) ∈ K then ids.foldl (wB k a) K else K
def wK (ids : List Int) (K : List (Int × Int)) (k : Int) : List (Int × Int) := ids.foldl (wA ids k) K
def edB (kind : ByteArray) (K : List (Int × Int)) (x : Ed) : List (Int × Int) := if goesB kind x = true then putS K (x.frm, x.dst) else K
def reachedF (E : List Ed) (ids : List Int) (kind : ByteArray) : List (Int × Int) := ids.foldl (wK ids) (E.foldl (edB kind) [])

theorem mem_putS (K : List (Int × Int)) (p q : Int × Int) : q ∈ putS K p ↔ q ∈ K ∨ q = p := by
  unfold putS
  by_cases h : p ∈ K
  · rw [if_pos h]
    exact ⟨.inl, fun hq => hq.elim id fun e => e ▸ h⟩
  · rw [if_neg h]
    simp

theorem nodup_putS {K : List (Int × Int)} (h : K.Nodup) (p : Int × Int) : (putS K p).Nodup := by
  unfold putS
  by_cases hp : p ∈ K
  · rw [if_pos hp]; exact h
  · rw [if_neg hp, List.nodup_append]
    refine ⟨h, List.nodup_cons.2 ⟨List.not_mem_nil, List.nodup_nil⟩, fun a ha b hb => ?_⟩
    rw [List.mem_singleton] at hb
    rintro rfl
    exact hp (hb ▸ ha)

theorem fold_keep {α : Type} {β : Type} (I : β → Prop) (f : β → α → β) (hf : ∀ K x, I K → I (f K x)) : ∀ (l : List α) (K : β), I K → I (l.foldl f K)
  | [], K, h => h
  | x :: l, K, h => fold_keep I f hf l (f K x) (hf K x h)

theorem nodup_wB (k a b : Int) {K : List (Int × Int)} (h : K.Nodup) : (wB k a K b).Nodup := by
  unfold wB; split
  · exact nodup_putS h _
  · exact h

theorem nodup_wA (ids : List Int) (k a : Int) {K : List (Int × Int)} (h : K.Nodup) : (wA ids k K a).Nodup := by
  unfold wA; split
  · exact fold_keep List.Nodup _ (fun K x h => nodup_wB k a x h) ids K h
  · exact h

theorem nodup_reached (E : List Ed) (ids : List Int) (kind : ByteArray) : (reachedF E ids kind).Nodup := by
  refine fold_keep List.Nodup _ (fun K k h => fold_keep List.Nodup _ (fun K a h => nodup_wA ids k a h) ids K h) ids _ ?_
  refine fold_keep List.Nodup _ (fun K x h => ?_) E _ List.nodup_nil
  unfold edB; split
  · exact nodup_putS h _
  · exact h

theorem mem_wB (k a b : Int) (K : List (Int × Int)) (q : Int × Int) : q ∈ wB k a K b ↔ q ∈ K ∨ ((k, b) ∈ K ∧ q = (a, b)) := by
  unfold wB
  by_cases h : (k, b) ∈ K
  · rw [if_pos h, mem_putS]; simp [h]
  · rw [if_neg h]; simp [h]

theorem mem_foldB (k a : Int) (q : Int × Int) : ∀ (l : List Int) (K : List (Int × Int)), q ∈ l.foldl (wB k a) K ↔ q ∈ K ∨ ∃ b ∈ l, (k, b) ∈ K ∧ q = (a, b)
  | [], K => by simp
  | b :: l, K => by
    rw [List.foldl_cons, mem_foldB k a q l]
    have row : ∀ c, (k, c) ∈ wB k a K b ↔ (k, c) ∈ K := fun c => by
      rw [mem_wB]
      constructor
      · rintro (h | ⟨h1, h2⟩)
        · exact h
        · have : c = b := congrArg Prod.snd h2
          rw [this]; exact h1
      · exact .inl
    rw [mem_wB]
    constructor
    · rintro ((h | ⟨h1, h2⟩) | ⟨c, hc, h1, h2⟩)
      · exact .inl h
      · exact .inr ⟨b, List.mem_cons_self .., h1, h2⟩
      · exact .inr ⟨c, List.mem_cons_of_mem _ hc, (row c).1 h1, h2⟩
    · rintro (h | ⟨c, hc, h1, h2⟩)
      · exact .inl (.inl h)
      · rcases List.mem_cons.1 hc with rfl | hc
        · exact .inl (.inr ⟨h1, h2⟩)
        · exact .inr ⟨c, hc, (row c).2 h1, h2⟩

theorem mem_wA (ids : List Int) (k a : Int) (K : List (Int × Int)) (q : Int × Int) : q ∈ wA ids k K a ↔ q ∈ K ∨ ((a, k) ∈ K ∧ ∃ b ∈ ids, (k, b) ∈ K ∧ q = (a, b)) := by
  unfold wA
  by_cases h : (a, k) ∈ K
  · rw [if_pos h, mem_foldB]; simp [h]
  · rw [if_neg h]; simp [h]

theorem mem_foldA (ids : List Int) (k : Int) (q : Int × Int) : ∀ (l : List Int) (K : List (Int × Int)), q ∈ l.foldl (wA ids k) K ↔ q ∈ K ∨ ∃ a ∈ l, (a, k) ∈ K ∧ ∃ b ∈ ids, (k, b) ∈ K ∧ q = (a, b)
  | [], K => by simp
  | a :: l, K => by
    rw [List.foldl_cons, mem_foldA ids k q l]
    have row : ∀ c, (k, c) ∈ wA ids k K a ↔ (k, c) ∈ K := fun c => by
      rw [mem_wA]
      constructor
      · rintro (h | ⟨h1, b, hb, h2, h3⟩)
        · exact h
        · have : c = b := congrArg Prod.snd h3
          rw [this]; exact h2
      · exact .inl
    have col : ∀ c, (c, k) ∈ wA ids k K a ↔ (c, k) ∈ K := fun c => by
      rw [mem_wA]
      constructor
      · rintro (h | ⟨h1, b, hb, h2, h3⟩)
        · exact h
        · have : c = a := congrArg Prod.fst h3
          rw [this]; exact h1
      · exact .inl
    rw [mem_wA]
    constructor
    · rintro ((h | ⟨h1, b, hb, h2, h3⟩) | ⟨c, hc, h1, b, hb, h2, h3⟩)
      · exact .inl h
      · exact .inr ⟨a, List.mem_cons_self .., h1, b, hb, h2, h3⟩
      · exact .inr ⟨c, List.mem_cons_of_mem _ hc, (col c).1 h1, b, hb, (row b).1 h2, h3⟩
    · rintro (h | ⟨c, hc, h1, b, hb, h2, h3⟩)
      · exact .inl (.inl h)
      · rcases List.mem_cons.1 hc with rfl | hc
        · exact .inl (.inr ⟨h1, b, hb, h2, h3⟩)
        · exact .inr ⟨c, hc, (col c).2 h1, b, hb, (row b).2 h2, h3⟩

/-- All pairs are of these nodes. -/
def DomS (ids : List Int) (K : List (Int × Int)) : Prop := ∀ a b, (a, b) ∈ K → a ∈ ids ∧ b ∈ ids

theorem mem_wK {ids : List Int} {K : List (Int × Int)} (hd : DomS ids K) (k a b : Int) : (a, b) ∈ wK ids K k ↔ (a, b) ∈ K ∨ ((a, k) ∈ K ∧ (k, b) ∈ K) := by
  unfold wK
  rw [mem_foldA]
  constructor
  · rintro (h | ⟨c, hc, h1, d, hd, h2, h3⟩)
    · exact .inl h
    · have e1 : a = c := congrArg Prod.fst h3
      have e2 : b = d := congrArg Prod.snd h3
      subst e1; subst e2
      exact .inr ⟨h1, h2⟩
  · rintro (h | ⟨h1, h2⟩)
    · exact .inl h
    · exact .inr ⟨a, (hd a k h1).1, h1, b, (hd k b h2).2, h2, rfl⟩

theorem dom_wK {ids : List Int} {K : List (Int × Int)} (hd : DomS ids K) (k : Int) : DomS ids (wK ids K k) := fun a b h => by
  rcases (mem_wK hd k a b).1 h with h | ⟨h1, h2⟩
  · exact hd a b h
  · exact ⟨(hd a k h1).1, (hd k b h2).2⟩

/-- Closed through a node. -/
def Thru (K : List (Int × Int)) (k : Int) : Prop := ∀ a b, (a, k) ∈ K → (k, b) ∈ K → (a, b) ∈ K

theorem thru_self {ids : List Int} {K : List (Int × Int)} (hd : DomS ids K) (k : Int) : Thru (wK ids K k) k := fun a b h1 h2 => by
  rw [mem_wK hd] at h1 h2 ⊢
  refine .inr ⟨?_, ?_⟩
  · rcases h1 with h | ⟨h, _⟩ <;> exact h
  · rcases h2 with h | ⟨_, h⟩ <;> exact h

theorem thru_keep {ids : List Int} {K : List (Int × Int)} (hd : DomS ids K) {k : Int} (hk : Thru K k) (j : Int) : Thru (wK ids K j) k := fun a b h1 h2 => by
  rw [mem_wK hd] at h1 h2 ⊢
  rcases h1 with h1 | ⟨h1, h1'⟩
  · rcases h2 with h2 | ⟨h2, h2'⟩
    · exact .inl (hk a b h1 h2)
    · exact .inr ⟨hk a j h1 h2, h2'⟩
  · rcases h2 with h2 | ⟨h2, h2'⟩
    · exact .inr ⟨h1, hk j b h1' h2⟩
    · exact .inr ⟨h1, h2'⟩

theorem fold_thru (ids : List Int) : ∀ (l : List Int) (K : List (Int × Int)), DomS ids K → (∀ q ∈ K, q ∈ l.foldl (wK ids) K) ∧ (∀ k, Thru K k → Thru (l.foldl (wK ids) K) k) ∧ (∀ k ∈ l, Thru (l.foldl (wK ids) K) k)
  | [], K, hd => ⟨fun q h => h, fun k h => h, fun k h => by cases h⟩
  | j :: l, K, hd => by
    rw [List.foldl_cons]
    obtain ⟨h1, h2, h3⟩ := fold_thru ids l (wK ids K j) (dom_wK hd j)
    refine ⟨fun q hq => h1 q ((mem_wK hd j q.1 q.2).2 (.inl hq)), fun k hk => h2 k (thru_keep hd hk j), fun k hk => ?_⟩
    rcases List.mem_cons.1 hk with rfl | hk
    · exact h2 k (thru_self hd k)
    · exact h3 k hk

theorem fold_sound (ids : List Int) (S : Int → Int → Prop) (tr : ∀ a k b, S a k → S k b → S a b) : ∀ (l : List Int) (K : List (Int × Int)), DomS ids K → (∀ a b, (a, b) ∈ K → S a b) → ∀ a b, (a, b) ∈ l.foldl (wK ids) K → S a b
  | [], K, hd, h => h
  | j :: l, K, hd, h => by
    rw [List.foldl_cons]
    refine fold_sound ids S tr l (wK ids K j) (dom_wK hd j) fun a b hq => ?_
    rcases (mem_wK hd j a b).1 hq with h1 | ⟨h1, h2⟩
    · exact h a b h1
    · exact tr a j b (h a j h1) (h j b h2)

theorem mem_edges (kind : ByteArray) (q : Int × Int) : ∀ (E : List Ed) (K : List (Int × Int)), q ∈ E.foldl (edB kind) K ↔ q ∈ K ∨ ∃ x ∈ E, goesB kind x = true ∧ q = (x.frm, x.dst)
  | [], K => by simp
  | x :: E, K => by
    rw [List.foldl_cons, mem_edges kind q E]
    have : q ∈ edB kind K x ↔ q ∈ K ∨ (goesB kind x = true ∧ q = (x.frm, x.dst)) := by
      unfold edB
      by_cases h : goesB kind x = true
      · rw [if_pos h, mem_putS]; simp [h]
      · rw [if_neg h]; simp [h]
    rw [this]
    constructor
    · rintro ((h | h) | ⟨y, hy, h⟩)
      · exact .inl h
      · exact .inr ⟨x, List.mem_cons_self .., h⟩
      · exact .inr ⟨y, List.mem_cons_of_mem _ hy, h⟩
    · rintro (h | ⟨y, hy, h⟩)
      · exact .inl (.inl h)
      · rcases List.mem_cons.1 hy with rfl | hy
        · exact .inl (.inr h)
        · exact .inr ⟨y, hy, h⟩

theorem mem_way (E : List Ed) (kind : ByteArray) (i : Int) (x : Ed) : x ∈ wayF E kind i ↔ x ∈ E ∧ x.frm = i ∧ goesB kind x = true := by
  unfold wayF
  rw [List.mem_filter]
  simp

theorem Rch.trans {W : Int → List Ed} {a k b : Int} (h : Rch W a k) (h2 : Rch W k b) : Rch W a b := by
  induction h2 with
  | one x hx => exact .step k x h hx
  | step j x _ hx ih => exact .step j x ih hx

/-- The closed set holds just what is reached. -/
theorem mem_reached {E : List Ed} {ids : List Int} (kind : ByteArray) (he : ∀ x ∈ E, x.frm ∈ ids ∧ x.dst ∈ ids) (a b : Int) : (a, b) ∈ reachedF E ids kind ↔ Rch (wayF E kind) a b := by
  have hd : DomS ids (E.foldl (edB kind) []) := fun a b h => by
    rcases (mem_edges kind (a, b) E []).1 h with h | ⟨x, hx, _, h⟩
    · cases h
    · have e1 : a = x.frm := congrArg Prod.fst h
      have e2 : b = x.dst := congrArg Prod.snd h
      rw [e1, e2]
      exact he x hx
  constructor
  · refine fold_sound ids (Rch (wayF E kind)) (fun a k b h1 h2 => h1.trans h2) ids _ hd (fun a b h => ?_) a b
    rcases (mem_edges kind (a, b) E []).1 h with h | ⟨x, hx, h1, h⟩
    · cases h
    · have e1 : a = x.frm := congrArg Prod.fst h
      have e2 : b = x.dst := congrArg Prod.snd h
      rw [e1, e2]
      exact .one x ((mem_way E kind _ x).2 ⟨hx, rfl, h1⟩)
  · intro h
    obtain ⟨k1, _, k3⟩ := fold_thru ids ids _ hd
    have one : ∀ (i : Int) (x : Ed), x ∈ wayF E kind i → (i, x.dst) ∈ reachedF E ids kind := fun i x hx => by
      obtain ⟨h1, h2, h3⟩ := (mem_way E kind i x).1 hx
      exact k1 _ ((mem_edges kind _ E []).2 (.inr ⟨x, h1, h3, by rw [h2]⟩))
    induction h with
    | one x hx => exact one a x hx
    | step j x _ hx ih =>
      obtain ⟨h1, h2, h3⟩ := (mem_way E kind j x).1 hx
      have hj : j ∈ ids := by rw [← h2]; exact (he x h1).1
      exact k3 j hj a x.dst ih (one j x hx)

set_option linter.unusedSimpArgs false

/-- Each edge that is told is from where the walk began, or from where one that was told ahead leads; and leads to where none did. -/
inductive Led (E : List Ed) (i : Int) : List Ed → Prop
  | nil : Led E i []
  | snoc (l : List Ed) (x : Ed) : Led E i l → (x.frm = i ∨ x.frm ∈ l.map (·.dst)) → x.dst ∉ l.map (·.dst) → x ∈ E → Led E i (l ++ [x])

structure LedS (E : List Ed) (i : Int) (s : WkSt) : Prop where
  led : Led E i s.out
  told : ∀ d, 0 < s.seen d ↔ d ∈ s.out.map (·.dst)
  opn : ∀ j ∈ s.op, j = i ∨ j ∈ s.out.map (·.dst)

theorem vis_grows (s : WkSt) (x : Ed) (d : Int) (h : d ∈ s.out.map (·.dst)) : d ∈ (visF s x).out.map (·.dst) := by
  show d ∈ (if s.seen x.dst = 0 then s.out ++ [x] else s.out).map (·.dst)
  split
  · rw [List.map_append]
    exact List.mem_append_left _ h
  · exact h

theorem LedS.vis {E : List Ed} {i : Int} {s : WkSt} (h : LedS E i s) {x : Ed} (hx : x.frm = i ∨ x.frm ∈ s.out.map (·.dst)) (he : x ∈ E) : LedS E i (visF s x) := by
  by_cases h0 : s.seen x.dst = 0
  · have e1 : (visF s x).out = s.out ++ [x] := by simp [visF, h0]
    have e2 : (visF s x).op = s.op ++ [x.dst] := by simp [visF, h0]
    refine ⟨?_, fun d => ?_, fun j hj => ?_⟩
    · rw [e1]
      refine .snoc _ _ h.led hx (fun hm => ?_) he
      have := (h.told x.dst).2 hm
      omega
    · rw [vis_pos, e1, List.map_append, List.mem_append, h.told d]
      simp
    · rw [e2] at hj
      rcases List.mem_append.1 hj with hj | hj
      · rcases h.opn j hj with h1 | h1
        · exact .inl h1
        · exact .inr (vis_grows s x j h1)
      · rw [List.mem_singleton] at hj
        refine .inr ?_
        rw [e1, hj]
        simp
  · have e1 : (visF s x).out = s.out := by simp [visF, h0]
    have e2 : (visF s x).op = s.op := by simp [visF, h0]
    refine ⟨by rw [e1]; exact h.led, fun d => ?_, fun j hj => ?_⟩
    · rw [vis_pos, e1, ← h.told d]
      constructor
      · rintro (h1 | rfl)
        · exact h1
        · omega
      · exact .inl
    · rw [e2] at hj
      rw [e1]
      exact h.opn j hj

theorem LedS.fold {E : List Ed} {i j : Int} : ∀ (l : List Ed) {s : WkSt}, LedS E i s → (j = i ∨ j ∈ s.out.map (·.dst)) → (∀ x ∈ l, x.frm = j ∧ x ∈ E) → LedS E i (l.foldl visF s)
  | [], s, h, _, _ => h
  | x :: l, s, h, hj, hl => by
    rw [List.foldl_cons]
    obtain ⟨h1, h2⟩ := hl x (List.mem_cons_self ..)
    refine LedS.fold l (h.vis (by rw [h1]; exact hj) h2) ?_ fun y hy => hl y (List.mem_cons_of_mem _ hy)
    rcases hj with h3 | h3
    · exact .inl h3
    · exact .inr (vis_grows s x j h3)

theorem walk_led {E : List Ed} {W : Int → List Ed} (hW : ∀ j x, x ∈ W j → x.frm = j ∧ x ∈ E) (i : Int) : ∀ (f : Nat) (s : WkSt), LedS E i s → Led E i (walkF W f s)
  | 0, s, h => h.led
  | f + 1, s, h => by
    cases hop : s.op with
    | nil => rw [walk_nil hop]; exact h.led
    | cons j r =>
      rw [walk_cons hop]
      have hj := h.opn j (by rw [hop]; exact List.mem_cons_self ..)
      have base : LedS E i ⟨r, s.seen, s.out⟩ := ⟨h.led, h.told, fun q hq => h.opn q (by rw [hop]; exact List.mem_cons_of_mem _ hq)⟩
      exact walk_led hW i f _ (LedS.fold (W j) base hj (fun x hx => hW j x hx))

theorem led_st0 (E : List Ed) (i : Int) : LedS E i (st0 i) := ⟨.nil, fun d => by show 0 < 0 ↔ d ∈ ([] : List Ed).map (·.dst); simp, fun j hj => .inl (List.mem_singleton.1 hj)⟩

theorem walk_led0 (E : List Ed) (kind : ByteArray) (i : Int) : Led E i (walkF (wayF E kind) (E.length + 2) (st0 i)) := walk_led (fun j x hx => by
  obtain ⟨h1, h2, _⟩ := (mem_way E kind j x).1 hx
  exact ⟨h2, h1⟩) i _ _ (led_st0 E i)

theorem last_mem : ∀ (l : List Ed) (d : Int) (v : Value), lastF l d = some v → ∃ y ∈ l, v = edV y ∧ y.dst = d
  | [], d, v, h => by cases h
  | x :: l, d, v, h => by
    unfold lastF at h
    cases hl : lastF l d with
    | some u =>
      rw [hl] at h
      obtain ⟨y, hy, e1, e2⟩ := last_mem l d u hl
      injection h with h
      exact ⟨y, List.mem_cons_of_mem _ hy, by rw [← h]; exact e1, e2⟩
    | none =>
      rw [hl] at h
      by_cases hd : d = x.dst
      · simp [hd] at h
        exact ⟨x, List.mem_cons_self .., h.symm, hd.symm⟩
      · simp [hd] at h

theorem last_none : ∀ (l : List Ed) (d : Int), lastF l d = none ↔ d ∉ l.map (·.dst)
  | [], d => by simp [lastF]
  | x :: l, d => by
    unfold lastF
    have ih := last_none l d
    cases hl : lastF l d with
    | some u =>
      obtain ⟨y, hy, _, e2⟩ := last_mem l d u hl
      simp only [List.map_cons, List.mem_cons]
      constructor
      · intro h; cases h
      · intro h
        exact absurd (.inr (List.mem_map.2 ⟨y, hy, e2⟩)) h
    | none =>
      have h1 := ih.1 hl
      simp only [List.map_cons, List.mem_cons]
      by_cases hd : d = x.dst
      · simp [hd]
      · simp only [hd, if_false, false_or, true_iff]
        exact h1

theorem Chain.mono {f f' : Int → Option Value} {i : Int} (hf : ∀ d v, f d = some v → f' d = some v) : ∀ L : List Ed, Chain f i L → Chain f' i L
  | [], h => h
  | [c], h => h
  | c :: d :: l, h => ⟨h.1, hf _ _ h.2.1, Chain.mono hf (d :: l) h.2.2⟩

/-- A way of edges. -/
def WayL (at' : Int) : List Ed → Int → Prop
  | [], t => at' = t
  | x :: l, t => x.frm = at' ∧ WayL x.dst l t

theorem way_snoc : ∀ (l : List Ed) (a b : Int) (x : Ed), WayL a l b → x.frm = b → WayL a (l ++ [x]) x.dst
  | [], a, b, x, h, hx => ⟨hx.trans h.symm, rfl⟩
  | y :: l, a, b, x, h, hx => ⟨h.1, way_snoc l y.dst b x h.2 hx⟩

theorem led_chain {E : List Ed} {i : Int} {l : List Ed} (h : Led E i l) : ∀ d ∈ l.map (·.dst), ∃ c C, lastF l d = some (edV c) ∧ c.dst = d ∧ Chain (lastF l) i (c :: C) ∧ (c :: C).length ≤ l.length ∧ (∀ y ∈ c :: C, y ∈ E) ∧ WayL i (c :: C).reverse d := by
  induction h with
  | nil => intro d hd; cases hd
  | snoc l x hl hx hn he ih =>
    have mono : ∀ d v, lastF l d = some v → lastF (l ++ [x]) d = some v := fun d v hv => by
      obtain ⟨y, hy, _, e2⟩ := last_mem l d v hv
      rw [last_snoc]
      have : ¬ d = x.dst := fun e => hn (List.mem_map.2 ⟨y, hy, e2.trans e⟩)
      simp only [this, if_false]
      exact hv
    intro d hd
    by_cases hdx : d = x.dst
    · subst hdx
      have h0 : lastF (l ++ [x]) x.dst = some (edV x) := by rw [last_snoc]; simp
      by_cases hi : x.frm = i
      · exact ⟨x, [], h0, rfl, hi, by simp, fun y hy => by rw [List.mem_singleton] at hy; rw [hy]; exact he, ⟨hi, rfl⟩⟩
      · obtain ⟨c, C, h1, h2, h3, h4, h5, h6⟩ := ih x.frm (hx.resolve_left hi)
        refine ⟨x, c :: C, h0, rfl, ⟨hi, mono _ _ h1, Chain.mono mono _ h3⟩, by simp at h4 ⊢; omega, fun y hy => ?_, ?_⟩
        · rcases List.mem_cons.1 hy with rfl | hy
          · exact he
          · exact h5 y hy
        · rw [List.reverse_cons]
          exact way_snoc _ _ _ _ h6 rfl
    · rw [List.map_append, List.mem_append] at hd
      have hd' : d ∈ l.map (·.dst) := hd.resolve_right (by simp [hdx])
      obtain ⟨c, C, h1, h2, h3, h4, h5, h6⟩ := ih d hd'
      exact ⟨c, C, mono _ _ h1, h2, Chain.mono mono _ h3, by simp at h4 ⊢; omega, h5, h6⟩

set_option linter.unusedSimpArgs false

theorem run_seen (w : World) : (Instr.makeMap 73 none).run Tryz.prog w = .ok (.map (some w.heap.size)) (w.alloc (.map #[] 0)) := rfl
theorem zero_int (w : World) : (zeroValue 3).run Tryz.prog w = .ok (.int .i64 0) w := by kernel_rfl

set_option maxHeartbeats 4000000 in
set_option maxRecDepth 100000 in
theorem walk_pairs (E : List Ed) (W : Int → List Ed) (hW : ∀ i x, x ∈ W i → x ∈ E) (hWl : ∀ i, (W i).length ≤ E.length) (hE : E.length ≤ 1000) (hty : ∀ x ∈ E, x.typ.size ≤ 9223372036854775807) (w : World) (B m : Nat) (f : Int → Option Value) (how : OwnWays w B m W f) {Inv : World → (Nat → Prop) → List Ed → Prop} (hv : Vis Inv) (bo bn : Nat)
    (hvis : ∀ (X : World) (O : Nat → Prop) (out : List Ed) (x : Ed), Inv X O out → x ∈ E → out.length ≤ E.length → Calls Tryz.prog 58 #[.agg #[.int .i64 x.id, .int .i64 x.frm, .int .i64 x.dst, .string x.typ, .slice x.pa x.pl x.pc], .pointer (some ⟨bo, 0, none⟩), .pointer (some ⟨bn, 0, none⟩)] X fun e w' => e = .returned (.tuple #[]) ∧ ∃ O', Inv w' O' (out ++ [x]) ∧ (∀ k, O' k → O k ∨ X.heap.size ≤ k) ∧ Rst O X w')
    (O0 : Nat → Prop) (hI : Inv w O0 []) (hm : ¬ O0 m) (hrow : ∀ i g, (slot0 f i).ownBlock = some g → ¬ O0 g) (frm : Int) :
    Calls Tryz.prog 15 #[.map (some m), .int .i64 frm, .func (.func 58) #[] #[.pointer (some ⟨bo, 0, none⟩), .pointer (some ⟨bn, 0, none⟩)]] w fun e w' => e = .returned (.tuple #[]) ∧ ∃ O', Inv w' O' (walkF W (E.length + 2) (st0 frm)) ∧ (∀ k, O' k → O0 k ∨ w.heap.size ≤ k) ∧ Rst O0 w w' := by
  have HOW := toHid how
  have HV := toHid hv
  have HVIS := toHid hvis
  have HI := toHid hI
  have HM := toHid hm
  have HROW := toHid hrow
  have HW := toHid hW
  have HWL := toHid hWl
  have HTY := toHid hty
  obtain ⟨FIN, hfin⟩ : ∃ l, l = walkF W (E.length + 2) (st0 frm) := ⟨_, rfl⟩
  rw [← hfin]
  have HFIN := toHid hfin
  clear how hv hvis hI hm hrow hW hWl hty hfin
  have hmm := fun X : World => run_seen X
  go_enter Tryz.func15, Tryz.ntmps15
  go_wp2_with fail
  go_loopg [7] (E.length + 2) (fun g s7 wr => ∃ (s : WkSt) (r g0 off cap : Nat), s7 = .slice (some ⟨g0, off, none⟩) s.op.length cap ∧ WkI Inv O0 w wr (.slice (some ⟨g0, off, none⟩) s.op.length cap) s.op s.seen s.out ∧ r + muS E s ≤ E.length + 1 ∧ E.length + 2 - r ≤ g ∧ (∀ i, s.seen i ≤ r * E.length) ∧ s.out.length + unseen E s ≤ E.length ∧ FIN = walkF W (E.length + 2 - r) s)
  case atStart =>
    have hb : Below w.heap.size w ((w.alloc (.map #[] 0)).alloc (.cells #[.int .i64 frm] 3)) := ((Below.refl _ _).alloc (Nat.le_refl _) _).alloc (by simp) _
    have hq := alloc_two w (.map #[] 0) (.cells #[.int .i64 frm] 3)
    refine ⟨st0 frm, 0, w.heap.size + 1, 0, 1, rfl, ⟨qrow_one (Nat.le_refl _) hq, ⟨fun _ => none, mapI_new (clk := 0) ((Below.heap_alloc _ _ _ (by simp)).trans (alloc_new w (.map #[] 0))), fun i => rfl⟩, ⟨O0, HV.out.kept HI.out (fun k hk => hb.block k (HV.out.lt HI.out k hk)) hb.size, fun hh => ?_, fun g hg hh => ?_, fun k hk => .inl hk⟩, Rst.of_below hb⟩, ?_, by omega, fun i => Nat.zero_le _, ?_, by rw [Nat.sub_zero]; exact HFIN.out⟩
    · have := HV.out.lt HI.out _ hh
      omega
    · have e : w.heap.size + 1 = g := by injection hg
      have := HV.out.lt HI.out _ hh
      omega
    · have := unseen_le E (st0 frm)
      show 0 + (1 + unseen E (st0 frm)) ≤ _
      omega
    · have := unseen_le E (st0 frm)
      show 0 + unseen E (st0 frm) ≤ _
      omega
  case round =>
    obtain ⟨⟨op, seen, out⟩, r, g, off, cap, rfl, hwk, hmu, hgg, hsb, hou, hfi⟩ := hrel
    have hwk : WkI Inv O0 w wr (.slice (some ⟨g, off, none⟩) op.length cap) op seen out := hwk
    have HK := toHid hwk
    have HSB := toHid hsb
    have HFI := toHid hfi
    have HMU := toHid hmu
    have HOU := toHid hou
    have HOWr := toHid (HOW.out.rst HM.out HROW.out hwk.rs)
    clear hwk hsb hfi hmu hou
    cases op with
    | nil =>
      go_wp2_with fail
      go_end0
      obtain ⟨O, i1, _, _, i4⟩ := HK.out.iv
      refine ⟨rfl, O, ?_, i4, HK.out.rs⟩
      rw [HFI.out, walk_nil rfl]
      exact i1
    | cons i rest =>
      obtain ⟨_, q1, q2, q3, q4, q5, q6⟩ := HK.out.q.parts
      have c0 : wr.cell? ⟨g, off, none⟩ = some (.int .i64 i) := q5 0 i rfl
      have hlk := run_lookup_int (P := Tryz.prog) (w := wr) Tryz.underlying51 Tryz.underlying3 HOWr.out.map i (zero_edges _) false
      simp only [Bool.false_eq_true, if_false] at hlk
      obtain ⟨a2, l2, c2, hsl⟩ : ∃ a l c, slot0 f i = .slice a l c := by
        rcases (HOWr.out.row i).2 with ⟨e, _⟩ | ⟨g', cap', cur, e, _⟩
        · exact ⟨_, _, _, e⟩
        · exact ⟨_, _, _, e⟩
      replace hlk : (Instr.lookup 51 (.map (some m)) (.int .i64 i) false).run Tryz.prog wr = .ok (.slice a2 l2 c2) wr := by rw [← hsl]; exact hlk
      have hrest : (rest.length : Int) + 1 ≤ cap := by
        have : (i :: rest).length ≤ cap := q3
        simp at this
        omega
      go_upto_region 4 with fail
      go_cut [7] (fun s7 wx => ∃ off' cap', s7 = .slice (some ⟨g, off', none⟩) rest.length cap' ∧ wx = wr ∧ WkI Inv O0 w wr (.slice (some ⟨g, off', none⟩) rest.length cap') rest seen out)
      case first =>
        have hcl : rest.length + 1 ≤ cap := by omega
        go_wp2_with fail
        all_goals go_meet
        all_goals first
          | exact ⟨off + 1, cap - 1, rfl, rfl, HK.out.pop HK.out.q.pop1 rfl⟩
          | exact ⟨off, 0, rfl, rfl, HK.out.pop (HK.out.q.pop0 (by omega)) rfl⟩
      case rest =>
        obtain ⟨off', cap', rfl, rfl, hk2⟩ := hcut
        replace HK := toHid hk2
        clear hk2 c0 q5 q6
        go_wp2_with fail
        have HL2 : Hid (l2 = (W i).length) := by
          have := HOWr.out.row i
          rw [hsl] at this
          exact (row_len this).1
        have HSL := toHid hsl
        have hl2b : l2 ≤ 1000 := by have h1 := HL2.out; have h2 := HWL.out i; omega
        have HWi : Hid (∀ x ∈ W i, x ∈ E) := fun x hx => HW.out i x hx
        clear hlk hsl
        go_loopg [7, 26] l2 (fun gg s7 s26 wi => ∃ (j g0 off0 cap0 : Nat) (s : WkSt), j ≤ l2 ∧ l2 - j ≤ gg ∧ s26 = .int .i64 j ∧ s7 = .slice (some ⟨g0, off0, none⟩) s.op.length cap0 ∧ s = ((W i).take j).foldl visF ⟨rest, seen, out⟩ ∧ WkI Inv O0 w wi (.slice (some ⟨g0, off0, none⟩) s.op.length cap0) s.op s.seen s.out)
        case atStart => exact ⟨0, g, off', cap', ⟨rest, seen, out⟩, Nat.zero_le _, by omega, rfl, rfl, rfl, HK.out⟩
        case round =>
          obtain ⟨j, g0, off0, cap0, s, hj, hjg, rfl, rfl, hs, hk3⟩ := hrel
          have HK3 := toHid hk3
          have HSS := toHid hs
          clear hk3 hs
          by_cases hlt : j < l2
          · have HOWi := toHid (HOW.out.rst HM.out HROW.out HK3.out.rs)
            obtain ⟨hn1, hn2, hat⟩ : EdgesAt wr (W i) a2 l2 := row_edges (c := c2) (B := B) (by have := HOWi.out.row i; rw [HSL.out] at this; exact this) (fun p hp => HTY.out p (HWi.out p hp))
            obtain ⟨b, o2, ha, hb, hc⟩ := hat (by omega)
            clear hn1 hn2
            subst ha
            obtain ⟨x, hx, _⟩ := drop_get (L := W i) (i := j) (by have := HL2.out; omega)
            obtain ⟨hsz, d0, d1, d2, d3, d4⟩ := hc j x hx
            have HX := toHid hx
            have HXE := toHid (HWi.out x (List.mem_of_getElem? hx))
            clear hc hx hat
            have hil : (j : Int) < l2 := by omega
            go_upto_region 8 with fail
            have HBX := toHid (alloc_new wr (.cells #[.int .i64 x.id, .int .i64 x.frm, .int .i64 x.dst, .string x.typ, .slice x.pa x.pl x.pc] 41))
            have HBWp := toHid ((Below.refl wr.heap.size wr).alloc (Nat.le_refl _) (.cells #[.int .i64 x.id, .int .i64 x.frm, .int .i64 x.dst, .string x.typ, .slice x.pa x.pl x.pc] 41))
            have HKP := toHid (HK3.out.below HV.out ((Below.refl _ _).alloc (Nat.le_refl _) (.cells #[.int .i64 x.id, .int .i64 x.frm, .int .i64 x.dst, .string x.typ, .slice x.pa x.pl x.pc] 41)))
            have hwl := HK3.out.lt
            generalize wr.alloc (.cells #[.int .i64 x.id, .int .i64 x.frm, .int .i64 x.dst, .string x.typ, .slice x.pa x.pl x.pc] 41) = Wp at HBX HKP HBWp ⊢
            clear d0 d1 d2 d3 d4 HOWi
            obtain ⟨O, j1, i2, i3, i4⟩ := HK3.out.iv
            have HJ1 := toHid j1
            have HI2 := toHid i2
            have HI3 := toHid i3
            have HI4 := toHid i4
            have HOB : Hid (¬ O wr.heap.size) := fun hh => by have := HV.out.lt HJ1.out _ hh; omega
            clear j1 i2 i3 i4
            obtain ⟨fs, hf1, hf2⟩ := HKP.out.sn
            have y2 := cell_of HBX.out 2
            simp at y2
            have hpl : wr.heap.size < Wp.heap.size := blk_lt HBX.out
            have l1 := run_lookup_int (P := Tryz.prog) (w := Wp) Tryz.underlying73 Tryz.underlying3 hf1 x.dst (zero_int _) false
            simp only [Bool.false_eq_true, if_false] at l1
            rw [hf2 x.dst] at l1
            obtain ⟨o, hup, hmo⟩ := run_update_int (P := Tryz.prog) (w := Wp) Tryz.underlying73 Tryz.underlying3 hf1 x.dst (.int .i64 ((s.seen x.dst : Int) + 1))
            have hm2 := hmo (putB Wp w.heap.size o) (putB_here hf1.lt o)
            have lb := run_lookup_int (P := Tryz.prog) (w := putB Wp w.heap.size o) Tryz.underlying73 Tryz.underlying3 hm2 x.dst (zero_int _) false
            simp only [Bool.false_eq_true, if_false, if_true, Option.getD_some] at lb
            have HKQ := toHid (HKP.out.see HV.out (seen' := (visF s x).seen) ⟨_, hm2, fun q => by
              show _ = Value.int .i64 ((if q = x.dst then s.seen q + 1 else s.seen q : Nat) : Int)
              by_cases hq : q = x.dst
              · subst hq
                simp
              · simp only [hq, if_false]
                exact hf2 q⟩)
            have HBQ : Hid ((putB Wp w.heap.size o).heap[wr.heap.size]? = some (.cells #[.int .i64 x.id, .int .i64 x.frm, .int .i64 x.dst, .string x.typ, .slice x.pa x.pl x.pc] 41 (0, 0))) := (putB_other _ _ _ _ (by omega)).trans HBX.out
            have HIQ : Hid (Inv (putB Wp w.heap.size o) O s.out) := HV.out.kept HJ1.out (fun k hk => (putB_other _ _ _ _ (fun e => HI2.out (by rw [← e]; exact hk))).trans (HBWp.out.block k (HV.out.lt HJ1.out k hk))) (by rw [putB_size]; exact HBWp.out.size)
            have hfold := fold_all (E := E) ((W i).take j) ⟨rest, seen, out⟩ (fun y hy => HWi.out y (List.mem_of_mem_take hy))
            rw [← HSS.out] at hfold
            have HFO := toHid hfold
            have hsee : s.seen x.dst ≤ 2000000 := by
              have h1 := HFO.out.2.2 x.dst
              have h2 := HSB.out x.dst
              have h3 : r ≤ 1001 := by have := HMU.out; omega
              have h4 : r * E.length ≤ 1001 * 1000 := Nat.mul_le_mul h3 hE
              have h5 : ((W i).take j).length ≤ 1000 := Nat.le_trans (List.length_take_le _ _) (by have := HL2.out; have := HWL.out i; omega)
              have h6 : seen x.dst ≤ r * E.length := h2
              have h7 : s.seen x.dst ≤ seen x.dst + ((W i).take j).length := h1
              omega
            have hwrap : IntKind.i64.wrap ((s.seen x.dst : Int) + 1) = (s.seen x.dst : Int) + 1 := by
              simp [IntKind.wrap, IntKind.bits, IntKind.signed]
              omega
            clear hfold hf1 hf2 hmo hm2
            go_upto_region 9 with fail
            generalize putB Wp w.heap.size o = Wq at HKQ HBQ HIQ lb ⊢
            clear l1 hup hwrap y2 hpl HBX HKP HBWp
            have z0 := cell_of HBQ.out 0
            have z1 := cell_of HBQ.out 1
            have z2 := cell_of HBQ.out 2
            have z3 := cell_of HBQ.out 3
            have z4 := cell_of HBQ.out 4
            simp at z0 z1 z2 z3 z4
            have hpq : wr.heap.size < Wq.heap.size := blk_lt HBQ.out
            have HST : Hid ((((W i).take (j + 1)).foldl visF ⟨rest, seen, out⟩) = visF s x) := by
              show _ = _
              rw [fold_take HX.out, ← HSS.out]
            by_cases h0 : s.seen x.dst = 0
            · have hng : ¬ ((1 : Int) < (s.seen x.dst : Int) + 1) := by omega
              have hol : s.out.length ≤ E.length := by
                have a1 := HFO.out.2.1
                have a2 := HOU.out
                have a3 : s.out.length + unseen E s ≤ out.length + unseen E ⟨rest, seen, out⟩ := a1
                have a4 : out.length + unseen E ⟨i :: rest, seen, out⟩ ≤ E.length := a2
                have a5 : unseen E ⟨i :: rest, seen, out⟩ = unseen E ⟨rest, seen, out⟩ := rfl
                omega
              go_wp2_with fail
              refine (HVIS.out Wq O s.out x HIQ.out HXE.out hol).mono ?_
              rintro e wv ⟨rfl, O', n1, n2, n3⟩
              have HKV := toHid (HKQ.out.told HV.out HIQ.out HI2.out HI3.out HI4.out n1 n2 n3)
              have HBV := toHid ((n3.block wr.heap.size hpq HOB.out).trans HBQ.out)
              clear n1 n2 n3 z0 z1 z2 z3 z4 hpq lb hng
              have z2 := cell_of HBV.out 2
              simp at z2
              have hpv : wr.heap.size < wv.heap.size := blk_lt HBV.out
              have HKA := toHid (HKV.out.below HV.out ((Below.refl _ _).alloc (Nat.le_refl _) (.cells #[.int .i64 x.dst] 3)))
              obtain ⟨v', w5, hrun, hq5, hgr5, hb5⟩ := run_append_q HKA.out.q x.dst wv.heap.size (by simp) (by have := HKV.out.lt; simp; omega) (by
                have a1 := HFO.out.1
                have a2 := HMU.out
                have a3 : s.op.length + unseen E s ≤ rest.length + unseen E ⟨rest, seen, out⟩ := a1
                have a4 : r + ((i :: rest).length + unseen E ⟨i :: rest, seen, out⟩) ≤ E.length + 1 := a2
                have a5 : unseen E ⟨i :: rest, seen, out⟩ = unseen E ⟨rest, seen, out⟩ := rfl
                rw [List.length_cons] at a4
                omega) 26
              have HK5 := toHid (HKA.out.push HV.out hq5 hgr5 hb5)
              clear hq5 hgr5 hb5
              obtain ⟨g5, off5, cap5, hv5⟩ := HK5.out.form
              subst hv5
              go_wp2_with (at_builtin; refine list_append_eq _ (by rfl) (.tmp 43) (.tmp 46) 26 26 (by rfl) (.slice (some ⟨g0, off0, none⟩) s.op.length cap0) (.slice (some ⟨wv.heap.size, 0, none⟩) 1 1) (by rfl) (by rfl) _ w5 hrun ?_)
              go_roundg (l2 - (j + 1))
              case measure => omega
              case rel =>
                have e1 : (visF s x).op = s.op ++ [x.dst] := by simp [visF, h0]
                have e2 : (visF s x).out = s.out ++ [x] := by simp [visF, h0]
                refine ⟨j + 1, g5, off5, cap5, visF s x, by omega, by omega, by go_num, by rw [e1]; simp, HST.out.symm, ?_⟩
                rw [e1, e2]
                exact HK5.out
            · have hgt : (1 : Int) < (s.seen x.dst : Int) + 1 := by omega
              go_wp2_with fail
              go_roundg (l2 - (j + 1))
              case measure => omega
              case rel =>
                have e1 : (visF s x).op = s.op := by simp [visF, h0]
                have e2 : (visF s x).out = s.out := by simp [visF, h0]
                refine ⟨j + 1, g0, off0, cap0, visF s x, by omega, by omega, by go_num, by rw [e1], HST.out.symm, ?_⟩
                rw [e1, e2]
                exact HKQ.out
          · have he : j = l2 := by omega
            subst he
            go_wp2_with fail
            go_roundg (E.length + 2 - (r + 1))
            case measure => have := HMU.out; omega
            case rel =>
              have hs2 : s = (W i).foldl visF ⟨rest, seen, out⟩ := by
                rw [HSS.out, List.take_of_length_le (by have := HL2.out; omega)]
              have hfold := fold_all (E := E) (W i) ⟨rest, seen, out⟩ HWi.out
              rw [← hs2] at hfold
              obtain ⟨b1, b2, b3⟩ := hfold
              have a5 : unseen E ⟨i :: rest, seen, out⟩ = unseen E ⟨rest, seen, out⟩ := rfl
              have a4 : r + ((i :: rest).length + unseen E ⟨i :: rest, seen, out⟩) ≤ E.length + 1 := HMU.out
              have a3 : muS E s ≤ rest.length + unseen E ⟨rest, seen, out⟩ := b1
              have a6 : out.length + unseen E ⟨i :: rest, seen, out⟩ ≤ E.length := HOU.out
              have a7 : s.out.length + unseen E s ≤ out.length + unseen E ⟨rest, seen, out⟩ := b2
              rw [List.length_cons] at a4
              refine ⟨s, r + 1, g0, off0, cap0, rfl, HK3.out, by omega, by omega, fun q => ?_, by omega, ?_⟩
              · have c1 := b3 q
                have c2 : s.seen q ≤ seen q + (W i).length := c1
                have c3 : seen q ≤ r * E.length := HSB.out q
                have c4 := HWL.out i
                rw [Nat.add_mul, Nat.one_mul]
                omega
              · rw [HFI.out, show E.length + 2 - r = (E.length + 2 - (r + 1)) + 1 from by omega, walk_cons rfl, ← hs2]
end Go.Proofs.YtpjbjpickpiglaaGreatDoor
