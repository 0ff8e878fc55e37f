/-
  What is proved here: what the texts RWay, RWayL, RWayC, RReachP prove, in one text.
-/
import Derived.Test.YtpjbjpickpiglaaGreatDoorQPAH
namespace Go.Proofs.YtpjbjpickpiglaaGreatDoor
open Go.RowKit
set_option linter.unusedVariables false

set_option linter.unusedSimpArgs false

/-- Of two rows of one length: the first that differs is less. -/
def lexI : List Int → List Int → Prop
  | a :: as1, b :: bs => a < b ∨ (a = b ∧ lexI as1 bs)
  | _, _ => False

theorem lex_irr : ∀ a : List Int, ¬ lexI a a
  | [], h => h
  | a :: as1, h => by
    unfold lexI at h
    rcases h with h | h
    · omega
    · exact lex_irr as1 h.2

theorem lex_trans : ∀ a b c : List Int, lexI a b → lexI b c → lexI a c
  | [], _, _, h, _ => by unfold lexI at h; exact h.elim
  | a :: as1, [], _, h, _ => by unfold lexI at h; exact h.elim
  | a :: as1, b :: bs, [], _, k => by unfold lexI at k; exact k.elim
  | a :: as1, b :: bs, c :: cs, h, k => by
    unfold lexI at *
    rcases h with h | h
    · rcases k with k | k
      · exact .inl (by omega)
      · exact .inl (by omega)
    · rcases k with k | k
      · exact .inl (by omega)
      · exact .inr ⟨by omega, lex_trans as1 bs cs h.2 k.2⟩

theorem lex_tri : ∀ a b : List Int, a.length = b.length → lexI a b ∨ a = b ∨ lexI b a
  | [], [], _ => .inr (.inl rfl)
  | a :: as1, [], h => by simp at h
  | [], b :: bs, h => by simp at h
  | a :: as1, b :: bs, h => by
    have ih := lex_tri as1 bs (by simpa using h)
    unfold lexI
    rcases Int.lt_trichotomy a b with e | e | e
    · exact .inl (.inl e)
    · subst e
      rcases ih with h | h | h
      · exact .inl (.inr ⟨rfl, h⟩)
      · exact .inr (.inl (by rw [h]))
      · exact .inr (.inr (.inr ⟨rfl, h⟩))
    · exact .inr (.inr (.inl e))

theorem lex_app : ∀ (a b : List Int) (x y : Int), a.length = b.length → lexI a b → lexI (a ++ [x]) (b ++ [y])
  | [], _, _, _, _, h => by unfold lexI at h; exact h.elim
  | a :: as1, [], _, _, _, h => by unfold lexI at h; exact h.elim
  | a :: as1, b :: bs, x, y, hl, h => by
    rw [List.cons_append, List.cons_append]
    unfold lexI at *
    rcases h with h | h
    · exact .inl h
    · exact .inr ⟨h.1, lex_app as1 bs x y (by simpa using hl) h.2⟩

theorem lex_last : ∀ (a : List Int) (x y : Int), x < y → lexI (a ++ [x]) (a ++ [y])
  | [], x, y, h => .inl h
  | a :: as1, x, y, h => by
    rw [List.cons_append, List.cons_append]
    exact .inr ⟨rfl, lex_last as1 x y h⟩

def idsW (w : List Ed) : List Int := w.map (·.id)

/-- Shorter, or as long and ahead. -/
def slt (v w : List Ed) : Prop := v.length < w.length ∨ (v.length = w.length ∧ lexI (idsW v) (idsW w))
def sle (v w : List Ed) : Prop := slt v w ∨ v = w

theorem slt_irr (v : List Ed) : ¬ slt v v := fun h => by
  rcases h with h | h
  · omega
  · exact lex_irr _ h.2

theorem slt_trans {u v w : List Ed} (h : slt u v) (k : slt v w) : slt u w := by
  rcases h with h | h
  · rcases k with k | k
    · exact .inl (by omega)
    · exact .inl (by omega)
  · rcases k with k | k
    · exact .inl (by omega)
    · exact .inr ⟨by omega, lex_trans _ _ _ h.2 k.2⟩

theorem sle_trans {u v w : List Ed} (h : sle u v) (k : sle v w) : sle u w := by
  rcases h with h | rfl
  · rcases k with k | rfl
    · exact .inl (slt_trans h k)
    · exact .inl h
  · exact k

theorem sle_anti {u v : List Ed} (h : sle u v) (k : sle v u) : u = v := by
  rcases h with h | h
  · rcases k with k | k
    · exact absurd (slt_trans h k) (slt_irr u)
    · exact k.symm
  · exact h

theorem sle_len {u v : List Ed} (h : sle u v) : u.length ≤ v.length := by
  rcases h with (h | h) | h
  · omega
  · omega
  · rw [h]; exact Nat.le_refl _

theorem slt_app {u w : List Ed} (y x : Ed) (h : slt u w) : slt (u ++ [y]) (w ++ [x]) := by
  rcases h with h | h
  · exact .inl (by simp; omega)
  · refine .inr ⟨by simp; omega, ?_⟩
    unfold idsW
    rw [List.map_append, List.map_append]
    exact lex_app _ _ _ _ (by simp; omega) h.2

theorem slt_last (w : List Ed) {y x : Ed} (h : y.id < x.id) : slt (w ++ [y]) (w ++ [x]) := by
  refine .inr ⟨by simp, ?_⟩
  unfold idsW
  rw [List.map_append, List.map_append]
  exact lex_last _ _ _ h

theorem sle_app {u w : List Ed} (x : Ed) (h : sle u w) : sle (u ++ [x]) (w ++ [x]) := by
  rcases h with h | rfl
  · exact .inl (slt_app x x h)
  · exact .inr rfl

/-- Where a way ends. -/
def wEnd (i : Int) (w : List Ed) : Int := match w.getLast? with
  | some x => x.dst
  | none => i

theorem wEnd_nil (i : Int) : wEnd i [] = i := rfl
theorem wEnd_snoc (i : Int) (w : List Ed) (x : Ed) : wEnd i (w ++ [x]) = x.dst := by
  unfold wEnd
  simp

/-- A way from i. -/
inductive Wlk (W : Int → List Ed) (i : Int) : List Ed → Prop
  | nil : Wlk W i []
  | snoc (w : List Ed) (x : Ed) : Wlk W i w → x ∈ W (wEnd i w) → Wlk W i (w ++ [x])

/-- The walk, with whole ways. -/
structure PSt where
  op : List (List Ed)
  seen : Int → Nat
  out : List (List Ed)

def visP (w : List Ed) (s : PSt) (x : Ed) : PSt := ⟨if s.seen x.dst = 0 then s.op ++ [w ++ [x]] else s.op, fun i => if i = x.dst then s.seen i + 1 else s.seen i, if s.seen x.dst = 0 then s.out ++ [w ++ [x]] else s.out⟩

def walkP (W : Int → List Ed) (i : Int) : Nat → PSt → PSt
  | 0, s => s
  | f + 1, s =>
    match s.op with
    | [] => s
    | w :: r => walkP W i f ((W (wEnd i w)).foldl (visP w) ⟨r, s.seen, s.out⟩)

/-- One is the other with whole ways. -/
structure Sim (i : Int) (p : PSt) (s : WkSt) : Prop where
  op : s.op = p.op.map (wEnd i)
  seen : s.seen = p.seen
  out : p.out.map (·.getLast?) = s.out.map some

theorem Sim.vis {i : Int} {p : PSt} {s : WkSt} (h : Sim i p s) (w : List Ed) (x : Ed) : Sim i (visP w p x) (visF s x) := by
  obtain ⟨h1, h2, h3⟩ := h
  unfold visP visF
  rw [h2]
  refine ⟨?_, rfl, ?_⟩
  · by_cases hs : p.seen x.dst = 0
    · simp only [hs, if_true]
      rw [h1, List.map_append, List.map_singleton, wEnd_snoc]
    · simp only [hs, if_false]
      exact h1
  · by_cases hs : p.seen x.dst = 0
    · simp only [hs, if_true]
      rw [List.map_append, List.map_append, h3]
      simp
    · simp only [hs, if_false]
      exact h3

theorem Sim.fold {i : Int} (w : List Ed) : ∀ (l : List Ed) {p : PSt} {s : WkSt}, Sim i p s → Sim i (l.foldl (visP w) p) (l.foldl visF s)
  | [], _, _, h => h
  | x :: l, _, _, h => Sim.fold w l (h.vis w x)

theorem walk_sim (W : Int → List Ed) (i : Int) : ∀ (f : Nat) {p : PSt} {s : WkSt}, Sim i p s → (walkP W i f p).out.map (·.getLast?) = (walkF W f s).map some
  | 0, p, s, h => h.out
  | f + 1, p, s, h => by
    unfold walkP walkF
    rw [h.op]
    cases hp : p.op with
    | nil => exact h.out
    | cons w r =>
      simp only [List.map_cons]
      refine walk_sim W i f (Sim.fold w _ ⟨rfl, h.seen, h.out⟩)

theorem walk_ends {E : List Ed} {W : Int → List Ed} (hW : ∀ j x, x ∈ W j → x ∈ E) (i : Int) : ∀ (f : Nat) {p : PSt} {s : WkSt}, Sim i p s → muS E s ≤ f → (walkP W i f p).op = []
  | 0, p, s, h, hm => by
    unfold muS at hm
    have : s.op.length = 0 := by omega
    have h0 : s.op = [] := List.length_eq_zero_iff.1 this
    have h1 := h.op
    rw [h0] at h1
    exact List.map_eq_nil_iff.1 h1.symm
  | f + 1, p, s, h, hm => by
    unfold walkP
    cases hp : p.op with
    | nil => exact hp
    | cons w r =>
      simp only
      have hop := h.op
      rw [hp, List.map_cons] at hop
      have hf := fold_all (E := E) (W (wEnd i w)) ⟨r.map (wEnd i), s.seen, s.out⟩ (fun x hx => hW _ x hx)
      refine walk_ends hW i f (Sim.fold w (W (wEnd i w)) (s := ⟨r.map (wEnd i), s.seen, s.out⟩) ⟨rfl, h.seen, h.out⟩) ?_
      have h1 := hf.1
      unfold muS at hm h1 ⊢
      rw [hop] at hm
      simp only [List.length_cons, List.length_map] at hm h1
      have e : unseen E ⟨r.map (wEnd i), s.seen, s.out⟩ = unseen E s := rfl
      rw [e] at h1
      omega

/-- What holds while a way's edges are gone through. -/
structure Inn (W : Int → List Ed) (i : Int) (dn : List (List Ed)) (w : List Ed) (pre : List Ed) (p : PSt) : Prop where
  queue : [] :: p.out = dn ++ w :: p.op
  asc : p.out.Pairwise slt
  wlk : ∀ v ∈ p.out, Wlk W i v
  from' : ∀ v ∈ p.out, ∃ u y, v = u ++ [y] ∧ (u ∈ dn ∨ (u = w ∧ y ∈ pre)) ∧ (u = [] ∨ wEnd i u ≠ i)
  done : ∀ u ∈ dn, ∀ x ∈ W (wEnd i u), ∃ v ∈ p.out, wEnd i v = x.dst ∧ sle v (u ++ [x])
  donew : ∀ x ∈ pre, ∃ v ∈ p.out, wEnd i v = x.dst ∧ sle v (w ++ [x])
  seen : ∀ d, 0 < p.seen d ↔ ∃ v ∈ p.out, wEnd i v = d
  here : Wlk W i w

theorem Inn.lt {W : Int → List Ed} {i : Int} {dn : List (List Ed)} {w pre : List Ed} {p : PSt} (h : Inn W i dn w pre p) : ∀ u ∈ dn, slt u w := fun u hu => by
  have hp : ([] :: p.out).Pairwise slt := List.pairwise_cons.2 ⟨fun v hv => by
    obtain ⟨u, y, rfl, _⟩ := h.from' v hv
    exact .inl (by simp), h.asc⟩
  rw [h.queue, List.pairwise_append] at hp
  exact hp.2.2 u hu w (List.mem_cons_self ..)

theorem Inn.step {W : Int → List Ed} {i : Int} {dn : List (List Ed)} {w pre : List Ed} {p : PSt} {x : Ed} (h : Inn W i dn w pre p) (hx : x ∈ W (wEnd i w)) (hr : ∀ y ∈ pre, y.id < x.id) : Inn W i dn w (pre ++ [x]) (visP w p x) := by
  have hlt : ∀ v ∈ p.out, slt v (w ++ [x]) := fun v hv => by
    obtain ⟨u, y, rfl, hu, _⟩ := h.from' v hv
    rcases hu with hu | ⟨rfl, hy⟩
    · exact slt_app y x (h.lt u hu)
    · exact slt_last u (hr y hy)
  by_cases hs : p.seen x.dst = 0
  · have hnil : w = [] ∨ wEnd i w ≠ i := by
      by_cases hw : w = []
      · exact .inl hw
      · refine .inr fun e => ?_
        have hd : ([] : List Ed) ∈ dn := by
          have hq := h.queue
          cases dn with
          | nil =>
            rw [List.nil_append] at hq
            injection hq with h1 _
            exact absurd h1.symm hw
          | cons d dn =>
            rw [List.cons_append] at hq
            injection hq with h1 _
            rw [← h1]
            exact List.mem_cons_self ..
        obtain ⟨v, hv, he, _⟩ := h.done [] hd x (by rw [wEnd_nil, ← e]; exact hx)
        have := (h.seen x.dst).2 ⟨v, hv, he⟩
        omega
    have e : visP w p x = ⟨p.op ++ [w ++ [x]], fun d => if d = x.dst then p.seen d + 1 else p.seen d, p.out ++ [w ++ [x]]⟩ := by
      unfold visP
      simp [hs]
    rw [e]
    refine ⟨?_, ?_, fun v hv => ?_, fun v hv => ?_, fun u hu y hy => ?_, fun y hy => ?_, fun d => ?_, h.here⟩
    · show [] :: (p.out ++ [w ++ [x]]) = _
      rw [← List.cons_append, h.queue]
      simp
    · exact List.pairwise_append.2 ⟨h.asc, List.pairwise_singleton _ _, fun v hv z hz => by
        have : z = w ++ [x] := by simpa using hz
        rw [this]
        exact hlt v hv⟩
    · rcases List.mem_append.1 hv with hv | hv
      · exact h.wlk v hv
      · have : v = w ++ [x] := by simpa using hv
        rw [this]
        exact .snoc w x h.here hx
    · rcases List.mem_append.1 hv with hv | hv
      · obtain ⟨u, y, e1, e2, e3⟩ := h.from' v hv
        exact ⟨u, y, e1, e2.imp id fun q => ⟨q.1, List.mem_append_left _ q.2⟩, e3⟩
      · have : v = w ++ [x] := by simpa using hv
        exact ⟨w, x, this, .inr ⟨rfl, List.mem_append_right _ (List.mem_singleton.2 rfl)⟩, hnil⟩
    · obtain ⟨v, hv, h1, h2⟩ := h.done u hu y hy
      exact ⟨v, List.mem_append_left _ hv, h1, h2⟩
    · rcases List.mem_append.1 hy with hy | hy
      · obtain ⟨v, hv, h1, h2⟩ := h.donew y hy
        exact ⟨v, List.mem_append_left _ hv, h1, h2⟩
      · have : y = x := by simpa using hy
        rw [this]
        exact ⟨w ++ [x], List.mem_append_right _ (List.mem_singleton.2 rfl), wEnd_snoc i w x, .inr rfl⟩
    · show 0 < (if d = x.dst then p.seen d + 1 else p.seen d) ↔ _
      by_cases hd : d = x.dst
      · rw [if_pos hd]
        exact ⟨fun _ => ⟨w ++ [x], List.mem_append_right _ (List.mem_singleton.2 rfl), by rw [wEnd_snoc, hd]⟩, fun _ => by omega⟩
      · rw [if_neg hd, h.seen]
        constructor
        · rintro ⟨v, hv, h1⟩
          exact ⟨v, List.mem_append_left _ hv, h1⟩
        · rintro ⟨v, hv, h1⟩
          rcases List.mem_append.1 hv with hv | hv
          · exact ⟨v, hv, h1⟩
          · have : v = w ++ [x] := by simpa using hv
            rw [this, wEnd_snoc] at h1
            exact absurd h1.symm hd
  · have e : visP w p x = ⟨p.op, fun d => if d = x.dst then p.seen d + 1 else p.seen d, p.out⟩ := by
      unfold visP
      simp [hs]
    rw [e]
    obtain ⟨v0, hv0, he0⟩ := (h.seen x.dst).1 (by omega)
    refine ⟨h.queue, h.asc, h.wlk, fun v hv => ?_, h.done, fun y hy => ?_, fun d => ?_, h.here⟩
    · obtain ⟨u, y, e1, e2, e3⟩ := h.from' v hv
      exact ⟨u, y, e1, e2.imp id fun q => ⟨q.1, List.mem_append_left _ q.2⟩, e3⟩
    · rcases List.mem_append.1 hy with hy | hy
      · exact h.donew y hy
      · have : y = x := by simpa using hy
        rw [this]
        exact ⟨v0, hv0, he0, .inl (hlt v0 hv0)⟩
    · show 0 < (if d = x.dst then p.seen d + 1 else p.seen d) ↔ _
      by_cases hd : d = x.dst
      · rw [if_pos hd]
        exact ⟨fun _ => ⟨v0, hv0, by rw [he0, hd]⟩, fun _ => by omega⟩
      · rw [if_neg hd]
        exact h.seen d

theorem Inn.fold {W : Int → List Ed} {i : Int} {dn : List (List Ed)} {w : List Ed} : ∀ (l pre : List Ed) {p : PSt}, Inn W i dn w pre p → (∀ x ∈ l, x ∈ W (wEnd i w)) → (pre ++ l).Pairwise (fun y x => y.id < x.id) → Inn W i dn w (pre ++ l) (l.foldl (visP w) p)
  | [], pre, p, h, _, _ => by rw [List.append_nil]; exact h
  | x :: l, pre, p, h, hx, hr => by
    have h1 := h.step (x := x) (hx x (List.mem_cons_self ..)) (fun y hy => (List.pairwise_append.1 hr).2.2 y hy x (List.mem_cons_self ..))
    have e : pre ++ x :: l = (pre ++ [x]) ++ l := by simp
    rw [e] at hr ⊢
    exact Inn.fold l (pre ++ [x]) h1 (fun y hy => hx y (List.mem_cons_of_mem _ hy)) hr

/-- What holds between two ways. -/
structure Btw (W : Int → List Ed) (i : Int) (dn : List (List Ed)) (p : PSt) : Prop where
  queue : [] :: p.out = dn ++ p.op
  asc : p.out.Pairwise slt
  wlk : ∀ v ∈ p.out, Wlk W i v
  from' : ∀ v ∈ p.out, ∃ u y, v = u ++ [y] ∧ u ∈ dn ∧ (u = [] ∨ wEnd i u ≠ i)
  done : ∀ u ∈ dn, ∀ x ∈ W (wEnd i u), ∃ v ∈ p.out, wEnd i v = x.dst ∧ sle v (u ++ [x])
  seen : ∀ d, 0 < p.seen d ↔ ∃ v ∈ p.out, wEnd i v = d

theorem walk_btw {W : Int → List Ed} (hr : ∀ j, (W j).Pairwise fun y x => y.id < x.id) (i : Int) : ∀ (f : Nat) (dn : List (List Ed)) (p : PSt), Btw W i dn p → ∃ dn', Btw W i dn' (walkP W i f p)
  | 0, dn, p, h => ⟨dn, h⟩
  | f + 1, dn, p, h => by
    unfold walkP
    cases hp : p.op with
    | nil => exact ⟨dn, h⟩
    | cons w r =>
      simp only
      have hw : Wlk W i w := by
        have hq := h.queue
        rw [hp] at hq
        have hm : w ∈ [] :: p.out := by rw [hq]; exact List.mem_append_right _ (List.mem_cons_self ..)
        rcases List.mem_cons.1 hm with rfl | hm
        · exact .nil
        · exact h.wlk w hm
      have h0 : Inn W i dn w [] ⟨r, p.seen, p.out⟩ := ⟨by rw [← hp]; exact h.queue, h.asc, h.wlk, fun v hv => by
        obtain ⟨u, y, e1, e2, e3⟩ := h.from' v hv
        exact ⟨u, y, e1, .inl e2, e3⟩, h.done, fun x hx => (by cases hx), h.seen, hw⟩
      have h1 := Inn.fold (W (wEnd i w)) [] h0 (fun x hx => hx) (by rw [List.nil_append]; exact hr _)
      rw [List.nil_append] at h1
      refine walk_btw hr i f (dn ++ [w]) _ ⟨?_, h1.asc, h1.wlk, fun v hv => ?_, fun u hu x hx => ?_, h1.seen⟩
      · rw [h1.queue]
        simp
      · obtain ⟨u, y, e1, e2, e3⟩ := h1.from' v hv
        refine ⟨u, y, e1, ?_, e3⟩
        rcases e2 with e2 | e2
        · exact List.mem_append_left _ e2
        · exact List.mem_append_right _ (List.mem_singleton.2 e2.1)
      · rcases List.mem_append.1 hu with hu | hu
        · exact h1.done u hu x hx
        · have : u = w := by simpa using hu
          rw [this] at hx ⊢
          exact h1.donew x hx

/-- All ways that the walk has found. -/
def waysP (E : List Ed) (kind : ByteArray) (i : Int) : List (List Ed) := (walkP (wayF E kind) i (E.length + 2) ⟨[[]], fun _ => 0, []⟩).out

structure WaysOk (W : Int → List Ed) (i : Int) (P : List (List Ed)) : Prop where
  asc : P.Pairwise slt
  wlk : ∀ v ∈ P, Wlk W i v
  from' : ∀ v ∈ P, ∃ u y, v = u ++ [y] ∧ u ∈ [] :: P ∧ (u = [] ∨ wEnd i u ≠ i)
  least : ∀ q, Wlk W i q → q ≠ [] → ∃ v ∈ P, wEnd i v = wEnd i q ∧ sle v q

theorem ways_ok {E : List Ed} (hE : E.Pairwise fun y x => y.id < x.id) (kind : ByteArray) (i : Int) : WaysOk (wayF E kind) i (waysP E kind i) ∧ (waysP E kind i).map (·.getLast?) = (walkF (wayF E kind) (E.length + 2) (st0 i)).map some := by
  have hs : Sim i ⟨[[]], fun _ => 0, []⟩ (st0 i) := ⟨rfl, rfl, rfl⟩
  have hr : ∀ j, (wayF E kind j).Pairwise fun y x => y.id < x.id := fun j => hE.filter _
  have hend := walk_ends (E := E) (W := wayF E kind) (fun j x hx => (List.mem_filter.1 hx).1) i (E.length + 2) hs (by
    unfold muS
    have := unseen_le E (st0 i)
    simp only [st0, List.length_singleton] at this ⊢
    omega)
  obtain ⟨dn, hb⟩ := walk_btw hr i (E.length + 2) [] ⟨[[]], fun _ => 0, []⟩ ⟨rfl, .nil, fun v hv => (by cases hv), fun v hv => (by cases hv), fun u hu => (by cases hu), fun d => ⟨fun h => absurd h (Nat.lt_irrefl 0), fun ⟨v, hv, _⟩ => (by cases hv)⟩⟩
  refine ⟨?_, walk_sim _ i _ hs⟩
  have hq := hb.queue
  rw [hend, List.append_nil] at hq
  refine ⟨hb.asc, hb.wlk, fun v hv => ?_, fun q hq' hne => ?_⟩
  · obtain ⟨u, y, e1, e2, e3⟩ := hb.from' v hv
    exact ⟨u, y, e1, by unfold waysP; rw [hq]; exact e2, e3⟩
  · unfold waysP
    induction hq' with
    | nil => exact absurd rfl hne
    | snoc w x hw hx ih =>
      rw [wEnd_snoc]
      by_cases h0 : w = []
      · subst h0
        exact hb.done [] (by rw [← hq]; exact List.mem_cons_self ..) x hx
      · obtain ⟨v, hv, he, hle⟩ := ih h0
        obtain ⟨v2, hv2, he2, hle2⟩ := hb.done v (by rw [← hq]; exact List.mem_cons_of_mem _ hv) x (by rw [he]; exact hx)
        exact ⟨v2, hv2, he2, sle_trans hle2 (sle_app x hle)⟩

set_option linter.unusedSimpArgs false

/-- Of those that end at one place, the first. -/
def firstsW (i : Int) : List (List Ed) → List Int → List (List Ed)
  | [], _ => []
  | w :: ws, s => if wEnd i w ∈ s then firstsW i ws s else w :: firstsW i ws (wEnd i w :: s)

/-- All ways that are longer by one edge. -/
def stepW (W : Int → List Ed) (i : Int) (ws : List (List Ed)) : List (List Ed) := (firstsW i ws []).flatMap fun w => (W (wEnd i w)).map fun x => w ++ [x]

def levW (W : Int → List Ed) (i : Int) : Nat → List (List Ed)
  | 0 => [[]]
  | n + 1 => stepW W i (levW W i n)

theorem firsts_sub (i : Int) : ∀ (ws : List (List Ed)) (s : List Int), (firstsW i ws s).Sublist ws
  | [], s => .slnil
  | w :: ws, s => by
    unfold firstsW
    split
    · exact (firsts_sub i ws s).cons w
    · exact (firsts_sub i ws _).cons_cons w

theorem firsts_ends (i : Int) : ∀ (ws : List (List Ed)) (s : List Int), ((firstsW i ws s).map (wEnd i)).Nodup ∧ ∀ w ∈ firstsW i ws s, wEnd i w ∉ s
  | [], s => ⟨.nil, fun w hw => by cases hw⟩
  | w :: ws, s => by
    unfold firstsW
    split
    · exact firsts_ends i ws s
    · rename_i h
      obtain ⟨h1, h2⟩ := firsts_ends i ws (wEnd i w :: s)
      refine ⟨?_, fun v hv => ?_⟩
      · rw [List.map_cons, List.nodup_cons]
        refine ⟨fun hm => ?_, h1⟩
        obtain ⟨v, hv, e⟩ := List.mem_map.1 hm
        exact h2 v hv (by rw [e]; exact List.mem_cons_self ..)
      · rcases List.mem_cons.1 hv with rfl | hv
        · exact h
        · exact fun hs => h2 v hv (List.mem_cons_of_mem _ hs)

theorem firsts_has (i : Int) : ∀ (ws : List (List Ed)) (s : List Int), ws.Pairwise slt → ∀ w ∈ ws, wEnd i w ∉ s → ∃ v ∈ firstsW i ws s, wEnd i v = wEnd i w ∧ sle v w
  | [], s, _, w, hw, _ => by cases hw
  | x :: ws, s, hp, w, hw, hs => by
    rw [List.pairwise_cons] at hp
    unfold firstsW
    rcases List.mem_cons.1 hw with rfl | hw
    · rw [if_neg hs]
      exact ⟨w, List.mem_cons_self .., rfl, .inr rfl⟩
    · by_cases hx : wEnd i x ∈ s
      · rw [if_pos hx]
        exact firsts_has i ws s hp.2 w hw hs
      · rw [if_neg hx]
        by_cases he : wEnd i w = wEnd i x
        · exact ⟨x, List.mem_cons_self .., he.symm, .inl (hp.1 w hw)⟩
        · obtain ⟨v, hv, h1, h2⟩ := firsts_has i ws (wEnd i x :: s) hp.2 w hw (by
            intro hm
            rcases List.mem_cons.1 hm with h | h
            · exact he h
            · exact hs h)
          exact ⟨v, List.mem_cons_of_mem _ hv, h1, h2⟩

theorem ext_asc {W : Int → List Ed} (hr : ∀ j, (W j).Pairwise fun y x => y.id < x.id) (i : Int) : ∀ ws : List (List Ed), ws.Pairwise slt → (ws.flatMap fun w => (W (wEnd i w)).map fun x => w ++ [x]).Pairwise slt
  | [], _ => by simp
  | w :: ws, h => by
    rw [List.pairwise_cons] at h
    rw [List.flatMap_cons, List.pairwise_append]
    refine ⟨List.pairwise_map.2 ((hr (wEnd i w)).imp fun hlt => slt_last w hlt), ext_asc hr i ws h.2, fun a ha b hb => ?_⟩
    obtain ⟨x, _, rfl⟩ := List.mem_map.1 ha
    obtain ⟨v, hv, hb⟩ := List.mem_flatMap.1 hb
    obtain ⟨y, _, rfl⟩ := List.mem_map.1 hb
    exact slt_app x y (h.1 v hv)

theorem lev_ok {W : Int → List Ed} (hr : ∀ j, (W j).Pairwise fun y x => y.id < x.id) (i : Int) : ∀ n, (levW W i n).Pairwise slt ∧ (∀ w ∈ levW W i n, Wlk W i w ∧ w.length = n) ∧ ∀ q, Wlk W i q → q.length = n → ∃ w ∈ levW W i n, wEnd i w = wEnd i q ∧ sle w q
  | 0 => by
    refine ⟨List.pairwise_singleton _ _, fun w hw => ?_, fun q _ hl => ?_⟩
    · have : w = [] := by simpa [levW] using hw
      rw [this]
      exact ⟨.nil, rfl⟩
    · have : q = [] := List.length_eq_zero_iff.1 hl
      rw [this]
      exact ⟨[], List.mem_singleton.2 rfl, rfl, .inr rfl⟩
  | n + 1 => by
    obtain ⟨h1, h2, h3⟩ := lev_ok hr i n
    have hsub := firsts_sub i (levW W i n) []
    refine ⟨ext_asc hr i _ (h1.sublist hsub), fun w hw => ?_, fun q hq hl => ?_⟩
    · obtain ⟨v, hv, hw⟩ := List.mem_flatMap.1 hw
      obtain ⟨x, hx, rfl⟩ := List.mem_map.1 hw
      obtain ⟨g1, g2⟩ := h2 v (hsub.subset hv)
      exact ⟨.snoc v x g1 hx, by simp [g2]⟩
    · cases hq with
      | nil => simp at hl
      | snoc w x hw hx =>
        obtain ⟨v, hv, e1, e2⟩ := h3 w hw (by simpa using hl)
        obtain ⟨u, hu, e3, e4⟩ := firsts_has i (levW W i n) [] h1 v hv (by simp)
        refine ⟨u ++ [x], List.mem_flatMap.2 ⟨u, hu, List.mem_map.2 ⟨x, by rw [e3, e1]; exact hx, rfl⟩⟩, by rw [wEnd_snoc, wEnd_snoc], ?_⟩
        exact sle_app x (sle_trans e4 e2)

theorem ends_once {W : Int → List Ed} {i : Int} {P : List (List Ed)} {l : List Ed} (h : P.map (·.getLast?) = l.map some) (hn : (l.map (·.dst)).Nodup) : (P.map (wEnd i)).Nodup := by
  have e : P.map (wEnd i) = l.map (·.dst) := by
    have h1 : P.map (wEnd i) = (P.map (·.getLast?)).map fun o => match o with
      | some x => x.dst
      | none => i := by rw [List.map_map]; rfl
    rw [h1, h, List.map_map]
    rfl
  rw [e]
  exact hn

theorem one_end {i : Int} : ∀ {P : List (List Ed)}, (P.map (wEnd i)).Nodup → ∀ v ∈ P, ∀ u ∈ P, wEnd i v = wEnd i u → v = u
  | [], _, v, hv, _, _, _ => by cases hv
  | x :: P, h, v, hv, u, hu, e => by
    rw [List.map_cons, List.nodup_cons] at h
    rcases List.mem_cons.1 hv with e1 | h1
    · rcases List.mem_cons.1 hu with e2 | h2
      · rw [e1, e2]
      · exact absurd (List.mem_map.2 ⟨u, h2, by rw [← e, e1]⟩) h.1
    · rcases List.mem_cons.1 hu with e2 | h2
      · exact absurd (List.mem_map.2 ⟨v, h1, by rw [e, e2]⟩) h.1
      · exact one_end h.2 v h1 u h2 e

/-- Where the ways of so many edges first come to an end: it is the walk's way. -/
theorem lev_first {E : List Ed} (hE : E.Pairwise fun y x => y.id < x.id) (kind : ByteArray) (i tgt : Int) (v : List Ed) (hv : v ∈ waysP E kind i) (he : wEnd i v = tgt) :
    (∀ n, 0 < n → n < v.length → ∀ w ∈ levW (wayF E kind) i n, wEnd i w ≠ tgt) ∧ (levW (wayF E kind) i v.length).find? (fun w => wEnd i w == tgt) = some v ∧ 0 < v.length := by
  obtain ⟨hok, hsim⟩ := ways_ok hE kind i
  have hr : ∀ j, (wayF E kind j).Pairwise fun y x => y.id < x.id := fun j => hE.filter _
  have hon := walk_once (wayF E kind) (E.length + 2) (st0 i) ⟨fun x hx => (by cases hx), .nil⟩
  have hends := ends_once (W := wayF E kind) (i := i) hsim hon
  have hpos : 0 < v.length := by
    obtain ⟨u, y, rfl, _⟩ := hok.from' v hv
    simp
  have hmin : ∀ w, Wlk (wayF E kind) i w → w ≠ [] → wEnd i w = tgt → sle v w := fun w hw hne hwe => by
    obtain ⟨u, hu, e1, e2⟩ := hok.least w hw hne
    have : u = v := one_end hends u hu v hv (by rw [e1, hwe, he])
    rw [← this]
    exact e2
  refine ⟨fun n hn hlt w hw hwe => ?_, ?_, hpos⟩
  · obtain ⟨_, h2, _⟩ := lev_ok hr i n
    obtain ⟨g1, g2⟩ := h2 w hw
    have h3 := sle_len (hmin w g1 (by intro e; rw [e] at g2; simp at g2; omega) hwe)
    omega
  · obtain ⟨h1, h2, h3⟩ := lev_ok hr i v.length
    obtain ⟨w, hw, e1, e2⟩ := h3 v (hok.wlk v hv) rfl
    cases hf : (levW (wayF E kind) i v.length).find? (fun w => wEnd i w == tgt) with
    | none =>
      have := List.find?_eq_none.1 hf w hw
      simp [e1, he] at this
    | some w0 =>
      obtain ⟨hp, as1, bs1, hsplit, hno⟩ := List.find?_eq_some_iff_append.1 hf
      have hw0e : wEnd i w0 = tgt := by simpa using hp
      have hw0 : w0 ∈ levW (wayF E kind) i v.length := by rw [hsplit]; simp
      obtain ⟨g1, g2⟩ := h2 w0 hw0
      have h4 := hmin w0 g1 (by intro e; rw [e] at g2; simp at g2; omega) hw0e
      have h5 : sle w0 w := by
        rw [hsplit] at hw h1
        rw [List.pairwise_append, List.pairwise_cons] at h1
        rcases List.mem_append.1 hw with hw | hw
        · have := hno w hw
          simp [e1, he] at this
        · rcases List.mem_cons.1 hw with rfl | hw
          · exact .inr rfl
          · exact .inl (h1.2.1.1 w hw)
      rw [sle_anti h4 (sle_trans h5 e2)]

set_option linter.unusedSimpArgs false

theorem last_one : ∀ (l : List Ed), (l.map (·.dst)).Nodup → ∀ y ∈ l, lastF l y.dst = some (edV y)
  | [], _, y, hy => by cases hy
  | x :: l, h, y, hy => by
    rw [List.map_cons, List.nodup_cons] at h
    unfold lastF
    rcases List.mem_cons.1 hy with e | hy
    · subst e
      have hn : lastF l y.dst = none := by
        have : ∀ (l : List Ed) (d : Int), d ∉ l.map (·.dst) → lastF l d = none := fun l d => by
          induction l with
          | nil => intro _; rfl
          | cons x l ih =>
            intro hd
            rw [List.map_cons, List.mem_cons, not_or] at hd
            unfold lastF
            rw [ih hd.2]
            simp [hd.1]
        exact this l y.dst h.1
      rw [hn]
      simp
    · rw [last_one l h.2 y hy]

/-- A way goes back, edge by edge. -/
theorem way_chain {E : List Ed} (hE : E.Pairwise fun y x => y.id < x.id) (kind : ByteArray) (i : Int) : ∀ (n : Nat) (v : List Ed), v.length = n → v ∈ waysP E kind i → ∃ c C, v.reverse = c :: C ∧ c.dst = wEnd i v ∧ lastF (walkF (wayF E kind) (E.length + 2) (st0 i)) (wEnd i v) = some (edV c) ∧ Chain (lastF (walkF (wayF E kind) (E.length + 2) (st0 i))) i (c :: C) := by
  obtain ⟨hok, hsim⟩ := ways_ok hE kind i
  have hon := walk_once (wayF E kind) (E.length + 2) (st0 i) ⟨fun x hx => (by cases hx), .nil⟩
  intro n
  induction n with
  | zero =>
    intro v hl hv
    obtain ⟨u, y, e, _⟩ := hok.from' v hv
    rw [e] at hl
    simp at hl
  | succ n ih =>
    intro v hl hv
    have hw := hok.wlk v hv
    obtain ⟨u, y, e, hu, hne⟩ := hok.from' v hv
    subst e
    have hy : y ∈ walkF (wayF E kind) (E.length + 2) (st0 i) := by
      have h1 : (u ++ [y]).getLast? ∈ (waysP E kind i).map (·.getLast?) := List.mem_map.2 ⟨_, hv, rfl⟩
      rw [hsim] at h1
      obtain ⟨z, hz, e⟩ := List.mem_map.1 h1
      have : z = y := by simpa using e
      rw [← this]
      exact hz
    have hlast := last_one _ hon y hy
    have hfrm : y.frm = wEnd i u := by
      generalize hv2 : u ++ [y] = v2 at hw
      cases hw with
      | nil => simp at hv2
      | snoc w x hw2 hx =>
        have h3 := List.append_inj' hv2 rfl
        obtain ⟨rfl, h4⟩ := h3
        have : y = x := by simpa using h4
        subst this
        have := (List.mem_filter.1 hx).2
        simp only [Bool.and_eq_true, decide_eq_true_eq] at this
        exact this.1
    rw [wEnd_snoc]
    refine ⟨y, u.reverse, by simp, rfl, hlast, ?_⟩
    rcases List.mem_cons.1 hu with rfl | hup
    · show y.frm = i
      rw [hfrm]
      rfl
    · obtain ⟨c, C, e1, e2, e3, e4⟩ := ih u (by simpa using hl) hup
      have hni : wEnd i u ≠ i := by
        rcases hne with h | h
        · subst h
          simp at e1
        · exact h
      rw [e1]
      exact ⟨by rw [hfrm]; exact hni, by rw [hfrm]; exact e3, e4⟩

set_option linter.unusedSimpArgs false

/-- Reached by one edge or more. -/
inductive Rch (W : Int → List Ed) (i : Int) : Int → Prop
  | one (x : Ed) : x ∈ W i → Rch W i x.dst
  | step (j : Int) (x : Ed) : Rch W i j → x ∈ W j → Rch W i x.dst

/-- What holds of a walk from i. -/
structure WInv (W : Int → List Ed) (i : Int) (P : Int → Prop) (s : WkSt) : Prop where
  told : ∀ d, 0 < s.seen d ↔ d ∈ s.out.map (·.dst)
  sound : ∀ d, 0 < s.seen d → Rch W i d
  opn : ∀ j ∈ s.op, j = i ∨ 0 < s.seen j
  shut : ∀ j, P j → ∀ x ∈ W j, 0 < s.seen x.dst
  all : ∀ d, 0 < s.seen d → P d ∨ d ∈ s.op
  frm : P i ∨ i ∈ s.op

theorem vis_pos (s : WkSt) (x : Ed) (d : Int) : 0 < (visF s x).seen d ↔ 0 < s.seen d ∨ d = x.dst := by
  show 0 < (if d = x.dst then s.seen d + 1 else s.seen d) ↔ _
  by_cases h : d = x.dst
  · simp [h]
  · simp [h]

/-- One edge of a node j that is being gone through. -/
theorem WInv.vis {W : Int → List Ed} {i : Int} {P : Int → Prop} {s : WkSt} (h : WInv W i P s) {x : Ed} (hx : Rch W i x.dst) : WInv W i P (visF s x) := by
  refine ⟨fun d => ?_, fun d hd => ?_, fun j hj => ?_, fun j hj y hy => ?_, fun d hd => ?_, ?_⟩
  · rw [vis_pos]
    by_cases h0 : s.seen x.dst = 0
    · have e : (visF s x).out = s.out ++ [x] := by simp [visF, h0]
      rw [e, List.map_append, List.mem_append, h.told d]
      simp
    · have e : (visF s x).out = s.out := by simp [visF, h0]
      rw [e, ← h.told d]
      constructor
      · rintro (h1 | rfl)
        · exact h1
        · omega
      · exact .inl
  · rcases (vis_pos s x d).1 hd with h1 | rfl
    · exact h.sound d h1
    · exact hx
  · by_cases h0 : s.seen x.dst = 0
    · have e : (visF s x).op = s.op ++ [x.dst] := by simp [visF, h0]
      rw [e] at hj
      rcases List.mem_append.1 hj with hj | hj
      · rcases h.opn j hj with h1 | h1
        · exact .inl h1
        · exact .inr ((vis_pos s x j).2 (.inl h1))
      · simp at hj
        exact .inr ((vis_pos s x j).2 (.inr hj))
    · have e : (visF s x).op = s.op := by simp [visF, h0]
      rw [e] at hj
      rcases h.opn j hj with h1 | h1
      · exact .inl h1
      · exact .inr ((vis_pos s x j).2 (.inl h1))
  · exact (vis_pos s x _).2 (.inl (h.shut j hj y hy))
  · have hsub : ∀ q, q ∈ s.op → q ∈ (visF s x).op := fun q hq => by
      show q ∈ (if s.seen x.dst = 0 then s.op ++ [x.dst] else s.op)
      split
      · exact List.mem_append_left _ hq
      · exact hq
    rcases (vis_pos s x d).1 hd with h1 | rfl
    · rcases h.all d h1 with h2 | h2
      · exact .inl h2
      · exact .inr (hsub d h2)
    · by_cases h0 : s.seen x.dst = 0
      · refine .inr ?_
        show x.dst ∈ (if s.seen x.dst = 0 then s.op ++ [x.dst] else s.op)
        rw [if_pos h0]
        simp
      · rcases h.all x.dst (by omega) with h2 | h2
        · exact .inl h2
        · exact .inr (hsub _ h2)
  · rcases h.frm with h1 | h1
    · exact .inl h1
    · refine .inr ?_
      show i ∈ (if s.seen x.dst = 0 then s.op ++ [x.dst] else s.op)
      split
      · exact List.mem_append_left _ h1
      · exact h1

theorem WInv.fold {W : Int → List Ed} {i : Int} {P : Int → Prop} : ∀ (l : List Ed) {s : WkSt}, WInv W i P s → (∀ x ∈ l, Rch W i x.dst) → WInv W i P (l.foldl visF s) ∧ ∀ x ∈ l, 0 < (l.foldl visF s).seen x.dst
  | [], s, h, _ => ⟨h, fun x hx => by cases hx⟩
  | x :: l, s, h, hl => by
    rw [List.foldl_cons]
    obtain ⟨h1, h2⟩ := WInv.fold l (h.vis (hl x (List.mem_cons_self ..))) (fun y hy => hl y (List.mem_cons_of_mem _ hy))
    refine ⟨h1, fun y hy => ?_⟩
    rcases List.mem_cons.1 hy with rfl | hy
    · have mono : ∀ (m : List Ed) (t : WkSt) (d : Int), 0 < t.seen d → 0 < (m.foldl visF t).seen d := by
        intro m
        induction m with
        | nil => intro t d hd; exact hd
        | cons z m ih => intro t d hd; rw [List.foldl_cons]; exact ih _ d ((vis_pos t z d).2 (.inl hd))
      exact mono l _ _ ((vis_pos s y _).2 (.inr rfl))
    · exact h2 y hy

theorem walk_reach {E : List Ed} {W : Int → List Ed} (hW : ∀ i x, x ∈ W i → x ∈ E) (i : Int) : ∀ (f : Nat) (s : WkSt) (P : Int → Prop), muS E s < f → WInv W i P s → ∀ d, d ∈ (walkF W f s).map (·.dst) ↔ Rch W i d
  | 0, s, P, hf, _ => by omega
  | f + 1, s, P, hf, h => by
    intro d
    cases hop : s.op with
    | nil =>
      rw [walk_nil hop]
      rw [← h.told d]
      constructor
      · exact h.sound d
      · intro hd
        have pi : P i := by
          rcases h.frm with h1 | h1
          · exact h1
          · rw [hop] at h1; cases h1
        induction hd with
        | one x hx => exact h.shut i pi x hx
        | step j x _ hx ih =>
          rcases h.all j ih with h1 | h1
          · exact h.shut j h1 x hx
          · rw [hop] at h1; cases h1
    | cons j r =>
      rw [walk_cons hop]
      have hj : j = i ∨ 0 < s.seen j := h.opn j (by rw [hop]; exact List.mem_cons_self ..)
      have hr : ∀ x ∈ W j, Rch W i x.dst := fun x hx => by
        rcases hj with rfl | hj
        · exact .one x hx
        · exact .step j x (h.sound j hj) hx
      have base : WInv W i P ⟨j :: r, s.seen, s.out⟩ := ⟨h.told, h.sound, fun q hq => h.opn q (by rw [hop]; exact hq), h.shut, fun q hq => by rw [← hop]; exact h.all q hq, by rw [← hop]; exact h.frm⟩
      obtain ⟨g1, g2⟩ := WInv.fold (W j) base hr
      have same : ∀ (l : List Ed) (q : List Int) (t : Int → Nat) (o : List Ed), (l.foldl visF ⟨j :: q, t, o⟩).op = j :: (l.foldl visF ⟨q, t, o⟩).op ∧ (l.foldl visF ⟨j :: q, t, o⟩).seen = (l.foldl visF ⟨q, t, o⟩).seen ∧ (l.foldl visF ⟨j :: q, t, o⟩).out = (l.foldl visF ⟨q, t, o⟩).out := by
        intro l
        induction l with
        | nil => intro q t o; exact ⟨rfl, rfl, rfl⟩
        | cons y l ih =>
          intro q t o
          rw [List.foldl_cons, List.foldl_cons]
          by_cases hy : t y.dst = 0
          · have e1 : visF ⟨j :: q, t, o⟩ y = ⟨j :: (q ++ [y.dst]), fun k => if k = y.dst then t k + 1 else t k, o ++ [y]⟩ := by simp [visF, hy]
            have e2 : visF ⟨q, t, o⟩ y = ⟨q ++ [y.dst], fun k => if k = y.dst then t k + 1 else t k, o ++ [y]⟩ := by simp [visF, hy]
            rw [e1, e2]
            exact ih _ _ _
          · have e1 : visF ⟨j :: q, t, o⟩ y = ⟨j :: q, fun k => if k = y.dst then t k + 1 else t k, o⟩ := by simp [visF, hy]
            have e2 : visF ⟨q, t, o⟩ y = ⟨q, fun k => if k = y.dst then t k + 1 else t k, o⟩ := by simp [visF, hy]
            rw [e1, e2]
            exact ih _ _ _
      obtain ⟨s1, s2, s3⟩ := same (W j) r s.seen s.out
      have next : WInv W i (fun q => P q ∨ q = j) ((W j).foldl visF ⟨r, s.seen, s.out⟩) := by
        refine ⟨fun q => by rw [← s2, ← s3]; exact g1.told q, fun q hq => g1.sound q (by rw [s2]; exact hq), fun q hq => ?_, fun q hq y hy => ?_, fun q hq => ?_, ?_⟩
        · rcases g1.opn q (by rw [s1]; exact List.mem_cons_of_mem _ hq) with h1 | h1
          · exact .inl h1
          · exact .inr (by rw [← s2]; exact h1)
        · rw [← s2]
          rcases hq with hq | rfl
          · exact g1.shut q hq y hy
          · exact g2 y hy
        · rcases g1.all q (by rw [s2]; exact hq) with h1 | h1
          · exact .inl (.inl h1)
          · rw [s1] at h1
            rcases List.mem_cons.1 h1 with rfl | h1
            · exact .inl (.inr rfl)
            · exact .inr h1
        · rcases g1.frm with h1 | h1
          · exact .inl (.inl h1)
          · rw [s1] at h1
            rcases List.mem_cons.1 h1 with h1 | h1
            · exact .inl (.inr h1)
            · exact .inr h1
      refine walk_reach hW i f _ _ ?_ next d
      have m1 := (fold_all (E := E) (W j) ⟨r, s.seen, s.out⟩ (hW j)).1
      have m2 : muS E s = (j :: r).length + unseen E s := by unfold muS; rw [hop]
      have m3 : muS E ⟨r, s.seen, s.out⟩ = r.length + unseen E s := rfl
      rw [List.length_cons] at m2
      omega

/-- The pairs that are told are those of which the one reaches the other. -/
theorem walk_told {E : List Ed} {W : Int → List Ed} (hW : ∀ i x, x ∈ W i → x ∈ E) (i d : Int) : d ∈ (walkF W (E.length + 2) (st0 i)).map (·.dst) ↔ Rch W i d := by
  refine walk_reach hW i (E.length + 2) (st0 i) (fun _ => False) ?_ ⟨fun q => ?_, fun q hq => ?_, fun q hq => ?_, fun q hq => hq.elim, fun q hq => ?_, .inr (List.mem_singleton.2 rfl)⟩ d
  · have := unseen_le E (st0 i)
    show 1 + unseen E (st0 i) < _
    omega
  · show 0 < 0 ↔ q ∈ ([] : List Ed).map (·.dst)
    simp
  · exact absurd hq (Nat.lt_irrefl _)
  · exact .inl (List.mem_singleton.1 hq)
  · exact absurd hq (Nat.lt_irrefl _)
end Go.Proofs.YtpjbjpickpiglaaGreatDoor
