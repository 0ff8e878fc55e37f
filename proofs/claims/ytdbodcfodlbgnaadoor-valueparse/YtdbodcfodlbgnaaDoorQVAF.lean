/-
  What is proved here: what the texts XRTree, XRNum, XRText, XRText2 prove, in one text.
-/
import Derived.Test.YtdbodcfodlbgnaaDoorQVAC
import Derived.Test.YtdbodcfodlbgnaaDoorQVAE
import Derived.Deep.RegionHeld3
import Derived.Deep.AppendLies
import Derived.Test.YtdbodcfodlbgnaaDoorRows
import Derived.WalkKit
import Derived.ProofKit
import Derived.Below
import Derived.Deep.LoopGhost
import Derived.Deep.Draws
import Derived.WalkLawsBesides
import Derived.Deep.QuietTactic
import Derived.BigQuiet
import Derived.Shelf.Unicode.DecodeSlow
import Derived.Deep.RegionWith
import Derived.Lib.FrozenHead
import Derived.Defers
import Derived.Recover
import Derived.Maps.AppendAt
import Derived.OwnWalk
import Derived.Lib.AppendStr
import Derived.ChangeArms
import Derived.Lib.SmallJoins
import Derived.Deep.DeepFit
import Derived.Lib.BytesEntry
import Derived.Lib.ConvBytes
import Derived.Test.YtdbodcfodlbgnaaDoorQVAA
import Derived.Lib.AtoiAllCases
import Derived.Lib.ValidLaws
import Derived.Lib.TrimUEq
import Derived.Test.YtdbodcfodlbgnaaDoorShelf
namespace Go.Proofs.YtdbodcfodlbgnaaDoor
open Go.RowKit
set_option linter.unusedVariables false

mutual
/-- A value lies at four cells; its lists lie in blocks that A allows. -/
def LieT (A : Nat → Prop) (w : World) : T → Nat → Nat → Prop
  | .node k n s L, b, off => s.size ≤ 9223372036854775807 ∧ ∃ a l c, w.cell? ⟨b, off, none⟩ = some (.int .i64 k) ∧ w.cell? ⟨b, off + 1, none⟩ = some (.int .i64 n) ∧ w.cell? ⟨b, off + 1 + 1, none⟩ = some (.string s) ∧ w.cell? ⟨b, off + 1 + 1 + 1, none⟩ = some (.slice a l c) ∧ l ≤ c ∧ LieA A w L a l
/-- A list lies where a slice says, in blocks that A allows. -/
def LieA (A : Nat → Prop) (w : World) : List T → Option Addr → Nat → Prop
  | [], _, l => l = 0
  | t :: ts, a, l => ∃ b off, a = some ⟨b, off, none⟩ ∧ l = ts.length + 1 ∧ l ≤ 9223372036854775807 ∧ A b ∧ b < w.heap.size ∧ LieT A w t b off ∧ LieA A w ts (some ⟨b, off + 4, none⟩) ts.length
end

mutual
theorem LieT.lies {A : Nat → Prop} {w : World} : ∀ (t : T) (b off : Nat), LieT A w t b off → LiesT w t b off
  | .node k n s L, b, off, h => by
    unfold LieT at h
    unfold LiesT
    obtain ⟨hs, a, l, c, h0, h1, h2, h3, h4, hL⟩ := h
    exact ⟨hs, a, l, c, h0, h1, h2, h3, h4, LieA.lies L a l hL⟩
theorem LieA.lies {A : Nat → Prop} {w : World} : ∀ (L : List T) (a : Option Addr) (l : Nat), LieA A w L a l → LiesS w L a l
  | [], _, _, h => by unfold LieA at h; unfold LiesS; exact h
  | t :: ts, a, l, h => by
    unfold LieA at h
    unfold LiesS
    obtain ⟨b, off, h1, h2, h3, _, h4, h5, h6⟩ := h
    exact ⟨b, off, h1, h2, h3, h4, LieT.lies t b off h5, LieA.lies ts _ _ h6⟩
end

mutual
theorem LieT.kept {A A' : Nat → Prop} {w w' : World} (hz : w.heap.size ≤ w'.heap.size) (k : ∀ i, A i → i < w.heap.size → A' i ∧ w'.heap[i]? = w.heap[i]?) : ∀ (t : T) (b off : Nat), A b → b < w.heap.size → LieT A w t b off → LieT A' w' t b off
  | .node kk n s L, b, off, hN, hb, h => by
    unfold LieT at h ⊢
    obtain ⟨hs, a, l, c, h0, h1, h2, h3, h4, hL⟩ := h
    have e : ∀ o, w'.cell? ⟨b, o, none⟩ = w.cell? ⟨b, o, none⟩ := fun o => World.cell?_of_block (a := ⟨b, o, none⟩) (k b hN hb).2
    exact ⟨hs, a, l, c, (e _).trans h0, (e _).trans h1, (e _).trans h2, (e _).trans h3, h4, LieA.kept hz k L a l hL⟩
theorem LieA.kept {A A' : Nat → Prop} {w w' : World} (hz : w.heap.size ≤ w'.heap.size) (k : ∀ i, A i → i < w.heap.size → A' i ∧ w'.heap[i]? = w.heap[i]?) : ∀ (L : List T) (a : Option Addr) (l : Nat), LieA A w L a l → LieA A' w' L a l
  | [], _, _, h => by unfold LieA at h ⊢; exact h
  | t :: ts, a, l, h => by
    unfold LieA at h ⊢
    obtain ⟨b, off, h1, h2, h3, h4, h5, h6, h7⟩ := h
    exact ⟨b, off, h1, h2, h3, (k b h4 h5).1, by omega, LieT.kept hz k t b off h4 h5 h6, LieA.kept hz k ts _ _ h7⟩
end

/-- A value that was read: what it is, and the slice of its list. -/
structure Got where
  k : Int
  n : Int
  s : ByteArray
  L : List T
  a : Option Addr
  l : Nat
  c : Nat

def Got.cells (x : Got) : List Value := [.int .i64 x.k, .int .i64 x.n, .string x.s, .slice x.a x.l x.c]

def Got.tree (x : Got) : T := .node x.k x.n x.s x.L

def Got.ok (A : Nat → Prop) (w : World) (x : Got) : Prop := x.s.size ≤ 9223372036854775807 ∧ x.l ≤ x.c ∧ LieA A w x.L x.a x.l

theorem Got.ok.kept {A A' : Nat → Prop} {w w' : World} {x : Got} (h : x.ok A w) (hz : w.heap.size ≤ w'.heap.size) (k : ∀ i, A i → i < w.heap.size → A' i ∧ w'.heap[i]? = w.heap[i]?) : x.ok A' w' := ⟨h.1, h.2.1, LieA.kept hz k _ _ _ h.2.2⟩

def rowG (l : List Got) : List Value := (l.map Got.cells).flatten

theorem rowG_snoc (l : List Got) (x : Got) : rowG (l ++ [x]) = rowG l ++ x.cells := by simp [rowG]

/-- At the place p the value t is read, and q is the place behind it. -/
def ReadOk (text : ByteArray) (p : Nat) (lists : Int) (t : T) (q : Nat) : Prop :=
  ∀ (B r : Nat) (w : World), Rd r text p w → B ≤ r → Tabs B w → Pow10 B w → Calls Tryd.prog 19 #[.pointer (some ⟨r, 0, none⟩), .int .i64 lists] w fun e w' => ∃ x : Got, x.tree = t ∧ e = .returned (.agg #[.int .i64 x.k, .int .i64 x.n, .string x.s, .slice x.a x.l x.c]) ∧ x.ok (fun i => w.heap.size ≤ i) w' ∧ Moved r text q w w'

/-- Values with commas between, and a bracket behind. -/
def Reads (text : ByteArray) (lists : Int) : Nat → List T → Nat → Prop
  | _, [], _ => False
  | p, t :: l, q => ∃ e, ReadOk text p lists t e ∧ e + 1 ≤ text.size ∧ ((l = [] ∧ begins text e ⟨#[93]⟩ = true ∧ q = e + 1) ∨ (begins text e ⟨#[93]⟩ = false ∧ begins text e ⟨#[44]⟩ = true ∧ Reads text lists (e + 1) l q))

/-- A row of what was read is a list that lies in memory. -/
theorem row_lies {A : Nat → Prop} {w : World} {g : Nat} (hN : A g) (hg : g < w.heap.size) : ∀ (l : List Got) (off : Nat), (∀ x ∈ l, x.ok A w) → (∀ j u, (rowG l)[j]? = some u → w.cell? ⟨g, off + j, none⟩ = some u) → l.length ≤ 9223372036854775807 → LieA A w (l.map Got.tree) (some ⟨g, off, none⟩) l.length
  | [], off, _, _, _ => by unfold LieA; rfl
  | x :: l, off, hok, hc, hl => by
    have e : rowG (x :: l) = x.cells ++ rowG l := rfl
    have ok := hok x (List.mem_cons_self ..)
    simp only [List.map_cons]
    unfold LieA
    refine ⟨g, off, rfl, by simp, hl, hN, hg, ?_, ?_⟩
    · show LieT A w (.node x.k x.n x.s x.L) g off
      unfold LieT
      refine ⟨ok.1, x.a, x.l, x.c, ?_, ?_, ?_, ?_, ok.2.1, ok.2.2⟩
      · exact hc 0 _ (by rw [e]; rfl)
      · exact hc 1 _ (by rw [e]; rfl)
      · exact hc 2 _ (by rw [e]; rfl)
      · exact hc 3 _ (by rw [e]; rfl)
    · have := row_lies hN hg l (off + 4) (fun y hy => hok y (List.mem_cons_of_mem _ hy)) (fun j u hj => by
        have := hc (j + 4) u (by rw [e]; simpa [Got.cells] using hj)
        rw [show off + 4 + j = off + (j + 4) from by omega]
        exact this) (by simp at hl; omega)
      simpa using this

theorem put4_other (w : World) (b : Nat) (v0 v1 v2 v3 : Value) : ∀ i, i ≠ b → i < w.heap.size → (put4 w b v0 v1 v2 v3).heap[i]? = w.heap[i]? := fun i hi _ => by
  simp [put4, World.setCell, Array.getElem?_modify, Ne.symm hi]

set_option maxHeartbeats 4000000 in
set_option maxRecDepth 100000 in
theorem list_reads (B r p q : Nat) (text : ByteArray) (lists : Int) (ts : List T) (w : World) (h : Rd r text p w) (ht : text.size ≤ 4000) (hp : p ≤ text.size) (hB : B ≤ r) (hT : Tabs B w) (hP : Pow10 B w)
    (hl : Reads text lists p ts q) (hll : ts.length ≤ 4000) (hf : begins text p ⟨#[93]⟩ = false) :
    Calls Tryd.prog 34 #[.pointer (some ⟨r, 0, none⟩), .int .i64 lists] w fun e w' => ∃ a l c, e = .returned (.agg #[.int .i64 4, .int .i64 0, .string ⟨#[]⟩, .slice a l c]) ∧ l ≤ c ∧ LieA (fun i => w.heap.size ≤ i) w' ts a l ∧ Moved r text q w w' := by
  have hr := h.lt
  have HL := toHid hl
  have cT : Hid (∀ W, Rd r text p W → Calls Tryd.prog 31 #[.pointer (some ⟨r, 0, none⟩), .string ⟨#[93]⟩] W fun e w' => e = .returned (.bool false) ∧ Moved r text p W w') := fun W hW => take_any r p text ⟨#[93]⟩ W hW hp ht (by decide) false hf
  clear hl hf
  go_enter Tryd.func34, Tryd.ntmps34
  go_wp2_with fail
  have hb0 : Below (w.heap.size + 1) (w.alloc (.cells #[.int .i64 0, .int .i64 0, .string ⟨#[]⟩, .slice none 0 0] 24)) ((w.alloc (.cells #[.int .i64 0, .int .i64 0, .string ⟨#[]⟩, .slice none 0 0] 24)).alloc (.cells #[.int .i64 4, .int .i64 0, .string ⟨#[]⟩, .slice none 0 0] 24)) := (Below.refl _ _).alloc (by simp) _
  have hb1 : Below w.heap.size w ((w.alloc (.cells #[.int .i64 0, .int .i64 0, .string ⟨#[]⟩, .slice none 0 0] 24)).alloc (.cells #[.int .i64 4, .int .i64 0, .string ⟨#[]⟩, .slice none 0 0] 24)) := ((Below.refl _ _).alloc (Nat.le_refl _) _).alloc (by simp) _
  have hv0 := alloc_two w (.cells #[.int .i64 0, .int .i64 0, .string ⟨#[]⟩, .slice none 0 0] 24) (.cells #[.int .i64 4, .int .i64 0, .string ⟨#[]⟩, .slice none 0 0] 24)
  have hz0 : ((w.alloc (.cells #[.int .i64 0, .int .i64 0, .string ⟨#[]⟩, .slice none 0 0] 24)).alloc (.cells #[.int .i64 4, .int .i64 0, .string ⟨#[]⟩, .slice none 0 0] 24)).heap.size = w.heap.size + 2 := by simp
  refine (cT.out _ (Moved.of_below h hb1).here).mono ?_
  generalize (w.alloc (.cells #[.int .i64 0, .int .i64 0, .string ⟨#[]⟩, .slice none 0 0] 24)).alloc (.cells #[.int .i64 4, .int .i64 0, .string ⟨#[]⟩, .slice none 0 0] 24) = W0 at hb0 hb1 hv0 hz0 ⊢
  rintro e w1 ⟨rfl, m1⟩
  have hm1 : MovedTo (w.heap.size + 1) r text p (w.alloc (.cells #[.int .i64 0, .int .i64 0, .string ⟨#[]⟩, .slice none 0 0] 24)) w1 := ⟨m1.os.trans hb0.os, m1.tape.trans hb0.tape, m1.output.trans hb0.output, Nat.le_trans hb0.size m1.size, fun k hk hn => (m1.block k (by omega) hn).trans (hb0.block k hk), m1.here⟩
  have hs1 : w.heap.size + 2 ≤ w1.heap.size := by have := m1.size; omega
  have hv1 : w1.heap[w.heap.size + 1]? = some (.cells #[.int .i64 4, .int .i64 0, .string ⟨#[]⟩, .slice none 0 0] 24 (0, 0)) := by rw [m1.block _ (by omega) (by omega)]; exact hv0
  obtain ⟨i0, hi0, hiz, his, hib⟩ := info_value
  have HI0 := toHid hi0
  have HIZ := toHid hiz
  have HIS := toHid his
  have HIB := toHid hib
  have HV1 := toHid hv1
  clear hi0 hiz his hib hv1 hv0 hb0 hb1 hz0 m1 cT
  go_wp2_with fail
  go_loopg [10] ts.length (fun g s10 wr => ∃ (dn : List Got) (rest : List T) (p' : Nat) (ov : Value), ts = dn.map Got.tree ++ rest ∧ rest.length ≤ g ∧ Reads text lists p' rest q ∧ w.heap.size + 2 ≤ wr.heap.size ∧ MovedTo (w.heap.size + 1) r text p' (w.alloc (.cells #[.int .i64 0, .int .i64 0, .string ⟨#[]⟩, .slice none 0 0] 24)) wr ∧ wr.heap[w.heap.size + 1]? = some (.cells #[.int .i64 4, .int .i64 0, .string ⟨#[]⟩, ov] 24 (0, 0)) ∧ wr.ownsRow (w.heap.size + 2) 24 4 ov dn.length (rowG dn) ∧ (∀ x ∈ dn, x.ok (fun i => w.heap.size + 2 ≤ i ∧ ov.ownBlock ≠ some i) wr))
  case atStart => exact ⟨[], ts, p, .slice none 0 0, rfl, Nat.le_refl _, HL.out, hs1, hm1, HV1.out, ⟨rfl, .inl ⟨rfl, rfl⟩⟩, fun x hx => by cases hx⟩
  case round =>
    clear hm1 hs1 HV1 HL h
    obtain ⟨dn, rest, p', ov, hdr, hg, hit, hs, hm, hv, hown, hgot⟩ := hrel
    have HGOT := toHid hgot
    clear hgot
    have HDR := toHid hdr
    have HV := toHid hv
    have c3 := cell_of hv 3
    simp at c3
    have HT : Hid (Tabs B wr) := hT.below ⟨hm.os, hm.tape, hm.output, by omega, fun k hk => (hm.block k (by omega) (by omega)).trans (Below.heap_alloc _ _ _ (by omega))⟩
    have HP : Hid (Pow10 B wr) := hP.below ⟨hm.os, hm.tape, hm.output, by omega, fun k hk => (hm.block k (by omega) (by omega)).trans (Below.heap_alloc _ _ _ (by omega))⟩
    clear hdr hv
    cases rest with
    | nil => exact hit.elim
    | cons tx rest =>
      obtain ⟨pe, g1, g2, g3⟩ := hit
      have G1 := toHid g1
      have G3 := toHid g3
      clear g1 g3
      go_wp2_with fail
      have hr' : Rd r text p' wr.drew := hm.here
      have hT' : Tabs B wr.drew := HT.out.below (Below.refl _ _).drew
      have hP' : Pow10 B wr.drew := HP.out.below (Below.refl _ _).drew
      have HB : (dn.length + 1) * 56 ≤ 140737488355328 := by
        have e : ts.length = dn.length + (rest.length + 1) := by rw [HDR.out]; simp
        omega
      have HB2 : dn.length + 1 ≤ maxLen := by unfold maxLen; omega
      go_region_law (first
        | (refine step_append_lies _ (by rfl) _ _ _ (by rfl) (w.heap.size + 2) 24 i0 _ 4 56 Tryd.underlying22 HI0.out HIZ.out HIS.out HIB.out rfl (by omega) ov dn.length (rowG dn) (by rfl) (hown2.alloc _) ⟨w2.heap.size, 0, none⟩ 1 1 x.cells (by rfl) (by rfl) (World.news_of_block (cs := #[.int .i64 x.k, .int .i64 x.n, .string x.s, .slice x.a x.l x.c]) (t := 24) (fr := (0, 0)) (alloc_new w2 _)) (by simp [Got.cells, Value.oneCell']) (by omega) HB2 HB (by simp; omega) (w2.heap.size + 1) (by simp) ?_; intro gg cap w3 hown3 hgrow hat hlt
           have hs3 : w2.heap.size + 1 ≤ w3.heap.size := by have := hgrow.size; simpa using this
           have hv3 : w3.heap[w.heap.size + 1]? = some (.cells #[.int .i64 4, .int .i64 0, .string ⟨#[]⟩, ov] 24 (0, 0)) := by
             rw [hgrow.block _ (by simp; omega) (fun e => by have := row_block hown2 _ e.symm; omega), Below.heap_alloc _ _ _ (by omega), m2.block _ (by show w.heap.size + 1 < wr.heap.size; omega) (by omega)]
             exact HV.out
           have d3 : w3.cell? ⟨w.heap.size + 1, 3, none⟩ = some ov := cell_of hv3 3
           have f3 := free_of hv3 3
           have HV3 := toHid hv3
           clear hv3)
        | (go_simp
           go_at_call 19
           refine (G1.out B r _ hr' hB hT' hP').mono ?_
           rintro e w2 ⟨x, hxt, rfl, hxo, m2⟩
           have c3' : w2.cell? ⟨w.heap.size + 1, 3, none⟩ = some ov := by rw [m2.cell (by show w.heap.size + 1 < wr.heap.size; omega) (by show w.heap.size + 1 ≠ r; omega)]; exact c3
           have hs2 : wr.heap.size ≤ w2.heap.size := m2.size
           have c3'' : ∀ o, (w2.alloc o).cell? ⟨w.heap.size + 1, 3, none⟩ = some ov := fun o => by rw [cell_past _ _ _ _ (by omega)]; exact c3'
           have hown2 : w2.ownsRow (w.heap.size + 2) 24 4 ov dn.length (rowG dn) := row_kept hown (fun k hk hk' => m2.block k hk' (by omega))))
      all_goals
        have hv4 : (w3.setCell ⟨w.heap.size + 1, 3, none⟩ (.slice (some ⟨gg, 0, none⟩) (dn.length + 1) cap)).heap[w.heap.size + 1]? = some (.cells #[.int .i64 4, .int .i64 0, .string ⟨#[]⟩, .slice (some ⟨gg, 0, none⟩) (dn.length + 1) cap] 24 (0, 0)) := by
          have := HV3.out
          simp [World.setCell, Array.getElem?_modify, this]
        have m2' : Moved r text pe wr w2 := ⟨m2.os, m2.tape, m2.output, m2.size, m2.block, m2.here⟩
        have hm2 := hm.moved m2' (by show w.heap.size + 1 ≤ wr.heap.size; omega)
        have hb3 : Below (w.heap.size + 2) w2 w3 := ((Below.refl _ _).alloc (by omega) _).grown hgrow (by simp; omega) (fun k hk => row_block hown2 k hk)
        have hb4 : Below (w.heap.size + 1) w2 w3 := hb3.mono (by omega)
        have hm4 := hm2.below (hb4.setCell (p := ⟨w.heap.size + 1, 3, none⟩) (Nat.le_refl _) (.slice (some ⟨gg, 0, none⟩) (dn.length + 1) cap)) (by omega)
        have hown4 := ownsRow_setCell_below hown3 (a := ⟨w.heap.size + 1, 3, none⟩) (by show w.heap.size + 1 < w.heap.size + 2; omega) (.slice (some ⟨gg, 0, none⟩) (dn.length + 1) cap)
        have hs4 : w.heap.size + 2 ≤ (w3.setCell ⟨w.heap.size + 1, 3, none⟩ (.slice (some ⟨gg, 0, none⟩) (dn.length + 1) cap)).heap.size := by simp [World.setCell]; omega
        rw [← rowG_snoc] at hown4
        have hrb : ∀ i, ov.ownBlock = some i → i < wr.heap.size := fun i hi => by
          rcases hown.2 with ⟨h0, _⟩ | ⟨g0, cap0, cur0, h0, _, h1, _⟩
          · rw [h0] at hi; simp [Value.ownBlock] at hi
          · rw [h0] at hi
            simp [Value.ownBlock] at hi
            subst hi
            exact (Array.getElem?_eq_some_iff.1 h1).1
        have hgg : ∀ i, i < w2.heap.size → ov.ownBlock ≠ some i → (Value.slice (some ⟨gg, 0, none⟩) (dn.length + 1) cap).ownBlock ≠ some i := fun i hi hne e => by
          simp [Value.ownBlock] at e
          rcases hat with h | h
          · rw [e] at h; exact hne h
          · omega
        have hset : ∀ i, w.heap.size + 2 ≤ i → i < w2.heap.size → ov.ownBlock ≠ some i → (w3.setCell ⟨w.heap.size + 1, 3, none⟩ (.slice (some ⟨gg, 0, none⟩) (dn.length + 1) cap)).heap[i]? = w2.heap[i]? := fun i hi hi2 hne => by
          have e1 : (w3.setCell ⟨w.heap.size + 1, 3, none⟩ (.slice (some ⟨gg, 0, none⟩) (dn.length + 1) cap)).heap[i]? = w3.heap[i]? := by
            have : ¬ w.heap.size + 1 = i := by omega
            simp [World.setCell, Array.getElem?_modify, this]
          rw [e1, hgrow.block i (by simp; omega) (fun e => hne e.symm), Below.heap_alloc _ _ _ hi2]
        have hsz4 : w2.heap.size ≤ (w3.setCell ⟨w.heap.size + 1, 3, none⟩ (.slice (some ⟨gg, 0, none⟩) (dn.length + 1) cap)).heap.size := by simp [World.setCell]; omega
        have got4 : ∀ y ∈ dn ++ [x], y.ok (fun i => w.heap.size + 2 ≤ i ∧ (Value.slice (some ⟨gg, 0, none⟩) (dn.length + 1) cap).ownBlock ≠ some i) (w3.setCell ⟨w.heap.size + 1, 3, none⟩ (.slice (some ⟨gg, 0, none⟩) (dn.length + 1) cap)) := by
          intro y hy
          rcases List.mem_append.1 hy with hy | hy
          · refine (HGOT.out y hy).kept (Nat.le_trans hs2 hsz4) (fun i hi hi2 => ⟨⟨hi.1, hgg i (by omega) hi.2⟩, (hset i hi.1 (by omega) hi.2).trans (m2.block i hi2 (by omega))⟩)
          · obtain rfl := List.mem_singleton.1 hy
            refine hxo.kept hsz4 (fun i hi hi2 => ?_)
            have h1 : wr.heap.size ≤ i := hi
            have h2 : ov.ownBlock ≠ some i := fun e => by have := hrb i e; omega
            exact ⟨⟨by omega, hgg i hi2 h2⟩, hset i (by omega) hi2 h2⟩
        have G4 := toHid got4
        clear got4 hset hgg hrb hsz4
        generalize w3.setCell ⟨w.heap.size + 1, 3, none⟩ (.slice (some ⟨gg, 0, none⟩) (dn.length + 1) cap) = W4 at hv4 hm4 hown4 hs4 G4 ⊢
        have HV4 := toHid hv4
        clear hv4 d3 f3 HV3 hown3 hgrow hat hlt hs3 c3' c3'' hown2 m2 m2' hm2 hb3 hb4 c3 hm HV hown hr' hT' hP' HT HP
        have hgp : (pe) ≤ text.size := by omega
        rcases G3.out with ⟨r1, r2, r3⟩ | ⟨r1, r2, r3⟩
        · have R1 := toHid r1
          have R3 := toHid r3
          have cT : Hid (Calls Tryd.prog 31 #[.pointer (some ⟨r, 0, none⟩), .string ⟨#[93]⟩] W4 fun e w' => e = .returned (.bool true) ∧ Moved r text (pe + 1) W4 w') := take_any r pe text ⟨#[93]⟩ W4 hm4.here hgp ht (by decide) true r2
          clear r1 r2 r3 G1 G3
          go_wp2_with fail
          refine cT.out.mono ?_
          rintro e w5 ⟨rfl, m5⟩
          have hm5 := hm4.moved m5 (by omega)
          have hs5 := m5.size
          have hv5 : w5.heap[w.heap.size + 1]? = some (.cells #[.int .i64 4, .int .i64 0, .string ⟨#[]⟩, .slice (some ⟨gg, 0, none⟩) (dn.length + 1) cap] 24 (0, 0)) := by rw [m5.block _ (by omega) (by omega)]; exact HV4.out
          have hown5 := row_kept hown4 (fun k hk hk' => m5.block k hk' (by omega))
          have hbox5 : w5.heap[w.heap.size]? = some (.cells #[.int .i64 0, .int .i64 0, .string ⟨#[]⟩, .slice none 0 0] 24 (0, 0)) := by
            rw [hm5.block _ (by omega) (by omega)]
            exact alloc_new _ _
          have x0 := cell_of hbox5 0
          have x1 := cell_of hbox5 1
          have x2 := cell_of hbox5 2
          have x3 := cell_of hbox5 3
          have y0 := free_of hbox5 0
          have y1 := free_of hbox5 1
          have y2 := free_of hbox5 2
          have y3 := free_of hbox5 3
          have z0 := cell_of hv5 0
          have z1 := cell_of hv5 1
          have z2 := cell_of hv5 2
          have z3 := cell_of hv5 3
          simp at x0 x1 x2 x3 z0 z1 z2 z3
          have K5 := toHid (fun i (hi : i < W4.heap.size) (hne : i ≠ r) => m5.block i hi hne)
          have HX5 := toHid hbox5
          clear hbox5 hv5 HV4 cT hown4 m5 hm4
          go_wp2_with fail
          have zz := put4_here HX5.out (.int .i64 4) (.int .i64 0) (.string ⟨#[]⟩) (.slice (some ⟨gg, 0, none⟩) (dn.length + 1) cap)
          have zb := put4_below w5 w.heap.size (.int .i64 4) (.int .i64 0) (.string ⟨#[]⟩) (.slice (some ⟨gg, 0, none⟩) (dn.length + 1) cap)
          have zo : (put4 w5 w.heap.size (.int .i64 4) (.int .i64 0) (.string ⟨#[]⟩) (.slice (some ⟨gg, 0, none⟩) (dn.length + 1) cap)).ownsRow w.heap.size 24 4 (.slice (some ⟨gg, 0, none⟩) (dn.length + 1) cap) (dn.length + 1) (rowG (dn ++ [x])) := by
            have o1 := ownsRow_setCell_below (ownsRow_setCell_below (ownsRow_setCell_below (ownsRow_setCell_below hown5 (a := ⟨w.heap.size, 0, none⟩) (by show w.heap.size < _; omega) (.int .i64 4)) (a := ⟨w.heap.size, 1, none⟩) (by show w.heap.size < _; omega) (.int .i64 0)) (a := ⟨w.heap.size, 2, none⟩) (by show w.heap.size < _; omega) (.string ⟨#[]⟩)) (a := ⟨w.heap.size, 3, none⟩) (by show w.heap.size < _; omega) (.slice (some ⟨gg, 0, none⟩) (dn.length + 1) cap)
            refine ⟨o1.1, ?_⟩
            rcases o1.2 with h0 | ⟨g, cap', cur, e1, e2, e3⟩
            · exact .inl h0
            · exact .inr ⟨g, cap', cur, e1, by omega, e3⟩
          have t0 := cell_of zz 0
          have t1 := cell_of zz 1
          have t2 := cell_of zz 2
          have t3 := cell_of zz 3
          have eP : (((w5.setCell ⟨w.heap.size, 0, none⟩ (.int .i64 4)).setCell ⟨w.heap.size, 1, none⟩ (.int .i64 0)).setCell ⟨w.heap.size, 2, none⟩ (.string ⟨#[]⟩)).setCell ⟨w.heap.size, 3, none⟩ (.slice (some ⟨gg, 0, none⟩) (dn.length + 1) cap) = put4 w5 w.heap.size (.int .i64 4) (.int .i64 0) (.string ⟨#[]⟩) (.slice (some ⟨gg, 0, none⟩) (dn.length + 1) cap) := rfl
          rw [eP]
          clear eP
          have ZB := toHid (put4_other w5 w.heap.size (.int .i64 4) (.int .i64 0) (.string ⟨#[]⟩) (.slice (some ⟨gg, 0, none⟩) (dn.length + 1) cap))
          have hcap9 : dn.length + 1 ≤ cap := by
            rcases hown5.2 with ⟨h0, _⟩ | ⟨g0, cap0, cur0, h0, _, _, h1, _⟩
            · cases h0
            · simp only [Value.slice.injEq] at h0
              omega
          generalize put4 w5 w.heap.size (.int .i64 4) (.int .i64 0) (.string ⟨#[]⟩) (.slice (some ⟨gg, 0, none⟩) (dn.length + 1) cap) = W9 at zz zb zo t0 t1 t2 t3 ZB ⊢
          simp at t0 t1 t2 t3
          have hts : ts = (dn ++ [x]).map Got.tree := by rw [HDR.out, R1.out]; simp [hxt]
          have hz9 : w5.heap.size ≤ W9.heap.size := zb.size
          obtain ⟨hg1, hg2⟩ := row_lt zo
          have got9 : ∀ y ∈ dn ++ [x], y.ok (fun i => w.heap.size ≤ i) W9 := fun y hy => (G4.out y hy).kept (Nat.le_trans hs5 hz9) (fun i hi hi2 => ⟨by omega, (ZB.out i (by omega) (by omega)).trans (K5.out i hi2 (by omega))⟩)
          have hrow := row_lies (A := fun i => w.heap.size ≤ i) hg1 hg2 (dn ++ [x]) 0 got9 (fun j u hj => by
            have := row_cell zo (by omega) j u hj
            simpa using this) (by simp; omega)
          refine bodyPost_ret (v := .agg #[.int .i64 4, .int .i64 0, .string ⟨#[]⟩, .slice (some ⟨gg, 0, none⟩) (dn.length + 1) cap]) (by simp [results, Tryd.results34, go_sem, t0, t1, t2, t3]) rfl ⟨some ⟨gg, 0, none⟩, dn.length + 1, cap, rfl, hcap9, ?_, ?_⟩
          · rw [hts]
            simpa using hrow
          · rw [R3.out]
            exact hm5.close zb (by omega)
        · have R3 := toHid r3
          have cT : Hid (Calls Tryd.prog 31 #[.pointer (some ⟨r, 0, none⟩), .string ⟨#[93]⟩] W4 fun e w' => e = .returned (.bool false) ∧ Moved r text pe W4 w') := take_any r pe text ⟨#[93]⟩ W4 hm4.here hgp ht (by decide) false r1
          have cU : Hid (∀ W, Rd r text pe W → Calls Tryd.prog 31 #[.pointer (some ⟨r, 0, none⟩), .string ⟨#[44]⟩] W fun e w' => e = .returned (.bool true) ∧ Moved r text (pe + 1) W w') := fun W hW => take_any r pe text ⟨#[44]⟩ W hW hgp ht (by decide) true r2
          clear r1 r2 r3 G1 G3
          go_wp2_with fail
          refine cT.out.mono ?_
          rintro e w5 ⟨rfl, m5⟩
          go_wp2_with fail
          refine (cU.out _ m5.here).mono ?_
          rintro e w6 ⟨rfl, m6⟩
          have m7 := m5.trans m6
          go_wp2_with fail
          go_roundg rest.length
          case measure => simp at hg; omega
          case rel =>
            refine ⟨dn ++ [x], rest, pe + 1, .slice (some ⟨gg, 0, none⟩) (dn.length + 1) cap, by rw [HDR.out]; simp [hxt], Nat.le_refl _, R3.out, by have := m7.size; omega, hm4.moved m7 (by omega), ?_, ?_, fun y hy => (G4.out y hy).kept m7.size (fun i hi hi2 => ⟨hi, m7.block i hi2 (by omega)⟩)⟩
            · rw [m7.block _ (by omega) (by omega)]
              exact HV4.out
            · have := row_kept hown4 (fun k hk hk' => m7.block k hk' (by omega))
              simpa using this

theorem parse_append : ∀ (l r : List UInt8) (acc v : Nat), Lib.parseUint10 acc l = .ok v → Lib.parseUint10 acc (l ++ r) = Lib.parseUint10 v r
  | [], r, acc, v, h => by
    simp only [Lib.parseUint10] at h
    injection h with h
    subst h
    rfl
  | c :: l, r, acc, v, h => by
    simp only [List.cons_append, Lib.parseUint10] at h ⊢
    split at h
    · rename_i h1
      rw [if_pos h1]
      split at h
      · cases h
      · rename_i h2
        rw [if_neg h2]
        split at h
        · cases h
        · rename_i h3
          rw [if_neg h3]
          exact parse_append l r _ v h
    · cases h

theorem digit_nat (d : Nat) (h : d < 10) : (UInt8.ofNat (48 + d)).toNat = 48 + d := by
  rw [UInt8.toNat_ofNat']
  omega

theorem parse_digits (u : Nat) (hu : u ≤ 9223372036854775808) : Lib.parseUint10 0 (Lib.decDigits u) = .ok u := by
  induction u using Nat.strongRecOn with
  | _ u ih =>
    by_cases h : u < 10
    · rw [Lib.decDigits, dif_pos h]
      simp only [Lib.parseUint10, digit_nat u h]
      rw [if_pos (by omega), if_neg (by omega), if_neg (by omega)]
      congr 1
      omega
    · rw [Lib.decDigits, dif_neg h, parse_append _ _ _ _ (ih (u / 10) (by omega) (by omega))]
      simp only [Lib.parseUint10, digit_nat (u % 10) (Nat.mod_lt _ (by decide))]
      rw [if_pos (by omega), if_neg (by omega), if_neg (by omega)]
      congr 1
      omega

theorem digits_mem (u : Nat) : ∀ b ∈ Lib.decDigits u, 48 ≤ b.toNat ∧ b.toNat ≤ 57 := by
  induction u using Nat.strongRecOn with
  | _ u ih =>
    intro b hb
    by_cases h : u < 10
    · rw [Lib.decDigits, dif_pos h] at hb
      obtain rfl := List.mem_singleton.1 hb
      rw [digit_nat u h]
      omega
    · rw [Lib.decDigits, dif_neg h] at hb
      rcases List.mem_append.1 hb with hb | hb
      · exact ih (u / 10) (by omega) b hb
      · obtain rfl := List.mem_singleton.1 hb
        rw [digit_nat (u % 10) (Nat.mod_lt _ (by decide))]
        omega

theorem atoi_itoa (n : Int) (h0 : -9223372036854775808 ≤ n) (h1 : n ≤ 9223372036854775807) : Lib.atoiAll (Lib.itoa n) = .ok n := by
  unfold Lib.itoa
  by_cases hn : n < 0
  · rw [if_pos hn, Lib.atoiAll_minus]
    unfold Lib.parseMag
    rw [if_neg (digits_ne _), parse_digits _ (by omega)]
    simp only [Lib.signed]
    rw [if_neg (by omega)]
    congr 1
    omega
  · rw [if_neg hn]
    obtain ⟨c, r, hcr⟩ : ∃ c r, Lib.decDigits n.toNat = c :: r := by
      cases h : Lib.decDigits n.toNat with
      | nil => exact absurd h (digits_ne _)
      | cons c r => exact ⟨c, r, rfl⟩
    have hc := digits_mem n.toNat c (by rw [hcr]; exact List.mem_cons_self ..)
    rw [hcr, Lib.atoiAll_plain c r (by omega) (by omega), ← hcr]
    unfold Lib.parseMag
    rw [if_neg (digits_ne _), parse_digits _ (by omega)]
    simp only [Lib.signless]
    rw [if_neg (by omega)]
    congr 1
    omega

theorem byte_at {text : ByteArray} {p : Nat} {l : List UInt8} (h : text.data.toList.drop p = l) (i : Nat) (hi : p ≤ i) (hlt : i < text.size) : l[i - p]? = some text[i] := by
  rw [← h, List.getElem?_drop, show p + (i - p) = i from by omega]
  have : text.data.toList[i]? = some text.data.toList[i] := List.getElem?_eq_getElem (by simpa using hlt)
  rw [this]
  rfl

set_option maxHeartbeats 2000000 in
theorem letter_sign (B r p n : Nat) (c : Nat) (text : ByteArray) (w : World) (h : Rd r text p w) (hp : p ≤ text.size) (ht : text.size ≤ 4000) (hB : B ≤ r) (hT : Tabs B w)
    (h1 : begins text p ⟨#[92, 39]⟩ = false) (h2 : begins text p ⟨#[92, 92]⟩ = false) (h3 : begins text p ⟨#[92, 110]⟩ = false)
    (hd : Lib.decodeGo (text.extract p text.size) = (c, n)) (hc1 : c ≠ 92) (hc2 : c ≠ 10) (hc3 : c = 65533) (hn2 : 2 ≤ n) (hn : p + n ≤ text.size) :
    Calls Tryd.prog 57 #[.pointer (some ⟨r, 0, none⟩)] w fun e w' => e = .returned (.string (text.extract p (p + n))) ∧ Moved r text (p + n) w w' := by
  have c1 := toHid (fun w (h : Rd r text p w) => take_any r p text ⟨#[92, 39]⟩ w h hp ht (by decide) false h1)
  have c2 := toHid (fun w (h : Rd r text p w) => take_any r p text ⟨#[92, 92]⟩ w h hp ht (by decide) false h2)
  have c3 := toHid (fun w (h : Rd r text p w) => take_any r p text ⟨#[92, 110]⟩ w h hp ht (by decide) false h3)
  have e1 : ((c : Int) == 92) = false := by simp; omega
  have e2 : ((c : Int) == 10) = false := by simp; omega
  have e3 : ((c : Int) == 65533) = true := by simp; omega
  have e4 : ¬ (n : Int) < 2 := by omega
  have HD := toHid hd
  clear h1 h2 h3 hd hc1 hc2 hc3
  go_enter Tryd.func57, Tryd.ntmps57
  go_wp2_with fail
  refine (c1.out _ h).mono ?_
  rintro e w1 ⟨rfl, m1⟩
  go_wp2_with fail
  refine (c2.out _ m1.here).mono ?_
  rintro e w2 ⟨rfl, m2⟩
  go_wp2_with fail
  refine (c3.out _ m2.here).mono ?_
  rintro e w3 ⟨rfl, m3⟩
  have M := (m1.trans m2).trans m3
  have hT3 : Tabs B w3 := hT.moved M hB (by have := h.lt; omega)
  have q0 := M.here.text
  have q1 := M.here.place
  have q2 := M.here.free 1
  clear c1 c2 c3
  have cD : Hid (∀ W, Lib.Utf8Tabs 0 1 W → Calls Tryd.prog 45 #[.string (text.extract p text.size)] W fun e w' => e = .returned (.tuple #[.int .i32 c, .int .i64 n]) ∧ Below W.heap.size W w') := fun W hW => by
    have := Tryd.utf8_DecodeRuneInString (text.extract p text.size) W hW
    rw [HD.out] at this
    exact this
  clear HD
  go_wp2_with fail
  go_region_with (go_at_call 45; refine (cD.out _ (hT3 _ (Below.refl _ _).drew)).mono ?_; rintro e w4 ⟨rfl, hb4⟩)
  all_goals
    have hb4' : Below w3.heap.size w3 w4 := ((Below.refl _ _).drew).trans hb4
    have M4 := M.below hb4'
    have q0 := M4.here.text
    have q1 := M4.here.place
    have q2 := M4.here.free 1
    have M5 := M4.here.step (p + n) (.int .i64 ((p : Int) + (n : Int))) (by go_num)
    have s0 := M5.here.text
    have s1 : (w4.setCell ⟨r, 1, none⟩ (.int .i64 ((p : Int) + (n : Int)))).cell? ⟨r, 1, none⟩ = some (.int .i64 ((p : Int) + (n : Int))) := by rw [M5.here.place]; simp
    have hpn : (p : Int) + (n : Int) ≤ text.size := by omega
    go_wp2_with fail
    generalize w4.setCell ⟨r, 1, none⟩ (.int .i64 ((p : Int) + (n : Int))) = W5 at M5 s0 s1 ⊢
    have hsl : ∀ wx : World, (Instr.slice 9 (.string text) (some (.int .i64 (p : Int))) (some (.int .i64 ((p : Int) + (n : Int)))) none).run Tryd.prog wx = .ok (.string (text.extract p (p + n))) wx := fun wx => by
      have h9 := run_slice_string (P := Tryd.prog) wx 9 text .i64 .i64 (p : Int) ((p : Int) + (n : Int)) Tryd.underlying9 (by omega) (by omega) (by omega)
      rw [h9]
      have e : ((p : Int) + (n : Int)).toNat = p + n := by omega
      rw [e, Int.toNat_natCast]
    go_quiet (fail)
    go_wp2_with fail
    go_ret
    exact ⟨rfl, (M4.trans M5).below (below_drewN _ _)⟩

theorem ext_drop (text : ByteArray) (p : Nat) : (text.extract p text.size).data.toList = text.data.toList.drop p := by
  have h : (text.extract p text.size).data = text.data.extract p text.size := by simp
  rw [h]
  simp
  exact List.take_of_length_le (by simp)

theorem ext_mid (text : ByteArray) (p n : Nat) : (text.extract p (p + n)).data.toList = (text.data.toList.drop p).take n := by
  have h : (text.extract p (p + n)).data = text.data.extract p (p + n) := by simp
  rw [h]
  simp

theorem begins_drop {text : ByteArray} {p : Nat} {l : List UInt8} (h : text.data.toList.drop p = l) (word : ByteArray) : begins text p word = word.data.toList.isPrefixOf l := by
  unfold begins Lib.hasPrefix
  rw [ext_drop, h]

theorem dec_eq (text : ByteArray) (p : Nat) (l : List UInt8) (h : text.data.toList.drop p = l) (hne : l ≠ []) : Lib.decodeGo (text.extract p text.size) = Lib.decodeL l := by
  have e : (text.extract p text.size).data.toList = l := by rw [ext_drop, h]
  unfold Lib.decodeGo Lib.decodeL
  have hs : ¬ (text.extract p text.size).size = 0 := by
    intro h0
    apply hne
    rw [← e]
    apply List.length_eq_zero_iff.1
    simpa using h0
  rw [if_neg hs]
  congr 1
  apply ByteArray.ext
  rw [← e]

theorem size_of_drop {text : ByteArray} {p : Nat} {l : List UInt8} (h : text.data.toList.drop p = l) (hp : p ≤ text.size) : p + l.length = text.size := by
  have : (text.data.toList.drop p).length = l.length := by rw [h]
  rw [List.length_drop] at this
  have e : text.data.toList.length = text.size := by simp
  omega
end Go.Proofs.YtdbodcfodlbgnaaDoor
