/-
  What is proved here: what the texts VRTree prove, in one text.
-/
import Derived.Test.YthbbapimedlocaaGreatDoorQPAO
import Derived.Deep.RegionHeld3
import Derived.Deep.AppendLies
namespace Go.Proofs.YthbbapimedlocaaGreatDoor
open Go.RowKit
set_option linter.unusedVariables false

def rowG (l : List Got) : List Value := (l.map Got.cells).flatten

theorem rowG_snoc (l : List Got) (x : Got) : rowG (l ++ [x]) = rowG l ++ x.cells := by simp [rowG]

/-- At the place p the value t is read, and q is the place behind it. -/
def ReadOk (text : ByteArray) (p : Nat) (lists : Int) (t : T) (q : Nat) : Prop :=
  ∀ (B r : Nat) (w : World), Rd r text p w → B ≤ r → Tabs B w → Pow10 B w → Calls Tryz.prog 183 #[.pointer (some ⟨r, 0, none⟩), .int .i64 lists] w fun e w' => ∃ x : Got, x.tree = t ∧ e = .returned (.agg #[.int .i64 x.k, .int .i64 x.n, .string x.s, .slice x.a x.l x.c]) ∧ x.ok (fun i => w.heap.size ≤ i) w' ∧ Moved r text q w w'

/-- Values with commas between, and a bracket behind. -/
def Reads (text : ByteArray) (lists : Int) : Nat → List T → Nat → Prop
  | _, [], _ => False
  | p, t :: l, q => ∃ e, ReadOk text p lists t e ∧ e + 1 ≤ text.size ∧ ((l = [] ∧ begins text e ⟨#[93]⟩ = true ∧ q = e + 1) ∨ (begins text e ⟨#[93]⟩ = false ∧ begins text e ⟨#[44]⟩ = true ∧ Reads text lists (e + 1) l q))

/-- A row of what was read is a list that lies in memory. -/
theorem row_lies {A : Nat → Prop} {w : World} {g : Nat} (hN : A g) (hg : g < w.heap.size) : ∀ (l : List Got) (off : Nat), (∀ x ∈ l, x.ok A w) → (∀ j u, (rowG l)[j]? = some u → w.cell? ⟨g, off + j, none⟩ = some u) → l.length ≤ 9223372036854775807 → LieA A w (l.map Got.tree) (some ⟨g, off, none⟩) l.length
  | [], off, _, _, _ => by unfold LieA; rfl
  | x :: l, off, hok, hc, hl => by
    have e : rowG (x :: l) = x.cells ++ rowG l := rfl
    have ok := hok x (List.mem_cons_self ..)
    simp only [List.map_cons]
    unfold LieA
    refine ⟨g, off, rfl, by simp, hl, hN, hg, ?_, ?_⟩
    · show LieT A w (.node x.k x.n x.s x.L) g off
      unfold LieT
      refine ⟨ok.1, x.a, x.l, x.c, ?_, ?_, ?_, ?_, ok.2.1, ok.2.2⟩
      · exact hc 0 _ (by rw [e]; rfl)
      · exact hc 1 _ (by rw [e]; rfl)
      · exact hc 2 _ (by rw [e]; rfl)
      · exact hc 3 _ (by rw [e]; rfl)
    · have := row_lies hN hg l (off + 4) (fun y hy => hok y (List.mem_cons_of_mem _ hy)) (fun j u hj => by
        have := hc (j + 4) u (by rw [e]; simpa [Got.cells] using hj)
        rw [show off + 4 + j = off + (j + 4) from by omega]
        exact this) (by simp at hl; omega)
      simpa using this

set_option maxHeartbeats 4000000 in
set_option maxRecDepth 100000 in
theorem list_reads (B r p q : Nat) (text : ByteArray) (lists : Int) (ts : List T) (w : World) (h : Rd r text p w) (ht : text.size ≤ 4000) (hp : p ≤ text.size) (hB : B ≤ r) (hT : Tabs B w) (hP : Pow10 B w)
    (hl : Reads text lists p ts q) (hll : ts.length ≤ 4000) (hf : begins text p ⟨#[93]⟩ = false) :
    Calls Tryz.prog 196 #[.pointer (some ⟨r, 0, none⟩), .int .i64 lists] w fun e w' => ∃ a l c, e = .returned (.agg #[.int .i64 4, .int .i64 0, .string ⟨#[]⟩, .slice a l c]) ∧ l ≤ c ∧ LieA (fun i => w.heap.size ≤ i) w' ts a l ∧ Moved r text q w w' := by
  have hr := h.lt
  have HL := toHid hl
  have cT : Hid (∀ W, Rd r text p W → Calls Tryz.prog 193 #[.pointer (some ⟨r, 0, none⟩), .string ⟨#[93]⟩] W fun e w' => e = .returned (.bool false) ∧ Moved r text p W w') := fun W hW => take_any r p text ⟨#[93]⟩ W hW hp ht (by decide) false hf
  clear hl hf
  go_enter Tryz.func196, Tryz.ntmps196
  go_wp2_with fail
  have hb0 : Below (w.heap.size + 1) (w.alloc (.cells #[.int .i64 0, .int .i64 0, .string ⟨#[]⟩, .slice none 0 0] 60)) ((w.alloc (.cells #[.int .i64 0, .int .i64 0, .string ⟨#[]⟩, .slice none 0 0] 60)).alloc (.cells #[.int .i64 4, .int .i64 0, .string ⟨#[]⟩, .slice none 0 0] 60)) := (Below.refl _ _).alloc (by simp) _
  have hb1 : Below w.heap.size w ((w.alloc (.cells #[.int .i64 0, .int .i64 0, .string ⟨#[]⟩, .slice none 0 0] 60)).alloc (.cells #[.int .i64 4, .int .i64 0, .string ⟨#[]⟩, .slice none 0 0] 60)) := ((Below.refl _ _).alloc (Nat.le_refl _) _).alloc (by simp) _
  have hv0 := alloc_two w (.cells #[.int .i64 0, .int .i64 0, .string ⟨#[]⟩, .slice none 0 0] 60) (.cells #[.int .i64 4, .int .i64 0, .string ⟨#[]⟩, .slice none 0 0] 60)
  have hz0 : ((w.alloc (.cells #[.int .i64 0, .int .i64 0, .string ⟨#[]⟩, .slice none 0 0] 60)).alloc (.cells #[.int .i64 4, .int .i64 0, .string ⟨#[]⟩, .slice none 0 0] 60)).heap.size = w.heap.size + 2 := by simp
  refine (cT.out _ (Moved.of_below h hb1).here).mono ?_
  generalize (w.alloc (.cells #[.int .i64 0, .int .i64 0, .string ⟨#[]⟩, .slice none 0 0] 60)).alloc (.cells #[.int .i64 4, .int .i64 0, .string ⟨#[]⟩, .slice none 0 0] 60) = W0 at hb0 hb1 hv0 hz0 ⊢
  rintro e w1 ⟨rfl, m1⟩
  have hm1 : MovedTo (w.heap.size + 1) r text p (w.alloc (.cells #[.int .i64 0, .int .i64 0, .string ⟨#[]⟩, .slice none 0 0] 60)) w1 := ⟨m1.os.trans hb0.os, m1.tape.trans hb0.tape, m1.output.trans hb0.output, Nat.le_trans hb0.size m1.size, fun k hk hn => (m1.block k (by omega) hn).trans (hb0.block k hk), m1.here⟩
  have hs1 : w.heap.size + 2 ≤ w1.heap.size := by have := m1.size; omega
  have hv1 : w1.heap[w.heap.size + 1]? = some (.cells #[.int .i64 4, .int .i64 0, .string ⟨#[]⟩, .slice none 0 0] 60 (0, 0)) := by rw [m1.block _ (by omega) (by omega)]; exact hv0
  obtain ⟨i0, hi0, hiz, his, hib⟩ := info_value
  have HI0 := toHid hi0
  have HIZ := toHid hiz
  have HIS := toHid his
  have HIB := toHid hib
  have HV1 := toHid hv1
  clear hi0 hiz his hib hv1 hv0 hb0 hb1 hz0 m1 cT
  go_wp2_with fail
  go_loopg [10] ts.length (fun g s10 wr => ∃ (dn : List Got) (rest : List T) (p' : Nat) (ov : Value), ts = dn.map Got.tree ++ rest ∧ rest.length ≤ g ∧ Reads text lists p' rest q ∧ w.heap.size + 2 ≤ wr.heap.size ∧ MovedTo (w.heap.size + 1) r text p' (w.alloc (.cells #[.int .i64 0, .int .i64 0, .string ⟨#[]⟩, .slice none 0 0] 60)) wr ∧ wr.heap[w.heap.size + 1]? = some (.cells #[.int .i64 4, .int .i64 0, .string ⟨#[]⟩, ov] 60 (0, 0)) ∧ wr.ownsRow (w.heap.size + 2) 60 4 ov dn.length (rowG dn) ∧ (∀ x ∈ dn, x.ok (fun i => w.heap.size + 2 ≤ i ∧ ov.ownBlock ≠ some i) wr))
  case atStart => exact ⟨[], ts, p, .slice none 0 0, rfl, Nat.le_refl _, HL.out, hs1, hm1, HV1.out, ⟨rfl, .inl ⟨rfl, rfl⟩⟩, fun x hx => by cases hx⟩
  case round =>
    clear hm1 hs1 HV1 HL h
    obtain ⟨dn, rest, p', ov, hdr, hg, hit, hs, hm, hv, hown, hgot⟩ := hrel
    have HGOT := toHid hgot
    clear hgot
    have HDR := toHid hdr
    have HV := toHid hv
    have c3 := cell_of hv 3
    simp at c3
    have HT : Hid (Tabs B wr) := hT.below ⟨hm.os, hm.tape, hm.output, by omega, fun k hk => (hm.block k (by omega) (by omega)).trans (Below.heap_alloc _ _ _ (by omega))⟩
    have HP : Hid (Pow10 B wr) := hP.below ⟨hm.os, hm.tape, hm.output, by omega, fun k hk => (hm.block k (by omega) (by omega)).trans (Below.heap_alloc _ _ _ (by omega))⟩
    clear hdr hv
    cases rest with
    | nil => exact hit.elim
    | cons tx rest =>
      obtain ⟨pe, g1, g2, g3⟩ := hit
      have G1 := toHid g1
      have G3 := toHid g3
      clear g1 g3
      go_wp2_with fail
      have hr' : Rd r text p' wr.drew := hm.here
      have hT' : Tabs B wr.drew := HT.out.below (Below.refl _ _).drew
      have hP' : Pow10 B wr.drew := HP.out.below (Below.refl _ _).drew
      have HB : (dn.length + 1) * 56 ≤ 140737488355328 := by
        have e : ts.length = dn.length + (rest.length + 1) := by rw [HDR.out]; simp
        omega
      have HB2 : dn.length + 1 ≤ maxLen := by unfold maxLen; omega
      go_region_law (first
        | (refine step_append_lies _ (by rfl) _ _ _ (by rfl) (w.heap.size + 2) 60 i0 _ 4 56 Tryz.underlying58 HI0.out HIZ.out HIS.out HIB.out rfl (by omega) ov dn.length (rowG dn) (by rfl) (hown2.alloc _) ⟨w2.heap.size, 0, none⟩ 1 1 x.cells (by rfl) (by rfl) (World.news_of_block (cs := #[.int .i64 x.k, .int .i64 x.n, .string x.s, .slice x.a x.l x.c]) (t := 60) (fr := (0, 0)) (alloc_new w2 _)) (by simp [Got.cells, Value.oneCell']) (by omega) HB2 HB (by simp; omega) (w2.heap.size + 1) (by simp) ?_; intro gg cap w3 hown3 hgrow hat hlt
           have hs3 : w2.heap.size + 1 ≤ w3.heap.size := by have := hgrow.size; simpa using this
           have hv3 : w3.heap[w.heap.size + 1]? = some (.cells #[.int .i64 4, .int .i64 0, .string ⟨#[]⟩, ov] 60 (0, 0)) := by
             rw [hgrow.block _ (by simp; omega) (fun e => by have := row_block hown2 _ e.symm; omega), Below.heap_alloc _ _ _ (by omega), m2.block _ (by show w.heap.size + 1 < wr.heap.size; omega) (by omega)]
             exact HV.out
           have d3 : w3.cell? ⟨w.heap.size + 1, 3, none⟩ = some ov := cell_of hv3 3
           have f3 := free_of hv3 3
           have HV3 := toHid hv3
           clear hv3)
        | (go_simp
           go_at_call 183
           refine (G1.out B r _ hr' hB hT' hP').mono ?_
           rintro e w2 ⟨x, hxt, rfl, hxo, m2⟩
           have c3' : w2.cell? ⟨w.heap.size + 1, 3, none⟩ = some ov := by rw [m2.cell (by show w.heap.size + 1 < wr.heap.size; omega) (by show w.heap.size + 1 ≠ r; omega)]; exact c3
           have hs2 : wr.heap.size ≤ w2.heap.size := m2.size
           have c3'' : ∀ o, (w2.alloc o).cell? ⟨w.heap.size + 1, 3, none⟩ = some ov := fun o => by rw [cell_past _ _ _ _ (by omega)]; exact c3'
           have hown2 : w2.ownsRow (w.heap.size + 2) 60 4 ov dn.length (rowG dn) := row_kept hown (fun k hk hk' => m2.block k hk' (by omega))))
      all_goals
        have hv4 : (w3.setCell ⟨w.heap.size + 1, 3, none⟩ (.slice (some ⟨gg, 0, none⟩) (dn.length + 1) cap)).heap[w.heap.size + 1]? = some (.cells #[.int .i64 4, .int .i64 0, .string ⟨#[]⟩, .slice (some ⟨gg, 0, none⟩) (dn.length + 1) cap] 60 (0, 0)) := by
          have := HV3.out
          simp [World.setCell, Array.getElem?_modify, this]
        have m2' : Moved r text pe wr w2 := ⟨m2.os, m2.tape, m2.output, m2.size, m2.block, m2.here⟩
        have hm2 := hm.moved m2' (by show w.heap.size + 1 ≤ wr.heap.size; omega)
        have hb3 : Below (w.heap.size + 2) w2 w3 := ((Below.refl _ _).alloc (by omega) _).grown hgrow (by simp; omega) (fun k hk => row_block hown2 k hk)
        have hb4 : Below (w.heap.size + 1) w2 w3 := hb3.mono (by omega)
        have hm4 := hm2.below (hb4.setCell (p := ⟨w.heap.size + 1, 3, none⟩) (Nat.le_refl _) (.slice (some ⟨gg, 0, none⟩) (dn.length + 1) cap)) (by omega)
        have hown4 := ownsRow_setCell_below hown3 (a := ⟨w.heap.size + 1, 3, none⟩) (by show w.heap.size + 1 < w.heap.size + 2; omega) (.slice (some ⟨gg, 0, none⟩) (dn.length + 1) cap)
        have hs4 : w.heap.size + 2 ≤ (w3.setCell ⟨w.heap.size + 1, 3, none⟩ (.slice (some ⟨gg, 0, none⟩) (dn.length + 1) cap)).heap.size := by simp [World.setCell]; omega
        rw [← rowG_snoc] at hown4
        have hrb : ∀ i, ov.ownBlock = some i → i < wr.heap.size := fun i hi => by
          rcases hown.2 with ⟨h0, _⟩ | ⟨g0, cap0, cur0, h0, _, h1, _⟩
          · rw [h0] at hi; simp [Value.ownBlock] at hi
          · rw [h0] at hi
            simp [Value.ownBlock] at hi
            subst hi
            exact (Array.getElem?_eq_some_iff.1 h1).1
        have hgg : ∀ i, i < w2.heap.size → ov.ownBlock ≠ some i → (Value.slice (some ⟨gg, 0, none⟩) (dn.length + 1) cap).ownBlock ≠ some i := fun i hi hne e => by
          simp [Value.ownBlock] at e
          rcases hat with h | h
          · rw [e] at h; exact hne h
          · omega
        have hset : ∀ i, w.heap.size + 2 ≤ i → i < w2.heap.size → ov.ownBlock ≠ some i → (w3.setCell ⟨w.heap.size + 1, 3, none⟩ (.slice (some ⟨gg, 0, none⟩) (dn.length + 1) cap)).heap[i]? = w2.heap[i]? := fun i hi hi2 hne => by
          have e1 : (w3.setCell ⟨w.heap.size + 1, 3, none⟩ (.slice (some ⟨gg, 0, none⟩) (dn.length + 1) cap)).heap[i]? = w3.heap[i]? := by
            have : ¬ w.heap.size + 1 = i := by omega
            simp [World.setCell, Array.getElem?_modify, this]
          rw [e1, hgrow.block i (by simp; omega) (fun e => hne e.symm), Below.heap_alloc _ _ _ hi2]
        have hsz4 : w2.heap.size ≤ (w3.setCell ⟨w.heap.size + 1, 3, none⟩ (.slice (some ⟨gg, 0, none⟩) (dn.length + 1) cap)).heap.size := by simp [World.setCell]; omega
        have got4 : ∀ y ∈ dn ++ [x], y.ok (fun i => w.heap.size + 2 ≤ i ∧ (Value.slice (some ⟨gg, 0, none⟩) (dn.length + 1) cap).ownBlock ≠ some i) (w3.setCell ⟨w.heap.size + 1, 3, none⟩ (.slice (some ⟨gg, 0, none⟩) (dn.length + 1) cap)) := by
          intro y hy
          rcases List.mem_append.1 hy with hy | hy
          · refine (HGOT.out y hy).kept (Nat.le_trans hs2 hsz4) (fun i hi hi2 => ⟨⟨hi.1, hgg i (by omega) hi.2⟩, (hset i hi.1 (by omega) hi.2).trans (m2.block i hi2 (by omega))⟩)
          · obtain rfl := List.mem_singleton.1 hy
            refine hxo.kept hsz4 (fun i hi hi2 => ?_)
            have h1 : wr.heap.size ≤ i := hi
            have h2 : ov.ownBlock ≠ some i := fun e => by have := hrb i e; omega
            exact ⟨⟨by omega, hgg i hi2 h2⟩, hset i (by omega) hi2 h2⟩
        have G4 := toHid got4
        clear got4 hset hgg hrb hsz4
        generalize w3.setCell ⟨w.heap.size + 1, 3, none⟩ (.slice (some ⟨gg, 0, none⟩) (dn.length + 1) cap) = W4 at hv4 hm4 hown4 hs4 G4 ⊢
        have HV4 := toHid hv4
        clear hv4 d3 f3 HV3 hown3 hgrow hat hlt hs3 c3' c3'' hown2 m2 m2' hm2 hb3 hb4 c3 hm HV hown hr' hT' hP' HT HP
        have hgp : (pe) ≤ text.size := by omega
        rcases G3.out with ⟨r1, r2, r3⟩ | ⟨r1, r2, r3⟩
        · have R1 := toHid r1
          have R3 := toHid r3
          have cT : Hid (Calls Tryz.prog 193 #[.pointer (some ⟨r, 0, none⟩), .string ⟨#[93]⟩] W4 fun e w' => e = .returned (.bool true) ∧ Moved r text (pe + 1) W4 w') := take_any r pe text ⟨#[93]⟩ W4 hm4.here hgp ht (by decide) true r2
          clear r1 r2 r3 G1 G3
          go_wp2_with fail
          refine cT.out.mono ?_
          rintro e w5 ⟨rfl, m5⟩
          have hm5 := hm4.moved m5 (by omega)
          have hs5 := m5.size
          have hv5 : w5.heap[w.heap.size + 1]? = some (.cells #[.int .i64 4, .int .i64 0, .string ⟨#[]⟩, .slice (some ⟨gg, 0, none⟩) (dn.length + 1) cap] 60 (0, 0)) := by rw [m5.block _ (by omega) (by omega)]; exact HV4.out
          have hown5 := row_kept hown4 (fun k hk hk' => m5.block k hk' (by omega))
          have hbox5 : w5.heap[w.heap.size]? = some (.cells #[.int .i64 0, .int .i64 0, .string ⟨#[]⟩, .slice none 0 0] 60 (0, 0)) := by
            rw [hm5.block _ (by omega) (by omega)]
            exact alloc_new _ _
          have x0 := cell_of hbox5 0
          have x1 := cell_of hbox5 1
          have x2 := cell_of hbox5 2
          have x3 := cell_of hbox5 3
          have y0 := free_of hbox5 0
          have y1 := free_of hbox5 1
          have y2 := free_of hbox5 2
          have y3 := free_of hbox5 3
          have z0 := cell_of hv5 0
          have z1 := cell_of hv5 1
          have z2 := cell_of hv5 2
          have z3 := cell_of hv5 3
          simp at x0 x1 x2 x3 z0 z1 z2 z3
          have K5 := toHid (fun i (hi : i < W4.heap.size) (hne : i ≠ r) => m5.block i hi hne)
          have HX5 := toHid hbox5
          clear hbox5 hv5 HV4 cT hown4 m5 hm4
          go_wp2_with fail
          have zz := put4_here HX5.out (.int .i64 4) (.int .i64 0) (.string ⟨#[]⟩) (.slice (some ⟨gg, 0, none⟩) (dn.length + 1) cap)
          have zb := put4_below w5 w.heap.size (.int .i64 4) (.int .i64 0) (.string ⟨#[]⟩) (.slice (some ⟨gg, 0, none⟩) (dn.length + 1) cap)
          have zo : (put4 w5 w.heap.size (.int .i64 4) (.int .i64 0) (.string ⟨#[]⟩) (.slice (some ⟨gg, 0, none⟩) (dn.length + 1) cap)).ownsRow w.heap.size 60 4 (.slice (some ⟨gg, 0, none⟩) (dn.length + 1) cap) (dn.length + 1) (rowG (dn ++ [x])) := by
            have o1 := ownsRow_setCell_below (ownsRow_setCell_below (ownsRow_setCell_below (ownsRow_setCell_below hown5 (a := ⟨w.heap.size, 0, none⟩) (by show w.heap.size < _; omega) (.int .i64 4)) (a := ⟨w.heap.size, 1, none⟩) (by show w.heap.size < _; omega) (.int .i64 0)) (a := ⟨w.heap.size, 2, none⟩) (by show w.heap.size < _; omega) (.string ⟨#[]⟩)) (a := ⟨w.heap.size, 3, none⟩) (by show w.heap.size < _; omega) (.slice (some ⟨gg, 0, none⟩) (dn.length + 1) cap)
            refine ⟨o1.1, ?_⟩
            rcases o1.2 with h0 | ⟨g, cap', cur, e1, e2, e3⟩
            · exact .inl h0
            · exact .inr ⟨g, cap', cur, e1, by omega, e3⟩
          have t0 := cell_of zz 0
          have t1 := cell_of zz 1
          have t2 := cell_of zz 2
          have t3 := cell_of zz 3
          have eP : (((w5.setCell ⟨w.heap.size, 0, none⟩ (.int .i64 4)).setCell ⟨w.heap.size, 1, none⟩ (.int .i64 0)).setCell ⟨w.heap.size, 2, none⟩ (.string ⟨#[]⟩)).setCell ⟨w.heap.size, 3, none⟩ (.slice (some ⟨gg, 0, none⟩) (dn.length + 1) cap) = put4 w5 w.heap.size (.int .i64 4) (.int .i64 0) (.string ⟨#[]⟩) (.slice (some ⟨gg, 0, none⟩) (dn.length + 1) cap) := rfl
          rw [eP]
          clear eP
          have ZB := toHid (put4_other w5 w.heap.size (.int .i64 4) (.int .i64 0) (.string ⟨#[]⟩) (.slice (some ⟨gg, 0, none⟩) (dn.length + 1) cap))
          have hcap9 : dn.length + 1 ≤ cap := by
            rcases hown5.2 with ⟨h0, _⟩ | ⟨g0, cap0, cur0, h0, _, _, h1, _⟩
            · cases h0
            · simp only [Value.slice.injEq] at h0
              omega
          generalize put4 w5 w.heap.size (.int .i64 4) (.int .i64 0) (.string ⟨#[]⟩) (.slice (some ⟨gg, 0, none⟩) (dn.length + 1) cap) = W9 at zz zb zo t0 t1 t2 t3 ZB ⊢
          simp at t0 t1 t2 t3
          have hts : ts = (dn ++ [x]).map Got.tree := by rw [HDR.out, R1.out]; simp [hxt]
          have hz9 : w5.heap.size ≤ W9.heap.size := zb.size
          obtain ⟨hg1, hg2⟩ := row_ltV zo
          have got9 : ∀ y ∈ dn ++ [x], y.ok (fun i => w.heap.size ≤ i) W9 := fun y hy => (G4.out y hy).kept (Nat.le_trans hs5 hz9) (fun i hi hi2 => ⟨by omega, (ZB.out i (by omega) (by omega)).trans (K5.out i hi2 (by omega))⟩)
          have hrow := row_lies (A := fun i => w.heap.size ≤ i) hg1 hg2 (dn ++ [x]) 0 got9 (fun j u hj => by
            have := row_cell zo (by omega) j u hj
            simpa using this) (by simp; omega)
          refine bodyPost_ret (v := .agg #[.int .i64 4, .int .i64 0, .string ⟨#[]⟩, .slice (some ⟨gg, 0, none⟩) (dn.length + 1) cap]) (by simp [results, Tryz.results196, go_sem, t0, t1, t2, t3]) rfl ⟨some ⟨gg, 0, none⟩, dn.length + 1, cap, rfl, hcap9, ?_, ?_⟩
          · rw [hts]
            simpa using hrow
          · rw [R3.out]
            exact hm5.close zb (by omega)
        · have R3 := toHid r3
          have cT : Hid (Calls Tryz.prog 193 #[.pointer (some ⟨r, 0, none⟩), .string ⟨#[93]⟩] W4 fun e w' => e = .returned (.bool false) ∧ Moved r text pe W4 w') := take_any r pe text ⟨#[93]⟩ W4 hm4.here hgp ht (by decide) false r1
          have cU : Hid (∀ W, Rd r text pe W → Calls Tryz.prog 193 #[.pointer (some ⟨r, 0, none⟩), .string ⟨#[44]⟩] W fun e w' => e = .returned (.bool true) ∧ Moved r text (pe + 1) W w') := fun W hW => take_any r pe text ⟨#[44]⟩ W hW hgp ht (by decide) true r2
          clear r1 r2 r3 G1 G3
          go_wp2_with fail
          refine cT.out.mono ?_
          rintro e w5 ⟨rfl, m5⟩
          go_wp2_with fail
          refine (cU.out _ m5.here).mono ?_
          rintro e w6 ⟨rfl, m6⟩
          have m7 := m5.trans m6
          go_wp2_with fail
          go_roundg rest.length
          case measure => simp at hg; omega
          case rel =>
            refine ⟨dn ++ [x], rest, pe + 1, .slice (some ⟨gg, 0, none⟩) (dn.length + 1) cap, by rw [HDR.out]; simp [hxt], Nat.le_refl _, R3.out, by have := m7.size; omega, hm4.moved m7 (by omega), ?_, ?_, fun y hy => (G4.out y hy).kept m7.size (fun i hi hi2 => ⟨hi, m7.block i hi2 (by omega)⟩)⟩
            · rw [m7.block _ (by omega) (by omega)]
              exact HV4.out
            · have := row_kept hown4 (fun k hk hk' => m7.block k hk' (by omega))
              simpa using this
end Go.Proofs.YthbbapimedlocaaGreatDoor
