/-
  What is proved here: what the texts KoPure, KoFits, KoW, KoE prove, in one text.
-/
import Derived.Test.YtldpionmmplncaaDoorQOAI
import Derived.Test.YtldpionmmplncaaDoorQOAL
import Derived.Test.YtldpionmmplncaaDoorQOAK
import Derived.Test.YtldpionmmplncaaDoorQOAG
namespace Go.Proofs.YtldpionmmplncaaDoor
open Go.RowKit
set_option linter.unusedVariables false

/-- An operation by its cells; the property holds its name and its value. -/
structure Oq where
  k : Int
  id : Int
  frm : Int
  dst : Int
  pr : Pr
  labs : List ByteArray
  la : Option Addr
  ll : Nat
  lc : Nat
  props : List Pr
  pa : Option Addr
  pl : Nat
  pc : Nat

/-- An operation by what it holds. -/
structure AO where
  k : Int
  id : Int
  frm : Int
  dst : Int
  pr : AP
  labs : List ByteArray
  props : List AP

def Oq.cells (x : Oq) : List Value := [.int .i64 x.k, .int .i64 x.id, .int .i64 x.frm, .int .i64 x.dst, .string x.pr.name, .int .i64 x.pr.k, .int .i64 x.pr.n, .string x.pr.s, .slice x.pr.a x.pr.l x.pr.c, .slice x.la x.ll x.lc, .slice x.pa x.pl x.pc]
def rowO (L : List Oq) : List Value := (L.map Oq.cells).flatten
theorem rowO_snoc (L : List Oq) (x : Oq) : rowO (L ++ [x]) = rowO L ++ x.cells := by simp [rowO]

/-- Operations lie where a slice says. -/
def OpsAt (w : World) (L : List Oq) (a : Option Addr) (l : Nat) : Prop :=
  l = L.length ∧ l ≤ 9223372036854775807 ∧ (0 < l → ∃ b off, a = some ⟨b, off, none⟩ ∧ b < w.heap.size ∧ ∀ (i : Nat) (x : Oq), L[i]? = some x → w.cell? ⟨b, off + i * 11, none⟩ = some (.int .i64 x.k) ∧ w.cell? ⟨b, off + i * 11 + 1, none⟩ = some (.int .i64 x.id) ∧ w.cell? ⟨b, off + i * 11 + 1 + 1, none⟩ = some (.int .i64 x.frm) ∧ w.cell? ⟨b, off + i * 11 + 1 + 1 + 1, none⟩ = some (.int .i64 x.dst) ∧ w.cell? ⟨b, off + i * 11 + 1 + 1 + 1 + 1, none⟩ = some (.string x.pr.name) ∧ w.cell? ⟨b, off + i * 11 + 1 + 1 + 1 + 1 + 1, none⟩ = some (.int .i64 x.pr.k) ∧ w.cell? ⟨b, off + i * 11 + 1 + 1 + 1 + 1 + 1 + 1, none⟩ = some (.int .i64 x.pr.n) ∧ w.cell? ⟨b, off + i * 11 + 1 + 1 + 1 + 1 + 1 + 1 + 1, none⟩ = some (.string x.pr.s) ∧ w.cell? ⟨b, off + i * 11 + 1 + 1 + 1 + 1 + 1 + 1 + 1 + 1, none⟩ = some (.slice x.pr.a x.pr.l x.pr.c) ∧ w.cell? ⟨b, off + i * 11 + 1 + 1 + 1 + 1 + 1 + 1 + 1 + 1 + 1, none⟩ = some (.slice x.la x.ll x.lc) ∧ w.cell? ⟨b, off + i * 11 + 1 + 1 + 1 + 1 + 1 + 1 + 1 + 1 + 1 + 1, none⟩ = some (.slice x.pa x.pl x.pc))

theorem OpsAt.below {w w' : World} (k : Below w.heap.size w w') {L : List Oq} {a : Option Addr} {l : Nat} (h : OpsAt w L a l) : OpsAt w' L a l := by
  obtain ⟨h1, h2, h3⟩ := h
  refine ⟨h1, h2, fun h0 => ?_⟩
  obtain ⟨b, off, ha, hb, hc⟩ := h3 h0
  refine ⟨b, off, ha, Nat.lt_of_lt_of_le hb k.size, fun i s hs => ?_⟩
  have q : ∀ o, w'.cell? ⟨b, o, none⟩ = w.cell? ⟨b, o, none⟩ := fun o => k.cell (p := ⟨b, o, none⟩) hb
  simp only [q]
  exact hc i s hs

def OpIn (w : World) (p : Oq) (x : AO) : Prop :=
  (p.k = x.k ∧ p.id = x.id ∧ p.frm = x.frm ∧ p.dst = x.dst) ∧ PrIn AnyB w p.pr x.pr ∧ p.labs = x.labs ∧ StrsAt w p.labs p.la p.ll ∧ PropsAt w p.props p.pa p.pl ∧ Pair2 (PrIn AnyB w) p.props x.props

theorem OpIn.below {w w' : World} {p : Oq} {x : AO} (h : OpIn w p x) (k : Below w.heap.size w w') : OpIn w' p x :=
  ⟨h.1, h.2.1.below k, h.2.2.1, h.2.2.2.1.below k, h.2.2.2.2.1.below k, h.2.2.2.2.2.mono fun p x _ _ hp => hp.below k⟩

def OsAt (w : World) (X : List AO) (a : Option Addr) (l : Nat) : Prop := ∃ P, OpsAt w P a l ∧ Pair2 (OpIn w) P X

theorem OsAt.below {w w' : World} {X : List AO} {a : Option Addr} {l : Nat} (h : OsAt w X a l) (k : Below w.heap.size w w') : OsAt w' X a l := by
  obtain ⟨N, h1, h2⟩ := h
  exact ⟨N, h1.below k, h2.mono fun p x _ _ hp => hp.below k⟩

theorem at_lenO {w : World} {X : List AO} {a : Option Addr} {n : Nat} (h : OsAt w X a n) : n = X.length ∧ n ≤ 9223372036854775807 := by
  obtain ⟨P, h1, h2⟩ := h
  exact ⟨by rw [← h2.1]; exact h1.1, h1.2.1⟩

theorem row_ops {w : World} {B : Nat} {a : Option Addr} {l c : Nat} {N : List Oq} (h : w.ownsRow B 38 11 (.slice a l c) N.length (rowO N)) : OpsAt w N a l := by
  obtain ⟨h1, _, h2⟩ := row_len h
  refine ⟨h1, by omega, fun h0 => ?_⟩
  obtain ⟨g, ha, _, _, hg, hc⟩ := row_at h (by omega)
  refine ⟨g, 0, ha, hg, fun i p hi => ?_⟩
  have f := fun j u hu => hc _ u (flat_get Oq.cells 11 (fun _ => rfl) N i j p u hi hu)
  have g0 := f 0 _ rfl
  have g1 := f 1 _ rfl
  have g2 := f 2 _ rfl
  have g3 := f 3 _ rfl
  have g4 := f 4 _ rfl
  have g5 := f 5 _ rfl
  have g6 := f 6 _ rfl
  have g7 := f 7 _ rfl
  have g8 := f 8 _ rfl
  have g9 := f 9 _ rfl
  have g10 := f 10 _ rfl
  simp only [Nat.zero_add, Nat.add_assoc, Nat.reduceAdd] at g0 g1 g2 g3 g4 g5 g6 g7 g8 g9 g10 ⊢
  exact ⟨g0, g1, g2, g3, g4, g5, g6, g7, g8, g9, g10⟩

def oB (x : AO) : List UInt8 := numB x.k ++ (numB x.id ++ (numB x.frm ++ (numB x.dst ++ (txB x.pr.name ++ (vB x.pr.t ++ (eaB txB x.labs ++ eaB pB x.props))))))
def osB (L : List AO) : List UInt8 := eaB oB L

def OpW (x : AO) : Prop := ((-9223372036854775808 ≤ x.k ∧ x.k ≤ 9223372036854775807) ∧ (-9223372036854775808 ≤ x.id ∧ x.id ≤ 9223372036854775807) ∧ (-9223372036854775808 ≤ x.frm ∧ x.frm ≤ 9223372036854775807) ∧ (-9223372036854775808 ≤ x.dst ∧ x.dst ≤ 9223372036854775807)) ∧ (x.pr.name.size ≤ 1000000 ∧ Ck 6 x.pr.t) ∧ (∀ s ∈ x.labs, s.size ≤ 1000000) ∧ ∀ p ∈ x.props, p.name.size ≤ 1000000 ∧ Ck 6 p.t

def opP (bs : List UInt8) : Option (AO × List UInt8) := (numP bs).bind fun a => (numP a.2).bind fun i => (numP i.2).bind fun f => (numP f.2).bind fun d => (txP d.2).bind fun t => (valP 6 t.2).bind fun v => (listP 4 txP v.2).bind fun l => (listP 6 prP l.2).map fun p => (⟨a.1, i.1, f.1, d.1, ⟨t.1, v.1⟩, l.1, p.1⟩, p.2)
def osP (bs : List UInt8) : Option (List AO × List UInt8) := listP 20 opP bs

theorem opP_op (x : AO) (r : List UInt8) (h : OpW x) (hl : x.labs.length ≤ 4) (hp : x.props.length ≤ 6) : opP (oB x ++ r) = some (x, r) := by
  obtain ⟨⟨h1, h2, h3, h4⟩, h5, h6, h7⟩ := h
  unfold opP oB
  simp only [List.append_assoc]
  rw [numP_num _ _ h1.1 h1.2]
  simp only [Option.bind_some]
  rw [numP_num _ _ h2.1 h2.2]
  simp only [Option.bind_some]
  rw [numP_num _ _ h3.1 h3.2]
  simp only [Option.bind_some]
  rw [numP_num _ _ h4.1 h4.2]
  simp only [Option.bind_some]
  rw [txP_tx _ _ h5.1]
  simp only [Option.bind_some]
  rw [valP_val 6 x.pr.t h5.2]
  simp only [Option.bind_some]
  rw [listP_all (one := txP) (f := txB) 4 x.labs _ hl (by omega) (fun s hx r => txP_tx s r (h6 s hx))]
  simp only [Option.bind_some]
  rw [listP_all (one := prP) (f := pB) 6 x.props _ hp (by omega) (fun p hx r => prP_pr p r (h7 p hx).1 (h7 p hx).2)]
  rfl

/-- Operations that are told. -/
def OkO (x : AO) : Prop := OpW x ∧ x.pr.name.size ≤ 12 ∧ x.labs.length ≤ 4 ∧ x.props.length ≤ 6 ∧ (∀ s ∈ x.labs, s.size ≤ 12) ∧ ∀ p ∈ x.props, p.name.size ≤ 12
def OkOs (X : List AO) : Prop := X.length ≤ 20 ∧ ∀ x ∈ X, OkO x

theorem osP_os {X : List AO} (h : OkOs X) : osP (osB X) = some (X, []) := by
  have := listP_all (one := opP) (f := oB) 20 X [] h.1 (by omega) (fun x hx r => opP_op x r (h.2 x hx).1 (h.2 x hx).2.2.1 (h.2 x hx).2.2.2.1)
  rw [List.append_nil] at this
  exact this

/-- An operation in rows that A allows. -/
def OQ (A : Nat → Prop) (w : World) (p : Oq) (x : AO) : Prop :=
  ((p.k = x.k ∧ -9223372036854775808 ≤ x.k ∧ x.k ≤ 9223372036854775807) ∧ (p.id = x.id ∧ -9223372036854775808 ≤ x.id ∧ x.id ≤ 9223372036854775807) ∧ (p.frm = x.frm ∧ -9223372036854775808 ≤ x.frm ∧ x.frm ≤ 9223372036854775807) ∧ (p.dst = x.dst ∧ -9223372036854775808 ≤ x.dst ∧ x.dst ≤ 9223372036854775807)) ∧ PrIn A w p.pr x.pr ∧ p.labs = x.labs ∧ w.ownsRow 0 9 1 (.slice p.la p.ll p.lc) x.labs.length (strs x.labs) ∧ OwnB A (.slice p.la p.ll p.lc) ∧ (∀ s ∈ x.labs, s.size ≤ 100000000000000) ∧ w.ownsRow 0 63 5 (.slice p.pa p.pl p.pc) p.props.length (rowP p.props) ∧ OwnB A (.slice p.pa p.pl p.pc) ∧ Pair2 (PrIn A w) p.props x.props

theorem OQ.keeps {A A' : Nat → Prop} {w w' : World} {p : Oq} {x : AO} (h : OQ A w p x) (k : Keep A A' w w') : OQ A' w' p x := by
  obtain ⟨h1, h0, h2, h3, h4, h5, h6, h7, h8⟩ := h
  exact ⟨h1, h0.kept k, h2, row_keep h3 fun g hg hl => (k.2 g (h4 g hg) hl).2, fun g hg => (k.2 g (h4 g hg) (h3.lt g hg).2).1, h5, row_keep h6 fun g hg hl => (k.2 g (h7 g hg) hl).2, fun g hg => (k.2 g (h7 g hg) (h6.lt g hg).2).1, h8.mono fun p x _ _ hp => hp.kept k⟩

theorem OQ.reads {A : Nat → Prop} {w : World} {p : Oq} {x : AO} (h : OQ A w p x) : OpIn w p x := by
  obtain ⟨h1, h0, h2, h3, h4, h5, h6, h7, h8⟩ := h
  refine ⟨⟨h1.1.1, h1.2.1.1, h1.2.2.1.1, h1.2.2.2.1⟩, h0.any, h2, ?_, row_props h6 (fun q hq => ?_), h8.mono fun _ _ _ _ hp => hp.any⟩
  · rw [h2]
    exact row_strs h3 (fun s hs => by have := h5 s hs; omega)
  · obtain ⟨y, _, hy⟩ := pair_mem' h8 hq
    exact hy.2.1

def fitP (q : Pr) : Bool := decide (q.name.size ≤ 12) && (q.e == 0)
def fitS (s : ByteArray) : Bool := decide (s.size ≤ 12)
def fitO (p : Oq) : Bool := decide (p.pr.name.size ≤ 12) && (decide (p.labs.length ≤ 4) && (decide (p.props.length ≤ 6) && ((p.pr.e == 0) && (p.labs.all fitS && p.props.all fitP))))

/-- What is asked of an operation in memory. -/
def OOk (w : World) (p : Oq) : Prop := (p.pr.name.size ≤ 9223372036854775807 ∧ PrOk w p.pr) ∧ StrsAt w p.labs p.la p.ll ∧ PropsAt w p.props p.pa p.pl ∧ ∀ q ∈ p.props, PrOk w q

theorem OOk.below {w w' : World} {p : Oq} (h : OOk w p) (k : Below w.heap.size w w') : OOk w' p := ⟨⟨h.1.1, h.1.2.below k⟩, h.2.1.below k, h.2.2.1.below k, fun q hq => (h.2.2.2 q hq).below k⟩

theorem all_no {α : Type} {f : α → Bool} {L : List α} {i : Nat} {x : α} (h : L[i]? = some x) (hf : f x = false) : L.all f = false := by
  rw [List.all_eq_false]
  exact ⟨x, List.mem_of_getElem? h, by simp [hf]⟩
theorem all_step {α : Type} {f : α → Bool} {L : List α} {i : Nat} {x : α} (h : L[i]? = some x) (hp : (L.take i).all f = true) (hf : f x = true) : (L.take (i + 1)).all f = true := by
  rw [List.take_add_one, h, List.all_append, hp]
  simp [hf]
theorem all_end {α : Type} {f : α → Bool} {L : List α} {i : Nat} (h : L.length ≤ i) (hp : (L.take i).all f = true) : L.all f = true := by
  rwa [List.take_of_length_le h] at hp

theorem chk_of {w : World} {q : Pr} (h : PrOk w q) (W : World) (k : Below w.heap.size w W) : Calls Tryd.prog 24 #[.agg #[.int .i64 q.k, .int .i64 q.n, .string q.s, .slice q.a q.l q.c]] W fun e w' => e = .returned (.int .i64 q.e) ∧ Below W.heap.size W w' := by
  obtain ⟨hs, L, _, _, hb, _⟩ := h
  exact check_of q.k q.n q.s q.a q.l q.c q.e W fun w3 k3 => (hb w3 (below2 k k3)).1

set_option maxHeartbeats 4000000 in
set_option maxRecDepth 100000 in
theorem fits_any (p : Oq) (w : World) (h : OOk w p) :
    Calls Tryd.prog 9 #[.agg #[.int .i64 p.k, .int .i64 p.id, .int .i64 p.frm, .int .i64 p.dst, .string p.pr.name, .int .i64 p.pr.k, .int .i64 p.pr.n, .string p.pr.s, .slice p.pr.a p.pr.l p.pr.c, .slice p.la p.ll p.lc, .slice p.pa p.pl p.pc]] w fun e w' => e = .returned (.bool (fitO p)) ∧ Below w.heap.size w w' := by
  obtain ⟨⟨hnl, hpr⟩, hS, hP, hok⟩ := h
  obtain ⟨R, hR⟩ : ∃ R, R = fitO p := ⟨_, rfl⟩
  rw [← hR]
  have HR := toHid hR
  obtain ⟨la, hla⟩ : ∃ la, p.la = la := ⟨_, rfl⟩
  obtain ⟨pa, hpa⟩ : ∃ pa, p.pa = pa := ⟨_, rfl⟩
  rw [hla] at hS ⊢
  rw [hpa] at hP ⊢
  clear hla hpa
  have HS := toHid hS
  have HP := toHid hP
  have HOK := toHid hok
  have HC := toHid (chk_of hpr)
  have hll := hS.1
  have hlm := hS.2.1
  have hpl := hP.1
  have hpm := hP.2.1
  have HLL := toHid hll
  have HPL := toHid hpl
  have kA : Below w.heap.size w (w.alloc (.cells #[.int .i64 p.k, .int .i64 p.id, .int .i64 p.frm, .int .i64 p.dst, .string p.pr.name, .int .i64 p.pr.k, .int .i64 p.pr.n, .string p.pr.s, .slice p.pr.a p.pr.l p.pr.c, .slice la p.ll p.lc, .slice pa p.pl p.pc] 38)) := (Below.refl _ _).alloc (Nat.le_refl _) _
  have HA := toHid (alloc_new w (.cells #[.int .i64 p.k, .int .i64 p.id, .int .i64 p.frm, .int .i64 p.dst, .string p.pr.name, .int .i64 p.pr.k, .int .i64 p.pr.n, .string p.pr.s, .slice p.pr.a p.pr.l p.pr.c, .slice la p.ll p.lc, .slice pa p.pl p.pc] 38))
  have hz : (w.alloc (.cells #[.int .i64 p.k, .int .i64 p.id, .int .i64 p.frm, .int .i64 p.dst, .string p.pr.name, .int .i64 p.pr.k, .int .i64 p.pr.n, .string p.pr.s, .slice p.pr.a p.pr.l p.pr.c, .slice la p.ll p.lc, .slice pa p.pl p.pc] 38)).heap.size = w.heap.size + 1 := by simp
  have HZ := toHid hz
  clear hR hS hP hok hpr hz hll hpl
  go_enter Tryd.func9, Tryd.ntmps9
  go_upto_region 1 with fail
  generalize w.alloc (.cells #[.int .i64 p.k, .int .i64 p.id, .int .i64 p.frm, .int .i64 p.dst, .string p.pr.name, .int .i64 p.pr.k, .int .i64 p.pr.n, .string p.pr.s, .slice p.pr.a p.pr.l p.pr.c, .slice la p.ll p.lc, .slice pa p.pl p.pc] 38) = W0 at kA HA HZ ⊢
  have z0 : w.heap.size < W0.heap.size := by rw [HZ.out]; omega
  have r4 := cell_of HA.out 4
  have r5 := cell_of HA.out 5
  have r6 := cell_of HA.out 6
  have r7 := cell_of HA.out 7
  have r8 := cell_of HA.out 8
  have r9 := cell_of HA.out 9
  have r10 := cell_of HA.out 10
  simp at r4 r5 r6 r7 r8 r9 r10
  by_cases h1 : 12 < p.pr.name.size
  · have h1' : (12 : Int) < p.pr.name.size := by omega
    have H3 := toHid (show R = false by rw [HR.out, fitO, decide_eq_false (by omega)]; rfl)
    go_wp2_with fail
    go_ret
    exact ⟨ret_bool (by rw [H3.out]), kA⟩
  have h1' : ¬ (12 : Int) < p.pr.name.size := by omega
  by_cases h2 : 4 < p.ll
  · have h2' : (4 : Int) < p.ll := by omega
    have H3 := toHid (show R = false by rw [HR.out, fitO, decide_eq_false (p := p.labs.length ≤ 4) (by have := HLL.out; omega)]; simp)
    go_wp2_with fail
    go_ret
    exact ⟨ret_bool (by rw [H3.out]), kA⟩
  have h2' : ¬ (4 : Int) < p.ll := by omega
  by_cases h3 : 6 < p.pl
  · have h3' : (6 : Int) < p.pl := by omega
    have H3 := toHid (show R = false by rw [HR.out, fitO, decide_eq_false (p := p.props.length ≤ 6) (by have := HPL.out; omega)]; simp)
    go_wp2_with fail
    go_ret
    exact ⟨ret_bool (by rw [H3.out]), kA⟩
  have h3' : ¬ (6 : Int) < p.pl := by omega
  have HR1 : Hid (R = ((p.pr.e == 0) && (p.labs.all fitS && p.props.all fitP))) := by
    show _ = _
    rw [HR.out, fitO, decide_eq_true (by omega), decide_eq_true (p := p.labs.length ≤ 4) (by have := HLL.out; omega), decide_eq_true (p := p.props.length ≤ 6) (by have := HPL.out; omega)]
    rfl
  have HCC := toHid (HC.out W0 kA)
  clear HR
  go_wp2_with fail
  refine HCC.out.mono ?_
  rintro e w1 ⟨rfl, k1⟩
  have HA1 := toHid ((k1.block w.heap.size z0).trans HA.out)
  have HK1 := toHid (below2 kA k1)
  have z1 : w.heap.size < w1.heap.size := (Array.getElem?_eq_some_iff.1 HA1.out).1
  clear k1 r4 r5 r6 r7 r8 r9 r10 HCC
  by_cases he : p.pr.e = 0
  rotate_left
  · have he' : (p.pr.e == 0) = false := by simpa using he
    have he2 : (p.pr.e != 0) = true := by simpa using he
    have H3 := toHid (show R = false by rw [HR1.out, he']; rfl)
    go_wp2_with fail
    go_ret
    exact ⟨ret_bool (by rw [H3.out]), HK1.out⟩
  have he' : (p.pr.e == 0) = true := by simpa using he
  have he2 : (p.pr.e != 0) = false := by simpa using he
  have HR2 : Hid (R = (p.labs.all fitS && p.props.all fitP)) := by
    show _ = _
    rw [HR1.out, he', Bool.true_and]
  clear HR1
  have r9 := cell_of HA1.out 9
  have r10 := cell_of HA1.out 10
  simp at r9 r10
  go_wp2_with fail
  go_loopg [32] p.ll (fun g s32 wr => ∃ (i : Nat), i ≤ p.ll ∧ p.ll - i ≤ g ∧ s32 = .int .i64 i ∧ wr = w1 ∧ (p.labs.take i).all fitS = true)
  case atStart => exact ⟨0, Nat.zero_le _, by omega, rfl, rfl, by simp⟩
  case round =>
    obtain ⟨i, hi, hg, rfl, rfl, hal⟩ := hrel
    have HAL := toHid hal
    clear hal
    by_cases hlt : i < p.ll
    · have hil : (i : Int) < p.ll := by omega
      obtain ⟨nb, off, ha, hnb, hc⟩ := HS.out.2.2 (by omega)
      obtain ⟨y, hy⟩ : ∃ y, p.labs[i]? = some y := ⟨p.labs[i]'(by rw [← HLL.out]; exact hlt), List.getElem?_eq_getElem _⟩
      obtain ⟨hs, c0⟩ := hc i y hy
      have d0 : wr.cell? ⟨nb, off + i, none⟩ = some (.string y) := (HK1.out.cell (p := ⟨nb, off + i, none⟩) hnb).trans c0
      have HY := toHid hy
      subst ha
      clear hc c0 hy
      by_cases hsz : 12 < y.size
      · have hsz' : (12 : Int) < y.size := by omega
        have H3 := toHid (show R = false by rw [HR2.out, all_no HY.out (by simp [fitS]; omega)]; rfl)
        go_wp2_with fail
        go_ret
        exact ⟨ret_bool (by rw [H3.out]), HK1.out⟩
      · have hsz' : ¬ (12 : Int) < y.size := by omega
        go_wp2_with fail
        go_roundg (p.ll - (i + 1))
        case measure => omega
        case rel => exact ⟨i + 1, by omega, by omega, by go_num, rfl, all_step HY.out HAL.out (by simp [fitS]; omega)⟩
    · have hil : ¬ (i : Int) < p.ll := by omega
      have HR3 : Hid (R = p.props.all fitP) := by
        show _ = _
        rw [HR2.out, all_end (i := i) (by have := HLL.out; omega) HAL.out, Bool.true_and]
      clear HR2 HAL
      go_wp2_with fail
      go_loopg [43] p.pl (fun g s43 wq => ∃ (j : Nat), j ≤ p.pl ∧ p.pl - j ≤ g ∧ s43 = .int .i64 j ∧ Below w.heap.size w wq ∧ (p.props.take j).all fitP = true)
      case atStart => exact ⟨0, Nat.zero_le _, by omega, rfl, HK1.out, by simp⟩
      case round =>
        obtain ⟨j, hj, hgj, rfl, hbw, hal⟩ := hrel
        have HAL := toHid hal
        clear hal
        by_cases hlj : j < p.pl
        · have hjl : (j : Int) < p.pl := by omega
          obtain ⟨nb, off, ha, hnb, hc⟩ := HP.out.2.2 (by omega)
          obtain ⟨q, hq⟩ : ∃ q, p.props[j]? = some q := ⟨p.props[j]'(by rw [← HPL.out]; exact hlj), List.getElem?_eq_getElem _⟩
          obtain ⟨hs, c0, c1, c2, c3, c4⟩ := hc j q hq
          have qq : ∀ o, wr.cell? ⟨nb, o, none⟩ = w.cell? ⟨nb, o, none⟩ := fun o => hbw.cell (p := ⟨nb, o, none⟩) hnb
          have d0 := (qq _).trans c0
          have d1 := (qq _).trans c1
          have d2 := (qq _).trans c2
          have d3 := (qq _).trans c3
          have d4 := (qq _).trans c4
          have HY := toHid hq
          subst ha
          clear hc c0 c1 c2 c3 c4 hq qq
          have kP : Below wr.heap.size wr (wr.alloc (.cells #[.string q.name, .int .i64 q.k, .int .i64 q.n, .string q.s, .slice q.a q.l q.c] 63)) := (Below.refl _ _).alloc (Nat.le_refl _) _
          have HB := toHid (alloc_new wr (.cells #[.string q.name, .int .i64 q.k, .int .i64 q.n, .string q.s, .slice q.a q.l q.c] 63))
          have HKP := toHid (below2 hbw kP)
          go_upto_region 12 with fail
          generalize wr.alloc (.cells #[.string q.name, .int .i64 q.k, .int .i64 q.n, .string q.s, .slice q.a q.l q.c] 63) = WP at kP HB HKP ⊢
          clear d0 d1 d2 d3 d4
          have t0 := cell_of HB.out 0
          have t1 := cell_of HB.out 1
          have t2 := cell_of HB.out 2
          have t3 := cell_of HB.out 3
          have t4 := cell_of HB.out 4
          simp at t0 t1 t2 t3 t4
          by_cases hsz : 12 < q.name.size
          · have hsz' : (12 : Int) < q.name.size := by omega
            have H3 := toHid (show R = false by rw [HR3.out, all_no HY.out (by simp [fitP]; omega)])
            go_wp2_with fail
            go_ret
            exact ⟨ret_bool (by rw [H3.out]), HKP.out⟩
          · have hsz' : ¬ (12 : Int) < q.name.size := by omega
            have HCC := toHid (chk_of (HOK.out q (List.mem_of_getElem? HY.out)) WP HKP.out)
            go_wp2_with fail
            refine HCC.out.mono ?_
            rintro e w2 ⟨rfl, k2⟩
            have HK2 := toHid (below2 HKP.out k2)
            clear k2 HCC t0 t1 t2 t3 t4
            by_cases hq : q.e = 0
            · have hq2 : (q.e != 0) = false := by simpa using hq
              have hq3 : (q.e == 0) = true := by simpa using hq
              go_wp2_with fail
              go_roundg (p.pl - (j + 1))
              case measure => omega
              case rel => exact ⟨j + 1, by omega, by omega, by go_num, HK2.out, all_step HY.out HAL.out (by simp [fitP, hq]; omega)⟩
            · have hq2 : (q.e != 0) = true := by simpa using hq
              have H3 := toHid (show R = false by rw [HR3.out, all_no HY.out (by simp [fitP, hq])])
              go_wp2_with fail
              go_ret
              exact ⟨ret_bool (by rw [H3.out]), HK2.out⟩
        · have hjl : ¬ (j : Int) < p.pl := by omega
          have H3 := toHid (show R = true by rw [HR3.out, all_end (i := j) (by have := HPL.out; omega) HAL.out])
          go_wp2_with fail
          go_ret
          exact ⟨ret_bool (by rw [H3.out]), hbw⟩

set_option maxHeartbeats 4000000 in
set_option maxRecDepth 100000 in
theorem op_any (w0 w : World) (b : Nat) (l : List UInt8) (p : Oq) (y : AO) (hp : OpIn w0 p y) (hok : OpW y) (hw : Below w0.heap.size w0 w) (hb : w0.heap.size ≤ b) (hW : Wr b w l) (hlen : (l ++ oB y).length ≤ 100000000000000) :
    Calls Tryd.prog 11 #[.pointer (some ⟨b, 0, none⟩), .agg #[.int .i64 p.k, .int .i64 p.id, .int .i64 p.frm, .int .i64 p.dst, .string p.pr.name, .int .i64 p.pr.k, .int .i64 p.pr.n, .string p.pr.s, .slice p.pr.a p.pr.l p.pr.c, .slice p.la p.ll p.lc, .slice p.pa p.pl p.pc]] w fun e w' => e = .returned (.tuple #[]) ∧ Wr b w' (l ++ oB y) ∧ Below b w w' ∧ Fr b w w' := by
  obtain ⟨⟨e1, e2, e3, e4⟩, ⟨hnm, hs1, hs2, hlc, Lt, ht, hL⟩, hlb, hS, hP, hpr⟩ := hp
  obtain ⟨⟨hin1, hin2, hin3, hin4⟩, ⟨hsz, hck⟩, hls, hpk⟩ := hok
  have HS : Hid (StrsAt w0 y.labs p.la p.ll) := by rw [← hlb]; exact hS
  have HP : Hid (PsAt w0 y.props p.pa p.pl) := ⟨_, hP, hpr⟩
  have HPK := toHid hpk
  have HLS := toHid hls
  have HL := toHid hL
  have HCK : Hid (Ck 6 (.node p.pr.k p.pr.n p.pr.s Lt)) := by rw [← ht]; exact hck
  have HE : Hid (oB y = numB p.k ++ (numB p.id ++ (numB p.frm ++ (numB p.dst ++ (txB p.pr.name ++ (vB (.node p.pr.k p.pr.n p.pr.s Lt) ++ (eaB txB y.labs ++ eaB pB y.props))))))) := by
    show _ = _
    rw [e1, e2, e3, e4, hnm, ← ht]
    rfl
  rw [HE.out] at hlen
  rw [← e1] at hin1
  rw [← e2] at hin2
  rw [← e3] at hin3
  rw [← e4] at hin4
  rw [← hnm] at hsz
  clear hP hpr hpk hls hL hck e1 e2 e3 e4 hnm hS hlb ht hs1 hs2 hlc
  have hlt := hW.lt
  have hne : w.heap.size ≠ b := by omega
  have kA : Below w.heap.size w (w.alloc (.cells #[.int .i64 p.k, .int .i64 p.id, .int .i64 p.frm, .int .i64 p.dst, .string p.pr.name, .int .i64 p.pr.k, .int .i64 p.pr.n, .string p.pr.s, .slice p.pr.a p.pr.l p.pr.c, .slice p.la p.ll p.lc, .slice p.pa p.pl p.pc] 38)) := (Below.refl _ _).alloc (Nat.le_refl _) _
  have HWA := toHid (hW.below kA)
  have HNA := toHid (alloc_new w (.cells #[.int .i64 p.k, .int .i64 p.id, .int .i64 p.frm, .int .i64 p.dst, .string p.pr.name, .int .i64 p.pr.k, .int .i64 p.pr.n, .string p.pr.s, .slice p.pr.a p.pr.l p.pr.c, .slice p.la p.ll p.lc, .slice p.pa p.pl p.pc] 38))
  have h0A : Below w0.heap.size w0 (w.alloc (.cells #[.int .i64 p.k, .int .i64 p.id, .int .i64 p.frm, .int .i64 p.dst, .string p.pr.name, .int .i64 p.pr.k, .int .i64 p.pr.n, .string p.pr.s, .slice p.pr.a p.pr.l p.pr.c, .slice p.la p.ll p.lc, .slice p.pa p.pl p.pc] 38)) := hw.trans (kA.mono hw.size)
  have HBA := toHid (kA.mono (Nat.le_of_lt hlt))
  have HFA : Hid (Fr b w (w.alloc (.cells #[.int .i64 p.k, .int .i64 p.id, .int .i64 p.frm, .int .i64 p.dst, .string p.pr.name, .int .i64 p.pr.k, .int .i64 p.pr.n, .string p.pr.s, .slice p.pr.a p.pr.l p.pr.c, .slice p.la p.ll p.lc, .slice p.pa p.pl p.pc] 38))) := Fr.below kA
  have hz : (w.alloc (.cells #[.int .i64 p.k, .int .i64 p.id, .int .i64 p.frm, .int .i64 p.dst, .string p.pr.name, .int .i64 p.pr.k, .int .i64 p.pr.n, .string p.pr.s, .slice p.pr.a p.pr.l p.pr.c, .slice p.la p.ll p.lc, .slice p.pa p.pl p.pc] 38)).heap.size = w.heap.size + 1 := by simp
  have HZ := toHid hz
  clear hW hz
  go_enter Tryd.func11, Tryd.ntmps11
  go_upto_region 1 with fail
  generalize w.alloc (.cells #[.int .i64 p.k, .int .i64 p.id, .int .i64 p.frm, .int .i64 p.dst, .string p.pr.name, .int .i64 p.pr.k, .int .i64 p.pr.n, .string p.pr.s, .slice p.pr.a p.pr.l p.pr.c, .slice p.la p.ll p.lc, .slice p.pa p.pl p.pc] 38) = W0 at kA HWA HNA h0A HBA HFA HZ ⊢
  have hn0 : w.heap.size < W0.heap.size := by rw [HZ.out]; omega
  have r0 := cell_of HNA.out 0
  simp at r0
  go_wp2_with fail
  refine (number_any b p.k (l) W0 HWA.out hin1.1 hin1.2 (by simp only [List.length_append] at hlen ⊢; omega)).mono ?_
  rintro e u1 ⟨rfl, hW1, hb1, hf1⟩
  have HW1 := toHid hW1
  have HB1 := toHid (HBA.out.trans hb1)
  have HF1 := toHid (HFA.out.trans hf1)
  have HN1 := toHid (hf1 w.heap.size _ _ _ HNA.out (by decide) hne)
  have g1 : Below w0.heap.size w0 u1 := h0A.trans (hb1.mono hb)
  have hn1 : w.heap.size < u1.heap.size := (Array.getElem?_eq_some_iff.1 HN1.out).1
  clear hW1 hb1 hf1 r0
  have r1 := cell_of HN1.out 1
  simp at r1
  go_wp2_with fail
  refine (number_any b p.id (l ++ numB p.k) u1 HW1.out hin2.1 hin2.2 (by simp only [List.length_append] at hlen ⊢; omega)).mono ?_
  rintro e u2 ⟨rfl, hW2, hb2, hf2⟩
  have HW2 := toHid hW2
  have HB2 := toHid (HB1.out.trans hb2)
  have HF2 := toHid (HF1.out.trans hf2)
  have HN2 := toHid (hf2 w.heap.size _ _ _ HN1.out (by decide) hne)
  have g2 : Below w0.heap.size w0 u2 := g1.trans (hb2.mono hb)
  have hn2 : w.heap.size < u2.heap.size := (Array.getElem?_eq_some_iff.1 HN2.out).1
  clear hW2 hb2 hf2 r1
  have r2 := cell_of HN2.out 2
  simp at r2
  go_wp2_with fail
  refine (number_any b p.frm ((l ++ numB p.k) ++ numB p.id) u2 HW2.out hin3.1 hin3.2 (by simp only [List.length_append] at hlen ⊢; omega)).mono ?_
  rintro e u3 ⟨rfl, hW3, hb3, hf3⟩
  have HW3 := toHid hW3
  have HB3 := toHid (HB2.out.trans hb3)
  have HF3 := toHid (HF2.out.trans hf3)
  have HN3 := toHid (hf3 w.heap.size _ _ _ HN2.out (by decide) hne)
  have g3 : Below w0.heap.size w0 u3 := g2.trans (hb3.mono hb)
  have hn3 : w.heap.size < u3.heap.size := (Array.getElem?_eq_some_iff.1 HN3.out).1
  clear hW3 hb3 hf3 r2
  have r3 := cell_of HN3.out 3
  simp at r3
  go_wp2_with fail
  refine (number_any b p.dst (((l ++ numB p.k) ++ numB p.id) ++ numB p.frm) u3 HW3.out hin4.1 hin4.2 (by simp only [List.length_append] at hlen ⊢; omega)).mono ?_
  rintro e u4 ⟨rfl, hW4, hb4, hf4⟩
  have HW4 := toHid hW4
  have HB4 := toHid (HB3.out.trans hb4)
  have HF4 := toHid (HF3.out.trans hf4)
  have HN4 := toHid (hf4 w.heap.size _ _ _ HN3.out (by decide) hne)
  have g4 : Below w0.heap.size w0 u4 := g3.trans (hb4.mono hb)
  have hn4 : w.heap.size < u4.heap.size := (Array.getElem?_eq_some_iff.1 HN4.out).1
  clear hW4 hb4 hf4 r3
  have r4 := cell_of HN4.out 4
  simp at r4
  go_wp2_with fail
  refine (text_any b p.pr.name ((((l ++ numB p.k) ++ numB p.id) ++ numB p.frm) ++ numB p.dst) u4 HW4.out hsz (by simp only [List.length_append] at hlen ⊢; omega)).mono ?_
  rintro e u5 ⟨rfl, hW5, hb5, hf5⟩
  have HW5 := toHid hW5
  have HB5 := toHid (HB4.out.trans hb5)
  have HF5 := toHid (HF4.out.trans hf5)
  have HN5 := toHid (hf5 w.heap.size _ _ _ HN4.out (by decide) hne)
  have g5 : Below w0.heap.size w0 u5 := g4.trans (hb5.mono hb)
  have hn5 : w.heap.size < u5.heap.size := (Array.getElem?_eq_some_iff.1 HN5.out).1
  clear hW5 hb5 hf5 r4
  have r5 := cell_of HN5.out 5
  have r6 := cell_of HN5.out 6
  have r7 := cell_of HN5.out 7
  have r8 := cell_of HN5.out 8
  simp at r5 r6 r7 r8
  go_wp2_with fail
  refine (value_any w0 b hb 6 p.pr.k p.pr.n p.pr.s Lt p.pr.a p.pr.l p.pr.c HCK.out HL.out u5 (((((l ++ numB p.k) ++ numB p.id) ++ numB p.frm) ++ numB p.dst) ++ txB p.pr.name) g5 HW5.out (by simp only [List.length_append] at hlen ⊢; omega)).mono ?_
  rintro e u6 ⟨rfl, hW6, hb6, hf6⟩
  have HW6 := toHid hW6
  have HB6 := toHid (HB5.out.trans hb6)
  have HF6 := toHid (HF5.out.trans hf6)
  have HN6 := toHid (hf6 w.heap.size _ _ _ HN5.out (by decide) hne)
  have g6 : Below w0.heap.size w0 u6 := g5.trans (hb6.mono hb)
  have hn6 : w.heap.size < u6.heap.size := (Array.getElem?_eq_some_iff.1 HN6.out).1
  clear hW6 hb6 hf6 r5 r6 r7 r8
  have r9 := cell_of HN6.out 9
  simp at r9
  go_wp2_with fail
  refine (eachS_any w0 u6 b ((((((l ++ numB p.k) ++ numB p.id) ++ numB p.frm) ++ numB p.dst) ++ txB p.pr.name) ++ vB (.node p.pr.k p.pr.n p.pr.s Lt)) y.labs p.la p.ll p.lc HS.out g6 hb HW6.out (by simp only [List.length_append] at hlen ⊢; omega) HLS.out).mono ?_
  rintro e u7 ⟨rfl, hW7, hb7, hf7⟩
  have HW7 := toHid hW7
  have HB7 := toHid (HB6.out.trans hb7)
  have HF7 := toHid (HF6.out.trans hf7)
  have HN7 := toHid (hf7 w.heap.size _ _ _ HN6.out (by decide) hne)
  have g7 : Below w0.heap.size w0 u7 := g6.trans (hb7.mono hb)
  have hn7 : w.heap.size < u7.heap.size := (Array.getElem?_eq_some_iff.1 HN7.out).1
  clear hW7 hb7 hf7 r9
  have r10 := cell_of HN7.out 10
  simp at r10
  go_wp2_with fail
  refine (eachP_any w0 u7 b (((((((l ++ numB p.k) ++ numB p.id) ++ numB p.frm) ++ numB p.dst) ++ txB p.pr.name) ++ vB (.node p.pr.k p.pr.n p.pr.s Lt)) ++ eaB txB y.labs) y.props p.pa p.pl p.pc HP.out g7 hb HW7.out (by simp only [List.length_append] at hlen ⊢; omega) HPK.out).mono ?_
  rintro e u8 ⟨rfl, hW8, hb8, hf8⟩
  have HW8 := toHid hW8
  have HB8 := toHid (HB7.out.trans hb8)
  have HF8 := toHid (HF7.out.trans hf8)
  have HN8 := toHid (hf8 w.heap.size _ _ _ HN7.out (by decide) hne)
  have g8 : Below w0.heap.size w0 u8 := g7.trans (hb8.mono hb)
  have hn8 : w.heap.size < u8.heap.size := (Array.getElem?_eq_some_iff.1 HN8.out).1
  clear hW8 hb8 hf8 r10
  go_wp2_with fail
  exact bodyPost_end (v := .tuple #[]) (by simp [results, Tryd.results11, go_sem]) rfl ⟨rfl, by have := HW8.out; simp only [List.append_assoc] at this; rw [HE.out]; exact this, HB8.out, HF8.out⟩

set_option maxHeartbeats 2000000 in
set_option maxRecDepth 100000 in
theorem eachO_any (w0 w : World) (b : Nat) (l : List UInt8) (X : List AO) (a : Option Addr) (n c : Nat) (hX : OsAt w0 X a n) (hw : Below w0.heap.size w0 w) (hb : w0.heap.size ≤ b) (h : Wr b w l) (hlen : (l ++ eaB oB X).length ≤ 100000000000000) (hok : ∀ x ∈ X, OpW x) :
    Calls Tryd.prog 10 #[.pointer (some ⟨b, 0, none⟩), .slice a n c, .func (.func 11) #[.pointer (some ⟨b, 0, none⟩)] #[]] w fun e w' => e = .returned (.tuple #[]) ∧ Wr b w' (l ++ eaB oB X) ∧ Below b w w' ∧ Fr b w w' := by
  have hn : n = X.length ∧ n ≤ 9223372036854775807 := at_lenO hX
  have hlen' : l.length + ((bts n).length + ((X.map oB).flatten).length) ≤ 100000000000000 := by
    have e := hlen
    unfold eaB at e
    rw [← hn.1, List.length_append, List.length_append] at e
    exact e
  have HX := toHid hX
  have HN := toHid hn.1
  have hn2 := hn.2
  have HW := toHid h
  have HOK := toHid hok
  clear hok
  clear hX hn h hlen
  go_enter Tryd.func10, Tryd.ntmps10
  go_wp2_with fail
  refine (bits_any b n l w HW.out (by omega) (by omega)).mono ?_
  rintro e w1 ⟨rfl, hW1, hb1, hf1⟩
  have HW1 := toHid hW1
  clear hW1 HW
  go_wp2_with fail
  go_loopg [15] n (fun g s15 wr => ∃ (i : Nat), i ≤ n ∧ n - i ≤ g ∧ s15 = .int .i64 i ∧ Wr b wr (l ++ (bts n ++ ((X.take i).map oB).flatten)) ∧ Below b w wr ∧ Fr b w wr)
  case atStart => exact ⟨0, Nat.zero_le _, by omega, rfl, by simpa using HW1.out, hb1, hf1⟩
  case round =>
    clear HW1 hb1 hf1
    obtain ⟨i, hi, hg, rfl, hW, hbw, hfr⟩ := hrel
    have HW := toHid hW
    clear hW
    have hw0 : Below w0.heap.size w0 wr := hw.trans (hbw.mono hb)
    have hlb := HW.out.lt
    by_cases hlt : i < n
    · have hil : (i : Int) < n := by omega
      obtain ⟨y, hy⟩ : ∃ y, X[i]? = some y := ⟨X[i]'(by rw [← HN.out]; exact hlt), List.getElem?_eq_getElem _⟩
      obtain ⟨P0, ⟨hl0, _, hat⟩, hpair⟩ := HX.out
      obtain ⟨p, hp, hpi⟩ := hpair.right hy
      obtain ⟨nb, off, ha, hnb, hc⟩ := hat (by omega)
      subst ha
      obtain ⟨c0, c1, c2, c3, c4, c5, c6, c7, c8, c9, c10⟩ := hc i p hp
      have HPI := toHid hpi
      have q : ∀ o, wr.cell? ⟨nb, o, none⟩ = w0.cell? ⟨nb, o, none⟩ := fun o => hw0.cell (p := ⟨nb, o, none⟩) hnb
      have d0 := (q _).trans c0
      have d1 := (q _).trans c1
      have d2 := (q _).trans c2
      have d3 := (q _).trans c3
      have d4 := (q _).trans c4
      have d5 := (q _).trans c5
      have d6 := (q _).trans c6
      have d7 := (q _).trans c7
      have d8 := (q _).trans c8
      have d9 := (q _).trans c9
      have d10 := (q _).trans c10
      clear q c0 c1 c2 c3 c4 c5 c6 c7 c8 c9 c10
      clear hc hp hpi hpair hat hl0
      have HX2 : Hid (X[i]? = some y) := hy
      have hle := flat_le oB X (i + 1)
      have hst := flat_step (f := oB) hy
      rw [hst, List.length_append] at hle
      have HST := toHid hst
      clear hy hst
      go_wp2_with fail
      have kA : Below wr.heap.size wr (wr.alloc (.cells #[.int .i64 p.k, .int .i64 p.id, .int .i64 p.frm, .int .i64 p.dst, .string p.pr.name, .int .i64 p.pr.k, .int .i64 p.pr.n, .string p.pr.s, .slice p.pr.a p.pr.l p.pr.c, .slice p.la p.ll p.lc, .slice p.pa p.pl p.pc] 38)) := (Below.refl _ _).alloc (Nat.le_refl _) _
      have HWA := toHid (HW.out.below kA)
      have h0A : Below w0.heap.size w0 (wr.alloc (.cells #[.int .i64 p.k, .int .i64 p.id, .int .i64 p.frm, .int .i64 p.dst, .string p.pr.name, .int .i64 p.pr.k, .int .i64 p.pr.n, .string p.pr.s, .slice p.pr.a p.pr.l p.pr.c, .slice p.la p.ll p.lc, .slice p.pa p.pl p.pc] 38)) := hw0.trans (kA.mono hw0.size)
      have HBA := toHid (hbw.trans (kA.mono (Nat.le_of_lt hlb)))
      clear d0 d1 d2 d3 d4 d5 d6 d7 d8 d9 d10
      generalize wr.alloc (.cells #[.int .i64 p.k, .int .i64 p.id, .int .i64 p.frm, .int .i64 p.dst, .string p.pr.name, .int .i64 p.pr.k, .int .i64 p.pr.n, .string p.pr.s, .slice p.pr.a p.pr.l p.pr.c, .slice p.la p.ll p.lc, .slice p.pa p.pl p.pc] 38) = WA at kA HWA h0A HBA ⊢
      refine (op_any w0 WA b _ p y HPI.out (HOK.out y (List.mem_of_getElem? HX2.out)) h0A hb HWA.out (by simp only [List.length_append]; omega)).mono ?_
      rintro e w2 ⟨rfl, hW2, hb2, hf2⟩
      have HF2 := toHid ((hfr.trans (Fr.below kA)).trans hf2)
      have HB2 := toHid (HBA.out.trans hb2)
      have HW2 := toHid hW2
      clear hW2 hb2 hf2
      go_wp2_with fail
      go_roundg (n - (i + 1))
      case measure => omega
      case rel => exact ⟨i + 1, by omega, by omega, by go_num, by rw [HST.out, ← List.append_assoc (bts n), ← List.append_assoc l]; exact HW2.out, HB2.out, HF2.out⟩
    · have hil : ¬ (i : Int) < n := by omega
      have hin : i = n := by omega
      have hT : X.take i = X := List.take_of_length_le (by rw [← HN.out]; omega)
      go_wp2_with fail
      exact bodyPost_end (v := .tuple #[]) (by simp [results, Tryd.results10, go_sem]) rfl ⟨rfl, by have := HW.out; rw [hT] at this; unfold eaB; rw [← HN.out]; exact this, hbw, hfr⟩
end Go.Proofs.YtldpionmmplncaaDoor
