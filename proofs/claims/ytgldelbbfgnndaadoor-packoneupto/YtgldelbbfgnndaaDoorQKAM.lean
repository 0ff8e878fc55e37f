/-
  What is proved here: what the texts KrGraph, KrBegin, KrK, KrOf, HSame prove, in one text.
-/
import Derived.Test.YtgldelbbfgnndaaDoorQKAL
import Derived.Defers
import Derived.Recover
import Derived.Test.YtgldelbbfgnndaaDoorQKAG
import Derived.Lib.ConvBytes
import Derived.Test.YtgldelbbfgnndaaDoorQKAF
import Derived.Test.YtgldelbbfgnndaaDoorQKAC
import Derived.Test.YtgldelbbfgnndaaDoorQKAH
namespace Go.Proofs.YtgldelbbfgnndaaDoor
open Go.RowKit
set_option linter.unusedVariables false

set_option maxHeartbeats 4000000 in
set_option maxRecDepth 100000 in
theorem rgraph_any (b : Nat) (w : World) (N : List FN) (E : List FE) (nx : Int) (r : List UInt8) (d : Int) (hN : N.length ≤ 40 ∧ ∀ y ∈ N, y.small) (hE : E.length ≤ 60 ∧ ∀ y ∈ E, y.small) (hx : 0 ≤ nx ∧ nx ≤ 1099511627776) (h : Rd b w (gB nx (N.map FN.an) (E.map FE.ae) ++ r) d) :
    Calls Tryd.prog 24 #[.pointer (some ⟨b, 0, none⟩)] w fun e w' => (∃ na nc ea ec, e = .returned (.agg #[.slice na N.length nc, .slice ea E.length ec, .int .i64 nx]) ∧ GrR b w' na nc ea ec N E) ∧ Rd b w' r d ∧ Below b w w' ∧ Rf b w w' := by
  have hlt := h.lt
  have hne : w.heap.size ≠ b := by omega
  have hsp : gB nx (N.map FN.an) (E.map FE.ae) ++ r = numB nx ++ (eaB (fun x => nB (FN.an x)) N ++ (eaB (fun x => eB (FE.ae x)) E ++ r)) := by
    unfold gB
    simp only [List.append_assoc, eaB, List.length_map, List.map_map]
    rfl
  rw [hsp] at h
  clear hsp
  have kA : Below w.heap.size w (w.alloc (.cells #[.slice none 0 0, .slice none 0 0, .int .i64 0] 25)) := (Below.refl _ _).alloc (Nat.le_refl _) _
  have HR0 := toHid (h.below kA)
  have HA0 := toHid (alloc_new w (.cells #[.slice none 0 0, .slice none 0 0, .int .i64 0] 25))
  have HB0 := toHid (kA.mono (Nat.le_of_lt hlt))
  have HF0 : Hid (Rf b w (w.alloc (.cells #[.slice none 0 0, .slice none 0 0, .int .i64 0] 25))) := Rf.of kA
  have hzA : (w.alloc (.cells #[.slice none 0 0, .slice none 0 0, .int .i64 0] 25)).heap.size = w.heap.size + 1 := by simp
  have z0 : w.heap.size < (w.alloc (.cells #[.slice none 0 0, .slice none 0 0, .int .i64 0] 25)).heap.size := by omega
  clear h hzA
  go_enter Tryd.func24, Tryd.ntmps24
  go_upto_region 1 with fail
  generalize w.alloc (.cells #[.slice none 0 0, .slice none 0 0, .int .i64 0] 25) = u0 at kA HR0 HA0 HB0 HF0 z0 ⊢
  have HC1 := toHid (rnumber_any b u0 nx _ d hx.1 hx.2 HR0.out)
  go_wp2_with fail
  refine HC1.out.mono ?_
  rintro e u1 ⟨rfl, hR1, hb1, hf1⟩
  have HR1 := toHid hR1
  have HB1 := toHid (HB0.out.trans hb1)
  have HF1 := toHid (HF0.out.trans (Nat.le_of_lt z0) hf1)
  have HA1 := toHid ((hf1 w.heap.size z0 hne).trans HA0.out)
  have z1 : w.heap.size < u1.heap.size := (Array.getElem?_eq_some_iff.1 HA1.out).1
  clear hR1 hb1 hf1 HC1
  have HC2 := toHid (rlistN_any b u1 N _ d 40 hN.1 (by omega) hN.2 HR1.out)
  go_wp2_with fail
  refine HC2.out.mono ?_
  rintro e u2 ⟨⟨vN, rfl, PN, hownN, hprN⟩, hR2, hb2, hf2⟩
  have HPN := toHid hprN
  clear hprN
  obtain ⟨aN, cN, rfl, hlcN⟩ := slice_of_row hownN
  have OWN := toHid (row_base hownN (show b + 1 ≤ u1.heap.size by omega) (show w.heap.size < u1.heap.size from z1))
  have HR2 := toHid hR2
  have HB2 := toHid (HB1.out.trans hb2)
  have HF2 := toHid (HF1.out.trans (Nat.le_of_lt z1) hf2)
  have HA2 := toHid ((hf2 w.heap.size z1 hne).trans HA1.out)
  have z2 : w.heap.size < u2.heap.size := (Array.getElem?_eq_some_iff.1 HA2.out).1
  clear hownN
  clear hR2 hb2 hf2 HC2
  have HC3 := toHid (rlistE_any b u2 E _ d 60 hE.1 (by omega) hE.2 HR2.out)
  go_wp2_with fail
  refine HC3.out.mono ?_
  rintro e u3 ⟨⟨vE, rfl, hownE, _⟩, hR3, hb3, hf3⟩
  obtain ⟨aE, cE, rfl, hlcE⟩ := slice_of_row hownE
  have OWE := toHid (row_base hownE (show b + 1 ≤ u2.heap.size by omega) (show w.heap.size < u2.heap.size from z2))
  have HR3 := toHid hR3
  have HB3 := toHid (HB2.out.trans hb3)
  have HF3 := toHid (HF2.out.trans (Nat.le_of_lt z2) hf3)
  have HA3 := toHid ((hf3 w.heap.size z2 hne).trans HA2.out)
  have z3 : w.heap.size < u3.heap.size := (Array.getElem?_eq_some_iff.1 HA3.out).1
  have HPN3 : Hid (Pair2 (NdL b u3) PN N) := HPN.out.mono fun p x _ _ hp => hp.kept fun k cs t hk hc _ => hf3 k (Array.getElem?_eq_some_iff.1 hc).1 (by omega)
  have OWN3 := toHid (OWN.out.kept (fun k hk hn hl => hf3 k hl (by omega)))
  clear hownE
  clear hR3 hb3 hf3 HC3
  have f0 := free_of HA3.out 0
  have f1 := free_of HA3.out 1
  have f2 := free_of HA3.out 2
  have d0 := cell_of HA3.out 0
  have d1 := cell_of HA3.out 1
  have d2 := cell_of HA3.out 2
  simp at d0 d1 d2
  go_wp2_with fail
  have eP : ((u3.setCell ⟨w.heap.size, 0, none⟩ (.slice aN N.length cN)).setCell ⟨w.heap.size, 1, none⟩ (.slice aE E.length cE)).setCell ⟨w.heap.size, 2, none⟩ (.int .i64 nx) = putL u3 w.heap.size 0 [.slice aN N.length cN, .slice aE E.length cE, .int .i64 nx] := rfl
  rw [eP]
  have EBX := box3R HA3.out rfl (.slice aN N.length cN) (.slice aE E.length cE) (.int .i64 nx)
  have hbY : Below w.heap.size u3 (putL u3 w.heap.size 0 [.slice aN N.length cN, .slice aE E.length cE, .int .i64 nx]) := putL_bel w.heap.size _ _ u3
  have hYo : ∀ j, j ≠ w.heap.size → (putL u3 w.heap.size 0 [.slice aN N.length cN, .slice aE E.length cE, .int .i64 nx]).heap[j]? = u3.heap[j]? := fun j hj => putL_other _ _ _ _ j hj
  generalize putL u3 w.heap.size 0 [.slice aN N.length cN, .slice aE E.length cE, .int .i64 nx] = Y at EBX hbY hYo ⊢
  have t0 := cell_of EBX 0
  have t1 := cell_of EBX 1
  have t2 := cell_of EBX 2
  simp at t0 t1 t2
  have HPY : Hid (Pair2 (NdL b Y) PN N) := HPN3.out.mono fun p x _ _ hp => hp.kept fun k cs t hk hc ht => hYo k (fun e => by
    subst e
    rw [HA3.out] at hc
    injection hc with hc
    injection hc with _ e2 _
    rcases ht with rfl | rfl <;> exact absurd e2 (by decide))
  have OYN := toHid (OWN3.out.kept (fun k hk hn hl => hYo k hn))
  have OYE := toHid (OWE.out.kept (fun k hk hn hl => hYo k hn))
  exact bodyPost_ret (v := .agg #[.slice aN N.length cN, .slice aE E.length cE, .int .i64 nx]) (by simp [results, Tryd.results24, go_sem, t0, t1, t2]) rfl ⟨⟨aN, cN, aE, cE, rfl, ⟨PN, OYN.out.1, HPY.out⟩, OYE.out.1⟩, HR3.out.keep (hbY.mono hlt), HB3.out.trans (hbY.mono (Nat.le_of_lt hlt)), fun j hj hn => (hbY.block j hj).trans (HF3.out j hj hn)⟩

theorem begin_idle (w : World) : CallsD Tryd.prog 37 #[] .returning w fun e u' w' => e = .returned (.tuple #[]) ∧ u' = .returning ∧ w' = w := by
  refine callsD_of_wpS Tryd.func37 rfl fun c₀ cs hu => ?_
  have hnil : ∀ w, (binOp .eql 20 .nilIface .nilIface).run Tryd.prog w = .ok (.bool true) w := fun w => run_eql_nil_nil w 20 (by kernel_rfl)
  apply wpS_seq
  apply wpS_region
  simp [wpOpsS, go_sem, recoverD, hu, Tryd.ntmps37, Exit.thenS]
  apply wpS_seq
  apply wpS_seq
  apply wpS_region
  simp [wpOpsS, go_sem, Exit.thenS, hnil]
  refine wpS_cond (t := true) (by simp [Act.eval]) ?_
  simp only [if_true]
  refine wpS_of_wp (wp_ret ?_)
  simp only [Exit.thenS]
  cases c₀
  simp_all [bodyPostS, results, Tryd.results37]

set_option maxHeartbeats 4000000 in
set_option maxRecDepth 100000 in
theorem begin_any (b : Nat) (w : World) (N : List FN) (E : List FE) (nx : Int) (d : Int) (hN : N.length ≤ 40 ∧ ∀ y ∈ N, y.small) (hE : E.length ≤ 60 ∧ ∀ y ∈ E, y.small) (hx : 0 ≤ nx ∧ nx ≤ 1099511627776) (h : Rd b w (gB nx (N.map FN.an) (E.map FE.ae) ++ []) d) :
    Calls Tryd.prog 23 #[.func (.func 24) #[.pointer (some ⟨b, 0, none⟩)] #[]] w fun e w' => (∃ na nc ea ec, e = .returned (.tuple #[.agg #[.slice na N.length nc, .slice ea E.length ec, .int .i64 nx], .bool true]) ∧ GrR b w' na nc ea ec N E) ∧ Below b w w' ∧ Rf b w w' := by
  have hlt := h.lt
  have hne : w.heap.size ≠ b := by omega
  have kA : Below w.heap.size w (w.alloc (.cells #[.slice none 0 0, .slice none 0 0, .int .i64 0] 25)) := (Below.refl _ _).alloc (Nat.le_refl _) _
  have HG := toHid (rgraph_any b _ N E nx [] d hN hE hx (h.below kA))
  have HA := toHid (alloc_new w (.cells #[.slice none 0 0, .slice none 0 0, .int .i64 0] 25))
  have hzA : (w.alloc (.cells #[.slice none 0 0, .slice none 0 0, .int .i64 0] 25)).heap.size = w.heap.size + 1 := by simp
  have HZA := toHid hzA
  clear h hzA
  go_enter_defers Tryd.func23, Tryd.ntmps23
  go_wp2_with fail
  generalize w.alloc (.cells #[.slice none 0 0, .slice none 0 0, .int .i64 0] 25) = WA at kA HG HA HZA ⊢
  refine HG.out.mono ?_
  rintro e u1 ⟨⟨na, nc, ea, ec, rfl, hGr⟩, hR1, hb1, hf1⟩
  have HF1 := toHid ((Rf.of (b := b) kA).trans kA.size hf1)
  have HA1 := toHid ((hf1 w.heap.size (by rw [HZA.out]; omega) hne).trans HA.out)
  have HGR := toHid hGr
  have HB1 := toHid ((kA.mono (Nat.le_of_lt hlt)).trans hb1)
  have z1 : w.heap.size < u1.heap.size := (Array.getElem?_eq_some_iff.1 HA1.out).1
  have f0 := free_of HA1.out 0
  have f1 := free_of HA1.out 1
  have f2 := free_of HA1.out 2
  have d0 := cell_of HA1.out 0
  have d1 := cell_of HA1.out 1
  have d2 := cell_of HA1.out 2
  simp at d0 d1 d2
  clear hGr hR1 hb1 hf1 HG
  go_wp2_with fail
  have eP : ((u1.setCell ⟨w.heap.size, 0, none⟩ (.slice na N.length nc)).setCell ⟨w.heap.size, 1, none⟩ (.slice ea E.length ec)).setCell ⟨w.heap.size, 2, none⟩ (.int .i64 nx) = putL u1 w.heap.size 0 [.slice na N.length nc, .slice ea E.length ec, .int .i64 nx] := rfl
  rw [eP]
  have EBX := box3R HA1.out rfl (.slice na N.length nc) (.slice ea E.length ec) (.int .i64 nx)
  have hbY : Below w.heap.size u1 (putL u1 w.heap.size 0 [.slice na N.length nc, .slice ea E.length ec, .int .i64 nx]) := putL_bel w.heap.size _ _ u1
  have hYo : ∀ j, j ≠ w.heap.size → (putL u1 w.heap.size 0 [.slice na N.length nc, .slice ea E.length ec, .int .i64 nx]).heap[j]? = u1.heap[j]? := fun j hj => putL_other _ _ _ _ j hj
  generalize putL u1 w.heap.size 0 [.slice na N.length nc, .slice ea E.length ec, .int .i64 nx] = Y at EBX hbY hYo ⊢
  have t0 := cell_of EBX 0
  have t1 := cell_of EBX 1
  have t2 := cell_of EBX 2
  simp at t0 t1 t2
  have HGY := toHid (HGR.out.kept (w' := Y) fun k cs t hb hc ht => hYo k (fun e => by
    subst e
    rw [HA1.out] at hc
    injection hc with hc
    injection hc with _ e2 _
    exact ht e2.symm))
  refine leaves_cons (f := 37) (args := #[]) (by simp) (by simp [go_sem]) ?_
  refine (begin_idle _).mono ?_
  rintro e u' w'' ⟨rfl, rfl, rfl⟩
  have hfin : Below b w w'' ∧ Rf b w w'' := ⟨HB1.out.trans (hbY.mono (Nat.le_of_lt hlt)), fun j hj hn => (hbY.block j hj).trans (HF1.out j hj hn)⟩
  simp [Leaves, settle, results, Tryd.results23, go_sem, t0, t1, t2]
  exact ⟨⟨na, nc, ea, ec, ⟨⟨rfl, rfl⟩, rfl, rfl⟩, HGY.out⟩, hfin⟩

def KN : List FN := [⟨1, [⟨#[65]⟩], [(⟨#[110]⟩, 5)]⟩, ⟨2, [], []⟩]
def KE : List FE := [⟨3, 1, 2, ⟨#[75]⟩⟩]

theorem KN_small : KN.length ≤ 40 ∧ ∀ y ∈ KN, y.small := by
  refine ⟨by decide, fun y hy => ?_⟩
  rcases List.mem_cons.1 hy with rfl | hy
  · refine ⟨by decide, ⟨by decide, fun s hs => ?_⟩, by decide, fun p hp => ?_⟩
    · obtain rfl := List.mem_singleton.1 hs
      decide
    · obtain rfl := List.mem_singleton.1 hp
      decide
  · obtain rfl := List.mem_singleton.1 hy
    exact ⟨by decide, ⟨by decide, fun s hs => by cases hs⟩, by decide, fun p hp => by cases hp⟩

theorem KE_small : KE.length ≤ 60 ∧ ∀ y ∈ KE, y.small := by
  refine ⟨by decide, fun y hy => ?_⟩
  obtain rfl := List.mem_singleton.1 hy
  exact ⟨by decide, by decide, by decide, by decide⟩

theorem check_R {b : Nat} {w : World} {na : Option Addr} {nc : Nat} {ea : Option Addr} {ec : Nat} (h : GrR b w na nc ea ec KN KE) (W : World) (kW : Below w.heap.size w W) :
    Calls Tryd.prog 7 #[.agg #[.slice na 2 nc, .slice ea 1 ec, .int .i64 4]] W fun e w' => e = .returned (.int .i64 0) ∧ Below W.heap.size W w' := by
  have h' : GrR b W na nc ea ec KN KE := h.kept fun k cs t _ hc _ => kW.block k (Array.getElem?_eq_some_iff.1 hc).1
  obtain ⟨⟨PN, h1, h2⟩, h3⟩ := h'
  have hlen : PN.length = 2 := h2.1
  match PN, hlen with
  | [p1, p2], _ =>
    have e1 := h2.2 0 p1 _ rfl rfl
    have e2 := h2.2 1 p2 _ rfl rfl
    have r1 := e1.reads (KN_small.2 _ (by simp [KN]))
    have r2 := e2.reads (KN_small.2 _ (by simp [KN]))
    obtain ⟨la, lc, pa, pc, rfl, _⟩ := e1
    obtain ⟨la2, lc2, pa2, pc2, rfl, _⟩ := e2
    have hNA := row_nodes h1
    have hEA : EdgesAt W (KE.map edF) ea 1 := by
      rw [rowG_is] at h3
      exact row_edges h3 (fun q hq => by
        obtain rfl := List.mem_singleton.1 hq
        decide)
    have := check_graph _ _ na 2 nc ea 1 ec 4 W hNA hEA (fun x hx w' k => by
      rcases List.mem_cons.1 hx with rfl | hx
      · exact ⟨labels_of name_any _ _ _ _ w' (r1.2.2.1.below k), props_of name_any _ _ _ _ w' (r1.2.2.2.1.below k) fun p hp w2 k2 => by
          obtain rfl := List.mem_singleton.1 hp
          exact val_K w2⟩
      · obtain rfl := List.mem_singleton.1 hx
        exact ⟨labels_of name_any _ _ _ _ w' (r2.2.2.1.below k), props_of name_any _ _ _ _ w' (r2.2.2.2.1.below k) fun p hp => by cases hp⟩) (fun x hx w' k => by
      obtain rfl := List.mem_singleton.1 hx
      exact props_E w' none 0)
    have hg : gE [ndOf ⟨1, [⟨#[65]⟩], [(⟨#[110]⟩, 5)]⟩ la lc pa pc, ndOf ⟨2, [], []⟩ la2 lc2 pa2 pc2] (KE.map edF) 4 = 0 := by
      have a1 := labs_K
      have a2 : prsE [prF (⟨#[110]⟩, 5)] = 0 := prs_K
      have a3 : labsE [] = 0 := by simp [labsE, labE]
      have a4 : prsE [] = 0 := by simp [prsE, prE]
      have a5 : nm ⟨#[75]⟩ = true := by decide
      have n1 : ndE 0 [ndOf ⟨1, [⟨#[65]⟩], [(⟨#[110]⟩, 5)]⟩ la lc pa pc, ndOf ⟨2, [], []⟩ la2 lc2 pa2 pc2] = 0 := by simp [ndE, ndOne, ndOf, a1, a2, a3, a4]
      have e1 : edE [ndOf ⟨1, [⟨#[65]⟩], [(⟨#[110]⟩, 5)]⟩ la lc pa pc, ndOf ⟨2, [], []⟩ la2 lc2 pa2 pc2] 0 (KE.map edF) = 0 := by simp [edE, edOne, KE, edF, hasN, ndOf, a4, a5]
      have l1 : lastI 0 ([ndOf ⟨1, [⟨#[65]⟩], [(⟨#[110]⟩, 5)]⟩ la lc pa pc, ndOf ⟨2, [], []⟩ la2 lc2 pa2 pc2].map Nd.id) = 2 := rfl
      have l2 : lastI 0 ((KE.map edF).map Ed.id) = 3 := rfl
      rw [gE, n1, e1, l1, l2]
      simp [KE]
    rw [hg] at this
    exact this

def KB : List UInt8 := gB 4 (KN.map FN.an) (KE.map FE.ae)

theorem bytes_bel (w : World) (e : TypeId) (s : ByteArray) : Below w.heap.size w (Lib.bytesWorld w e s) :=
  ⟨rfl, rfl, rfl, by rw [Lib.bytesWorld_size]; omega, fun k hk => Lib.bytesWorld_at_old w e s k hk⟩

theorem bytes_bt (w : World) (e : TypeId) (l : List UInt8) : BtAt (Lib.bytesWorld w e ⟨l.toArray⟩) w.heap.size 0 l := fun i x hx => by
  have hi : i < (⟨l.toArray⟩ : ByteArray).size := (List.getElem?_eq_some_iff.1 hx).1
  have := Lib.bytesWorld_cell w e ⟨l.toArray⟩ i hi
  rw [Nat.zero_add, this]
  simp [List.getD, hx]

theorem KN_w : ∀ x ∈ KN.map FN.an, NodeW x := by
  intro x hx
  obtain ⟨y, hy, rfl⟩ := List.mem_map.1 hx
  have h := KN_small.2 y hy
  refine ⟨⟨by show _ ≤ y.id; have := h.1.1; omega, by show y.id ≤ _; have := h.1.2; omega⟩, h.2.1.2, fun p hp => ?_⟩
  obtain ⟨q, hq, rfl⟩ := List.mem_map.1 hp
  have h2 := h.2.2.2 q hq
  exact ⟨h2.1, Ck.int 6 q.2 (by omega) (by omega)⟩

theorem KE_w : ∀ x ∈ KE.map FE.ae, EdgeW x := by
  intro x hx
  obtain ⟨y, hy, rfl⟩ := List.mem_map.1 hx
  have h := KE_small.2 y hy
  refine ⟨⟨⟨by show _ ≤ y.id; have := h.1.1; omega, by show y.id ≤ _; have := h.1.2; omega⟩, ⟨by show _ ≤ y.frm; have := h.2.1.1; omega, by show y.frm ≤ _; have := h.2.1.2; omega⟩, ⟨by show _ ≤ y.dst; have := h.2.2.1.1; omega, by show y.dst ≤ _; have := h.2.2.1.2; omega⟩⟩, h.2.2.2, fun p hp => by cases hp⟩

theorem KB_len : KB.length ≤ 1000 := by decide +kernel

set_option maxHeartbeats 4000000 in
set_option maxRecDepth 100000 in
theorem ofGraph_K (w : World) :
    Calls Tryd.prog 10 #[.string ⟨KB.toArray⟩] w fun e w' => (∃ na nc ea ec, e = .returned (.tuple #[.agg #[.slice na 2 nc, .slice ea 1 ec, .int .i64 4], .int .i64 0]) ∧ NsAt w' (KN.map FN.an) na 2 ∧ EsAt w' (KE.map FE.ae) ea 1) ∧ Below w.heap.size w w' := by
  obtain ⟨L, hL⟩ : ∃ L, L = KB := ⟨_, rfl⟩
  rw [← hL]
  have HL := toHid hL
  have hlen : L.length ≤ 1000 := by rw [hL]; exact KB_len
  clear hL
  obtain ⟨s, hs⟩ : ∃ s : ByteArray, s = ⟨L.toArray⟩ := ⟨_, rfl⟩
  rw [← hs]
  have hsz : s.size = L.length := by rw [hs]; rfl
  have HS := toHid hs
  clear hs
  have kc : ∀ (w : World), (convert 9 33 (.string s)).run Tryd.prog w = .ok (.slice (some ⟨w.heap.size, 0, none⟩) s.size (grownCap w s.size 0 5)) (Lib.bytesWorld w 5 s) := fun w => Lib.run_convert_string_bytes w _ _ _ s Tryd.underlying9 Tryd.underlying33 Tryd.underlying5
  have kA : Below w.heap.size w (w.alloc (.cells #[.slice none 0 0, .slice none 0 0, .int .i64 0] 25)) := (Below.refl _ _).alloc (Nat.le_refl _) _
  have HA := toHid (alloc_new w (.cells #[.slice none 0 0, .slice none 0 0, .int .i64 0] 25))
  have hzA : (w.alloc (.cells #[.slice none 0 0, .slice none 0 0, .int .i64 0] 25)).heap.size = w.heap.size + 1 := by simp
  have HZA := toHid hzA
  clear hzA
  go_enter Tryd.func10, Tryd.ntmps10
  go_upto_region 1 with fail
  generalize w.alloc (.cells #[.slice none 0 0, .slice none 0 0, .int .i64 0] 25) = WA at kA HA HZA ⊢
  have hbB := bytes_bel WA 5 s
  have hzB : (Lib.bytesWorld WA 5 s).heap.size = WA.heap.size + 1 := Lib.bytesWorld_size WA _ s
  have HZB := toHid hzB
  clear hzB
  have hbt : BtAt (Lib.bytesWorld WA 5 s) WA.heap.size 0 L := by rw [HS.out]; exact bytes_bt WA _ L
  have hcap := grownCap_ge WA L.length 0 5
  go_upto_region 2 with fail
  have HA1 := toHid ((hbB.block w.heap.size (by rw [HZA.out]; omega)).trans HA.out)
  have HK1 := toHid (kA.trans (hbB.mono kA.size))
  generalize Lib.bytesWorld WA 5 s = WB at hbB HZB hbt HA1 HK1 ⊢
  have hzB := HZB.out
  have kC : Below WB.heap.size WB (WB.alloc (.cells #[.slice (some ⟨WA.heap.size, 0, none⟩) L.length (grownCap WA L.length 0 5), .int .i64 0] 65)) := (Below.refl _ _).alloc (Nat.le_refl _) _
  have hzA := HZA.out
  have HRD : Hid (Rd WB.heap.size (WB.alloc (.cells #[.slice (some ⟨WA.heap.size, 0, none⟩) L.length (grownCap WA L.length 0 5), .int .i64 0] 65)) (KB ++ []) 0) := by
    show Rd _ _ _ _
    rw [List.append_nil, ← HL.out]
    exact ⟨WA.heap.size, 0, _, alloc_new WB _, by omega, hcap, by omega, fun i x hx => (World.cell?_of_block (kC.block WA.heap.size (by omega))).trans (hbt i x hx)⟩
  have HA2 := toHid ((kC.block w.heap.size (by omega)).trans HA1.out)
  have HK2 := toHid (HK1.out.trans (kC.mono (by omega)))
  have hzC : (WB.alloc (.cells #[.slice (some ⟨WA.heap.size, 0, none⟩) L.length (grownCap WA L.length 0 5), .int .i64 0] 65)).heap.size = WB.heap.size + 1 := by simp
  have HZC := toHid hzC
  obtain ⟨b, hb⟩ : ∃ b, b = WB.heap.size := ⟨_, rfl⟩
  rw [← hb] at HRD HZC
  rw [← hb]
  have hwb : w.heap.size < b := by omega
  clear hbt kc hzC hzA hzB hb
  generalize WB.alloc (.cells #[.slice (some ⟨WA.heap.size, 0, none⟩) L.length (grownCap WA L.length 0 5), .int .i64 0] 65) = WC at kC HRD HA2 HK2 HZC ⊢
  have HBG : Hid (Calls Tryd.prog 23 #[.func (.func 24) #[.pointer (some ⟨b, 0, none⟩)] #[]] WC fun e w' => (∃ na nc ea ec, e = .returned (.tuple #[.agg #[.slice na 2 nc, .slice ea 1 ec, .int .i64 4], .bool true]) ∧ GrR b w' na nc ea ec KN KE) ∧ Below b WC w' ∧ Rf b WC w') := begin_any b WC KN KE 4 0 KN_small KE_small (by decide) HRD.out
  go_wp2_with fail
  refine HBG.out.mono ?_
  rintro e u1 ⟨⟨na, nc, ea, ec, rfl, hGr⟩, hb1, hf1⟩
  have HGR := toHid hGr
  have HA3 := toHid ((hf1 w.heap.size (by rw [HZC.out]; omega) (by omega)).trans HA2.out)
  have HK3 := toHid (HK2.out.trans (hb1.mono (Nat.le_of_lt hwb)))
  have z1 : w.heap.size < u1.heap.size := (Array.getElem?_eq_some_iff.1 HA3.out).1
  have kD : Below u1.heap.size u1 (u1.alloc (.cells #[.slice na 2 nc, .slice ea 1 ec, .int .i64 4] 25)) := (Below.refl _ _).alloc (Nat.le_refl _) _
  have HD := toHid (alloc_new u1 (.cells #[.slice na 2 nc, .slice ea 1 ec, .int .i64 4] 25))
  have hzD : (u1.alloc (.cells #[.slice na 2 nc, .slice ea 1 ec, .int .i64 4] 25)).heap.size = u1.heap.size + 1 := by simp
  have HZD := toHid hzD
  have HA4 := toHid ((kD.block w.heap.size z1).trans HA3.out)
  have HK4 := toHid (HK3.out.trans (kD.mono (Nat.le_of_lt z1)))
  clear hGr hb1 hf1 HBG hzD
  go_upto_region 5 with fail
  generalize u1.alloc (.cells #[.slice na 2 nc, .slice ea 1 ec, .int .i64 4] 25) = WD at kD HD HZD HA4 HK4 ⊢
  have z2 : u1.heap.size < WD.heap.size := by rw [HZD.out]; omega
  have HRR := toHid (HGR.out.reads KN_small.2 KE_small.2)
  have HPK : Hid (Calls Tryd.prog 4 #[.agg #[.slice na 2 nc, .slice ea 1 ec, .int .i64 4]] WD fun e w' => e = .returned (.tuple #[.string s, .int .i64 0]) ∧ Below WD.heap.size WD w') := by
    have := pack_good WD na 2 nc ea 1 ec 4 (KN.map FN.an) (KE.map FE.ae) (fun W kW => check_R HGR.out W (below2 kD kW)) (HRR.out.1.below kD) (HRR.out.2.below kD) KN_w KE_w (by decide) (by have := KB_len; show KB.length ≤ _; omega)
    rw [HS.out, HL.out]
    exact this
  have r0 := cell_of HD.out 0
  have r1 := cell_of HD.out 1
  have r2 := cell_of HD.out 2
  simp at r0 r1 r2
  go_wp2_with fail
  refine HPK.out.mono ?_
  rintro e u2 ⟨rfl, k2⟩
  have HD2 := toHid ((k2.block u1.heap.size z2).trans HD.out)
  have HA5 := toHid ((k2.block w.heap.size (by omega)).trans HA4.out)
  have HK5 := toHid (HK4.out.trans (k2.mono (by omega)))
  have HG2 := toHid (HGR.out.kept (w' := u2) fun k cs t _ hc _ => (below2 kD k2).block k (Array.getElem?_eq_some_iff.1 hc).1)
  have z3 : u1.heap.size < u2.heap.size := (Array.getElem?_eq_some_iff.1 HD2.out).1
  have z4 : w.heap.size < u2.heap.size := by omega
  clear r0 r1 r2 k2 HPK
  have r0 := cell_of HD2.out 0
  have r1 := cell_of HD2.out 1
  have r2 := cell_of HD2.out 2
  simp at r0 r1 r2
  have d0 := cell_of HA5.out 0
  have d1 := cell_of HA5.out 1
  have d2 := cell_of HA5.out 2
  have f0 := free_of HA5.out 0
  have f1 := free_of HA5.out 1
  have f2 := free_of HA5.out 2
  simp at d0 d1 d2
  have hss : (s.toList != s.toList) = false := by simp
  go_wp2_with fail
  have eP : ((u2.setCell ⟨w.heap.size, 0, none⟩ (.slice na 2 nc)).setCell ⟨w.heap.size, 1, none⟩ (.slice ea 1 ec)).setCell ⟨w.heap.size, 2, none⟩ (.int .i64 4) = putL u2 w.heap.size 0 [.slice na 2 nc, .slice ea 1 ec, .int .i64 4] := rfl
  rw [eP]
  have EBX := box3R HA5.out rfl (.slice na 2 nc) (.slice ea 1 ec) (.int .i64 4)
  have hbY : Below w.heap.size u2 (putL u2 w.heap.size 0 [.slice na 2 nc, .slice ea 1 ec, .int .i64 4]) := putL_bel w.heap.size _ _ u2
  have hYo : ∀ j, j ≠ w.heap.size → (putL u2 w.heap.size 0 [.slice na 2 nc, .slice ea 1 ec, .int .i64 4]).heap[j]? = u2.heap[j]? := fun j hj => putL_other _ _ _ _ j hj
  generalize putL u2 w.heap.size 0 [.slice na 2 nc, .slice ea 1 ec, .int .i64 4] = Y at EBX hbY hYo ⊢
  have t0 := cell_of EBX 0
  have t1 := cell_of EBX 1
  have t2 := cell_of EBX 2
  simp at t0 t1 t2
  have HGY := toHid ((HG2.out.kept (w' := Y) fun k cs t hb hc ht => hYo k (fun e => by
    subst e
    rw [HA5.out] at hc
    injection hc with hc
    injection hc with _ e2 _
    exact ht e2.symm)).reads KN_small.2 KE_small.2)
  exact bodyPost_ret (v := .tuple #[.agg #[.slice na 2 nc, .slice ea 1 ec, .int .i64 4], .int .i64 0]) (by simp [results, Tryd.results10, go_sem, t0, t1, t2]) rfl ⟨⟨na, nc, ea, ec, rfl, HGY.out.1, HGY.out.2⟩, HK5.out.trans hbY⟩

/-- Two lists of one length, the same one by one. -/
def eqB {α β : Type} (r : α → β → Bool) : List α → List β → Bool
  | [], [] => true
  | x :: xs, y :: ys => r x y && eqB r xs ys
  | _, _ => false

theorem eqB_length {α β : Type} (r : α → β → Bool) : ∀ (X : List α) (Y : List β), X.length ≠ Y.length → eqB r X Y = false
  | [], [], h => absurd rfl h
  | [], _ :: _, _ => rfl
  | _ :: _, [], _ => rfl
  | x :: xs, y :: ys, h => by
    show (r x y && eqB r xs ys) = false
    rw [eqB_length r xs ys (fun e => h (by simp [e]))]
    simp

def sameP (x y : AP) : Bool := (x.name.toList == y.name.toList) && (ordT x.t y.t == 0)


set_option maxHeartbeats 4000000 in
set_option maxRecDepth 100000 in
theorem sameRef_any (p : Pr) (x : AP) (q : Pr) (y : AP) (w : World) (h : PrIn AnyB w p x) (h' : PrIn AnyB w q y) (hx : x.ok) (hy : y.ok) :
    Calls Tryd.prog 44 #[.agg #[.string p.name, .int .i64 p.k, .int .i64 p.n, .string p.s, .slice p.a p.l p.c], .agg #[.string q.name, .int .i64 q.k, .int .i64 q.n, .string q.s, .slice q.a q.l q.c]] w fun e w' => e = .returned (.bool (sameP x y)) ∧ Below w.heap.size w w' := by
  obtain ⟨R, hR⟩ : ∃ R, R = sameP x y := ⟨_, rfl⟩
  rw [← hR]
  have HR := toHid hR
  clear hR
  obtain ⟨h1, _, _, h2, Lt, h3, h4⟩ := h
  obtain ⟨g1, _, _, g2, Lu, g3, g4⟩ := h'
  have HW : Hid (wtL Lt ≤ 1099511627776 ∧ wtL Lu ≤ 1099511627776) := by
    unfold AP.ok at hx hy
    rw [h3] at hx
    rw [g3] at hy
    unfold wtT at hx hy
    exact toHid ⟨by omega, by omega⟩
  obtain ⟨z, hz⟩ : ∃ z, z = ordT x.t y.t := ⟨_, rfl⟩
  have HC : Hid (∀ W, Below w.heap.size w W → Calls Tryd.prog 45 #[.agg #[.int .i64 p.k, .int .i64 p.n, .string p.s, .slice p.a p.l p.c], .agg #[.int .i64 q.k, .int .i64 q.n, .string q.s, .slice q.a q.l q.c]] W fun e w' => e = .returned (.bool ((z == 0))) ∧ Below W.heap.size W w') := by
    intro W kW
    rw [hz, h3, g3]
    exact same_of p.k p.n p.s p.a p.l p.c q.k q.n q.s q.a q.l q.c (ordT (.node p.k p.n p.s Lt) (.node q.k q.n q.s Lu)) W fun W' kW' => ref_ord63 (wtL Lt) p.k p.n p.s p.a p.l p.c Lt q.k q.n q.s q.a q.l q.c Lu W' (Nat.le_refl _) (by have := HW.out.1; omega) (by have := HW.out.2; omega) (((LieA.lies _ _ _ h4).below kW).below kW') (((LieA.lies _ _ _ g4).below kW).below kW')
  have HZ := toHid hz
  have HN : Hid (R = ((p.name.toList == q.name.toList) && (z == 0))) := by rw [HR.out, HZ.out, h1, g1]; rfl
  clear HR h1 h2 h3 h4 g1 g2 g3 g4 hx hy hz
  cases he : (p.name.toList == q.name.toList) with
  | false =>
    have H3 := toHid (show R = false by rw [HN.out, he]; rfl)
    clear HN HC
    go_enter Tryd.func44, Tryd.ntmps44
    go_wp2_with fail
    go_ret
    exact ⟨ret_bool (by rw [H3.out]), ((Below.refl _ _).alloc (Nat.le_refl _) _).alloc (by simp) _⟩
  | true =>
    have H3 := toHid (show R = (z == 0) by rw [HN.out, he]; rfl)
    clear HN
    go_enter Tryd.func44, Tryd.ntmps44
    go_wp2_with fail
    have hb0 : Below w.heap.size w ((w.alloc (.cells #[.string p.name, .int .i64 p.k, .int .i64 p.n, .string p.s, .slice p.a p.l p.c] 62)).alloc (.cells #[.string q.name, .int .i64 q.k, .int .i64 q.n, .string q.s, .slice q.a q.l q.c] 62)) := ((Below.refl _ _).alloc (Nat.le_refl _) _).alloc (by simp) _
    refine (HC.out _ hb0).mono ?_
    rintro e w1 ⟨rfl, k1⟩
    have hb1 := hb0.trans (k1.mono hb0.size)
    clear hb0 k1
    go_wp2_with fail
    go_ret
    exact ⟨ret_bool (by rw [H3.out]), hb1⟩

set_option maxHeartbeats 4000000 in
set_option maxRecDepth 100000 in
theorem equalR_any (X Y : List AP) (a : Option Addr) (l c : Nat) (a' : Option Addr) (l' c' : Nat) (w : World) (h : PsAt w X a l) (h' : PsAt w Y a' l')
    (hF : ∀ p x q y W, x ∈ X → y ∈ Y → PrIn AnyB W p x → PrIn AnyB W q y → Calls Tryd.prog 44 #[.agg #[.string p.name, .int .i64 p.k, .int .i64 p.n, .string p.s, .slice p.a p.l p.c], .agg #[.string q.name, .int .i64 q.k, .int .i64 q.n, .string q.s, .slice q.a q.l q.c]] W fun e w' => e = .returned (.bool (sameP x y)) ∧ Below W.heap.size W w') :
    Calls Tryd.prog 43 #[.slice a l c, .slice a' l' c', .func (.func 44) #[] #[]] w fun e w' => e = .returned (.bool (eqB sameP X Y)) ∧ Below w.heap.size w w' := by
  obtain ⟨R, hR⟩ : ∃ R, R = eqB sameP X Y := ⟨_, rfl⟩
  rw [← hR]
  have HR := toHid hR
  obtain ⟨P, ⟨hl, hmx, hat⟩, hp⟩ := h
  obtain ⟨Q, ⟨hl', hmx', hat'⟩, hq⟩ := h'
  have HL := toHid hl
  have HL' := toHid hl'
  have HAT := toHid hat
  have HAT' := toHid hat'
  have HP := toHid hp
  have HQ := toHid hq
  have HF := toHid hF
  have HXL : Hid (X.length = l) := by rw [HL.out]; exact HP.out.1.symm
  have HYL : Hid (Y.length = l') := by rw [HL'.out]; exact HQ.out.1.symm
  clear hR hl hl' hat hat' hp hq hF
  by_cases hne : l = l'
  · have H3 := toHid (show R = eqB sameP (X.drop 0) (Y.drop 0) from HR.out)
    clear HR
    subst hne
    go_enter Tryd.func43, Tryd.ntmps43
    go_wp2_with fail
    go_loopg [17] l (fun g s17 wr => ∃ i : Nat, i ≤ l ∧ l - i ≤ g ∧ s17 = .int .i64 i ∧ Below w.heap.size w wr ∧ R = eqB sameP (X.drop i) (Y.drop i))
    case atStart => exact ⟨0, Nat.zero_le _, by omega, rfl, Below.refl _ _, H3.out⟩
    case round =>
      clear H3
      obtain ⟨i, hi, hg, rfl, hbw, hfe⟩ := hrel
      have HFE := toHid hfe
      clear hfe
      by_cases hlt : i < l
      · obtain ⟨b, off, ha, hb, hc⟩ := HAT.out (by omega)
        obtain ⟨b', off', ha', hb', hc'⟩ := HAT'.out (by omega)
        subst ha ha'
        obtain ⟨p, hp, _⟩ := drop_get (L := P) (i := i) (by have := HL.out; omega)
        obtain ⟨q, hq, _⟩ := drop_get (L := Q) (i := i) (by have := HL'.out; omega)
        obtain ⟨x, hx, hpx⟩ := HP.out.left hp
        obtain ⟨y, hy, hqy⟩ := HQ.out.left hq
        obtain ⟨hsz, c0, c1, c2, c3, c4⟩ := hc i p hp
        obtain ⟨hsz2, e0, e1, e2, e3, e4⟩ := hc' i q hq
        have qq : ∀ o, wr.cell? ⟨b, o, none⟩ = w.cell? ⟨b, o, none⟩ := fun o => hbw.cell (p := ⟨b, o, none⟩) hb
        have qq2 : ∀ o, wr.cell? ⟨b', o, none⟩ = w.cell? ⟨b', o, none⟩ := fun o => hbw.cell (p := ⟨b', o, none⟩) hb'
        have d0 := (qq _).trans c0
        have d1 := (qq _).trans c1
        have d2 := (qq _).trans c2
        have d3 := (qq _).trans c3
        have d4 := (qq _).trans c4
        have f0 := (qq2 _).trans e0
        have f1 := (qq2 _).trans e1
        have f2 := (qq2 _).trans e2
        have f3 := (qq2 _).trans e3
        have f4 := (qq2 _).trans e4
        have hdx : X.drop i = x :: X.drop (i + 1) := by
          obtain ⟨z, hz, hd⟩ := drop_get (L := X) (i := i) (by have := HXL.out; omega)
          rw [hx] at hz
          injection hz with hz
          rw [hz]
          exact hd
        have hdy : Y.drop i = y :: Y.drop (i + 1) := by
          obtain ⟨z, hz, hd⟩ := drop_get (L := Y) (i := i) (by have := HYL.out; omega)
          rw [hy] at hz
          injection hz with hz
          rw [hz]
          exact hd
        have H4 := toHid (show R = (sameP x y && eqB sameP (X.drop (i + 1)) (Y.drop (i + 1))) by rw [HFE.out, hdx, hdy]; rfl)
        have HC : Hid (∀ W, Below w.heap.size w W → Calls Tryd.prog 44 #[.agg #[.string p.name, .int .i64 p.k, .int .i64 p.n, .string p.s, .slice p.a p.l p.c], .agg #[.string q.name, .int .i64 q.k, .int .i64 q.n, .string q.s, .slice q.a q.l q.c]] W fun e w' => e = .returned (.bool (sameP x y)) ∧ Below W.heap.size W w') := fun W kW => HF.out p x q y W (List.mem_of_getElem? hx) (List.mem_of_getElem? hy) (hpx.below kW) (hqy.below kW)
        clear hc hc' hp hq hx hy hpx hqy c0 c1 c2 c3 c4 e0 e1 e2 e3 e4 qq qq2 hdx hdy HFE
        have hil : (i : Int) < l := by omega
        have hz : w.heap.size ≤ wr.heap.size := hbw.size
        have hbr : b' < wr.heap.size := by omega
        have hbx : Below w.heap.size w ((wr.alloc (.cells #[.string p.name, .int .i64 p.k, .int .i64 p.n, .string p.s, .slice p.a p.l p.c] 62)).alloc (.cells #[.string q.name, .int .i64 q.k, .int .i64 q.n, .string q.s, .slice q.a q.l q.c] 62)) := (hbw.alloc hz _).alloc (by simp; omega) _
        have HBX := toHid hbx
        clear hbx
        go_wp2_with fail
        refine (HC.out _ HBX.out).mono ?_
        rintro e w2 ⟨rfl, k2⟩
        have hb2 := HBX.out.trans (k2.mono HBX.out.size)
        clear k2 d0 d1 d2 d3 d4 f0 f1 f2 f3 f4
        cases hs : sameP x y with
        | true =>
          have H5 := toHid (show R = eqB sameP (X.drop (i + 1)) (Y.drop (i + 1)) by rw [H4.out, hs]; simp)
          clear H4 hs
          go_wp2_with fail
          go_roundg (l - (i + 1))
          case measure => omega
          case rel => exact ⟨i + 1, by omega, by omega, by go_num, hb2, H5.out⟩
        | false =>
          have H5 := toHid (show R = false by rw [H4.out, hs]; simp)
          clear H4 hs
          go_wp2_with fail
          go_ret
          exact ⟨ret_bool (by rw [H5.out]), hb2⟩
      · have H3 := toHid (show R = true by rw [HFE.out, List.drop_eq_nil_of_le (by have := HXL.out; omega), List.drop_eq_nil_of_le (by have := HYL.out; omega)]; rfl)
        clear HFE
        go_wp2_with fail
        go_ret
        exact ⟨ret_bool (by rw [H3.out]), hbw⟩
  · have hne' : ((l : Int) != (l' : Int)) = true := by simp; omega
    have H3 := toHid (show R = false by rw [HR.out]; exact eqB_length _ _ _ (fun h => hne (by have := HXL.out; have := HYL.out; omega)))
    clear HR hne
    go_enter Tryd.func43, Tryd.ntmps43
    go_wp2_with fail
    go_ret
    exact ⟨ret_bool (by rw [H3.out]), Below.refl _ _⟩
end Go.Proofs.YtgldelbbfgnndaaDoor
