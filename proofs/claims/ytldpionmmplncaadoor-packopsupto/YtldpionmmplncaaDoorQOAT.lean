/-
  What is proved here: what the texts KrLE, KrNode, KrLN, KrMem, KrGraph, KrBegin prove, in one text.
-/
import Derived.Test.YtldpionmmplncaaDoorQOAS
import Derived.Defers
import Derived.Recover
namespace Go.Proofs.YtldpionmmplncaaDoor
open Go.RowKit
set_option linter.unusedVariables false

theorem infoRE0 : (Tryd.prog.info? 89).map (fun i => (i.zero, i.size, i.bytes)) = some (some (.agg #[.int .i64 0, .int .i64 0, .int .i64 0, .string ⟨#[]⟩, .slice none 0 0]), 5, 64) := by kernel_rfl
theorem infoRE : ∃ i, Tryd.prog.info? 89 = some i ∧ i.zero = some (.agg #[.int .i64 0, .int .i64 0, .int .i64 0, .string ⟨#[]⟩, .slice none 0 0]) ∧ i.size = 5 ∧ i.bytes = 64 := by
  obtain ⟨i, h, e⟩ := Option.map_eq_some_iff.1 infoRE0
  simp only [Prod.mk.injEq] at e
  exact ⟨i, h, e⟩

set_option maxHeartbeats 4000000 in
set_option maxRecDepth 100000 in
theorem rlistE_any (b : Nat) (w : World) (L : List FE) (r : List UInt8) (d : Int) (most : Nat) (hmost : L.length ≤ most) (hm : most ≤ 1000) (hok : ∀ y ∈ L, y.small) (h : Rd b w (eaB (fun x => eB (FE.ae x)) L ++ r) d) :
    Calls Tryd.prog 66 #[.pointer (some ⟨b, 0, none⟩), .int .i64 most, .func (.func 67) #[.pointer (some ⟨b, 0, none⟩)] #[]] w fun e w' => (∃ v, e = .returned v ∧ w'.ownsRow w.heap.size 89 5 v L.length (rowG L) ∧ (L = [] → v = .slice none 0 0)) ∧ Rd b w' r d ∧ Below b w w' ∧ Rf b w w' := by
  have hlt := h.lt
  have h' : Rd b w (bts L.length ++ ((L.map (fun x => eB (FE.ae x))).flatten ++ r)) d := by unfold eaB at h; rw [List.append_assoc] at h; exact h
  have HB := toHid (rbits_any b w L.length _ d (by omega) h')
  have HOK := toHid hok
  obtain ⟨i0, hi0, hiz, his, hib⟩ := infoRE
  have HI0 := toHid hi0
  have HIZ := toHid hiz
  have HIS := toHid his
  have HIB := toHid hib
  obtain ⟨n, hn⟩ : ∃ n, n = L.length := ⟨_, rfl⟩
  rw [← hn] at hmost HB
  rw [← hn]
  have HN := toHid hn
  clear h h' hok hi0 hiz his hib hn
  have hle : ¬ (most : Int) < n := by omega
  go_enter Tryd.func66, Tryd.ntmps66
  go_wp2_with fail
  refine HB.out.mono ?_
  rintro e w1 ⟨rfl, hR1, hb1, hf1⟩
  have HR1 := toHid hR1
  have HF1 := toHid hf1
  clear hR1 hf1 HB
  go_wp2_with fail
  rw [show decide (most < n) = false from decide_eq_false (by omega)]
  go_loopg [8, 18] n (fun g s8 s18 wr => ∃ (i : Nat) (ov : Value), i ≤ n ∧ n - i ≤ g ∧ ov = s8 ∧ s18 = .int .u64 i ∧ wr.ownsRow w.heap.size 89 5 ov i (rowG (L.take i)) ∧ Rd b wr (((L.drop i).map (fun x => eB (FE.ae x))).flatten ++ r) d ∧ Below b w wr ∧ Rf b w wr ∧ (i = 0 → ov = .slice none 0 0))
  case atStart => exact ⟨0, _, Nat.zero_le _, by omega, rfl, by go_num, World.ownsRow_nil _ _ _ _, by simpa using HR1.out, hb1, HF1.out, fun _ => rfl⟩
  case round =>
    clear HR1 HF1 hb1
    obtain ⟨i, ov, hi, hg, rfl, rfl, hown, hR, hbw, hf, hnil⟩ := hrel
    have hsz := hbw.size
    by_cases hlt2 : i < n
    · obtain ⟨y, hy⟩ : ∃ y, L[i]? = some y := ⟨L[i]'(by rw [← HN.out]; exact hlt2), List.getElem?_eq_getElem _⟩
      have hd : L.drop i = y :: L.drop (i + 1) := by
        obtain ⟨hl, rfl⟩ := List.getElem?_eq_some_iff.1 hy
        exact List.drop_eq_getElem_cons hl
      have hyo := HOK.out y (List.mem_of_getElem? hy)
      have hR' : Rd b wr ((fun x => eB (FE.ae x)) y ++ (((L.drop (i + 1)).map (fun x => eB (FE.ae x))).flatten ++ r)) d := by rw [hd] at hR; simpa [List.append_assoc] using hR
      have HC := toHid (redge_any b wr y _ d hyo hR')
      have HOW := toHid hown
      have HF := toHid hf
      have HY := toHid hy
      have hil : (i : Int) < n := by omega
      have hiw : IntKind.u64.wrap ((i : Int) + 1) = (i : Int) + 1 := by rw [IntKind.wrap_u64]; omega
      clear hR hR' hown hf hd hyo hy
      go_wp2_with fail
      refine HC.out.mono ?_
      rintro e u1 ⟨rfl, hR1, hb1, hf1⟩
      have hs1 := hb1.size
      have HR1 := toHid hR1
      have HB1 := toHid (hbw.trans hb1)
      have HF1 := toHid (HF.out.trans hsz hf1)
      have OWN2 := toHid (row_keep HOW.out (w' := u1) (fun g hg hl => hf1 g hl (by have := (HOW.out.lt g hg).1; omega)))
      have HBy : (i + 1) * 64 ≤ 140737488355328 := by omega
      have HBm : i + 1 ≤ maxLen := by unfold maxLen; omega
      clear hR1 hb1 hf1 HC HF
      go_wp2_with (at_builtin; refine wpList_append_lies _ rfl _ _ 54 rfl w.heap.size 89 i0 _ 5 64 Tryd.underlying54 HI0.out HIZ.out HIS.out HIB.out rfl (by omega) ov i (rowG (L.take i)) rfl (OWN2.out.alloc _) ⟨u1.heap.size, 0, none⟩ 1 1 [.int .i64 y.id, .int .i64 y.frm, .int .i64 y.dst, .string y.typ, .slice none 0 0] rfl rfl (World.news_of_block (cs := #[.int .i64 y.id, .int .i64 y.frm, .int .i64 y.dst, .string y.typ, .slice none 0 0]) (t := 89) (fr := (0, 0)) (alloc_new u1 _)) (by simp [Value.oneCell']) (by omega) HBm HBy (by simp; omega) (u1.heap.size + 1) (by simp) ?_)
      intro gg cap w5 hown5 hgrow hat5 hlt5
      have hb5 : Below w.heap.size u1 w5 := ((Below.refl _ _).alloc (by omega) _).grown hgrow (by simp; omega) (fun j hj => (OWN2.out.lt j hj).1)
      have HR5 := toHid (HR1.out.keep (hb5.mono hlt))
      have HB5 := toHid (HB1.out.trans (hb5.mono (Nat.le_of_lt hlt)))
      have HF5 : Hid (Rf b w w5) := fun j hj hn => (hb5.block j hj).trans (HF1.out j hj hn)
      have HO5 : Hid (w5.ownsRow w.heap.size 89 5 (.slice (some ⟨gg, 0, none⟩) (i + 1) cap) (i + 1) (rowG (L.take (i + 1)))) := by
        have e : rowG (L.take (i + 1)) = rowG (L.take i) ++ [.int .i64 y.id, .int .i64 y.frm, .int .i64 y.dst, .string y.typ, .slice none 0 0] := by
          rw [List.take_add_one, HY.out]
          simp [rowG]
        rw [e]
        exact hown5
      clear hown5 hgrow hat5 hlt5 hb5
      go_wp2_with fail
      go_roundg (n - (i + 1))
      case measure => omega
      case rel => exact ⟨i + 1, .slice (some ⟨gg, 0, none⟩) (i + 1) cap, by omega, by omega, rfl, by go_num, HO5.out, HR5.out, HB5.out, HF5.out, fun h => by omega⟩
    · have hil : ¬ (i : Int) < n := by omega
      obtain rfl : i = n := by omega
      have hT : L.take i = L := List.take_of_length_le (by rw [HN.out]; exact Nat.le_refl _)
      have hD : L.drop i = [] := List.drop_eq_nil_of_le (by rw [HN.out]; exact Nat.le_refl _)
      rw [hT] at hown
      rw [hD] at hR
      have HOW := toHid hown
      have HR := toHid hR
      have HF := toHid hf
      clear hown hR hf hT hD
      go_wp2_with fail
      go_ret
      exact ⟨⟨_, rfl, HOW.out, fun h => hnil (by rw [HN.out, h]; rfl)⟩, by simpa using HR.out, hbw, HF.out⟩

/-- A node whose properties have whole numbers. -/
structure FN where
  id : Int
  labs : List ByteArray
  props : List (ByteArray × Int)
def FN.an (x : FN) : AN := ⟨x.id, x.labs, x.props.map flatP⟩
def FN.small (x : FN) : Prop := (0 ≤ x.id ∧ x.id ≤ 1099511627776) ∧ (x.labs.length ≤ 4 ∧ ∀ s ∈ x.labs, s.size ≤ 1000000) ∧ x.props.length ≤ 6 ∧ ∀ p ∈ x.props, p.1.size ≤ 1000000 ∧ 0 ≤ p.2 ∧ p.2 ≤ 1099511627776

/-- It lies in rows behind the reader's block. -/
def NdR (b : Nat) (w : World) (la : Option Addr) (lc : Nat) (pa : Option Addr) (pc : Nat) (y : FN) : Prop := w.ownsRow (b + 1) 9 1 (.slice la y.labs.length lc) y.labs.length (strs y.labs) ∧ w.ownsRow (b + 1) 63 5 (.slice pa y.props.length pc) y.props.length (rowF y.props)

set_option maxHeartbeats 4000000 in
set_option maxRecDepth 100000 in
theorem rnode_any (b : Nat) (w : World) (y : FN) (r : List UInt8) (d : Int) (hy : y.small) (h : Rd b w (nB y.an ++ r) d) :
    Calls Tryd.prog 65 #[.pointer (some ⟨b, 0, none⟩)] w fun e w' => (∃ la lc pa pc, e = .returned (.agg #[.int .i64 y.id, .slice la y.labs.length lc, .slice pa y.props.length pc]) ∧ NdR b w' la lc pa pc y) ∧ Rd b w' r d ∧ Below b w w' ∧ Rf b w w' := by
  have hlt := h.lt
  have hne : w.heap.size ≠ b := by omega
  have hsp : nB y.an ++ r = numB y.id ++ (eaB txB y.labs ++ (eaB (fun p => pB (flatP p)) y.props ++ r)) := by
    unfold nB FN.an
    simp only [List.append_assoc, eaB, List.length_map, List.map_map]
    rfl
  rw [hsp] at h
  clear hsp
  have kA : Below w.heap.size w (w.alloc (.cells #[.int .i64 0, .slice none 0 0, .slice none 0 0] 87)) := (Below.refl _ _).alloc (Nat.le_refl _) _
  have HR0 := toHid (h.below kA)
  have HA0 := toHid (alloc_new w (.cells #[.int .i64 0, .slice none 0 0, .slice none 0 0] 87))
  have HB0 := toHid (kA.mono (Nat.le_of_lt hlt))
  have HF0 : Hid (Rf b w (w.alloc (.cells #[.int .i64 0, .slice none 0 0, .slice none 0 0] 87))) := Rf.of kA
  have hzA : (w.alloc (.cells #[.int .i64 0, .slice none 0 0, .slice none 0 0] 87)).heap.size = w.heap.size + 1 := by simp
  have z0 : w.heap.size < (w.alloc (.cells #[.int .i64 0, .slice none 0 0, .slice none 0 0] 87)).heap.size := by omega
  clear h hzA
  go_enter Tryd.func65, Tryd.ntmps65
  go_upto_region 1 with fail
  generalize w.alloc (.cells #[.int .i64 0, .slice none 0 0, .slice none 0 0] 87) = u0 at kA HR0 HA0 HB0 HF0 z0 ⊢
  have HC1 := toHid (rnumber_any b u0 y.id _ d hy.1.1 hy.1.2 HR0.out)
  go_wp2_with fail
  refine HC1.out.mono ?_
  rintro e u1 ⟨rfl, hR1, hb1, hf1⟩
  have HR1 := toHid hR1
  have HB1 := toHid (HB0.out.trans hb1)
  have HF1 := toHid (HF0.out.trans (Nat.le_of_lt z0) hf1)
  have HA1 := toHid ((hf1 w.heap.size z0 hne).trans HA0.out)
  have z1 : w.heap.size < u1.heap.size := (Array.getElem?_eq_some_iff.1 HA1.out).1
  clear hR1 hb1 hf1 HC1
  have HC2 := toHid (rlistS_any b u1 y.labs _ d 4 hy.2.1.1 (by omega) hy.2.1.2 HR1.out)
  go_wp2_with fail
  refine HC2.out.mono ?_
  rintro e u2 ⟨⟨vS, rfl, hownS, _⟩, hR2, hb2, hf2⟩
  obtain ⟨aS, cS, rfl, hlcS⟩ := slice_of_row hownS
  have OWS := toHid (row_base hownS (show b + 1 ≤ u1.heap.size by omega) (show w.heap.size < u1.heap.size from z1))
  have HR2 := toHid hR2
  have HB2 := toHid (HB1.out.trans hb2)
  have HF2 := toHid (HF1.out.trans (Nat.le_of_lt z1) hf2)
  have HA2 := toHid ((hf2 w.heap.size z1 hne).trans HA1.out)
  have z2 : w.heap.size < u2.heap.size := (Array.getElem?_eq_some_iff.1 HA2.out).1
  clear hownS
  clear hR2 hb2 hf2 HC2
  have HC3 := toHid (rlistP_any b u2 y.props _ d 6 hy.2.2.1 (by omega) hy.2.2.2 HR2.out)
  go_wp2_with fail
  refine HC3.out.mono ?_
  rintro e u3 ⟨⟨vP, rfl, hownP, _⟩, hR3, hb3, hf3⟩
  obtain ⟨aP, cP, rfl, hlcP⟩ := slice_of_row hownP
  have OWP := toHid (row_base hownP (show b + 1 ≤ u2.heap.size by omega) (show w.heap.size < u2.heap.size from z2))
  have HR3 := toHid hR3
  have HB3 := toHid (HB2.out.trans hb3)
  have HF3 := toHid (HF2.out.trans (Nat.le_of_lt z2) hf3)
  have HA3 := toHid ((hf3 w.heap.size z2 hne).trans HA2.out)
  have z3 : w.heap.size < u3.heap.size := (Array.getElem?_eq_some_iff.1 HA3.out).1
  have OWS3 := toHid (OWS.out.kept (fun k hk hn hl => hf3 k hl (by omega)))
  clear hownP
  clear hR3 hb3 hf3 HC3
  have f0 := free_of HA3.out 0
  have f1 := free_of HA3.out 1
  have f2 := free_of HA3.out 2
  have d0 := cell_of HA3.out 0
  have d1 := cell_of HA3.out 1
  have d2 := cell_of HA3.out 2
  simp at d0 d1 d2
  go_wp2_with fail
  have eP : ((u3.setCell ⟨w.heap.size, 0, none⟩ (.int .i64 y.id)).setCell ⟨w.heap.size, 1, none⟩ (.slice aS y.labs.length cS)).setCell ⟨w.heap.size, 2, none⟩ (.slice aP y.props.length cP) = putL u3 w.heap.size 0 [.int .i64 y.id, .slice aS y.labs.length cS, .slice aP y.props.length cP] := rfl
  rw [eP]
  have EBX := box3R HA3.out rfl (.int .i64 y.id) (.slice aS y.labs.length cS) (.slice aP y.props.length cP)
  have hbY : Below w.heap.size u3 (putL u3 w.heap.size 0 [.int .i64 y.id, .slice aS y.labs.length cS, .slice aP y.props.length cP]) := putL_bel w.heap.size _ _ u3
  have hYo : ∀ j, j ≠ w.heap.size → (putL u3 w.heap.size 0 [.int .i64 y.id, .slice aS y.labs.length cS, .slice aP y.props.length cP]).heap[j]? = u3.heap[j]? := fun j hj => putL_other _ _ _ _ j hj
  generalize putL u3 w.heap.size 0 [.int .i64 y.id, .slice aS y.labs.length cS, .slice aP y.props.length cP] = Y at EBX hbY hYo ⊢
  have t0 := cell_of EBX 0
  have t1 := cell_of EBX 1
  have t2 := cell_of EBX 2
  simp at t0 t1 t2
  have OYS := toHid (OWS3.out.kept (fun k hk hn hl => hYo k hn))
  have OYP := toHid (OWP.out.kept (fun k hk hn hl => hYo k hn))
  exact bodyPost_ret (v := .agg #[.int .i64 y.id, .slice aS y.labs.length cS, .slice aP y.props.length cP]) (by simp [results, Tryd.results65, go_sem, t0, t1, t2]) rfl ⟨⟨aS, cS, aP, cP, rfl, OYS.out.1, OYP.out.1⟩, HR3.out.keep (hbY.mono hlt), HB3.out.trans (hbY.mono (Nat.le_of_lt hlt)), fun j hj hn => (hbY.block j hj).trans (HF3.out j hj hn)⟩

def prF (p : ByteArray × Int) : Pr := { name := p.1, k := 2, n := p.2, s := ⟨#[]⟩, a := none, l := 0, c := 0, e := 0 }
def ndOf (y : FN) (la : Option Addr) (lc : Nat) (pa : Option Addr) (pc : Nat) : Nd := { id := y.id, labs := y.labs, la := la, ll := y.labs.length, lc := lc, props := y.props.map prF, pa := pa, pl := y.props.length, pc := pc }
def NdL (b : Nat) (w : World) (p : Nd) (y : FN) : Prop := ∃ la lc pa pc, p = ndOf y la lc pa pc ∧ NdR b w la lc pa pc y

theorem row_type {B n size : Nat} {e : TypeId} {v : Value} {xs : List Value} {w : World} (h : w.ownsRow B e size v n xs) {g : Nat} (hg : v.ownBlock = some g) : ∃ cur, w.heap[g]? = some (.cells cur e (0, 0)) := by
  rcases h.2 with ⟨h0, _⟩ | ⟨g', cap, cur, h0, _, h2, _⟩
  · rw [h0] at hg; cases hg
  · rw [h0] at hg
    have : g' = g := by simpa [Value.ownBlock] using hg
    subst this
    exact ⟨cur, h2⟩

theorem NdR.kept {b : Nat} {w w' : World} {la : Option Addr} {lc : Nat} {pa : Option Addr} {pc : Nat} {y : FN} (h : NdR b w la lc pa pc y) (hk : ∀ k cs t, b + 1 ≤ k → w.heap[k]? = some (.cells cs t (0, 0)) → (t = 9 ∨ t = 63) → w'.heap[k]? = w.heap[k]?) : NdR b w' la lc pa pc y :=
  ⟨row_keep h.1 fun g hg hl => by
      obtain ⟨cur, hc⟩ := row_type h.1 hg
      exact hk g cur _ (h.1.lt g hg).1 hc (.inl rfl),
   row_keep h.2 fun g hg hl => by
      obtain ⟨cur, hc⟩ := row_type h.2 hg
      exact hk g cur _ (h.2.lt g hg).1 hc (.inr rfl)⟩

theorem NdL.kept {b : Nat} {w w' : World} {p : Nd} {y : FN} (h : NdL b w p y) (hk : ∀ k cs t, b + 1 ≤ k → w.heap[k]? = some (.cells cs t (0, 0)) → (t = 9 ∨ t = 63) → w'.heap[k]? = w.heap[k]?) : NdL b w' p y := by
  obtain ⟨la, lc, pa, pc, h1, h2⟩ := h
  exact ⟨la, lc, pa, pc, h1, h2.kept hk⟩

theorem infoRN0 : (Tryd.prog.info? 87).map (fun i => (i.zero, i.size, i.bytes)) = some (some (.agg #[.int .i64 0, .slice none 0 0, .slice none 0 0]), 3, 56) := by kernel_rfl
theorem infoRN : ∃ i, Tryd.prog.info? 87 = some i ∧ i.zero = some (.agg #[.int .i64 0, .slice none 0 0, .slice none 0 0]) ∧ i.size = 3 ∧ i.bytes = 56 := by
  obtain ⟨i, h, e⟩ := Option.map_eq_some_iff.1 infoRN0
  simp only [Prod.mk.injEq] at e
  exact ⟨i, h, e⟩

set_option maxHeartbeats 4000000 in
set_option maxRecDepth 100000 in
theorem rlistN_any (b : Nat) (w : World) (L : List FN) (r : List UInt8) (d : Int) (most : Nat) (hmost : L.length ≤ most) (hm : most ≤ 1000) (hok : ∀ y ∈ L, y.small) (h : Rd b w (eaB (fun x => nB (FN.an x)) L ++ r) d) :
    Calls Tryd.prog 64 #[.pointer (some ⟨b, 0, none⟩), .int .i64 most, .func (.func 65) #[.pointer (some ⟨b, 0, none⟩)] #[]] w fun e w' => (∃ v, e = .returned v ∧ ∃ P, w'.ownsRow w.heap.size 87 3 v L.length (rowN P) ∧ Pair2 (NdL b w') P L) ∧ Rd b w' r d ∧ Below b w w' ∧ Rf b w w' := by
  have hlt := h.lt
  have h' : Rd b w (bts L.length ++ ((L.map (fun x => nB (FN.an x))).flatten ++ r)) d := by unfold eaB at h; rw [List.append_assoc] at h; exact h
  have HB := toHid (rbits_any b w L.length _ d (by omega) h')
  have HOK := toHid hok
  obtain ⟨i0, hi0, hiz, his, hib⟩ := infoRN
  have HI0 := toHid hi0
  have HIZ := toHid hiz
  have HIS := toHid his
  have HIB := toHid hib
  obtain ⟨n, hn⟩ : ∃ n, n = L.length := ⟨_, rfl⟩
  rw [← hn] at hmost HB
  rw [← hn]
  have HN := toHid hn
  clear h h' hok hi0 hiz his hib hn
  have hle : ¬ (most : Int) < n := by omega
  go_enter Tryd.func64, Tryd.ntmps64
  go_wp2_with fail
  refine HB.out.mono ?_
  rintro e w1 ⟨rfl, hR1, hb1, hf1⟩
  have HR1 := toHid hR1
  have HF1 := toHid hf1
  clear hR1 hf1 HB
  go_wp2_with fail
  rw [show decide (most < n) = false from decide_eq_false (by omega)]
  go_loopg [8, 18] n (fun g s8 s18 wr => ∃ (i : Nat) (ov : Value) (P : List Nd), i ≤ n ∧ n - i ≤ g ∧ ov = s8 ∧ s18 = .int .u64 i ∧ wr.ownsRow w.heap.size 87 3 ov i (rowN P) ∧ Pair2 (NdL b wr) P (L.take i) ∧ Rd b wr (((L.drop i).map (fun x => nB (FN.an x))).flatten ++ r) d ∧ Below b w wr ∧ Rf b w wr)
  case atStart => exact ⟨0, _, [], Nat.zero_le _, by omega, rfl, by go_num, World.ownsRow_nil _ _ _ _, by simpa using Pair2.nil, by simpa using HR1.out, hb1, HF1.out⟩
  case round =>
    clear HR1 HF1 hb1
    obtain ⟨i, ov, P, hi, hg, rfl, rfl, hown, hpr, hR, hbw, hf⟩ := hrel
    have HPR := toHid hpr
    clear hpr
    have hsz := hbw.size
    by_cases hlt2 : i < n
    · obtain ⟨y, hy⟩ : ∃ y, L[i]? = some y := ⟨L[i]'(by rw [← HN.out]; exact hlt2), List.getElem?_eq_getElem _⟩
      have hd : L.drop i = y :: L.drop (i + 1) := by
        obtain ⟨hl, rfl⟩ := List.getElem?_eq_some_iff.1 hy
        exact List.drop_eq_getElem_cons hl
      have hyo := HOK.out y (List.mem_of_getElem? hy)
      have hR' : Rd b wr ((fun x => nB (FN.an x)) y ++ (((L.drop (i + 1)).map (fun x => nB (FN.an x))).flatten ++ r)) d := by rw [hd] at hR; simpa [List.append_assoc] using hR
      have HC := toHid (rnode_any b wr y _ d hyo hR')
      have HOW := toHid hown
      have HF := toHid hf
      have HY := toHid hy
      have hil : (i : Int) < n := by omega
      have hiw : IntKind.u64.wrap ((i : Int) + 1) = (i : Int) + 1 := by rw [IntKind.wrap_u64]; omega
      clear hR hR' hown hf hd hyo hy
      go_wp2_with fail
      refine HC.out.mono ?_
      rintro e u1 ⟨⟨la, lc, pa, pc, rfl, hnd⟩, hR1, hb1, hf1⟩
      have HND := toHid hnd
      have HPR1 : Hid (Pair2 (NdL b u1) P (L.take i)) := HPR.out.mono fun p x _ _ hp => hp.kept fun k cs t hk hc _ => hf1 k (Array.getElem?_eq_some_iff.1 hc).1 (by omega)
      clear hnd
      have hs1 := hb1.size
      have HR1 := toHid hR1
      have HB1 := toHid (hbw.trans hb1)
      have HF1 := toHid (HF.out.trans hsz hf1)
      have OWN2 := toHid (row_keep HOW.out (w' := u1) (fun g hg hl => hf1 g hl (by have := (HOW.out.lt g hg).1; omega)))
      have HBy : (i + 1) * 56 ≤ 140737488355328 := by omega
      have HBm : i + 1 ≤ maxLen := by unfold maxLen; omega
      clear hR1 hb1 hf1 HC HF
      go_wp2_with (at_builtin; refine wpList_append_lies _ rfl _ _ 53 rfl w.heap.size 87 i0 _ 3 56 Tryd.underlying53 HI0.out HIZ.out HIS.out HIB.out rfl (by omega) ov i (rowN P) rfl (OWN2.out.alloc _) ⟨u1.heap.size, 0, none⟩ 1 1 [.int .i64 y.id, .slice la y.labs.length lc, .slice pa y.props.length pc] rfl rfl (World.news_of_block (cs := #[.int .i64 y.id, .slice la y.labs.length lc, .slice pa y.props.length pc]) (t := 87) (fr := (0, 0)) (alloc_new u1 _)) (by simp [Value.oneCell']) (by omega) HBm HBy (by simp; omega) (u1.heap.size + 1) (by simp) ?_)
      intro gg cap w5 hown5 hgrow hat5 hlt5
      have hb5 : Below w.heap.size u1 w5 := ((Below.refl _ _).alloc (by omega) _).grown hgrow (by simp; omega) (fun j hj => (OWN2.out.lt j hj).1)
      have HR5 := toHid (HR1.out.keep (hb5.mono hlt))
      have HB5 := toHid (HB1.out.trans (hb5.mono (Nat.le_of_lt hlt)))
      have HF5 : Hid (Rf b w w5) := fun j hj hn => (hb5.block j hj).trans (HF1.out j hj hn)
      have HO5 : Hid (w5.ownsRow w.heap.size 87 3 (.slice (some ⟨gg, 0, none⟩) (i + 1) cap) (i + 1) (rowN (P ++ [ndOf y la lc pa pc]))) := by
        rw [rowN_snoc]
        exact hown5
      have hsame : ∀ k cs t, b + 1 ≤ k → u1.heap[k]? = some (.cells cs t (0, 0)) → (t = 9 ∨ t = 63) → w5.heap[k]? = u1.heap[k]? := fun k cs t _ hc ht => (hgrow.block k (by have := (Array.getElem?_eq_some_iff.1 hc).1; simp; omega) (fun e => by
        obtain ⟨cur, hc2⟩ := row_type OWN2.out e.symm
        rw [hc] at hc2
        injection hc2 with hc2
        injection hc2 with _ e2 _
        rcases ht with rfl | rfl <;> exact absurd e2 (by decide))).trans (Below.heap_alloc u1 _ k (Array.getElem?_eq_some_iff.1 hc).1)
      have HP5 : Hid (Pair2 (NdL b w5) (P ++ [ndOf y la lc pa pc]) (L.take (i + 1))) := by
        have e1 : L.take (i + 1) = L.take i ++ [y] := by rw [List.take_add_one, HY.out]; rfl
        rw [e1]
        exact (HPR1.out.mono fun p x _ _ hp => hp.kept hsame).snoc ⟨la, lc, pa, pc, rfl, HND.out.kept hsame⟩
      clear hsame
      clear hown5 hgrow hat5 hlt5 hb5
      go_wp2_with fail
      go_roundg (n - (i + 1))
      case measure => omega
      case rel => exact ⟨i + 1, .slice (some ⟨gg, 0, none⟩) (i + 1) cap, P ++ [ndOf y la lc pa pc], by omega, by omega, rfl, by go_num, HO5.out, HP5.out, HR5.out, HB5.out, HF5.out⟩
    · have hil : ¬ (i : Int) < n := by omega
      obtain rfl : i = n := by omega
      have hT : L.take i = L := List.take_of_length_le (by rw [HN.out]; exact Nat.le_refl _)
      have hD : L.drop i = [] := List.drop_eq_nil_of_le (by rw [HN.out]; exact Nat.le_refl _)
      have HPT := toHid (hT ▸ HPR.out)
      rw [hD] at hR
      have HOW := toHid hown
      have HR := toHid hR
      have HF := toHid hf
      clear hown hR hf hT hD
      go_wp2_with fail
      go_ret
      exact ⟨⟨_, rfl, P, HOW.out, HPT.out⟩, by simpa using HR.out, hbw, HF.out⟩

theorem Pair2.mapr {α β γ : Type} {R : α → β → Prop} {R' : α → γ → Prop} {P : List α} {L : List β} (f : β → γ) (h : Pair2 R P L) (hR : ∀ p x, x ∈ L → R p x → R' p (f x)) : Pair2 R' P (L.map f) := by
  refine ⟨by rw [List.length_map]; exact h.1, fun i p y hp hy => ?_⟩
  rw [List.getElem?_map, Option.map_eq_some_iff] at hy
  obtain ⟨x, hx, rfl⟩ := hy
  exact hR p x (List.mem_of_getElem? hx) (h.2 i p x hp hx)

theorem pair_maps {α β γ : Type} {R : β → γ → Prop} (f : α → β) (g : α → γ) (L : List α) (h : ∀ x ∈ L, R (f x) (g x)) : Pair2 R (L.map f) (L.map g) := by
  refine ⟨by simp, fun i p y hp hy => ?_⟩
  rw [List.getElem?_map, Option.map_eq_some_iff] at hp hy
  obtain ⟨x, hx, rfl⟩ := hp
  obtain ⟨x', hx', rfl⟩ := hy
  rw [hx] at hx'
  cases hx'
  exact h x (List.mem_of_getElem? hx)

theorem rowF_is (L : List (ByteArray × Int)) : rowF L = rowP (L.map prF) := by
  unfold rowF rowP
  rw [List.map_map]
  rfl

theorem NdL.reads {b : Nat} {w : World} {p : Nd} {y : FN} (h : NdL b w p y) (hy : y.small) : NdIn w p y.an := by
  obtain ⟨la, lc, pa, pc, rfl, h1, h2⟩ := h
  refine ⟨rfl, rfl, row_strs h1 (fun s hs => by have := hy.2.1.2 s hs; omega), ?_, pair_maps prF flatP y.props fun q hq => ?_⟩
  · rw [rowF_is] at h2
    have e : y.props.length = (y.props.map prF).length := by simp
    rw [e] at h2
    have := row_props h2 (fun q hq => by
      obtain ⟨x, hx, rfl⟩ := List.mem_map.1 hq
      have := (hy.2.2.2 x hx).1
      show x.1.size ≤ _
      omega)
    show PropsAt w (y.props.map prF) pa y.props.length
    rw [e]
    exact this
  · exact ⟨rfl, by have := (hy.2.2.2 q hq).1; show q.1.size ≤ _; omega, by show (0 : Nat) ≤ _; omega, Nat.le_refl _, [], rfl, lieA_nil⟩

theorem nodes_read {b B : Nat} {w : World} {P : List Nd} {L : List FN} {a : Option Addr} {c : Nat} (h : w.ownsRow B 87 3 (.slice a L.length c) L.length (rowN P)) (hp : Pair2 (NdL b w) P L) (hs : ∀ y ∈ L, y.small) : NsAt w (L.map FN.an) a L.length := by
  rw [← hp.1] at h
  have := row_nodes h
  exact ⟨P, by rw [← hp.1]; exact this, hp.mapr FN.an fun p x hx hr => hr.reads (hs x hx)⟩

def edF (x : FE) : Ed := { id := x.id, frm := x.frm, dst := x.dst, typ := x.typ, props := [], pa := none, pl := 0, pc := 0 }

theorem rowG_is (L : List FE) : rowG L = rowX (L.map edF) := by
  unfold rowG rowX
  rw [List.map_map]
  rfl

theorem edges_read {B : Nat} {w : World} {L : List FE} {a : Option Addr} {c : Nat} (h : w.ownsRow B 89 5 (.slice a L.length c) L.length (rowG L)) (hs : ∀ y ∈ L, y.small) : EsAt w (L.map FE.ae) a L.length := by
  rw [rowG_is] at h
  have e : L.length = (L.map edF).length := by simp
  rw [e] at h ⊢
  have := row_edges h (fun q hq => by
    obtain ⟨x, hx, rfl⟩ := List.mem_map.1 hq
    have := (hs x hx).2.2.2
    show x.typ.size ≤ _
    omega)
  exact ⟨L.map edF, this, pair_maps edF FE.ae L fun x hx => ⟨rfl, rfl, rfl, rfl, by have := (hs x hx).2.2.2; show x.typ.size ≤ _; omega, ⟨rfl, by show (0 : Nat) ≤ _; omega, fun h => absurd h (Nat.lt_irrefl _)⟩, Pair2.nil⟩⟩

/-- A graph that has been read lies in rows behind the reader's block. -/
def GrR (b : Nat) (w : World) (na : Option Addr) (nc : Nat) (ea : Option Addr) (ec : Nat) (N : List FN) (E : List FE) : Prop :=
  (∃ PN, w.ownsRow (b + 1) 87 3 (.slice na N.length nc) N.length (rowN PN) ∧ Pair2 (NdL b w) PN N) ∧ w.ownsRow (b + 1) 89 5 (.slice ea E.length ec) E.length (rowG E)

theorem GrR.kept {b : Nat} {w w' : World} {na : Option Addr} {nc : Nat} {ea : Option Addr} {ec : Nat} {N : List FN} {E : List FE} (h : GrR b w na nc ea ec N E) (hk : ∀ k cs t, b + 1 ≤ k → w.heap[k]? = some (.cells cs t (0, 0)) → t ≠ 56 → w'.heap[k]? = w.heap[k]?) : GrR b w' na nc ea ec N E := by
  obtain ⟨⟨PN, h1, h2⟩, h3⟩ := h
  refine ⟨⟨PN, row_keep h1 fun g hg hl => ?_, h2.mono fun p x _ _ hp => hp.kept fun k cs t hb hc ht => hk k cs t hb hc (by rcases ht with rfl | rfl <;> decide)⟩, row_keep h3 fun g hg hl => ?_⟩
  · obtain ⟨cur, hc⟩ := row_type h1 hg
    exact hk g cur _ (h1.lt g hg).1 hc (by decide)
  · obtain ⟨cur, hc⟩ := row_type h3 hg
    exact hk g cur _ (h3.lt g hg).1 hc (by decide)

theorem GrR.reads {b : Nat} {w : World} {na : Option Addr} {nc : Nat} {ea : Option Addr} {ec : Nat} {N : List FN} {E : List FE} (h : GrR b w na nc ea ec N E) (hN : ∀ y ∈ N, y.small) (hE : ∀ y ∈ E, y.small) : NsAt w (N.map FN.an) na N.length ∧ EsAt w (E.map FE.ae) ea E.length := by
  obtain ⟨⟨PN, h1, h2⟩, h3⟩ := h
  exact ⟨nodes_read h1 h2 hN, edges_read h3 hE⟩

set_option maxHeartbeats 4000000 in
set_option maxRecDepth 100000 in
theorem rgraph_any (b : Nat) (w : World) (N : List FN) (E : List FE) (nx : Int) (r : List UInt8) (d : Int) (hN : N.length ≤ 40 ∧ ∀ y ∈ N, y.small) (hE : E.length ≤ 60 ∧ ∀ y ∈ E, y.small) (hx : 0 ≤ nx ∧ nx ≤ 1099511627776) (h : Rd b w (gB nx (N.map FN.an) (E.map FE.ae) ++ r) d) :
    Calls Tryd.prog 39 #[.pointer (some ⟨b, 0, none⟩)] w fun e w' => (∃ na nc ea ec, e = .returned (.agg #[.slice na N.length nc, .slice ea E.length ec, .int .i64 nx]) ∧ GrR b w' na nc ea ec N E) ∧ Rd b w' r d ∧ Below b w w' ∧ Rf b w w' := by
  have hlt := h.lt
  have hne : w.heap.size ≠ b := by omega
  have hsp : gB nx (N.map FN.an) (E.map FE.ae) ++ r = numB nx ++ (eaB (fun x => nB (FN.an x)) N ++ (eaB (fun x => eB (FE.ae x)) E ++ r)) := by
    unfold gB
    simp only [List.append_assoc, eaB, List.length_map, List.map_map]
    rfl
  rw [hsp] at h
  clear hsp
  have kA : Below w.heap.size w (w.alloc (.cells #[.slice none 0 0, .slice none 0 0, .int .i64 0] 56)) := (Below.refl _ _).alloc (Nat.le_refl _) _
  have HR0 := toHid (h.below kA)
  have HA0 := toHid (alloc_new w (.cells #[.slice none 0 0, .slice none 0 0, .int .i64 0] 56))
  have HB0 := toHid (kA.mono (Nat.le_of_lt hlt))
  have HF0 : Hid (Rf b w (w.alloc (.cells #[.slice none 0 0, .slice none 0 0, .int .i64 0] 56))) := Rf.of kA
  have hzA : (w.alloc (.cells #[.slice none 0 0, .slice none 0 0, .int .i64 0] 56)).heap.size = w.heap.size + 1 := by simp
  have z0 : w.heap.size < (w.alloc (.cells #[.slice none 0 0, .slice none 0 0, .int .i64 0] 56)).heap.size := by omega
  clear h hzA
  go_enter Tryd.func39, Tryd.ntmps39
  go_upto_region 1 with fail
  generalize w.alloc (.cells #[.slice none 0 0, .slice none 0 0, .int .i64 0] 56) = u0 at kA HR0 HA0 HB0 HF0 z0 ⊢
  have HC1 := toHid (rnumber_any b u0 nx _ d hx.1 hx.2 HR0.out)
  go_wp2_with fail
  refine HC1.out.mono ?_
  rintro e u1 ⟨rfl, hR1, hb1, hf1⟩
  have HR1 := toHid hR1
  have HB1 := toHid (HB0.out.trans hb1)
  have HF1 := toHid (HF0.out.trans (Nat.le_of_lt z0) hf1)
  have HA1 := toHid ((hf1 w.heap.size z0 hne).trans HA0.out)
  have z1 : w.heap.size < u1.heap.size := (Array.getElem?_eq_some_iff.1 HA1.out).1
  clear hR1 hb1 hf1 HC1
  have HC2 := toHid (rlistN_any b u1 N _ d 40 hN.1 (by omega) hN.2 HR1.out)
  go_wp2_with fail
  refine HC2.out.mono ?_
  rintro e u2 ⟨⟨vN, rfl, PN, hownN, hprN⟩, hR2, hb2, hf2⟩
  have HPN := toHid hprN
  clear hprN
  obtain ⟨aN, cN, rfl, hlcN⟩ := slice_of_row hownN
  have OWN := toHid (row_base hownN (show b + 1 ≤ u1.heap.size by omega) (show w.heap.size < u1.heap.size from z1))
  have HR2 := toHid hR2
  have HB2 := toHid (HB1.out.trans hb2)
  have HF2 := toHid (HF1.out.trans (Nat.le_of_lt z1) hf2)
  have HA2 := toHid ((hf2 w.heap.size z1 hne).trans HA1.out)
  have z2 : w.heap.size < u2.heap.size := (Array.getElem?_eq_some_iff.1 HA2.out).1
  clear hownN
  clear hR2 hb2 hf2 HC2
  have HC3 := toHid (rlistE_any b u2 E _ d 60 hE.1 (by omega) hE.2 HR2.out)
  go_wp2_with fail
  refine HC3.out.mono ?_
  rintro e u3 ⟨⟨vE, rfl, hownE, _⟩, hR3, hb3, hf3⟩
  obtain ⟨aE, cE, rfl, hlcE⟩ := slice_of_row hownE
  have OWE := toHid (row_base hownE (show b + 1 ≤ u2.heap.size by omega) (show w.heap.size < u2.heap.size from z2))
  have HR3 := toHid hR3
  have HB3 := toHid (HB2.out.trans hb3)
  have HF3 := toHid (HF2.out.trans (Nat.le_of_lt z2) hf3)
  have HA3 := toHid ((hf3 w.heap.size z2 hne).trans HA2.out)
  have z3 : w.heap.size < u3.heap.size := (Array.getElem?_eq_some_iff.1 HA3.out).1
  have HPN3 : Hid (Pair2 (NdL b u3) PN N) := HPN.out.mono fun p x _ _ hp => hp.kept fun k cs t hk hc _ => hf3 k (Array.getElem?_eq_some_iff.1 hc).1 (by omega)
  have OWN3 := toHid (OWN.out.kept (fun k hk hn hl => hf3 k hl (by omega)))
  clear hownE
  clear hR3 hb3 hf3 HC3
  have f0 := free_of HA3.out 0
  have f1 := free_of HA3.out 1
  have f2 := free_of HA3.out 2
  have d0 := cell_of HA3.out 0
  have d1 := cell_of HA3.out 1
  have d2 := cell_of HA3.out 2
  simp at d0 d1 d2
  go_wp2_with fail
  have eP : ((u3.setCell ⟨w.heap.size, 0, none⟩ (.slice aN N.length cN)).setCell ⟨w.heap.size, 1, none⟩ (.slice aE E.length cE)).setCell ⟨w.heap.size, 2, none⟩ (.int .i64 nx) = putL u3 w.heap.size 0 [.slice aN N.length cN, .slice aE E.length cE, .int .i64 nx] := rfl
  rw [eP]
  have EBX := box3R HA3.out rfl (.slice aN N.length cN) (.slice aE E.length cE) (.int .i64 nx)
  have hbY : Below w.heap.size u3 (putL u3 w.heap.size 0 [.slice aN N.length cN, .slice aE E.length cE, .int .i64 nx]) := putL_bel w.heap.size _ _ u3
  have hYo : ∀ j, j ≠ w.heap.size → (putL u3 w.heap.size 0 [.slice aN N.length cN, .slice aE E.length cE, .int .i64 nx]).heap[j]? = u3.heap[j]? := fun j hj => putL_other _ _ _ _ j hj
  generalize putL u3 w.heap.size 0 [.slice aN N.length cN, .slice aE E.length cE, .int .i64 nx] = Y at EBX hbY hYo ⊢
  have t0 := cell_of EBX 0
  have t1 := cell_of EBX 1
  have t2 := cell_of EBX 2
  simp at t0 t1 t2
  have HPY : Hid (Pair2 (NdL b Y) PN N) := HPN3.out.mono fun p x _ _ hp => hp.kept fun k cs t hk hc ht => hYo k (fun e => by
    subst e
    rw [HA3.out] at hc
    injection hc with hc
    injection hc with _ e2 _
    rcases ht with rfl | rfl <;> exact absurd e2 (by decide))
  have OYN := toHid (OWN3.out.kept (fun k hk hn hl => hYo k hn))
  have OYE := toHid (OWE.out.kept (fun k hk hn hl => hYo k hn))
  exact bodyPost_ret (v := .agg #[.slice aN N.length cN, .slice aE E.length cE, .int .i64 nx]) (by simp [results, Tryd.results39, go_sem, t0, t1, t2]) rfl ⟨⟨aN, cN, aE, cE, rfl, ⟨PN, OYN.out.1, HPY.out⟩, OYE.out.1⟩, HR3.out.keep (hbY.mono hlt), HB3.out.trans (hbY.mono (Nat.le_of_lt hlt)), fun j hj hn => (hbY.block j hj).trans (HF3.out j hj hn)⟩

theorem begin_idle (w : World) : CallsD Tryd.prog 63 #[] .returning w fun e u' w' => e = .returned (.tuple #[]) ∧ u' = .returning ∧ w' = w := by
  refine callsD_of_wpS Tryd.func63 rfl fun c₀ cs hu => ?_
  have hnil : ∀ w, (binOp .eql 20 .nilIface .nilIface).run Tryd.prog w = .ok (.bool true) w := fun w => run_eql_nil_nil w 20 (by kernel_rfl)
  apply wpS_seq
  apply wpS_region
  simp [wpOpsS, go_sem, recoverD, hu, Tryd.ntmps63, Exit.thenS]
  apply wpS_seq
  apply wpS_seq
  apply wpS_region
  simp [wpOpsS, go_sem, Exit.thenS, hnil]
  refine wpS_cond (t := true) (by simp [Act.eval]) ?_
  simp only [if_true]
  refine wpS_of_wp (wp_ret ?_)
  simp only [Exit.thenS]
  cases c₀
  simp_all [bodyPostS, results, Tryd.results63]

set_option maxHeartbeats 4000000 in
set_option maxRecDepth 100000 in
theorem begin_any (b : Nat) (w : World) (N : List FN) (E : List FE) (nx : Int) (d : Int) (hN : N.length ≤ 40 ∧ ∀ y ∈ N, y.small) (hE : E.length ≤ 60 ∧ ∀ y ∈ E, y.small) (hx : 0 ≤ nx ∧ nx ≤ 1099511627776) (h : Rd b w (gB nx (N.map FN.an) (E.map FE.ae) ++ []) d) :
    Calls Tryd.prog 38 #[.func (.func 39) #[.pointer (some ⟨b, 0, none⟩)] #[]] w fun e w' => (∃ na nc ea ec, e = .returned (.tuple #[.agg #[.slice na N.length nc, .slice ea E.length ec, .int .i64 nx], .bool true]) ∧ GrR b w' na nc ea ec N E) ∧ Below b w w' ∧ Rf b w w' := by
  have hlt := h.lt
  have hne : w.heap.size ≠ b := by omega
  have kA : Below w.heap.size w (w.alloc (.cells #[.slice none 0 0, .slice none 0 0, .int .i64 0] 56)) := (Below.refl _ _).alloc (Nat.le_refl _) _
  have HG := toHid (rgraph_any b _ N E nx [] d hN hE hx (h.below kA))
  have HA := toHid (alloc_new w (.cells #[.slice none 0 0, .slice none 0 0, .int .i64 0] 56))
  have hzA : (w.alloc (.cells #[.slice none 0 0, .slice none 0 0, .int .i64 0] 56)).heap.size = w.heap.size + 1 := by simp
  have HZA := toHid hzA
  clear h hzA
  go_enter_defers Tryd.func38, Tryd.ntmps38
  go_wp2_with fail
  generalize w.alloc (.cells #[.slice none 0 0, .slice none 0 0, .int .i64 0] 56) = WA at kA HG HA HZA ⊢
  refine HG.out.mono ?_
  rintro e u1 ⟨⟨na, nc, ea, ec, rfl, hGr⟩, hR1, hb1, hf1⟩
  have HF1 := toHid ((Rf.of (b := b) kA).trans kA.size hf1)
  have HA1 := toHid ((hf1 w.heap.size (by rw [HZA.out]; omega) hne).trans HA.out)
  have HGR := toHid hGr
  have HB1 := toHid ((kA.mono (Nat.le_of_lt hlt)).trans hb1)
  have z1 : w.heap.size < u1.heap.size := (Array.getElem?_eq_some_iff.1 HA1.out).1
  have f0 := free_of HA1.out 0
  have f1 := free_of HA1.out 1
  have f2 := free_of HA1.out 2
  have d0 := cell_of HA1.out 0
  have d1 := cell_of HA1.out 1
  have d2 := cell_of HA1.out 2
  simp at d0 d1 d2
  clear hGr hR1 hb1 hf1 HG
  go_wp2_with fail
  have eP : ((u1.setCell ⟨w.heap.size, 0, none⟩ (.slice na N.length nc)).setCell ⟨w.heap.size, 1, none⟩ (.slice ea E.length ec)).setCell ⟨w.heap.size, 2, none⟩ (.int .i64 nx) = putL u1 w.heap.size 0 [.slice na N.length nc, .slice ea E.length ec, .int .i64 nx] := rfl
  rw [eP]
  have EBX := box3R HA1.out rfl (.slice na N.length nc) (.slice ea E.length ec) (.int .i64 nx)
  have hbY : Below w.heap.size u1 (putL u1 w.heap.size 0 [.slice na N.length nc, .slice ea E.length ec, .int .i64 nx]) := putL_bel w.heap.size _ _ u1
  have hYo : ∀ j, j ≠ w.heap.size → (putL u1 w.heap.size 0 [.slice na N.length nc, .slice ea E.length ec, .int .i64 nx]).heap[j]? = u1.heap[j]? := fun j hj => putL_other _ _ _ _ j hj
  generalize putL u1 w.heap.size 0 [.slice na N.length nc, .slice ea E.length ec, .int .i64 nx] = Y at EBX hbY hYo ⊢
  have t0 := cell_of EBX 0
  have t1 := cell_of EBX 1
  have t2 := cell_of EBX 2
  simp at t0 t1 t2
  have HGY := toHid (HGR.out.kept (w' := Y) fun k cs t hb hc ht => hYo k (fun e => by
    subst e
    rw [HA1.out] at hc
    injection hc with hc
    injection hc with _ e2 _
    exact ht e2.symm))
  refine leaves_cons (f := 63) (args := #[]) (by simp) (by simp [go_sem]) ?_
  refine (begin_idle _).mono ?_
  rintro e u' w'' ⟨rfl, rfl, rfl⟩
  have hfin : Below b w w'' ∧ Rf b w w'' := ⟨HB1.out.trans (hbY.mono (Nat.le_of_lt hlt)), fun j hj hn => (hbY.block j hj).trans (HF1.out j hj hn)⟩
  simp [Leaves, settle, results, Tryd.results38, go_sem, t0, t1, t2]
  exact ⟨⟨na, nc, ea, ec, ⟨⟨rfl, rfl⟩, rfl, rfl⟩, HGY.out⟩, hfin⟩
end Go.Proofs.YtldpionmmplncaaDoor
