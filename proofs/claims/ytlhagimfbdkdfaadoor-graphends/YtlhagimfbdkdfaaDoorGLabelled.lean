/-
  What is proved here: graph.HasLabel; what graph.Labelled answers of any graph (given what Check answers): the numbers of the nodes with a label, in memory of the call's own.
-/
import Derived.Test.YtlhagimfbdkdfaaDoorGSlices
namespace Go.Proofs.YtlhagimfbdkdfaaDoor
open Go.RowKit
set_option linter.unusedVariables false
set_option linter.unusedSimpArgs false

/-- Has it that label, or is none asked for? -/
def selN (label : ByteArray) (x : Nd) : Bool := label.toList.isEmpty || hasS x.labs label

def lbL (label : ByteArray) (N : List Nd) : List Int := (N.filter (selN label)).map Nd.id

theorem lbL_yes {label : ByteArray} {x : Nd} {N : List Nd} (h : selN label x = true) : lbL label (x :: N) = x.id :: lbL label N := by
  simp [lbL, h]

theorem lbL_no {label : ByteArray} {x : Nd} {N : List Nd} (h : selN label x = false) : lbL label (x :: N) = lbL label N := by
  simp [lbL, h]

/-- What Labelled answers. -/
def LabEnd (w w' : World) (er : Int) (L : List Int) (e : Ending) : Prop :=
  (er ≠ 0 ∧ e = .returned (.tuple #[.slice none 0 0, .int .i64 er])) ∨ (er = 0 ∧ ∃ v, e = .returned (.tuple #[v, .int .i64 0]) ∧ w'.ownsRow w.heap.size 3 1 v L.length (ints L))

set_option maxHeartbeats 2000000 in
theorem hasLabel_any (x : Nd) (s : ByteArray) (w : World) (h : StrsAt w x.labs x.la x.ll) :
    Calls Tryd.prog 14 #[.agg #[.int .i64 x.id, .slice x.la x.ll x.lc, .slice x.pa x.pl x.pc], .string s] w fun e w' => e = .returned (.bool (selN s x)) ∧ Below w.heap.size w w' := by
  have b0 : Below w.heap.size w (w.alloc (.cells #[.int .i64 x.id, .slice x.la x.ll x.lc, .slice x.pa x.pl x.pc] 36)) := (Below.refl _ _).alloc (Nat.le_refl _) _
  have HB0 := toHid b0
  have HC := toHid (contains_strs x.labs x.la x.ll x.lc s _ (h.below b0))
  unfold selN
  clear h b0
  cases hb : s.toList.isEmpty with
  | true =>
    go_enter Tryd.func14, Tryd.ntmps14
    go_wp2_with fail
    go_ret
    exact ⟨by simp [hb], HB0.out⟩
  | false =>
    go_enter Tryd.func14, Tryd.ntmps14
    go_wp2_with fail
    refine HC.out.mono ?_
    rintro e w1 ⟨rfl, rfl⟩
    go_wp2_with fail
    go_ret
    exact ⟨by simp [hb], HB0.out⟩

theorem rowI_keep {w w' : World} {B n size : Nat} {e : TypeId} {v : Value} {xs : List Value} (h : w.ownsRow B e size v n xs) (k : Below w.heap.size w w') : w'.ownsRow B e size v n xs := by
  refine ⟨h.1, ?_⟩
  rcases h.2 with h0 | ⟨g, cap, cur, h0, h1, h2, h3⟩
  · exact .inl h0
  · refine .inr ⟨g, cap, cur, h0, h1, ?_, h3⟩
    rw [k.block g (Array.getElem?_eq_some_iff.1 h2).1]
    exact h2

set_option maxHeartbeats 8000000 in
set_option maxRecDepth 100000 in
theorem labelled_of (N : List Nd) (na : Option Addr) (nl nc : Nat) (ea : Option Addr) (el ec : Nat) (next : Int) (label : ByteArray) (er : Int) (w : World) (hNA : NodesAt w N na nl) (hS : ∀ x ∈ N, StrsAt w x.labs x.la x.ll)
    (hC : ∀ W, Below w.heap.size w W → Calls Tryd.prog 13 #[.agg #[.slice na nl nc, .slice ea el ec, .int .i64 next]] W fun e w' => e = .returned (.int .i64 er) ∧ Below W.heap.size W w')
    (hok : er = 0 → nl ≤ 40) :
    Calls Tryd.prog 5 #[.agg #[.slice na nl nc, .slice ea el ec, .int .i64 next], .string label] w fun e w' => LabEnd w w' er (lbL label N) e ∧ Below w.heap.size w w' := by
  have HNA := toHid hNA
  have HC := toHid hC
  have HOK := toHid hok
  have HNL := toHid hNA.1
  have HSS := toHid hS
  clear hNA hC hok hS
  obtain ⟨i0, hi0, hiz, his, hib⟩ := info_int
  have HI0 := toHid hi0
  have HIZ := toHid hiz
  have HIS := toHid his
  have HIB := toHid hib
  clear hi0 hiz his hib
  obtain ⟨A, hA⟩ : ∃ A, A = lbL label N := ⟨_, rfl⟩
  rw [← hA]
  have HAR := toHid hA
  clear hA
  have b0 : Below w.heap.size w (w.alloc (.cells #[.slice na nl nc, .slice ea el ec, .int .i64 next] 25)) := (Below.refl _ _).alloc (Nat.le_refl _) _
  have z0 : (w.alloc (.cells #[.slice na nl nc, .slice ea el ec, .int .i64 next] 25)).heap.size = w.heap.size + 1 := by simp
  have hx := alloc_new w (.cells #[.slice na nl nc, .slice ea el ec, .int .i64 next] 25)
  have HY : Hid (∀ W, Below (w.heap.size + 1) (w.alloc (.cells #[.slice na nl nc, .slice ea el ec, .int .i64 next] 25)) W → W.cell? ⟨w.heap.size, 0, none⟩ = some (.slice na nl nc) ∧ W.cell? ⟨w.heap.size, 1, none⟩ = some (.slice ea el ec) ∧ W.cell? ⟨w.heap.size, 2, none⟩ = some (.int .i64 next)) := by
    intro W k
    have q : ∀ o, W.cell? ⟨w.heap.size, o, none⟩ = _ := fun o => (k.cell (p := ⟨w.heap.size, o, none⟩) (Nat.lt_succ_self _)).trans (cell_of hx o)
    exact ⟨q 0, q 1, q 2⟩
  have B0 := toHid b0
  have Z0 := toHid z0
  clear hx b0 z0
  go_enter Tryd.func5, Tryd.ntmps5
  go_wp2_with fail
  refine (HC.out _ B0.out).mono ?_
  have K0 := toHid (Below.refl (w.heap.size + 1) (w.alloc (.cells #[.slice na nl nc, .slice ea el ec, .int .i64 next] 25)))
  generalize w.alloc (.cells #[.slice na nl nc, .slice ea el ec, .int .i64 next] 25) = W0 at HY B0 Z0 K0 ⊢
  rintro e w1 ⟨rfl, k1⟩
  have K1 := toHid (below3 K0.out (by rw [Z0.out]; exact Nat.le_refl _) k1)
  have B1 := toHid (below3 B0.out B0.out.size k1)
  have S1 : w.heap.size + 1 ≤ w1.heap.size := by have := k1.size; rw [Z0.out] at this; exact this
  obtain ⟨y0, y1, y2⟩ := HY.out w1 K1.out
  clear k1 K0
  by_cases her : er = 0
  · have her' : (er != 0) = false := by simp [her]
    have h40 := HOK.out her
    have HER := toHid her
    clear her HOK
    have HA0 : Hid (A = [] ++ lbL label (N.drop 0)) := HAR.out
    go_wp2_with fail
    go_loopg [7, 18] nl (fun g s7 s18 wr => ∃ (i : Nat) (acc : List Int) (ov : Value), i ≤ nl ∧ nl - i ≤ g ∧ ov = s7 ∧ s18 = .int .i64 i ∧ acc.length ≤ i ∧ wr.ownsRow (w.heap.size + 1) 3 1 ov acc.length (ints acc) ∧ Below (w.heap.size + 1) W0 wr ∧ A = acc ++ lbL label (N.drop i))
    case atStart => exact ⟨0, [], .slice none 0 0, Nat.zero_le _, by omega, rfl, rfl, Nat.le_refl _, World.ownsRow_nil _ _ _ _, K1.out, HA0.out⟩
    case round =>
      clear HA0 HAR y0 y1 y2 B1 S1 K1
      obtain ⟨i, acc, ov, hi, hg, rfl, rfl, hai, hown, hbw, hfe⟩ := hrel
      have HF := toHid hfe
      have HOWN := toHid hown
      clear hfe hown
      have hz : w.heap.size + 1 ≤ wr.heap.size := by have := hbw.size; rw [Z0.out] at this; exact this
      have hw0 : Below w.heap.size w wr := B0.out.trans (hbw.mono (by omega))
      by_cases hlt : i < nl
      · obtain ⟨b, off, ha, hb, hc⟩ := HNA.out.2.2 (by omega)
        subst ha
        obtain ⟨x, hx, hd⟩ := drop_get (L := N) (i := i) (by have := HNL.out; omega)
        obtain ⟨c0, c1, c2⟩ := hc i x hx
        have q : ∀ o, wr.cell? ⟨b, o, none⟩ = w.cell? ⟨b, o, none⟩ := fun o => hw0.cell (p := ⟨b, o, none⟩) hb
        have d0 := (q _).trans c0
        have d1 := (q _).trans c1
        have d2 := (q _).trans c2
        have HD := toHid hd
        have HXM := toHid (List.mem_of_getElem? hx)
        clear hc hd hx c0 c1 c2 q
        have HB : (acc.length + 1) * 8 ≤ 140737488355328 := by omega
        have HB2 : acc.length + 1 ≤ maxLen := by unfold maxLen; omega
        have hb3 : Below (w.heap.size + 1) W0 (wr.alloc (.cells #[.int .i64 x.id, .slice x.la x.ll x.lc, .slice x.pa x.pl x.pc] 36)) := hbw.alloc hz _
        have HB3 := toHid hb3
        have HSX := toHid ((HSS.out x HXM.out).below (hw0.alloc (by omega) (.cells #[.int .i64 x.id, .slice x.la x.ll x.lc, .slice x.pa x.pl x.pc] 36)))
        have OWN3 := toHid (HOWN.out.alloc (.cells #[.int .i64 x.id, .slice x.la x.ll x.lc, .slice x.pa x.pl x.pc] 36))
        clear hb3
        have hbx := alloc_new wr (.cells #[.int .i64 x.id, .slice x.la x.ll x.lc, .slice x.pa x.pl x.pc] 36)
        have hz1 : (wr.alloc (.cells #[.int .i64 x.id, .slice x.la x.ll x.lc, .slice x.pa x.pl x.pc] 36)).heap.size = wr.heap.size + 1 := by simp
        have HBX := toHid hbx
        have HZ1 := toHid hz1
        have HC := toHid (hasLabel_any x label _ HSX.out)
        obtain ⟨t, ht⟩ : ∃ t, t = selN label x := ⟨_, rfl⟩
        rw [← ht] at HC
        have HTT := toHid ht
        clear hbx hz1 ht HSX
        go_wp2_with fail
        refine HC.out.mono ?_
        generalize wr.alloc (.cells #[.int .i64 x.id, .slice x.la x.ll x.lc, .slice x.pa x.pl x.pc] 36) = W1 at HB3 HBX HZ1 OWN3 HC ⊢
        rintro e w2 ⟨rfl, k2⟩
        have hs2 : wr.heap.size + 1 ≤ w2.heap.size := by have := k2.size; rw [HZ1.out] at this; exact this
        have hbx2 := (k2.block wr.heap.size (by rw [HZ1.out]; omega)).trans HBX.out
        have HB4 := toHid (HB3.out.trans (k2.mono (by rw [HZ1.out]; omega)))
        have OWN4 := toHid (rowI_keep OWN3.out k2)
        clear k2 d0 d1 d2 HC OWN3 HB3
        cases t with
        | true =>
          have H3 := toHid (show A = (acc ++ [x.id]) ++ lbL label (N.drop (i + 1)) by rw [HF.out, HD.out, lbL_yes HTT.out.symm, List.append_assoc]; rfl)
          have x0 := cell_of hbx2 0
          simp at x0
          have hbl : wr.heap.size < w2.heap.size := by omega
          clear HF HD hbx2 HBX
          generalize wr.heap.size = bx at x0 hbl ⊢
          go_wp2_with (at_builtin; refine wpList_append_lies _ rfl _ _ 26 rfl (w.heap.size + 1) 3 i0 _ 1 8 Tryd.underlying26 HI0.out HIZ.out HIS.out HIB.out rfl (by omega) ov acc.length (ints acc) rfl (OWN4.out.alloc _) ⟨w2.heap.size, 0, none⟩ 1 1 [.int .i64 x.id] rfl rfl (World.news_of_block (cs := #[.int .i64 x.id]) (t := 3) (fr := (0, 0)) (alloc_new w2 _)) (by simp [Value.oneCell']) (by omega) HB2 HB (by simp; omega) (w2.heap.size + 1) (by simp) ?_)
          intro gg cap w5 hown5 hgrow hat5 hlt5
          rw [← ints_more] at hown5
          have hb6 : Below (w.heap.size + 1) W0 w5 := (HB4.out.alloc (by omega) _).grown hgrow (by simp; omega) (fun j hj => rowI_block HOWN.out j hj)
          have HOWN5 := toHid hown5
          clear hown5 hgrow hat5 hlt5
          go_wp2_with fail
          go_roundg (nl - (i + 1))
          case measure => omega
          case rel => exact ⟨i + 1, acc ++ [x.id], .slice (some ⟨gg, 0, none⟩) (acc.length + 1) cap, by omega, by omega, rfl, by go_num, (by rw [List.length_append, List.length_singleton]; omega), (by rw [List.length_append, List.length_singleton]; exact HOWN5.out), hb6, H3.out⟩
        | false =>
          have H3 := toHid (show A = acc ++ lbL label (N.drop (i + 1)) by rw [HF.out, HD.out, lbL_no HTT.out.symm])
          clear HF HD hbx2 HBX
          go_wp2_with fail
          go_roundg (nl - (i + 1))
          case measure => omega
          case rel => exact ⟨i + 1, acc, ov, by omega, by omega, rfl, by go_num, by omega, OWN4.out, HB4.out, H3.out⟩
      · have H3 := toHid (show A = acc by rw [HF.out, List.drop_eq_nil_of_le (by have := HNL.out; omega)]; simp [lbL])
        clear HF
        go_wp2_with fail
        refine bodyPost_ret (v := .tuple #[ov, .int .i64 0]) (by simp [results, Tryd.results5, go_sem]) rfl ⟨.inr ⟨HER.out, ov, rfl, ?_⟩, hw0⟩
        rw [H3.out]
        exact ⟨HOWN.out.1, HOWN.out.2.elim .inl (fun ⟨g, cap, cur, e1, e2, e3⟩ => .inr ⟨g, cap, cur, e1, by omega, e3⟩)⟩
  · have her' : (er != 0) = true := by simp [her]
    have HER := toHid her
    clear her
    go_wp2_with fail
    exact bodyPost_ret (v := .tuple #[.slice none 0 0, .int .i64 er]) (by simp [results, Tryd.results5, go_sem]) rfl ⟨.inl ⟨HER.out, rfl⟩, B1.out⟩
end Go.Proofs.YtlhagimfbdkdfaaDoor
