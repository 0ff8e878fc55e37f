/-
  What is proved here: what the texts KrLS, KrProp, KpProp, KpLO prove, in one text.
-/
import Derived.Test.YtldpionmmplncaaDoorQOAQ
import Derived.Test.YtldpionmmplncaaDoorQOAE
import Derived.Test.YtldpionmmplncaaDoorQOAO
import Derived.Test.YtldpionmmplncaaDoorQOAM
import Derived.Deep.AppendLies
namespace Go.Proofs.YtldpionmmplncaaDoor
open Go.RowKit
set_option linter.unusedVariables false

theorem infoRS0 : (Tryd.prog.info? 9).map (fun i => (i.zero, i.size, i.bytes)) = some (some (.string ⟨#[]⟩), 1, 16) := by kernel_rfl
theorem infoRS : ∃ i, Tryd.prog.info? 9 = some i ∧ i.zero = some (.string ⟨#[]⟩) ∧ i.size = 1 ∧ i.bytes = 16 := by
  obtain ⟨i, h, e⟩ := Option.map_eq_some_iff.1 infoRS0
  simp only [Prod.mk.injEq] at e
  exact ⟨i, h, e⟩

set_option maxHeartbeats 4000000 in
set_option maxRecDepth 100000 in
theorem rlistS_any (b : Nat) (w : World) (L : List ByteArray) (r : List UInt8) (d : Int) (most : Nat) (hmost : L.length ≤ most) (hm : most ≤ 1000) (hok : ∀ y ∈ L, y.size ≤ 1000000) (h : Rd b w (eaB txB L ++ r) d) :
    Calls Tryd.prog 54 #[.pointer (some ⟨b, 0, none⟩), .int .i64 most, .func (.func 52) #[.pointer (some ⟨b, 0, none⟩)] #[]] w fun e w' => (∃ v, e = .returned v ∧ w'.ownsRow w.heap.size 9 1 v L.length (strs L) ∧ (L = [] → v = .slice none 0 0)) ∧ Rd b w' r d ∧ Below b w w' ∧ Rf b w w' := by
  have hlt := h.lt
  have h' : Rd b w (bts L.length ++ ((L.map txB).flatten ++ r)) d := by unfold eaB at h; rw [List.append_assoc] at h; exact h
  have HB := toHid (rbits_any b w L.length _ d (by omega) h')
  have HOK := toHid hok
  obtain ⟨i0, hi0, hiz, his, hib⟩ := infoRS
  have HI0 := toHid hi0
  have HIZ := toHid hiz
  have HIS := toHid his
  have HIB := toHid hib
  obtain ⟨n, hn⟩ : ∃ n, n = L.length := ⟨_, rfl⟩
  rw [← hn] at hmost HB
  rw [← hn]
  have HN := toHid hn
  clear h h' hok hi0 hiz his hib hn
  have hle : ¬ (most : Int) < n := by omega
  go_enter Tryd.func54, Tryd.ntmps54
  go_wp2_with fail
  refine HB.out.mono ?_
  rintro e w1 ⟨rfl, hR1, hb1, hf1⟩
  have HR1 := toHid hR1
  have HF1 := toHid hf1
  clear hR1 hf1 HB
  go_wp2_with fail
  rw [show decide (most < n) = false from decide_eq_false (by omega)]
  go_loopg [8, 18] n (fun g s8 s18 wr => ∃ (i : Nat) (ov : Value), i ≤ n ∧ n - i ≤ g ∧ ov = s8 ∧ s18 = .int .u64 i ∧ wr.ownsRow w.heap.size 9 1 ov i (strs (L.take i)) ∧ Rd b wr (((L.drop i).map txB).flatten ++ r) d ∧ Below b w wr ∧ Rf b w wr ∧ (i = 0 → ov = .slice none 0 0))
  case atStart => exact ⟨0, _, Nat.zero_le _, by omega, rfl, by go_num, World.ownsRow_nil _ _ _ _, by simpa using HR1.out, hb1, HF1.out, fun _ => rfl⟩
  case round =>
    clear HR1 HF1 hb1
    obtain ⟨i, ov, hi, hg, rfl, rfl, hown, hR, hbw, hf, hnil⟩ := hrel
    have hsz := hbw.size
    by_cases hlt2 : i < n
    · obtain ⟨y, hy⟩ : ∃ y, L[i]? = some y := ⟨L[i]'(by rw [← HN.out]; exact hlt2), List.getElem?_eq_getElem _⟩
      have hd : L.drop i = y :: L.drop (i + 1) := by
        obtain ⟨hl, rfl⟩ := List.getElem?_eq_some_iff.1 hy
        exact List.drop_eq_getElem_cons hl
      have hyo := HOK.out y (List.mem_of_getElem? hy)
      have hR' : Rd b wr (txB y ++ (((L.drop (i + 1)).map txB).flatten ++ r)) d := by rw [hd] at hR; simpa [List.append_assoc] using hR
      have HC := toHid (rtext_any b wr y _ d hyo hR')
      have HOW := toHid hown
      have HF := toHid hf
      have HY := toHid hy
      have hil : (i : Int) < n := by omega
      have hiw : IntKind.u64.wrap ((i : Int) + 1) = (i : Int) + 1 := by rw [IntKind.wrap_u64]; omega
      clear hR hR' hown hf hd hyo hy
      go_wp2_with fail
      refine HC.out.mono ?_
      rintro e u1 ⟨rfl, hR1, hb1, hf1⟩
      have hs1 := hb1.size
      have HR1 := toHid hR1
      have HB1 := toHid (hbw.trans hb1)
      have HF1 := toHid (HF.out.trans hsz hf1)
      have OWN2 := toHid (row_keep HOW.out (w' := u1) (fun g hg hl => hf1 g hl (by have := (HOW.out.lt g hg).1; omega)))
      have HBy : (i + 1) * 16 ≤ 140737488355328 := by omega
      have HBm : i + 1 ≤ maxLen := by unfold maxLen; omega
      clear hR1 hb1 hf1 HC HF
      go_wp2_with (at_builtin; refine wpList_append_lies _ rfl _ _ 35 rfl w.heap.size 9 i0 _ 1 16 Tryd.underlying35 HI0.out HIZ.out HIS.out HIB.out rfl (by omega) ov i (strs (L.take i)) rfl (OWN2.out.alloc _) ⟨u1.heap.size, 0, none⟩ 1 1 [.string y] rfl rfl (World.news_of_block (cs := #[.string y]) (t := 9) (fr := (0, 0)) (alloc_new u1 _)) (by simp [Value.oneCell']) (by omega) HBm HBy (by simp; omega) (u1.heap.size + 1) (by simp) ?_)
      intro gg cap w5 hown5 hgrow hat5 hlt5
      have hb5 : Below w.heap.size u1 w5 := ((Below.refl _ _).alloc (by omega) _).grown hgrow (by simp; omega) (fun j hj => (OWN2.out.lt j hj).1)
      have HR5 := toHid (HR1.out.keep (hb5.mono hlt))
      have HB5 := toHid (HB1.out.trans (hb5.mono (Nat.le_of_lt hlt)))
      have HF5 : Hid (Rf b w w5) := fun j hj hn => (hb5.block j hj).trans (HF1.out j hj hn)
      have HO5 : Hid (w5.ownsRow w.heap.size 9 1 (.slice (some ⟨gg, 0, none⟩) (i + 1) cap) (i + 1) (strs (L.take (i + 1)))) := by
        have e : strs (L.take (i + 1)) = strs (L.take i) ++ [.string y] := by
          rw [List.take_add_one, HY.out]
          simp [strs]
        rw [e]
        exact hown5
      clear hown5 hgrow hat5 hlt5 hb5
      go_wp2_with fail
      go_roundg (n - (i + 1))
      case measure => omega
      case rel => exact ⟨i + 1, .slice (some ⟨gg, 0, none⟩) (i + 1) cap, by omega, by omega, rfl, by go_num, HO5.out, HR5.out, HB5.out, HF5.out, fun h => by omega⟩
    · have hil : ¬ (i : Int) < n := by omega
      obtain rfl : i = n := by omega
      have hT : L.take i = L := List.take_of_length_le (by rw [HN.out]; exact Nat.le_refl _)
      have hD : L.drop i = [] := List.drop_eq_nil_of_le (by rw [HN.out]; exact Nat.le_refl _)
      rw [hT] at hown
      rw [hD] at hR
      have HOW := toHid hown
      have HR := toHid hR
      have HF := toHid hf
      clear hown hR hf hT hD
      go_wp2_with fail
      go_ret
      exact ⟨⟨_, rfl, HOW.out, fun h => hnil (by rw [HN.out, h]; rfl)⟩, by simpa using HR.out, hbw, HF.out⟩

theorem box3R {X : World} {b : Nat} {t : TypeId} {cs : Array Value} (hb : X.heap[b]? = some (.cells cs t (0, 0))) (h4 : cs.size = 3) (v0 v1 v2 : Value) :
    (putL X b 0 [v0, v1, v2]).heap[b]? = some (.cells #[v0, v1, v2] t (0, 0)) := by
  have := putL_here [v0, v1, v2] 0 X cs hb
  rw [this]
  match cs, h4 with
  | ⟨[a, b, c]⟩, _ => rfl

theorem box5R {X : World} {b : Nat} {t : TypeId} {u0 u1 u2 u3 u4 : Value} (hb : X.heap[b]? = some (.cells #[u0, u1, u2, u3, u4] t (0, 0))) (h5 : True = True) (v0 v1 v2 v3 v4 : Value) :
    (putL X b 0 [v0, v1, v2, v3, v4]).heap[b]? = some (.cells #[v0, v1, v2, v3, v4] t (0, 0)) := by
  have := putL_here [v0, v1, v2, v3, v4] 0 X #[u0, u1, u2, u3, u4] hb
  exact this

/-- A row of one's own, behind the reader's block and away from a box. -/
def RowR (b bx : Nat) (w : World) (e : TypeId) (size : Nat) (v : Value) (n : Nat) (xs : List Value) : Prop := w.ownsRow (b + 1) e size v n xs ∧ v.ownBlock ≠ some bx

theorem row_base {B b bx n size : Nat} {e : TypeId} {v : Value} {xs : List Value} {w : World} (h : w.ownsRow B e size v n xs) (h1 : b + 1 ≤ B) (h2 : bx < B) : RowR b bx w e size v n xs :=
  ⟨⟨h.1, h.2.elim .inl fun ⟨g, cap, cur, e1, e2, e3⟩ => .inr ⟨g, cap, cur, e1, Nat.le_trans h1 e2, e3⟩⟩, fun e => by have := (h.lt bx e).1; omega⟩

theorem RowR.kept {b bx n size : Nat} {e : TypeId} {v : Value} {xs : List Value} {w w' : World} (h : RowR b bx w e size v n xs) (hk : ∀ k, b + 1 ≤ k → k ≠ bx → k < w.heap.size → w'.heap[k]? = w.heap[k]?) : RowR b bx w' e size v n xs :=
  ⟨row_keep h.1 (fun g hg hl => hk g (h.1.lt g hg).1 (fun e => h.2 (e ▸ hg)) hl), h.2⟩

/-- A property with a whole number. -/
def flatP (p : ByteArray × Int) : AP := ⟨p.1, .node 2 p.2 ⟨#[]⟩ []⟩
def rowF (P : List (ByteArray × Int)) : List Value := (P.map fun p => [Value.string p.1, .int .i64 2, .int .i64 p.2, .string ⟨#[]⟩, .slice none 0 0]).flatten

set_option maxHeartbeats 4000000 in
set_option maxRecDepth 100000 in
theorem rprop_any (b : Nat) (w : World) (y : ByteArray × Int) (r : List UInt8) (d : Int) (hy : y.1.size ≤ 1000000 ∧ 0 ≤ y.2 ∧ y.2 ≤ 1099511627776) (h : Rd b w (pB (flatP y) ++ r) d) :
    Calls Tryd.prog 56 #[.pointer (some ⟨b, 0, none⟩)] w fun e w' => e = .returned (.agg #[.string y.1, .int .i64 2, .int .i64 y.2, .string ⟨#[]⟩, .slice none 0 0]) ∧ Rd b w' r d ∧ Below b w w' ∧ Rf b w w' := by
  have hlt := h.lt
  have hne : w.heap.size ≠ b := by omega
  have hsp : pB (flatP y) ++ r = txB y.1 ++ (vB (.node 2 y.2 ⟨#[]⟩ []) ++ r) := by unfold pB flatP; rw [List.append_assoc]
  rw [hsp] at h
  clear hsp
  have kA : Below w.heap.size w (w.alloc (.cells #[.string ⟨#[]⟩, .int .i64 0, .int .i64 0, .string ⟨#[]⟩, .slice none 0 0] 63)) := (Below.refl _ _).alloc (Nat.le_refl _) _
  have HR0 := toHid (h.below kA)
  have HA0 := toHid (alloc_new w (.cells #[.string ⟨#[]⟩, .int .i64 0, .int .i64 0, .string ⟨#[]⟩, .slice none 0 0] 63))
  have HB0 := toHid (kA.mono (Nat.le_of_lt hlt))
  have HF0 : Hid (Rf b w (w.alloc (.cells #[.string ⟨#[]⟩, .int .i64 0, .int .i64 0, .string ⟨#[]⟩, .slice none 0 0] 63))) := Rf.of kA
  have hzA : (w.alloc (.cells #[.string ⟨#[]⟩, .int .i64 0, .int .i64 0, .string ⟨#[]⟩, .slice none 0 0] 63)).heap.size = w.heap.size + 1 := by simp
  have z0 : w.heap.size < (w.alloc (.cells #[.string ⟨#[]⟩, .int .i64 0, .int .i64 0, .string ⟨#[]⟩, .slice none 0 0] 63)).heap.size := by omega
  clear h hzA
  go_enter Tryd.func56, Tryd.ntmps56
  go_upto_region 1 with fail
  generalize w.alloc (.cells #[.string ⟨#[]⟩, .int .i64 0, .int .i64 0, .string ⟨#[]⟩, .slice none 0 0] 63) = u0 at kA HR0 HA0 HB0 HF0 z0 ⊢
  have HC1 := toHid (rtext_any b u0 y.1 _ d hy.1 HR0.out)
  go_wp2_with fail
  refine HC1.out.mono ?_
  rintro e u1 ⟨rfl, hR1, hb1, hf1⟩
  have HR1 := toHid hR1
  have HB1 := toHid (HB0.out.trans hb1)
  have HF1 := toHid (HF0.out.trans (Nat.le_of_lt z0) hf1)
  have HA1 := toHid ((hf1 w.heap.size z0 hne).trans HA0.out)
  have z1 : w.heap.size < u1.heap.size := (Array.getElem?_eq_some_iff.1 HA1.out).1
  clear hR1 hb1 hf1 HC1
  have HC2 := toHid (rvalue_int b u1 y.2 _ d hy.2.1 hy.2.2 HR1.out)
  go_wp2_with fail
  refine HC2.out.mono ?_
  rintro e u2 ⟨rfl, hR2, hb2, hf2⟩
  have HR2 := toHid hR2
  have HB2 := toHid (HB1.out.trans hb2)
  have HF2 := toHid (HF1.out.trans (Nat.le_of_lt z1) hf2)
  have HA2 := toHid ((hf2 w.heap.size z1 hne).trans HA1.out)
  have z2 : w.heap.size < u2.heap.size := (Array.getElem?_eq_some_iff.1 HA2.out).1
  clear hR2 hb2 hf2 HC2
  have f0 := free_of HA2.out 0
  have f1 := free_of HA2.out 1
  have f2 := free_of HA2.out 2
  have f3 := free_of HA2.out 3
  have f4 := free_of HA2.out 4
  have d0 := cell_of HA2.out 0
  have d1 := cell_of HA2.out 1
  have d2 := cell_of HA2.out 2
  have d3 := cell_of HA2.out 3
  have d4 := cell_of HA2.out 4
  simp at d0 d1 d2 d3 d4
  go_wp2_with fail
  have eP : ((((u2.setCell ⟨w.heap.size, 0, none⟩ (.string y.1)).setCell ⟨w.heap.size, 1, none⟩ (.int .i64 2)).setCell ⟨w.heap.size, 2, none⟩ (.int .i64 y.2)).setCell ⟨w.heap.size, 3, none⟩ (.string ⟨#[]⟩)).setCell ⟨w.heap.size, 4, none⟩ (.slice none 0 0) = putL u2 w.heap.size 0 [.string y.1, .int .i64 2, .int .i64 y.2, .string ⟨#[]⟩, .slice none 0 0] := rfl
  rw [eP]
  have EBX := box5R HA2.out rfl (.string y.1) (.int .i64 2) (.int .i64 y.2) (.string ⟨#[]⟩) (.slice none 0 0)
  have hbY : Below w.heap.size u2 (putL u2 w.heap.size 0 [.string y.1, .int .i64 2, .int .i64 y.2, .string ⟨#[]⟩, .slice none 0 0]) := putL_bel w.heap.size _ _ u2
  have hYo : ∀ j, j ≠ w.heap.size → (putL u2 w.heap.size 0 [.string y.1, .int .i64 2, .int .i64 y.2, .string ⟨#[]⟩, .slice none 0 0]).heap[j]? = u2.heap[j]? := fun j hj => putL_other _ _ _ _ j hj
  generalize putL u2 w.heap.size 0 [.string y.1, .int .i64 2, .int .i64 y.2, .string ⟨#[]⟩, .slice none 0 0] = Y at EBX hbY hYo ⊢
  have t0 := cell_of EBX 0
  have t1 := cell_of EBX 1
  have t2 := cell_of EBX 2
  have t3 := cell_of EBX 3
  have t4 := cell_of EBX 4
  simp at t0 t1 t2 t3 t4
  exact bodyPost_ret (v := .agg #[.string y.1, .int .i64 2, .int .i64 y.2, .string ⟨#[]⟩, .slice none 0 0]) (by simp [results, Tryd.results56, go_sem, t0, t1, t2, t3, t4]) rfl ⟨rfl, HR2.out.keep (hbY.mono hlt), HB2.out.trans (hbY.mono (Nat.le_of_lt hlt)), fun j hj hn => (hbY.block j hj).trans (HF2.out j hj hn)⟩

theorem Rd1.mono {α : Type} {b : Nat} {w w' : World} {d : Int} {o : Option (α × List UInt8)} {R R' : World → World → α → Value → Prop} {e : Ending} (h : Rd1 b w w' d o R e) (hR : ∀ x v, R w w' x v → R' w w' x v) : Rd1 b w w' d o R' e := by
  obtain ⟨⟨x, r, v, h1, h2, h3, h4⟩ | h, h5⟩ := h
  · exact ⟨.inl ⟨x, r, v, h1, h2, hR x v h3, h4⟩, h5⟩
  · exact ⟨.inr h, h5⟩

theorem value6 (b : Nat) (w : World) (bs : List UInt8) (hlt : b < w.heap.size) (h : Rd b w bs 0) : Calls Tryd.prog 53 #[.pointer (some ⟨b, 0, none⟩)] w fun e w' => Rd1 b w w' 0 (valP 6 bs) (R1 vOfV VR.In) e := by
  have := value_gen b 6 (by omega) w bs hlt (by simpa using h)
  simpa using this

theorem text1 (b : Nat) (w : World) (bs : List UInt8) (hlt : b < w.heap.size) (h : Rd b w bs 0) : Calls Tryd.prog 52 #[.pointer (some ⟨b, 0, none⟩)] w fun e w' => Rd1 b w w' 0 (txP bs) (R1 vOfS SIn) e :=
  (text_gen b w bs 0 h).mono fun e w' hh => hh.mono fun x v hv => ⟨x, hv.1, rfl, hv.2⟩

theorem sin_all {A : Nat → Prop} {w : World} {P X : List ByteArray} (h : Pair2 (SIn A w) P X) : P = X ∧ ∀ s ∈ X, s.size ≤ 100000000000000 := by
  refine ⟨List.ext_getElem? fun i => ?_, fun s hs => ?_⟩
  · rcases Nat.lt_or_ge i P.length with hi | hi
    · have hj : i < X.length := by rw [← h.1]; exact hi
      rw [List.getElem?_eq_getElem hi, List.getElem?_eq_getElem hj, (h.2 i _ _ (List.getElem?_eq_getElem hi) (List.getElem?_eq_getElem hj)).1]
    · rw [List.getElem?_eq_none hi, List.getElem?_eq_none (by rw [← h.1]; exact hi)]
  · obtain ⟨p, _, hp⟩ := pair_mem h hs
    exact hp.2

theorem row_down {B B' n size : Nat} {e : TypeId} {v : Value} {xs : List Value} {w : World} (h : w.ownsRow B e size v n xs) (h1 : B' ≤ B) : w.ownsRow B' e size v n xs :=
  ⟨h.1, h.2.elim .inl fun ⟨g, cap, cur, e1, e2, e3⟩ => .inr ⟨g, cap, cur, e1, Nat.le_trans h1 e2, e3⟩⟩

set_option maxHeartbeats 4000000 in
set_option maxRecDepth 100000 in
theorem prop_gen (b : Nat) (w : World) (bs : List UInt8) (hbw : b < w.heap.size) (h : Rd b w bs 0) :
    Calls Tryd.prog 56 #[.pointer (some ⟨b, 0, none⟩)] w fun e w' => Rd1 b w w' 0 (prP bs) (R1 vOfP PrIn) e := by
  have hlt := h.lt
  have hne : w.heap.size ≠ b := by omega
  have kA : Below w.heap.size w (w.alloc (.cells #[.string ⟨#[]⟩, .int .i64 0, .int .i64 0, .string ⟨#[]⟩, .slice none 0 0] 63)) := (Below.refl _ _).alloc (Nat.le_refl _) _
  have HR0 := toHid (h.below kA)
  have HA0 := toHid (alloc_new w (.cells #[.string ⟨#[]⟩, .int .i64 0, .int .i64 0, .string ⟨#[]⟩, .slice none 0 0] 63))
  have HB0 := toHid (kA.mono (Nat.le_of_lt hlt))
  have HF0 : Hid (Rf b w (w.alloc (.cells #[.string ⟨#[]⟩, .int .i64 0, .int .i64 0, .string ⟨#[]⟩, .slice none 0 0] 63))) := Rf.of kA
  have hzA : (w.alloc (.cells #[.string ⟨#[]⟩, .int .i64 0, .int .i64 0, .string ⟨#[]⟩, .slice none 0 0] 63)).heap.size = w.heap.size + 1 := by simp
  have z0 : w.heap.size < (w.alloc (.cells #[.string ⟨#[]⟩, .int .i64 0, .int .i64 0, .string ⟨#[]⟩, .slice none 0 0] 63)).heap.size := by omega
  clear h hzA
  go_enter Tryd.func56, Tryd.ntmps56
  go_upto_region 1 with fail
  generalize w.alloc (.cells #[.string ⟨#[]⟩, .int .i64 0, .int .i64 0, .string ⟨#[]⟩, .slice none 0 0] 63) = u0 at kA HR0 HA0 HB0 HF0 z0 ⊢
  have HC1 := toHid (text_gen b u0 bs 0 HR0.out)
  go_wp2_with fail
  refine HC1.out.mono ?_
  rintro e u1 ⟨⟨x1, l1, v1, ho1, rfl, ⟨rfl, hz1⟩, hR1⟩ | ⟨ho1, rfl⟩, hb1, hf1⟩
  rotate_left
  · have HFt := toHid (HF0.out.trans (Nat.le_of_lt z0) hf1)
    have HBt := toHid (HB0.out.trans hb1)
    have HOT : Hid (prP bs = none) := by show _ = _; simp [prP, ho1]
    go_wp2_with fail
    exact ⟨rfl, .inr ⟨HOT.out, rfl⟩, HBt.out, HFt.out⟩
  have HO1 := toHid ho1
  have HR1 := toHid hR1
  have HB1 := toHid (HB0.out.trans hb1)
  have HF1 := toHid (HF0.out.trans (Nat.le_of_lt z0) hf1)
  have HA1 := toHid ((hf1 w.heap.size z0 hne).trans HA0.out)
  have z1 : w.heap.size < u1.heap.size := (Array.getElem?_eq_some_iff.1 HA1.out).1
  have y1 := hb1.size
  clear hR1 hb1 hf1 HC1 ho1
  have HC2 := toHid (value6 b u1 l1 (by omega) HR1.out)
  go_wp2_with fail
  refine HC2.out.mono ?_
  rintro e u2 ⟨⟨x2, l2, v2, ho2, rfl, ⟨p2, rfl, hin2⟩, hR2⟩ | ⟨ho2, rfl⟩, hb2, hf2⟩
  rotate_left
  · have HFt := toHid (HF1.out.trans (Nat.le_of_lt z1) hf2)
    have HBt := toHid (HB1.out.trans hb2)
    have HOT : Hid (prP bs = none) := by show _ = _; simp [prP, HO1.out, ho2]
    go_wp2_with fail
    exact ⟨rfl, .inr ⟨HOT.out, rfl⟩, HBt.out, HFt.out⟩
  have HO2 := toHid ho2
  have HR2 := toHid hR2
  have HB2 := toHid (HB1.out.trans hb2)
  have HF2 := toHid (HF1.out.trans (Nat.le_of_lt z1) hf2)
  have HA2 := toHid ((hf2 w.heap.size z1 hne).trans HA1.out)
  have z2 : w.heap.size < u2.heap.size := (Array.getElem?_eq_some_iff.1 HA2.out).1
  have y2 := hb2.size
  have HIN2 : Hid (VR.In (fun g => w.heap.size < g) u2 p2 x2) := hin2.keeps ⟨Nat.le_refl _, fun g hg hl => ⟨by omega, rfl⟩⟩
  clear hin2
  unfold vOfV
  clear hR2 hb2 hf2 HC2 ho2
  have f0 := free_of HA2.out 0
  have f1 := free_of HA2.out 1
  have f2 := free_of HA2.out 2
  have f3 := free_of HA2.out 3
  have f4 := free_of HA2.out 4
  have d0 := cell_of HA2.out 0
  have d1 := cell_of HA2.out 1
  have d2 := cell_of HA2.out 2
  have d3 := cell_of HA2.out 3
  have d4 := cell_of HA2.out 4
  simp at d0 d1 d2 d3 d4
  go_wp2_with fail
  have eP : ((((u2.setCell ⟨w.heap.size, 0, none⟩ (.string x1)).setCell ⟨w.heap.size, 1, none⟩ (.int .i64 p2.k)).setCell ⟨w.heap.size, 2, none⟩ (.int .i64 p2.n)).setCell ⟨w.heap.size, 3, none⟩ (.string p2.s)).setCell ⟨w.heap.size, 4, none⟩ (.slice p2.a p2.l p2.c) = putL u2 w.heap.size 0 [.string x1, .int .i64 p2.k, .int .i64 p2.n, .string p2.s, .slice p2.a p2.l p2.c] := rfl
  rw [eP]
  have EBX := box5R HA2.out rfl (.string x1) (.int .i64 p2.k) (.int .i64 p2.n) (.string p2.s) (.slice p2.a p2.l p2.c)
  have hbY : Below w.heap.size u2 (putL u2 w.heap.size 0 [.string x1, .int .i64 p2.k, .int .i64 p2.n, .string p2.s, .slice p2.a p2.l p2.c]) := putL_bel w.heap.size _ _ u2
  have hYo : ∀ j, j ≠ w.heap.size → (putL u2 w.heap.size 0 [.string x1, .int .i64 p2.k, .int .i64 p2.n, .string p2.s, .slice p2.a p2.l p2.c]).heap[j]? = u2.heap[j]? := fun j hj => putL_other _ _ _ _ j hj
  generalize putL u2 w.heap.size 0 [.string x1, .int .i64 p2.k, .int .i64 p2.n, .string p2.s, .slice p2.a p2.l p2.c] = Y at EBX hbY hYo ⊢
  have t0 := cell_of EBX 0
  have t1 := cell_of EBX 1
  have t2 := cell_of EBX 2
  have t3 := cell_of EBX 3
  have t4 := cell_of EBX 4
  simp at t0 t1 t2 t3 t4
  have HINY2 := toHid (HIN2.out.keeps (A' := fun g => w.heap.size ≤ g) ⟨hbY.size, fun g hg hl => ⟨by omega, hYo g (by omega)⟩⟩)
  have HFIN : Hid (prP bs = some (⟨x1, x2⟩, l2)) := by show _ = _; simp [prP, HO1.out, HO2.out]
  exact bodyPost_ret (v := .agg #[.string x1, .int .i64 p2.k, .int .i64 p2.n, .string p2.s, .slice p2.a p2.l p2.c]) (by simp [results, Tryd.results56, go_sem, t0, t1, t2, t3, t4]) rfl ⟨.inl ⟨_, _, _, HFIN.out, rfl, ⟨⟨x1, p2.k, p2.n, p2.s, p2.a, p2.l, p2.c, 0⟩, rfl, by obtain ⟨L, q1, q2, q3, q4⟩ := HINY2.out; exact ⟨rfl, by show x1.size ≤ _; omega, q2, q3, L, q1, q4⟩⟩, HR2.out.keep (hbY.mono hlt)⟩, HB2.out.trans (hbY.mono (Nat.le_of_lt hlt)), fun j hj hn => (hbY.block j hj).trans (HF2.out j hj hn)⟩

theorem infoGO0 : (Tryd.prog.info? 38).map (fun i => (i.zero, i.size, i.bytes)) = some (some (.agg #[.int .i64 0, .int .i64 0, .int .i64 0, .int .i64 0, .string ⟨#[]⟩, .int .i64 0, .int .i64 0, .string ⟨#[]⟩, .slice none 0 0, .slice none 0 0, .slice none 0 0]), 11, 152) := by kernel_rfl
theorem infoGO : ∃ i, Tryd.prog.info? 38 = some i ∧ i.zero = some (.agg #[.int .i64 0, .int .i64 0, .int .i64 0, .int .i64 0, .string ⟨#[]⟩, .int .i64 0, .int .i64 0, .string ⟨#[]⟩, .slice none 0 0, .slice none 0 0, .slice none 0 0]) ∧ i.size = 11 ∧ i.bytes = 152 := by
  obtain ⟨i, h, e⟩ := Option.map_eq_some_iff.1 infoGO0
  simp only [Prod.mk.injEq] at e
  exact ⟨i, h, e⟩

def vOfO : Oq → Value := (fun p : Oq => Value.agg #[.int .i64 p.k, .int .i64 p.id, .int .i64 p.frm, .int .i64 p.dst, .string p.pr.name, .int .i64 p.pr.k, .int .i64 p.pr.n, .string p.pr.s, .slice p.pr.a p.pr.l p.pr.c, .slice p.la p.ll p.lc, .slice p.pa p.pl p.pc])
def RLO := RL (β := AO) 38 11 rowO OQ

set_option maxHeartbeats 4000000 in
set_option maxRecDepth 100000 in
theorem listO_gen (b : Nat) (w : World) (bs : List UInt8) (d : Int) (most : Nat) (hm : most ≤ 1000) (one : List UInt8 → Option (AO × List UInt8)) (h : Rd b w bs d)
    (HF : ∀ (W : World) (l : List UInt8), b < W.heap.size → Rd b W l d → Calls Tryd.prog 34 #[.pointer (some ⟨b, 0, none⟩)] W fun e w' => Rd1 b W w' d (one l) (R1 vOfO OQ) e) :
    Calls Tryd.prog 33 #[.pointer (some ⟨b, 0, none⟩), .int .i64 most, .func (.func 34) #[.pointer (some ⟨b, 0, none⟩)] #[]] w fun e w' => Rd1 b w w' d (listP most one bs) RLO e := by
  have hlt := h.lt
  have HB := toHid (bits_gen b w bs d h)
  have HHF := toHid HF
  obtain ⟨i0, hi0, hiz, his, hib⟩ := infoGO
  have HI0 := toHid hi0
  have HIZ := toHid hiz
  have HIS := toHid his
  have HIB := toHid hib
  obtain ⟨o, ho⟩ : ∃ o, o = listP most one bs := ⟨_, rfl⟩
  rw [← ho]
  have HO := toHid ho
  clear h hi0 hiz his hib HF ho
  go_enter Tryd.func33, Tryd.ntmps33
  go_wp2_with fail
  refine HB.out.mono ?_
  rintro e w1 ⟨⟨n, r, hbp, hn, rfl, hR1⟩ | ⟨hbp, rfl⟩, hb1, hf1⟩
  rotate_left
  · go_wp2_with fail
    exact ⟨rfl, .inr ⟨by rw [HO.out, listP, hbp]; rfl, rfl⟩, hb1, hf1⟩
  have HF1 := toHid hf1
  have HR1 := toHid hR1
  clear hR1 hf1 HB
  by_cases hmost : n ≤ most
  rotate_left
  · have hle : (most : Int) < n := by omega
    have HN : Hid (o = none) := by show _ = _; rw [HO.out, listP, hbp]; simp [hmost]
    go_wp2_with fail
    exact ⟨rfl, .inr ⟨HN.out, rfl⟩, hb1, HF1.out⟩
  have hle : ¬ (most : Int) < n := by omega
  have HREP : Hid (o = (repP one n r).map fun q => ([] ++ q.1, q.2)) := by
    show _ = _
    rw [HO.out, listP, hbp]
    simp only [Option.bind_some, hmost, if_true, List.nil_append]
    cases repP one n r <;> rfl
  clear hbp HO
  go_wp2_with fail
  rw [show decide (most < n) = false from decide_eq_false (by omega)]
  go_loopg [8, 18] n (fun g s8 s18 wr => ∃ (i : Nat) (ov : Value) (P : List Oq) (X : List AO) (l : List UInt8), i ≤ n ∧ n - i ≤ g ∧ ov = s8 ∧ s18 = .int .u64 i ∧ X.length = i ∧ wr.ownsRow w.heap.size 38 11 ov i (rowO P) ∧ Pair2 (OQ (fun j => w.heap.size ≤ j ∧ ov.ownBlock ≠ some j) wr) P X ∧ o = (repP one (n - i) l).map (fun q => (X ++ q.1, q.2)) ∧ Rd b wr l d ∧ Below b w wr ∧ Rf b w wr)
  case atStart => exact ⟨0, _, [], [], r, Nat.zero_le _, by omega, rfl, by go_num, rfl, World.ownsRow_nil _ _ _ _, Pair2.nil, HREP.out, HR1.out, hb1, HF1.out⟩
  case round =>
    clear HR1 HF1 hb1 HREP
    obtain ⟨i, ov, P, X, l, hi, hg, rfl, rfl, hXl, hown, hpr, hrep, hR, hbw, hf⟩ := hrel
    have hsz := hbw.size
    have HPR := toHid hpr
    have HREP := toHid hrep
    have HXL := toHid hXl
    clear hpr hrep hXl
    by_cases hlt2 : i < n
    · have HC := toHid (HHF.out wr l (by omega) hR)
      have HOW := toHid hown
      have HF := toHid hf
      have hil : (i : Int) < n := by omega
      have hiw : IntKind.u64.wrap ((i : Int) + 1) = (i : Int) + 1 := by rw [IntKind.wrap_u64]; omega
      have hni : n - i = (n - (i + 1)) + 1 := by omega
      clear hR hown hf
      go_wp2_with fail
      refine HC.out.mono ?_
      rintro e u1 ⟨⟨x, r2, v, ho1, rfl, ⟨p, rfl, hin⟩, hR1⟩ | ⟨ho1, rfl⟩, hb1, hf1⟩
      rotate_left
      · have HF1 := toHid (HF.out.trans hsz hf1)
        have HN : Hid (o = none) := by show _ = _; rw [HREP.out, hni, repP_stop ho1]; rfl
        go_wp2_with fail
        exact ⟨rfl, .inr ⟨HN.out, rfl⟩, hbw.trans hb1, HF1.out⟩
      have hs1 := hb1.size
      have HR1 := toHid hR1
      have HIN := toHid hin
      have HB1 := toHid (hbw.trans hb1)
      have HF1 := toHid (HF.out.trans hsz hf1)
      have HREP1 : Hid (o = (repP one (n - (i + 1)) r2).map fun q => ((X ++ [x]) ++ q.1, q.2)) := by
        show _ = _
        rw [HREP.out, hni]
        exact repP_go ho1 X
      have OWN2 := toHid (row_keep HOW.out (w' := u1) (fun g hg hl => hf1 g hl (by have := (HOW.out.lt g hg).1; omega)))
      have HPR1 : Hid (Pair2 (OQ (fun j => (w.heap.size ≤ j ∧ ov.ownBlock ≠ some j) ∧ j < wr.heap.size) u1) P X) := HPR.out.mono fun p x _ _ hp => hp.keeps ⟨hs1, fun j hj hl => ⟨⟨hj, hl⟩, hf1 j hl (by omega)⟩⟩
      have hlv : ∀ g, ov.ownBlock = some g → g < wr.heap.size := fun g hg => (HOW.out.lt g hg).2
      have HLV := toHid hlv
      have HBy : (i + 1) * 152 ≤ 140737488355328 := by omega
      have HBm : i + 1 ≤ maxLen := by unfold maxLen; omega
      clear hR1 hb1 hf1 HC HF hin hlv
      unfold vOfO
      go_wp2_with (at_builtin; refine wpList_append_lies _ rfl _ _ 22 rfl w.heap.size 38 i0 _ 11 152 Tryd.underlying22 HI0.out HIZ.out HIS.out HIB.out rfl (by omega) ov i (rowO P) rfl (OWN2.out.alloc _) ⟨u1.heap.size, 0, none⟩ 1 1 [.int .i64 p.k, .int .i64 p.id, .int .i64 p.frm, .int .i64 p.dst, .string p.pr.name, .int .i64 p.pr.k, .int .i64 p.pr.n, .string p.pr.s, .slice p.pr.a p.pr.l p.pr.c, .slice p.la p.ll p.lc, .slice p.pa p.pl p.pc] rfl rfl (World.news_of_block (cs := #[.int .i64 p.k, .int .i64 p.id, .int .i64 p.frm, .int .i64 p.dst, .string p.pr.name, .int .i64 p.pr.k, .int .i64 p.pr.n, .string p.pr.s, .slice p.pr.a p.pr.l p.pr.c, .slice p.la p.ll p.lc, .slice p.pa p.pl p.pc]) (t := 38) (fr := (0, 0)) (alloc_new u1 _)) (by simp [Value.oneCell']) (by omega) HBm HBy (by simp; omega) (u1.heap.size + 1) (by simp) ?_)
      intro gg cap w5 hown5 hgrow hat5 hlt5
      have hb5 : Below w.heap.size u1 w5 := ((Below.refl _ _).alloc (by omega) _).grown hgrow (by simp; omega) (fun j hj => (OWN2.out.lt j hj).1)
      have hsame : ∀ j, j < u1.heap.size → ov.ownBlock ≠ some j → w5.heap[j]? = u1.heap[j]? := fun j hj hn => (hgrow.block j (by simp; omega) (fun e => hn e.symm)).trans (Below.heap_alloc u1 _ j hj)
      have hgg : ∀ j, j < u1.heap.size → ov.ownBlock ≠ some j → (Value.slice (some ⟨gg, 0, none⟩) (i + 1) cap).ownBlock ≠ some j := by
        intro j hj hn he
        have e1 : gg = j := by simpa [Value.ownBlock] using he
        rcases hat5 with h5 | h5
        · rw [e1] at h5; exact hn h5
        · omega
      have hsz5 : u1.heap.size ≤ w5.heap.size := Nat.le_trans (by simp) hgrow.size
      have HP5 : Hid (Pair2 (OQ (fun j => w.heap.size ≤ j ∧ (Value.slice (some ⟨gg, 0, none⟩) (i + 1) cap).ownBlock ≠ some j) w5) (P ++ [p]) (X ++ [x])) := by
        refine (HPR1.out.mono fun p x _ _ hp => hp.keeps ⟨hsz5, fun j hj hl => ⟨⟨hj.1.1, hgg j hl hj.1.2⟩, hsame j hl hj.1.2⟩⟩).snoc (HIN.out.keeps ⟨hsz5, fun j hj hl => ?_⟩)
        have hn : ov.ownBlock ≠ some j := fun e => by have := HLV.out j e; omega
        exact ⟨⟨by omega, hgg j hl hn⟩, hsame j hl hn⟩
      have HR5 := toHid (HR1.out.keep (hb5.mono hlt))
      have HB5 := toHid (HB1.out.trans (hb5.mono (Nat.le_of_lt hlt)))
      have HF5 : Hid (Rf b w w5) := fun j hj hn => (hb5.block j hj).trans (HF1.out j hj hn)
      have HO5 : Hid (w5.ownsRow w.heap.size 38 11 (.slice (some ⟨gg, 0, none⟩) (i + 1) cap) (i + 1) (rowO (P ++ [p]))) := by
        rw [rowO_snoc]
        exact hown5
      clear hown5 hgrow hat5 hlt5 hb5 hsame hgg hsz5
      go_wp2_with fail
      go_roundg (n - (i + 1))
      case measure => omega
      case rel => exact ⟨i + 1, .slice (some ⟨gg, 0, none⟩) (i + 1) cap, P ++ [p], X ++ [x], r2, by omega, by omega, rfl, by go_num, by rw [List.length_append, HXL.out]; rfl, HO5.out, HP5.out, HREP1.out, HR5.out, HB5.out, HF5.out⟩
    · have hil : ¬ (i : Int) < n := by omega
      obtain rfl : i = n := by omega
      have HOW := toHid hown
      have HR := toHid hR
      have HF := toHid hf
      have HFIN : Hid (o = some (X, l)) := by
        show _ = _
        rw [HREP.out, Nat.sub_self]
        simp [repP]
      clear hown hR hf
      go_wp2_with fail
      go_ret
      exact ⟨.inl ⟨X, l, _, HFIN.out, rfl, ⟨P, by rw [HXL.out]; exact HOW.out, HPR.out⟩, HR.out⟩, hbw, HF.out⟩
end Go.Proofs.YtldpionmmplncaaDoor
