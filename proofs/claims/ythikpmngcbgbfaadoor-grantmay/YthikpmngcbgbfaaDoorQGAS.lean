/-
  What is proved here: what the texts GtLine, GtGrant, HSameG, HPure, GtLawS prove, in one text.
-/
import Derived.Test.YthikpmngcbgbfaaDoorQGAO
import Derived.Test.YthikpmngcbgbfaaDoorQGAH
import Derived.Test.YthikpmngcbgbfaaDoorQGAP
import Derived.Test.YthikpmngcbgbfaaDoorQGAL
import Derived.Test.YthikpmngcbgbfaaDoorQGAM
import Derived.Test.YthikpmngcbgbfaaDoorQGAJ
import Derived.Test.YthikpmngcbgbfaaDoorQGAR
namespace Go.Proofs.YthikpmngcbgbfaaDoor
open Go.RowKit
set_option linter.unusedVariables false

set_option linter.unusedSimpArgs false

def nds3 (lb : Nat) : List Nd := [⟨1, [], none, 0, 0, [], none, 0, 0⟩, ⟨2, [], none, 0, 0, [], none, 0, 0⟩, ⟨3, [⟨#[65]⟩], some ⟨lb, 0, none⟩, 1, 1, [], none, 0, 0⟩]
def eds3 : List Ed := [⟨4, 1, 2, ⟨#[75]⟩, [], none, 0, 0⟩, ⟨5, 2, 3, ⟨#[75]⟩, [], none, 0, 0⟩]

theorem gr3 {w : World} {lb nb eb : Nat} (h1 : w.heap[lb]? = some (.cells #[.string ⟨#[65]⟩] 9 (0, 0))) (h2 : w.heap[nb]? = some (.cells #[.int .i64 1, .slice none 0 0, .slice none 0 0, .int .i64 2, .slice none 0 0, .slice none 0 0, .int .i64 3, .slice (some ⟨lb, 0, none⟩) 1 1, .slice none 0 0] 51 (0, 0))) (h3 : w.heap[eb]? = some (.cells #[.int .i64 4, .int .i64 1, .int .i64 2, .string ⟨#[75]⟩, .slice none 0 0, .int .i64 5, .int .i64 2, .int .i64 3, .string ⟨#[75]⟩, .slice none 0 0] 71 (0, 0))) : GrOk w (nds3 lb) eds3 (some ⟨nb, 0, none⟩) 3 (some ⟨eb, 0, none⟩) 2 := by
  refine ⟨⟨rfl, by omega, fun _ => ⟨nb, 0, rfl, lt_block h2, fun i s hs => ?_⟩⟩, ⟨rfl, by omega, fun _ => ⟨eb, 0, rfl, lt_block h3, fun i s hs => ?_⟩⟩, fun x hx => ?_, fun x hx => ?_⟩
  · match i, hs with
    | 0, hs =>
      simp [nds3] at hs
      subst hs
      exact ⟨cell_of h2 0, cell_of h2 1, cell_of h2 2⟩
    | 1, hs =>
      simp [nds3] at hs
      subst hs
      exact ⟨cell_of h2 3, cell_of h2 4, cell_of h2 5⟩
    | 2, hs =>
      simp [nds3] at hs
      subst hs
      exact ⟨cell_of h2 6, cell_of h2 7, cell_of h2 8⟩
    | i + 3, hs => simp [nds3] at hs
  · match i, hs with
    | 0, hs =>
      simp [eds3] at hs
      subst hs
      exact ⟨by decide, cell_of h3 0, cell_of h3 1, cell_of h3 2, cell_of h3 3, cell_of h3 4⟩
    | 1, hs =>
      simp [eds3] at hs
      subst hs
      exact ⟨by decide, cell_of h3 5, cell_of h3 6, cell_of h3 7, cell_of h3 8, cell_of h3 9⟩
    | i + 2, hs => simp [eds3] at hs
  · simp [nds3] at hx
    rcases hx with rfl | rfl | rfl
    · exact ⟨strs_none _ _, props_none _ _, fun p hp => by cases hp⟩
    · exact ⟨strs_none _ _, props_none _ _, fun p hp => by cases hp⟩
    · refine ⟨⟨rfl, by show (1 : Nat) ≤ _; omega, fun _ => ⟨lb, 0, rfl, lt_block h1, fun i s hs => ?_⟩⟩, props_none _ _, fun p hp => by cases hp⟩
      cases i with
      | zero =>
        simp at hs
        subst hs
        exact ⟨by decide, cell_of h1 0⟩
      | succ i => simp at hs
  · simp [eds3] at hx
    rcases hx with rfl | rfl
    · exact ⟨props_none _ _, fun p hp => by cases hp⟩
    · exact ⟨props_none _ _, fun p hp => by cases hp⟩

theorem gE_3 (lb : Nat) : gE (nds3 lb) eds3 6 = 0 := by
  have a1 := labs_K
  have a3 : labsE [] = 0 := by simp [labsE, labE]
  have a4 : prsE [] = 0 := by simp [prsE, prE]
  have a5 : nm ⟨#[75]⟩ = true := by decide
  have n1 : ndE 0 (nds3 lb) = 0 := by simp [ndE, ndOne, nds3, a1, a3, a4]
  have e1 : edE (nds3 lb) 0 eds3 = 0 := by simp [edE, edOne, eds3, hasN, nds3, a4, a5]
  have l1 : lastI 0 ((nds3 lb).map Nd.id) = 3 := rfl
  have l2 : lastI 0 (eds3.map Ed.id) = 5 := rfl
  rw [gE, n1, e1, l1, l2]
  simp [nds3, eds3]

set_option maxHeartbeats 4000000 in
set_option maxRecDepth 100000 in
theorem line3_any (w : World) : Calls Tryd.prog 22 #[] w fun e w' => (∃ lb nb eb, e = .returned (.agg #[.slice (some ⟨nb, 0, none⟩) 3 3, .slice (some ⟨eb, 0, none⟩) 2 2, .int .i64 6]) ∧ GrOk w' (nds3 lb) eds3 (some ⟨nb, 0, none⟩) 3 (some ⟨eb, 0, none⟩) 2) ∧ Below w.heap.size w w' := by
  go_enter Tryd.func22, Tryd.ntmps22
  go_wp2_with fail
  have hbb : Below w.heap.size w ((((w.alloc (.cells #[.slice (some ⟨w.heap.size + 1 + 1, 0, none⟩) 3 3, .slice (some ⟨w.heap.size + 1 + 1 + 1, 0, none⟩) 2 2, .int .i64 6] 26)).alloc (.cells #[.string ⟨#[65]⟩] 9)).alloc (.cells #[.int .i64 1, .slice none 0 0, .slice none 0 0, .int .i64 2, .slice none 0 0, .slice none 0 0, .int .i64 3, .slice (some ⟨w.heap.size + 1, 0, none⟩) 1 1, .slice none 0 0] 51)).alloc (.cells #[.int .i64 4, .int .i64 1, .int .i64 2, .string ⟨#[75]⟩, .slice none 0 0, .int .i64 5, .int .i64 2, .int .i64 3, .string ⟨#[75]⟩, .slice none 0 0] 71)) := ((((Below.refl _ _).alloc (Nat.le_refl _) _).alloc (by simp) _).alloc (by simp; omega) _).alloc (by simp; omega) _
  have g0 : ((((w.alloc (.cells #[.slice (some ⟨w.heap.size + 1 + 1, 0, none⟩) 3 3, .slice (some ⟨w.heap.size + 1 + 1 + 1, 0, none⟩) 2 2, .int .i64 6] 26)).alloc (.cells #[.string ⟨#[65]⟩] 9)).alloc (.cells #[.int .i64 1, .slice none 0 0, .slice none 0 0, .int .i64 2, .slice none 0 0, .slice none 0 0, .int .i64 3, .slice (some ⟨w.heap.size + 1, 0, none⟩) 1 1, .slice none 0 0] 51)).alloc (.cells #[.int .i64 4, .int .i64 1, .int .i64 2, .string ⟨#[75]⟩, .slice none 0 0, .int .i64 5, .int .i64 2, .int .i64 3, .string ⟨#[75]⟩, .slice none 0 0] 71)).heap[w.heap.size]? = some (.cells #[.slice (some ⟨w.heap.size + 1 + 1, 0, none⟩) 3 3, .slice (some ⟨w.heap.size + 1 + 1 + 1, 0, none⟩) 2 2, .int .i64 6] 26 (0, 0)) := bk_alP (bk_alP (bk_alP (bk_newP rfl)))
  have g1 : ((((w.alloc (.cells #[.slice (some ⟨w.heap.size + 1 + 1, 0, none⟩) 3 3, .slice (some ⟨w.heap.size + 1 + 1 + 1, 0, none⟩) 2 2, .int .i64 6] 26)).alloc (.cells #[.string ⟨#[65]⟩] 9)).alloc (.cells #[.int .i64 1, .slice none 0 0, .slice none 0 0, .int .i64 2, .slice none 0 0, .slice none 0 0, .int .i64 3, .slice (some ⟨w.heap.size + 1, 0, none⟩) 1 1, .slice none 0 0] 51)).alloc (.cells #[.int .i64 4, .int .i64 1, .int .i64 2, .string ⟨#[75]⟩, .slice none 0 0, .int .i64 5, .int .i64 2, .int .i64 3, .string ⟨#[75]⟩, .slice none 0 0] 71)).heap[w.heap.size + 1]? = some (.cells #[.string ⟨#[65]⟩] 9 (0, 0)) := bk_alP (bk_alP (bk_newP (by simp)))
  have g2 : ((((w.alloc (.cells #[.slice (some ⟨w.heap.size + 1 + 1, 0, none⟩) 3 3, .slice (some ⟨w.heap.size + 1 + 1 + 1, 0, none⟩) 2 2, .int .i64 6] 26)).alloc (.cells #[.string ⟨#[65]⟩] 9)).alloc (.cells #[.int .i64 1, .slice none 0 0, .slice none 0 0, .int .i64 2, .slice none 0 0, .slice none 0 0, .int .i64 3, .slice (some ⟨w.heap.size + 1, 0, none⟩) 1 1, .slice none 0 0] 51)).alloc (.cells #[.int .i64 4, .int .i64 1, .int .i64 2, .string ⟨#[75]⟩, .slice none 0 0, .int .i64 5, .int .i64 2, .int .i64 3, .string ⟨#[75]⟩, .slice none 0 0] 71)).heap[w.heap.size + 1 + 1]? = some (.cells #[.int .i64 1, .slice none 0 0, .slice none 0 0, .int .i64 2, .slice none 0 0, .slice none 0 0, .int .i64 3, .slice (some ⟨w.heap.size + 1, 0, none⟩) 1 1, .slice none 0 0] 51 (0, 0)) := bk_alP (bk_newP (by simp))
  have g3 : ((((w.alloc (.cells #[.slice (some ⟨w.heap.size + 1 + 1, 0, none⟩) 3 3, .slice (some ⟨w.heap.size + 1 + 1 + 1, 0, none⟩) 2 2, .int .i64 6] 26)).alloc (.cells #[.string ⟨#[65]⟩] 9)).alloc (.cells #[.int .i64 1, .slice none 0 0, .slice none 0 0, .int .i64 2, .slice none 0 0, .slice none 0 0, .int .i64 3, .slice (some ⟨w.heap.size + 1, 0, none⟩) 1 1, .slice none 0 0] 51)).alloc (.cells #[.int .i64 4, .int .i64 1, .int .i64 2, .string ⟨#[75]⟩, .slice none 0 0, .int .i64 5, .int .i64 2, .int .i64 3, .string ⟨#[75]⟩, .slice none 0 0] 71)).heap[w.heap.size + 1 + 1 + 1]? = some (.cells #[.int .i64 4, .int .i64 1, .int .i64 2, .string ⟨#[75]⟩, .slice none 0 0, .int .i64 5, .int .i64 2, .int .i64 3, .string ⟨#[75]⟩, .slice none 0 0] 71 (0, 0)) := bk_newP (by simp)
  generalize ((((w.alloc (.cells #[.slice (some ⟨w.heap.size + 1 + 1, 0, none⟩) 3 3, .slice (some ⟨w.heap.size + 1 + 1 + 1, 0, none⟩) 2 2, .int .i64 6] 26)).alloc (.cells #[.string ⟨#[65]⟩] 9)).alloc (.cells #[.int .i64 1, .slice none 0 0, .slice none 0 0, .int .i64 2, .slice none 0 0, .slice none 0 0, .int .i64 3, .slice (some ⟨w.heap.size + 1, 0, none⟩) 1 1, .slice none 0 0] 51)).alloc (.cells #[.int .i64 4, .int .i64 1, .int .i64 2, .string ⟨#[75]⟩, .slice none 0 0, .int .i64 5, .int .i64 2, .int .i64 3, .string ⟨#[75]⟩, .slice none 0 0] 71)) = Y at hbb g0 g1 g2 g3 ⊢
  have t0 := cell_of g0 0
  have t1 := cell_of g0 1
  have t2 := cell_of g0 2
  simp at t0 t1 t2
  exact bodyPost_ret (v := .agg #[.slice (some ⟨w.heap.size + 1 + 1, 0, none⟩) 3 3, .slice (some ⟨w.heap.size + 1 + 1 + 1, 0, none⟩) 2 2, .int .i64 6]) (by simp [results, Tryd.results22, go_sem, t0, t1, t2]) rfl ⟨⟨w.heap.size + 1, _, _, rfl, gr3 g1 g2 g3⟩, hbb⟩

set_option linter.unusedSimpArgs false

def gt3 (b : Nat) : Gt := ⟨⟨#[101, 118, 101]⟩, [⟨#[65]⟩], some ⟨b, 0, none⟩, 1, 1⟩

theorem gts3 {w : World} {b1 b2 : Nat} (h1 : w.heap[b1]? = some (.cells #[.string ⟨#[65]⟩] 9 (0, 0))) (h2 : w.heap[b2]? = some (.cells #[.string ⟨#[101, 118, 101]⟩, .slice (some ⟨b1, 0, none⟩) 1 1] 54 (0, 0))) : GtsOk w [gt3 b1] (some ⟨b2, 0, none⟩) 1 := by
  refine ⟨⟨rfl, by decide, fun _ => ⟨b2, 0, rfl, lt_block h2, fun i x hx => ?_⟩⟩, fun x hx => ?_⟩
  · match i, hx with
    | 0, hx =>
      simp [gt3] at hx
      subst hx
      exact ⟨by show (3 : Nat) ≤ _; omega, cell_of h2 0, cell_of h2 1⟩
    | i + 1, hx => simp at hx
  · simp at hx
    subst hx
    refine ⟨rfl, by show (1 : Nat) ≤ _; omega, fun _ => ⟨b1, 0, rfl, lt_block h1, fun i s hs => ?_⟩⟩
    match i, hs with
    | 0, hs =>
      simp [gt3] at hs
      subst hs
      exact ⟨by decide, cell_of h1 0⟩
    | i + 1, hs => simp [gt3] at hs

theorem gtsE_3 (b : Nat) : gtsE [gt3 b] = 0 := by
  have h1 : nm ⟨#[101, 118, 101]⟩ = true := by decide
  have h2 : nm ⟨#[65]⟩ = true := by decide
  simp [gtsE, gtFrom, gtOne, gt3, h1, h2, noLab]

theorem find_3 (b : Nat) : [gt3 b].find? (toW ⟨#[101, 118, 101]⟩) = some (gt3 b) := by simp [gt3, toW]

theorem sgE_3 (b : Nat) : sgE [gt3 b] ⟨#[101, 118, 101]⟩ 0 = 0 := by
  rw [sgE, gtsE_3, find_3]
  rfl

theorem filt_3 (lb : Nat) : (nds3 lb).filter (fun x => seesN [⟨#[65]⟩] x.labs) = [⟨3, [⟨#[65]⟩], some ⟨lb, 0, none⟩, 1, 1, [], none, 0, 0⟩] := by
  have e1 : (⟨#[65]⟩ : ByteArray).toList = [65] := by rw [ByteArray.toList_eq]
  have e0 : (⟨#[]⟩ : ByteArray).toList = [] := by rw [ByteArray.toList_eq]
  simp [nds3, seesN, hasS, e1, e0]

theorem filtE_3 (lb : Nat) : partE [⟨3, [⟨#[65]⟩], some ⟨lb, 0, none⟩, 1, 1, [], none, 0, 0⟩] eds3 = [] := by
  simp [partE, eds3, hasD]

set_option maxHeartbeats 4000000 in
set_option maxRecDepth 100000 in
theorem granted_true (w : World) : Calls Tryd.prog 8 #[] w fun e w' => e = .returned (.bool true) ∧ Below w.heap.size w w' := by
  have b0 : Below w.heap.size w ((w.alloc (.cells #[.string ⟨#[65]⟩] 9)).alloc (.cells #[.string ⟨#[101, 118, 101]⟩, .slice (some ⟨w.heap.size, 0, none⟩) 1 1] 54)) := ((Below.refl _ _).alloc (Nat.le_refl _) _).alloc (by simp) _
  have h1 : ((w.alloc (.cells #[.string ⟨#[65]⟩] 9)).alloc (.cells #[.string ⟨#[101, 118, 101]⟩, .slice (some ⟨w.heap.size, 0, none⟩) 1 1] 54)).heap[w.heap.size]? = some (.cells #[.string ⟨#[65]⟩] 9 (0, 0)) := bk_alP (bk_newP rfl)
  have h2 : ((w.alloc (.cells #[.string ⟨#[65]⟩] 9)).alloc (.cells #[.string ⟨#[101, 118, 101]⟩, .slice (some ⟨w.heap.size, 0, none⟩) 1 1] 54)).heap[w.heap.size + 1]? = some (.cells #[.string ⟨#[101, 118, 101]⟩, .slice (some ⟨w.heap.size, 0, none⟩) 1 1] 54 (0, 0)) := bk_newP (by simp)
  have HL := toHid (gts3 h1 h2)
  have HB := toHid b0
  have HL3 := toHid (line3_any ((w.alloc (.cells #[.string ⟨#[65]⟩] 9)).alloc (.cells #[.string ⟨#[101, 118, 101]⟩, .slice (some ⟨w.heap.size, 0, none⟩) 1 1] 54)))
  clear b0 h1 h2
  go_enter Tryd.func8, Tryd.ntmps8
  go_wp2_with fail
  refine HL3.out.mono ?_
  generalize (w.alloc (.cells #[.string ⟨#[65]⟩] 9)).alloc (.cells #[.string ⟨#[101, 118, 101]⟩, .slice (some ⟨w.heap.size, 0, none⟩) 1 1] 54) = W at HB HL HL3 ⊢
  rintro e w1 ⟨⟨lb, nb, eb, rfl, hg⟩, k1⟩
  have HB1 := toHid (HB.out.trans (k1.mono HB.out.size))
  obtain ⟨XN, XE, _, _, o1, o2, _, _, pn, pe⟩ := gr_abs hg (gE_3 lb)
  have hp := seen_pairs (G := [⟨#[65]⟩]) pn pe
  rw [filt_3, filtE_3] at hp
  have HP := toHid hp
  have HS := toHid (see_any [gt3 w.heap.size] (some ⟨w.heap.size + 1, 0, none⟩) 1 1 ⟨#[101, 118, 101]⟩ (nds3 lb) eds3 (some ⟨nb, 0, none⟩) 3 3 (some ⟨eb, 0, none⟩) 2 2 6 XN XE w1 (HL.out.below k1) (Nat.le_refl _) hg (fun _ => ⟨pn, pe, o1, o2⟩))
  rw [gE_3, sgE_3, show labsOf [gt3 w.heap.size] ⟨#[101, 118, 101]⟩ = [⟨#[65]⟩] by rw [labsOf, find_3]; rfl] at HS
  generalize seenE (seenN [⟨#[65]⟩] XN) XE = YE at HP HS
  generalize seenN [⟨#[65]⟩] XN = YN at HP HS
  clear hg pn pe o1 o2 hp k1 HL HL3
  go_wp2_with fail
  refine HS.out.mono ?_
  rintro e w2 ⟨hse, k2⟩
  have HB2 := toHid (HB1.out.trans (k2.mono HB1.out.size))
  rcases hse with ⟨h0, _⟩ | ⟨_, na, nc, ea, ec, rfl, hn, he⟩
  · exact absurd rfl h0
  have hl1 : YN.length = 1 := HP.out.1.1.symm
  have hl2 : YE.length = 0 := HP.out.2.1.symm
  obtain ⟨N2, hna, hnp⟩ := hn
  rw [hl1] at hna
  obtain ⟨X, hX⟩ : ∃ X, YN[0]? = some X := ⟨YN[0]'(by omega), List.getElem?_eq_getElem _⟩
  obtain ⟨y, hy, hyx⟩ := hnp.right hX
  have h3 : y.id = 3 := by
    have := HP.out.1.2 0 _ X rfl hX
    rw [hyx.1, ← this.1]
  obtain ⟨b, off, ha, hb, hc⟩ := hna.2.2 (by omega)
  subst ha
  have c0 := (hc 0 y hy).1
  rw [h3] at c0
  simp at c0
  clear hc hy hyx hX hnp hna he HP HS k2
  rw [hl1, hl2]
  clear hl1 hl2 h3
  have c1 := (((Below.refl w2.heap.size w2).alloc (Nat.le_refl _) (.cells #[.slice (some ⟨b, off, none⟩) 1 nc, .slice ea 0 ec, .int .i64 6] 26)).cell (p := ⟨b, off, none⟩) hb).trans c0
  have HB3 : Hid (Below w.heap.size w (w2.alloc (.cells #[.slice (some ⟨b, off, none⟩) 1 nc, .slice ea 0 ec, .int .i64 6] 26))) := HB2.out.alloc HB2.out.size _
  go_wp2_with fail
  go_ret
  exact ⟨rfl, HB3.out⟩

set_option maxHeartbeats 8000000 in
set_option maxRecDepth 100000 in
theorem sameGraph_ref (XN YN : List AN) (XE YE : List AE) (na : Option Addr) (nl nc : Nat) (ea : Option Addr) (el ec : Nat) (nx : Int) (ma : Option Addr) (ml mc : Nat) (fa : Option Addr) (fl fc : Nat) (mx : Int) (w : World) (h1 : NsAt w XN na nl) (h2 : EsAt w XE ea el) (h3 : NsAt w YN ma ml) (h4 : EsAt w YE fa fl) (o1 : ∀ x ∈ XN, x.ok) (o2 : ∀ x ∈ XE, x.ok) (o3 : ∀ x ∈ YN, x.ok) (o4 : ∀ x ∈ YE, x.ok) :
    Calls Tryd.prog 11 #[.agg #[.slice na nl nc, .slice ea el ec, .int .i64 nx], .agg #[.slice ma ml mc, .slice fa fl fc, .int .i64 mx]] w fun e w' => e = .returned (.bool ((nx == mx) && (eqB sameN XN YN && eqB sameE XE YE))) ∧ Below w.heap.size w w' := by
  obtain ⟨R, hR⟩ : ∃ R, R = ((nx == mx) && (eqB sameN XN YN && eqB sameE XE YE)) := ⟨_, rfl⟩
  rw [← hR]
  obtain ⟨s1, hs1⟩ : ∃ z, z = eqB sameN XN YN := ⟨_, rfl⟩
  obtain ⟨s2, hs2⟩ : ∃ z, z = eqB sameE XE YE := ⟨_, rfl⟩
  have HP1 : Hid (∀ W, Below w.heap.size w W → Calls Tryd.prog 25 #[.slice na nl nc, .slice ma ml mc, .func (.func 26) #[] #[]] W fun e w' => e = .returned (.bool s1) ∧ Below W.heap.size W w') := by
    intro W kW
    rw [hs1]
    exact equalN_any XN YN na nl nc ma ml mc W (h1.below kW) (h3.below kW) (fun p x q y W hx hy hp hq => sameNode_ref p x q y W hp hq (o1 x hx) (o3 y hy))
  have HP2 : Hid (∀ W, Below w.heap.size w W → Calls Tryd.prog 27 #[.slice ea el ec, .slice fa fl fc, .func (.func 28) #[] #[]] W fun e w' => e = .returned (.bool s2) ∧ Below W.heap.size W w') := by
    intro W kW
    rw [hs2]
    exact equalE_any XE YE ea el ec fa fl fc W (h2.below kW) (h4.below kW) (fun p x q y W hx hy hp hq => sameEdge_ref p x q y W hp hq (o2 x hx) (o4 y hy))
  have HR : Hid (R = ((nx == mx) && (s1 && s2))) := by rw [hR, hs1, hs2]; exact toHid rfl
  clear hR hs1 hs2 h1 h2 h3 h4 o1 o2 o3 o4
  have hb0 : Below w.heap.size w ((w.alloc (.cells #[.slice na nl nc, .slice ea el ec, .int .i64 nx] 26)).alloc (.cells #[.slice ma ml mc, .slice fa fl fc, .int .i64 mx] 26)) := ((Below.refl _ _).alloc (Nat.le_refl _) _).alloc (by simp) _
  have HB0 := toHid hb0
  have z0 : ((w.alloc (.cells #[.slice na nl nc, .slice ea el ec, .int .i64 nx] 26)).alloc (.cells #[.slice ma ml mc, .slice fa fl fc, .int .i64 mx] 26)).heap.size = w.heap.size + 2 := by simp
  have hu := (Below.heap_alloc (w.alloc (.cells #[.slice na nl nc, .slice ea el ec, .int .i64 nx] 26)) (.cells #[.slice ma ml mc, .slice fa fl fc, .int .i64 mx] 26) w.heap.size (by simp)).trans (alloc_new w (.cells #[.slice na nl nc, .slice ea el ec, .int .i64 nx] 26))
  have hv := alloc_two w (.cells #[.slice na nl nc, .slice ea el ec, .int .i64 nx] 26) (.cells #[.slice ma ml mc, .slice fa fl fc, .int .i64 mx] 26)
  have HU := toHid hu
  have HV := toHid hv
  have HZ := toHid z0
  clear hb0 z0 hu hv
  cases i0 : (nx == mx) with
  | false =>
    have H3 := toHid (show R = false by rw [HR.out, i0]; rfl)
    clear HR
    go_enter Tryd.func11, Tryd.ntmps11
    go_wp2_with fail
    go_ret
    exact ⟨ret_bool (by rw [H3.out]), HB0.out⟩
  | true =>
    go_enter Tryd.func11, Tryd.ntmps11
    go_wp2_with fail
    refine (HP1.out _ HB0.out).mono ?_
    generalize (w.alloc (.cells #[.slice na nl nc, .slice ea el ec, .int .i64 nx] 26)).alloc (.cells #[.slice ma ml mc, .slice fa fl fc, .int .i64 mx] 26) = W0 at HB0 HU HV HZ ⊢
    rintro e w1 ⟨rfl, k1⟩
    have hb1 := HB0.out.trans (k1.mono HB0.out.size)
    have A1 := toHid ((k1.block w.heap.size (by rw [HZ.out]; omega)).trans HU.out)
    have A2 := toHid ((k1.block (w.heap.size + 1) (by rw [HZ.out]; omega)).trans HV.out)
    have z1 : w.heap.size + 2 ≤ w1.heap.size := by have := k1.size; rw [HZ.out] at this; exact this
    have u1 := cell_of A1.out 1
    have v1 := cell_of A2.out 1
    simp at u1 v1
    clear k1
    cases s1 with
    | false =>
      have H3 := toHid (show R = false by rw [HR.out, i0]; rfl)
      clear HR
      go_wp2_with fail
      go_ret
      exact ⟨ret_bool (by rw [H3.out]), hb1⟩
    | true =>
      go_wp2_with fail
      refine (HP2.out _ hb1).mono ?_
      rintro e w2 ⟨rfl, k2⟩
      have hb2 := hb1.trans (k2.mono hb1.size)
      have H3 := toHid (show R = s2 by rw [HR.out, i0]; rfl)
      clear HR
      go_wp2_with fail
      go_ret
      exact ⟨ret_bool (by rw [H3.out]), hb2⟩

theorem eqB_self {α : Type} (s : α → α → Bool) (h : ∀ x, s x x = true) : ∀ X : List α, eqB s X X = true
  | [] => rfl
  | x :: X => by
    show (s x x && eqB s X X) = true
    rw [h x, eqB_self s h X]
    rfl

theorem sameP_self (x : AP) : sameP x x = true := by
  unfold sameP
  rw [ordT_self]
  simp

theorem sameN_self (x : AN) : sameN x x = true := by
  unfold sameN eqS
  rw [eqB_self _ (fun y => by simp), eqB_self _ sameP_self]
  simp

theorem sameE_self (x : AE) : sameE x x = true := by
  unfold sameE
  rw [eqB_self _ sameP_self]
  simp

theorem lackL_self {α : Type} (s : α → α → Bool) (h : ∀ x, s x x = true) (X : List α) : lackL s X X = [] := by
  unfold lackL
  rw [List.filter_eq_nil_iff]
  intro x hx
  have : X.any (s x) = true := List.any_eq_true.2 ⟨x, hx, h x⟩
  simp [this]

set_option linter.unusedSimpArgs false

theorem ns_nil (w : World) : NsAt w [] none 0 := ⟨[], ⟨rfl, by omega, fun h => absurd h (Nat.lt_irrefl _)⟩, Pair2.nil⟩
theorem es_nil (w : World) : EsAt w [] none 0 := ⟨[], ⟨rfl, by omega, fun h => absurd h (Nat.lt_irrefl _)⟩, Pair2.nil⟩

/-- A graph that is handed back, whatever its error. -/
theorem see_out {w' : World} {er : Int} {XN : List AN} {XE : List AE} {nx : Int} {e : Ending} (h : SeeEnd w' er XN XE nx e) :
    ∃ na nc ea ec, e = .returned (.tuple #[.agg #[.slice na (if er = 0 then XN else []).length nc, .slice ea (if er = 0 then XE else []).length ec, .int .i64 (if er = 0 then nx else 0)], .int .i64 er]) ∧ NsAt w' (if er = 0 then XN else []) na (if er = 0 then XN else []).length ∧ EsAt w' (if er = 0 then XE else []) ea (if er = 0 then XE else []).length := by
  rcases h with ⟨h0, rfl⟩ | ⟨h0, na, nc, ea, ec, rfl, hn, he⟩
  · rw [if_neg h0, if_neg h0, if_neg h0]
    exact ⟨none, 0, none, 0, rfl, ns_nil _, es_nil _⟩
  · rw [if_pos h0, if_pos h0, if_pos h0, h0]
    exact ⟨na, nc, ea, ec, rfl, hn, he⟩

theorem seenBy_out {w' : World} {L : List Gt} {who : ByteArray} {er : Int} {XN : List AN} {XE : List AE} {nx : Int} {e : Ending} (h : SbEnd w' L who er XN XE nx e) :
    ∃ na nc ea ec la ll lc, e = .returned (.tuple #[.agg #[.slice na (if er = 0 then XN else []).length nc, .slice ea (if er = 0 then XE else []).length ec, .int .i64 (if er = 0 then nx else 0)], .slice la ll lc, .int .i64 er]) ∧ NsAt w' (if er = 0 then XN else []) na (if er = 0 then XN else []).length ∧ EsAt w' (if er = 0 then XE else []) ea (if er = 0 then XE else []).length ∧ (er = 0 → ∃ g, L.find? (toW who) = some g ∧ la = g.la ∧ ll = g.ll ∧ lc = g.lc) := by
  rcases h with ⟨h0, rfl⟩ | ⟨h0, g, hg, na, nc, ea, ec, rfl, hn, he⟩
  · rw [if_neg h0, if_neg h0, if_neg h0]
    exact ⟨none, 0, none, 0, none, 0, 0, rfl, ns_nil _, es_nil _, fun h => absurd h h0⟩
  · rw [if_pos h0, if_pos h0, if_pos h0, h0]
    exact ⟨na, nc, ea, ec, g.la, g.ll, g.lc, rfl, hn, he, fun _ => ⟨g, hg, rfl, rfl, rfl⟩⟩

theorem sgE_gE {L : List Gt} {who : ByteArray} {e2 : Int} (h : sgE L who e2 = 0) : e2 = 0 := by
  unfold sgE at h
  split at h
  · rename_i k; exact absurd h k
  · split at h
    · rename_i k; exact absurd h k
    · rename_i k; exact Classical.not_not.1 k

/-- What is known of a graph's data where it is right. -/
theorem gr_plain {w : World} {N : List Nd} {E : List Ed} {na : Option Addr} {nl : Nat} {ea : Option Addr} {el : Nat} {nx : Int} (hG : GrOk w N E na nl ea el) : ∃ XN XE, gE N E nx = 0 → Pair2 (NdIn w) N XN ∧ Pair2 (EdIn w) E XE ∧ (∀ x ∈ XN, x.ok) ∧ (∀ x ∈ XE, x.ok) := by
  by_cases h : gE N E nx = 0
  · obtain ⟨XN, XE, _, _, o1, o2, _, _, pn, pe⟩ := gr_abs hG h
    exact ⟨XN, XE, fun _ => ⟨pn, pe, o1, o2⟩⟩
  · exact ⟨[], [], fun k => absurd k h⟩

set_option maxHeartbeats 8000000 in
set_option maxRecDepth 100000 in
theorem law_see (L : List Gt) (a : Option Addr) (l c : Nat) (who : ByteArray) (N : List Nd) (E : List Ed) (na : Option Addr) (nl nc : Nat) (ea : Option Addr) (el ec : Nat) (nx : Int) (w : World) (hL : GtsOk w L a l) (hlc : l ≤ c) (hG : GrOk w N E na nl ea el) :
    Calls Tryd.prog 3 #[.slice a l c, .string who, .agg #[.slice na nl nc, .slice ea el ec, .int .i64 nx]] w fun e w' => e = .returned (.bool true) ∧ Below w.heap.size w w' := by
  obtain ⟨XN, XE, hX⟩ := gr_plain (nx := nx) hG
  obtain ⟨er, her⟩ : ∃ er, er = sgE L who (gE N E nx) := ⟨_, rfl⟩
  obtain ⟨YN, hYN⟩ : ∃ YN, YN = if er = 0 then seenN (labsOf L who) XN else [] := ⟨_, rfl⟩
  obtain ⟨YE, hYE⟩ : ∃ YE, YE = if er = 0 then seenE (seenN (labsOf L who) XN) XE else [] := ⟨_, rfl⟩
  obtain ⟨nz, hnz⟩ : ∃ nz, nz = if er = 0 then nx else 0 := ⟨_, rfl⟩
  have hX2 : ∀ W, Below w.heap.size w W → gE N E nx = 0 → Pair2 (NdIn W) N XN ∧ Pair2 (EdIn W) E XE ∧ (∀ x ∈ XN, x.ok) ∧ (∀ x ∈ XE, x.ok) := fun W k h => by
    obtain ⟨p1, p2, p3, p4⟩ := hX h
    exact ⟨p1.mono fun p x _ _ h => h.below k, p2.mono fun p x _ _ h => h.below k, p3, p4⟩
  have HOK : Hid ((∀ x ∈ YN, x.ok) ∧ ∀ x ∈ YE, x.ok) := by
    show _ ∧ _
    by_cases h0 : er = 0
    · rw [if_pos h0] at hYN hYE
      obtain ⟨_, _, o1, o2⟩ := hX (sgE_gE (her.symm.trans h0))
      exact ⟨fun x hx => o1 x ((seenN_sub _ _).subset (hYN ▸ hx)), fun x hx => o2 x ((seenE_sub _ _).subset (hYE ▸ hx))⟩
    · rw [if_neg h0] at hYN hYE
      subst hYN hYE
      exact ⟨fun x hx => (by cases hx), fun x hx => (by cases hx)⟩
  have HS : Hid (∀ W, Below w.heap.size w W → Calls Tryd.prog 6 #[.slice a l c, .string who, .agg #[.slice na nl nc, .slice ea el ec, .int .i64 nx]] W fun e w' => (∃ na nc ea ec, e = .returned (.tuple #[.agg #[.slice na YN.length nc, .slice ea YE.length ec, .int .i64 nz], .int .i64 er]) ∧ NsAt w' YN na YN.length ∧ EsAt w' YE ea YE.length) ∧ Below W.heap.size W w') := fun W k => (see_any L a l c who N E na nl nc ea el ec nx XN XE W (hL.below k) hlc (hG.below k) (hX2 W k)).mono fun e w' ⟨h, kb⟩ => ⟨by rw [hYN, hYE, hnz]; rw [← her] at h; exact see_out h, kb⟩
  have HSB : Hid (∀ W, Below w.heap.size w W → Calls Tryd.prog 7 #[.slice a l c, .string who, .agg #[.slice na nl nc, .slice ea el ec, .int .i64 nx]] W fun e w' => (∃ na nc ea ec la ll lc, e = .returned (.tuple #[.agg #[.slice na YN.length nc, .slice ea YE.length ec, .int .i64 nz], .slice la ll lc, .int .i64 er]) ∧ NsAt w' YN na YN.length ∧ EsAt w' YE ea YE.length) ∧ Below W.heap.size W w') := fun W k => (seenBy_any L a l c who N E na nl nc ea el ec nx XN XE W (hL.below k) hlc (hG.below k) (hX2 W k)).mono fun e w' ⟨h, kb⟩ => ⟨by
    rw [hYN, hYE, hnz]
    rw [← her] at h
    obtain ⟨q1, q2, q3, q4, q5, q6, q7, r1, r2, r3, _⟩ := seenBy_out h
    exact ⟨q1, q2, q3, q4, q5, q6, q7, r1, r2, r3⟩, kb⟩
  obtain ⟨e1, he1⟩ : ∃ e1, e1 = gtsE L := ⟨_, rfl⟩
  have HC1 : Hid (∀ W, Below w.heap.size w W → Calls Tryd.prog 9 #[.slice a l c] W fun e w' => e = .returned (.int .i64 e1) ∧ Below W.heap.size W w') := fun W k => by
    rw [he1]
    exact checkGt_any L a l c W (hL.below k) hlc
  have HC2 : Hid (∀ W, Below w.heap.size w W → Calls Tryd.prog 10 #[.slice a l c] W fun e w' => e = .returned (.int .i64 e1) ∧ Below W.heap.size W w') := fun W k => by
    rw [he1]
    exact checkGrants_any L a l c W (hL.below k) hlc
  clear hX hX2 hL hG hYN hYE hnz her he1
  have b0 : Below w.heap.size w (w.alloc (.cells #[.slice na nl nc, .slice ea el ec, .int .i64 nx] 26)) := (Below.refl _ _).alloc (Nat.le_refl _) _
  have h0 := alloc_new w (.cells #[.slice na nl nc, .slice ea el ec, .int .i64 nx] 26)
  have HB := toHid b0
  have HG := toHid h0
  clear b0 h0
  go_enter Tryd.func3, Tryd.ntmps3
  go_upto_region 1 with fail
  generalize w.alloc (.cells #[.slice na nl nc, .slice ea el ec, .int .i64 nx] 26) = W at HB HG ⊢
  have x0 := cell_of HG.out 0
  have x1 := cell_of HG.out 1
  have x2 := cell_of HG.out 2
  simp at x0 x1 x2
  have hbl := lt_block HG.out
  go_wp2_with fail
  refine (HS.out _ HB.out).mono ?_
  rintro e w1 ⟨⟨ma, mc, fa, fc, rfl, hn, he⟩, k1⟩
  have HB1 := toHid (HB.out.trans (k1.mono HB.out.size))
  have HG1 := toHid ((k1.block _ (lt_block HG.out)).trans HG.out)
  have HN1 := toHid hn
  have HE1 := toHid he
  clear k1 hn he x0 x1 x2 hbl HG HB HS
  generalize hnl : YN.length = yl at HN1 ⊢
  generalize hel : YE.length = zl at HE1 ⊢
  have k2 : Below w1.heap.size w1 (w1.alloc (.cells #[.slice ma yl mc, .slice fa zl fc, .int .i64 nz] 26)) := (Below.refl _ _).alloc (Nat.le_refl _) _
  have h2 := alloc_new w1 (.cells #[.slice ma yl mc, .slice fa zl fc, .int .i64 nz] 26)
  have HB2 := toHid (HB1.out.trans (k2.mono HB1.out.size))
  have HG2 := toHid ((k2.block _ (lt_block HG1.out)).trans HG1.out)
  have HX2 := toHid h2
  have HN2 := toHid (HN1.out.below k2)
  have HE2 := toHid (HE1.out.below k2)
  clear k2 h2 HN1 HE1
  go_upto_region 2 with fail
  generalize w1.alloc (.cells #[.slice ma yl mc, .slice fa zl fc, .int .i64 nz] 26) = W2 at HB2 HG2 HX2 HN2 HE2 ⊢
  generalize w1.heap.size = bx at HX2 ⊢
  clear HG1 HB1
  have x0 := cell_of HG2.out 0
  have x1 := cell_of HG2.out 1
  have x2 := cell_of HG2.out 2
  simp at x0 x1 x2
  have hbl := lt_block HG2.out
  go_wp2_with fail
  refine (HSB.out _ HB2.out).mono ?_
  rintro e w3 ⟨⟨pa, pc, qa, qc, la, ll, lc, rfl, hn, he⟩, k3⟩
  rw [hnl] at hn
  rw [hel] at he
  have HB3 := toHid (HB2.out.trans (k3.mono HB2.out.size))
  have HX3 := toHid ((k3.block _ (lt_block HX2.out)).trans HX2.out)
  have HN3 := toHid (HN2.out.below k3)
  have HE3 := toHid (HE2.out.below k3)
  have HP3 := toHid hn
  have HQ3 := toHid he
  clear hn he k3 x0 x1 x2 hbl HG2 HX2 HN2 HE2 HB2 HSB
  rw [hnl, hel]
  have k4 : Below w3.heap.size w3 (w3.alloc (.cells #[.slice pa yl pc, .slice qa zl qc, .int .i64 nz] 26)) := (Below.refl _ _).alloc (Nat.le_refl _) _
  have h4 := alloc_new w3 (.cells #[.slice pa yl pc, .slice qa zl qc, .int .i64 nz] 26)
  have HB4 := toHid (HB3.out.trans (k4.mono HB3.out.size))
  have HX4 := toHid ((k4.block _ (lt_block HX3.out)).trans HX3.out)
  have HY4 := toHid h4
  have HN4 := toHid (HN3.out.below k4)
  have HE4 := toHid (HE3.out.below k4)
  have HP4 := toHid (HP3.out.below k4)
  have HQ4 := toHid (HQ3.out.below k4)
  clear k4 h4 HN3 HE3 HP3 HQ3 HX3 HB3
  go_upto_region 3 with fail
  generalize w3.alloc (.cells #[.slice pa yl pc, .slice qa zl qc, .int .i64 nz] 26) = W4 at HB4 HX4 HY4 HN4 HE4 HP4 HQ4 ⊢
  generalize w3.heap.size = by' at HY4 ⊢
  go_wp2_with fail
  refine (granted_true W4).mono ?_
  rintro e w5 ⟨rfl, k5⟩
  have HB5 := toHid (HB4.out.trans (k5.mono HB4.out.size))
  have HK5 := toHid k5
  clear k5
  go_wp2_with fail
  refine (HC1.out _ HB5.out).mono ?_
  rintro e w6 ⟨rfl, k6⟩
  have HB6 := toHid (HB5.out.trans (k6.mono HB5.out.size))
  have HK6 := toHid (HK5.out.trans (k6.mono HK5.out.size))
  clear k6 HK5 HB5
  go_wp2_with fail
  refine (HC2.out _ HB6.out).mono ?_
  rintro e w7 ⟨rfl, k7⟩
  have HB7 := toHid (HB6.out.trans (k7.mono HB6.out.size))
  have HK7 := toHid (HK6.out.trans (k7.mono HK6.out.size))
  have HX7 := toHid ((HK7.out.block _ (lt_block HX4.out)).trans HX4.out)
  have HY7 := toHid ((HK7.out.block _ (lt_block HY4.out)).trans HY4.out)
  have HC := toHid (sameGraph_ref YN YN YE YE ma yl mc fa zl fc nz pa yl pc qa zl qc nz w7 (HN4.out.below HK7.out) (HE4.out.below HK7.out) (HP4.out.below HK7.out) (HQ4.out.below HK7.out) HOK.out.1 HOK.out.2 HOK.out.1 HOK.out.2)
  rw [show ((nz == nz) && (eqB sameN YN YN && eqB sameE YE YE)) = true by rw [eqB_self _ sameN_self, eqB_self _ sameE_self]; simp] at HC
  clear k7 HK6 HB6 HK7
  have x0 := cell_of HX7.out 0
  have x1 := cell_of HX7.out 1
  have x2 := cell_of HX7.out 2
  have y0 := cell_of HY7.out 0
  have y1 := cell_of HY7.out 1
  have y2 := cell_of HY7.out 2
  simp at x0 x1 x2 y0 y1 y2
  have hbl := lt_block HX7.out
  have hbl2 := lt_block HY7.out
  have t1 : (e1 == e1) = true := by simp
  have t2 : (er == er) = true := by simp
  clear hnl hel
  go_wp2_with fail
  refine HC.out.mono ?_
  rintro e w8 ⟨rfl, k8⟩
  go_wp2_with fail
  go_ret
  exact ⟨rfl, HB7.out.trans (k8.mono HB7.out.size)⟩
end Go.Proofs.YthikpmngcbgbfaaDoor
