/-
  What is proved here: what the texts NRes, EV1, EV2, EV3, EV4 prove, in one text.
-/
import Derived.Test.YtbfhapmnnckkaaaGreatDoorQNAU
import Derived.Test.YtbfhapmnnckkaaaGreatDoorShelfN
import Derived.Test.YtbfhapmnnckkaaaGreatDoorQNAM
import Derived.Deep.RegionHeld3
import Derived.Test.YtbfhapmnnckkaaaGreatDoorQNAL
import Derived.Deep.CutBlock
import Derived.Deep.RegionLaw
import Derived.Deep.AppendLies
namespace Go.Proofs.YtbfhapmnnckkaaaGreatDoor
open Go.RowKit
set_option linter.unusedVariables false

set_option linter.unusedSimpArgs false

theorem words_size : ((⟨([32, 109, 97, 116, 99, 104, 32, 119, 104, 101, 114, 101, 32, 114, 101, 116, 117, 114, 110, 32, 100, 105, 115, 116, 105, 110, 99, 116, 32, 97, 115, 32, 97, 110, 100, 32, 111, 114, 32, 110, 111, 116, 32, 105, 110, 32, 105, 115, 32, 110, 117, 108, 108, 32, 116].append [114, 117, 101, 32, 102, 97, 108, 115, 101, 32, 99, 111, 117, 110, 116, 32, 115, 117, 109, 32, 109, 105, 110, 32, 109, 97, 120, 32, 115, 105, 122, 101, 32, 104, 101, 97, 100, 32, 99, 111, 97, 108, 101, 115, 99, 101, 32, 105, 100, 32, 116, 121, 112, 101, 32] : List UInt8).toArray⟩ : ByteArray).size < 4294967281) := by decide

set_option maxHeartbeats 4000000 in
set_option maxRecDepth 100000 in
theorem isReserved_any (s : ByteArray) (m : Int) (w : World) (hs : s.size ≤ 1099511627776) (hm : w.cell? ⟨0, 0, none⟩ = some (.int .i64 m)) : Calls Tryz.prog 6 #[.string s] w fun e w' => e = .returned (.bool (resB s)) ∧ w' = w := by
  have HC1 : Hid (Calls Tryz.prog 17 #[.string s, .string ⟨#[32]⟩] w fun e w' => e = .returned (.bool (decide (0 ≤ Lib.indexByte s.data.toList 32))) ∧ w' = w) := Any.strings_Contains_one Tryz.containsLay s 32 w
  have HC2 : Hid (∀ h sub : ByteArray, h.size < 4294967281 → Calls Tryz.prog 17 #[.string h, .string sub] w fun e w' => e = .returned (.bool (Lib.contains h.data.toList sub.data.toList)) ∧ w' = w) := fun h sub hh => Any.strings_Contains Tryz.containsLay h sub m w hh hm
  have HR : Hid (resB s = (!s.data.toList.isEmpty && (!decide (0 ≤ Lib.indexByte s.data.toList 32) && Lib.contains (32 :: resL.flatMap (· ++ [32])) (32 :: (s.data.toList ++ [32]))))) := by
    show _ = _
    rw [← res_is]
    unfold resB
    rw [ByteArray.toList_eq]
  clear hm
  obtain ⟨R, hR⟩ : ∃ R, R = resB s := ⟨_, rfl⟩
  rw [← hR] at HR ⊢
  clear hR
  by_cases h0 : s = ⟨#[]⟩
  · subst h0
    have H3 : Hid (R = false) := by show _ = _; rw [HR.out]; rfl
    clear HR HC1 HC2
    go_enter Tryz.func6, Tryz.ntmps6
    go_wp2_with fail
    go_ret
    exact ⟨ret_bool (by rw [H3.out]), rfl⟩
  · have he := isEmpty_no h0
    have he2 : s.data.toList.isEmpty = false := by rw [← ByteArray.toList_eq]; exact he
    rw [he2] at HR
    generalize decide (0 ≤ Lib.indexByte s.data.toList 32) = f1 at HC1 HR
    clear h0 he2
    go_enter Tryz.func6, Tryz.ntmps6
    go_wp2_with fail
    refine HC1.out.mono ?_
    rintro e w1 ⟨rfl, rfl⟩
    cases f1 with
    | true =>
      have H3 : Hid (R = false) := by show _ = _; rw [HR.out]; rfl
      go_wp2_with fail
      go_ret
      exact ⟨ret_bool (by rw [H3.out]), rfl⟩
    | false =>
      have hs1 : ¬ (9223372036854775807 < 1 + s.size) := by omega
      go_wp2_with fail
      refine (HC2.out _ _ (by decide)).mono ?_
      rintro e w2 ⟨rfl, rfl⟩
      have H3 : Hid (R = Lib.contains (32 :: resL.flatMap (· ++ [32])) (({ data := #[32] } ++ s ++ { data := #[32] } : ByteArray)).data.toList) := by
        show _ = _
        rw [HR.out]
        have e1 : (({ data := #[32] } ++ s ++ { data := #[32] } : ByteArray)).data.toList = 32 :: (s.data.toList ++ [32]) := by simp
        rw [e1]
        rfl
      generalize ({ data := #[32] } ++ s ++ { data := #[32] } : ByteArray) = sub at H3 ⊢
      go_wp2_with fail
      go_ret
      exact ⟨ret_bool (by rw [H3.out]; rfl), rfl⟩

set_option maxHeartbeats 4000000 in
set_option maxRecDepth 100000 in
theorem isFree_any (s : ByteArray) (m : Int) (w : World) (hs : s.size ≤ 1099511627776) (hm : w.cell? ⟨0, 0, none⟩ = some (.int .i64 m)) (hl : 0 < w.heap.size) : Calls Tryz.prog 8 #[.string s] w fun e w' => e = .returned (.bool (nameB s)) ∧ Below w.heap.size w w' := by
  have HN := toHid (isName_any s w (by omega))
  have HRV : Hid (∀ W, Below w.heap.size w W → Calls Tryz.prog 6 #[.string s] W fun e w' => e = .returned (.bool (resB s)) ∧ w' = W) := fun W k => isReserved_any s m W hs ((k.cell hl).trans hm)
  clear hm
  go_enter Tryz.func8, Tryz.ntmps8
  go_wp2_with fail
  refine HN.out.mono ?_
  rintro e u1 ⟨rfl, k1⟩
  have HK := toHid k1
  cases hn : nm s with
  | false =>
    go_wp2_with fail
    go_ret
    exact ⟨ret_bool (by simp [nameB, hn]), HK.out⟩
  | true =>
    go_wp2_with fail
    refine (HRV.out u1 HK.out).mono ?_
    rintro e u2 ⟨rfl, rfl⟩
    go_wp2_with fail
    go_ret
    exact ⟨ret_bool (by simp [nameB, hn]), HK.out⟩

set_option maxHeartbeats 4000000 in
set_option maxRecDepth 100000 in
theorem value_const {env : ByteArray → Option Th} {B : Nat} (w0 w : World) (k vk vn : Int) (vs : ByteArray) (va : Option Addr) (vl vc : Nat) (nm : ByteArray) (a : Option Addr) (l c : Nat) (Lv : List T) (A : List Tm) (bm m bk : Nat) (hw : Below w0.heap.size w0 w) (hB : B ≤ w0.heap.size) (hT : Tabs B w0) (ht : TmAt w0 k vk vn vs va vl vc nm a l c Lv A) (hn : NamesAt w0 m env) (hb : BookAt w0 bm bk) (hk : k = 1) : Calls Tryz.prog 31 #[.map (some bm), .agg #[.int .i64 k, .int .i64 vk, .int .i64 vn, .string vs, .slice va vl vc, .string nm, .slice a l c], .map (some m)] w fun e w' => VEnd (fun i => i < w0.heap.size) w w' (.node vk vn vs Lv) e ∧ Below w.heap.size w w' := by
  subst hk
  have hv := LiesS.old _ _ _ ht.val
  have HV := toHid (show LieA (fun i => i < w0.heap.size) w Lv va vl from LieA.kept hw.size (fun i hi hl => ⟨hi, hw.block i hl⟩) _ _ _ hv)
  have HS := toHid ht.vss
  have HC := toHid ht.vlc
  clear ht hn hb hT hv
  go_enter Tryz.func31, Tryz.ntmps31
  go_wp2_with fail
  have hbb : Below w.heap.size w ((w.alloc (.cells #[.int .i64 1, .int .i64 vk, .int .i64 vn, .string vs, .slice va vl vc, .string nm, .slice a l c] 27)).alloc (.cells #[.int .i64 vk, .int .i64 vn, .string vs, .slice va vl vc] 24)) := ((Below.refl _ _).alloc (Nat.le_refl _) _).alloc (by simp) _
  exact bodyPost_ret (v := .agg #[.int .i64 vk, .int .i64 vn, .string vs, .slice va vl vc]) (by simp [results, Tryz.results31, go_sem]) rfl ⟨⟨vk, vn, vs, va, vl, vc, Lv, rfl, rfl, HC.out, HS.out, LieA.kept hbb.size (fun i hi hl => ⟨.inl hi, hbb.block i hl⟩) _ _ _ HV.out⟩, hbb⟩

set_option maxHeartbeats 4000000 in
set_option maxRecDepth 100000 in
theorem value_var {env : ByteArray → Option Th} {B : Nat} (w0 w : World) (k vk vn : Int) (vs : ByteArray) (va : Option Addr) (vl vc : Nat) (nm : ByteArray) (a : Option Addr) (l c : Nat) (Lv : List T) (A : List Tm) (bm m bk : Nat) (hw : Below w0.heap.size w0 w) (hB : B ≤ w0.heap.size) (hT : Tabs B w0) (ht : TmAt w0 k vk vn vs va vl vc nm a l c Lv A) (hn : NamesAt w0 m env) (hb : BookAt w0 bm bk) (hk : k = 2) (x : Th) (hx : env nm = some x) : Calls Tryz.prog 31 #[.map (some bm), .agg #[.int .i64 k, .int .i64 vk, .int .i64 vn, .string vs, .slice va vl vc, .string nm, .slice a l c], .map (some m)] w fun e w' => VEnd (fun i => i < w0.heap.size) w w' (tInt x.id) e ∧ Below w.heap.size w w' := by
  subst hk
  obtain ⟨P, pa, pl, pc, -, -, -, hlk⟩ := look_name hn nm x hx
  have hb2 : Below w.heap.size w ((w.alloc (.cells #[.int .i64 2, .int .i64 vk, .int .i64 vn, .string vs, .slice va vl vc, .string nm, .slice a l c] 27)).alloc (.cells #[.int .i64 0, .int .i64 0, .string ⟨#[]⟩, .slice none 0 0] 24)) := ((Below.refl _ _).alloc (Nat.le_refl _) _).alloc (by simp) _
  have hw2 : Below w0.heap.size w0 ((w.alloc (.cells #[.int .i64 2, .int .i64 vk, .int .i64 vn, .string vs, .slice va vl vc, .string nm, .slice a l c] 27)).alloc (.cells #[.int .i64 0, .int .i64 0, .string ⟨#[]⟩, .slice none 0 0] 24)) := hw.trans (hb2.mono hw.size)
  have hr2 := alloc_two w (.cells #[.int .i64 2, .int .i64 vk, .int .i64 vn, .string vs, .slice va vl vc, .string nm, .slice a l c] 27) (.cells #[.int .i64 0, .int .i64 0, .string ⟨#[]⟩, .slice none 0 0] 24)
  have hz2 : ((w.alloc (.cells #[.int .i64 2, .int .i64 vk, .int .i64 vn, .string vs, .slice va vl vc, .string nm, .slice a l c] 27)).alloc (.cells #[.int .i64 0, .int .i64 0, .string ⟨#[]⟩, .slice none 0 0] 24)).heap.size = w.heap.size + 2 := by simp
  have hl0 := (hlk _ hw2).1
  have hl1 := field_id ((w.alloc (.cells #[.int .i64 2, .int .i64 vk, .int .i64 vn, .string vs, .slice va vl vc, .string nm, .slice a l c] 27)).alloc (.cells #[.int .i64 0, .int .i64 0, .string ⟨#[]⟩, .slice none 0 0] 24)) x.edge x.id x.typ pa pl pc
  clear ht hn hb hT hlk hw2 hb2 hr2 hz2
  go_enter Tryz.func31, Tryz.ntmps31
  go_wp2_with fail
  have hbb : Below w.heap.size w ((w.alloc (.cells #[.int .i64 2, .int .i64 vk, .int .i64 vn, .string vs, .slice va vl vc, .string nm, .slice a l c] 27)).alloc (.cells #[.int .i64 2, .int .i64 x.id, .string ⟨#[]⟩, .slice none 0 0] 24)) := ((Below.refl _ _).alloc (Nat.le_refl _) _).alloc (by simp) _
  exact bodyPost_ret (v := .agg #[.int .i64 2, .int .i64 x.id, .string ⟨#[]⟩, .slice none 0 0]) (by simp [results, Tryz.results31, go_sem]) rfl ⟨VEnd.flat _ _ _ (by decide), hbb⟩

theorem callsUp {P : Program} {f : FuncId} {args : Array Value} {w : World} {R R' : Ending → World → Prop} (h : Calls P f args w R) (m : ∀ e w', R e w' → R' e w') : Calls P f args w R' := fun cs => by
  obtain ⟨e, w', fr, r, q⟩ := h cs
  exact ⟨e, w', fr, m e w' r, q⟩

/-- A property that was sought, in both forms. -/
theorem prop_find {A : Nat → Prop} {w : World} (nmx : ByteArray) : ∀ (P : List Pr) (X : List AP), Pair2 (PrIn A w) P X → match findP P nmx with
    | none => X.find? (fun p => p.name.toList == nmx.toList) = none
    | some p => ∃ x, X.find? (fun p => p.name.toList == nmx.toList) = some x ∧ PrIn A w p x
  | [], X, h => by
    have : X = [] := List.length_eq_zero_iff.1 h.1.symm
    subst this
    rfl
  | p :: P, [], h => by have := h.1; simp at this
  | p :: P, x :: X, h => by
    have h0 : PrIn A w p x := h.2 0 p x rfl rfl
    have ht : Pair2 (PrIn A w) P X := ⟨by have := h.1; simpa using this, fun i q y hq hy => h.2 (i + 1) q y (by simpa using hq) (by simpa using hy)⟩
    have ih := prop_find nmx P X ht
    by_cases hp : p.name.toList = nmx.toList
    · have hx : x.name.toList = nmx.toList := by rw [← h0.1]; exact hp
      have e1 : findP (p :: P) nmx = some p := by rw [findP, List.find?_cons_of_pos (by simpa using hp)]
      rw [e1]
      exact ⟨x, List.find?_cons_of_pos (by simpa using hx), h0⟩
    · have hx : ¬ x.name.toList = nmx.toList := by rw [← h0.1]; exact hp
      have e1 : findP (p :: P) nmx = findP P nmx := by rw [findP, List.find?_cons_of_neg (by simpa using hp)]; rfl
      have e2 : (x :: X).find? (fun p => p.name.toList == nmx.toList) = X.find? (fun p => p.name.toList == nmx.toList) := List.find?_cons_of_neg (by simpa using hx)
      rw [e1, e2]
      exact ih

/-- What is sought of a bound thing. -/
theorem prop_says {w0 : World} {x : Th} {P : List Pr} {pa : Option Addr} {pl pc : Nat} (nm : ByteArray) (hpp : PropsAt w0 P pa pl) (hpr : Pair2 (PrIn AnyB w0) P x.props) (W : World) (k : Below w0.heap.size w0 W) : Calls Tryz.prog 63 #[.slice pa pl pc, .string nm] W fun e w' => ∃ rk rn rs ra rl rc, e = .returned (vC rk rn rs ra rl rc) ∧ (∃ L, propF nm x = .node rk rn rs L ∧ rl ≤ rc ∧ rs.size ≤ 9223372036854775807 ∧ LieA (fun i => i < w0.heap.size) w0 L ra rl) ∧ Below W.heap.size W w' := by
  refine callsUp (seekProp_any P pa pl pc nm W (PropsAt.below k hpp)) fun e w' h => ?_
  obtain ⟨h, hb⟩ := h
  have hf := prop_find nm P x.props hpr
  rcases h with ⟨h1, rfl⟩ | ⟨p, h1, _, rfl⟩
  · rw [h1] at hf
    have hf : x.props.find? (fun p => p.name.toList == nm.toList) = none := hf
    refine ⟨0, 0, ⟨#[]⟩, none, 0, 0, rfl, ⟨[], ?_, Nat.le_refl _, by decide, lieA_nil⟩, hb⟩
    unfold propF
    rw [hf]
    rfl
  · rw [h1] at hf
    obtain ⟨y, hf, _, _, g2, g3, Lt, g4, g5⟩ := hf
    refine ⟨p.k, p.n, p.s, p.a, p.l, p.c, rfl, ⟨Lt, ?_, g3, g2, LieA.kept (Nat.le_refl _) (fun i _ hl => ⟨hl, rfl⟩) _ _ _ g5⟩, hb⟩
    unfold propF
    rw [hf]
    exact g4

set_option maxHeartbeats 4000000 in
set_option maxRecDepth 100000 in
theorem value_field {env : ByteArray → Option Th} {B : Nat} (w0 w : World) (k vk vn : Int) (vs : ByteArray) (va : Option Addr) (vl vc : Nat) (nm : ByteArray) (a : Option Addr) (l c : Nat) (Lv : List T) (A : List Tm) (bm m bk : Nat) (hw : Below w0.heap.size w0 w) (hB : B ≤ w0.heap.size) (hT : Tabs B w0) (ht : TmAt w0 k vk vn vs va vl vc nm a l c Lv A) (hn : NamesAt w0 m env) (hb : BookAt w0 bm bk) (hk : k = 3) (y : Tm) (hA : A = [y]) (x : Th) (hx : env y.name = some x) : Calls Tryz.prog 31 #[.map (some bm), .agg #[.int .i64 k, .int .i64 vk, .int .i64 vn, .string vs, .slice va vl vc, .string nm, .slice a l c], .map (some m)] w fun e w' => VEnd (fun i => i < w0.heap.size) w w' (propF nm x) e ∧ Below w.heap.size w w' := by
  subst hk
  have hlen := ht.args.len.1
  obtain ⟨b, off, k1, vk1, vn1, vs1, va1, vl1, vc1, nm1, a1, l1, c1, Lv1, A1, ha, hbl, hd, ⟨-, -, -, -, -, x5, -⟩, -⟩ := ht.args.at (i := 0) (by rw [hlen, hA]; simp)
  subst ha
  rw [Nat.zero_mul, Nat.add_zero] at x5
  have e1 : y = .node k1 (.node vk1 vn1 vs1 Lv1) nm1 A1 := by rw [hA] at hd; simpa using hd
  subst e1
  have hl : l = 1 := by rw [hlen, hA]; simp
  subst hl
  obtain ⟨P, pa, pl, pc, hts, hpp, hpr, hlk⟩ := look_name hn nm1 x hx
  have HC : Hid (∀ W, Below w0.heap.size w0 W → _) := fun W k => prop_says (pc := pc) nm hpp hpr W k
  have HLK := toHid hlk
  have h0 := alloc_two w (.cells #[.int .i64 3, .int .i64 vk, .int .i64 vn, .string vs, .slice va vl vc, .string nm, .slice (some ⟨b, off, none⟩) 1 c] 27) (.cells #[.int .i64 0, .int .i64 0, .string ⟨#[]⟩, .slice none 0 0] 24)
  have h1 : ((w.alloc (.cells #[.int .i64 3, .int .i64 vk, .int .i64 vn, .string vs, .slice va vl vc, .string nm, .slice (some ⟨b, off, none⟩) 1 c] 27)).alloc (.cells #[.int .i64 0, .int .i64 0, .string ⟨#[]⟩, .slice none 0 0] 24)).heap[w.heap.size]? = some (.cells #[.int .i64 3, .int .i64 vk, .int .i64 vn, .string vs, .slice va vl vc, .string nm, .slice (some ⟨b, off, none⟩) 1 c] 27 (0, 0)) := by
    have hb : Below (w.heap.size + 1) (w.alloc (.cells #[.int .i64 3, .int .i64 vk, .int .i64 vn, .string vs, .slice va vl vc, .string nm, .slice (some ⟨b, off, none⟩) 1 c] 27)) ((w.alloc (.cells #[.int .i64 3, .int .i64 vk, .int .i64 vn, .string vs, .slice va vl vc, .string nm, .slice (some ⟨b, off, none⟩) 1 c] 27)).alloc (.cells #[.int .i64 0, .int .i64 0, .string ⟨#[]⟩, .slice none 0 0] 24)) := (Below.refl _ _).alloc (by simp) _
    exact (hb.block w.heap.size (by omega)).trans (alloc_new w (.cells #[.int .i64 3, .int .i64 vk, .int .i64 vn, .string vs, .slice va vl vc, .string nm, .slice (some ⟨b, off, none⟩) 1 c] 27))
  have hz : ((w.alloc (.cells #[.int .i64 3, .int .i64 vk, .int .i64 vn, .string vs, .slice va vl vc, .string nm, .slice (some ⟨b, off, none⟩) 1 c] 27)).alloc (.cells #[.int .i64 0, .int .i64 0, .string ⟨#[]⟩, .slice none 0 0] 24)).heap.size = w.heap.size + 2 := by simp
  have hb2 : Below w.heap.size w ((w.alloc (.cells #[.int .i64 3, .int .i64 vk, .int .i64 vn, .string vs, .slice va vl vc, .string nm, .slice (some ⟨b, off, none⟩) 1 c] 27)).alloc (.cells #[.int .i64 0, .int .i64 0, .string ⟨#[]⟩, .slice none 0 0] 24)) := ((Below.refl _ _).alloc (Nat.le_refl _) _).alloc (by simp) _
  have H0 := toHid h0
  have H1 := toHid h1
  have HZ := toHid hz
  have HB := toHid hb2
  have HW := toHid hw
  have X5 := toHid x5
  have HLL := toHid hbl
  clear ht hn hb hT hlk hpp hpr hts hd hA hlen h0 h1 hz hb2 hw x5 hbl
  go_enter Tryz.func31, Tryz.ntmps31
  go_upto_region 6 with fail
  generalize (w.alloc (.cells #[.int .i64 3, .int .i64 vk, .int .i64 vn, .string vs, .slice va vl vc, .string nm, .slice (some ⟨b, off, none⟩) 1 c] 27)).alloc (.cells #[.int .i64 0, .int .i64 0, .string ⟨#[]⟩, .slice none 0 0] 24) = W at HB H0 H1 HZ ⊢
  have HSZ := toHid HW.out.size
  have D0 : Below W.heap.size W W.drew := (Below.refl _ _).drew
  have hbw := HLL.out
  have HS : Hid (∀ W', Below W.heap.size W W' → W'.cell? ⟨b, off + 5, none⟩ = some (.string nm1) ∧ W'.cell? ⟨w.heap.size, 5, none⟩ = some (.string nm) ∧ W'.cell? ⟨w.heap.size, 6, none⟩ = some (.slice (some ⟨b, off, none⟩) 1 c)) := fun W' kk => by
    have q : W'.heap[w.heap.size]? = some (.cells #[.int .i64 3, .int .i64 vk, .int .i64 vn, .string vs, .slice va vl vc, .string nm, .slice (some ⟨b, off, none⟩) 1 c] 27 (0, 0)) := (kk.block _ (by rw [HZ.out]; omega)).trans H1.out
    refine ⟨((HW.out.trans ((below2 HB.out kk).mono HSZ.out)).cell (p := ⟨b, off + 5, none⟩) HLL.out).trans X5.out, ?_, ?_⟩
    · simpa using cell_of q 5
    · simpa using cell_of q 6
  obtain ⟨y5, y6, y7⟩ := HS.out W (Below.refl _ _)
  have hbW : b < W.heap.size := by rw [HZ.out]; have := HSZ.out; omega
  have hl0 := (HLK.out W.drew (HW.out.trans ((below2 HB.out D0).mono HSZ.out))).1
  have hl1 := fun W' : World => field_props W' x.edge x.id x.typ pa pl pc
  have hl2 := (HLK.out W (HW.out.trans (HB.out.mono HSZ.out))).1
  have HRB : Hid (∀ u, Below W.heap.size W u → u.heap[w.heap.size + 1]? = some (.cells #[.int .i64 0, .int .i64 0, .string ⟨#[]⟩, .slice none 0 0] 24 (0, 0))) := fun u k => (k.block (w.heap.size + 1) (by rw [HZ.out]; omega)).trans H0.out
  have HST : Hid (∀ u, Below W.heap.size W u → ∀ v0 v1 v2 v3 : Value, ((((u.setCell ⟨w.heap.size + 1, 0, none⟩ v0).setCell ⟨w.heap.size + 1, 1, none⟩ v1).setCell ⟨w.heap.size + 1, 2, none⟩ v2).setCell ⟨w.heap.size + 1, 3, none⟩ v3).cell? ⟨b, off + 5, none⟩ = some (.string nm1) ∧ ((((u.setCell ⟨w.heap.size + 1, 0, none⟩ v0).setCell ⟨w.heap.size + 1, 1, none⟩ v1).setCell ⟨w.heap.size + 1, 2, none⟩ v2).setCell ⟨w.heap.size + 1, 3, none⟩ v3).cell? ⟨w.heap.size, 5, none⟩ = some (.string nm) ∧ ((((u.setCell ⟨w.heap.size + 1, 0, none⟩ v0).setCell ⟨w.heap.size + 1, 1, none⟩ v1).setCell ⟨w.heap.size + 1, 2, none⟩ v2).setCell ⟨w.heap.size + 1, 3, none⟩ v3).cell? ⟨w.heap.size, 6, none⟩ = some (.slice (some ⟨b, off, none⟩) 1 c)) := fun u kk v0 v1 v2 v3 => by
    obtain ⟨q1, q2, q3⟩ := HS.out u kk
    have hle := HSZ.out
    have hbq := HLL.out
    have K : Below (w.heap.size + 1) u ((((u.setCell ⟨w.heap.size + 1, 0, none⟩ v0).setCell ⟨w.heap.size + 1, 1, none⟩ v1).setCell ⟨w.heap.size + 1, 2, none⟩ v2).setCell ⟨w.heap.size + 1, 3, none⟩ v3) := ((((Below.refl _ _).setCell (p := ⟨w.heap.size + 1, 0, none⟩) (Nat.le_refl _) _).setCell (p := ⟨w.heap.size + 1, 1, none⟩) (Nat.le_refl _) _).setCell (p := ⟨w.heap.size + 1, 2, none⟩) (Nat.le_refl _) _).setCell (p := ⟨w.heap.size + 1, 3, none⟩) (Nat.le_refl _) _
    exact ⟨(K.cell (p := ⟨b, off + 5, none⟩) (show b < w.heap.size + 1 by omega)).trans q1, (K.cell (p := ⟨w.heap.size, 5, none⟩) (Nat.lt_succ_self _)).trans q2, (K.cell (p := ⟨w.heap.size, 6, none⟩) (Nat.lt_succ_self _)).trans q3⟩
  go_region_held3 (fun W' => W'.cell? ⟨b, off + 5, none⟩ = some (.string nm1) ∧ W'.cell? ⟨w.heap.size, 5, none⟩ = some (.string nm) ∧ W'.cell? ⟨w.heap.size, 6, none⟩ = some (.slice (some ⟨b, off, none⟩) 1 c))
    (first
      | with_reducible exact HS.out _ k1
      | with_reducible exact HS.out _ D0
      | with_reducible exact HST.out _ k1 _ _ _ _
      | exact ⟨y5, y6, y7⟩
      | go_keep)
    (first
      | (go_at_call 63; go_fit (HC.out W.drew (HW.out.trans ((below2 HB.out D0).mono HSZ.out))); rintro e u1 ⟨rk, rn, rs, ra, rl, rc, rfl, hv, h1⟩; have HV := toHid hv; clear hv; have k1 : Below W.heap.size W u1 := D0.trans h1; have hb1 := HRB.out u1 k1; have r0 := cell_of hb1 0; have r1 := cell_of hb1 1; have r2 := cell_of hb1 2; have r3 := cell_of hb1 3; have f0 := free_of hb1 0; have f1 := free_of hb1 1; have f2 := free_of hb1 2; have f3 := free_of hb1 3; simp at r0 r1 r2 r3; have hsz1 : w.heap.size + 1 < u1.heap.size := lt_block' hb1))
  all_goals
    go_wp2_with fail
    obtain ⟨Lr, p1, p2, p3, p4⟩ := HV.out
    have hle := HSZ.out
    have eP : ∀ X : World, (((X.setCell ⟨w.heap.size + 1, 0, none⟩ (.int .i64 rk)).setCell ⟨w.heap.size + 1, 1, none⟩ (.int .i64 rn)).setCell ⟨w.heap.size + 1, 2, none⟩ (.string rs)).setCell ⟨w.heap.size + 1, 3, none⟩ (.slice ra rl rc) = putL X (w.heap.size + 1) 0 [.int .i64 rk, .int .i64 rn, .string rs, .slice ra rl rc] := fun _ => rfl
    rw [eP]
    have E := box4 (HRB.out u1 k1) rfl (.int .i64 rk) (.int .i64 rn) (.string rs) (.slice ra rl rc)
    have hbb : Below w.heap.size w (putL u1 (w.heap.size + 1) 0 [.int .i64 rk, .int .i64 rn, .string rs, .slice ra rl rc]) := (below2 HB.out k1).trans ((putL_bel (w.heap.size + 1) _ _ u1).mono (by omega))
    have hoth : ∀ j, j ≠ w.heap.size + 1 → (putL u1 (w.heap.size + 1) 0 [.int .i64 rk, .int .i64 rn, .string rs, .slice ra rl rc]).heap[j]? = u1.heap[j]? := fun j hj => putL_other _ _ _ _ j hj
    have hsz : (putL u1 (w.heap.size + 1) 0 [.int .i64 rk, .int .i64 rn, .string rs, .slice ra rl rc]).heap.size = u1.heap.size := putL_size _ _ _ _
    generalize putL u1 (w.heap.size + 1) 0 [.int .i64 rk, .int .i64 rn, .string rs, .slice ra rl rc] = Y at E hbb hoth hsz ⊢
    have t0 := cell_of E 0
    have t1 := cell_of E 1
    have t2 := cell_of E 2
    have t3 := cell_of E 3
    simp at t0 t1 t2 t3
    exact bodyPost_ret (v := .agg #[.int .i64 rk, .int .i64 rn, .string rs, .slice ra rl rc]) (by simp [results, Tryz.results31, go_sem, t0, t1, t2, t3]) rfl ⟨⟨rk, rn, rs, ra, rl, rc, Lr, rfl, p1, p2, p3, LieA.kept (Nat.le_trans HW.out.size hbb.size) (fun i hi hl => ⟨.inl hi, (hbb.block i (Nat.lt_of_lt_of_le hl hle)).trans (HW.out.block i hl)⟩) _ _ _ p4⟩, hbb⟩

set_option maxHeartbeats 4000000 in
set_option maxRecDepth 100000 in
theorem value_type {env : ByteArray → Option Th} {B : Nat} (w0 w : World) (k vk vn : Int) (vs : ByteArray) (va : Option Addr) (vl vc : Nat) (nm : ByteArray) (a : Option Addr) (l c : Nat) (Lv : List T) (A : List Tm) (bm m bk : Nat) (hw : Below w0.heap.size w0 w) (hB : B ≤ w0.heap.size) (hT : Tabs B w0) (ht : TmAt w0 k vk vn vs va vl vc nm a l c Lv A) (hn : NamesAt w0 m env) (hb : BookAt w0 bm bk) (hk : k = 4) (hnm : nm = ⟨#[116, 121, 112, 101]⟩) (y : Tm) (hA : A = [y]) (x : Th) (hx : env y.name = some x) : Calls Tryz.prog 31 #[.map (some bm), .agg #[.int .i64 k, .int .i64 vk, .int .i64 vn, .string vs, .slice va vl vc, .string nm, .slice a l c], .map (some m)] w fun e w' => VEnd (fun i => i < w0.heap.size) w w' (.node 3 0 x.typ []) e ∧ Below w.heap.size w w' := by
  subst hk
  subst hnm
  have hlen := ht.args.len.1
  obtain ⟨b, off, k1, vk1, vn1, vs1, va1, vl1, vc1, nm1, a1, l1, c1, Lv1, A1, ha, hbl, hd, ⟨-, -, -, -, -, x5, -⟩, -⟩ := ht.args.at (i := 0) (by rw [hlen, hA]; simp)
  subst ha
  rw [Nat.zero_mul, Nat.add_zero] at x5
  have e1 : y = .node k1 (.node vk1 vn1 vs1 Lv1) nm1 A1 := by rw [hA] at hd; simpa using hd
  subst e1
  have hl : l = 1 := by rw [hlen, hA]; simp
  subst hl
  obtain ⟨P, pa, pl, pc, hts, hpp, hpr, hlk⟩ := look_name hn nm1 x hx
  have hb2 : Below w.heap.size w ((w.alloc (.cells #[.int .i64 4, .int .i64 vk, .int .i64 vn, .string vs, .slice va vl vc, .string ⟨#[116, 121, 112, 101]⟩, .slice (some ⟨b, off, none⟩) 1 c] 27)).alloc (.cells #[.int .i64 0, .int .i64 0, .string ⟨#[]⟩, .slice none 0 0] 24)) := ((Below.refl _ _).alloc (Nat.le_refl _) _).alloc (by simp) _
  have hw2 := hw.trans (hb2.mono hw.size)
  have hl0 := (hlk _ hw2).1
  have hl1 := field_typ ((w.alloc (.cells #[.int .i64 4, .int .i64 vk, .int .i64 vn, .string vs, .slice va vl vc, .string ⟨#[116, 121, 112, 101]⟩, .slice (some ⟨b, off, none⟩) 1 c] 27)).alloc (.cells #[.int .i64 0, .int .i64 0, .string ⟨#[]⟩, .slice none 0 0] 24)) x.edge x.id x.typ pa pl pc
  have y5 : ((w.alloc (.cells #[.int .i64 4, .int .i64 vk, .int .i64 vn, .string vs, .slice va vl vc, .string ⟨#[116, 121, 112, 101]⟩, .slice (some ⟨b, off, none⟩) 1 c] 27)).alloc (.cells #[.int .i64 0, .int .i64 0, .string ⟨#[]⟩, .slice none 0 0] 24)).cell? ⟨b, off + 5, none⟩ = _ := (hw2.cell (p := ⟨b, off + 5, none⟩) hbl).trans x5
  have hbW : b < ((w.alloc (.cells #[.int .i64 4, .int .i64 vk, .int .i64 vn, .string vs, .slice va vl vc, .string ⟨#[116, 121, 112, 101]⟩, .slice (some ⟨b, off, none⟩) 1 c] 27)).alloc (.cells #[.int .i64 0, .int .i64 0, .string ⟨#[]⟩, .slice none 0 0] 24)).heap.size := Nat.lt_of_lt_of_le hbl hw2.size
  have HTS := toHid hts
  clear ht hn hb hT hlk hw2 hb2 hpp hpr hts hd hA hlen hbl x5
  go_enter Tryz.func31, Tryz.ntmps31
  go_wp2_with fail
  have hbb : Below w.heap.size w ((w.alloc (.cells #[.int .i64 4, .int .i64 vk, .int .i64 vn, .string vs, .slice va vl vc, .string ⟨#[116, 121, 112, 101]⟩, .slice (some ⟨b, off, none⟩) 1 c] 27)).alloc (.cells #[.int .i64 3, .int .i64 0, .string x.typ, .slice none 0 0] 24)) := ((Below.refl _ _).alloc (Nat.le_refl _) _).alloc (by simp) _
  exact bodyPost_ret (v := .agg #[.int .i64 3, .int .i64 0, .string x.typ, .slice none 0 0]) (by simp [results, Tryz.results31, go_sem]) rfl ⟨VEnd.flat _ _ _ HTS.out, hbb⟩

theorem zero_call (w : World) : (zeroValue 90).run Tryz.prog w = .ok (.agg #[.int .i64 0, .nilFunc]) w := by kernel_rfl
theorem field_says (w : World) (n : Int) (f : Value) : (Instr.field 90 (.agg #[.int .i64 n, f]) 1).run Tryz.prog w = .ok f w := by kernel_rfl

/-- A call, looked up. -/
theorem look_call {w : World} {bm bk : Nat} (hb : BookAt w bm bk) (nm : ByteArray) (i : Nat) (hi : opOf nm = some i) : (Instr.lookup 61 (.map (some bm)) (.string nm) false).run Tryz.prog w = .ok (.agg #[.int .i64 (opTakes i), opFn bk i]) w := by
  have r1 := run_lookup_str (P := Tryz.prog) (w := w) Tryz.underlying61 Tryz.underlying9 hb.1 (by simpa using bookKeys bk) nm (zero_call w) false
  have e : mfind nm (bookL bk).toArray.toList = some (.agg #[.int .i64 (opTakes i), opFn bk i]) := by
    have := book_find nm bk
    rw [hi] at this
    simpa using this
  rw [e] at r1
  exact r1

/-- What is called is entered. -/
theorem op_enter (bk o : Nat) (ho : o ≤ 15) (F : Nat) (caps : Array Value) (h : opFn bk o = .func (.func F) #[] caps) (args : Array Value) (w : World) : (callFunc F args).run Tryz.prog w = .ok (.enter F args) w := by
  have : o = 0 ∨ o = 1 ∨ o = 2 ∨ o = 3 ∨ o = 4 ∨ o = 5 ∨ o = 6 ∨ o = 7 ∨ o = 8 ∨ o = 9 ∨ o = 10 ∨ o = 11 ∨ o = 12 ∨ o = 13 ∨ o = 14 ∨ o = 15 := by omega
  rcases this with rfl | rfl | rfl | rfl | rfl | rfl | rfl | rfl | rfl | rfl | rfl | rfl | rfl | rfl | rfl | rfl <;>
    (cases h; show _ = _; kernel_rfl)

set_option maxHeartbeats 4000000 in
set_option maxRecDepth 100000 in
theorem value_call {env : ByteArray → Option Th} {B : Nat} (w0 w : World) (k vk vn : Int) (vs : ByteArray) (va : Option Addr) (vl vc : Nat) (nm : ByteArray) (a : Option Addr) (l c : Nat) (Lv : List T) (A : List Tm) (bm m bk : Nat) (hw : Below w0.heap.size w0 w) (hB : B ≤ w0.heap.size) (hT : Tabs B w0) (ht : TmAt w0 k vk vn vs va vl vc nm a l c Lv A) (hn : NamesAt w0 m env) (hb : BookAt w0 bm bk) (hk : k = 4) (hnt : (nm.toList == [116, 121, 112, 101]) = false) (o : Nat) (ho : opOf nm = some o) (ho15 : o ≤ 15) (htk : opTakes o = -1 ∨ opTakes o = A.length) (h30 : A.length ≤ 30) (G : Tm → T) (hcw : ∀ y ∈ A, Cw 6 (G y))
    (IH : ∀ (xk xvk xvn : Int) (xvs : ByteArray) (xva : Option Addr) (xvl xvc : Nat) (xnm : ByteArray) (xa : Option Addr) (xl xc : Nat) (Lv : List T) (A' : List Tm), TmAt w0 xk xvk xvn xvs xva xvl xvc xnm xa xl xc Lv A' → .node xk (.node xvk xvn xvs Lv) xnm A' ∈ A → ∀ W, Below w0.heap.size w0 W → Calls Tryz.prog 31 #[.map (some bm), .agg #[.int .i64 xk, .int .i64 xvk, .int .i64 xvn, .string xvs, .slice xva xvl xvc, .string xnm, .slice xa xl xc], .map (some m)] W fun e w' => VEnd (fun i => i < w0.heap.size) W w' (G (.node xk (.node xvk xvn xvs Lv) xnm A')) e ∧ Below W.heap.size W w') :
    Calls Tryz.prog 31 #[.map (some bm), .agg #[.int .i64 k, .int .i64 vk, .int .i64 vn, .string vs, .slice va vl vc, .string nm, .slice a l c], .map (some m)] w fun e w' => VEnd (fun i => i < w0.heap.size) w w' (opF o (A.map G)) e ∧ Below w.heap.size w w' := by
  subst hk
  have hlen := ht.args.len.1
  have hl30 : l ≤ 30 := by rw [hlen]; exact h30
  obtain ⟨i0, hi0, hiz, his, hib⟩ := info_val
  have HI0 := toHid hi0
  have HIZ := toHid hiz
  have HIS := toHid his
  have HIB := toHid hib
  have hb56 : i0.bytes * l ≤ 281474976710656 := by rw [hib]; omega
  have hmx : l ≤ maxLen := by unfold maxLen; omega
  have HAR := toHid ht.args
  have HLEN := toHid hlen
  have HIH := toHid IH
  have HCW := toHid hcw
  have HTK := toHid htk
  have HBK := toHid hb
  have HTB := toHid hT
  have HBB := toHid hB
  have h0 := alloc_two w (.cells #[.int .i64 4, .int .i64 vk, .int .i64 vn, .string vs, .slice va vl vc, .string nm, .slice a l c] 27) (.cells #[.int .i64 0, .int .i64 0, .string ⟨#[]⟩, .slice none 0 0] 24)
  have h1 : ((w.alloc (.cells #[.int .i64 4, .int .i64 vk, .int .i64 vn, .string vs, .slice va vl vc, .string nm, .slice a l c] 27)).alloc (.cells #[.int .i64 0, .int .i64 0, .string ⟨#[]⟩, .slice none 0 0] 24)).heap[w.heap.size]? = some (.cells #[.int .i64 4, .int .i64 vk, .int .i64 vn, .string vs, .slice va vl vc, .string nm, .slice a l c] 27 (0, 0)) := by
    have hb : Below (w.heap.size + 1) (w.alloc (.cells #[.int .i64 4, .int .i64 vk, .int .i64 vn, .string vs, .slice va vl vc, .string nm, .slice a l c] 27)) ((w.alloc (.cells #[.int .i64 4, .int .i64 vk, .int .i64 vn, .string vs, .slice va vl vc, .string nm, .slice a l c] 27)).alloc (.cells #[.int .i64 0, .int .i64 0, .string ⟨#[]⟩, .slice none 0 0] 24)) := (Below.refl _ _).alloc (by simp) _
    exact (hb.block w.heap.size (by omega)).trans (alloc_new w (.cells #[.int .i64 4, .int .i64 vk, .int .i64 vn, .string vs, .slice va vl vc, .string nm, .slice a l c] 27))
  have hz : ((w.alloc (.cells #[.int .i64 4, .int .i64 vk, .int .i64 vn, .string vs, .slice va vl vc, .string nm, .slice a l c] 27)).alloc (.cells #[.int .i64 0, .int .i64 0, .string ⟨#[]⟩, .slice none 0 0] 24)).heap.size = w.heap.size + 2 := by simp
  have hb2 : Below w.heap.size w ((w.alloc (.cells #[.int .i64 4, .int .i64 vk, .int .i64 vn, .string vs, .slice va vl vc, .string nm, .slice a l c] 27)).alloc (.cells #[.int .i64 0, .int .i64 0, .string ⟨#[]⟩, .slice none 0 0] 24)) := ((Below.refl _ _).alloc (Nat.le_refl _) _).alloc (by simp) _
  have H0 := toHid h0
  have H1 := toHid h1
  have HZ := toHid hz
  have HB := toHid hb2
  have HW := toHid hw
  have HSZ := toHid hw.size
  clear ht hn hb hT hi0 hiz his hib h0 h1 hz hb2 hw hlen IH hcw htk hB h30
  go_enter Tryz.func31, Tryz.ntmps31
  go_wp2_with (at_make; refine wpList_make_own _ rfl _ _ 22 rfl (w.heap.size + 2) 24 i0 _ 4 Tryz.underlying22 HI0.out HIZ.out HIS.out .i64 .i64 (l : Int) l rfl rfl rfl hb56 hmx (by rw [HZ.out]; exact Nat.le_refl _) ?_)
  generalize (w.alloc (.cells #[.int .i64 4, .int .i64 vk, .int .i64 vn, .string vs, .slice va vl vc, .string nm, .slice a l c] 27)).alloc (.cells #[.int .i64 0, .int .i64 0, .string ⟨#[]⟩, .slice none 0 0] 24) = W at HB H0 H1 HZ ⊢
  intro w1 hown1 hg1
  have HK1 : Hid (Below (w.heap.size + 2) W w1) := (Below.refl _ _).grown hg1 (by rw [HZ.out]; exact Nat.le_refl _) (fun k hk => by cases hk)
  have HT1 : Hid (∀ u, Below (w.heap.size + 2) W u → u.heap[w.heap.size]? = some (.cells #[.int .i64 4, .int .i64 vk, .int .i64 vn, .string vs, .slice va vl vc, .string nm, .slice a l c] 27 (0, 0))) := fun u k => (k.block w.heap.size (by omega)).trans H1.out
  have HR1 : Hid (∀ u, Below (w.heap.size + 2) W u → u.heap[w.heap.size + 1]? = some (.cells #[.int .i64 0, .int .i64 0, .string ⟨#[]⟩, .slice none 0 0] 24 (0, 0))) := fun u k => (k.block (w.heap.size + 1) (by omega)).trans H0.out
  have c6 := cell_of (HT1.out w1 HK1.out) 6
  have z1 : w.heap.size < w1.heap.size := lt_block' (HT1.out w1 HK1.out)
  simp at c6
  have HOWN1 := toHid hown1
  clear hown1 hg1
  go_wp2_with fail
  clear c6 z1
  go_loopg [7, 61] l (fun q s7 s61 wr => ∃ (i : Nat) (xs : List VR) (ov : Value), i ≤ l ∧ l - i ≤ q ∧ ov = s7 ∧ s61 = .int .i64 i ∧ xs.length = i ∧ wr.ownsRow (w.heap.size + 2) 24 4 ov i (rowV xs) ∧ Below (w.heap.size + 2) W wr ∧ Pair2 (VR.In (fun j => (j < w0.heap.size ∨ w.heap.size + 2 ≤ j) ∧ ov.ownBlock ≠ some j) wr) xs ((A.take i).map G))
  case atStart => exact ⟨0, [], _, Nat.zero_le _, by omega, rfl, rfl, rfl, HOWN1.out, HK1.out, by simpa using Pair2.nil⟩
  case round =>
    clear HOWN1 HK1
    obtain ⟨i, xs, ov, hi, hg, rfl, rfl, hxs, hown, hbw, hpr⟩ := hrel
    have HOWN := toHid hown
    have HPR := toHid hpr
    have HXS := toHid hxs
    have hzw : w.heap.size + 2 ≤ wr.heap.size := by have := hbw.size; rw [HZ.out] at this; exact this
    have hw0 : Below w.heap.size w wr := HB.out.trans (hbw.mono (by omega))
    have hw00 : Below w0.heap.size w0 wr := HW.out.trans (hw0.mono HSZ.out)
    clear hown hpr hxs
    by_cases hlt : i < l
    · obtain ⟨b2, off2, xk, xvk, xvn, xvs, xva, xvl, xvc, xnm, xa, xl, xc, Lv', A', ha2, hbl2, hd, ⟨e0, e1, e2, e3, e4, e5, e6⟩, hta⟩ := HAR.out.at (i := i) hlt
      have HC := toHid (HIH.out xk xvk xvn xvs xva xvl xvc xnm xa xl xc Lv' A' hta (List.mem_of_mem_drop (i := i) (by rw [hd]; exact List.mem_cons_self ..)))
      have HTK2 : Hid (A.take (i + 1) = A.take i ++ [.node xk (.node xvk xvn xvs Lv') xnm A']) := by
        have e : A[i]? = some (.node xk (.node xvk xvn xvs Lv') xnm A') := by
          have := List.getElem?_drop (xs := A) (i := i) (j := 0)
          rw [hd] at this
          simpa using this.symm
        show A.take (i + 1) = _
        rw [List.take_add_one, e]
        rfl
      subst ha2
      have q2 : ∀ o, wr.cell? ⟨b2, o, none⟩ = w0.cell? ⟨b2, o, none⟩ := fun o => hw00.cell (p := ⟨b2, o, none⟩) hbl2
      have d0 := (q2 _).trans e0
      have d1 := (q2 _).trans e1
      have d2 := (q2 _).trans e2
      have d3 := (q2 _).trans e3
      have d4 := (q2 _).trans e4
      have d5 := (q2 _).trans e5
      have d6 := (q2 _).trans e6
      have hil : (i : Int) < l := by omega
      have hkx : Below wr.heap.size wr (wr.alloc (.cells #[.int .i64 xk, .int .i64 xvk, .int .i64 xvn, .string xvs, .slice xva xvl xvc, .string xnm, .slice xa xl xc] 27)) := (Below.refl _ _).alloc (Nat.le_refl _) _
      have hxb := alloc_new wr (.cells #[.int .i64 xk, .int .i64 xvk, .int .i64 xvn, .string xvs, .slice xva xvl xvc, .string xnm, .slice xa xl xc] 27)
      have hzx : (wr.alloc (.cells #[.int .i64 xk, .int .i64 xvk, .int .i64 xvn, .string xvs, .slice xva xvl xvc, .string xnm, .slice xa xl xc] 27)).heap.size = wr.heap.size + 1 := by simp
      have HOX := toHid (HOWN.out.alloc (.cells #[.int .i64 xk, .int .i64 xvk, .int .i64 xvn, .string xvs, .slice xva xvl xvc, .string xnm, .slice xa xl xc] 27))
      have HBX := toHid (hbw.trans (hkx.mono hzw))
      have HKX := toHid hkx
      have HXB := toHid hxb
      have HZX := toHid hzx
      have HW0X := toHid (show Below w0.heap.size w0 (wr.alloc (.cells #[.int .i64 xk, .int .i64 xvk, .int .i64 xvn, .string xvs, .slice xva xvl xvc, .string xnm, .slice xa xl xc] 27)) from hw00.trans (hkx.mono hw00.size))
      clear e0 e1 e2 e3 e4 e5 e6 q2 hd hta hkx hxb hzx hbw hw0 hw00
      go_upto_region 13 with fail
      clear d0 d1 d2 d3 d4 d5 d6
      generalize wr.alloc (.cells #[.int .i64 xk, .int .i64 xvk, .int .i64 xvn, .string xvs, .slice xva xvl xvc, .string xnm, .slice xa xl xc] 27) = WX at HOX HBX HKX HXB HZX HW0X ⊢
      have g0 := cell_of HXB.out 0
      have g1 := cell_of HXB.out 1
      have g2 := cell_of HXB.out 2
      have g3 := cell_of HXB.out 3
      have g4 := cell_of HXB.out 4
      have g5 := cell_of HXB.out 5
      have g6 := cell_of HXB.out 6
      simp at g0 g1 g2 g3 g4 g5 g6
      have hwX : wr.heap.size < WX.heap.size := by rw [HZX.out]; omega
      have HBy : (i + 1) * 56 ≤ 140737488355328 := by omega
      have HBm : i + 1 ≤ maxLen := by unfold maxLen; omega
      go_wp2_with (go_at_call 31; refine (HC.out _ HW0X.out).mono ?_)
      rintro e u1 ⟨⟨rk, rn, rs, ra, rl, rc, Lr, rfl, hre, hrlc, hrs, hrL⟩, k1⟩
      have hu1 : WX.heap.size ≤ u1.heap.size := k1.size
      have hown2 : u1.ownsRow (w.heap.size + 2) 24 4 ov i (rowV xs) := row_keep HOX.out (fun g _ hgl => k1.block g hgl)
      have hu2 : w.heap.size + 2 ≤ u1.heap.size := by omega
      have K1 := toHid k1
      have HRE := toHid hre
      have HRL := toHid hrL
      have HRS := toHid (show rl ≤ rc ∧ rs.size ≤ 9223372036854775807 from ⟨hrlc, hrs⟩)
      have HO2 := toHid hown2
      clear k1 hre hrL hrlc hrs hown2 g0 g1 g2 g3 g4 g5 g6
      go_wp2_with (at_builtin; refine wpList_append_lies _ rfl _ _ 22 rfl (w.heap.size + 2) 24 i0 _ 4 56 Tryz.underlying22 HI0.out HIZ.out HIS.out HIB.out rfl (by omega) ov i (rowV xs) rfl (HO2.out.alloc _) ⟨u1.heap.size, 0, none⟩ 1 1 ((⟨rk, rn, rs, ra, rl, rc⟩ : VR).cells) rfl rfl (World.news_of_block (cs := #[.int .i64 rk, .int .i64 rn, .string rs, .slice ra rl rc]) (t := 24) (fr := (0, 0)) (alloc_new u1 _)) (by simp [VR.cells, Value.oneCell']) (by omega) HBm HBy (by simp; omega) (u1.heap.size + 1) (by simp) ?_)
      intro gg cap w5 hown5 hgrow hat5 hlt5
      have k1 := K1.out
      have hown2 := HO2.out
      have hle := HSZ.out
      have hzx := HZX.out
      have hb6 : Below (w.heap.size + 2) W w5 := ((HBX.out.trans (k1.mono (by omega))).alloc (by omega) _).grown hgrow (by simp; omega) (fun j hj => (hown2.lt j hj).1)
      have hsz5 : u1.heap.size + 1 ≤ w5.heap.size := by have := hgrow.size; simpa using this
      have hkeep : ∀ j, ov.ownBlock ≠ some j → j < u1.heap.size → some gg ≠ some j ∧ w5.heap[j]? = u1.heap[j]? := fun j hj hl => by
        refine ⟨fun e => ?_, ?_⟩
        · rcases hat5 with h | h
          · exact hj (h.trans e)
          · injection e with e; omega
        · have q1 := hgrow.block j (by simp; omega) (Ne.symm hj)
          have q2 := ((Below.refl u1.heap.size u1).alloc (Nat.le_refl _) (.cells #[.int .i64 rk, .int .i64 rn, .string rs, .slice ra rl rc] 24)).block j hl
          exact q1.trans q2
      have hold : Pair2 (VR.In (fun j => (j < w0.heap.size ∨ w.heap.size + 2 ≤ j) ∧ (Value.slice (some ⟨gg, 0, none⟩) (i + 1) cap).ownBlock ≠ some j) w5) xs ((A.take i).map G) := HPR.out.mono fun p x _ _ hp => hp.kept (by omega) fun j hj hl => by
        obtain ⟨r1, r2⟩ := hkeep j hj.2 (by omega)
        exact ⟨⟨hj.1, r1⟩, r2.trans ((k1.block j (by omega)).trans (HKX.out.block j hl))⟩
      have hnew : VR.In (fun j => (j < w0.heap.size ∨ w.heap.size + 2 ≤ j) ∧ (Value.slice (some ⟨gg, 0, none⟩) (i + 1) cap).ownBlock ≠ some j) w5 (⟨rk, rn, rs, ra, rl, rc⟩ : VR) (G (.node xk (.node xvk xvn xvs Lv') xnm A')) := ⟨Lr, HRE.out, HRS.out.2, HRS.out.1, LieA.kept (by omega) (fun j hj hl => by
        have hn : ov.ownBlock ≠ some j := fun e => by
          have := HOWN.out.lt j e
          rcases hj with h | h <;> omega
        obtain ⟨r1, r2⟩ := hkeep j hn hl
        refine ⟨⟨?_, r1⟩, r2⟩
        have hd : WX.drew.heap.size = WX.heap.size := rfl
        rcases hj with h | h
        · exact .inl h
        · exact .inr (by omega)) _ _ _ HRL.out⟩
      have HP5 : Hid (Pair2 (VR.In (fun j => (j < w0.heap.size ∨ w.heap.size + 2 ≤ j) ∧ (Value.slice (some ⟨gg, 0, none⟩) (i + 1) cap).ownBlock ≠ some j) w5) (xs ++ [(⟨rk, rn, rs, ra, rl, rc⟩ : VR)]) ((A.take (i + 1)).map G)) := by
        show Pair2 _ _ _
        rw [HTK2.out, List.map_append]
        exact hold.snoc hnew
      have HOWN5 : Hid (w5.ownsRow (w.heap.size + 2) 24 4 (.slice (some ⟨gg, 0, none⟩) (i + 1) cap) (i + 1) (rowV (xs ++ [(⟨rk, rn, rs, ra, rl, rc⟩ : VR)]))) := by
        rw [rowV_snoc]
        exact hown5
      have HB6 := toHid hb6
      clear hb6 hown5 hgrow hat5 hlt5 hown2 k1 hu1 hold hnew hkeep hsz5 hle hzx
      go_wp2_with fail
      go_roundg (l - (i + 1))
      case measure => omega
      case rel => exact ⟨i + 1, xs ++ [(⟨rk, rn, rs, ra, rl, rc⟩ : VR)], .slice (some ⟨gg, 0, none⟩) (i + 1) cap, by omega, by omega, rfl, by go_num, by rw [List.length_append, HXS.out]; rfl, HOWN5.out, HB6.out, HP5.out⟩
    · have hil : ¬ (i : Int) < l := by omega
      have hll : i = l := by omega
      have hA : A.take i = A := List.take_of_length_le (by have := HLEN.out; omega)
      have hpr := HPR.out
      rw [hA] at hpr
      obtain ⟨oa, ol, oc, hov⟩ : ∃ oa ol oc, ov = .slice oa ol oc := by
        rcases HOWN.out.2 with ⟨e, _⟩ | ⟨g, cap, cur, e, _⟩
        · exact ⟨_, _, _, e⟩
        · exact ⟨_, _, _, e⟩
      subst hov
      have hr := HOWN.out
      rw [← HXS.out] at hr
      obtain ⟨v1, v2, v3⟩ := vrow_lies (n := 0) (A := fun j => j < w0.heap.size ∨ w.heap.size + 2 ≤ j) hr (fun g hg => .inr (by omega)) (hpr.mono fun p x _ _ hp => hp.kept (Nat.le_refl _) fun j hj _ => ⟨hj.1, rfl⟩)
      have hbk := HBK.out.below hw00
      have hlk := look_call hbk nm o ho
      have hcv := op_any (fun j => j < w0.heap.size ∨ w.heap.size + 2 ≤ j) (A.map G) oa ol oc wr B (Nat.le_trans HBB.out hw00.size) (HTB.out.below (hw00.mono HBB.out)) v3 v2 (fun t ht => by
        obtain ⟨y, hy, rfl⟩ := List.mem_map.1 ht
        exact HCW.out y hy) (by rw [List.length_map, ← HLEN.out]; exact hl30) bk hbk.2 o ho15 (by rw [List.length_map]; exact HTK.out)
      obtain ⟨F, caps, hF, hcv⟩ := hcv
      rw [hF] at hlk
      have hen := op_enter bk o ho15 F caps hF (#[.slice oa ol oc] ++ caps) wr
      have hfd := field_says wr (opTakes o) (.func (.func F) #[] caps)
      have c5 := cell_of (HT1.out wr hbw) 5
      simp at c5
      have z5 : w.heap.size < wr.heap.size := by omega
      have HCV := toHid hcv
      have HRB := toHid (HR1.out wr hbw)
      have HW1 := toHid hw0
      clear hbk hcv hpr hr v1 v2 v3 hbw hw0 hw00 hA HOWN HPR hF
      go_wp2_with (refine HCV.out.mono ?_)
      rintro e u1 ⟨rk, rn, rs, ra, rl, rc, Lr, rfl, hre, hrlc, hrs, hrL⟩ k1
      have hb1 := (k1.block (w.heap.size + 1) (by omega)).trans HRB.out
      have r0 := cell_of hb1 0
      have r1 := cell_of hb1 1
      have r2 := cell_of hb1 2
      have r3 := cell_of hb1 3
      have fr0 := free_of hb1 0
      have fr1 := free_of hb1 1
      have fr2 := free_of hb1 2
      have fr3 := free_of hb1 3
      simp at r0 r1 r2 r3
      have hs1 : w.heap.size + 1 < u1.heap.size := lt_block' hb1
      have HB1 := toHid hb1
      have HK2 := toHid (below2 HW1.out k1)
      have HRE := toHid hre
      have HRL := toHid hrL
      have HRS := toHid (show rl ≤ rc ∧ rs.size ≤ 9223372036854775807 from ⟨hrlc, hrs⟩)
      have HZ1 := toHid k1.size
      clear hb1 k1 hre hrL hrlc hrs
      go_wp2_with fail
      have eP : ∀ X : World, (((X.setCell ⟨w.heap.size + 1, 0, none⟩ (.int .i64 rk)).setCell ⟨w.heap.size + 1, 1, none⟩ (.int .i64 rn)).setCell ⟨w.heap.size + 1, 2, none⟩ (.string rs)).setCell ⟨w.heap.size + 1, 3, none⟩ (.slice ra rl rc) = putL X (w.heap.size + 1) 0 [.int .i64 rk, .int .i64 rn, .string rs, .slice ra rl rc] := fun _ => rfl
      rw [eP]
      have E := box4 HB1.out rfl (.int .i64 rk) (.int .i64 rn) (.string rs) (.slice ra rl rc)
      have hbb : Below w.heap.size w (putL u1 (w.heap.size + 1) 0 [.int .i64 rk, .int .i64 rn, .string rs, .slice ra rl rc]) := HK2.out.trans ((putL_bel (w.heap.size + 1) _ _ u1).mono (by omega))
      have hoth : ∀ j, j ≠ w.heap.size + 1 → (putL u1 (w.heap.size + 1) 0 [.int .i64 rk, .int .i64 rn, .string rs, .slice ra rl rc]).heap[j]? = u1.heap[j]? := fun j hj => putL_other _ _ _ _ j hj
      have hsz : (putL u1 (w.heap.size + 1) 0 [.int .i64 rk, .int .i64 rn, .string rs, .slice ra rl rc]).heap.size = u1.heap.size := putL_size _ _ _ _
      generalize putL u1 (w.heap.size + 1) 0 [.int .i64 rk, .int .i64 rn, .string rs, .slice ra rl rc] = Y at E hbb hoth hsz ⊢
      have t0 := cell_of E 0
      have t1 := cell_of E 1
      have t2 := cell_of E 2
      have t3 := cell_of E 3
      simp at t0 t1 t2 t3
      have hkp : ∀ j, ((j < w0.heap.size ∨ w.heap.size + 2 ≤ j) ∨ wr.heap.size ≤ j) → j < u1.heap.size → (j < w0.heap.size ∨ w.heap.size ≤ j) ∧ Y.heap[j]? = u1.heap[j]? := fun j hj hl => by
        have := HSZ.out
        refine ⟨by omega, hoth j (by omega)⟩
      have HLR : LieA (fun i => i < w0.heap.size ∨ w.heap.size ≤ i) Y Lr ra rl := LieA.kept (Nat.le_of_eq hsz.symm) hkp _ _ _ HRL.out
      exact bodyPost_ret (v := .agg #[.int .i64 rk, .int .i64 rn, .string rs, .slice ra rl rc]) (by simp [results, Tryz.results31, go_sem, t0, t1, t2, t3]) rfl ⟨⟨rk, rn, rs, ra, rl, rc, Lr, rfl, HRE.out, HRS.out.1, HRS.out.2, HLR⟩, hbb⟩
end Go.Proofs.YtbfhapmnnckkaaaGreatDoor
