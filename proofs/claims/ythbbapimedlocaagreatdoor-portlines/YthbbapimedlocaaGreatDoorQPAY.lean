/-
  What is proved here: what the texts PtLine prove, in one text.
-/
import Derived.Test.YthbbapimedlocaaGreatDoorQPAX
import Derived.Test.YthbbapimedlocaaGreatDoorQPAT
import Derived.Test.YthbbapimedlocaaGreatDoorShelf2
namespace Go.Proofs.YthbbapimedlocaaGreatDoor
open Go.RowKit
set_option linter.unusedVariables false

set_option linter.unusedSimpArgs false

theorem inL_all : ∀ {L : List T}, (∀ t ∈ L, InT t) → InL L
  | [], _ => by unfold InL; trivial
  | t :: L, h => by
    unfold InL
    exact ⟨h t (List.mem_cons_self ..), inL_all fun u hu => h u (List.mem_cons_of_mem _ hu)⟩

theorem ck_inT {d : Nat} {t : T} (h : Ck d t) : InT t := by
  induction h with
  | null d => unfold InT; exact ⟨⟨by omega, by omega⟩, inL_all fun _ h => absurd h List.not_mem_nil⟩
  | bool d n h => unfold InT; exact ⟨⟨by omega, by omega⟩, inL_all fun _ h => absurd h List.not_mem_nil⟩
  | int d n h0 h1 => unfold InT; exact ⟨⟨h0, h1⟩, inL_all fun _ h => absurd h List.not_mem_nil⟩
  | text d s h0 h1 => unfold InT; exact ⟨⟨by omega, by omega⟩, inL_all fun _ h => absurd h List.not_mem_nil⟩
  | list d L h0 h1 ih => unfold InT; exact ⟨⟨by omega, by omega⟩, inL_all ih⟩

theorem ck_size {d : Nat} {k n : Int} {s : ByteArray} {L : List T} (h : Ck d (.node k n s L)) : s.size ≤ 4000 := by
  cases h with
  | text d s h0 h1 => exact h0
  | _ => show (0 : Nat) ≤ 4000; omega

/-- value.Print of a value that Check takes. -/
theorem print_ok (B : Nat) (w : World) (hB : B ≤ w.heap.size) (hT : Tabs B w) (hP : Pow10 B w) (k n : Int) (s : ByteArray) (a : Option Addr) (l c : Nat) (L : List T) (hL : LiesS w L a l) (hck : Ck 6 (.node k n s L)) :
    ∃ (V : ByteArray) (er : Int), bS V = valW (.node k n s L) ∧ (er = 0 ↔ (prT (.node k n s L)).length ≤ 4000) ∧ ∀ W, Below w.heap.size w W → Calls Tryz.prog 50 #[.agg #[.int .i64 k, .int .i64 n, .string s, .slice a l c]] W fun e w' => e = .returned (.tuple #[.string V, .int .i64 er]) ∧ Below W.heap.size W w' := by
  have h := print_by B k n s a l c L w hB hT hP (by have := ck_size hck; omega) (ck_inT hck) hL 0 (own_ck B w hB hT 6 0 rfl k n s a l c L hL hck) (fun _ => hck)
  by_cases hl : (prT (.node k n s L)).length ≤ 4000
  · refine ⟨⟨(prT (.node k n s L)).toArray⟩, 0, by rw [bS_of]; simp [valW, if_pos hl], by simp [hl], fun W k => (h W k).mono fun e w' ⟨h1, h2⟩ => ⟨?_, h2⟩⟩
    rw [h1, if_pos rfl, if_pos hl]
  · refine ⟨⟨#[]⟩, 2, by simp [valW, if_neg hl, bS], by simp [hl], fun W k => (h W k).mono fun e w' ⟨h1, h2⟩ => ⟨?_, h2⟩⟩
    rw [h1, if_pos rfl, if_neg hl]

set_option maxHeartbeats 8000000 in
set_option maxRecDepth 100000 in
theorem line_any (B0 : Nat) (X : List AP) (pa : Option Addr) (pl pc : Nat) (W : List ByteArray) (g c b : Nat) (l : List UInt8) (lg : Bool) (w0 w : World)
    (hX : PsAt w0 X pa pl) (hl6 : pl ≤ 6) (hn : ∀ x ∈ X, x.name.size ≤ 12) (hc : ∀ x ∈ X, Ck 6 x.t) (hB0 : B0 ≤ w0.heap.size) (hT : Tabs B0 w0) (hP : Pow10 B0 w0) (hW : Below w0.heap.size w0 w)
    (hws : ∀ (j : Nat) x, W[j]? = some x → w.cell? ⟨g, j, none⟩ = some (.string x)) (hg : g < w.heap.size) (hwc : W.length ≤ c) (hJ : (Lib.join (W.map bS) [32]).length ≤ 200) (hW6 : W.length ≤ 6)
    (hA : WrAt w0.heap.size b l lg w) (hl : l.length ≤ 1000000000) :
    Calls Tryz.prog 31 #[.pointer (some ⟨b, 0, none⟩), .slice pa pl pc, .slice (some ⟨g, 0, none⟩) W.length c] w fun e w' => (∃ v, e = .returned v) ∧ WrAt w0.heap.size b (l ++ lineW (W.map bS) X) (lg || !fitP X) w' ∧ WKeep w0.heap.size b w w' := by
  obtain ⟨Q, hQ, hQX⟩ := hX
  have hlX : pl = X.length := hQ.1.trans hQX.1
  have HQ := toHid hQ
  have HQX := toHid hQX
  have HLX := toHid hlX
  have HC := toHid hc
  have HN := toHid hn
  have HT := toHid hT
  have HP := toHid hP
  have HW := toHid hW
  have HA := toHid hA
  have hbl := hA.lt
  have hBb := hA.base
  obtain ⟨J, hJd⟩ : ∃ J, J = Lib.join (W.map bS) [32] := ⟨_, rfl⟩
  have HJD := toHid hJd
  rw [← hJd] at hJ
  have HJOIN : Hid (∀ W', Below w.heap.size w W' → Calls Tryz.prog 38 #[.slice (some ⟨g, 0, none⟩) W.length c, .string ⟨#[32]⟩] W' fun e w' => e = .returned (.string ⟨J.toArray⟩) ∧ Below W'.heap.size W' w') := fun W' k => by
    have h := Tryz.strings_Join g 0 c W ⟨#[32]⟩ W' (fun j x hx => by rw [Nat.zero_add]; exact (k.cell (p := ⟨g, j, none⟩) hg).trans (hws j x hx)) (Nat.lt_of_lt_of_le hg k.size) (by omega) hwc (by show (Lib.join (W.map bS) [32]).length ≤ _; rw [← hJd]; omega)
    have eJ : Lib.join (W.map (·.data.toList)) [32] = J := hJd.symm
    refine h.mono fun e w' ⟨h1, h2⟩ => ⟨?_, h2⟩
    rw [h1]
    show Ending.returned (.string ⟨(Lib.join (W.map (·.data.toList)) [32]).toArray⟩) = _
    rw [eJ]
  have HW1 : Hid (∀ W', Below w.heap.size w W' → Calls Tryz.prog 49 #[.pointer (some ⟨b, 0, none⟩), .string ⟨J.toArray⟩] W' fun e w' => (∃ v, e = .returned v) ∧ WrAt w0.heap.size b (l ++ J) lg w' ∧ WKeep w0.heap.size b W' w') := fun W' k => by
    have h := writeW w0.heap.size b l lg ⟨J.toArray⟩ W' (HA.out.below k) (by show l.length + J.toArray.size ≤ _; simp; omega) (Nat.le_trans HW.out.size k.size)
    simpa using h
  have D0 : Below w.heap.size w w.drew := (Below.refl _ _).drew
  clear hQ hQX hlX hn hc hT hP hW hA hws hJd
  go_enter Tryz.func31, Tryz.ntmps31
  go_upto_region 0 with fail
  go_cut [15] (fun s15 wx => WrAt w0.heap.size b (l ++ J) lg wx ∧ WKeep w0.heap.size b w wx)
  case first =>
    go_region_held3 (fun w' => True)
      (first
        | trivial
        | go_keep)
      (first
        | (go_at_call 49; refine (HW1.out _ k1).mono ?_; rintro e u2 ⟨⟨v, rfl⟩, h2, h3⟩)
        | (go_at_call 38; refine (HJOIN.out _ D0).mono ?_; rintro e u1 ⟨rfl, h1⟩; have k1 : Below w.heap.size w u1 := D0.trans h1))
    all_goals
      go_wp2_with fail
      go_meet
      exact ⟨h2, (WKeep.of_below k1 (by have := HW.out.size; omega)).trans h3⟩
  case rest =>
    obtain ⟨hA1, hK1⟩ := hcut
    have HA1 := toHid hA1
    have HK1 := toHid hK1
    clear hA1 hK1 HJOIN HW1 D0
    go_wp2_with fail
    go_loopg [18] pl (fun gg s18 wr => ∃ i : Nat, i ≤ pl ∧ pl - i ≤ gg ∧ s18 = .int .i64 i ∧ WrAt w0.heap.size b (l ++ J ++ prsW (X.take i)) (lg || !fitP (X.take i)) wr ∧ WKeep w0.heap.size b w wr)
    case atStart => exact ⟨0, Nat.zero_le _, by omega, rfl, by simpa [prsW, fitP] using HA1.out, HK1.out⟩
    case round =>
      clear HA1 HK1
      obtain ⟨i, hi, hgg, rfl, hai, hki⟩ := hrel
      have HAI := toHid hai
      have HKI := toHid hki
      clear hai hki
      have HW2 := toHid (HW.out.trans HKI.out.low)
      have hzr : w0.heap.size ≤ wr.heap.size := HW2.out.size
      have hlen : (prsW (X.take i)).length ≤ 30000 := by
        have h1 := prsW_len (P := X.take i) (fun q hq => HN.out q (List.mem_of_mem_take hq))
        have h2 : (X.take i).length ≤ 6 := by rw [List.length_take]; have := HLX.out; omega
        have h3 : (X.take i).length * 4014 ≤ 6 * 4014 := Nat.mul_le_mul_right _ h2
        omega
      have hlen2 : (l ++ J ++ prsW (X.take i)).length ≤ 1000040000 := by
        rw [List.length_append, List.length_append]
        omega
      by_cases hlt : i < pl
      · have hil : (i : Int) < pl := by omega
        obtain ⟨-, -, hat⟩ := HQ.out.below HW2.out
        obtain ⟨bb, off, ha, hb, hcell⟩ := hat (by omega)
        subst ha
        obtain ⟨y, hy, _⟩ := drop_get (L := Q) (i := i) (by have := HQ.out.1; omega)
        obtain ⟨x, hx, hyx⟩ := HQX.out.left hy
        obtain ⟨hsz, q0, q1, q2, q3, q4⟩ := hcell i y hy
        obtain ⟨e1, e2, e3, e4, Lt, e5, e6⟩ := hyx
        obtain ⟨yn, yk, ym, ys, ya, yl, yc, ye⟩ := y
        simp only at hsz q0 q1 q2 q3 q4 e1 e2 e3 e4 e5 e6
        subst e1
        have hck := HC.out x (List.mem_of_getElem? hx)
        have hnm := HN.out x (List.mem_of_getElem? hx)
        rw [e5] at hck
        obtain ⟨V, er, hV, her, hpr⟩ := print_ok B0 w0 hB0 HT.out HP.out yk ym ys ya yl yc Lt (LieA.lies _ _ _ e6) hck
        rw [← e5] at hV her
        have HV := toHid hV
        have HER := toHid her
        have k1 : Below wr.heap.size wr (wr.alloc (.cells #[.string x.name, .int .i64 yk, .int .i64 ym, .string ys, .slice ya yl yc] 62)) := (Below.refl _ _).alloc (Nat.le_refl _) _
        have h1 := alloc_new wr (.cells #[.string x.name, .int .i64 yk, .int .i64 ym, .string ys, .slice ya yl yc] 62)
        have HX1 := toHid h1
        have HPC := toHid (hpr _ (HW2.out.trans (k1.mono hzr)))
        have HA2 := toHid (HAI.out.below k1)
        have HK2 := toHid (HKI.out.trans (WKeep.of_below k1 hzr))
        have hbr := HAI.out.lt
        have hVs : V.size ≤ 4000 := by rw [← bS_size, hV]; exact valW_len _
        have HSN : Hid (prsW (X.take (i + 1)) = prsW (X.take i) ++ ([32] ++ bS x.name ++ [61] ++ bS V)) := by show _ = _; rw [prsW_snoc hx, hV]; rfl
        have HFS : Hid ((lg || !fitP (X.take (i + 1))) = ((lg || !fitP (X.take i)) || !decide ((prT x.t).length ≤ 4000))) := by
          show _ = _
          rw [fitP_snoc hx]
          cases lg <;> cases fitP (X.take i) <;> simp
        clear hcell hat hy hx e2 e3 e4 e5 e6 hck hV her hpr k1 h1 HAI HKI
        generalize fitP (X.take i) = fx at HA2 HFS
        generalize prsW (X.take i) = S at HA2 HSN hlen hlen2
        go_upto_region 4 with fail
        generalize wr.alloc (.cells #[.string x.name, .int .i64 yk, .int .i64 ym, .string ys, .slice ya yl yc] 62) = W1 at HX1 HPC HA2 HK2 ⊢
        have hbn : b ≠ wr.heap.size := by omega
        generalize wr.heap.size = bx at HX1 hbn ⊢
        have y1 := cell_of HX1.out 1
        have y2 := cell_of HX1.out 2
        have y3 := cell_of HX1.out 3
        have y4 := cell_of HX1.out 4
        simp at y1 y2 y3 y4
        have hbx1 := lt_blkX HX1.out
        clear q0 q1 q2 q3 q4
        go_wp2_with fail
        refine HPC.out.mono ?_
        rintro e w2 ⟨rfl, k2⟩
        have HX2 := toHid ((k2.block bx hbx1).trans HX1.out)
        have HA3 := toHid (HA2.out.below k2)
        have hz1 : w0.heap.size ≤ W1.heap.size := (HW.out.trans HK2.out.low).size
        have HK3 := toHid (HK2.out.trans (WKeep.of_below k2 hz1))
        have HE2 : Hid (decide ((prT x.t).length ≤ 4000) = (er == 0)) := by
          show _ = _
          by_cases h : er = 0
          · rw [decide_eq_true (HER.out.1 h), h]
            rfl
          · rw [decide_eq_false (fun q => h (HER.out.2 q))]
            exact (beq_eq_false_iff_ne.2 h).symm
        rw [HE2.out] at HFS
        clear k2 HX1 HA2 HK2 HPC y1 y2 y3 y4 HER HE2
        generalize (lg || !fx) = d at HA3 HFS
        obtain ⟨d', hd'⟩ : ∃ d', d' = (d || !(er == 0)) := ⟨_, rfl⟩
        rw [← hd'] at HFS
        obtain ⟨p2, f2⟩ := HA3.out.long
        have hbl2 := HA3.out.lt
        go_upto_region 5 with fail
        go_cut [36] (fun s36 wx => wx = w2.setCell ⟨b, 2, none⟩ (.bool d'))
        case first =>
          cases d with
          | true =>
            have HDD : Hid (d' = true) := by rw [hd']; exact toHid rfl
            clear hd'
            go_wp2_with fail
            go_meet
            rw [HDD.out]
          | false =>
            by_cases he : er = 0
            · have hne : (er != 0) = false := by simp [he]
              have HDD : Hid (d' = false) := by rw [hd', he]; exact toHid rfl
              clear hd' he
              go_wp2_with fail
              go_meet
              rw [HDD.out]
            · have hne : (er != 0) = true := by simp [he]
              have HDD : Hid (d' = true) := by rw [hd', beq_eq_false_iff_ne.2 he]; exact toHid rfl
              clear hd' he
              go_wp2_with fail
              go_meet
              rw [HDD.out]
        case rest =>
          subst hcut
          have HA4 := toHid (HA3.out.mark d')
          have HK4 := toHid (HK3.out.trans (WKeep.put w2 hBb 2 (.bool d')))
          have HX3 := toHid ((WKeep.put (B := w0.heap.size) w2 hBb 2 (.bool d')).block HX2.out (by omega) (by decide))
          clear p2 f2 hbl2 HA3 HK3 HX2 hd'
          generalize w2.setCell ⟨b, 2, none⟩ (.bool d') = w3 at HA4 HK4 HX3 ⊢
          have x0 := cell_of HX3.out 0
          simp at x0
          have hbx3 := lt_blkX HX3.out
          have hz3 : w0.heap.size ≤ w3.heap.size := (HW.out.trans HK4.out.low).size
          have HWR : Hid (∀ W', Below w3.heap.size w3 W' → Calls Tryz.prog 49 #[.pointer (some ⟨b, 0, none⟩), .string (⟨#[32]⟩ ++ x.name ++ ⟨#[61]⟩ ++ V)] W' fun e w' => (∃ v, e = .returned v) ∧ WrAt w0.heap.size b (l ++ J ++ (S ++ ([32] ++ bS x.name ++ [61] ++ bS V))) d' w' ∧ WKeep w0.heap.size b W' w') := fun W' k => by
            have e : (⟨#[32]⟩ ++ x.name ++ ⟨#[61]⟩ ++ V : ByteArray).data.toList = [32] ++ bS x.name ++ [61] ++ bS V := by
              show bS _ = _
              rw [bS_app, bS_app, bS_app]
              rfl
            have es : (⟨#[32]⟩ ++ x.name ++ ⟨#[61]⟩ ++ V : ByteArray).size ≤ 5000 := by
              rw [← bS_size, show bS (⟨#[32]⟩ ++ x.name ++ ⟨#[61]⟩ ++ V : ByteArray) = _ from e]
              simp [bS_size]
              omega
            have h := writeW w0.heap.size b (l ++ J ++ S) d' (⟨#[32]⟩ ++ x.name ++ ⟨#[61]⟩ ++ V) W' (HA4.out.below k) (by omega) (Nat.le_trans hz3 k.size)
            rw [e, List.append_assoc (l ++ J) S] at h
            exact h
          have D0 : Below w3.heap.size w3 w3.drew := (Below.refl _ _).drew
          have c1 : ¬ 9223372036854775807 < 1 + x.name.size := by omega
          have c2 : ¬ 9223372036854775807 < 1 + x.name.size + 1 := by omega
          have c3 : ¬ 9223372036854775807 < 1 + x.name.size + 1 + V.size := by omega
          go_upto_region 6 with fail
          go_region_held3 (fun W' => W'.cell? ⟨bx, 0, none⟩ = some (.string x.name))
            (first
              | exact S1
              | exact x0
              | go_keep)
            (first
              | (go_at_call 49; refine (HWR.out _ D0).mono ?_; rintro e u1 ⟨⟨v, rfl⟩, h2, h3⟩; have S1 := ((h3.block ((D0.block bx hbx3).trans HX3.out) (fun e => hbn e.symm) (by decide)) |> fun q => cell_of q 0)))
          all_goals
            go_wp2_with fail
            go_roundg (pl - (i + 1))
            case measure => omega
            case rel => exact ⟨i + 1, by omega, Nat.le_refl _, by go_num, by rw [HSN.out, HFS.out]; exact h2, HK4.out.trans ((WKeep.of_below D0 hz3).trans h3)⟩
      · have hil : ¬ (i : Int) < pl := by omega
        have hin : i = pl := by omega
        subst hin
        have HTK : Hid (X.take i = X) := List.take_of_length_le (by have := HLX.out; omega)
        rw [HTK.out] at HAI hlen hlen2
        have HB := toHid (byteW w0.heap.size b _ _ 10 wr HAI.out (by omega) hzr)
        have hbr := HAI.out.lt
        clear HAI
        go_wp2_with fail
        refine HB.out.mono ?_
        rintro e w2 ⟨⟨v, rfl⟩, h2, h3⟩
        go_wp2_with fail
        go_end0
        refine ⟨⟨_, rfl⟩, ?_, HKI.out.trans h3⟩
        have e : l ++ lineW (W.map bS) X = l ++ J ++ prsW X ++ [10] := by
          unfold lineW
          rw [HJD.out]
          simp
        rw [e]
        exact h2
end Go.Proofs.YthbbapimedlocaaGreatDoor
