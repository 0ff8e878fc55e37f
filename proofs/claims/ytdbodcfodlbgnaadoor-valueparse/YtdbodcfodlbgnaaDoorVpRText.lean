/-
  What is proved here: espalierref.readText of any text at any place: what the plain reading of a text within quotes tells.
-/
import Derived.Test.YtdbodcfodlbgnaaDoorVpByte
import Derived.Test.YtdbodcfodlbgnaaDoorShelf2
namespace Go.Proofs.YtdbodcfodlbgnaaDoor
open Go.RowKit
set_option linter.unusedVariables false

theorem app_data {acc : List UInt8} (A s : ByteArray) (h : A.data.toList = acc) : (A ++ s).data.toList = acc ++ s.data.toList := by
  rw [← h, ByteArray.data_append, Array.toList_append]

theorem byte_no {x c : UInt8} {k : Int} (hk : (c.toNat : Int) = k) (h : x ≠ c) : ((x.toNat : Int) == k) = false := beq_eq_false_iff_ne.2 fun e => h (UInt8.toNat_inj.1 (by omega))

/-- What readText answers. -/
def RtEnd (o : Except Nat (List UInt8 × Nat)) (e : Ending) : Prop :=
  match o with
  | .error a => e = .returned (.tuple #[.string ⟨#[]⟩, .int .i64 0, .int .i64 a])
  | .ok (s, q) => e = .returned (.tuple #[.string ⟨s.toArray⟩, .int .i64 q, .int .i64 (-1)])

theorem str_of {A : ByteArray} {acc : List UInt8} (h : A.data.toList = acc) : A = ⟨acc.toArray⟩ := by
  subst h
  rfl

set_option maxHeartbeats 8000000 in
set_option maxRecDepth 100000 in
theorem readText_any (B p0 : Nat) (text : ByteArray) (w : World) (hp0 : p0 ≤ text.size) (ht : text.size ≤ 4000) (hB : B ≤ w.heap.size) (hT : Tabs B w) :
    Calls Tryd.prog 24 #[.string text, .int .i64 p0] w fun e w' => RtEnd (textF (text.size + 1) text p0 []) e ∧ Below w.heap.size w w' := by
  obtain ⟨R, hR⟩ : ∃ R, R = textF (text.size + 1) text p0 [] := ⟨_, rfl⟩
  rw [← hR]
  have HR0 := toHid hR
  have HT := toHid hT
  clear hR hT
  go_enter Tryd.func24, Tryd.ntmps24
  go_wp2_with fail
  go_loopg [1, 4, 7, 8, 9, 10] (text.size + 1) (fun g s1 s4 s7 s8 s9 s10 wr => ∃ (p : Nat) (acc : List UInt8) (A : ByteArray), p ≤ text.size ∧ text.size - p < g ∧ acc.length ≤ p ∧ R = textF g text p acc ∧ s1 = .int .i64 p ∧ s4 = .string A ∧ A.data.toList = acc ∧ Below w.heap.size w wr)
  case atStart => exact ⟨p0, [], ⟨#[]⟩, hp0, by omega, by simp, HR0.out, rfl, rfl, rfl, Below.refl _ _⟩
  case round =>
    clear HR0
    obtain ⟨p, acc, A, hp, hg, hal, hR, rfl, rfl, hA, hbw⟩ := hrel
    obtain ⟨f, rfl⟩ : ∃ f, gk = f + 1 := ⟨gk - 1, by omega⟩
    have HR := toHid hR
    have HA := toHid hA
    have HBW := toHid hbw
    have hAs : A.size = acc.length := by rw [← hA]; exact Array.length_toList.symm
    clear hR hA hbw
    by_cases hlt : p < text.size
    · have d0 : (p : Int) < (text.size : Int) := by omega
      by_cases hc39 : text[p] = 39
      · have e1 : ((text[p].toNat : Int) == 39) = true := by rw [hc39]; decide
        have HX : Hid (R = .ok (acc, p + 1)) := by
          show _ = _
          rw [HR.out]
          unfold textF
          rw [if_pos (by rw [begins_one hlt, hc39]; decide)]
        have HS := toHid (str_of HA.out)
        clear HR
        go_wp2_with fail
        refine bodyPost_ret (v := .tuple #[.string A, .int .i64 ((p : Int) + 1), .int .i64 (-1)]) (by simp [results, Tryd.results24, go_sem]) rfl ⟨?_, HBW.out⟩
        rw [HX.out, HS.out]
        rfl
      have hb39 : begins text p ⟨#[39]⟩ = false := by rw [begins_one hlt]; exact beq_eq_false_iff_ne.2 (Ne.symm hc39)
      have e1 : ((text[p].toNat : Int) == 39) = false := byte_no (c := 39) rfl hc39
      by_cases hc10 : text[p] = 10
      · have e2 : ((text[p].toNat : Int) == 10) = true := by rw [hc10]; decide
        have HX : Hid (R = .error p) := by
          show _ = _
          rw [HR.out]
          unfold textF
          rw [if_neg (by rw [hb39]; decide), letP_feed hlt hc10]
        clear HR
        go_wp2_with fail
        refine bodyPost_ret (v := .tuple #[.string ⟨#[]⟩, .int .i64 0, .int .i64 (p : Int)]) (by simp [results, Tryd.results24, go_sem]) rfl ⟨?_, HBW.out⟩
        rw [HX.out]
        rfl
      have e2 : ((text[p].toNat : Int) == 10) = false := byte_no (c := 10) rfl hc10
      by_cases hc92 : text[p] = 92
      · have e3 : ((text[p].toNat : Int) == 92) = true := by rw [hc92]; decide
        by_cases h2 : p + 1 < text.size
        rotate_left
        · have d2 : ¬ (p : Int) + 1 < (text.size : Int) := by omega
          have HX : Hid (R = .error p) := by
            show _ = _
            rw [HR.out]
            unfold textF
            rw [if_neg (by rw [hb39]; decide), letP_back_end hlt hc92 (by omega)]
          clear HR
          go_wp2_with fail
          refine bodyPost_ret (v := .tuple #[.string ⟨#[]⟩, .int .i64 0, .int .i64 (p : Int)]) (by simp [results, Tryd.results24, go_sem]) rfl ⟨?_, HBW.out⟩
          rw [HX.out]
          rfl
        have d2 : (p : Int) + 1 < (text.size : Int) := by omega
        by_cases g39 : text[p + 1] = 39
        · -- 39
          have HIX : Hid (∀ W : World, Calls Tryd.prog 44 #[.string ⟨#[110, 39, 92]⟩, .int .u8 39] W fun e w' => e = .returned (.int .i64 1) ∧ w' = W) := fun W => by
            have := Tryd.strings_IndexByte ⟨#[110, 39, 92]⟩ 39 W
            have e : Lib.indexByte (⟨#[110, 39, 92]⟩ : ByteArray).data.toList (((39 : Int)).toNat.toUInt8) = 1 := by decide
            rw [e] at this
            exact this
          have hst : textF (f + 1) text p acc = textF f text (p + 2) (acc ++ [39]) := by
            conv => lhs; unfold textF
            rw [if_neg (by rw [hb39]; decide), letP_back hlt hc92 h2, if_pos g39]
          have HST := toHid hst
          have HAP := toHid (app_data A ⟨#[39]⟩ HA.out)
          clear hst
          go_wp2_with fail
          refine (HIX.out _).mono ?_
          rintro e u1 ⟨rfl, rfl⟩
          go_wp2_with fail
          go_roundg f
          case measure => omega
          case rel => exact ⟨p + 2, acc ++ [39], _, by omega, by omega, by rw [List.length_append]; show acc.length + 1 ≤ p + 2; omega, by rw [HR.out, HST.out], by go_num, rfl, HAP.out, HBW.out⟩
        by_cases g92 : text[p + 1] = 92
        · -- 92
          have HIX : Hid (∀ W : World, Calls Tryd.prog 44 #[.string ⟨#[110, 39, 92]⟩, .int .u8 92] W fun e w' => e = .returned (.int .i64 2) ∧ w' = W) := fun W => by
            have := Tryd.strings_IndexByte ⟨#[110, 39, 92]⟩ 92 W
            have e : Lib.indexByte (⟨#[110, 39, 92]⟩ : ByteArray).data.toList (((92 : Int)).toNat.toUInt8) = 2 := by decide
            rw [e] at this
            exact this
          have hst : textF (f + 1) text p acc = textF f text (p + 2) (acc ++ [92]) := by
            conv => lhs; unfold textF
            rw [if_neg (by rw [hb39]; decide), letP_back hlt hc92 h2, if_neg g39, if_pos g92]
          have HST := toHid hst
          have HAP := toHid (app_data A ⟨#[92]⟩ HA.out)
          clear hst
          go_wp2_with fail
          refine (HIX.out _).mono ?_
          rintro e u1 ⟨rfl, rfl⟩
          go_wp2_with fail
          go_roundg f
          case measure => omega
          case rel => exact ⟨p + 2, acc ++ [92], _, by omega, by omega, by rw [List.length_append]; show acc.length + 1 ≤ p + 2; omega, by rw [HR.out, HST.out], by go_num, rfl, HAP.out, HBW.out⟩
        by_cases g110 : text[p + 1] = 110
        · -- 110
          have HIX : Hid (∀ W : World, Calls Tryd.prog 44 #[.string ⟨#[110, 39, 92]⟩, .int .u8 110] W fun e w' => e = .returned (.int .i64 0) ∧ w' = W) := fun W => by
            have := Tryd.strings_IndexByte ⟨#[110, 39, 92]⟩ 110 W
            have e : Lib.indexByte (⟨#[110, 39, 92]⟩ : ByteArray).data.toList (((110 : Int)).toNat.toUInt8) = 0 := by decide
            rw [e] at this
            exact this
          have hst : textF (f + 1) text p acc = textF f text (p + 2) (acc ++ [10]) := by
            conv => lhs; unfold textF
            rw [if_neg (by rw [hb39]; decide), letP_back hlt hc92 h2, if_neg g39, if_neg g92, if_pos g110]
          have HST := toHid hst
          have HAP := toHid (app_data A ⟨#[10]⟩ HA.out)
          clear hst
          go_wp2_with fail
          refine (HIX.out _).mono ?_
          rintro e u1 ⟨rfl, rfl⟩
          go_wp2_with fail
          go_roundg f
          case measure => omega
          case rel => exact ⟨p + 2, acc ++ [10], _, by omega, by omega, by rw [List.length_append]; show acc.length + 1 ≤ p + 2; omega, by rw [HR.out, HST.out], by go_num, rfl, HAP.out, HBW.out⟩
        · have HIX : Hid (∀ W : World, Calls Tryd.prog 44 #[.string ⟨#[110, 39, 92]⟩, .int .u8 (text[p + 1].toNat : Int)] W fun e w' => e = .returned (.int .i64 (-1)) ∧ w' = W) := fun W => by
            have := Tryd.strings_IndexByte ⟨#[110, 39, 92]⟩ (text[p + 1].toNat : Int) W
            have e : Lib.indexByte [110, 39, 92] ((text[p + 1].toNat : Int)).toNat.toUInt8 = -1 := by
              have e0 : ((text[p + 1].toNat : Int)).toNat.toUInt8 = text[p + 1] := by
                rw [Int.toNat_natCast]
                exact UInt8.ofNat_toNat
              rw [e0]
              simp [Lib.indexByte, Ne.symm g39, Ne.symm g92, Ne.symm g110]
            have e2 : (⟨#[110, 39, 92]⟩ : ByteArray).data.toList = [110, 39, 92] := rfl
            rw [e2, e] at this
            exact this
          have HX : Hid (R = .error p) := by
            show _ = _
            rw [HR.out]
            unfold textF
            rw [if_neg (by rw [hb39]; decide), letP_back hlt hc92 h2, if_neg g39, if_neg g92, if_neg g110]
          clear HR
          go_wp2_with fail
          refine (HIX.out _).mono ?_
          rintro e u1 ⟨rfl, rfl⟩
          go_wp2_with fail
          refine bodyPost_ret (v := .tuple #[.string ⟨#[]⟩, .int .i64 0, .int .i64 (p : Int)]) (by simp [results, Tryd.results24, go_sem]) rfl ⟨?_, HBW.out⟩
          rw [HX.out]
          rfl
      have e3 : ((text[p].toNat : Int) == 92) = false := byte_no (c := 92) rfl hc92
      obtain ⟨c, n, hd⟩ : ∃ c n, Lib.decodeGo (text.extract p text.size) = (c, n) := ⟨_, _, rfl⟩
      have hds := dec_size hlt
      have hlo := letP_other hlt hc10 hc92
      rw [hd] at hds hlo
      simp only at hds hlo
      have cD : Hid (∀ W, Lib.Utf8Tabs 0 1 W → Calls Tryd.prog 45 #[.string (text.extract p text.size)] W fun e w' => e = .returned (.tuple #[.int .i32 c, .int .i64 n]) ∧ Below W.heap.size W w') := fun W hW => by
        have := Tryd.utf8_DecodeRuneInString (text.extract p text.size) W hW
        rw [hd] at this
        exact this
      have hTW : Tabs B wr := HT.out.below (HBW.out.mono hB)
      have HTW := toHid hTW.now
      clear hd hTW
      by_cases hbad : c = 65533 ∧ n = 1
      · obtain ⟨rfl, rfl⟩ := hbad
        have HX : Hid (R = .error p) := by
          show _ = _
          rw [HR.out]
          unfold textF
          rw [if_neg (by rw [hb39]; decide), hlo, if_pos ⟨rfl, rfl⟩]
        clear HR hlo
        go_wp2_with fail
        refine (cD.out _ HTW.out).mono ?_
        rintro e u1 ⟨rfl, k1⟩
        have HB1 := toHid (below2 HBW.out k1)
        go_wp2_with fail
        refine bodyPost_ret (v := .tuple #[.string ⟨#[]⟩, .int .i64 0, .int .i64 (p : Int)]) (by simp [results, Tryd.results24, go_sem]) rfl ⟨?_, HB1.out⟩
        rw [HX.out]
        rfl
      · have hst : textF (f + 1) text p acc = textF f text (p + n) (acc ++ (text.extract p (p + n)).data.toList) := by
          conv => lhs; unfold textF
          rw [if_neg (by rw [hb39]; decide), hlo, if_neg hbad]
        have HST := toHid hst
        have hels : (text.extract p (p + n)).data.toList.length = n := by
          rw [ext_mid, List.length_take, List.length_drop, Array.length_toList]
          have : text.data.size = text.size := rfl
          omega
        have HELS := toHid hels
        have HAP := toHid (app_data A (text.extract p (p + n)) HA.out)
        have hpn : (p : Int) + (n : Int) ≤ text.size := by omega
        have hsl : ∀ wx : World, (Instr.slice 9 (.string text) (some (.int .i64 (p : Int))) (some (.int .i64 ((p : Int) + (n : Int)))) none).run Tryd.prog wx = .ok (.string (text.extract p (p + n))) wx := fun wx => by
          have h9 := run_slice_string (P := Tryd.prog) wx 9 text .i64 .i64 (p : Int) ((p : Int) + (n : Int)) Tryd.underlying9 (by omega) (by omega) (by omega)
          rw [h9]
          have e : ((p : Int) + (n : Int)).toNat = p + n := by omega
          rw [e, Int.toNat_natCast]
        clear hst hlo hels
        by_cases hc : c = 65533
        · have e4 : ((c : Int) == 65533) = true := by simp; omega
          have e5 : ((n : Int) == 1) = false := beq_eq_false_iff_ne.2 (by omega)
          go_wp2_with fail
          refine (cD.out _ HTW.out).mono ?_
          rintro e u1 ⟨rfl, k1⟩
          have HB1 := toHid (below2 HBW.out k1)
          go_wp2_with fail
          go_roundg f
          case measure => omega
          case rel => exact ⟨p + n, acc ++ (text.extract p (p + n)).data.toList, _, by omega, by omega, by rw [List.length_append, HELS.out]; omega, by rw [HR.out, HST.out], by go_num, rfl, HAP.out, HB1.out⟩
        · have e4 : ((c : Int) == 65533) = false := beq_eq_false_iff_ne.2 (by omega)
          go_wp2_with fail
          refine (cD.out _ HTW.out).mono ?_
          rintro e u1 ⟨rfl, k1⟩
          have HB1 := toHid (below2 HBW.out k1)
          go_wp2_with fail
          go_roundg f
          case measure => omega
          case rel => exact ⟨p + n, acc ++ (text.extract p (p + n)).data.toList, _, by omega, by omega, by rw [List.length_append, HELS.out]; omega, by rw [HR.out, HST.out], by go_num, rfl, HAP.out, HB1.out⟩
    · have hpe : p = text.size := by omega
      have d0 : ¬ (p : Int) < (text.size : Int) := by omega
      have HX : Hid (R = .error text.size) := by
        show _ = _
        rw [HR.out, hpe]
        unfold textF
        rw [if_neg (by rw [begins_none (Nat.le_refl _) 39 []]; decide), letP_end]
      clear HR
      go_wp2_with fail
      refine bodyPost_ret (v := .tuple #[.string ⟨#[]⟩, .int .i64 0, .int .i64 (text.size : Int)]) (by simp [results, Tryd.results24, go_sem]) rfl ⟨?_, HBW.out⟩
      rw [HX.out]
      rfl
end Go.Proofs.YtdbodcfodlbgnaaDoor
