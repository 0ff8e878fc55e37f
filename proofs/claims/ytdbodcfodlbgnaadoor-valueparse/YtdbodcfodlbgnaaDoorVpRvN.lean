/-
  What is proved here: the rest of a text: its bytes, and a word of it.
-/
import Derived.Test.YtdbodcfodlbgnaaDoorVpRv1
import Derived.Test.YtdbodcfodlbgnaaDoorVpDig
import Derived.Test.YtdbodcfodlbgnaaDoorBgText1
namespace Go.Proofs.YtdbodcfodlbgnaaDoor
open Go.RowKit
set_option linter.unusedVariables false

theorem rest_at {text : ByteArray} {p i : Nat} (h : p + i < text.size) : ∃ h2 : i < (text.extract p text.size).size, (text.extract p text.size)[i] = text[p + i] := by
  have hs : (text.extract p text.size).size = text.size - p := by rw [ByteArray.size_extract]; omega
  refine ⟨by omega, ?_⟩
  have e : (text.extract p text.size).data.toList[i]? = text.data.toList[p + i]? := by rw [ext_drop, List.getElem?_drop]
  have h1 : i < (text.extract p text.size).data.toList.length := by rw [Array.length_toList]; show i < (text.extract p text.size).size; omega
  have h2 : p + i < text.data.toList.length := by rw [Array.length_toList]; exact h
  rw [List.getElem?_eq_getElem h1, List.getElem?_eq_getElem h2] at e
  injection e

theorem rest_word {text : ByteArray} {p n : Nat} (h : p + n ≤ text.size) : (text.extract p text.size).extract 0 n = text.extract p (p + n) := by
  apply ByteArray.ext
  apply Array.toList_inj.1
  have e1 := ext_mid (text.extract p text.size) 0 n
  rw [Nat.zero_add, ext_drop, List.drop_zero] at e1
  rw [e1, ext_mid]

theorem BG.IntAt.heap {w w' : World} (e : w'.heap = w.heap) {ib : Nat} {z : Int} (h : BG.IntAt w ib z) : BG.IntAt w' ib z := by
  obtain ⟨neg, a, l, c, ws, h1, h2, h3⟩ := h
  exact ⟨neg, a, l, c, ws, by rw [e]; exact h1, BG.WAt.keep h2 (by rw [e]; exact Nat.le_refl _) (fun b off _ => by rw [e]), h3⟩
end Go.Proofs.YtdbodcfodlbgnaaDoor
