/-
  What is proved here: what espalierref.NodeAt and EdgeAt answer: where the node or edge of a number lies, or nil.
-/
import Derived.Test.YtlhagimfbdkdfaaDoorGCheck3
namespace Go.Proofs.YtlhagimfbdkdfaaDoor
open Go.RowKit
set_option linter.unusedVariables false

/-- The answer: nil, or the place of the first of that number. -/
def NdAtEnd (L : List Nd) (a : Option Addr) (id : Int) (e : Ending) : Prop :=
  (id ∉ L.map Nd.id ∧ e = .returned (.pointer none)) ∨ ∃ (i : Nat) (x : Nd) (b off : Nat), a = some ⟨b, off, none⟩ ∧ L[i]? = some x ∧ x.id = id ∧ e = .returned (.pointer (some ⟨b, off + i * 3, none⟩))

set_option maxHeartbeats 4000000 in
set_option maxRecDepth 100000 in
theorem nodeAt_any (L : List Nd) (na : Option Addr) (nl nc : Nat) (ea : Option Addr) (el ec : Nat) (next id : Int) (w : World) (h : NodesAt w L na nl) :
    Calls Tryd.prog 11 #[.agg #[.slice na nl nc, .slice ea el ec, .int .i64 next], .int .i64 id] w fun e w' => NdAtEnd L na id e ∧ Below w.heap.size w w' := by
  obtain ⟨hl, hmx, hat⟩ := h
  have HL := toHid hl
  have HAT := toHid hat
  clear hl hat
  have b0 : Below w.heap.size w (w.alloc (.cells #[.slice na nl nc, .slice ea el ec, .int .i64 next] 25)) := (Below.refl _ _).alloc (Nat.le_refl _) _
  have hx := alloc_new w (.cells #[.slice na nl nc, .slice ea el ec, .int .i64 next] 25)
  have y0 : (w.alloc (.cells #[.slice na nl nc, .slice ea el ec, .int .i64 next] 25)).cell? ⟨w.heap.size, 0, none⟩ = some (.slice na nl nc) := cell_of hx 0
  have y1 : (w.alloc (.cells #[.slice na nl nc, .slice ea el ec, .int .i64 next] 25)).cell? ⟨w.heap.size, 1, none⟩ = some (.slice ea el ec) := cell_of hx 1
  have B0 := toHid b0
  clear hx b0
  go_enter Tryd.func11, Tryd.ntmps11
  go_wp2_with fail
  go_loopg [9] nl (fun g s9 wr => ∃ i : Nat, i ≤ nl ∧ nl - i ≤ g ∧ s9 = .int .i64 i ∧ wr = w.alloc (.cells #[.slice na nl nc, .slice ea el ec, .int .i64 next] 25) ∧ (∀ k x, k < i → L[k]? = some x → x.id ≠ id))
  case atStart => exact ⟨0, Nat.zero_le _, by omega, rfl, rfl, fun k x hk => absurd hk (Nat.not_lt_zero _)⟩
  case round =>
    obtain ⟨i, hi, hg, rfl, rfl, hno⟩ := hrel
    have HNO := toHid hno
    clear hno
    by_cases hlt : i < nl
    · obtain ⟨b, off, ha, hb, hc⟩ := HAT.out (by omega)
      subst ha
      obtain ⟨x, hx, _⟩ := drop_get (L := L) (i := i) (by have := HL.out; omega)
      have c0 := (hc i x hx).1
      have d0 := (B0.out.cell (p := ⟨b, off + i * 3, none⟩) hb).trans c0
      have HX := toHid hx
      clear hc hx c0
      by_cases hid : x.id = id
      · have hid' : (x.id == id) = true := by simpa using hid
        have HID := toHid hid
        clear hid
        go_wp2_with fail
        go_ret
        exact ⟨.inr ⟨i, x, b, off, rfl, HX.out, HID.out, rfl⟩, B0.out⟩
      · have hid' : (x.id == id) = false := by simpa using hid
        have HID := toHid hid
        clear hid
        go_wp2_with fail
        go_roundg (nl - (i + 1))
        case measure => omega
        case rel =>
          refine ⟨i + 1, by omega, by omega, by go_num, rfl, fun k y hk hy => ?_⟩
          by_cases hki : k = i
          · subst hki
            rw [HX.out] at hy
            injection hy with hy
            subst hy
            exact HID.out
          · exact HNO.out k y (by omega) hy
    · have HN : Hid (id ∉ L.map Nd.id) := by
        intro hin
        obtain ⟨y, hy, hyi⟩ := List.mem_map.1 hin
        obtain ⟨k, hk⟩ := List.getElem?_of_mem hy
        have hkl := (List.getElem?_eq_some_iff.1 hk).1
        exact HNO.out k y (by have := HL.out; omega) hk hyi
      clear HNO
      go_wp2_with fail
      go_ret
      exact ⟨.inl ⟨HN.out, rfl⟩, B0.out⟩

/-- The answer: nil, or the place of the first of that number. -/
def EdAtEnd (L : List Ed) (a : Option Addr) (id : Int) (e : Ending) : Prop :=
  (id ∉ L.map Ed.id ∧ e = .returned (.pointer none)) ∨ ∃ (i : Nat) (x : Ed) (b off : Nat), a = some ⟨b, off, none⟩ ∧ L[i]? = some x ∧ x.id = id ∧ e = .returned (.pointer (some ⟨b, off + i * 5, none⟩))

end Go.Proofs.YtlhagimfbdkdfaaDoor
