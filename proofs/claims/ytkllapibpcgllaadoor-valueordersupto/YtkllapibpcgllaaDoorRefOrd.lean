/-
  What is proved here: espalierref.OrderOf answers the order of two trees that lie in memory; so does bytes.Compare of two rows of bytes.
-/
import Derived.Test.YtkllapibpcgllaaDoorSameW
import Derived.Lib.BytesEntry
import Derived.Lib.ConvBytes
namespace Go.Proofs.YtkllapibpcgllaaDoor
open Go.RowKit
set_option linter.unusedVariables false

theorem compareBytes_eq : ∀ x y : List UInt8, Lib.compareBytes x y = cmpB x y
  | [], [] => rfl
  | [], _ :: _ => rfl
  | _ :: _, [] => rfl
  | a :: x, b :: y => by
    unfold Lib.compareBytes cmpB lex cmpI
    rw [compareBytes_eq x y]
    rcases Nat.lt_trichotomy a.toNat b.toNat with h | h | h
    · have h1 : a < b := UInt8.lt_iff_toNat_lt.2 h
      have h2 : (a.toNat : Int) < b.toNat := by omega
      simp [h1, h2]
    · have h1 : a = b := UInt8.toNat_inj.1 h
      subst h1
      have h2 : ¬ a < a := UInt8.lt_irrefl a
      simp [h2]
    · have h1 : ¬ a < b := fun h' => by have := UInt8.lt_iff_toNat_lt.1 h'; omega
      have h2 : ¬ (a.toNat : Int) < b.toNat := by omega
      have h3 : (b.toNat : Int) < a.toNat := by omega
      have h4 : b < a := UInt8.lt_iff_toNat_lt.2 h
      simp [h1, h2, h3, h4]

/-- A row of bytes lies there. -/
def BytesAt (w : World) (b : Nat) (s : ByteArray) : Prop := ∀ j, j < s.size → w.cell? ⟨b, j, none⟩ = some (.int .u8 (s.data.toList.getD j 0).toNat)

theorem run_bytes {P : Program} (w : World) (b : Nat) (s : ByteArray) (c : Nat) (h : BytesAt w b s) : (Extern.Bytes.bytesOf (.slice (some ⟨b, 0, none⟩) s.size c)).run P w = .ok s w := by
  have hl := Lib.run_loadBytesX (P := P) w (s.data.toList.map fun x => (x.toNat : Int)) ⟨b, 0, none⟩ .empty (fun j x hj => by
    simp only [List.getElem?_map, Option.map_eq_some_iff] at hj
    obtain ⟨y, hy, rfl⟩ := hj
    have hjl : j < s.data.toList.length := (List.getElem?_eq_some_iff.1 hy).1
    rw [add_none, Nat.zero_add, h j (by simpa using hjl), List.getD_eq_getElem?_getD, hy]
    rfl)
  have e1 : (s.data.toList.map fun x => (x.toNat : Int)).length = s.size := by simp
  rw [e1] at hl
  have e2 : (⟨ByteArray.empty.data ++ (Lib.bytesOf (s.data.toList.map fun x => (x.toNat : Int))).toArray⟩ : ByteArray) = s := by
    apply ByteArray.ext
    show (#[] : Array UInt8) ++ (Lib.bytesOf (s.data.toList.map fun x => (x.toNat : Int))).toArray = s.data
    simp only [Lib.bytesOf, List.map_map]
    have e3 : ((fun n : Int => UInt8.ofNat n.toNat) ∘ fun x : UInt8 => (x.toNat : Int)) = id := by funext x; simp
    have e4 : (List.map ((fun n : Int => n.toNat.toUInt8) ∘ fun x : UInt8 => (x.toNat : Int)) s.data.toList) = s.data.toList := by rw [show ((fun n : Int => n.toNat.toUInt8) ∘ fun x : UInt8 => (x.toNat : Int)) = id from e3, List.map_id]
    rw [e4]
    simp
  rw [e2] at hl
  exact hl

theorem run_compareSlices {P : Program} (w : World) (b b' : Nat) (s s' : ByteArray) (c c' : Nat) (h : BytesAt w b s) (h' : BytesAt w b' s') :
    (Extern.BytealgCompare.compare #[.slice (some ⟨b, 0, none⟩) s.size c, .slice (some ⟨b', 0, none⟩) s'.size c']).run P w = .ok (.int .i64 (cmpS s s')) w := by
  change Sem.run P (do pure (goInt (Extern.BytealgCompare.cmp (← Extern.Bytes.bytesOf (.slice (some ⟨b, 0, none⟩) s.size c)) (← Extern.Bytes.bytesOf (.slice (some ⟨b', 0, none⟩) s'.size c'))))) w = _
  simp only [Sem.run_bind, run_bytes w b s c h, run_bytes w b' s' c' h', Sem.run_pure, Result.andThen]
  rw [Lib.cmp_eq, compareBytes_eq, cmpS_eq]
  simp only [ByteArray.toList_eq]
  rfl

set_option maxHeartbeats 1000000 in
set_option maxRecDepth 100000 in
theorem bytesCompare (w : World) (b b' : Nat) (s s' : ByteArray) (c c' : Nat) (h : BytesAt w b s) (h' : BytesAt w b' s') :
    Calls Tryd.prog 28 #[.slice (some ⟨b, 0, none⟩) s.size c, .slice (some ⟨b', 0, none⟩) s'.size c'] w fun e w' => e = .returned (.int .i64 (cmpS s s')) ∧ w' = w := by
  have H := toHid h
  have H' := toHid h'
  clear h h'
  go_enter Tryd.func28, Tryd.ntmps28
  go_wp2_with fail
  rw [run_callFunc_extern Tryd.func43 (by kernel_rfl) (by kernel_rfl) (by kernel_rfl) (e := Extern.BytealgCompare.compare) (by kernel_rfl), run_compareSlices w b b' s s' c c' H.out H'.out]
  simp only [Result.andThen]
  rw [Oper.upon_value]
  go_wp2_with fail
  go_ret
  exact ⟨rfl, rfl⟩

theorem bytesWorld_below (w : World) (e : TypeId) (s : ByteArray) : Below w.heap.size w (Lib.bytesWorld w e s) :=
  ⟨rfl, rfl, rfl, by rw [Lib.bytesWorld_size]; omega, fun k hk => Lib.bytesWorld_at_old w e s k hk⟩

set_option maxHeartbeats 2000000 in
set_option maxRecDepth 100000 in
/-- Values whose kinds, numbers or texts differ. -/
theorem order_heads (k n : Int) (s : ByteArray) (a : Option Addr) (l c : Nat) (k' n' : Int) (s' : ByteArray) (a' : Option Addr) (l' c' : Nat) (w : World) (h : cmpP k n s k' n' s' ≠ 0) :
    Calls Tryd.prog 12 #[.agg #[.int .i64 k, .int .i64 n, .string s, .slice a l c], .agg #[.int .i64 k', .int .i64 n', .string s', .slice a' l' c']] w fun e w' => e = .returned (.int .i64 (cmpP k n s k' n' s')) ∧ Below w.heap.size w w' := by
  obtain ⟨z, hz⟩ : ∃ z, cmpP k n s k' n' s' = z := ⟨_, rfl⟩
  rw [hz] at h ⊢
  have hb : Below w.heap.size w ((w.alloc (.cells #[.int .i64 k, .int .i64 n, .string s, .slice a l c] 24)).alloc (.cells #[.int .i64 k', .int .i64 n', .string s', .slice a' l' c'] 24)) := ((Below.refl _ _).alloc (Nat.le_refl _) _).alloc (by simp) _
  unfold cmpP at hz
  by_cases h1 : k < k'
  · have e : z = -1 := by rw [← hz]; simp [cmpI, h1]
    have E := toHid e
    clear e h hz
    go_enter Tryd.func12, Tryd.ntmps12
    go_wp2_with fail
    go_ret
    exact ⟨ret_int E.out.symm, hb⟩
  · by_cases h2 : k' < k
    · have e : z = 1 := by rw [← hz]; simp [cmpI, h1, h2]
      have E := toHid e
      clear e h hz
      go_enter Tryd.func12, Tryd.ntmps12
      go_wp2_with fail
      go_ret
      exact ⟨ret_int E.out.symm, hb⟩
    · obtain rfl : k = k' := by omega
      rw [cmpI_self, if_pos rfl] at hz
      by_cases h3 : n < n'
      · have e : z = -1 := by rw [← hz]; simp [cmpI, h3]
        have E := toHid e
        clear e h hz h1 h2
        go_enter Tryd.func12, Tryd.ntmps12
        go_wp2_with fail
        go_ret
        exact ⟨ret_int E.out.symm, hb⟩
      · by_cases h4 : n' < n
        · have e : z = 1 := by rw [← hz]; simp [cmpI, h3, h4]
          have E := toHid e
          clear e h hz h1 h2
          go_enter Tryd.func12, Tryd.ntmps12
          go_wp2_with fail
          go_ret
          exact ⟨ret_int E.out.symm, hb⟩
        · obtain rfl : n = n' := by omega
          rw [cmpI_self, if_pos rfl] at hz
          have hs : (s.toList == s'.toList) = false := by
            rw [beq_eq_false_iff_ne]
            intro e
            rw [cmpS_eq, e, cmpB_self] at hz
            exact h hz.symm
          have HZ := toHid hz
          have kc : ∀ (w : World) (s : ByteArray), (convert 9 50 (.string s)).run Tryd.prog w = .ok (.slice (some ⟨w.heap.size, 0, none⟩) s.size (grownCap w s.size 0 5)) (Lib.bytesWorld w 5 s) := fun w s => Lib.run_convert_string_bytes w _ _ _ s Tryd.underlying9 Tryd.underlying50 Tryd.underlying5
          have q : (Lib.bytesWorld ((w.alloc (.cells #[.int .i64 k, .int .i64 n, .string s, .slice a l c] 24)).alloc (.cells #[.int .i64 k, .int .i64 n, .string s', .slice a' l' c'] 24)) 5 s).cell? ⟨w.heap.size + 1, 2, none⟩ = some (.string s') := by
            rw [Lib.bytesWorld_old _ _ _ _ (by simp)]
            exact cell_of (alloc_two w _ _) 2
          have sW : ((w.alloc (.cells #[.int .i64 k, .int .i64 n, .string s, .slice a l c] 24)).alloc (.cells #[.int .i64 k, .int .i64 n, .string s', .slice a' l' c'] 24)).heap.size = w.heap.size + 1 + 1 := by simp
          clear h hz h1 h2 h3 h4
          go_enter Tryd.func12, Tryd.ntmps12
          go_wp2_with fail
          clear kc q
          have B0 := hb
          generalize ((w.alloc (.cells #[.int .i64 k, .int .i64 n, .string s, .slice a l c] 24)).alloc (.cells #[.int .i64 k, .int .i64 n, .string s', .slice a' l' c'] 24)) = W at B0 sW ⊢
          have hA : BytesAt (Lib.bytesWorld (Lib.bytesWorld W 5 s) 5 s') (w.heap.size + 1 + 1) s := fun j hj => by
            rw [Lib.bytesWorld_old _ _ _ _ (by rw [Lib.bytesWorld_size]; show w.heap.size + 1 + 1 < _; omega), ← sW]
            exact Lib.bytesWorld_cell W _ s j hj
          have hB : BytesAt (Lib.bytesWorld (Lib.bytesWorld W 5 s) 5 s') (Lib.bytesWorld W 5 s).heap.size s' := fun j hj => Lib.bytesWorld_cell _ _ s' j hj
          have k2 : Below W.heap.size W (Lib.bytesWorld (Lib.bytesWorld W 5 s) 5 s') := below2 (bytesWorld_below W _ s) (bytesWorld_below _ _ s')
          refine (bytesCompare _ _ _ s s' _ _ hA hB).mono ?_
          rintro e w2 ⟨rfl, rfl⟩
          rw [HZ.out]
          go_wp2_with fail
          go_ret
          exact ⟨rfl, below2 B0 k2⟩
end Go.Proofs.YtkllapibpcgllaaDoor
