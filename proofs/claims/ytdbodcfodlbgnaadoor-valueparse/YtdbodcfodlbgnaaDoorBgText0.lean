/-
  What is proved here: espalierbig's String of a number that an int64 can hold: its decimal digits, a sign ahead if it is below nought.
-/
import Derived.Test.YtdbodcfodlbgnaaDoorBgSmall
import Derived.Test.YtdbodcfodlbgnaaDoorQVAD
import Derived.Lib.ConvBytes
namespace Go.Proofs.YtdbodcfodlbgnaaDoor.BG
open Go.RowKit
set_option linter.unusedVariables false

/-- The decimal digits of a number, the last first; of nought none. -/
def revD (v : Nat) : List UInt8 := if h : v = 0 then [] else UInt8.ofNat (48 + v % 10) :: revD (v / 10)
  termination_by v
  decreasing_by omega

theorem revD_zero : revD 0 = [] := by rw [revD, dif_pos rfl]
theorem revD_pos {v : Nat} (h : 0 < v) : revD v = UInt8.ofNat (48 + v % 10) :: revD (v / 10) := by rw [revD, dif_neg (by omega)]

theorem revD_dec (v : Nat) (h : 0 < v) : (revD v).reverse = Lib.decDigits v := by
  induction v using Nat.strongRecOn with
  | _ v ih =>
    rw [revD_pos h, List.reverse_cons]
    by_cases h1 : v < 10
    · rw [show v / 10 = 0 from by omega, revD_zero, Lib.decDigits, dif_pos h1, show v % 10 = v from by omega]
      rfl
    · rw [ih (v / 10) (by omega) (by omega)]
      conv => rhs; rw [Lib.decDigits, dif_neg h1]

theorem revD_len : ∀ (k v : Nat), v < 10 ^ k → (revD v).length ≤ k
  | 0, v, h => by
    have : v = 0 := by simp at h; exact h
    subst this
    rw [revD_zero]
    exact Nat.le_refl _
  | k + 1, v, h => by
    by_cases h0 : v = 0
    · subst h0
      rw [revD_zero]
      simp
    · rw [revD_pos (by omega), List.length_cons]
      have := revD_len k (v / 10) (by rw [Nat.pow_succ] at h; omega)
      omega

/-- A row that is turned around, behind i changes of places. -/
def RevI (L cur : List UInt8) (i : Nat) : Prop := cur.length = L.length ∧ ∀ k, k < L.length → cur[k]? = if k < i ∨ L.length - 1 - i < k then L[L.length - 1 - k]? else L[k]?

theorem RevI.start (L : List UInt8) : RevI L L 0 := ⟨rfl, fun k hk => by rw [if_neg (by omega)]⟩

theorem RevI.step {L cur : List UInt8} {i : Nat} (h : RevI L cur i) (hi : i + i + 1 < L.length) {x y : UInt8} (hx : cur[i]? = some x) (hy : cur[L.length - 1 - i]? = some y) : RevI L ((cur.set i y).set (L.length - 1 - i) x) (i + 1) := by
  obtain ⟨h1, h2⟩ := h
  refine ⟨by simp [h1], fun k hk => ?_⟩
  have ax := h2 i (by omega)
  have ay := h2 (L.length - 1 - i) (by omega)
  rw [if_neg (by omega), hx] at ax
  rw [if_neg (by omega), hy] at ay
  by_cases k1 : k = L.length - 1 - i
  · subst k1
    rw [List.getElem?_set_self (by simp; omega), if_pos (by omega), show L.length - 1 - (L.length - 1 - i) = i from by omega, ← ax]
  · rw [List.getElem?_set_ne (by omega)]
    by_cases k2 : k = i
    · subst k2
      rw [List.getElem?_set_self (by omega), if_pos (by omega), ← ay]
    · rw [List.getElem?_set_ne (by omega), h2 k hk]
      by_cases k3 : k < i ∨ L.length - 1 - i < k
      · rw [if_pos k3, if_pos (by omega)]
      · rw [if_neg k3, if_neg (by omega)]

theorem RevI.done {L cur : List UInt8} {i : Nat} (h : RevI L cur i) (hi : L.length ≤ i + i + 1) : cur = L.reverse := by
  obtain ⟨h1, h2⟩ := h
  apply List.ext_getElem?
  intro k
  by_cases hk : k < L.length
  · rw [h2 k hk, List.getElem?_reverse hk]
    by_cases k3 : k < i ∨ L.length - 1 - i < k
    · rw [if_pos k3]
    · rw [if_neg k3, show L.length - 1 - k = k from by omega]
  · rw [List.getElem?_eq_none (by omega), List.getElem?_eq_none (by simp; omega)]

theorem byte_set (cur : List UInt8) (i : Nat) (y : UInt8) : (Lib.byteCells cur).set i (.int .u8 (y.toNat : Int)) = Lib.byteCells (cur.set i y) := by simp [Lib.byteCells]

theorem out_set {B : Nat} {w : World} {g n cap : Nat} {cur : List UInt8} (h : Out B w (.slice (some ⟨g, 0, none⟩) n cap) cur) (hn : cur.length = n) (i : Nat) (y : UInt8) : Out B (w.setCell ⟨g, i, none⟩ (.int .u8 (y.toNat : Int))) (.slice (some ⟨g, 0, none⟩) n cap) (cur.set i y) := by
  subst hn
  have := (World.ownsRow.stored h i (.int .u8 (y.toNat : Int))).1
  rw [byte_set] at this
  unfold Out
  rw [List.length_set]
  exact this

theorem out_at {B : Nat} {w : World} {g n cap : Nat} {cur : List UInt8} (h : Out B w (.slice (some ⟨g, 0, none⟩) n cap) cur) {i : Nat} {x : UInt8} (hx : cur[i]? = some x) : w.cell? ⟨g, i, none⟩ = some (.int .u8 (x.toNat : Int)) := by
  have := World.ownsRow.cells h (g := g) rfl i (.int .u8 (x.toNat : Int)) (by rw [Lib.byteCells, List.getElem?_map, hx]; rfl)
  by_cases h0 : i = 0
  · subst h0; simpa [Addr.add] using this
  · simpa [Addr.add, h0] using this

theorem out_free {B : Nat} {w : World} {g n cap : Nat} {cur : List UInt8} (h : Out B w (.slice (some ⟨g, 0, none⟩) n cap) cur) (hn : cur.length = n) (i : Nat) : w.frozen? ⟨g, i, none⟩ = false := by
  subst hn
  exact World.ownsRow.frozenAt h i

/-- What the call has written is read as a text. -/
theorem out_str {B : Nat} {w : World} {g n cap : Nat} {Q : List UInt8} (h : Out B w (.slice (some ⟨g, 0, none⟩) n cap) Q) (hn : Q.length = n) : (convert 48 9 (.slice (some ⟨g, 0, none⟩) n cap)).run Tryd.prog w = .ok (.string ⟨Q.toArray⟩) w := by
  subst hn
  refine run_convert_bytes_back (P := Tryd.prog) w 48 9 BE ⟨g, 0, none⟩ cap Q Tryd.underlying48 Tryd.underlying5 Tryd.underlying9 (fun j hj => ?_)
  have := World.ownsRow.cells h (g := g) rfl j (.int .u8 (Q[j].toNat : Int)) (by simp [Lib.byteCells, hj])
  exact this

theorem WAt.keep {w w' : World} {ws : List Nat} {a : Option Addr} {l : Nat} (h : WAt w ws a l) (hs : w.heap.size ≤ w'.heap.size) (hk : ∀ b off, a = some ⟨b, off, none⟩ → w'.heap[b]? = w.heap[b]?) : WAt w' ws a l := by
  obtain ⟨h1, h2, h3, h4⟩ := h
  refine ⟨h1, h2, h3, fun h0 => ?_⟩
  obtain ⟨b, off, ha, hb, hc⟩ := h4 h0
  exact ⟨b, off, ha, by omega, fun i x hx => (World.cell?_of_block (a := ⟨b, off + i, none⟩) (hk b off ha)).trans (hc i x hx)⟩

set_option maxHeartbeats 2000000 in
set_option maxRecDepth 100000 in
theorem twin_any (ws : List Nat) (a : Option Addr) (l c : Nat) (w : World) (hA : WAt w ws a l) (hl : l ≤ 510) (hl0 : 0 < l) :
    Calls Tryd.prog 67 #[.slice a l c] w fun e w' => (∃ g cap, e = .returned (.slice (some ⟨g, 0, none⟩) l cap) ∧ WAt w' ws (some ⟨g, 0, none⟩) l) ∧ Below w.heap.size w w' := by
  have HXL := toHid hA.1
  have HXW := toHid hA.2.2.1
  obtain ⟨ab, ao, rfl, hab, hac⟩ := hA.2.2.2 hl0
  have HAC := toHid hac
  obtain ⟨iu, hi0, hiz, his, hib⟩ := info_u32
  have HI0 := toHid hi0
  have HIZ := toHid hiz
  have HIS := toHid his
  have HIB := toHid hib
  have HBY : (0 + l) * 4 ≤ 140737488355328 := by omega
  have HBM : 0 + l ≤ maxLen := by unfold maxLen; omega
  have HNW : Hid (∀ j u, (rowU ws)[j]? = some u → w.cell? ((⟨ab, ao, none⟩ : Addr).add j) = some u) := fun j u hu => by
    rw [rowU, List.getElem?_map] at hu
    obtain ⟨x, hx, rfl⟩ := Option.map_eq_some_iff.1 hu
    have := hac j x hx
    by_cases h0 : j = 0
    · subst h0; simpa [Addr.add] using this
    · simpa [Addr.add, h0] using this
  have HLN : (rowU ws).length = l * 1 := by rw [rowU, List.length_map, ← HXL.out]; omega
  have HON : Hid (∀ u ∈ rowU ws, u.oneCell' = true) := fun u hu => by
    rw [rowU] at hu
    obtain ⟨x, _, rfl⟩ := List.mem_map.1 hu
    rfl
  clear hA hac hi0 hiz his hib
  go_enter Tryd.func67, Tryd.ntmps67
  go_wp2_with (at_builtin; refine wpList_append_lies _ rfl _ _ 56 rfl w.heap.size 93 iu _ 1 4 Tryd.underlying56 HI0.out HIZ.out HIS.out HIB.out rfl (by omega) (.slice none 0 0) 0 [] rfl (World.ownsRow_nil _ _ _ _) ⟨ab, ao, none⟩ l c (rowU ws) rfl HLN HNW.out HON.out hl0 HBM HBY (Nat.le_refl _) w.heap.size rfl ?_)
  intro gg cap w3 hown3 hgrow hat hlt
  have hb3 : Below w.heap.size w w3 := (Below.refl _ _).grown hgrow (Nat.le_refl _) (fun k hk => by simp [Value.ownBlock] at hk)
  have hown4 : w3.ownsRow w.heap.size 93 1 (.slice (some ⟨gg, 0, none⟩) l cap) l (rowU ws) := by
    first | exact hown3 | simpa using hown3
  have HW3 := toHid (wat_of_row hown4 HXW.out (by omega)).1
  have HB3 := toHid hb3
  clear hown3 hown4 hgrow hat hlt hb3
  go_wp2_with fail
  try rw [show (0 : Nat) + l = l from by omega]
  first
    | (go_ret; exact ⟨⟨gg, cap, rfl, HW3.out⟩, HB3.out⟩)
    | exact bodyPost_ret (v := .slice (some ⟨gg, 0, none⟩) l cap) (by simp [results, Tryd.results67, go_sem]) rfl ⟨⟨gg, cap, rfl, HW3.out⟩, HB3.out⟩

end Go.Proofs.YtdbodcfodlbgnaaDoor.BG
