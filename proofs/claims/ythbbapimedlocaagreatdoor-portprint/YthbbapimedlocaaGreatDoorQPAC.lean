/-
  What is proved here: what the texts ZBuild, ZNew prove, in one text.
-/
import Derived.Test.YthbbapimedlocaaGreatDoorQPAB
import Derived.Deep.WholeRow
import Derived.Lib.ConvBytes
namespace Go.Proofs.YthbbapimedlocaaGreatDoor
open Go.RowKit
set_option linter.unusedVariables false

/-- The six texts lie at a place. -/
structure SixAt (w : World) (r : Nat) : Prop where
  s0 : w.cell? ⟨r, 0, none⟩ = some (.string ⟨#[92]⟩)
  s1 : w.cell? ⟨r, 1, none⟩ = some (.string ⟨#[92, 92]⟩)
  s2 : w.cell? ⟨r, 2, none⟩ = some (.string ⟨#[39]⟩)
  s3 : w.cell? ⟨r, 3, none⟩ = some (.string ⟨#[92, 39]⟩)
  s4 : w.cell? ⟨r, 4, none⟩ = some (.string ⟨#[10]⟩)
  s5 : w.cell? ⟨r, 5, none⟩ = some (.string ⟨#[92, 110]⟩)

theorem info_str0 : (Tryz.prog.info? 9).map (fun i => (i.zero, i.size, i.bytes)) = some (some (.string ⟨#[]⟩), 1, 16) := by kernel_rfl
theorem info_str : ∃ i, Tryz.prog.info? 9 = some i ∧ i.zero = some (.string ⟨#[]⟩) ∧ i.size = 1 ∧ i.bytes = 16 := by
  have h := info_str0
  cases hi : Tryz.prog.info? 9 with
  | none => rw [hi] at h; cases h
  | some i =>
    rw [hi] at h
    injection h with h
    injection h with h1 h
    injection h with h2 h3
    exact ⟨i, rfl, h1, h2, h3⟩

theorem nil_eq (w : World) : (binOp .eql 38 (.slice none 0 0) (.slice none 0 0)).run Tryz.prog w = .ok (.bool true) w := by kernel_rfl
theorem nil_ne (w : World) : (binOp .neq 38 (.slice none 0 0) (.slice none 0 0)).run Tryz.prog w = .ok (.bool false) w := by kernel_rfl
theorem some_ne (w : World) (a : Addr) (l c : Nat) : (binOp .neq 38 (.slice (some a) l c) (.slice none 0 0)).run Tryz.prog w = .ok (.bool true) w := by kernel_rfl

/-- Two bytes lie at the head of a block. -/
def TwoAt (w : World) (g : Nat) (x : UInt8) : Prop := w.cell? ⟨g, 0, none⟩ = some (.int .u8 92) ∧ w.cell? ⟨g, 1, none⟩ = some (.int .u8 (x.toNat : Int))

/-- The table: which bytes are replaced, and by what behind the backslash; O: the block of the row of texts. -/
def TabAt (B p : Nat) (w : World) (C : Array Value) (O : Option Nat) (D : List (Nat × UInt8)) : Prop :=
  C.size = 257 ∧ ∀ c : Nat, c < 256 → match D.find? (fun d => d.1 == c) with
    | some d => ∃ g cap, C[c]? = some (.slice (some ⟨g, 0, none⟩) 2 cap) ∧ B ≤ g ∧ g ≠ p ∧ g < w.heap.size ∧ O ≠ some g ∧ TwoAt w g d.2
    | none => C[c]? = some (.slice none 0 0)

/-- What the loop has made when the bytes of D are in the table and their texts T are in the row. -/
def RepSt (B p : Nat) (w0 w : World) (D : List (Nat × UInt8)) (T : List Value) : Prop :=
  Below B w0 w ∧ ∃ C v, w.heap[p]? = some (.cells C 195 (0, 0)) ∧ TabAt B p w C v.ownBlock D ∧ C[256]? = some v ∧ w.ownsRow B 9 1 v T.length T ∧ v.ownBlock ≠ some p

theorem set_hereZ {w : World} {b : Nat} {cs : Array Value} {t : TypeId} (h : w.heap[b]? = some (.cells cs t (0, 0))) (o : Nat) (v : Value) : (w.setCell ⟨b, o, none⟩ v).heap[b]? = some (.cells (cs.setIfInBounds o v) t (0, 0)) := by
  simp [World.setCell, Array.getElem?_modify, h]

theorem setCell_sizeZ (w : World) (a : Addr) (v : Value) : (w.setCell a v).heap.size = w.heap.size := by simp [World.setCell]

theorem row_keepZ {w w' : World} {B n size : Nat} {e : TypeId} {v : Value} {xs : List Value} (h : w.ownsRow B e size v n xs) (hk : ∀ g, v.ownBlock = some g → g < w.heap.size → w'.heap[g]? = w.heap[g]?) : w'.ownsRow B e size v n xs := by
  refine ⟨h.1, ?_⟩
  rcases h.2 with h0 | ⟨g, cap, cur, h0, h1, h2, h3⟩
  · exact .inl h0
  · exact .inr ⟨g, cap, cur, h0, h1, by rw [hk g (by rw [h0]; rfl) (Array.getElem?_eq_some_iff.1 h2).1]; exact h2, h3⟩

theorem below_bytes {B : Nat} {a w : World} {e : TypeId} {s : ByteArray} (h : Below B a w) (hB : B ≤ w.heap.size) : Below B a (Lib.bytesWorld w e s) := by
  have k : Below B a (w.drew.alloc (.cells (Lib.bytesCells w e s) e)) := h.drew.alloc hB _
  exact ⟨k.os, k.tape, k.output, by rw [Lib.bytesWorld_size]; exact Nat.le_trans h.size (Nat.le_succ _), fun i hi => (Lib.bytesWorld_at_old w e s i (by omega)).trans (h.block i hi)⟩

/-- One byte more: its text is behind the row, its two bytes are in the table. -/
theorem rep_step {B p : Nat} {w0 wr wa w5 : World} {C : Array Value} {v v' s : Value} {D : List (Nat × UInt8)} {T : List Value} (c : Nat) (x : UInt8) (cap : Nat) (hBp : B ≤ p)
    (hbl : Below B w0 wr) (hp : wr.heap[p]? = some (.cells C 195 (0, 0))) (ht : TabAt B p wr C v.ownBlock D) (hown : wr.ownsRow B 9 1 v T.length T) (hne : v.ownBlock ≠ some p)
    (ka : Below wr.heap.size wr wa) (o1 : w5.ownsRow B 9 1 v' (T.length + 1) (T ++ [s])) (o2 : wa.grownBy w5 v.ownBlock) (o3 : v'.ownBlock = v.ownBlock ∨ v'.ownBlock = some wa.heap.size) (hc : c < 256) :
    w5.heap[p]? = some (.cells C 195 (0, 0)) ∧ (Lib.bytesWorld (w5.setCell ⟨p, 256, none⟩ v') 5 ⟨#[92, x]⟩).heap[p]? = some (.cells (C.setIfInBounds 256 v') 195 (0, 0)) ∧
    RepSt B p w0 ((Lib.bytesWorld (w5.setCell ⟨p, 256, none⟩ v') 5 ⟨#[92, x]⟩).setCell ⟨p, c, none⟩ (.slice (some ⟨w5.heap.size, 0, none⟩) 2 cap)) ((c, x) :: D) (T ++ [s]) := by
  have hpl : p < wr.heap.size := (Array.getElem?_eq_some_iff.1 hp).1
  have hB : B ≤ wr.heap.size := Nat.le_trans hBp (Nat.le_of_lt hpl)
  have hpa : wa.heap[p]? = some (.cells C 195 (0, 0)) := (ka.block p hpl).trans hp
  have hs1 : wr.heap.size ≤ wa.heap.size := ka.size
  have hs2 : wa.heap.size ≤ w5.heap.size := o2.size
  have hp5 : w5.heap[p]? = some (.cells C 195 (0, 0)) := (o2.block p (by omega) (fun e => hne e.symm)).trans hpa
  have hp6 := set_hereZ hp5 256 v'
  have z6 : (w5.setCell ⟨p, 256, none⟩ v').heap.size = w5.heap.size := setCell_sizeZ _ _ _
  have hp7 : (Lib.bytesWorld (w5.setCell ⟨p, 256, none⟩ v') 5 ⟨#[92, x]⟩).heap[p]? = _ := (Lib.bytesWorld_at_old _ _ _ p (by rw [z6]; omega)).trans hp6
  have z7 : (Lib.bytesWorld (w5.setCell ⟨p, 256, none⟩ v') 5 ⟨#[92, x]⟩).heap.size = w5.heap.size + 1 := by rw [Lib.bytesWorld_size, z6]
  have old : ∀ i, i < w5.heap.size → i ≠ p → ((Lib.bytesWorld (w5.setCell ⟨p, 256, none⟩ v') 5 ⟨#[92, x]⟩).setCell ⟨p, c, none⟩ (.slice (some ⟨w5.heap.size, 0, none⟩) 2 cap)).heap[i]? = w5.heap[i]? := fun i hi hip => by
    rw [Below.heap_setCell _ _ _ i hip, Lib.bytesWorld_at_old _ _ _ i (by rw [z6]; exact hi), Below.heap_setCell _ _ _ i hip]
  refine ⟨hp5, hp7, ?_, _, v', set_hereZ hp7 c _, ⟨by simp [ht.1], fun c' hc' => ?_⟩, ?_, ?_, ?_⟩
  · have k5 : Below B w0 w5 := (hbl.trans (ka.mono hB)).grown o2 (by omega) fun k hk => (hown.lt k hk).1
    exact (below_bytes (k5.setCell (p := ⟨p, 256, none⟩) hBp v') (by rw [z6]; omega)).setCell (p := ⟨p, c, none⟩) hBp _
  · by_cases hcc : c = c'
    · subst hcc
      rw [List.find?_cons_of_pos (by simp)]
      refine ⟨w5.heap.size, cap, ?_, by omega, by omega, by rw [setCell_sizeZ, z7]; omega, ?_, ?_, ?_⟩
      · rw [Array.getElem?_setIfInBounds_self]
        simp [ht.1]
        omega
      · intro h
        have := (o1.lt _ h).2
        omega
      · rw [World.cell?_setCell_other _ _ _ _ (by simp <;> omega), ← z6, Lib.bytesWorld_cell _ _ _ 0 (by show 0 < 2; decide)]
        rfl
      · rw [World.cell?_setCell_other _ _ _ _ (by simp <;> omega), ← z6, Lib.bytesWorld_cell _ _ _ 1 (by show 1 < 2; decide)]
        rfl
    · rw [List.find?_cons_of_neg (by simpa using hcc)]
      have h0 := ht.2 c' hc'
      have e : ((C.setIfInBounds 256 v').setIfInBounds c (.slice (some ⟨w5.heap.size, 0, none⟩) 2 cap))[c']? = C[c']? := by
        rw [Array.getElem?_setIfInBounds_ne hcc, Array.getElem?_setIfInBounds_ne (by omega)]
      rw [e]
      split at h0
      · rename_i d hd
        obtain ⟨g, cp, g0, g1, g2, g3, g4, g5⟩ := h0
        refine ⟨g, cp, g0, g1, g2, by rw [setCell_sizeZ, z7]; omega, ?_, ?_⟩
        · rcases o3 with h | h
          · rw [h]; exact g4
          · rw [h]; intro h'; injection h' with h'; omega
        · have q : ∀ o, ((Lib.bytesWorld (w5.setCell ⟨p, 256, none⟩ v') 5 ⟨#[92, x]⟩).setCell ⟨p, c, none⟩ (.slice (some ⟨w5.heap.size, 0, none⟩) 2 cap)).cell? ⟨g, o, none⟩ = wr.cell? ⟨g, o, none⟩ := fun o => World.cell?_of_block (by
            show _ = wr.heap[g]?
            rw [old g (by omega) g2, o2.block g (by omega) (fun e => g4 e.symm), ka.block g g3])
          exact ⟨(q 0).trans g5.1, (q 1).trans g5.2⟩
      · exact h0
  · rw [Array.getElem?_setIfInBounds_ne (by omega), Array.getElem?_setIfInBounds_self]
    simp [ht.1]
  · rw [List.length_append]
    refine row_keepZ o1 fun g hg hgl => old g hgl ?_
    rintro rfl
    rcases o3 with h | h
    · exact hne (h ▸ hg)
    · rw [h] at hg; injection hg with hg; omega
  · rcases o3 with h | h
    · rw [h]; exact hne
    · rw [h]; intro h'; injection h' with h'; omega

theorem slice_of {w : World} {B n size : Nat} {e : TypeId} {v : Value} {xs : List Value} (h : w.ownsRow B e size v n xs) : ∃ a c, v = .slice a n c := by
  rcases h.2 with ⟨h0, h1⟩ | ⟨g, cap, cur, h0, _⟩
  · exact ⟨none, 0, by rw [h0, h1]⟩
  · exact ⟨_, _, h0⟩

set_option maxRecDepth 100000 in
theorem rep_zero : Tryz.zeroCells195 = Array.replicate 257 (.slice none 0 0) := by kernel_rfl

theorem rep_one {v : Value} (h1 : v.oneCell' = true) : ((Tryz.zeroCells195.toList.set 256 v).toArray).all (·.oneCell') = true := by
  rw [rep_zero]
  rw [List.all_toArray]
  refine List.all_eq_true.2 fun x hx => ?_
  rcases List.mem_or_eq_of_mem_set hx with h | h
  · rw [Array.toList_replicate] at h
    have := List.eq_of_mem_replicate h
    rw [this]; rfl
  · rw [h]; exact h1

theorem one_cell {w : World} {g : Nat} {v : Value} {t : TypeId} (hg : g = w.heap.size) : ∀ j u, [v][j]? = some u → ∃ ad, some (⟨g, 0, none⟩ : Addr) = some ad ∧ (w.alloc (.cells #[v] t)).cell? (ad.add j) = some u := by
  intro j u hu
  have hj : j = 0 := by
    rcases j with _ | j
    · rfl
    · simp at hu
  subst hj
  injection hu with hu
  subst hu hg
  exact ⟨_, rfl, cell_of (alloc_new w _) 0⟩

theorem one_str {b : ByteArray} : ∀ u ∈ [Value.string b], u.oneCell' = true := fun u hu => by
  simp at hu
  subst hu
  rfl

set_option maxHeartbeats 4000000 in
set_option maxRecDepth 100000 in
theorem build_six (b r cc : Nat) (w : World) (h4 : w.cell? ⟨b, 4, none⟩ = some (.slice (some ⟨r, 0, none⟩) 6 cc)) (hr : r < w.heap.size) (h6 : SixAt w r) :
    Calls Tryz.prog 91 #[.pointer (some ⟨b, 0, none⟩)] w fun e w' => ∃ p, e = .returned (.iface 196 (.pointer (some ⟨p, 0, none⟩))) ∧ w.heap.size ≤ p ∧ RepSt w.heap.size p w w' [(92, 92), (39, 39), (10, 110)] [.string ⟨#[10]⟩, .string ⟨#[39]⟩, .string ⟨#[92]⟩] := by
  obtain ⟨s0, s1, s2, s3, s4, s5⟩ := h6
  obtain ⟨i0, hi0, hiz, his, hib⟩ := info_str
  have HI0 := toHid hi0
  have HIZ := toHid hiz
  have HIS := toHid his
  have HIB := toHid hib
  have hb48 : i0.bytes * 3 ≤ 281474976710656 := by rw [hib]; decide
  have hmx3 : 3 ≤ maxLen := by unfold maxLen; decide
  clear hi0 hiz his hib
  go_enter Tryz.func91, Tryz.ntmps91
  go_wp2_with fail
  go_loopg [4, 5] 3 (fun g x4 x5 wr => wr = w ∧ ((x5 = .int .i64 0 ∧ x4 = .bool true ∧ g = 3) ∨ (x4 = .bool false ∧ ((x5 = .int .i64 2 ∧ g = 2) ∨ (x5 = .int .i64 4 ∧ g = 1) ∨ (x5 = .int .i64 6 ∧ g = 0)))))
  case atStart => exact ⟨rfl, .inl ⟨rfl, rfl, rfl⟩⟩
  case round =>
    obtain ⟨rfl, h | ⟨h, h' | h' | h'⟩⟩ := hrel
    · obtain ⟨rfl, rfl, rfl⟩ := h
      go_wp2_with fail
      go_roundg 2
      case measure => omega
      case rel => exact ⟨rfl, .inr ⟨rfl, .inl ⟨rfl, rfl⟩⟩⟩
    · obtain ⟨rfl, rfl⟩ := h'
      subst h
      go_wp2_with fail
      go_roundg 1
      case measure => omega
      case rel => exact ⟨rfl, .inr ⟨rfl, .inr (.inl ⟨rfl, rfl⟩)⟩⟩
    · obtain ⟨rfl, rfl⟩ := h'
      subst h
      go_wp2_with fail
      go_roundg 0
      case measure => omega
      case rel => exact ⟨rfl, .inr ⟨rfl, .inr (.inr ⟨rfl, rfl⟩)⟩⟩
    · obtain ⟨rfl, rfl⟩ := h'
      subst h
      go_upto_region 26 with fail
      go_wp2_with (at_make; refine wpList_make_own _ rfl _ _ 46 rfl wr.heap.size 9 i0 _ 1 Tryz.underlying46 HI0.out HIZ.out HIS.out .i64 .i64 3 3 rfl rfl (by omega) hb48 hmx3 (Nat.le_refl _) ?_)
      intro w1 hown1 hg1
      obtain ⟨C0, hC0⟩ : ∃ C : Array Value, C = (Tryz.zeroCells195.toList.set 256 (.slice (some ⟨wr.heap.size, 0, none⟩) 0 3)).toArray := ⟨_, rfl⟩
      have hst : (storeCells ⟨w1.heap.size, 0, none⟩ (Tryz.zeroCells195.toList.set 256 (.slice (some ⟨wr.heap.size, 0, none⟩) 0 3))).run Tryz.prog (w1.alloc (.cells Tryz.zeroCells195 195)) = .ok () (w1.alloc (.cells C0 195)) := by
        have hcz : C0.size = 257 := by rw [hC0]; simp [Tryz.zeroCells195_size]
        have := run_storeCells_new (P := Tryz.prog) w1 195 Tryz.zeroCells195 C0 (by rw [hcz]; kernel_rfl) (by rw [hcz, Tryz.zeroCells195_size]) (by rw [hC0]; exact rep_one rfl)
        rw [hC0] at this ⊢
        exact this
      have HC0 := toHid hC0
      have HOWN := toHid hown1
      have HG1 := toHid hg1
      clear hC0 hown1 hg1
      go_wp2_with fail
      have hp0 : RepSt wr.heap.size w1.heap.size wr (w1.alloc (.cells C0 195)) [] [] := by
        refine ⟨((Below.refl _ _).grown HG1.out (Nat.le_refl _) (fun k hk => by cases hk)).alloc HG1.out.size _, C0, .slice (some ⟨wr.heap.size, 0, none⟩) 0 3, alloc_new _ _, ⟨by rw [HC0.out]; simp [Tryz.zeroCells195_size], fun c hc => ?_⟩, ?_, ?_, ?_⟩
        · show C0[c]? = _
          rw [HC0.out, rep_zero]
          rw [Array.toList_replicate, List.getElem?_toArray, List.getElem?_set_ne (by omega), List.getElem?_replicate, if_pos (by omega)]
        · rw [HC0.out]
          rw [List.getElem?_toArray, List.getElem?_set_self (by simp [Tryz.zeroCells195_size])]
        · exact HOWN.out.alloc _
        · intro h
          have : wr.heap.size = w1.heap.size := Option.some.inj h
          have := (HOWN.out.lt wr.heap.size rfl).2
          omega
      have HP0 := toHid hp0
      have hpw : wr.heap.size < w1.heap.size := (HOWN.out.lt wr.heap.size rfl).2
      clear hp0 hst HC0 HOWN HG1
      generalize w1.alloc (.cells C0 195) = W0 at HP0 ⊢
      generalize w1.heap.size = p at HP0 hpw ⊢
      obtain ⟨wo, hwo⟩ : ∃ z, z = wr := ⟨_, rfl⟩
      subst hwo
      go_loopg [12, 13, 14] 3 (fun g x12 x13 x14 wx => (x12 = .int .i64 4 ∧ g = 3 ∧ RepSt wo.heap.size p wo wx [] []) ∨ (x12 = .int .i64 2 ∧ g = 2 ∧ RepSt wo.heap.size p wo wx [(10, 110)] [.string ⟨#[10]⟩]) ∨ (x12 = .int .i64 0 ∧ g = 1 ∧ RepSt wo.heap.size p wo wx [(39, 39), (10, 110)] [.string ⟨#[10]⟩, .string ⟨#[39]⟩]) ∨ (x12 = .int .i64 (-2) ∧ g = 0 ∧ RepSt wo.heap.size p wo wx [(92, 92), (39, 39), (10, 110)] [.string ⟨#[10]⟩, .string ⟨#[39]⟩, .string ⟨#[92]⟩]))
      case atStart => exact .inl ⟨rfl, rfl, HP0.out⟩
      case round =>
        rcases hrel with ⟨rfl, rfl, hR⟩ | ⟨rfl, rfl, hR⟩ | ⟨rfl, rfl, hR⟩ | ⟨rfl, rfl, hR⟩
        · obtain ⟨hbl, C, v, hp, ht, hv, hown, hne⟩ := hR
          have q : ∀ o, wr.cell? ⟨r, o, none⟩ = wo.cell? ⟨r, o, none⟩ := fun o => hbl.cell (p := ⟨r, o, none⟩) hr
          have e4 := (q 4).trans s4
          have e5 := (q 5).trans s5
          have lc : wr.cell? ⟨p, 10, none⟩ = some (.slice none 0 0) := (cell_of hp 10).trans (ht.2 10 (by decide))
          have l256 : wr.cell? ⟨p, 256, none⟩ = some v := (cell_of hp 256).trans hv
          obtain ⟨va, vc, rfl⟩ := slice_of hown
          have hnil := nil_eq
          have hby : (({ data := #[10] } : ByteArray)[0]'(by decide)).toNat = 10 := by decide
          have hcv : (convert 38 9 (.slice (some ⟨wr.heap.size, 0, none⟩) 1 1)).run Tryz.prog (wr.alloc (.cells #[.int .u8 10] 5)) = .ok (.string ⟨#[10]⟩) (wr.alloc (.cells #[.int .u8 10] 5)) := run_convert_bytes_back (P := Tryz.prog) (wr.alloc (.cells #[.int .u8 10] 5)) 38 9 5 ⟨wr.heap.size, 0, none⟩ 1 [10] Tryz.underlying38 Tryz.underlying5 Tryz.underlying9 (fun j hj => by
            have hj0 : j = 0 := by simp at hj; exact hj
            subst hj0
            exact cell_of (alloc_new wr _) 0)
          have HR := toHid (show Below wo.heap.size wo wr ∧ wr.heap[p]? = some (.cells C 195 (0, 0)) ∧ TabAt wo.heap.size p wr C (Value.slice va 0 vc).ownBlock [] ∧ wr.ownsRow wo.heap.size 9 1 (.slice va 0 vc) 0 [] ∧ (Value.slice va 0 vc).ownBlock ≠ some p from ⟨hbl, hp, ht, hown, hne⟩)
          have hpl : p < wr.heap.size := (Array.getElem?_eq_some_iff.1 hp).1
          have hB1 : 0 + 1 ≤ maxLen := by unfold maxLen; decide
          have hB2 : (0 + 1) * 16 ≤ 140737488355328 := by decide
          have ka : Below wr.heap.size wr ((wr.alloc (.cells #[.int .u8 10] 5)).alloc (.cells #[.string ⟨#[10]⟩] 9)) := ((Below.refl _ _).alloc (Nat.le_refl _) _).alloc (by simp) _
          have hza : wo.heap.size ≤ ((wr.alloc (.cells #[.int .u8 10] 5)).alloc (.cells #[.string ⟨#[10]⟩] 9)).heap.size := Nat.le_trans hbl.size ka.size
          have hza2 : Hid (wr.heap.size + 1 = (wr.alloc (.cells #[.int .u8 10] 5)).heap.size) := toHid (by simp)
          have HKA := toHid ka
          clear hbl hp ht hv hown hne ka
          go_wp2_with (at_builtin; refine wpList_append_both _ rfl _ _ 46 rfl wo.heap.size 9 i0 _ 1 16 Tryz.underlying46 HI0.out HIZ.out HIS.out HIB.out rfl (by omega) (.slice va 0 vc) 0 _ rfl ((HR.out.2.2.2.1.alloc _).alloc _) (some ⟨wr.heap.size + 1, 0, none⟩) 1 1 [.string ⟨#[10]⟩] rfl rfl (one_cell hza2.out) one_str hB1 hB2 hza ?_)
          intro v' w5 o1 o2 o3
          obtain ⟨g5, g7, g8⟩ := rep_step 10 110 (grownCap (w5.setCell ⟨p, 256, none⟩ v') 2 0 5) (Nat.le_of_lt hpw) HR.out.1 HR.out.2.1 HR.out.2.2.1 HR.out.2.2.2.1 HR.out.2.2.2.2 HKA.out o1 o2 (by simpa using o3) (by decide)
          obtain ⟨vb, vd, rfl⟩ := slice_of o1
          have n256 := cell_of g5 256
          have hsz : C.size = 257 := HR.out.2.2.1.1
          have n256' : ∃ y, w5.cell? ⟨p, 256, none⟩ = some y := ⟨C[256], n256.trans (by simp [hsz])⟩
          obtain ⟨y256, hy256⟩ := n256'
          have fz := free_of g5 256
          have kc : ∀ (w : World) (s : ByteArray), (convert 9 38 (.string s)).run Tryz.prog w = .ok (.slice (some ⟨w.heap.size, 0, none⟩) s.size (grownCap w s.size 0 5)) (Lib.bytesWorld w 5 s) := fun w s => Lib.run_convert_string_bytes w _ _ _ s Tryz.underlying9 Tryz.underlying38 Tryz.underlying5
          have m7 : ∃ y, (Lib.bytesWorld (w5.setCell ⟨p, 256, none⟩ (.slice vb 1 vd)) 5 ⟨#[92, 110]⟩).cell? ⟨p, 10, none⟩ = some y := ⟨(C.setIfInBounds 256 (.slice vb 1 vd))[10]'(by simp [hsz]), (cell_of g7 10).trans (by simp [hsz])⟩
          obtain ⟨y7, hy7⟩ := m7
          have fz7 := free_of g7 10
          have HG8 := toHid g8
          clear g5 g7 g8 o1 o2 o3 n256 HR HKA
          go_wp2_with fail
          go_roundg 2
          case measure => omega
          case rel => exact .inr (.inl ⟨rfl, rfl, HG8.out⟩)
        · obtain ⟨hbl, C, v, hp, ht, hv, hown, hne⟩ := hR
          have q : ∀ o, wr.cell? ⟨r, o, none⟩ = wo.cell? ⟨r, o, none⟩ := fun o => hbl.cell (p := ⟨r, o, none⟩) hr
          have e4 := (q 2).trans s2
          have e5 := (q 3).trans s3
          have lc : wr.cell? ⟨p, 39, none⟩ = some (.slice none 0 0) := (cell_of hp 39).trans (ht.2 39 (by decide))
          have l256 : wr.cell? ⟨p, 256, none⟩ = some v := (cell_of hp 256).trans hv
          obtain ⟨va, vc, rfl⟩ := slice_of hown
          have hnil := nil_eq
          have hby : (({ data := #[39] } : ByteArray)[0]'(by decide)).toNat = 39 := by decide
          have hcv : (convert 38 9 (.slice (some ⟨wr.heap.size, 0, none⟩) 1 1)).run Tryz.prog (wr.alloc (.cells #[.int .u8 39] 5)) = .ok (.string ⟨#[39]⟩) (wr.alloc (.cells #[.int .u8 39] 5)) := run_convert_bytes_back (P := Tryz.prog) (wr.alloc (.cells #[.int .u8 39] 5)) 38 9 5 ⟨wr.heap.size, 0, none⟩ 1 [39] Tryz.underlying38 Tryz.underlying5 Tryz.underlying9 (fun j hj => by
            have hj0 : j = 0 := by simp at hj; exact hj
            subst hj0
            exact cell_of (alloc_new wr _) 0)
          have HR := toHid (show Below wo.heap.size wo wr ∧ wr.heap[p]? = some (.cells C 195 (0, 0)) ∧ TabAt wo.heap.size p wr C (Value.slice va 1 vc).ownBlock [(10, 110)] ∧ wr.ownsRow wo.heap.size 9 1 (.slice va 1 vc) 1 [.string ⟨#[10]⟩] ∧ (Value.slice va 1 vc).ownBlock ≠ some p from ⟨hbl, hp, ht, hown, hne⟩)
          have hpl : p < wr.heap.size := (Array.getElem?_eq_some_iff.1 hp).1
          have hB1 : 1 + 1 ≤ maxLen := by unfold maxLen; decide
          have hB2 : (1 + 1) * 16 ≤ 140737488355328 := by decide
          have ka : Below wr.heap.size wr ((wr.alloc (.cells #[.int .u8 39] 5)).alloc (.cells #[.string ⟨#[39]⟩] 9)) := ((Below.refl _ _).alloc (Nat.le_refl _) _).alloc (by simp) _
          have hza : wo.heap.size ≤ ((wr.alloc (.cells #[.int .u8 39] 5)).alloc (.cells #[.string ⟨#[39]⟩] 9)).heap.size := Nat.le_trans hbl.size ka.size
          have hza2 : Hid (wr.heap.size + 1 = (wr.alloc (.cells #[.int .u8 39] 5)).heap.size) := toHid (by simp)
          have HKA := toHid ka
          clear hbl hp ht hv hown hne ka
          go_wp2_with (at_builtin; refine wpList_append_both _ rfl _ _ 46 rfl wo.heap.size 9 i0 _ 1 16 Tryz.underlying46 HI0.out HIZ.out HIS.out HIB.out rfl (by omega) (.slice va 1 vc) 1 _ rfl ((HR.out.2.2.2.1.alloc _).alloc _) (some ⟨wr.heap.size + 1, 0, none⟩) 1 1 [.string ⟨#[39]⟩] rfl rfl (one_cell hza2.out) one_str hB1 hB2 hza ?_)
          intro v' w5 o1 o2 o3
          obtain ⟨g5, g7, g8⟩ := rep_step 39 39 (grownCap (w5.setCell ⟨p, 256, none⟩ v') 2 0 5) (Nat.le_of_lt hpw) HR.out.1 HR.out.2.1 HR.out.2.2.1 HR.out.2.2.2.1 HR.out.2.2.2.2 HKA.out o1 o2 (by simpa using o3) (by decide)
          obtain ⟨vb, vd, rfl⟩ := slice_of o1
          have n256 := cell_of g5 256
          have hsz : C.size = 257 := HR.out.2.2.1.1
          have n256' : ∃ y, w5.cell? ⟨p, 256, none⟩ = some y := ⟨C[256], n256.trans (by simp [hsz])⟩
          obtain ⟨y256, hy256⟩ := n256'
          have fz := free_of g5 256
          have kc : ∀ (w : World) (s : ByteArray), (convert 9 38 (.string s)).run Tryz.prog w = .ok (.slice (some ⟨w.heap.size, 0, none⟩) s.size (grownCap w s.size 0 5)) (Lib.bytesWorld w 5 s) := fun w s => Lib.run_convert_string_bytes w _ _ _ s Tryz.underlying9 Tryz.underlying38 Tryz.underlying5
          have m7 : ∃ y, (Lib.bytesWorld (w5.setCell ⟨p, 256, none⟩ (.slice vb 2 vd)) 5 ⟨#[92, 39]⟩).cell? ⟨p, 39, none⟩ = some y := ⟨(C.setIfInBounds 256 (.slice vb 2 vd))[39]'(by simp [hsz]), (cell_of g7 39).trans (by simp [hsz])⟩
          obtain ⟨y7, hy7⟩ := m7
          have fz7 := free_of g7 39
          have HG8 := toHid g8
          clear g5 g7 g8 o1 o2 o3 n256 HR HKA
          go_wp2_with fail
          go_roundg 1
          case measure => omega
          case rel => exact .inr (.inr (.inl ⟨rfl, rfl, HG8.out⟩))
        · obtain ⟨hbl, C, v, hp, ht, hv, hown, hne⟩ := hR
          have q : ∀ o, wr.cell? ⟨r, o, none⟩ = wo.cell? ⟨r, o, none⟩ := fun o => hbl.cell (p := ⟨r, o, none⟩) hr
          have e4 := (q 0).trans s0
          have e5 := (q 1).trans s1
          have lc : wr.cell? ⟨p, 92, none⟩ = some (.slice none 0 0) := (cell_of hp 92).trans (ht.2 92 (by decide))
          have l256 : wr.cell? ⟨p, 256, none⟩ = some v := (cell_of hp 256).trans hv
          obtain ⟨va, vc, rfl⟩ := slice_of hown
          have hnil := nil_eq
          have hby : (({ data := #[92] } : ByteArray)[0]'(by decide)).toNat = 92 := by decide
          have hcv : (convert 38 9 (.slice (some ⟨wr.heap.size, 0, none⟩) 1 1)).run Tryz.prog (wr.alloc (.cells #[.int .u8 92] 5)) = .ok (.string ⟨#[92]⟩) (wr.alloc (.cells #[.int .u8 92] 5)) := run_convert_bytes_back (P := Tryz.prog) (wr.alloc (.cells #[.int .u8 92] 5)) 38 9 5 ⟨wr.heap.size, 0, none⟩ 1 [92] Tryz.underlying38 Tryz.underlying5 Tryz.underlying9 (fun j hj => by
            have hj0 : j = 0 := by simp at hj; exact hj
            subst hj0
            exact cell_of (alloc_new wr _) 0)
          have HR := toHid (show Below wo.heap.size wo wr ∧ wr.heap[p]? = some (.cells C 195 (0, 0)) ∧ TabAt wo.heap.size p wr C (Value.slice va 2 vc).ownBlock [(39, 39), (10, 110)] ∧ wr.ownsRow wo.heap.size 9 1 (.slice va 2 vc) 2 [.string ⟨#[10]⟩, .string ⟨#[39]⟩] ∧ (Value.slice va 2 vc).ownBlock ≠ some p from ⟨hbl, hp, ht, hown, hne⟩)
          have hpl : p < wr.heap.size := (Array.getElem?_eq_some_iff.1 hp).1
          have hB1 : 2 + 1 ≤ maxLen := by unfold maxLen; decide
          have hB2 : (2 + 1) * 16 ≤ 140737488355328 := by decide
          have ka : Below wr.heap.size wr ((wr.alloc (.cells #[.int .u8 92] 5)).alloc (.cells #[.string ⟨#[92]⟩] 9)) := ((Below.refl _ _).alloc (Nat.le_refl _) _).alloc (by simp) _
          have hza : wo.heap.size ≤ ((wr.alloc (.cells #[.int .u8 92] 5)).alloc (.cells #[.string ⟨#[92]⟩] 9)).heap.size := Nat.le_trans hbl.size ka.size
          have hza2 : Hid (wr.heap.size + 1 = (wr.alloc (.cells #[.int .u8 92] 5)).heap.size) := toHid (by simp)
          have HKA := toHid ka
          clear hbl hp ht hv hown hne ka
          go_wp2_with (at_builtin; refine wpList_append_both _ rfl _ _ 46 rfl wo.heap.size 9 i0 _ 1 16 Tryz.underlying46 HI0.out HIZ.out HIS.out HIB.out rfl (by omega) (.slice va 2 vc) 2 _ rfl ((HR.out.2.2.2.1.alloc _).alloc _) (some ⟨wr.heap.size + 1, 0, none⟩) 1 1 [.string ⟨#[92]⟩] rfl rfl (one_cell hza2.out) one_str hB1 hB2 hza ?_)
          intro v' w5 o1 o2 o3
          obtain ⟨g5, g7, g8⟩ := rep_step 92 92 (grownCap (w5.setCell ⟨p, 256, none⟩ v') 2 0 5) (Nat.le_of_lt hpw) HR.out.1 HR.out.2.1 HR.out.2.2.1 HR.out.2.2.2.1 HR.out.2.2.2.2 HKA.out o1 o2 (by simpa using o3) (by decide)
          obtain ⟨vb, vd, rfl⟩ := slice_of o1
          have n256 := cell_of g5 256
          have hsz : C.size = 257 := HR.out.2.2.1.1
          have n256' : ∃ y, w5.cell? ⟨p, 256, none⟩ = some y := ⟨C[256], n256.trans (by simp [hsz])⟩
          obtain ⟨y256, hy256⟩ := n256'
          have fz := free_of g5 256
          have kc : ∀ (w : World) (s : ByteArray), (convert 9 38 (.string s)).run Tryz.prog w = .ok (.slice (some ⟨w.heap.size, 0, none⟩) s.size (grownCap w s.size 0 5)) (Lib.bytesWorld w 5 s) := fun w s => Lib.run_convert_string_bytes w _ _ _ s Tryz.underlying9 Tryz.underlying38 Tryz.underlying5
          have m7 : ∃ y, (Lib.bytesWorld (w5.setCell ⟨p, 256, none⟩ (.slice vb 3 vd)) 5 ⟨#[92, 92]⟩).cell? ⟨p, 92, none⟩ = some y := ⟨(C.setIfInBounds 256 (.slice vb 3 vd))[92]'(by simp [hsz]), (cell_of g7 92).trans (by simp [hsz])⟩
          obtain ⟨y7, hy7⟩ := m7
          have fz7 := free_of g7 92
          have HG8 := toHid g8
          clear g5 g7 g8 o1 o2 o3 n256 HR HKA
          go_wp2_with fail
          go_roundg 0
          case measure => omega
          case rel => exact .inr (.inr (.inr ⟨rfl, rfl, HG8.out⟩))
        · have HR := toHid hR
          clear hR
          go_wp2_with fail
          go_ret
          exact ⟨p, rfl, Nat.le_of_lt hpw, HR.out⟩

/-- The bytes that are replaced, and by what behind a backslash. -/
abbrev repD : List (Nat × UInt8) := [(92, 92), (39, 39), (10, 110)]
abbrev repT : List Value := [.string ⟨#[10]⟩, .string ⟨#[39]⟩, .string ⟨#[92]⟩]

/-- The table and the row of texts lie at a place, in blocks from B on. -/
def RepFin (B p : Nat) (w : World) : Prop :=
  ∃ C v, w.heap[p]? = some (.cells C 195 (0, 0)) ∧ TabAt B p w C v.ownBlock repD ∧ C[256]? = some v ∧ w.ownsRow B 9 1 v 3 repT ∧ v.ownBlock ≠ some p

theorem RepFin.keep {B p : Nat} {w w' : World} (h : RepFin B p w) (hp : B ≤ p) (hs : w.heap.size ≤ w'.heap.size) (hk : ∀ i, B ≤ i → i < w.heap.size → w'.heap[i]? = w.heap[i]?) : RepFin B p w' := by
  obtain ⟨C, v, h1, h2, h3, h4, h5⟩ := h
  refine ⟨C, v, (hk p hp (Array.getElem?_eq_some_iff.1 h1).1).trans h1, ⟨h2.1, fun c hc => ?_⟩, h3, row_keepZ h4 fun g hg hl => hk g (h4.lt g hg).1 hl, h5⟩
  have h0 := h2.2 c hc
  split at h0
  · obtain ⟨g, cap, g0, g1, g2, g3, g4, g5⟩ := h0
    refine ⟨g, cap, g0, g1, g2, Nat.lt_of_lt_of_le g3 hs, g4, ?_⟩
    have q : ∀ o, w'.cell? ⟨g, o, none⟩ = w.cell? ⟨g, o, none⟩ := fun o => World.cell?_of_block (hk g g1 g3)
    exact ⟨(q 0).trans g5.1, (q 1).trans g5.2⟩
  · exact h0

set_option maxHeartbeats 4000000 in
set_option maxRecDepth 100000 in
/-- buildOnce. -/
theorem once_six (b r cc : Nat) (x0 x1 x2 : Value) (w : World) (hb : w.heap[b]? = some (.cells #[x0, x1, x2, .nilIface, .slice (some ⟨r, 0, none⟩) 6 cc] 121 (0, 0))) (hr : r < w.heap.size) (h6 : SixAt w r) :
    Calls Tryz.prog 62 #[.pointer (some ⟨b, 0, none⟩)] w fun e w' => e = .returned (.tuple #[]) ∧ ∃ p, w'.heap[b]? = some (.cells #[x0, x1, x2, .iface 196 (.pointer (some ⟨p, 0, none⟩)), .slice none 0 0] 121 (0, 0)) ∧ w.heap.size ≤ p ∧ RepFin w.heap.size p w' ∧ w.heap.size ≤ w'.heap.size ∧ w'.os = w.os ∧ w'.tape = w.tape ∧ w'.output = w.output ∧ ∀ i, i < w.heap.size → i ≠ b → w'.heap[i]? = w.heap[i]? := by
  have h4 := cell_of hb 4
  simp at h4
  have hbl : b < w.heap.size := (Array.getElem?_eq_some_iff.1 hb).1
  have HB := toHid hb
  have HC := toHid (build_six b r cc w h4 hr h6)
  clear hb h6
  go_enter Tryz.func62, Tryz.ntmps62
  go_wp2_with fail
  refine HC.out.mono ?_
  rintro e w1 ⟨p, rfl, hp, hk, C, v, g1, g2, g3, g4, g5⟩
  have hb1 := (hk.block b hbl).trans HB.out
  have c3 := cell_of hb1 3
  have c4 := cell_of hb1 4
  have f3 := free_of hb1 3
  have f4 := free_of hb1 4
  simp at c3 c4
  have HK := toHid hk
  have HF : Hid (RepFin w.heap.size p w1) := ⟨C, v, g1, g2, g3, g4, g5⟩
  have HB1 := toHid hb1
  clear hk g1 g2 g3 g4 g5 hb1
  go_wp2_with fail
  go_end0
  refine ⟨rfl, p, ?_, hp, ?_, ?_, HK.out.os, HK.out.tape, HK.out.output, ?_⟩
  · have := set_hereZ (set_hereZ HB1.out 3 (.iface 196 (.pointer (some ⟨p, 0, none⟩)))) 4 (.slice none 0 0)
    simpa using this
  · refine HF.out.keep hp (by rw [setCell_sizeZ, setCell_sizeZ]; exact Nat.le_refl _) fun i hi _ => ?_
    rw [Below.heap_setCell _ _ _ i (by simp; omega), Below.heap_setCell _ _ _ i (by simp; omega)]
  · rw [setCell_sizeZ, setCell_sizeZ]; exact HK.out.size
  · intro i hi hib
    rw [Below.heap_setCell _ _ _ i hib, Below.heap_setCell _ _ _ i hib]
    exact HK.out.block i hi

set_option maxHeartbeats 4000000 in
set_option maxRecDepth 100000 in
/-- NewReplacer of the six texts. -/
theorem new_six (q : Nat) (w : World) (hq : q < w.heap.size) (h6 : SixAt w q) :
    Calls Tryz.prog 36 #[.slice (some ⟨q, 0, none⟩) 6 6] w fun e w' => ∃ b r cc, e = .returned (.pointer (some ⟨b, 0, none⟩)) ∧ w'.heap[b]? = some (.cells #[.int .u32 0, .int .i32 0, .int .u32 0, .nilIface, .slice (some ⟨r, 0, none⟩) 6 cc] 121 (0, 0)) ∧ SixAt w' r ∧ r < w'.heap.size ∧ w.heap.size ≤ b ∧ w.heap.size ≤ r ∧ r ≠ b ∧ Below w.heap.size w w' := by
  obtain ⟨i0, hi0, hiz, his, hib⟩ := info_str
  have HI0 := toHid hi0
  have HIZ := toHid hiz
  have HIS := toHid his
  have HIB := toHid hib
  have HN : Hid (∀ j u, ([.string ⟨#[92]⟩, .string ⟨#[92, 92]⟩, .string ⟨#[39]⟩, .string ⟨#[92, 39]⟩, .string ⟨#[10]⟩, .string ⟨#[92, 110]⟩] : List Value)[j]? = some u → ∃ ad, some (⟨q, 0, none⟩ : Addr) = some ad ∧ w.cell? (ad.add j) = some u) := fun j u hu => by
    refine ⟨_, rfl, ?_⟩
    match j, hu with
    | 0, hu => injection hu with hu; subst hu; exact h6.s0
    | 1, hu => injection hu with hu; subst hu; exact h6.s1
    | 2, hu => injection hu with hu; subst hu; exact h6.s2
    | 3, hu => injection hu with hu; subst hu; exact h6.s3
    | 4, hu => injection hu with hu; subst hu; exact h6.s4
    | 5, hu => injection hu with hu; subst hu; exact h6.s5
    | j + 6, hu => simp at hu
  have HO : Hid (∀ u ∈ ([.string ⟨#[92]⟩, .string ⟨#[92, 92]⟩, .string ⟨#[39]⟩, .string ⟨#[92, 39]⟩, .string ⟨#[10]⟩, .string ⟨#[92, 110]⟩] : List Value), u.oneCell' = true) := fun u hu => by
    simp at hu
    rcases hu with rfl | rfl | rfl | rfl | rfl | rfl <;> rfl
  have hB1 : 0 + 6 ≤ maxLen := by unfold maxLen; decide
  have hB2 : (0 + 6) * 16 ≤ 140737488355328 := by decide
  have hnil : w.ownsRow w.heap.size 9 1 (.slice none 0 0) 0 [] := ⟨rfl, .inl ⟨rfl, rfl⟩⟩
  have HNIL := toHid hnil
  clear hi0 hiz his hib hnil h6
  go_enter Tryz.func36, Tryz.ntmps36
  go_wp2_with (at_builtin; refine wpList_append_both _ rfl _ _ 46 rfl w.heap.size 9 i0 _ 1 16 Tryz.underlying46 HI0.out HIZ.out HIS.out HIB.out rfl (by omega) (.slice none 0 0) 0 _ rfl HNIL.out (some ⟨q, 0, none⟩) 6 6 _ rfl rfl HN.out HO.out hB1 hB2 (Nat.le_refl _) ?_)
  intro v' w5 o1 o2 o3
  have k5 : Below w.heap.size w w5 := (Below.refl _ _).grown o2 (Nat.le_refl _) fun k hk => by cases hk
  obtain ⟨r, cc, rfl, hr1, hr2⟩ := o1.form (by decide)
  have HO1 := toHid o1
  have HK5 := toHid k5
  clear o1 o2 o3 k5
  go_wp2_with fail
  go_ret
  have q5 : ∀ o, (w5.alloc (.cells #[.int .u32 0, .int .i32 0, .int .u32 0, .nilIface, .slice (some ⟨r, 0, none⟩) 6 cc] 121)).cell? ⟨r, o, none⟩ = w5.cell? ⟨r, o, none⟩ := fun o => cell_past w5 _ r o hr2
  have cs : ∀ o v, ([.string ⟨#[92]⟩, .string ⟨#[92, 92]⟩, .string ⟨#[39]⟩, .string ⟨#[92, 39]⟩, .string ⟨#[10]⟩, .string ⟨#[92, 110]⟩] : List Value)[o]? = some v → (w5.alloc (.cells #[.int .u32 0, .int .i32 0, .int .u32 0, .nilIface, .slice (some ⟨r, 0, none⟩) 6 cc] 121)).cell? ⟨r, o, none⟩ = some v := fun o v hv => by
    rw [q5 o]
    have := HO1.out.cells (g := r) rfl o v hv
    by_cases h0 : o = 0
    · subst h0; simpa [Addr.add] using this
    · simpa [Addr.add, h0] using this
  exact ⟨w5.heap.size, r, cc, rfl, alloc_new w5 _, ⟨cs 0 _ rfl, cs 1 _ rfl, cs 2 _ rfl, cs 3 _ rfl, cs 4 _ rfl, cs 5 _ rfl⟩, by simp; omega, HK5.out.size, hr1, by omega, HK5.out.alloc HK5.out.size _⟩
end Go.Proofs.YthbbapimedlocaaGreatDoor
