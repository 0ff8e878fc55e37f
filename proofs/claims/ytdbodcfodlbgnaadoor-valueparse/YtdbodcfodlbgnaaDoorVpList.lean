/-
  What is proved here: the reader's method list gives up where one of its values does, and where behind a value neither a comma nor a bracket stands.
-/
import Derived.Test.YtdbodcfodlbgnaaDoorVpVal
import Derived.RegionDies
namespace Go.Proofs.YtdbodcfodlbgnaaDoor
open Go.RowKit
set_option linter.unusedVariables false

/-- Behind so many values of a list the reader gives up, and tells the place a. -/
def Stops (text : ByteArray) (lists : Int) (a : Nat) : Nat → Nat → Prop
  | p, 0 => ReadBad text p lists a ∨ ∃ t e, ReadOk text p lists t e ∧ e ≤ text.size ∧ begins text e ⟨#[93]⟩ = false ∧ begins text e ⟨#[44]⟩ = false ∧ a = e
  | p, n + 1 => ∃ t e, ReadOk text p lists t e ∧ e + 1 ≤ text.size ∧ begins text e ⟨#[93]⟩ = false ∧ begins text e ⟨#[44]⟩ = true ∧ Stops text lists a (e + 1) n

theorem Stops.two {text : ByteArray} {lists : Int} {a p n : Nat} (h : Stops text lists a p n) : (n = 0 ∧ ReadBad text p lists a) ∨ ∃ t e, ReadOk text p lists t e ∧ e ≤ text.size ∧ ((n = 0 ∧ begins text e ⟨#[93]⟩ = false ∧ begins text e ⟨#[44]⟩ = false ∧ a = e) ∨ ∃ k, n = k + 1 ∧ e + 1 ≤ text.size ∧ begins text e ⟨#[93]⟩ = false ∧ begins text e ⟨#[44]⟩ = true ∧ Stops text lists a (e + 1) k) := by
  cases n with
  | zero =>
    rcases h with h | ⟨t, e, h1, h2, h3, h4, h5⟩
    · exact .inl ⟨rfl, h⟩
    · exact .inr ⟨t, e, h1, h2, .inl ⟨rfl, h3, h4, h5⟩⟩
  | succ n =>
    obtain ⟨t, e, h1, h2, h3, h4, h5⟩ := h
    exact .inr ⟨t, e, h1, by omega, .inr ⟨n, rfl, h2, h3, h4, h5⟩⟩

set_option maxHeartbeats 4000000 in
set_option maxRecDepth 100000 in
theorem list_bad (B r p a : Nat) (text : ByteArray) (lists : Int) (n : Nat) (w : World) (h : Rd r text p w) (ht : text.size ≤ 4000) (hp : p ≤ text.size) (hB : B ≤ r) (hT : Tabs B w) (hP : Pow10 B w) (hV : ErrV B w)
    (hl : Stops text lists a p n) (hll : n ≤ 4000) (hf : begins text p ⟨#[93]⟩ = false) :
    Calls Tryd.prog 34 #[.pointer (some ⟨r, 0, none⟩), .int .i64 lists] w fun e w' => e = .panicked (MIS a) ∧ Lost r w w' := by
  have hr := h.lt
  have HL := toHid hl
  have cT : Hid (∀ W, Rd r text p W → Calls Tryd.prog 31 #[.pointer (some ⟨r, 0, none⟩), .string ⟨#[93]⟩] W fun e w' => e = .returned (.bool false) ∧ Moved r text p W w') := fun W hW => take_any r p text ⟨#[93]⟩ W hW hp ht (by decide) false hf
  clear hl hf
  go_enter Tryd.func34, Tryd.ntmps34
  go_wp2_with fail
  have hb0 : Below (w.heap.size + 1) (w.alloc (.cells #[.int .i64 0, .int .i64 0, .string ⟨#[]⟩, .slice none 0 0] 24)) ((w.alloc (.cells #[.int .i64 0, .int .i64 0, .string ⟨#[]⟩, .slice none 0 0] 24)).alloc (.cells #[.int .i64 4, .int .i64 0, .string ⟨#[]⟩, .slice none 0 0] 24)) := (Below.refl _ _).alloc (by simp) _
  have hb1 : Below w.heap.size w ((w.alloc (.cells #[.int .i64 0, .int .i64 0, .string ⟨#[]⟩, .slice none 0 0] 24)).alloc (.cells #[.int .i64 4, .int .i64 0, .string ⟨#[]⟩, .slice none 0 0] 24)) := ((Below.refl _ _).alloc (Nat.le_refl _) _).alloc (by simp) _
  have hv0 := alloc_two w (.cells #[.int .i64 0, .int .i64 0, .string ⟨#[]⟩, .slice none 0 0] 24) (.cells #[.int .i64 4, .int .i64 0, .string ⟨#[]⟩, .slice none 0 0] 24)
  have hz0 : ((w.alloc (.cells #[.int .i64 0, .int .i64 0, .string ⟨#[]⟩, .slice none 0 0] 24)).alloc (.cells #[.int .i64 4, .int .i64 0, .string ⟨#[]⟩, .slice none 0 0] 24)).heap.size = w.heap.size + 2 := by simp
  refine (cT.out _ (Moved.of_below h hb1).here).mono ?_
  generalize (w.alloc (.cells #[.int .i64 0, .int .i64 0, .string ⟨#[]⟩, .slice none 0 0] 24)).alloc (.cells #[.int .i64 4, .int .i64 0, .string ⟨#[]⟩, .slice none 0 0] 24) = W0 at hb0 hb1 hv0 hz0 ⊢
  rintro e w1 ⟨rfl, m1⟩
  have hm1 : MovedTo (w.heap.size + 1) r text p (w.alloc (.cells #[.int .i64 0, .int .i64 0, .string ⟨#[]⟩, .slice none 0 0] 24)) w1 := ⟨m1.os.trans hb0.os, m1.tape.trans hb0.tape, m1.output.trans hb0.output, Nat.le_trans hb0.size m1.size, fun k hk hn => (m1.block k (by omega) hn).trans (hb0.block k hk), m1.here⟩
  have hs1 : w.heap.size + 2 ≤ w1.heap.size := by have := m1.size; omega
  have hv1 : w1.heap[w.heap.size + 1]? = some (.cells #[.int .i64 4, .int .i64 0, .string ⟨#[]⟩, .slice none 0 0] 24 (0, 0)) := by rw [m1.block _ (by omega) (by omega)]; exact hv0
  obtain ⟨i0, hi0, hiz, his, hib⟩ := info_value
  have HI0 := toHid hi0
  have HIZ := toHid hiz
  have HIS := toHid his
  have HIB := toHid hib
  have HV1 := toHid hv1
  clear hi0 hiz his hib hv1 hv0 hb0 hb1 hz0 m1 cT
  go_wp2_with fail
  go_loopg [10] n (fun g s10 wr => ∃ (dn : List Got) (m : Nat) (p' : Nat) (ov : Value), dn.length + m = n ∧ m ≤ g ∧ Stops text lists a p' m ∧ w.heap.size + 2 ≤ wr.heap.size ∧ MovedTo (w.heap.size + 1) r text p' (w.alloc (.cells #[.int .i64 0, .int .i64 0, .string ⟨#[]⟩, .slice none 0 0] 24)) wr ∧ wr.heap[w.heap.size + 1]? = some (.cells #[.int .i64 4, .int .i64 0, .string ⟨#[]⟩, ov] 24 (0, 0)) ∧ wr.ownsRow (w.heap.size + 2) 24 4 ov dn.length (rowG dn))
  case atStart => exact ⟨[], n, p, .slice none 0 0, by simp, Nat.le_refl _, HL.out, hs1, hm1, HV1.out, ⟨rfl, .inl ⟨rfl, rfl⟩⟩⟩
  case round =>
    clear hm1 hs1 HV1 HL h
    obtain ⟨dn, m, p', ov, hdr, hg, hit, hs, hm, hv, hown⟩ := hrel
    have HV := toHid hv
    have c3 := cell_of hv 3
    simp at c3
    have hbB : Below B w wr := ⟨hm.os, hm.tape, hm.output, by omega, fun k hk => (hm.block k (by omega) (by omega)).trans (Below.heap_alloc _ _ _ (by omega))⟩
    have HT : Hid (Tabs B wr) := hT.below hbB
    have HP : Hid (Pow10 B wr) := hP.below hbB
    have HVV : Hid (ErrV B wr) := hV.below hbB
    clear hv hbB
    rcases hit.two with ⟨hm0, hbad⟩ | ⟨tx, pe, hok, hpe, hcase⟩
    · have HBAD := toHid hbad
      have hr' : Rd r text p' wr.drew := hm.here
      have hT' : Tabs B wr.drew := HT.out.below (Below.refl _ _).drew
      have hP' : Pow10 B wr.drew := HP.out.below (Below.refl _ _).drew
      have hV' : ErrV B wr.drew := HVV.out.below (Below.refl _ _).drew
      have HM := toHid hm
      clear hbad hm hown
      go_wp2_with fail
      go_region_dies
      all_goals
        go_at_call 19
        refine (HBAD.out B r _ hr' hB hT' hP' hV').mono ?_
        rintro e w2 ⟨rfl, m2⟩
        have ML : Lost r w w2 := HM.out.lost (b := w2) ⟨m2.os, m2.tape, m2.output, m2.size, m2.block⟩ (by omega)
        go_simp
        exact ⟨rfl, rfl, ML⟩
    · have G1 := toHid hok
      have G3 := toHid hcase
      clear hok hcase
      go_wp2_with fail
      have hr' : Rd r text p' wr.drew := hm.here
      have hT' : Tabs B wr.drew := HT.out.below (Below.refl _ _).drew
      have hP' : Pow10 B wr.drew := HP.out.below (Below.refl _ _).drew
      have HB : (dn.length + 1) * 56 ≤ 140737488355328 := by
        omega
      have HB2 : dn.length + 1 ≤ maxLen := by unfold maxLen; omega
      go_region_law (first
        | (refine step_append_lies _ (by rfl) _ _ _ (by rfl) (w.heap.size + 2) 24 i0 _ 4 56 Tryd.underlying22 HI0.out HIZ.out HIS.out HIB.out rfl (by omega) ov dn.length (rowG dn) (by rfl) (hown2.alloc _) ⟨w2.heap.size, 0, none⟩ 1 1 x.cells (by rfl) (by rfl) (World.news_of_block (cs := #[.int .i64 x.k, .int .i64 x.n, .string x.s, .slice x.a x.l x.c]) (t := 24) (fr := (0, 0)) (alloc_new w2 _)) (by simp [Got.cells, Value.oneCell']) (by omega) HB2 HB (by simp; omega) (w2.heap.size + 1) (by simp) ?_; intro gg cap w3 hown3 hgrow hat hlt
           have hs3 : w2.heap.size + 1 ≤ w3.heap.size := by have := hgrow.size; simpa using this
           have hv3 : w3.heap[w.heap.size + 1]? = some (.cells #[.int .i64 4, .int .i64 0, .string ⟨#[]⟩, ov] 24 (0, 0)) := by
             rw [hgrow.block _ (by simp; omega) (fun e => by have := row_block hown2 _ e.symm; omega), Below.heap_alloc _ _ _ (by omega), m2.block _ (by show w.heap.size + 1 < wr.heap.size; omega) (by omega)]
             exact HV.out
           have d3 : w3.cell? ⟨w.heap.size + 1, 3, none⟩ = some ov := cell_of hv3 3
           have f3 := free_of hv3 3
           have HV3 := toHid hv3
           clear hv3)
        | (go_simp
           go_at_call 19
           refine (G1.out B r _ hr' hB hT' hP').mono ?_
           rintro e w2 ⟨x, hxt, rfl, hxo, m2⟩
           have c3' : w2.cell? ⟨w.heap.size + 1, 3, none⟩ = some ov := by rw [m2.cell (by show w.heap.size + 1 < wr.heap.size; omega) (by show w.heap.size + 1 ≠ r; omega)]; exact c3
           have hs2 : wr.heap.size ≤ w2.heap.size := m2.size
           have c3'' : ∀ o, (w2.alloc o).cell? ⟨w.heap.size + 1, 3, none⟩ = some ov := fun o => by rw [cell_past _ _ _ _ (by omega)]; exact c3'
           have hown2 : w2.ownsRow (w.heap.size + 2) 24 4 ov dn.length (rowG dn) := row_kept hown (fun k hk hk' => m2.block k hk' (by omega))))
      all_goals
        have hv4 : (w3.setCell ⟨w.heap.size + 1, 3, none⟩ (.slice (some ⟨gg, 0, none⟩) (dn.length + 1) cap)).heap[w.heap.size + 1]? = some (.cells #[.int .i64 4, .int .i64 0, .string ⟨#[]⟩, .slice (some ⟨gg, 0, none⟩) (dn.length + 1) cap] 24 (0, 0)) := by
          have := HV3.out
          simp [World.setCell, Array.getElem?_modify, this]
        have m2' : Moved r text pe wr w2 := ⟨m2.os, m2.tape, m2.output, m2.size, m2.block, m2.here⟩
        have hm2 := hm.moved m2' (by show w.heap.size + 1 ≤ wr.heap.size; omega)
        have hb3 : Below (w.heap.size + 2) w2 w3 := ((Below.refl _ _).alloc (by omega) _).grown hgrow (by simp; omega) (fun k hk => row_block hown2 k hk)
        have hb4 : Below (w.heap.size + 1) w2 w3 := hb3.mono (by omega)
        have hm4 := hm2.below (hb4.setCell (p := ⟨w.heap.size + 1, 3, none⟩) (Nat.le_refl _) (.slice (some ⟨gg, 0, none⟩) (dn.length + 1) cap)) (by omega)
        have hown4 := ownsRow_setCell_below hown3 (a := ⟨w.heap.size + 1, 3, none⟩) (by show w.heap.size + 1 < w.heap.size + 2; omega) (.slice (some ⟨gg, 0, none⟩) (dn.length + 1) cap)
        have hs4 : w.heap.size + 2 ≤ (w3.setCell ⟨w.heap.size + 1, 3, none⟩ (.slice (some ⟨gg, 0, none⟩) (dn.length + 1) cap)).heap.size := by simp [World.setCell]; omega
        rw [← rowG_snoc] at hown4
        generalize w3.setCell ⟨w.heap.size + 1, 3, none⟩ (.slice (some ⟨gg, 0, none⟩) (dn.length + 1) cap) = W4 at hv4 hm4 hown4 hs4 ⊢
        have HV4 := toHid hv4
        clear hv4 d3 f3 HV3 hown3 hgrow hat hlt hs3 c3' c3'' hown2 m2 m2' hm2 hb3 hb4 c3 hm HV hown hr' hT' hP' HT HP HVV
        have hgp : (pe) ≤ text.size := by omega
        rcases G3.out with ⟨hm0, r1, r2, r3⟩ | ⟨k, hmk, hpe1, r1, r2, r3⟩
        · have R3 := toHid r3
          have cT : Hid (Calls Tryd.prog 31 #[.pointer (some ⟨r, 0, none⟩), .string ⟨#[93]⟩] W4 fun e w' => e = .returned (.bool false) ∧ Moved r text pe W4 w') := take_any r pe text ⟨#[93]⟩ W4 hm4.here hgp ht (by decide) false r1
          have cU : Hid (∀ W, Rd r text pe W → Calls Tryd.prog 31 #[.pointer (some ⟨r, 0, none⟩), .string ⟨#[44]⟩] W fun e w' => e = .returned (.bool false) ∧ Moved r text pe W w') := fun W hW => take_any r pe text ⟨#[44]⟩ W hW hgp ht (by decide) false r2
          clear r1 r2 r3 G1 G3
          go_wp2_with fail
          refine cT.out.mono ?_
          rintro e w5 ⟨rfl, m5⟩
          go_wp2_with fail
          refine (cU.out _ m5.here).mono ?_
          rintro e w6 ⟨rfl, m6⟩
          have m7 := m5.trans m6
          have q1 := m7.here.place
          have hr7 : r < w6.heap.size := m7.here.lt
          have ML : Lost r w w6 := hm4.lost m7.lost (by omega)
          have e3 := R3.out
          subst e3
          clear hm4 hown4 HV4 m5 m6 cT cU
          go_wp2_with fail
          exact ⟨rfl, rfl, ML⟩
        · have R3 := toHid r3
          have cT : Hid (Calls Tryd.prog 31 #[.pointer (some ⟨r, 0, none⟩), .string ⟨#[93]⟩] W4 fun e w' => e = .returned (.bool false) ∧ Moved r text pe W4 w') := take_any r pe text ⟨#[93]⟩ W4 hm4.here hgp ht (by decide) false r1
          have cU : Hid (∀ W, Rd r text pe W → Calls Tryd.prog 31 #[.pointer (some ⟨r, 0, none⟩), .string ⟨#[44]⟩] W fun e w' => e = .returned (.bool true) ∧ Moved r text (pe + 1) W w') := fun W hW => take_any r pe text ⟨#[44]⟩ W hW hgp ht (by decide) true r2
          clear r1 r2 r3 G1 G3
          go_wp2_with fail
          refine cT.out.mono ?_
          rintro e w5 ⟨rfl, m5⟩
          go_wp2_with fail
          refine (cU.out _ m5.here).mono ?_
          rintro e w6 ⟨rfl, m6⟩
          have m7 := m5.trans m6
          go_wp2_with fail
          go_roundg k
          case measure => omega
          case rel =>
            refine ⟨dn ++ [x], k, pe + 1, .slice (some ⟨gg, 0, none⟩) (dn.length + 1) cap, by simp; omega, Nat.le_refl _, R3.out, by have := m7.size; omega, hm4.moved m7 (by omega), ?_, ?_⟩
            · rw [m7.block _ (by omega) (by omega)]
              exact HV4.out
            · have := row_kept hown4 (fun k hk hk' => m7.block k hk' (by omega))
              simpa using this
end Go.Proofs.YtdbodcfodlbgnaaDoor
