/-
  What is proved here: what the texts KrK, KrOf, KoOf, KoBad prove, in one text.
-/
import Derived.Test.YtldpionmmplncaaDoorQOAT
import Derived.Test.YtldpionmmplncaaDoorQOAG
import Derived.Lib.ConvBytes
import Derived.Test.YtldpionmmplncaaDoorQOAQ
import Derived.Test.YtldpionmmplncaaDoorQOAS
import Derived.Test.YtldpionmmplncaaDoorQOAN
import Derived.Deep.DeepCutAuto
namespace Go.Proofs.YtldpionmmplncaaDoor
open Go.RowKit
set_option linter.unusedVariables false

def KN : List FN := [⟨1, [⟨#[65]⟩], [(⟨#[110]⟩, 5)]⟩, ⟨2, [], []⟩]
def KE : List FE := [⟨3, 1, 2, ⟨#[75]⟩⟩]

theorem KN_small : KN.length ≤ 40 ∧ ∀ y ∈ KN, y.small := by
  refine ⟨by decide, fun y hy => ?_⟩
  rcases List.mem_cons.1 hy with rfl | hy
  · refine ⟨by decide, ⟨by decide, fun s hs => ?_⟩, by decide, fun p hp => ?_⟩
    · obtain rfl := List.mem_singleton.1 hs
      decide
    · obtain rfl := List.mem_singleton.1 hp
      decide
  · obtain rfl := List.mem_singleton.1 hy
    exact ⟨by decide, ⟨by decide, fun s hs => by cases hs⟩, by decide, fun p hp => by cases hp⟩

theorem KE_small : KE.length ≤ 60 ∧ ∀ y ∈ KE, y.small := by
  refine ⟨by decide, fun y hy => ?_⟩
  obtain rfl := List.mem_singleton.1 hy
  exact ⟨by decide, by decide, by decide, by decide⟩

theorem check_R {b : Nat} {w : World} {na : Option Addr} {nc : Nat} {ea : Option Addr} {ec : Nat} (h : GrR b w na nc ea ec KN KE) (W : World) (kW : Below w.heap.size w W) :
    Calls Tryd.prog 35 #[.agg #[.slice na 2 nc, .slice ea 1 ec, .int .i64 4]] W fun e w' => e = .returned (.int .i64 0) ∧ Below W.heap.size W w' := by
  have h' : GrR b W na nc ea ec KN KE := h.kept fun k cs t _ hc _ => kW.block k (Array.getElem?_eq_some_iff.1 hc).1
  obtain ⟨⟨PN, h1, h2⟩, h3⟩ := h'
  have hlen : PN.length = 2 := h2.1
  match PN, hlen with
  | [p1, p2], _ =>
    have e1 := h2.2 0 p1 _ rfl rfl
    have e2 := h2.2 1 p2 _ rfl rfl
    have r1 := e1.reads (KN_small.2 _ (by simp [KN]))
    have r2 := e2.reads (KN_small.2 _ (by simp [KN]))
    obtain ⟨la, lc, pa, pc, rfl, _⟩ := e1
    obtain ⟨la2, lc2, pa2, pc2, rfl, _⟩ := e2
    have hNA := row_nodes h1
    have hEA : EdgesAt W (KE.map edF) ea 1 := by
      rw [rowG_is] at h3
      exact row_edges h3 (fun q hq => by
        obtain rfl := List.mem_singleton.1 hq
        decide)
    have := check_graph _ _ na 2 nc ea 1 ec 4 W hNA hEA (fun x hx w' k => by
      rcases List.mem_cons.1 hx with rfl | hx
      · exact ⟨labels_of name_any _ _ _ _ w' (r1.2.2.1.below k), props_of name_any _ _ _ _ w' (r1.2.2.2.1.below k) fun p hp w2 k2 => by
          obtain rfl := List.mem_singleton.1 hp
          exact val_K w2⟩
      · obtain rfl := List.mem_singleton.1 hx
        exact ⟨labels_of name_any _ _ _ _ w' (r2.2.2.1.below k), props_of name_any _ _ _ _ w' (r2.2.2.2.1.below k) fun p hp => by cases hp⟩) (fun x hx w' k => by
      obtain rfl := List.mem_singleton.1 hx
      exact props_E w' none 0)
    have hg : gE [ndOf ⟨1, [⟨#[65]⟩], [(⟨#[110]⟩, 5)]⟩ la lc pa pc, ndOf ⟨2, [], []⟩ la2 lc2 pa2 pc2] (KE.map edF) 4 = 0 := by
      have a1 := labs_K
      have a2 : prsE [prF (⟨#[110]⟩, 5)] = 0 := prs_K
      have a3 : labsE [] = 0 := by simp [labsE, labE]
      have a4 : prsE [] = 0 := by simp [prsE, prE]
      have a5 : nm ⟨#[75]⟩ = true := by decide
      have n1 : ndE 0 [ndOf ⟨1, [⟨#[65]⟩], [(⟨#[110]⟩, 5)]⟩ la lc pa pc, ndOf ⟨2, [], []⟩ la2 lc2 pa2 pc2] = 0 := by simp [ndE, ndOne, ndOf, a1, a2, a3, a4]
      have e1 : edE [ndOf ⟨1, [⟨#[65]⟩], [(⟨#[110]⟩, 5)]⟩ la lc pa pc, ndOf ⟨2, [], []⟩ la2 lc2 pa2 pc2] 0 (KE.map edF) = 0 := by simp [edE, edOne, KE, edF, hasN, ndOf, a4, a5]
      have l1 : lastI 0 ([ndOf ⟨1, [⟨#[65]⟩], [(⟨#[110]⟩, 5)]⟩ la lc pa pc, ndOf ⟨2, [], []⟩ la2 lc2 pa2 pc2].map Nd.id) = 2 := rfl
      have l2 : lastI 0 ((KE.map edF).map Ed.id) = 3 := rfl
      rw [gE, n1, e1, l1, l2]
      simp [KE]
    rw [hg] at this
    exact this

def KB : List UInt8 := gB 4 (KN.map FN.an) (KE.map FE.ae)

theorem bytes_bel (w : World) (e : TypeId) (s : ByteArray) : Below w.heap.size w (Lib.bytesWorld w e s) :=
  ⟨rfl, rfl, rfl, by rw [Lib.bytesWorld_size]; omega, fun k hk => Lib.bytesWorld_at_old w e s k hk⟩

theorem bytes_bt (w : World) (e : TypeId) (l : List UInt8) : BtAt (Lib.bytesWorld w e ⟨l.toArray⟩) w.heap.size 0 l := fun i x hx => by
  have hi : i < (⟨l.toArray⟩ : ByteArray).size := (List.getElem?_eq_some_iff.1 hx).1
  have := Lib.bytesWorld_cell w e ⟨l.toArray⟩ i hi
  rw [Nat.zero_add, this]
  simp [List.getD, hx]

theorem KN_w : ∀ x ∈ KN.map FN.an, NodeW x := by
  intro x hx
  obtain ⟨y, hy, rfl⟩ := List.mem_map.1 hx
  have h := KN_small.2 y hy
  refine ⟨⟨by show _ ≤ y.id; have := h.1.1; omega, by show y.id ≤ _; have := h.1.2; omega⟩, h.2.1.2, fun p hp => ?_⟩
  obtain ⟨q, hq, rfl⟩ := List.mem_map.1 hp
  have h2 := h.2.2.2 q hq
  exact ⟨h2.1, Ck.int 6 q.2 (by omega) (by omega)⟩

theorem KE_w : ∀ x ∈ KE.map FE.ae, EdgeW x := by
  intro x hx
  obtain ⟨y, hy, rfl⟩ := List.mem_map.1 hx
  have h := KE_small.2 y hy
  refine ⟨⟨⟨by show _ ≤ y.id; have := h.1.1; omega, by show y.id ≤ _; have := h.1.2; omega⟩, ⟨by show _ ≤ y.frm; have := h.2.1.1; omega, by show y.frm ≤ _; have := h.2.1.2; omega⟩, ⟨by show _ ≤ y.dst; have := h.2.2.1.1; omega, by show y.dst ≤ _; have := h.2.2.1.2; omega⟩⟩, h.2.2.2, fun p hp => by cases hp⟩

theorem KB_len : KB.length ≤ 1000 := by decide +kernel

set_option maxHeartbeats 4000000 in
set_option maxRecDepth 100000 in
theorem ofGraph_K (w : World) :
    Calls Tryd.prog 16 #[.string ⟨KB.toArray⟩] w fun e w' => (∃ na nc ea ec, e = .returned (.tuple #[.agg #[.slice na 2 nc, .slice ea 1 ec, .int .i64 4], .int .i64 0]) ∧ NsAt w' (KN.map FN.an) na 2 ∧ EsAt w' (KE.map FE.ae) ea 1) ∧ Below w.heap.size w w' := by
  obtain ⟨L, hL⟩ : ∃ L, L = KB := ⟨_, rfl⟩
  rw [← hL]
  have HL := toHid hL
  have hlen : L.length ≤ 1000 := by rw [hL]; exact KB_len
  clear hL
  obtain ⟨s, hs⟩ : ∃ s : ByteArray, s = ⟨L.toArray⟩ := ⟨_, rfl⟩
  rw [← hs]
  have hsz : s.size = L.length := by rw [hs]; rfl
  have HS := toHid hs
  clear hs
  have kc : ∀ (w : World), (convert 9 41 (.string s)).run Tryd.prog w = .ok (.slice (some ⟨w.heap.size, 0, none⟩) s.size (grownCap w s.size 0 5)) (Lib.bytesWorld w 5 s) := fun w => Lib.run_convert_string_bytes w _ _ _ s Tryd.underlying9 Tryd.underlying41 Tryd.underlying5
  have kA : Below w.heap.size w (w.alloc (.cells #[.slice none 0 0, .slice none 0 0, .int .i64 0] 56)) := (Below.refl _ _).alloc (Nat.le_refl _) _
  have HA := toHid (alloc_new w (.cells #[.slice none 0 0, .slice none 0 0, .int .i64 0] 56))
  have hzA : (w.alloc (.cells #[.slice none 0 0, .slice none 0 0, .int .i64 0] 56)).heap.size = w.heap.size + 1 := by simp
  have HZA := toHid hzA
  clear hzA
  go_enter Tryd.func16, Tryd.ntmps16
  go_upto_region 1 with fail
  generalize w.alloc (.cells #[.slice none 0 0, .slice none 0 0, .int .i64 0] 56) = WA at kA HA HZA ⊢
  have hbB := bytes_bel WA 5 s
  have hzB : (Lib.bytesWorld WA 5 s).heap.size = WA.heap.size + 1 := Lib.bytesWorld_size WA _ s
  have HZB := toHid hzB
  clear hzB
  have hbt : BtAt (Lib.bytesWorld WA 5 s) WA.heap.size 0 L := by rw [HS.out]; exact bytes_bt WA _ L
  have hcap := grownCap_ge WA L.length 0 5
  go_upto_region 2 with fail
  have HA1 := toHid ((hbB.block w.heap.size (by rw [HZA.out]; omega)).trans HA.out)
  have HK1 := toHid (kA.trans (hbB.mono kA.size))
  generalize Lib.bytesWorld WA 5 s = WB at hbB HZB hbt HA1 HK1 ⊢
  have hzB := HZB.out
  have kC : Below WB.heap.size WB (WB.alloc (.cells #[.slice (some ⟨WA.heap.size, 0, none⟩) L.length (grownCap WA L.length 0 5), .int .i64 0] 48)) := (Below.refl _ _).alloc (Nat.le_refl _) _
  have hzA := HZA.out
  have HRD : Hid (Rd WB.heap.size (WB.alloc (.cells #[.slice (some ⟨WA.heap.size, 0, none⟩) L.length (grownCap WA L.length 0 5), .int .i64 0] 48)) (KB ++ []) 0) := by
    show Rd _ _ _ _
    rw [List.append_nil, ← HL.out]
    exact ⟨WA.heap.size, 0, _, alloc_new WB _, by omega, hcap, by omega, fun i x hx => (World.cell?_of_block (kC.block WA.heap.size (by omega))).trans (hbt i x hx)⟩
  have HA2 := toHid ((kC.block w.heap.size (by omega)).trans HA1.out)
  have HK2 := toHid (HK1.out.trans (kC.mono (by omega)))
  have hzC : (WB.alloc (.cells #[.slice (some ⟨WA.heap.size, 0, none⟩) L.length (grownCap WA L.length 0 5), .int .i64 0] 48)).heap.size = WB.heap.size + 1 := by simp
  have HZC := toHid hzC
  obtain ⟨b, hb⟩ : ∃ b, b = WB.heap.size := ⟨_, rfl⟩
  rw [← hb] at HRD HZC
  rw [← hb]
  have hwb : w.heap.size < b := by omega
  clear hbt kc hzC hzA hzB hb
  generalize WB.alloc (.cells #[.slice (some ⟨WA.heap.size, 0, none⟩) L.length (grownCap WA L.length 0 5), .int .i64 0] 48) = WC at kC HRD HA2 HK2 HZC ⊢
  have HBG : Hid (Calls Tryd.prog 38 #[.func (.func 39) #[.pointer (some ⟨b, 0, none⟩)] #[]] WC fun e w' => (∃ na nc ea ec, e = .returned (.tuple #[.agg #[.slice na 2 nc, .slice ea 1 ec, .int .i64 4], .bool true]) ∧ GrR b w' na nc ea ec KN KE) ∧ Below b WC w' ∧ Rf b WC w') := begin_any b WC KN KE 4 0 KN_small KE_small (by decide) HRD.out
  go_wp2_with fail
  refine HBG.out.mono ?_
  rintro e u1 ⟨⟨na, nc, ea, ec, rfl, hGr⟩, hb1, hf1⟩
  have HGR := toHid hGr
  have HA3 := toHid ((hf1 w.heap.size (by rw [HZC.out]; omega) (by omega)).trans HA2.out)
  have HK3 := toHid (HK2.out.trans (hb1.mono (Nat.le_of_lt hwb)))
  have z1 : w.heap.size < u1.heap.size := (Array.getElem?_eq_some_iff.1 HA3.out).1
  have kD : Below u1.heap.size u1 (u1.alloc (.cells #[.slice na 2 nc, .slice ea 1 ec, .int .i64 4] 56)) := (Below.refl _ _).alloc (Nat.le_refl _) _
  have HD := toHid (alloc_new u1 (.cells #[.slice na 2 nc, .slice ea 1 ec, .int .i64 4] 56))
  have hzD : (u1.alloc (.cells #[.slice na 2 nc, .slice ea 1 ec, .int .i64 4] 56)).heap.size = u1.heap.size + 1 := by simp
  have HZD := toHid hzD
  have HA4 := toHid ((kD.block w.heap.size z1).trans HA3.out)
  have HK4 := toHid (HK3.out.trans (kD.mono (Nat.le_of_lt z1)))
  clear hGr hb1 hf1 HBG hzD
  go_upto_region 5 with fail
  generalize u1.alloc (.cells #[.slice na 2 nc, .slice ea 1 ec, .int .i64 4] 56) = WD at kD HD HZD HA4 HK4 ⊢
  have z2 : u1.heap.size < WD.heap.size := by rw [HZD.out]; omega
  have HRR := toHid (HGR.out.reads KN_small.2 KE_small.2)
  have HPK : Hid (Calls Tryd.prog 14 #[.agg #[.slice na 2 nc, .slice ea 1 ec, .int .i64 4]] WD fun e w' => e = .returned (.tuple #[.string s, .int .i64 0]) ∧ Below WD.heap.size WD w') := by
    have := pack_good WD na 2 nc ea 1 ec 4 (KN.map FN.an) (KE.map FE.ae) (fun W kW => check_R HGR.out W (below2 kD kW)) (HRR.out.1.below kD) (HRR.out.2.below kD) KN_w KE_w (by decide) (by have := KB_len; show KB.length ≤ _; omega)
    rw [HS.out, HL.out]
    exact this
  have r0 := cell_of HD.out 0
  have r1 := cell_of HD.out 1
  have r2 := cell_of HD.out 2
  simp at r0 r1 r2
  go_wp2_with fail
  refine HPK.out.mono ?_
  rintro e u2 ⟨rfl, k2⟩
  have HD2 := toHid ((k2.block u1.heap.size z2).trans HD.out)
  have HA5 := toHid ((k2.block w.heap.size (by omega)).trans HA4.out)
  have HK5 := toHid (HK4.out.trans (k2.mono (by omega)))
  have HG2 := toHid (HGR.out.kept (w' := u2) fun k cs t _ hc _ => (below2 kD k2).block k (Array.getElem?_eq_some_iff.1 hc).1)
  have z3 : u1.heap.size < u2.heap.size := (Array.getElem?_eq_some_iff.1 HD2.out).1
  have z4 : w.heap.size < u2.heap.size := by omega
  clear r0 r1 r2 k2 HPK
  have r0 := cell_of HD2.out 0
  have r1 := cell_of HD2.out 1
  have r2 := cell_of HD2.out 2
  simp at r0 r1 r2
  have d0 := cell_of HA5.out 0
  have d1 := cell_of HA5.out 1
  have d2 := cell_of HA5.out 2
  have f0 := free_of HA5.out 0
  have f1 := free_of HA5.out 1
  have f2 := free_of HA5.out 2
  simp at d0 d1 d2
  have hss : (s.toList != s.toList) = false := by simp
  go_wp2_with fail
  have eP : ((u2.setCell ⟨w.heap.size, 0, none⟩ (.slice na 2 nc)).setCell ⟨w.heap.size, 1, none⟩ (.slice ea 1 ec)).setCell ⟨w.heap.size, 2, none⟩ (.int .i64 4) = putL u2 w.heap.size 0 [.slice na 2 nc, .slice ea 1 ec, .int .i64 4] := rfl
  rw [eP]
  have EBX := box3R HA5.out rfl (.slice na 2 nc) (.slice ea 1 ec) (.int .i64 4)
  have hbY : Below w.heap.size u2 (putL u2 w.heap.size 0 [.slice na 2 nc, .slice ea 1 ec, .int .i64 4]) := putL_bel w.heap.size _ _ u2
  have hYo : ∀ j, j ≠ w.heap.size → (putL u2 w.heap.size 0 [.slice na 2 nc, .slice ea 1 ec, .int .i64 4]).heap[j]? = u2.heap[j]? := fun j hj => putL_other _ _ _ _ j hj
  generalize putL u2 w.heap.size 0 [.slice na 2 nc, .slice ea 1 ec, .int .i64 4] = Y at EBX hbY hYo ⊢
  have t0 := cell_of EBX 0
  have t1 := cell_of EBX 1
  have t2 := cell_of EBX 2
  simp at t0 t1 t2
  have HGY := toHid ((HG2.out.kept (w' := Y) fun k cs t hb hc ht => hYo k (fun e => by
    subst e
    rw [HA5.out] at hc
    injection hc with hc
    injection hc with _ e2 _
    exact ht e2.symm)).reads KN_small.2 KE_small.2)
  exact bodyPost_ret (v := .tuple #[.agg #[.slice na 2 nc, .slice ea 1 ec, .int .i64 4], .int .i64 0]) (by simp [results, Tryd.results16, go_sem, t0, t1, t2]) rfl ⟨⟨na, nc, ea, ec, rfl, HGY.out.1, HGY.out.2⟩, HK5.out.trans hbY⟩

/-- What OfOps answers. -/
def OfEndO (w' : World) (L : List UInt8) (e : Ending) : Prop :=
  (∃ a n c X, e = .returned (.tuple #[.slice a n c, .int .i64 0]) ∧ OsAt w' X a n ∧ OkOs X ∧ osB X = L) ∨
  (e = .returned (.tuple #[.slice none 0 0, .int .i64 11]) ∧ ∀ X, OkOs X → osB X ≠ L)

theorem RLO.reads {w w' : World} {X : List AO} {v : Value} (h : RLO w w' X v) : ∃ a c, v = .slice a X.length c ∧ OsAt w' X a X.length ∧ ∀ x ∈ X, OpR x := by
  obtain ⟨P, hown, hpr⟩ := h
  obtain ⟨a, c, rfl, hlc⟩ := slice_of_row hown
  refine ⟨a, c, rfl, ⟨P, ?_, hpr.mono fun _ _ _ _ hp => hp.reads⟩, fun x hx => ?_⟩
  · rw [← hpr.1] at hown ⊢
    exact row_ops hown
  · obtain ⟨i, hi⟩ := List.getElem?_of_mem hx
    obtain ⟨p, _, hp⟩ := hpr.right hi
    obtain ⟨⟨h1, h2, h3, h4⟩, _⟩ := hp
    exact ⟨h1.2, h2.2, h3.2, h4.2⟩

set_option maxHeartbeats 4000000 in
set_option maxRecDepth 100000 in
theorem ofOps_gen (B : Nat) (w : World) (hB : B ≤ w.heap.size) (hT : Tabs B w) (L : List UInt8) (hlen : L.length ≤ 100000000000000) (hW : OsLow L) :
    Calls Tryd.prog 5 #[.string ⟨L.toArray⟩] w fun e w' => OfEndO w' L e ∧ Below w.heap.size w w' := by
  have HT := toHid hT
  have HW := toHid hW
  clear hT hW
  obtain ⟨s, hs⟩ : ∃ s : ByteArray, s = ⟨L.toArray⟩ := ⟨_, rfl⟩
  rw [← hs]
  have hsz : s.size = L.length := by rw [hs]; rfl
  have HS := toHid hs
  clear hs
  have kc : ∀ (w : World), (convert 9 41 (.string s)).run Tryd.prog w = .ok (.slice (some ⟨w.heap.size, 0, none⟩) s.size (grownCap w s.size 0 5)) (Lib.bytesWorld w 5 s) := fun w => Lib.run_convert_string_bytes w _ _ _ s Tryd.underlying9 Tryd.underlying41 Tryd.underlying5
  have hbB := bytes_bel w 5 s
  have hzB : (Lib.bytesWorld w 5 s).heap.size = w.heap.size + 1 := Lib.bytesWorld_size w _ s
  have HZB := toHid hzB
  clear hzB
  have hbt : BtAt (Lib.bytesWorld w 5 s) w.heap.size 0 L := by rw [HS.out]; exact bytes_bt w _ L
  have hcap := grownCap_ge w L.length 0 5
  go_enter Tryd.func5, Tryd.ntmps5
  go_upto_region 2 with fail
  generalize Lib.bytesWorld w 5 s = WB at hbB HZB hbt ⊢
  have hzB := HZB.out
  have kC : Below WB.heap.size WB (WB.alloc (.cells #[.slice (some ⟨w.heap.size, 0, none⟩) L.length (grownCap w L.length 0 5), .int .i64 0] 48)) := (Below.refl _ _).alloc (Nat.le_refl _) _
  have HRD : Hid (Rd WB.heap.size (WB.alloc (.cells #[.slice (some ⟨w.heap.size, 0, none⟩) L.length (grownCap w L.length 0 5), .int .i64 0] 48)) L 0) := ⟨w.heap.size, 0, _, alloc_new WB _, by omega, hcap, by omega, fun i x hx => (World.cell?_of_block (kC.block w.heap.size (by omega))).trans (hbt i x hx)⟩
  have HK2 := toHid (hbB.trans (kC.mono (by omega)))
  obtain ⟨b, hb⟩ : ∃ b, b = WB.heap.size := ⟨_, rfl⟩
  rw [← hb] at HRD
  rw [← hb]
  have hwb : w.heap.size < b := by omega
  clear hbt kc hzB hb
  generalize WB.alloc (.cells #[.slice (some ⟨w.heap.size, 0, none⟩) L.length (grownCap w L.length 0 5), .int .i64 0] 48) = WC at kC HRD HK2 ⊢
  have HBG := toHid (beginO_gen b WC L HRD.out)
  go_wp2_with fail
  refine HBG.out.mono ?_
  rintro e u1 ⟨⟨X, r, v, ho, rfl, hRL⟩ | ⟨ho, rfl⟩, hb1, hf1⟩
  rotate_left
  · have HK3 := toHid (HK2.out.trans (hb1.mono (Nat.le_of_lt hwb)))
    have HTN : Hid (∀ X, OkOs X → osB X ≠ L) := fun X hr he => by
      have := osP_os hr
      rw [he, ho] at this
      cases this
    clear hb1 hf1 HBG ho
    go_wp2_with fail
    go_ret2
    exact ⟨.inr ⟨rfl, HTN.out⟩, HK3.out⟩
  have HK3 := toHid (HK2.out.trans (hb1.mono (Nat.le_of_lt hwb)))
  obtain ⟨a, c, rfl, hO, hR⟩ := hRL.reads
  have hw1 : Below w.heap.size w u1 := HK3.out
  have hlow := HW.out X r ho
  obtain ⟨P, p1, p2, p3⟩ := ops_e B (Nat.le_trans hB hw1.size) (HT.out.below (hw1.mono hB)) hO hR (fun x hx => (hlow x hx).1)
  have HONE : Hid (∀ Y, OkOs Y → osB Y = L → Y = X) := fun Y hr he => by
    have := osP_os hr
    rw [he, ho] at this
    simp only [Option.some.injEq, Prod.mk.injEq] at this
    exact this.1.symm
  obtain ⟨n, hn⟩ : ∃ n, n = X.length := ⟨_, rfl⟩
  rw [← hn] at hO p1 ⊢
  have HO := toHid hO
  clear hb1 hf1 HBG ho hR hw1 hRL hn hO
  by_cases hr : OkOs X
  · have HR := toHid hr
    have HPK := toHid (ops_own (c := c) B (Nat.le_trans hB HK3.out.size) (HT.out.below (HK3.out.mono hB)) HO.out hr (osB_len hr (fun x hx => ⟨by have := (hlow x hx).2.1; omega, fun q hq => by have := (hlow x hx).2.2 q hq; omega⟩)))
    obtain ⟨t, ht⟩ : ∃ t : ByteArray, t = ⟨(osB X).toArray⟩ := ⟨_, rfl⟩
    rw [← ht] at HPK
    have HT2 := toHid ht
    clear hr p1 p2 p3 hlow ht
    go_wp2_with fail
    refine HPK.out.mono ?_
    rintro e u2 ⟨rfl, k2⟩
    have HK4 := toHid (below2 HK3.out k2)
    have HO2 := toHid (HO.out.below k2)
    clear k2 HPK
    by_cases hts : osB X = L
    · have hss : (t.toList == s.toList) = true := by rw [HS.out, HT2.out, hts]; simp
      have HTS := toHid hts
      clear hts
      go_wp2_with fail
      go_ret2
      exact ⟨.inl ⟨a, n, c, X, rfl, HO2.out, HR.out, HTS.out⟩, HK4.out⟩
    · have hss : (t.toList == s.toList) = false := by
        simp only [beq_eq_false_iff_ne, ne_eq]
        intro h
        have h2 := bytes_ext h
        rw [HS.out, HT2.out] at h2
        injection h2 with h2
        have := congrArg Array.toList h2
        exact hts (by simpa using this)
      have HNO : Hid (∀ Y, OkOs Y → osB Y ≠ L) := fun Y hY he => hts (by rw [← HONE.out Y hY he]; exact he)
      clear hts
      go_wp2_with fail
      go_ret2
      exact ⟨.inr ⟨rfl, HNO.out⟩, HK4.out⟩
  · have he0 : opsE P ≠ 0 := fun h => hr (p3.1 h)
    have HNO : Hid (∀ Y, OkOs Y → osB Y ≠ L) := fun Y hY he => hr (by rw [← HONE.out Y hY he]; exact hY)
    have HPK := toHid (ops_any P X a n c u1 ⟨#[]⟩ p1 p2 (fun h => absurd h he0) (fun _ => rfl))
    have he2 : (opsE P != 0) = true := by simpa using he0
    clear p1 p2 p3 hr hlow he0
    go_wp2_with fail
    refine HPK.out.mono ?_
    rintro e u2 ⟨rfl, k2⟩
    have HK4 := toHid (below2 HK3.out k2)
    clear k2 HPK
    go_wp2_with fail
    go_ret2
    exact ⟨.inr ⟨rfl, HNO.out⟩, HK4.out⟩

set_option maxHeartbeats 8000000 in
set_option maxRecDepth 100000 in
theorem right_chk {w : World} {q : Pr} (h : PrOk w q) (W : World) (k : Below w.heap.size w W) :
    Calls Tryd.prog 18 #[.agg #[.int .i64 q.k, .int .i64 q.n, .string q.s, .slice q.a q.l q.c]] W fun e w' => e = .returned (.bool (q.e == 0)) ∧ Below W.heap.size W w' := by
  obtain ⟨hs, L, _, _, hb, _⟩ := h
  have HC : Hid (∀ W', Below W.heap.size W W' → Calls Tryd.prog 44 #[.agg #[.int .i64 q.k, .int .i64 q.n, .string q.s, .slice q.a q.l q.c], .int .i64 1] W' fun e w' => e = .returned (.int .i64 q.e) ∧ Below W'.heap.size W' w') := fun W' k' => (hb W' (below2 k k')).2
  have b0 : Below W.heap.size W (W.alloc (.cells #[.int .i64 q.k, .int .i64 q.n, .string q.s, .slice q.a q.l q.c] 34)) := (Below.refl _ _).alloc (Nat.le_refl _) _
  clear hb hs
  go_enter Tryd.func18, Tryd.ntmps18
  go_wp2_with fail
  refine (HC.out _ b0).mono ?_
  rintro e w1 ⟨rfl, k1⟩
  have c1 := below2 b0 k1
  go_wp2_with fail
  go_ret
  exact ⟨rfl, c1⟩

theorem long_step {α : Type} {f : α → Bool} {L : List α} {i : Nat} {x : α} (h : L[i]? = some x) (l0 : Bool) : (l0 || !((L.take (i + 1)).all f)) = ((l0 || !((L.take i).all f)) || !(f x)) := by
  rw [List.take_add_one, h, List.all_append]
  cases l0 <;> cases hh : (L.take i).all f <;> simp

set_option maxHeartbeats 8000000 in
set_option maxRecDepth 100000 in
theorem badOps_any (P : List Oq) (a : Option Addr) (n c : Nat) (w : World) (hP : OpsAt w P a n) (hok : ∀ p ∈ P, OOk w p) :
    Calls Tryd.prog 7 #[.slice a n c] w fun e w' => e = .returned (.int .i64 (opsE P)) ∧ Below w.heap.size w w' := by
  obtain ⟨R, hR⟩ : ∃ R, R = opsE P := ⟨_, rfl⟩
  rw [← hR]
  have HR := toHid hR
  have HP := toHid hP
  have HOK := toHid hok
  have HN := toHid hP.1
  have hnm := hP.2.1
  clear hR hP hok
  by_cases h1 : 20 < n
  · have h1' : (20 : Int) < n := by omega
    have H3 := toHid (show R = 2 by rw [HR.out, opsE, if_pos (by have := HN.out; omega)])
    go_enter Tryd.func7, Tryd.ntmps7
    go_wp2_with fail
    go_ret
    exact ⟨ret_int (by rw [H3.out]), Below.refl _ _⟩
  have h1' : ¬ (20 : Int) < n := by omega
  have HR1 : Hid (R = if P.all fitO then 0 else 6) := by
    show _ = _
    rw [HR.out, opsE, if_neg (by have := HN.out; omega)]
  clear HR
  go_enter Tryd.func7, Tryd.ntmps7
  go_wp2_with fail
  go_loopg [15] n (fun g s15 wr => ∃ (i : Nat), i ≤ n ∧ n - i ≤ g ∧ s15 = .int .i64 i ∧ Below w.heap.size w wr ∧ (P.take i).all fitO = true)
  case atStart => exact ⟨0, Nat.zero_le _, by omega, rfl, Below.refl _ _, by simp⟩
  case round =>
    obtain ⟨i, hi, hg, rfl, hbw, hal⟩ := hrel
    have HAL := toHid hal
    clear hal
    by_cases hlt : i < n
    rotate_left
    · have hil : ¬ (i : Int) < n := by omega
      have H3 := toHid (show R = 0 by rw [HR1.out, all_end (i := i) (by have := HN.out; omega) HAL.out]; rfl)
      go_wp2_with fail
      go_ret
      exact ⟨ret_int (by rw [H3.out]), hbw⟩
    have hil : (i : Int) < n := by omega
    obtain ⟨nb0, off0, ha, hnb, hc⟩ := HP.out.2.2 (by omega)
    obtain ⟨p, hp⟩ : ∃ p, P[i]? = some p := ⟨P[i]'(by rw [← HN.out]; exact hlt), List.getElem?_eq_getElem _⟩
    obtain ⟨c0, c1, c2, c3, c4, c5, c6, c7, c8, c9, c10⟩ := hc i p hp
    have hoo := HOK.out p (List.mem_of_getElem? hp)
    obtain ⟨pk, pid, pfrm, pdst, pr, labs, la, ll, lc, props, pa, pl, pc⟩ := p
    obtain ⟨⟨hnl, hpr⟩, hS, hQ, hqq⟩ := hoo
    dsimp only at c0 c1 c2 c3 c4 c5 c6 c7 c8 c9 c10 hnl hpr hS hQ hqq
    have q0 : ∀ o, wr.cell? ⟨nb0, o, none⟩ = w.cell? ⟨nb0, o, none⟩ := fun o => hbw.cell (p := ⟨nb0, o, none⟩) hnb
    have d0 := (q0 _).trans c0
    have d1 := (q0 _).trans c1
    have d2 := (q0 _).trans c2
    have d3 := (q0 _).trans c3
    have d4 := (q0 _).trans c4
    have d5 := (q0 _).trans c5
    have d6 := (q0 _).trans c6
    have d7 := (q0 _).trans c7
    have d8 := (q0 _).trans c8
    have d9 := (q0 _).trans c9
    have d10 := (q0 _).trans c10
    have HY := toHid hp
    have HFO : Hid (fitO ⟨pk, pid, pfrm, pdst, pr, labs, la, ll, lc, props, pa, pl, pc⟩ = (decide (pr.name.size ≤ 12) && (decide (labs.length ≤ 4) && (decide (props.length ≤ 6) && ((pr.e == 0) && (labs.all fitS && props.all fitP)))))) := rfl
    have HLL := toHid hS.1
    have HPL := toHid hQ.1
    have hlm := hS.2.1
    have hpm := hQ.2.1
    have HS := toHid hS
    have HQ := toHid hQ
    have HQQ := toHid hqq
    have HC := toHid (right_chk hpr)
    clear hc c0 c1 c2 c3 c4 c5 c6 c7 c8 c9 c10 hp q0 hS hQ hqq hpr
    subst ha
    have kP : Below wr.heap.size wr (wr.alloc (.cells #[.int .i64 pk, .int .i64 pid, .int .i64 pfrm, .int .i64 pdst, .string pr.name, .int .i64 pr.k, .int .i64 pr.n, .string pr.s, .slice pr.a pr.l pr.c, .slice la ll lc, .slice pa pl pc] 38)) := (Below.refl _ _).alloc (Nat.le_refl _) _
    have HB := toHid (alloc_new wr (.cells #[.int .i64 pk, .int .i64 pid, .int .i64 pfrm, .int .i64 pdst, .string pr.name, .int .i64 pr.k, .int .i64 pr.n, .string pr.s, .slice pr.a pr.l pr.c, .slice la ll lc, .slice pa pl pc] 38))
    have HKP := toHid (below2 hbw kP)
    go_upto_region 6 with fail
    generalize wr.alloc (.cells #[.int .i64 pk, .int .i64 pid, .int .i64 pfrm, .int .i64 pdst, .string pr.name, .int .i64 pr.k, .int .i64 pr.n, .string pr.s, .slice pr.a pr.l pr.c, .slice la ll lc, .slice pa pl pc] 38) = WP at kP HB HKP ⊢
    clear d0 d1 d2 d3 d4 d5 d6 d7 d8 d9 d10 kP hbw
    generalize wr.heap.size = bx at HB ⊢
    have zx : bx < WP.heap.size := (Array.getElem?_eq_some_iff.1 HB.out).1
    have t4 := cell_of HB.out 4
    have t5 := cell_of HB.out 5
    have t6 := cell_of HB.out 6
    have t7 := cell_of HB.out 7
    have t8 := cell_of HB.out 8
    have t9 := cell_of HB.out 9
    have t10 := cell_of HB.out 10
    simp at t4 t5 t6 t7 t8 t9 t10
    obtain ⟨l0, hl0⟩ : ∃ l0 : Bool, l0 = !(decide (pr.name.size ≤ 12) && (decide (labs.length ≤ 4) && (decide (props.length ≤ 6) && (pr.e == 0)))) := ⟨_, rfl⟩
    have HL0 := toHid hl0
    clear hl0
    go_cut [5] (fun s5 wx => s5 = .bool l0 ∧ Below WP.heap.size WP wx)
    case first =>
      by_cases b1 : 12 < pr.name.size
      · have b1' : (12 : Int) < pr.name.size := by omega
        have H3 : l0 = true := by rw [HL0.out, decide_eq_false (by omega)]; rfl
        subst H3
        clear HL0
        go_wp2_with fail
        go_meet
        exact ⟨rfl, Below.refl _ _⟩
      have b1' : ¬ (12 : Int) < pr.name.size := by omega
      by_cases b2 : 4 < ll
      · have b2' : (4 : Int) < ll := by omega
        have H3 : l0 = true := by rw [HL0.out, decide_eq_false (p := labs.length ≤ 4) (by have := HLL.out; omega)]; simp
        subst H3
        clear HL0
        go_wp2_with fail
        go_meet
        exact ⟨rfl, Below.refl _ _⟩
      have b2' : ¬ (4 : Int) < ll := by omega
      by_cases b3 : 6 < pl
      · have b3' : (6 : Int) < pl := by omega
        have H3 : l0 = true := by rw [HL0.out, decide_eq_false (p := props.length ≤ 6) (by have := HPL.out; omega)]; simp
        subst H3
        clear HL0
        go_wp2_with fail
        go_meet
        exact ⟨rfl, Below.refl _ _⟩
      have b3' : ¬ (6 : Int) < pl := by omega
      have H3 : l0 = !(pr.e == 0) := by
        rw [HL0.out, decide_eq_true (by omega), decide_eq_true (p := labs.length ≤ 4) (by have := HLL.out; omega), decide_eq_true (p := props.length ≤ 6) (by have := HPL.out; omega)]
        rfl
      have HL1 := toHid H3
      have HCC := toHid (HC.out WP HKP.out)
      clear HL0 H3
      generalize hz : (pr.e == 0) = z at HL1 HCC
      clear hz
      go_wp2_with fail
      refine HCC.out.mono ?_
      rintro e w1 ⟨rfl, k1⟩
      have HK1 := toHid k1
      clear k1 HCC
      go_wp2_with fail
      go_meet
      exact ⟨by rw [HL1.out], HK1.out⟩
    case rest =>
      obtain ⟨rfl, kx⟩ := hcut
      have HBx := toHid ((kx.block bx zx).trans HB.out)
      have HKx := toHid (below2 HKP.out kx)
      have zc : bx < wc.heap.size := (Array.getElem?_eq_some_iff.1 HBx.out).1
      clear kx HB HKP t4 t5 t6 t7 t8 t9 t10 HC
      have t9 := cell_of HBx.out 9
      have t10 := cell_of HBx.out 10
      simp at t9 t10
      generalize hwc : wc = W1 at HBx HKx zc t9 t10 ⊢
      clear hwc
      go_wp2_with fail
      go_loopg [5, 44] ll (fun g s5 s44 wq => ∃ (j : Nat) (lg : Bool), j ≤ ll ∧ ll - j ≤ g ∧ s44 = .int .i64 j ∧ s5 = .bool lg ∧ W1 = wq ∧ lg = (l0 || !((labs.take j).all fitS)))
      case atStart => exact ⟨0, l0, Nat.zero_le _, by omega, rfl, rfl, rfl, by simp⟩
      case round =>
        obtain ⟨j, lg, hj, hgj, rfl, rfl, rfl, hlg⟩ := hrel
        have HLG := toHid hlg
        clear hlg
        by_cases hlj : j < ll
        · have hjl : (j : Int) < ll := by omega
          obtain ⟨nb, off, ha, hnb, hc⟩ := HS.out.2.2 (by omega)
          obtain ⟨y, hy⟩ : ∃ y, labs[j]? = some y := ⟨labs[j]'(by rw [← HLL.out]; exact hlj), List.getElem?_eq_getElem _⟩
          obtain ⟨hs, c0⟩ := hc j y hy
          have d0 := (HKx.out.cell (p := ⟨nb, off + j, none⟩) hnb).trans c0
          have HYY := toHid hy
          have HST := toHid (long_step (f := fitS) hy l0)
          clear hc c0 hy
          subst ha
          cases lg with
          | true =>
            go_wp2_with fail
            go_roundg (ll - (j + 1))
            case measure => omega
            case rel => exact ⟨j + 1, true, by omega, by omega, by go_num, rfl, rfl, by rw [HST.out, ← HLG.out]; rfl⟩
          | false =>
            by_cases hsz : 12 < y.size
            · have hsz' : (12 : Int) < y.size := by omega
              go_wp2_with fail
              go_roundg (ll - (j + 1))
              case measure => omega
              case rel => exact ⟨j + 1, true, by omega, by omega, by go_num, rfl, rfl, by rw [HST.out, ← HLG.out, show fitS y = false by simp [fitS]; omega]; rfl⟩
            · have hsz' : ¬ (12 : Int) < y.size := by omega
              go_wp2_with fail
              go_roundg (ll - (j + 1))
              case measure => omega
              case rel => exact ⟨j + 1, false, by omega, by omega, by go_num, rfl, rfl, by rw [HST.out, ← HLG.out, show fitS y = true by simp [fitS]; omega]; rfl⟩
        · have hjl : ¬ (j : Int) < ll := by omega
          have HL2 : Hid (lg = (l0 || !(labs.all fitS))) := by
            show _ = _
            rw [HLG.out, List.take_of_length_le (by have := HLL.out; omega)]
          clear HLG
          go_wp2_with fail
          go_loopg [5, 58] pl (fun g s5 s58 wq => ∃ (m : Nat) (lh : Bool), m ≤ pl ∧ pl - m ≤ g ∧ s58 = .int .i64 m ∧ s5 = .bool lh ∧ Below w.heap.size w wq ∧ lh = (lg || !((props.take m).all fitP)))
          case atStart => exact ⟨0, lg, Nat.zero_le _, by omega, rfl, rfl, HKx.out, by simp⟩
          case round =>
            obtain ⟨m, lh, hm, hgm, rfl, rfl, hbq, hlh⟩ := hrel
            have HLH := toHid hlh
            clear hlh
            by_cases hlm2 : m < pl
            · have hml : (m : Int) < pl := by omega
              obtain ⟨nb, off, ha, hnb, hc⟩ := HQ.out.2.2 (by omega)
              obtain ⟨q, hq⟩ : ∃ q, props[m]? = some q := ⟨props[m]'(by rw [← HPL.out]; exact hlm2), List.getElem?_eq_getElem _⟩
              obtain ⟨hs, c0, c1, c2, c3, c4⟩ := hc m q hq
              have qq : ∀ o, wr.cell? ⟨nb, o, none⟩ = w.cell? ⟨nb, o, none⟩ := fun o => hbq.cell (p := ⟨nb, o, none⟩) hnb
              have d0 := (qq _).trans c0
              have d1 := (qq _).trans c1
              have d2 := (qq _).trans c2
              have d3 := (qq _).trans c3
              have d4 := (qq _).trans c4
              have HQM := toHid (List.mem_of_getElem? hq)
              have HST := toHid (long_step (f := fitP) hq lg)
              clear hc c0 c1 c2 c3 c4 hq qq
              subst ha
              have kQ : Below wr.heap.size wr (wr.alloc (.cells #[.string q.name, .int .i64 q.k, .int .i64 q.n, .string q.s, .slice q.a q.l q.c] 63)) := (Below.refl _ _).alloc (Nat.le_refl _) _
              have HBQ := toHid (alloc_new wr (.cells #[.string q.name, .int .i64 q.k, .int .i64 q.n, .string q.s, .slice q.a q.l q.c] 63))
              have HKQ := toHid (below2 hbq kQ)
              go_upto_region 15 with fail
              generalize wr.alloc (.cells #[.string q.name, .int .i64 q.k, .int .i64 q.n, .string q.s, .slice q.a q.l q.c] 63) = WQ at kQ HBQ HKQ ⊢
              clear d0 d1 d2 d3 d4
              have t0 := cell_of HBQ.out 0
              have t1 := cell_of HBQ.out 1
              have t2 := cell_of HBQ.out 2
              have t3 := cell_of HBQ.out 3
              have t4 := cell_of HBQ.out 4
              simp at t0 t1 t2 t3 t4
              cases lh with
              | true =>
                go_wp2_with fail
                go_roundg (pl - (m + 1))
                case measure => omega
                case rel => exact ⟨m + 1, true, by omega, by omega, by go_num, rfl, HKQ.out, by rw [HST.out, ← HLH.out]; rfl⟩
              | false =>
                by_cases hsz : 12 < q.name.size
                · have hsz' : (12 : Int) < q.name.size := by omega
                  go_wp2_with fail
                  go_roundg (pl - (m + 1))
                  case measure => omega
                  case rel => exact ⟨m + 1, true, by omega, by omega, by go_num, rfl, HKQ.out, by rw [HST.out, ← HLH.out, show fitP q = false by simp [fitP]; omega]; rfl⟩
                · have hsz' : ¬ (12 : Int) < q.name.size := by omega
                  have HCC := toHid (right_chk (HQQ.out q HQM.out) WQ HKQ.out)
                  have HFQ : Hid (fitP q = (q.e == 0)) := by
                    show _ = _
                    rw [fitP, decide_eq_true (by omega), Bool.true_and]
                  generalize (q.e == 0) = z at HCC HFQ
                  go_wp2_with fail
                  refine HCC.out.mono ?_
                  rintro e w2 ⟨rfl, k2⟩
                  have HK2 := toHid (below2 HKQ.out k2)
                  clear k2 HCC t0 t1 t2 t3 t4
                  go_wp2_with fail
                  go_roundg (pl - (m + 1))
                  case measure => omega
                  case rel => exact ⟨m + 1, !z, by omega, by omega, by go_num, rfl, HK2.out, by rw [HST.out, ← HLH.out, HFQ.out]; rfl⟩
            · have hml : ¬ (m : Int) < pl := by omega
              have HFIN : Hid (fitO ⟨pk, pid, pfrm, pdst, pr, labs, la, ll, lc, props, pa, pl, pc⟩ = !lh) := by
                show _ = _
                rw [HFO.out, HLH.out, List.take_of_length_le (by have := HPL.out; omega), HL2.out, HL0.out]
                cases decide (pr.name.size ≤ 12) <;> cases decide (labs.length ≤ 4) <;> cases decide (props.length ≤ 6) <;> cases (pr.e == 0) <;> cases labs.all fitS <;> cases props.all fitP <;> rfl
              cases lh with
              | true =>
                have H3 := toHid (show R = 6 by rw [HR1.out, all_no HY.out HFIN.out]; rfl)
                go_wp2_with fail
                go_ret
                exact ⟨ret_int (by rw [H3.out]), hbq⟩
              | false =>
                go_wp2_with fail
                go_roundg (n - (i + 1))
                case measure => omega
                case rel => exact ⟨i + 1, by omega, by omega, by go_num, hbq, all_step HY.out HAL.out HFIN.out⟩
end Go.Proofs.YtldpionmmplncaaDoor
