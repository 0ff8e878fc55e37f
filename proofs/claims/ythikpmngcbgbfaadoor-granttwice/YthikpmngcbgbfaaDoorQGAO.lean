/-
  What is proved here: what the texts GtSight, GtPart0 prove, in one text.
-/
import Derived.Test.YthikpmngcbgbfaaDoorQGAN
import Derived.Test.YthikpmngcbgbfaaDoorQGAI
import Derived.Test.YthikpmngcbgbfaaDoorQGAM
namespace Go.Proofs.YthikpmngcbgbfaaDoor
open Go.RowKit
set_option linter.unusedVariables false

set_option linter.unusedSimpArgs false

theorem idxF_find {α : Type} (s : α → Bool) : ∀ (Y : List α) (i : Nat), (∃ (k : Nat) (g : α), idxF s i Y = ((i + k : Nat) : Int) ∧ Y[k]? = some g ∧ Y.find? s = some g) ∨ (idxF s i Y = -1 ∧ Y.find? s = none)
  | [], i => .inr ⟨rfl, rfl⟩
  | y :: ys, i => by
    unfold idxF
    by_cases h : s y = true
    · exact .inl ⟨0, y, by rw [if_pos h]; rfl, rfl, by simp [h]⟩
    · rw [if_neg h]
      rcases idxF_find s ys (i + 1) with ⟨k, g, h1, h2, h3⟩ | ⟨h1, h2⟩
      · exact .inl ⟨k + 1, g, by rw [h1]; congr 1; omega, by simpa using h2, by simp [h, h3]⟩
      · exact .inr ⟨h1, by simp [h, h2]⟩

/-- What is wrong ahead of what is seen. -/
def sgE (L : List Gt) (who : ByteArray) (e2 : Int) : Int := if gtsE L ≠ 0 then gtsE L else if e2 ≠ 0 then e2 else if (L.find? (toW who)).isNone then 12 else 0

/-- What sightOf hands out. -/
def SgEnd (w' : World) (L : List Gt) (who : ByteArray) (a : Option Addr) (l c : Nat) (er : Int) (e : Ending) : Prop :=
  (er ≠ 0 ∧ e = .returned (.tuple #[.nilFunc, .int .i64 er])) ∨
  (er = 0 ∧ ∃ (i p q : Nat) (g : Gt), L[i]? = some g ∧ L.find? (toW who) = some g ∧ e = .returned (.tuple #[.func (.func 38) #[] #[.pointer (some ⟨p, 0, none⟩), .pointer (some ⟨q, 0, none⟩)], .int .i64 0]) ∧ SightAt w' L a l c i p q)

theorem box_new {w : World} {z : Int} {t : TypeId} : (w.alloc (.cells #[.int .i64 z] t)).cell? ⟨w.heap.size, 0, none⟩ = some (.int .i64 z) := cell_of (alloc_new w _) 0

theorem int_cut {wc u : World} {b : Nat} {z : Int} {t : TypeId} (hb : wc.heap.size ≤ b) (k : Below wc.heap.size wc u) (hp : u.heap[b]? = some (.cells #[.int .i64 0] t (0, 0))) :
    ∃ q, Value.pointer (some ⟨b, 0, none⟩) = .pointer (some ⟨q, 0, none⟩) ∧ (u.setCell ⟨b, 0, none⟩ (.int .i64 z)).cell? ⟨q, 0, none⟩ = some (.int .i64 z) ∧ q < (u.setCell ⟨b, 0, none⟩ (.int .i64 z)).heap.size ∧ Below wc.heap.size wc (u.setCell ⟨b, 0, none⟩ (.int .i64 z)) :=
  ⟨b, rfl, cell_of (set_here hp 0 _) 0, by have := lt_block hp; simpa [World.setCell] using this, k.setCell hb _⟩

theorem int_cut2 {wc u : World} {z : Int} {t : TypeId} (k : Below wc.heap.size wc u) :
    ∃ q, Value.pointer (some ⟨u.heap.size, 0, none⟩) = .pointer (some ⟨q, 0, none⟩) ∧ (u.alloc (.cells #[.int .i64 z] t)).cell? ⟨q, 0, none⟩ = some (.int .i64 z) ∧ q < (u.alloc (.cells #[.int .i64 z] t)).heap.size ∧ Below wc.heap.size wc (u.alloc (.cells #[.int .i64 z] t)) :=
  ⟨u.heap.size, rfl, box_new, by simp, k.alloc k.size _⟩

set_option maxHeartbeats 8000000 in
set_option maxRecDepth 100000 in
theorem sightOf_any (L : List Gt) (a : Option Addr) (l c : Nat) (who : ByteArray) (na : Option Addr) (nl nc : Nat) (ea : Option Addr) (el ec : Nat) (nx e2 : Int) (w : World) (hL : GtsOk w L a l) (hlc : l ≤ c)
    (hC : ∀ W, Below w.heap.size w W → Calls Tryd.prog 35 #[.agg #[.slice na nl nc, .slice ea el ec, .int .i64 nx]] W fun e w' => e = .returned (.int .i64 e2) ∧ Below W.heap.size W w') :
    Calls Tryd.prog 18 #[.slice a l c, .string who, .agg #[.slice na nl nc, .slice ea el ec, .int .i64 nx]] w fun e w' => SgEnd w' L who a l c (sgE L who e2) e ∧ Below w.heap.size w w' := by
  obtain ⟨er, her⟩ : ∃ er, er = sgE L who e2 := ⟨_, rfl⟩
  rw [← her]
  obtain ⟨e1, he1⟩ : ∃ e1, e1 = gtsE L := ⟨_, rfl⟩
  obtain ⟨e3, he3⟩ : ∃ e3, e3 = if e1 = 0 then e2 else e1 := ⟨_, rfl⟩
  have HE3 := toHid he3
  have HER : Hid (er = if e3 ≠ 0 then e3 else if (L.find? (toW who)).isNone then 12 else 0) := by
    rw [her, sgE, ← he1, he3]
    by_cases h1 : e1 = 0
    · rw [if_neg (by simp [h1]), if_pos h1]; exact toHid rfl
    · rw [if_pos h1, if_neg h1, if_pos h1]; exact toHid rfl
  have HC2 := toHid hC
  have HC1 : Hid (∀ W, Below w.heap.size w W → Calls Tryd.prog 9 #[.slice a l c] W fun e w' => e = .returned (.int .i64 e1) ∧ Below W.heap.size W w') := fun W k => by
    rw [he1]
    exact checkGt_any L a l c W (hL.below k) hlc
  have HF : Hid (∀ W q, Below w.heap.size w W → W.cell? ⟨q, 0, none⟩ = some (.string who) → q < W.heap.size → Calls Tryd.prog 36 #[.slice a l c, .func (.func 58) #[] #[.pointer (some ⟨q, 0, none⟩)]] W fun e w' => e = .returned (.int .i64 (idxF (toW who) 0 L)) ∧ Below W.heap.size W w') := fun W q k h1 h2 => find_gts L a l c who q W (hL.1.below k) h1 h2
  have HI := toHid (idxF_find (toW who) L 0)
  clear hC hL her he1 he3
  have b0 : Below w.heap.size w ((w.alloc (.cells #[.slice a l c] 22)).alloc (.cells #[.slice na nl nc, .slice ea el ec, .int .i64 nx] 26)) := ((Below.refl _ _).alloc (Nat.le_refl _) _).alloc (by simp) _
  have z0 : ((w.alloc (.cells #[.slice a l c] 22)).alloc (.cells #[.slice na nl nc, .slice ea el ec, .int .i64 nx] 26)).heap.size = w.heap.size + 2 := by simp
  have hx := (Below.heap_alloc (w.alloc (.cells #[.slice a l c] 22)) (.cells #[.slice na nl nc, .slice ea el ec, .int .i64 nx] 26) w.heap.size (by simp)).trans (alloc_new w (.cells #[.slice a l c] 22))
  have hy := alloc_two w (.cells #[.slice a l c] 22) (.cells #[.slice na nl nc, .slice ea el ec, .int .i64 nx] 26)
  have HB := toHid b0
  have HZ := toHid z0
  have HX := toHid hx
  have HY := toHid hy
  clear b0 z0 hx hy
  go_enter Tryd.func18, Tryd.ntmps18
  go_upto_region 1 with fail
  generalize (w.alloc (.cells #[.slice a l c] 22)).alloc (.cells #[.slice na nl nc, .slice ea el ec, .int .i64 nx] 26) = W at HB HZ HX HY ⊢
  have HS : Hid (∀ W' : World, Below W.heap.size W W' → W'.cell? ⟨w.heap.size, 0, none⟩ = some (.slice a l c) ∧ W'.cell? ⟨w.heap.size + 1, 0, none⟩ = some (.slice na nl nc) ∧ W'.cell? ⟨w.heap.size + 1, 1, none⟩ = some (.slice ea el ec) ∧ W'.cell? ⟨w.heap.size + 1, 2, none⟩ = some (.int .i64 nx)) := by
    intro W' k
    have q : ∀ o, W'.cell? ⟨w.heap.size, o, none⟩ = _ := fun o => (k.cell (p := ⟨w.heap.size, o, none⟩) (by rw [HZ.out]; show w.heap.size < _; omega)).trans (cell_of HX.out o)
    have q' : ∀ o, W'.cell? ⟨w.heap.size + 1, o, none⟩ = _ := fun o => (k.cell (p := ⟨w.heap.size + 1, o, none⟩) (by rw [HZ.out]; show w.heap.size + 1 < _; omega)).trans (cell_of HY.out o)
    exact ⟨q 0, q' 0, q' 1, q' 2⟩
  have D0 : Below W.heap.size W W.drew := (Below.refl _ _).drew
  obtain ⟨x0, x1, x2, x3⟩ := HS.out W (Below.refl _ _)
  go_cut [8] (fun s8 wx => s8 = .int .i64 e3 ∧ Below W.heap.size W wx)
  case first =>
    go_region_held3 (fun w' => w'.cell? ⟨w.heap.size, 0, none⟩ = some (.slice a l c) ∧ w'.cell? ⟨w.heap.size + 1, 0, none⟩ = some (.slice na nl nc) ∧ w'.cell? ⟨w.heap.size + 1, 1, none⟩ = some (.slice ea el ec) ∧ w'.cell? ⟨w.heap.size + 1, 2, none⟩ = some (.int .i64 nx))
      (first
        | exact S3
        | exact S2
        | exact S1
        | exact ⟨x0, x1, x2, x3⟩
        | go_keep)
      (first
        | (go_at_call 34; refine (or_two e1 e2 e3 HE3.out u2.heap.size (u2.alloc (.cells #[.int .i64 e1, .int .i64 e2] 27)) (cell_of (alloc_new u2 _) 0) (cell_of (alloc_new u2 _) 1)).mono ?_; rintro e u4 ⟨rfl, rfl⟩)
        | (go_at_call 35; refine (HC2.out _ (HB.out.trans (k1.mono HB.out.size))).mono ?_; rintro e u2 ⟨rfl, h2⟩; have k2 : Below W.heap.size W u2 := k1.trans (h2.mono k1.size); have S2 := HS.out u2 k2; have k3 : Below W.heap.size W (u2.alloc (.cells #[.int .i64 e1, .int .i64 e2] 27)) := k2.alloc k2.size _; have S3 := HS.out _ k3)
        | (go_at_call 9; refine (HC1.out _ (HB.out.trans (D0.mono HB.out.size))).mono ?_; rintro e u1 ⟨rfl, h1⟩; have k1 : Below W.heap.size W u1 := D0.trans h1; have S1 := HS.out u1 k1))
    all_goals
      go_wp2_with fail
      go_meet
      exact ⟨rfl, k3⟩
  case rest =>
    obtain ⟨rfl, kc⟩ := hcut
    have HKC := toHid kc
    have HBC := toHid (HB.out.trans (kc.mono HB.out.size))
    have HSC := toHid (HS.out wc kc)
    have hsc : w.heap.size + 2 ≤ wc.heap.size := by have := kc.size; rw [HZ.out] at this; exact this
    clear x0 x1 x2 x3 kc D0 HC1 HC2 HS
    by_cases h3 : e3 = 0
    · subst h3
      have H5 : Hid (er = if (L.find? (toW who)).isNone then 12 else 0) := by rw [HER.out, if_neg (by simp)]; exact toHid rfl
      clear HER HE3
      obtain ⟨x0, _, _, _⟩ := HSC.out
      have HS : Hid (∀ W' : World, Below wc.heap.size wc W' → W'.cell? ⟨w.heap.size, 0, none⟩ = some (.slice a l c)) := fun W' k => (k.cell (p := ⟨w.heap.size, 0, none⟩) (by show w.heap.size < _; omega)).trans HSC.out.1
      obtain ⟨z, hz⟩ : ∃ z, z = idxF (toW who) 0 L := ⟨_, rfl⟩
      rw [← hz] at HF HI
      have HIT := toHid (fun W => isTo_any who W)
      clear hz HSC
      go_upto_region 4 with fail
      have D0 : Below wc.heap.size wc wc.drew := (Below.refl _ _).drew
      go_cut [9] (fun s9 wx => ∃ q, s9 = .pointer (some ⟨q, 0, none⟩) ∧ wx.cell? ⟨q, 0, none⟩ = some (.int .i64 z) ∧ q < wx.heap.size ∧ Below wc.heap.size wc wx)
      case first =>
        go_region_held3 (fun w' => w'.cell? ⟨w.heap.size, 0, none⟩ = some (.slice a l c))
          (first
            | exact x0
            | exact HS.out _ D0
            | exact HS.out _ k1
            | exact HS.out _ k2
            | exact HS.out _ (D0.alloc (Nat.le_refl _) _)
            | exact HS.out _ (k1.alloc k1.size _)
            | exact HS.out _ (k2.alloc k2.size _)
            | exact HS.out _ (k2.setCell (Nat.le_refl _) _)
            | exact HS.out _ (k2.setCell k1.size _)
            | go_keep)
          (first
            | (go_at_call 36; refine (HF.out _ q1 (HBC.out.trans ((by first | exact k1 | exact k1.alloc k1.size _ : Below wc.heap.size wc _).mono HBC.out.size)) (by first | exact hq1 | exact (((Below.refl _ _).alloc (Nat.le_refl _) _).cell (p := ⟨q1, 0, none⟩) hq2).trans hq1) (by first | exact hq2 | (simp; omega))).mono ?_; rintro e u2 ⟨rfl, h2⟩; have k2 : Below wc.heap.size wc u2 := (by first | exact k1.trans (h2.mono k1.size) | exact (k1.alloc k1.size _).trans (h2.mono (k1.alloc k1.size _).size)); first | (have hpB := (h2.block u1.heap.size (by simp)).trans (alloc_new u1 _); have p0 := cell_of hpB 0; have f0 := free_of hpB 0; simp at p0) | (have hpC := (h2.block wc.heap.size (lt_block hp1)).trans hp1; have p0 := cell_of hpC 0; have f0 := free_of hpC 0; simp at p0) | skip)
            | (go_at_call 37; refine (HIT.out _).mono ?_; rintro e u1 ⟨⟨q1, rfl, hq1, hq2⟩, h1⟩; have k1 : Below wc.heap.size wc u1 := (by first | exact D0.trans h1 | exact (D0.alloc (Nat.le_refl _) _).trans (h1.mono (D0.alloc (Nat.le_refl _) _).size)); try (have hp1 := (h1.block wc.heap.size (by simp)).trans (alloc_new wc.drew _))))
        all_goals
          go_wp2_with fail
          go_meet
          first
            | exact int_cut2 k2
            | exact int_cut (Nat.le_refl _) k2 hpC
            | exact int_cut k1.size k2 hpB
      case rest =>
        obtain ⟨q, rfl, hq1, hq2, kd⟩ := hcut
        have HKD := toHid kd
        have HOUT := toHid (HBC.out.trans (kd.mono HBC.out.size))
        have x0 := HS.out _ kd
        have hwl : w.heap.size < wc.heap.size := by have := kd.size; omega
        clear HF HIT HBC HS kd D0
        rcases HI.out with ⟨k, g, hk, hg, hf⟩ | ⟨hk, hf⟩
        · have hk2 : z = (k : Int) := by rw [hk, Nat.zero_add]
          clear hk HI
          subst hk2
          have hz0 : ¬ ((k : Int) < 0) := by omega
          have H6 : Hid (er = 0) := by rw [H5.out, hf]; exact toHid rfl
          have HQ : Hid (SightAt wc L a l c k w.heap.size q) := ⟨x0, hq1, hwl, hq2⟩
          have HG : Hid (L[k]? = some g ∧ L.find? (toW who) = some g) := ⟨hg, hf⟩
          clear hg hf H5 HKD
          go_wp2_with fail
          exact bodyPost_ret (v := .tuple #[.func (.func 38) #[] #[.pointer (some ⟨w.heap.size, 0, none⟩), .pointer (some ⟨q, 0, none⟩)], .int .i64 0]) (by simp [results, Tryd.results18, go_sem]) rfl ⟨.inr ⟨H6.out, k, w.heap.size, q, g, HG.out.1, HG.out.2, rfl, HQ.out⟩, HOUT.out⟩
        · clear HI
          subst hk
          have H6 : Hid (er = 12) := by rw [H5.out, hf]; exact toHid rfl
          clear hf H5 HKD
          go_wp2_with fail
          exact bodyPost_ret (v := .tuple #[.nilFunc, .int .i64 12]) (by simp [results, Tryd.results18, go_sem]) rfl ⟨.inl ⟨by rw [H6.out]; decide, by rw [H6.out]⟩, HOUT.out⟩
    · have h3' : (e3 != 0) = true := by simp [h3]
      have H5 : Hid (er = e3) := by rw [HER.out, if_pos h3]; exact toHid rfl
      clear HER HE3
      go_wp2_with fail
      refine bodyPost_ret (v := .tuple #[.nilFunc, .int .i64 e3]) (by simp [results, Tryd.results18, go_sem]) rfl ⟨.inl ⟨by rw [H5.out]; exact h3, by rw [H5.out]⟩, HBC.out⟩

set_option linter.unusedSimpArgs false

def hasD (N : List Nd) (i : Int) : Bool := N.any fun x => x.id == i
/-- The edges between those. -/
def partE (N : List Nd) (E : List Ed) : List Ed := E.filter fun x => hasD N x.frm && hasD N x.dst

/-- A part of a graph: shares the memory of what it holds. -/
def PartEnd (w w' : World) (N : List Nd) (E : List Ed) (nx : Int) (e : Ending) : Prop :=
  ∃ na nc ea ec, e = .returned (.agg #[.slice na N.length nc, .slice ea E.length ec, .int .i64 nx]) ∧ w'.ownsRow w.heap.size 51 3 (.slice na N.length nc) N.length (rowN N) ∧ w'.ownsRow w.heap.size 71 5 (.slice ea E.length ec) E.length (rowX E)

/-- A row of one's own of nodes, or edges, that lie in older memory. -/
theorem ns_of {w w' : World} {B l c : Nat} {a : Option Addr} {N : List Nd} {X : List AN} (h : w'.ownsRow B 51 3 (.slice a l c) N.length (rowN N)) (hp : Pair2 (NdIn w) N X) (k : Below w.heap.size w w') : NsAt w' X a l :=
  ⟨N, row_nodes h, hp.mono fun p x _ _ h => h.below k⟩

theorem es_of {w w' : World} {B l c : Nat} {a : Option Addr} {E : List Ed} {X : List AE} (h : w'.ownsRow B 71 5 (.slice a l c) E.length (rowX E)) (hp : Pair2 (EdIn w) E X) (k : Below w.heap.size w w') : EsAt w' X a l :=
  ⟨E, row_edges h fun p hp' => by
    obtain ⟨i, hi⟩ := List.getElem?_of_mem hp'
    obtain ⟨x, _, hx⟩ := hp.left hi
    exact hx.2.2.2.2.1, hp.mono fun p x _ _ h => h.below k⟩

theorem hasD_iff {N : List Nd} {i : Int} : hasD N i = true ↔ i ∈ N.map Nd.id := by
  unfold hasD
  rw [List.any_eq_true, List.mem_map]
  exact ⟨fun ⟨x, h1, h2⟩ => ⟨x, h1, by simpa using h2⟩, fun ⟨x, h1, h2⟩ => ⟨x, h1, by simpa using h2⟩⟩

theorem filter_next {α : Type} {f : α → Bool} {N : List α} {i : Nat} {x : α} (h : N[i]? = some x) : (N.take (i + 1)).filter f = if f x = true then (N.take i).filter f ++ [x] else (N.take i).filter f := by
  rw [List.take_add_one, h, List.filter_append]
  by_cases hf : f x = true
  · simp [hf]
  · simp [hf]

theorem filter_len {α : Type} {f : α → Bool} {N : List α} {i : Nat} : ((N.take i).filter f).length ≤ i :=
  Nat.le_trans (List.length_filter_le _ _) (by rw [List.length_take]; omega)

theorem own_ge {w : World} {B n size : Nat} {e : TypeId} {v : Value} {xs : List Value} (h : w.ownsRow B e size v n xs) {g : Nat} (hg : v.ownBlock = some g) : B ≤ g := by
  rcases h.2 with ⟨h0, _⟩ | ⟨g', cap, cur, h0, h1, _⟩
  · rw [h0] at hg; cases hg
  · rw [h0] at hg
    have : g' = g := by simpa [Value.ownBlock] using hg
    subst this
    exact h1

theorem own_lt {w : World} {B n size : Nat} {e : TypeId} {v : Value} {xs : List Value} (h : w.ownsRow B e size v n xs) {g : Nat} (hg : v.ownBlock = some g) : g < w.heap.size := row_lt h hg

theorem own_mono {w : World} {B B' n size : Nat} {e : TypeId} {v : Value} {xs : List Value} (h : w.ownsRow B e size v n xs) (hB : B' ≤ B) : w.ownsRow B' e size v n xs :=
  ⟨h.1, h.2.elim .inl (fun ⟨g, cap, cur, e1, e2, e3⟩ => .inr ⟨g, cap, cur, e1, Nat.le_trans hB e2, e3⟩)⟩

theorem bk_newP {w : World} {p : Nat} {o : Obj} (h : p = w.heap.size) : (w.alloc o).heap[p]? = some o := by
  subst h
  exact alloc_new w o

theorem bk_alP {w : World} {p : Nat} {o o' : Obj} (h : w.heap[p]? = some o) : (w.alloc o').heap[p]? = some o := (Below.heap_alloc _ _ _ (lt_block h)).trans h

set_option maxHeartbeats 2000000 in
theorem isNodeG_any (N : List Nd) (na : Option Addr) (nl nc : Nat) (ea : Option Addr) (el ec : Nat) (nx id : Int) (w : World) (h : NodesAt w N na nl) (h60 : nl ≤ 60) (hr : Rise (N.map Nd.id)) :
    Calls Tryd.prog 29 #[.agg #[.slice na nl nc, .slice ea el ec, .int .i64 nx], .int .i64 id] w fun e w' => e = .returned (.bool (hasD N id)) ∧ Below w.heap.size w w' := by
  have b0 : Below w.heap.size w (w.alloc (.cells #[.slice na nl nc, .slice ea el ec, .int .i64 nx] 26)) := (Below.refl _ _).alloc (Nat.le_refl _) _
  have HC := toHid (node_find N na nl nc id _ (h.below b0) h60 hr)
  have HB0 := toHid b0
  clear h hr b0
  go_enter Tryd.func29, Tryd.ntmps29
  go_wp2_with fail
  refine HC.out.mono ?_
  rintro e w1 ⟨⟨i, f, rfl, h1, h2⟩, k1⟩
  have HF : Hid (hasD N id = f) := by
    show _ = _
    cases f with
    | true => exact hasD_iff.2 (List.mem_of_getElem? (h1 rfl))
    | false =>
      have h3 := h2 rfl
      cases hd : hasD N id with
      | true => exact absurd (hasD_iff.1 hd) h3
      | false => rfl
  clear h1 h2
  go_wp2_with fail
  go_ret
  exact ⟨ret_bool HF.out.symm, HB0.out.trans (k1.mono HB0.out.size)⟩

def hasDE (E : List Ed) (i : Int) : Bool := E.any fun x => x.id == i

theorem hasDE_iff {E : List Ed} {i : Int} : hasDE E i = true ↔ i ∈ E.map Ed.id := by
  unfold hasDE
  rw [List.any_eq_true, List.mem_map]
  exact ⟨fun ⟨x, h1, h2⟩ => ⟨x, h1, by simpa using h2⟩, fun ⟨x, h1, h2⟩ => ⟨x, h1, by simpa using h2⟩⟩

set_option maxHeartbeats 2000000 in
theorem isEdgeG_any (E : List Ed) (na : Option Addr) (nl nc : Nat) (ea : Option Addr) (el ec : Nat) (nx id : Int) (w : World) (h : EdgesAt w E ea el) (h60 : el ≤ 60) (hr : Rise (E.map Ed.id)) :
    Calls Tryd.prog 30 #[.agg #[.slice na nl nc, .slice ea el ec, .int .i64 nx], .int .i64 id] w fun e w' => e = .returned (.bool (hasDE E id)) ∧ Below w.heap.size w w' := by
  have b0 : Below w.heap.size w (w.alloc (.cells #[.slice na nl nc, .slice ea el ec, .int .i64 nx] 26)) := (Below.refl _ _).alloc (Nat.le_refl _) _
  have HC := toHid (edge_find E ea el ec id _ (h.below b0) h60 hr)
  have HB0 := toHid b0
  clear h hr b0
  go_enter Tryd.func30, Tryd.ntmps30
  go_wp2_with fail
  refine HC.out.mono ?_
  rintro e w1 ⟨⟨i, f, rfl, h1, h2⟩, k1⟩
  have HF : Hid (hasDE E id = f) := by
    show _ = _
    cases f with
    | true => exact hasDE_iff.2 (List.mem_of_getElem? (h1 rfl))
    | false =>
      have h3 := h2 rfl
      cases hd : hasDE E id with
      | true => exact absurd (hasDE_iff.1 hd) h3
      | false => rfl
  clear h1 h2
  go_wp2_with fail
  go_ret
  exact ⟨ret_bool HF.out.symm, HB0.out.trans (k1.mono HB0.out.size)⟩
end Go.Proofs.YthikpmngcbgbfaaDoor
