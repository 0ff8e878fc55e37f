/-
  What is proved here: what the texts GuSumP, GuLawS, GuArgS prove, in one text.
-/
import Derived.Test.YtmjeanpjiogkiaaDoorQTAT
import Derived.Test.YtmjeanpjiogkiaaDoorQTAU
namespace Go.Proofs.YtmjeanpjiogkiaaDoor
open Go.RowKit
set_option linter.unusedVariables false

set_option linter.unusedSimpArgs false

theorem cnt_flat_snoc (XS : List (List Cn)) (Y : List Cn) (r : List T) : cnt (XS ++ [Y]).flatten r = cnt XS.flatten r + cnt Y r := by
  rw [List.flatten_append, List.flatten_cons, List.flatten_nil, List.append_nil, cnt_append]

/-- What is kept of what waits. -/
structure SumOk (f : Bool) (XS : List (List Cn)) (H A : List Cn) : Prop where
  ne : ∀ X ∈ XS, X.length ≠ 0
  few : sumL XS ≤ 40
  anew : f = true → XS = []
  all : f = false → ∀ r, cnt H r + cnt XS.flatten r = cnt A r

theorem SumOk.tell {f : Bool} {XS : List (List Cn)} {H A A' Y : List Cn} (h : SumOk f XS H A) (hA : ∀ r, cnt A' r = cnt A r + cnt Y r) : SumOk (tellF f XS Y).1 (tellF f XS Y).2 H A' := by
  unfold tellF
  by_cases h1 : f = true ∨ Y.length = 0
  · rw [if_pos h1]
    refine ⟨h.ne, h.few, h.anew, fun hf r => ?_⟩
    rw [hA, ← h.all hf r]
    rcases h1 with h1 | h1
    · rw [h1] at hf
      cases hf
    · have : Y = [] := List.length_eq_zero_iff.1 h1
      subst this
      show cnt H r + cnt XS.flatten r = cnt H r + cnt XS.flatten r + (0 : Int)
      omega
  · rw [if_neg h1]
    by_cases h2 : 40 < sumL XS + Y.length
    · rw [if_pos h2]
      exact ⟨fun X hX => (by cases hX), by simp [sumL], fun _ => rfl, fun hf => (by cases hf)⟩
    · rw [if_neg h2]
      refine ⟨fun X hX => ?_, ?_, fun hf => absurd (.inl hf) h1, fun hf r => ?_⟩
      · rcases List.mem_append.1 hX with hX | hX
        · exact h.ne X hX
        · rw [List.mem_singleton] at hX
          subst hX
          exact fun e => h1 (.inr e)
      · show sumL (XS ++ [Y]) ≤ _
        rw [sumL_append]
        simp only [sumL]
        omega
      · show cnt H r + cnt (XS ++ [Y]).flatten r = _
        rw [cnt_flat_snoc, hA, ← h.all hf r]
        omega

/-- He that took all has all. -/
theorem SumOk.took (A : List Cn) : SumOk false [] A A := ⟨fun X hX => (by cases hX), by simp [sumL], fun _ => rfl, fun _ r => by show _ + (0 : Int) = _; omega⟩

theorem cnt_mem : ∀ (Ls : List Cn) (r : List T), cnt Ls r ≠ 0 → ∃ c ∈ Ls, c.1 = r
  | [], r, h => absurd rfl h
  | c :: Ls, r, h => by
    by_cases h1 : ordL c.1 r = 0
    · exact ⟨c, List.mem_cons_self .., ordL_eq _ _ h1⟩
    · have h2 : cnt (c :: Ls) r = cnt Ls r := by
        show (if ordL c.1 r = 0 then c.2 else 0) + cnt Ls r = _
        rw [if_neg h1]
        omega
      rw [h2] at h
      obtain ⟨d, hd, e⟩ := cnt_mem Ls r h
      exact ⟨d, List.mem_cons_of_mem _ hd, e⟩

theorem cnt_own : ∀ (Z : List Cn), IsBag Z → ∀ c ∈ Z, cnt Z c.1 = c.2
  | [], _, c, h => by cases h
  | z :: Z, hb, c, h => by
    show (if ordL z.1 c.1 = 0 then z.2 else 0) + cnt Z c.1 = c.2
    rcases List.mem_cons.1 h with rfl | h
    · rw [if_pos (ordL_self _), hb.head (by rw [ordL_self]; omega)]
      omega
    · have h1 := (List.pairwise_cons.1 hb.rises).1 c h
      rw [if_neg (by omega), cnt_own Z hb.tail c h]
      omega

theorem sub_len : ∀ (Z Ls : List Cn), (Z.Pairwise fun x y => ordL x.1 y.1 < 0) → (∀ c ∈ Z, ∃ d ∈ Ls, d.1 = c.1) → Z.length ≤ Ls.length
  | [], Ls, _, _ => Nat.zero_le _
  | z :: Z, Ls, hp, hm => by
    obtain ⟨d, hd, e⟩ := hm z (List.mem_cons_self ..)
    obtain ⟨s, t, rfl⟩ := List.append_of_mem hd
    obtain ⟨h1, h2⟩ := List.pairwise_cons.1 hp
    have h3 := sub_len Z (s ++ t) h2 fun c hc => by
      obtain ⟨x, hx, ex⟩ := hm c (List.mem_cons_of_mem _ hc)
      refine ⟨x, ?_, ex⟩
      have hne : x ≠ d := fun e2 => by
        have h4 := h1 c hc
        rw [← e, ← e2, ex, ordL_self] at h4
        omega
      rcases List.mem_append.1 hx with hx | hx
      · exact List.mem_append_left _ hx
      · rcases List.mem_cons.1 hx with hx | hx
        · exact absurd hx hne
        · exact List.mem_append_right _ hx
    rw [List.length_append] at h3
    rw [List.length_cons, List.length_append, List.length_cons]
    omega

theorem cntX_range : ∀ (X : List Cn) (p : Option (List T)), (∀ q, p = some q → ∀ c ∈ X, ordL q c.1 < 0) → (X.Pairwise fun x y => ordL x.1 y.1 < 0) → (∀ c ∈ X, c.2 ≠ 0) → (∀ c ∈ X, RightR c.1) → cntX p X = 0 ∨ cntX p X = 9
  | [], _, _, _, _, _ => .inl rfl
  | c :: X, p, hp, hr, hz, hw => by
    have h1 := rowTE_right (hw c (List.mem_cons_self ..))
    have h2 := hz c (List.mem_cons_self ..)
    obtain ⟨h4, h5⟩ := List.pairwise_cons.1 hr
    have ih := cntX_range X (some c.1) (fun q hq x hx => by injection hq with hq; rw [← hq]; exact h4 x hx) h5 (fun x hx => hz x (List.mem_cons_of_mem _ hx)) (fun x hx => hw x (List.mem_cons_of_mem _ hx))
    have h7 : (c.2 == 0) = false := by simp [h2]
    have hb : (c.2 == 0 || (match p with | none => false | some q => decide (0 ≤ ordL q c.1))) = false := by
      cases p with
      | none => rw [h7]; rfl
      | some q =>
        have h8 := hp q rfl c (List.mem_cons_self ..)
        have h9 : decide (0 ≤ ordL q c.1) = false := by
          simp only [decide_eq_false_iff_not]
          omega
        rw [h7]
        show (false || decide (0 ≤ ordL q c.1)) = false
        rw [h9]
        rfl
    cases p with
    | none =>
      unfold cntX
      rw [if_neg (by rw [h1]; simp), h7, if_neg (by simp)]
      by_cases h : 1099511627776 < c.2 ∨ c.2 < -1099511627776
      · rw [if_pos h]
        exact .inr rfl
      · rw [if_neg h]
        exact ih
    | some q =>
      have h8 := hp q rfl c (List.mem_cons_self ..)
      have h9 : decide (0 ≤ ordL q c.1) = false := by
        simp only [decide_eq_false_iff_not]
        omega
      unfold cntX
      rw [if_neg (by rw [h1]; simp), h7]
      show (if (false || decide (0 ≤ ordL q c.1)) = true then 6 else _) = (0 : Int) ∨ (if (false || decide (0 ≤ ordL q c.1)) = true then 6 else _) = (9 : Int)
      rw [h9, if_neg (by simp)]
      by_cases h : 1099511627776 < c.2 ∨ c.2 < -1099511627776
      · rw [if_pos h]
        exact .inr rfl
      · rw [if_neg h]
        exact ih

/-- Of a sum of a few right bags it can only be told that a number is too great. -/
theorem bagX_sum {Z Ls : List Cn} (hz : IsBag Z) (hc : ∀ r, cnt Z r = cnt Ls r) (hr : ∀ c ∈ Ls, RightR c.1) (hl : Ls.length ≤ 2000) : bagX Z = 0 ∨ bagX Z = 9 := by
  have hm : ∀ c ∈ Z, ∃ d ∈ Ls, d.1 = c.1 := fun c h => cnt_mem Ls c.1 (by rw [← hc, cnt_own Z hz c h]; exact hz.nz c h)
  have h1 := sub_len Z Ls hz.rises hm
  unfold bagX
  rw [if_neg (by omega)]
  exact cntX_range Z none (fun q hq => by cases hq) hz.rises hz.nz fun c h => by
    obtain ⟨d, hd, e⟩ := hm c h
    rw [← e]
    exact hr d hd

theorem flat_right {XS : List (List Cn)} (h : ∀ X ∈ XS, Fit X) : ∀ c ∈ XS.flatten, RightR c.1 := fun c hc => by
  obtain ⟨X, hX, hcX⟩ := List.mem_flatten.1 hc
  exact (h X hX).rows c hcX

theorem GQ.fit {w : World} {XS : List (List Cn)} {a : Option Addr} {l : Nat} (h : GQ w XS a l) : ∀ X ∈ XS, Fit X := fun X hX => by
  obtain ⟨Q, h1, h2, h3⟩ := h
  rw [← h1] at hX
  obtain ⟨q, hq, rfl⟩ := List.mem_map.1 hX
  exact ((h2.bags q hq).right (h3 q hq)).1

/-- bag.Add of a right bag and of one whose check is known. -/
theorem add_sum (B : Nat) (X Y : List Cn) (zy : Int) (a a' : Option Addr) (l c l' c' : Nat) (w : World) (hB : B ≤ w.heap.size) (hT : Tabs B w) (hX : RB w X a l) (hY : BagZ w a' l' c' zy Y) :
    Calls Tryd.prog 16 #[.slice a l c, .slice a' l' c', .int .i64 1] w fun e w' => (∃ xa xl xc ze, e = .returned (.tuple #[.slice xa xl xc, .int .i64 ze]) ∧ (ze = 0 → zy = 0 ∧ ToldA (fun i => w.heap.size ≤ i) w' (fun r => cnt X r + cnt Y r) xa xl 0) ∧ (zy = 0 → ToldA (fun i => w.heap.size ≤ i) w' (fun r => cnt X r + cnt Y r) xa xl ze)) ∧ Below w.heap.size w w' := by
  have hXZ := hX.bagZ c
  refine (add_tal B X Y 1 0 zy zy a a' l c l' c' w hB hT (by decide) (by simp) hXZ.prog hY.prog (fun _ => hX) hY.right).mono ?_
  rintro e w' ⟨h, kb⟩
  refine ⟨?_, kb⟩
  rcases h with ⟨h1, rfl⟩ | ⟨h1, B1, hB1, hend⟩
  · exact ⟨none, 0, 0, zy, rfl, fun h => absurd h h1, fun h => absurd h h1⟩
  · obtain ⟨sa, sl, sc, ze, rfl, Z, z1, z2, z3⟩ := tal_toldA (Nat.le_trans hB kb.size) (hT.below (kb.mono hB)) hend
    have hk : Keep (fun i => B1 ≤ i) (fun i => w.heap.size ≤ i) w' w' := ⟨Nat.le_refl _, fun i hi _ => ⟨Nat.le_trans hB1 hi, rfl⟩⟩
    have ht : ToldA (fun i => w.heap.size ≤ i) w' (fun r => cnt X r + cnt Y r) sa sl ze := ⟨Z, z1, fun r => by show _ = cnt X r + cnt Y r; rw [z2, cnt_append, cnt_mul]; omega, z3.imp (fun g => ⟨g.1, g.2.1, g.2.2.kept hk⟩) id⟩
    exact ⟨sa, sl, sc, ze, rfl, fun h => ⟨h1, h ▸ ht⟩, fun _ => ht⟩

/-- The sum that is known to be right. -/
theorem ToldA.known {A : Nat → Prop} {w : World} {f : List T → Int} {sa : Option Addr} {sl : Nat} {ze : Int} (h : ToldA A w f sa sl ze) {S : List Cn} (hS : Fit S) (hs : ∀ r, cnt S r = f r) : ze = 0 ∧ RBA A w S sa sl := by
  obtain ⟨Z, z1, z2, z3⟩ := h
  have hZ : Z = S := bag_ext _ _ z1 hS.bag fun r => by rw [z2, hs]
  subst hZ
  rcases z3 with ⟨_, h1, h2⟩ | ⟨h1, _⟩
  · exact ⟨h1, h2⟩
  · exact absurd (bagX_fit hS) h1

theorem ToldA.right {A : Nat → Prop} {w : World} {f : List T → Int} {sa : Option Addr} {sl : Nat} (h : ToldA A w f sa sl 0) : ∃ S, (∀ r, cnt S r = f r) ∧ RBA A w S sa sl := by
  obtain ⟨Z, z1, z2, z3⟩ := h
  rcases z3 with ⟨_, _, h2⟩ | ⟨h1, h2, _⟩
  · exact ⟨Z, z2, h2⟩
  · exact absurd h2.symm h1

set_option linter.unusedSimpArgs false

/-- A row of bags that may be read, however long. -/
def QAtL (w : World) (Q : List Qd) (a : Option Addr) (l : Nat) : Prop := l = Q.length ∧ l ≤ 9223372036854775807 ∧ (0 < l → ∃ b off, a = some ⟨b, off, none⟩ ∧ b < w.heap.size ∧ ∀ (i : Nat) (q : Qd), Q[i]? = some q → w.cell? ⟨b, off + i, none⟩ = some (.slice q.a q.l q.c))

/-- A row of truths. -/
def BoAt (w : World) (L : List Bool) (a : Option Addr) (l : Nat) : Prop := l = L.length ∧ l ≤ 9223372036854775807 ∧ (0 < l → ∃ b off, a = some ⟨b, off, none⟩ ∧ b < w.heap.size ∧ ∀ (i : Nat) (x : Bool), L[i]? = some x → w.cell? ⟨b, off + i, none⟩ = some (.bool x))

/-- What is kept from one difference to the next. -/
def SumSt (bu : Nat) (w wr : World) (i : Nat) (ha : Option Addr) (hl : Nat) (aa : Option Addr) (al : Nat) : Prop := ∃ (f : Bool) (XS : List (List Cn)) (H A : List Cn) (ua : Option Addr) (ul uc : Nat) (t : Int), wr.heap[bu]? = some (gObj 0 ua ul uc f t) ∧ QB (fun k => k ≠ bu) wr XS ua ul ∧ RBA (fun k => k ≠ bu) wr H ha hl ∧ RBA (fun k => k ≠ bu) wr A aa al ∧ SumOk f XS H A ∧ 0 ≤ t ∧ t ≤ (i : Int) ∧ Below w.heap.size w wr

set_option maxHeartbeats 16000000 in
set_option maxRecDepth 100000 in
theorem law_sums (Q : List Qd) (a : Option Addr) (l c : Nat) (L : List Bool) (ta : Option Addr) (tl tc : Nat) (w : World) (hT : Tabs w.heap.size w) (hQ : QAtL w Q a l) (hlc : l ≤ c) (hz : ∀ q ∈ Q, BagZ w q.a q.l q.c q.z q.X) (hL : BoAt w L ta tl) :
    Calls Tryd.prog 5 #[.slice a l c, .slice ta tl tc] w fun e w' => e = .returned (.bool true) ∧ Below w.heap.size w w' := by
  obtain ⟨m, hm⟩ : ∃ m, m = if 12 < l then 12 else l := ⟨_, rfl⟩
  have hml : m ≤ l := by rw [hm]; split <;> omega
  have hm12 : m ≤ 12 := by rw [hm]; split <;> omega
  have hmx : l ≤ 9223372036854775807 := hQ.2.1
  have hmt : tl ≤ 9223372036854775807 := hL.2.1
  have HM := toHid hm
  have HTB := toHid hT
  have HQ := toHid hQ
  have HZ := toHid hz
  have HL := toHid hL
  have HLC := toHid hlc
  clear hm hT hQ hz hL hlc
  go_enter Tryd.func5, Tryd.ntmps5
  go_upto_if 17 with fail
  go_cut [0] (fun s0 wx => ∃ cc, s0 = .slice a m cc ∧ wx = w)
  case first =>
    by_cases h12 : 12 < l
    · have h12i : (12 : Int) < (l : Int) := by omega
      have hm0 : m = 12 := by rw [HM.out, if_pos h12]
      have h12c : 12 ≤ c := by have := HLC.out; omega
      have h12ci : (12 : Int) ≤ (c : Int) := by omega
      subst hm0
      go_wp2_with fail
      go_meet
      exact ⟨_, rfl, rfl⟩
    · have h12i : ¬ ((12 : Int) < (l : Int)) := by omega
      have hm0 : m = l := by rw [HM.out, if_neg h12]
      subst hm0
      go_wp2_with fail
      go_meet
      exact ⟨_, rfl, rfl⟩
  case rest =>
    obtain ⟨cc, rfl, rfl⟩ := hcut
    clear HM HLC
    go_upto_region 4 with fail
    have a0 : Below wc.heap.size wc (wc.alloc gZ) := (Below.refl _ _).alloc (Nat.le_refl _) _
    have h0 := alloc_new wc gZ
    have HB0 := toHid a0
    have HS0 : Hid (SumSt wc.heap.size wc (wc.alloc gZ) 0 none 0 none 0) := ⟨false, [], [], [], none, 0, 0, 0, h0, QB.nil _ _, ⟨[], rfl, fit_nil, ⟨rfl, fun h => absurd h (Nat.lt_irrefl _)⟩, fun x hx => (by cases hx)⟩, ⟨[], rfl, fit_nil, ⟨rfl, fun h => absurd h (Nat.lt_irrefl _)⟩, fun x hx => (by cases hx)⟩, SumOk.took [], by decide, by decide, a0⟩
    obtain ⟨bu, hbu⟩ : ∃ bu, bu = wc.heap.size := ⟨_, rfl⟩
    have HBU := toHid hbu
    rw [← hbu] at HS0 ⊢
    generalize wc.alloc gZ = W0 at HB0 HS0 ⊢
    clear a0 h0 hbu
    go_wp2_with fail
    go_loopg [6, 7, 23] m (fun g s6 s7 s23 wr => ∃ (i : Nat) (ha : Option Addr) (hl hc : Nat) (aa : Option Addr) (al ac : Nat), i ≤ m ∧ m - i ≤ g ∧ s6 = .slice ha hl hc ∧ s7 = .slice aa al ac ∧ s23 = .int .i64 i ∧ SumSt bu wc wr i ha hl aa al)
    case atStart => exact ⟨0, none, 0, 0, none, 0, 0, Nat.zero_le _, by omega, rfl, rfl, rfl, HS0.out⟩
    case round =>
      clear HS0 HB0
      obtain ⟨i, ha, hl, hc, aa, al, ac, hi, hg, rfl, rfl, rfl, f, XS, H, A, ua, ul, uc, t, hbx, hqx, hrh, hra, hso, ht0, hti, hbw⟩ := hrel
      have HBX := toHid hbx
      have HQX := toHid hqx
      have HRH := toHid hrh
      have HRA := toHid hra
      have HSO := toHid hso
      have HT0 := toHid ht0
      have HTI := toHid hti
      have HBW := toHid hbw
      clear hbx hqx hrh hra hso ht0 hti hbw
      have hbuw : wc.heap.size ≤ bu := by have := HBU.out; omega
      by_cases hlt : i < m
      · have hil : (i : Int) < (m : Int) := by omega
        have hil12 : (i : Int) < 12 := by omega
        obtain ⟨b, off, rfl, hbb, hcc⟩ := HQ.out.2.2 (by omega)
        obtain ⟨q, hq, _⟩ := drop_get (L := Q) (i := i) (by have := HQ.out.1; omega)
        have d0 := (HBW.out.cell (p := ⟨b, off + i, none⟩) hbb).trans (hcc i q hq)
        have HZQ := toHid (HZ.out q (List.mem_of_getElem? hq))
        have hblr : b < wr.heap.size := Nat.lt_of_lt_of_le hbb HBW.out.size
        have hbul : bu < wr.heap.size := blkB_lt HBX.out
        have HADD := toHid (add_sum wc.heap.size A q.X q.z aa q.a al ac q.l q.c wr HBW.out.size (HTB.out.below HBW.out) (HRA.out.rb HBW.out.size (HTB.out.below HBW.out)) (HZQ.out.below HBW.out))
        obtain ⟨qa, ql, qc, qz, qX⟩ := q
        clear hcc hq
        go_wp2_with fail
        refine HADD.out.mono ?_
        rintro e w1 ⟨⟨xa, xl, xc, ze, rfl, h1, h2⟩, k1⟩
        have HA1 := toHid h1
        have HB1 := toHid (HBW.out.trans (k1.mono HBW.out.size))
        have HK1 := toHid k1
        clear h1 h2 k1 d0 HADD hblr
        by_cases hze : ze = 0
        case neg =>
          have hzn : (ze != 0) = true := by simp [hze]
          have HST : Hid (SumSt bu wc w1 (i + 1) ha hl aa al) := ⟨f, XS, H, A, ua, ul, uc, t, (HK1.out.block bu hbul).trans HBX.out, HQX.out.kept (Keep.of_below HK1.out _), HRH.out.kept (Keep.of_below HK1.out _), HRA.out.kept (Keep.of_below HK1.out _), HSO.out, HT0.out, by have := HTI.out; omega, HB1.out⟩
          clear hze
          go_wp2_with fail
          go_roundg (m - (i + 1))
          case measure => omega
          case rel => exact ⟨i + 1, ha, hl, hc, aa, al, ac, by omega, Nat.le_refl _, rfl, rfl, by go_num, HST.out⟩
        subst hze
        obtain ⟨hqz, htold⟩ := HA1.out rfl
        obtain ⟨A1, hA1, hrA1⟩ := htold.right
        have hqz : qz = 0 := hqz
        subst hqz
        have HCN : Hid (∀ r, cnt A1 r = cnt A r + cnt qX r) := hA1
        have HRA1 := toHid hrA1
        have HY1 : Hid (RB w1 qX qa ql) := (HZQ.out.right rfl).below HB1.out
        have HBX1 := toHid ((HK1.out.block bu hbul).trans HBX.out)
        have HSO1 : Hid (SumOk (tellF f XS qX).1 (tellF f XS qX).2 H A1) := HSO.out.tell HCN.out
        obtain ⟨Q5, q1, q2, q3⟩ := (QB.gq HB1.out.size (HTB.out.below HB1.out) (HQX.out.kept (Keep.of_below HK1.out _)) (by have := HSO.out.few; omega)).guE HSO.out.ne HSO.out.few 0 t (by decide) HT0.out f HSO.out.anew
        have htl := tell_any wc.heap.size 0 Q5 ua ul uc f t qX 0 0 qa ql qc w1 HB1.out.size (HTB.out.below HB1.out) q2 (HY1.out.bagZ qc) (by rw [q3]; rfl)
        rw [q1] at htl
        have HTL := toHid htl
        have hb01 : bu < w1.heap.size := blkB_lt HBX1.out
        have x0 := cell_of HBX1.out 0
        have x1 := cell_of HBX1.out 1
        have x2 := cell_of HBX1.out 2
        have x3 := cell_of HBX1.out 3
        simp at x0 x1 x2 x3
        have HBUW : Hid (bu < wr.heap.size) := hbul
        clear hA1 hrA1 htold q1 q2 q3 htl HA1 HBX HZQ hbul
        go_wp2_with fail
        refine HTL.out.mono ?_
        rintro e w2 ⟨hend, k2⟩
        rcases hend with ⟨h0, _⟩ | ⟨_, a', l', c', rfl, hq⟩
        · exact absurd rfl h0
        have HQ2 := toHid hq
        have HB2 := toHid (HB1.out.trans (k2.mono HB1.out.size))
        have HK2 := toHid k2
        generalize (tellF f XS qX).1 = f' at HSO1 ⊢
        generalize (tellF f XS qX).2 = XS' at HSO1 HQ2
        clear hq k2 HTL x0 x1 x2 x3
        go_upto_region 13 with fail
        have a3 : Below w2.heap.size w2 (w2.alloc (gObj 0 a' l' c' f' t)) := (Below.refl _ _).alloc (Nat.le_refl _) _
        have h3 := alloc_new w2 (gObj 0 a' l' c' f' t)
        have HB3 := toHid (HB2.out.trans (a3.mono HB2.out.size))
        have HBX3 := toHid ((a3.block bu (Nat.lt_of_lt_of_le hb01 HK2.out.size)).trans ((HK2.out.block bu hb01).trans HBX1.out))
        have HK23 := toHid a3
        have HV3 := toHid h3
        have HS23 : Hid (w1.heap.size ≤ w2.heap.size) := HK2.out.size
        obtain ⟨bv, hbv⟩ : ∃ bv, bv = w2.heap.size := ⟨_, rfl⟩
        have HBV := toHid hbv
        rw [← hbv] at HV3 ⊢
        generalize w2.alloc (gObj 0 a' l' c' f' t) = W3 at HB3 HBX3 HK23 HV3 ⊢
        have hbuv : bu < bv := by have := HS23.out; omega
        have HK13 : Hid (Below w1.heap.size w1 W3) := HK2.out.trans (HK23.out.mono HK2.out.size)
        have HA3 : Hid (RBA (fun k => k ≠ bu ∧ k ≠ bv) W3 A1 xa xl) := HRA1.out.kept ⟨HK13.out.size, fun j hj hjl => ⟨⟨by have h5 : wr.heap.size ≤ j := hj; have := HBUW.out; omega, by have := HS23.out; omega⟩, HK13.out.block j hjl⟩⟩
        have HH3 : Hid (RBA (fun k => k ≠ bu ∧ k ≠ bv) W3 H ha hl) := HRH.out.kept ⟨Nat.le_trans HK1.out.size HK13.out.size, fun j hj hjl => ⟨⟨hj, by have := HS23.out; have := HK1.out.size; omega⟩, (HK13.out.block j (Nat.lt_of_lt_of_le hjl HK1.out.size)).trans (HK1.out.block j hjl)⟩⟩
        have HQ3 : Hid (QB (fun k => k ≠ bu ∧ k ≠ bv) W3 XS' a' l') := HQ2.out.kept ⟨HK23.out.size, fun j hj hjl => ⟨⟨by have h5 : w1.heap.size ≤ j := hj; omega, by omega⟩, HK23.out.block j hjl⟩⟩
        have y0 := cell_of HV3.out 0
        have y1 := cell_of HV3.out 1
        have y2 := cell_of HV3.out 2
        have y3 := cell_of HV3.out 3
        simp at y0 y1 y2 y3
        have x0 := cell_of HBX3.out 0
        have x1 := cell_of HBX3.out 1
        have x2 := cell_of HBX3.out 2
        have x3 := cell_of HBX3.out 3
        simp at x0 x1 x2 x3
        have f0 := free_of HBX3.out 0
        have f1 := free_of HBX3.out 1
        have f2 := free_of HBX3.out 2
        have f3 := free_of HBX3.out 3
        have hlx := blkB_lt HBX3.out
        have hly := blkB_lt HV3.out
        obtain ⟨X, hX⟩ : ∃ X, X = (((W3.setCell ⟨bu, 0, none⟩ (.int .i64 0)).setCell ⟨bu, 1, none⟩ (.slice a' l' c')).setCell ⟨bu, 2, none⟩ (.bool f')).setCell ⟨bu, 3, none⟩ (.int .i64 t) := ⟨_, rfl⟩
        have hXp : X = putL W3 bu 0 [.int .i64 0, .slice a' l' c', .bool f', .int .i64 t] := hX
        have hvX : X.drew.heap[bu]? = some (gObj 0 a' l' c' f' t) := by show X.heap[bu]? = _; rw [hXp, putL_here _ _ _ _ HBX3.out]; rfl
        have hrX : X.drew.heap[bv]? = some (gObj 0 a' l' c' f' t) := by show X.heap[bv]? = _; rw [hXp, putL_other _ _ _ _ _ (by omega)]; exact HV3.out
        have hKX : Keep (fun k => k ≠ bu ∧ k ≠ bv) (fun k => k ≠ bu ∧ k ≠ bv) W3 X.drew := ⟨by show _ ≤ X.heap.size; rw [hXp, putL_size]; exact Nat.le_refl _, fun j hj _ => ⟨hj, by show X.heap[j]? = _; rw [hXp]; exact putL_other _ _ _ _ j hj.1⟩⟩
        have hcX : Below wc.heap.size wc X.drew := by
          have h5 : Below wc.heap.size wc X := by rw [hXp]; exact HB3.out.trans ((putL_bel _ _ _ _).mono hbuw)
          exact h5.drew
        have hXs := hX.symm
        have HVX := toHid hvX
        have HRX := toHid hrX
        have HCX := toHid hcX
        have HA4 := toHid (HA3.out.kept hKX)
        have HH4 := toHid (HH3.out.kept hKX)
        have HQ4 := toHid (HQ3.out.kept hKX)
        clear hX hXp hvX hrX hcX hKX a3 h3 hbv HQ2 HRA1 HRH HRA HQX HK1 HK2 HK23 HK13 HA3 HH3 HQ3 HY1 HBX1
        go_region
        all_goals
          generalize X.drew = X4 at HVX HRX HCX HA4 HH4 HQ4 ⊢
          clear x0 x1 x2 x3 y0 y1 y2 y3 f0 f1 f2 f3 hlx hly hXs
          have HST : Hid (SumSt bu wc X4 (i + 1) ha hl xa xl) := ⟨f', XS', H, A1, a', l', c', t, HVX.out, HQ4.out.kept (Keep.weak _ fun j hj _ => hj.1), HH4.out.kept (Keep.weak _ fun j hj _ => hj.1), HA4.out.kept (Keep.weak _ fun j hj _ => hj.1), HSO1.out, HT0.out, by have := HTI.out; omega, HCX.out⟩
          by_cases htl : tl ≤ i
          case pos =>
            have htli : (tl : Int) ≤ (i : Int) := by omega
            go_wp2_with fail
            go_roundg (m - (i + 1))
            case measure => omega
            case rel => exact ⟨i + 1, ha, hl, hc, xa, xl, xc, by omega, Nat.le_refl _, rfl, rfl, by go_num, HST.out⟩
          have htli : ¬ ((tl : Int) ≤ (i : Int)) := by omega
          have htlt : (i : Int) < (tl : Int) := by omega
          obtain ⟨tb, tof, rfl, htb, htc⟩ := HL.out.2.2 (by omega)
          obtain ⟨tk, htk, _⟩ := drop_get (L := L) (i := i) (by have := HL.out.1; omega)
          have t0 := (HCX.out.cell (p := ⟨tb, tof + i, none⟩) htb).trans (htc i tk htk)
          have htbl : tb < X4.heap.size := Nat.lt_of_lt_of_le htb HCX.out.size
          clear htc htk
          cases tk with
          | false =>
            go_wp2_with fail
            go_roundg (m - (i + 1))
            case measure => omega
            case rel => exact ⟨i + 1, ha, hl, hc, xa, xl, xc, by omega, Nat.le_refl _, rfl, rfl, by go_num, HST.out⟩
          | true =>
            obtain ⟨Q6, q1, q2, q3⟩ := (QB.gq HCX.out.size (HTB.out.below HCX.out) HQ4.out (by have := HSO1.out.few; omega)).guE HSO1.out.ne HSO1.out.few 0 t (by decide) HT0.out f' HSO1.out.anew
            have hft := (QB.gq HCX.out.size (HTB.out.below HCX.out) HQ4.out (by have := HSO1.out.few; omega)).fit
            have HFT := toHid hft
            have hra4 := HA4.out.rb HCX.out.size (HTB.out.below HCX.out)
            have HFA : Hid (Fit A1) := hra4.1
            have htk := take_any wc.heap.size 0 Q6 a' l' c' f' t A1 0 0 (i : Int) xa xl xc X4 HCX.out.size (HTB.out.below HCX.out) q2 (hra4.bagZ xc) (by rw [q3]; rfl)
            rw [q1] at htk
            have HTK := toHid htk
            have x0 := cell_of HVX.out 0
            have x1 := cell_of HVX.out 1
            have x2 := cell_of HVX.out 2
            have x3 := cell_of HVX.out 3
            simp at x0 x1 x2 x3
            have hlx := blkB_lt HVX.out
            have hly := blkB_lt HRX.out
            clear q1 q2 q3 htk hft hra4 HST
            go_wp2_with fail
            refine HTK.out.mono ?_
            rintro e w5 ⟨⟨v', t', sa, sl, sc, fr, ze2, rfl, h1, h2, h3⟩, k5⟩
            have HB5 := toHid (HCX.out.trans (k5.mono HCX.out.size))
            have HU5 := toHid ((k5.block bu hlx).trans HVX.out)
            have HV5 := toHid ((k5.block bv hly).trans HRX.out)
            have HA5 := toHid (HA4.out.kept (Keep.of_below k5 _))
            have HH5 := toHid (HH4.out.kept (Keep.of_below k5 _))
            have HNEW : Hid (Keep (fun k => X4.heap.size ≤ k) (fun k => k ≠ bu ∧ k ≠ bv) w5 w5) := Keep.weak _ fun j hj _ => ⟨by have h5 : X4.heap.size ≤ j := hj; omega, by have h5 : X4.heap.size ≤ j := hj; omega⟩
            have hcase : (f' = true ∧ ze2 = 0 ∧ RBA (fun k => k ≠ bu ∧ k ≠ bv) w5 A1 sa sl) ∨ (f' = false ∧ ToldA (fun k => k ≠ bu ∧ k ≠ bv) w5 (cnt XS'.flatten) sa sl ze2) := by
              rcases h1 with ⟨h, _⟩ | ⟨_, h, _⟩ | ⟨_, _, h, h4, h5⟩ | ⟨_, _, h, h4⟩
              · exact absurd rfl h
              · have := HTI.out; omega
              · exact .inl ⟨h, h4, h5.kept HNEW.out⟩
              · exact .inr ⟨h, h4.kept HNEW.out⟩
            have HCASE := toHid hcase
            have H2 := toHid h2
            have H3 := toHid h3
            clear h1 h2 h3 hcase k5 x0 x1 x2 x3 hlx hly HTK HA4 HH4 HQ4 HVX HRX t0 htbl
            have y0 := cell_of HV5.out 0
            have y1 := cell_of HV5.out 1
            have y2 := cell_of HV5.out 2
            have y3 := cell_of HV5.out 3
            simp at y0 y1 y2 y3
            have f0 := free_of HV5.out 0
            have f1 := free_of HV5.out 1
            have f2 := free_of HV5.out 2
            have f3 := free_of HV5.out 3
            have hlv := blkB_lt HV5.out
            obtain ⟨X5, hX5⟩ : ∃ X5, X5 = (((w5.setCell ⟨bv, 0, none⟩ (.int .i64 v')).setCell ⟨bv, 1, none⟩ (.slice none 0 0)).setCell ⟨bv, 2, none⟩ (.bool false)).setCell ⟨bv, 3, none⟩ (.int .i64 t') := ⟨_, rfl⟩
            have hX5p : X5 = putL w5 bv 0 [.int .i64 v', .slice none 0 0, .bool false, .int .i64 t'] := hX5
            have hv5 : X5.heap[bv]? = some (gObj v' none 0 0 false t') := by rw [hX5p, putL_here _ _ _ _ HV5.out]; rfl
            have hu5 : X5.heap[bu]? = some (gObj 0 a' l' c' f' t) := by rw [hX5p, putL_other _ _ _ _ _ (by omega)]; exact HU5.out
            have hK5 : Keep (fun k => k ≠ bu ∧ k ≠ bv) (fun k => k ≠ bu ∧ k ≠ bv) w5 X5 := ⟨by rw [hX5p, putL_size]; exact Nat.le_refl _, fun j hj _ => ⟨hj, by rw [hX5p]; exact putL_other _ _ _ _ j hj.2⟩⟩
            have HC5 : Hid (Below wc.heap.size wc X5) := by
              show Below _ _ _
              rw [hX5p]
              exact HB5.out.trans ((putL_bel _ _ _ _).mono (by omega))
            have hX5s := hX5.symm
            have HK5 := toHid hK5
            have HVV := toHid hv5
            have HUU := toHid hu5
            clear hX5 hX5p hK5
            by_cases hz2 : ze2 = 0
            case neg =>
              have hzn : (ze2 != 0) = true := by simp [hz2]
              have h9 : ze2 = 9 := by
                rcases HCASE.out with ⟨_, h, _⟩ | ⟨_, Z, z1, z2, z3⟩
                · exact absurd h hz2
                · rcases z3 with ⟨_, h, _⟩ | ⟨h4, h5, _⟩
                  · exact absurd h hz2
                  · rcases bagX_sum z1 z2 (flat_right HFT.out) (by rw [sumL_flat]; have := HSO1.out.few; omega) with h | h
                    · exact absurd h h4
                    · rw [h5, h]
              subst h9
              clear hz2 hv5 hu5
              go_wp2_with fail
              go_ret
              exact ⟨rfl, HC5.out⟩
            subst hz2
            obtain ⟨rfl, rfl, rfl⟩ := H3.out rfl
            have z0 := cell_of hv5 0
            have z1 := cell_of hv5 1
            have z2 := cell_of hv5 2
            have z3 := cell_of hv5 3
            simp at z0 z1 z2 z3
            have p0 := cell_of hu5 0
            have p1 := cell_of hu5 1
            have p2 := cell_of hu5 2
            have p3 := cell_of hu5 3
            simp at p0 p1 p2 p3
            have g0 := free_of hu5 0
            have g1 := free_of hu5 1
            have g2 := free_of hu5 2
            have g3 := free_of hu5 3
            have hlz := blkB_lt hv5
            have hlu := blkB_lt hu5
            obtain ⟨X6, hX6⟩ : ∃ X6, X6 = (((X5.setCell ⟨bu, 0, none⟩ (.int .i64 0)).setCell ⟨bu, 1, none⟩ (.slice none 0 0)).setCell ⟨bu, 2, none⟩ (.bool false)).setCell ⟨bu, 3, none⟩ (.int .i64 i) := ⟨_, rfl⟩
            have hX6p : X6 = putL X5 bu 0 [.int .i64 0, .slice none 0 0, .bool false, .int .i64 i] := hX6
            have HU6 : Hid (X6.heap[bu]? = some (gObj 0 none 0 0 false i)) := by
              show _ = _
              rw [hX6p, putL_here _ _ _ _ hu5]
              rfl
            have hK6 : Keep (fun k => k ≠ bu ∧ k ≠ bv) (fun k => k ≠ bu) w5 X6 := ⟨by rw [hX6p, putL_size]; exact HK5.out.1, fun j hj hjl => ⟨hj.1, by rw [hX6p, putL_other _ _ _ _ j hj.1]; exact (HK5.out.2 j hj hjl).2⟩⟩
            have HC6 : Hid (Below wc.heap.size wc X6) := by
              show Below _ _ _
              rw [hX6p]
              exact HC5.out.trans ((putL_bel _ _ _ _).mono hbuw)
            have hX6s := hX6.symm
            have HA6 := toHid (HA5.out.kept hK6)
            have HH6 := toHid (HH5.out.kept hK6)
            have HCA6 : Hid ((fr = true ∧ RBA (fun k => k ≠ bu) X6 A1 sa sl) ∨ (fr = false ∧ ∃ S, (∀ r, cnt S r = cnt XS'.flatten r) ∧ RBA (fun k => k ≠ bu) X6 S sa sl)) := by
              rcases HCASE.out with ⟨h, _, h4⟩ | ⟨h, h4⟩
              · exact .inl ⟨h, h4.kept hK6⟩
              · obtain ⟨S, s1, s2⟩ := h4.right
                exact .inr ⟨h, S, s1, s2.kept hK6⟩
            clear hX6 hX6p hK6 hv5 hu5 HCASE HK5 HA5 HH5 HNEW HVV HUU HV5 HU5 H2 H3
            cases fr with
            | true =>
              have hrs : RBA (fun k => k ≠ bu) X6 A1 sa sl := HCA6.out.elim (fun h => h.2) fun h => (by cases h.1)
              have hrs2 := hrs.rb HC6.out.size (HTB.out.below HC6.out)
              have HAD := toHid (add_sum wc.heap.size [] A1 0 none sa 0 0 sl sc X6 HC6.out.size (HTB.out.below HC6.out) (rb_nil HC6.out.size (HTB.out.below HC6.out)) (hrs2.bagZ sc))
              clear hrs hrs2 HCA6
              go_wp2_with fail
              refine HAD.out.mono ?_
              rintro e w7 ⟨⟨ya, yl, yc, ze3, rfl, _, h5⟩, k7⟩
              have HB7 := toHid (HC6.out.trans (k7.mono HC6.out.size))
              obtain ⟨hz3, hr7⟩ := (h5 trivial).known HFA.out (fun r => by show _ = (0 : Int) + cnt A1 r; omega)
              subst hz3
              have HR7 : Hid (RBA (fun k => k ≠ bu) w7 A1 ya yl) := hr7.kept (Keep.weak _ fun j hj _ => by have h6 : X6.heap.size ≤ j := hj; have := blkB_lt HU6.out; omega)
              have HA7 := toHid (HA6.out.kept (Keep.of_below k7 _))
              have HU7 := toHid ((k7.block bu (blkB_lt HU6.out)).trans HU6.out)
              have HSB := toHid (same_rb (c := yc) (c' := xc) (HR7.out.rb HB7.out.size (HTB.out.below HB7.out)) (HA7.out.rb HB7.out.size (HTB.out.below HB7.out)))
              clear h5 hr7 k7 HAD z0 z1 z2 z3 p0 p1 p2 p3 g0 g1 g2 g3 hlz hlu y0 y1 y2 y3 f0 f1 f2 f3 hlv hX6s hX5s
              go_wp2_with fail
              refine HSB.out.mono ?_
              rintro e w8 ⟨rfl, k8⟩
              have HST : Hid (SumSt bu wc w8 (i + 1) ya yl xa xl) := ⟨false, [], A1, A1, none, 0, 0, i, (k8.block bu (blkB_lt HU7.out)).trans HU7.out, QB.nil _ _, HR7.out.kept (Keep.of_below k8 _), HA7.out.kept (Keep.of_below k8 _), SumOk.took A1, by omega, by omega, HB7.out.trans (k8.mono HB7.out.size)⟩
              clear k8 HSB
              go_wp2_with fail
              go_roundg (m - (i + 1))
              case measure => omega
              case rel => exact ⟨i + 1, ya, yl, yc, xa, xl, xc, by omega, Nat.le_refl _, rfl, rfl, by go_num, HST.out⟩
            | false =>
              have hex : ∃ S, (∀ r, cnt S r = cnt XS'.flatten r) ∧ RBA (fun k => k ≠ bu) X6 S sa sl := HCA6.out.elim (fun h => (by cases h.1)) fun h => h.2
              obtain ⟨S, s1, s2⟩ := hex
              have HS1 := toHid s1
              have hrs2 := s2.rb HC6.out.size (HTB.out.below HC6.out)
              have HAD := toHid (add_sum wc.heap.size H S 0 ha sa hl hc sl sc X6 HC6.out.size (HTB.out.below HC6.out) (HH6.out.rb HC6.out.size (HTB.out.below HC6.out)) (hrs2.bagZ sc))
              clear s1 s2 hrs2 HCA6
              go_wp2_with fail
              refine HAD.out.mono ?_
              rintro e w7 ⟨⟨ya, yl, yc, ze3, rfl, _, h5⟩, k7⟩
              have HB7 := toHid (HC6.out.trans (k7.mono HC6.out.size))
              obtain ⟨hz3, hr7⟩ := (h5 trivial).known HFA.out (fun r => by show _ = cnt H r + cnt S r; rw [HS1.out r]; exact (HSO1.out.all rfl r).symm)
              subst hz3
              have HR7 : Hid (RBA (fun k => k ≠ bu) w7 A1 ya yl) := hr7.kept (Keep.weak _ fun j hj _ => by have h6 : X6.heap.size ≤ j := hj; have := blkB_lt HU6.out; omega)
              have HA7 := toHid (HA6.out.kept (Keep.of_below k7 _))
              have HU7 := toHid ((k7.block bu (blkB_lt HU6.out)).trans HU6.out)
              have HSB := toHid (same_rb (c := yc) (c' := xc) (HR7.out.rb HB7.out.size (HTB.out.below HB7.out)) (HA7.out.rb HB7.out.size (HTB.out.below HB7.out)))
              clear h5 hr7 k7 HAD z0 z1 z2 z3 p0 p1 p2 p3 g0 g1 g2 g3 hlz hlu y0 y1 y2 y3 f0 f1 f2 f3 hlv hX6s hX5s
              go_wp2_with fail
              refine HSB.out.mono ?_
              rintro e w8 ⟨rfl, k8⟩
              have HST : Hid (SumSt bu wc w8 (i + 1) ya yl xa xl) := ⟨false, [], A1, A1, none, 0, 0, i, (k8.block bu (blkB_lt HU7.out)).trans HU7.out, QB.nil _ _, HR7.out.kept (Keep.of_below k8 _), HA7.out.kept (Keep.of_below k8 _), SumOk.took A1, by omega, by omega, HB7.out.trans (k8.mono HB7.out.size)⟩
              clear k8 HSB
              go_wp2_with fail
              go_roundg (m - (i + 1))
              case measure => omega
              case rel => exact ⟨i + 1, ya, yl, yc, xa, xl, xc, by omega, Nat.le_refl _, rfl, rfl, by go_num, HST.out⟩
      · have he : i = m := by omega
        subst he
        have HWT := toHid (waits_true wc.heap.size wr HBW.out.size (HTB.out.below HBW.out))
        go_wp2_with fail
        refine HWT.out.mono ?_
        rintro e w1 ⟨rfl, k1⟩
        have HB1 := toHid (HBW.out.trans (k1.mono HBW.out.size))
        clear k1
        go_wp2_with fail
        go_ret
        exact ⟨rfl, HB1.out⟩

set_option linter.unusedSimpArgs false

section
variable {H : Type} {enc : TypeId × Value → H} {w : World} {base : Nat} {spare : Nat → Bool} {held : Bool}

theorem bools_in {fuel : Nat} {a : Option Addr} {l c : Nat} {y : DataW H × List MemPlace} (h : DataW.trod enc Tryd.prog w base spare held fuel 41 [.slice a l c] = some y) : ∃ L, BoAt w L a l := by
  obtain ⟨h1, h2, h3⟩ := slice_rows Tryd.underlying41 cells1bo (by omega) h
  by_cases h0 : l = 0
  · subst h0
    exact ⟨[], rfl, by omega, fun h => absurd h (Nat.lt_irrefl _)⟩
  · obtain ⟨b, off, ha, hb, hall⟩ := h3 (by omega)
    obtain ⟨L, hl, hL⟩ := list_of (fun i (s : Bool) => w.cell? ⟨b, off + i, none⟩ = some (.bool s)) l (fun i hi => by
      obtain ⟨m, cs, z, q1, q2, q3⟩ := hall i hi
      obtain ⟨s, e2, _⟩ := DataW.trod_bool Tryd.underlying4 q3
      subst e2
      have := q2 0 _ rfl
      rw [Nat.mul_one, Nat.add_zero] at this
      exact ⟨s, this⟩)
    exact ⟨L, hl.symm, h2, fun _ => ⟨b, off, ha, hb, hL⟩⟩

theorem bags_inL (B : Nat) (hB : B ≤ w.heap.size) (hT : Tabs B w) {fuel : Nat} {a : Option Addr} {l c : Nat} {y : DataW H × List MemPlace} (h : DataW.trod enc Tryd.prog w base spare held fuel 22 [.slice a l c] = some y) :
    ∃ Q, QAtL w Q a l ∧ l ≤ c ∧ ∀ q ∈ Q, BagZ w q.a q.l q.c q.z q.X := by
  obtain ⟨h1, h2, _⟩ := slice_rows Tryd.underlying22 cells1bg (by omega) h
  obtain ⟨Q, q1, q2, q3, _⟩ := bags_in B hB hT h
  exact ⟨Q, ⟨q1, h2, q2⟩, h1, q3⟩
end
end Go.Proofs.YtmjeanpjiogkiaaDoor
